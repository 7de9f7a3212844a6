import PyProof.Rows.All
import Wide.All
import OpenK.AllK
import Wide.FinOn
import HandS.ForMost
import HandS.Wide
import HandS.Gcd
import HandS.IsInst
import HandS.RaiseMore
import HandS.ForExc
import KE.DatumOrd
import HandS.Deep
import HandS.Style
import HandS.Sort
import KE.SortData
import HandS.FStr
import HandS.ExcField
import KE.KExcSuper
import KE.KExcMake
import HandS.TryMany
import HandS.ExcOwn
import KE.DataFind
import KE.KTupSum
import HandS.Zip
import PyProof.MaxThree
import PyProof.LongRange
import KE.DataCmp
import HandS.TupLe
import KE.KExcStr
import PyProof.ExcReprCall
import PyProof.ReprUnder
import PyProof.ReprLen
import HandS.ExcValue
import HandS.ExcIs
import HandS.Dict
import HandS.HotCalls
import KE.KExcIs
import KE.KIntText
import PyProof.StrOps2
import PyProof.CallStr
import HandS.TupSets
import PySem.Challenge.RW_turnedpixels_k07_rests_by_own_reckoning
set_option Elab.async false
set_option linter.all false
set_option exponentiation.threshold 3000
set_option maxRecDepth 100000
set_option maxHeartbeats 4000000
/-! Data in place of the heap: what a value is as data, kept while the heap grows; lists that are changed stand apart. -/
namespace DL
open PySem PySem.Spec PyProof.Rows L2

/-! ### the readings that the semantics itself gives -/
def wE (X : Cx) (e : Expr) : TE := fun σ H Q => ∀ pins s, Inv X pins σ H s → wpAny (model X.prog X.w) X.A (eval e X.env) (EP X pins σ Q) X.xe s
def wT (X : Cx) (e : Expr) : TT := fun σ H Q => ∀ pins s, Inv X pins σ H s → wpAny (model X.prog X.w) X.A (isTrue e X.env (eval e X.env)) (TP X pins σ Q) X.xe s
def wW (X : Cx) (e : Expr) : TT := fun σ H Q => ∀ whole pins s, Inv X pins σ H s → wpAny (model X.prog X.w) X.A (isTrue e X.env whole) (TP X pins σ Q) X.xe s
def wA (X : Cx) (es : List Expr) : TA := fun σ H Q => ∀ pos pins s, Inv X pins σ H s → wpAny (model X.prog X.w) X.A (spliced (backTo pos (starEach es X.env))) (AP X pins σ Q) X.xe s
def wS (X : Cx) (st : Stmt) : TS := fun D σ H => ∀ pins s, Inv X pins σ H s → wpAny (model X.prog X.w) X.A (exec st X.env) (SP X pins D) X.xe s
def wSs (X : Cx) (st : List Stmt) : TS := fun D σ H => ∀ pins s, Inv X pins σ H s → wpAny (model X.prog X.w) X.A (execs st X.env) (SP X pins D) X.xe s
def wG (X : Cx) (tg : Expr) : TG := fun v σ H Q => ∀ pins s u, Inv X pins σ H s → RelV v u →
  wpAny (model X.prog X.w) X.A (assign tg X.env u) (fun _ s' => ∃ σ' H', Inv X pins σ' H' s' ∧ Q σ' H') X.xe s
section
variable {X : Cx} {e : Expr} {es : List Expr} {st : Stmt} {sts : List Stmt} {σ : L2.St} {H : Hp}
theorem peW : PE X e (wE X e) := ⟨fun pins s _ _ _ I h => h pins s I⟩
theorem ptW : PT X e (wT X e) := ⟨fun pins s _ _ _ I h => h pins s I⟩
theorem pwW : PW X e (wW X e) := ⟨fun wh pins s _ _ _ I h => h wh pins s I⟩
theorem paW : PA X es (wA X es) := ⟨fun pos pins s _ _ _ I h => h pos pins s I⟩
theorem psW : PS X st (wS X st) := ⟨fun pins s _ _ _ I h => h pins s I⟩
theorem pssW : PSs X sts (wSs X sts) := ⟨fun pins s _ _ _ I h => h pins s I⟩
theorem pgW {tg : Expr} : PG X tg (wG X tg) := ⟨fun pins s _ _ _ u _ I r h => h pins s u I r⟩
theorem wE_of {t : TE} {Q : VK} (h : PE X e t) (q : t σ H Q) : wE X e σ H Q := fun pins s I => h.run pins s σ H Q I q
theorem wT_of {t : TT} {Q : Bool → Hp → Prop} (h : PT X e t) (q : t σ H Q) : wT X e σ H Q := fun pins s I => h.run pins s σ H Q I q
theorem wW_of {t : TT} {Q : Bool → Hp → Prop} (h : PW X e t) (q : t σ H Q) : wW X e σ H Q := fun wh pins s I => h.run wh pins s σ H Q I q
theorem wA_of {t : TA} {Q : List V → Hp → Prop} (h : PA X es t) (q : t σ H Q) : wA X es σ H Q := fun pos pins s I => h.run pos pins s σ H Q I q
theorem wS_of {t : TS} {De : Ends} (h : PS X st t) (q : t De σ H) : wS X st De σ H := fun pins s I => h.run pins s σ H De I q
theorem wSs_of {t : TS} {De : Ends} (h : PSs X sts t) (q : t De σ H) : wSs X sts De σ H := fun pins s I => h.run pins s σ H De I q
theorem wG_of {tg : Expr} {t : TG} {v : V} {Q : L2.St → Hp → Prop} (h : PG X tg t) (q : t v σ H Q) : wG X tg v σ H Q := fun pins s u I r => h.run pins s σ H v u Q I r q
theorem wE_mono {Q Q' : VK} (h : wE X e σ H Q) (k : ∀ v H', Q v H' → Q' v H') : wE X e σ H Q' := fun pins s I =>
  thn (h pins s I) fun _ _ ⟨v, H', I', r, q⟩ => ⟨v, H', I', r, k v H' q⟩
theorem wT_mono {Q Q' : Bool → Hp → Prop} (h : wT X e σ H Q) (k : ∀ b H', Q b H' → Q' b H') : wT X e σ H Q' := fun pins s I =>
  thn (h pins s I) fun b _ ⟨H', I', q⟩ => ⟨H', I', k b H' q⟩
theorem wW_mono {Q Q' : Bool → Hp → Prop} (h : wW X e σ H Q) (k : ∀ b H', Q b H' → Q' b H') : wW X e σ H Q' := fun wh pins s I =>
  thn (h wh pins s I) fun b _ ⟨H', I', q⟩ => ⟨H', I', k b H' q⟩
theorem wA_mono {Q Q' : List V → Hp → Prop} (h : wA X es σ H Q) (k : ∀ v H', Q v H' → Q' v H') : wA X es σ H Q' := fun pos pins s I =>
  thn (h pos pins s I) fun _ _ ⟨v, H', I', r, q⟩ => ⟨v, H', I', r, k v H' q⟩
theorem wG_mono {tg : Expr} {v : V} {Q Q' : L2.St → Hp → Prop} (h : wG X tg v σ H Q) (k : ∀ σ' H', Q σ' H' → Q' σ' H') : wG X tg v σ H Q' := fun pins s u I r =>
  thn (h pins s u I r) fun _ _ ⟨σ', H', I', q⟩ => ⟨σ', H', I', k σ' H' q⟩
end

/-! ### data -/
inductive D where
  | non
  | bl (b : Bool)
  | int (i : Int)
  | str (x : Str)
  | tup (l : List D)
  | lst (l : List D)
  | raw (v : V)
  | ext (P : Hp → V → Prop)
  | scr (ns : List Int)

mutual
def Rp (K : PySem.W.Frag) (H : Hp) : D → V → Prop
  | .non, v => v = .non
  | .bl b, v => v = .bl b
  | .int i, v => v = .int i
  | .str x, v => v = .str x
  | .tup l, v => ∃ (a : Addr) (xs : List V), v = .ref a ∧ SqT K H a xs ∧ RpL K H l xs
  | .lst l, v => ∃ (a : Addr) (xs : List V), v = .ref a ∧ H a = some (.lst xs) ∧ RpL K H l xs
  | .raw u, v => v = u
  | .ext P, v => ∃ H0 : Hp, Same H0 H ∧ P H0 v
  | .scr ns, v => ∃ a : Addr, v = .ref a ∧ SqL K H a (ns.map V.int)
def RpL (K : PySem.W.Frag) (H : Hp) : List D → List V → Prop
  | [], vs => vs = []
  | d :: ds, vs => ∃ (x : V) (xs : List V), vs = x :: xs ∧ Rp K H d x ∧ RpL K H ds xs
end
theorem same_l {K : PySem.W.Frag} {H H' : Hp} (e : Same H H') {a : Addr} {xs : List V} (h : SqL K H a xs) : SqL K H' a xs := e.seq h
theorem same_t {K : PySem.W.Frag} {H H' : Hp} (e : Same H H') {a : Addr} {xs : List V} (h : SqT K H a xs) : SqT K H' a xs := by
  rcases h with (h | ⟨o, h⟩) | h
  · exact .inl (.inl (e _ _ h))
  · exact .inl (.inr ⟨o, e _ _ h⟩)
  · exact .inr h
mutual
theorem Rp.mono {K : PySem.W.Frag} {H H' : Hp} (e : Same H H') : ∀ (d : D) (v : V), Rp K H d v → Rp K H' d v
  | .non, _, h => h
  | .bl _, _, h => h
  | .int _, _, h => h
  | .str _, _, h => h
  | .tup l, _, h => let ⟨a, xs, e1, e2, e3⟩ := h; ⟨a, xs, e1, same_t e e2, RpL.mono e l xs e3⟩
  | .lst l, _, h => let ⟨a, xs, e1, e2, e3⟩ := h; ⟨a, xs, e1, e _ _ e2, RpL.mono e l xs e3⟩
  | .raw _, _, h => h
  | .ext _, _, h => let ⟨H0, e0, p⟩ := h; ⟨H0, e0.trans e, p⟩
  | .scr _, _, h => let ⟨a, e1, e2⟩ := h; ⟨a, e1, same_l e e2⟩
theorem RpL.mono {K : PySem.W.Frag} {H H' : Hp} (e : Same H H') : ∀ (l : List D) (vs : List V), RpL K H l vs → RpL K H' l vs
  | [], _, h => h
  | d :: ds, _, h => let ⟨x, xs, e1, e2, e3⟩ := h; ⟨x, xs, e1, Rp.mono e d x e2, RpL.mono e ds xs e3⟩
end
theorem RpL.length {K : PySem.W.Frag} {H : Hp} : ∀ {l : List D} {vs : List V}, RpL K H l vs → vs.length = l.length
  | [], _, h => by
    have h : _ = [] := h
    rw [h] <;> rfl
  | d :: ds, _, h => by
    obtain ⟨x, xs, rfl, _, h3⟩ := h
    rw [List.length_cons, List.length_cons, RpL.length h3]
theorem RpL.get {K : PySem.W.Frag} {H : Hp} : ∀ {l : List D} {vs : List V} {i : Nat} {d : D}, RpL K H l vs → l[i]? = some d → ∃ v, vs[i]? = some v ∧ Rp K H d v
  | [], _, _, _, _, e => by simp at e
  | d :: ds, _, 0, d', h, e => by
    obtain ⟨x, xs, rfl, h2, h3⟩ := h
    have e : d = d' := by simpa using e
    subst e
    exact ⟨x, rfl, h2⟩
  | d :: ds, _, i + 1, d', h, e => by
    obtain ⟨x, xs, rfl, h2, h3⟩ := h
    obtain ⟨v, e1, e2⟩ := RpL.get (i := i) h3 (by simpa using e)
    exact ⟨v, by simpa using e1, e2⟩
theorem RpL.back {K : PySem.W.Frag} {H : Hp} {l : List D} {vs : List V} {i : Nat} {v : V} (h : RpL K H l vs) (e : vs[i]? = some v) : ∃ d, l[i]? = some d ∧ Rp K H d v := by
  have hl := h.length
  have hi : i < vs.length := (List.getElem?_eq_some_iff.mp e).1
  obtain ⟨d, hd⟩ : ∃ d, l[i]? = some d := ⟨l[i]'(by omega), List.getElem?_eq_getElem (by omega)⟩
  obtain ⟨w, e1, r⟩ := h.get hd
  rw [e] at e1
  cases e1
  exact ⟨d, hd, r⟩
theorem RpL.append {K : PySem.W.Frag} {H : Hp} : ∀ {l m : List D} {vs ws : List V}, RpL K H l vs → RpL K H m ws → RpL K H (l ++ m) (vs ++ ws)
  | [], _, _, _, h, k => by
    have h : _ = [] := h
    subst h
    exact k
  | d :: ds, _, _, _, h, k => by
    obtain ⟨x, xs, rfl, h2, h3⟩ := h
    exact ⟨x, xs ++ _, rfl, h2, RpL.append h3 k⟩
theorem RpL.take {K : PySem.W.Frag} {H : Hp} : ∀ {l : List D} {vs : List V} (n : Nat), RpL K H l vs → RpL K H (l.take n) (vs.take n)
  | _, _, 0, _ => by rw [List.take_zero, List.take_zero]; rfl
  | [], _, n + 1, h => by
    have h : _ = [] := h
    subst h
    rfl
  | d :: ds, _, n + 1, h => by
    obtain ⟨x, xs, rfl, h2, h3⟩ := h
    exact ⟨x, xs.take n, rfl, h2, RpL.take n h3⟩
theorem RpL.drop {K : PySem.W.Frag} {H : Hp} : ∀ {l : List D} {vs : List V} (n : Nat), RpL K H l vs → RpL K H (l.drop n) (vs.drop n)
  | _, _, 0, h => h
  | [], _, n + 1, h => by
    have h : _ = [] := h
    subst h
    rfl
  | d :: ds, _, n + 1, h => by
    obtain ⟨x, xs, rfl, h2, h3⟩ := h
    exact RpL.drop n h3
theorem RpL.set {K : PySem.W.Frag} {H : Hp} {d : D} {v : V} (r : Rp K H d v) : ∀ {l : List D} {vs : List V} (i : Nat), RpL K H l vs → RpL K H (l.set i d) (vs.set i v)
  | [], _, _, h => by
    have h : _ = [] := h
    subst h
    exact h
  | d :: ds, _, 0, h => by
    obtain ⟨x, xs, rfl, h2, h3⟩ := h
    exact ⟨v, xs, rfl, r, h3⟩
  | d :: ds, _, i + 1, h => by
    obtain ⟨x, xs, rfl, h2, h3⟩ := h
    exact ⟨x, xs.set i v, rfl, h2, RpL.set r i h3⟩
theorem RpL.ints {K : PySem.W.Frag} {H : Hp} : ∀ (ns : List Int), RpL K H (ns.map D.int) (ns.map V.int)
  | [] => rfl
  | n :: ns => ⟨.int n, ns.map V.int, rfl, rfl, RpL.ints ns⟩

/-! ### lists that are changed; the slots -/
abbrev Sto := List (Addr × List D)
def getS (p : Addr) : Sto → Option (List D)
  | [] => none
  | (q, l) :: S => if q = p then some l else getS p S
def setS (p : Addr) (n : List D) : Sto → Sto
  | [] => []
  | (q, l) :: S => if q = p then (q, n) :: S else (q, l) :: setS p n S
def Own (K : PySem.W.Frag) (Hd H : Hp) : Sto → Prop
  | [] => True
  | (p, l) :: S => Hd p = none ∧ getS p S = none ∧ (∃ xs, H p = some (.lst xs) ∧ RpL K Hd l xs) ∧ Own K Hd H S
structure St0 (K : PySem.W.Frag) (S : Sto) (Hd H : Hp) : Prop where
  sub : Same Hd H
  own : Own K Hd H S
theorem getS_hd {p : Addr} {l : List D} {S : Sto} : getS p ((p, l) :: S) = some l := by
  show (if p = p then some l else getS p S) = some l
  rw [if_pos rfl]
theorem setS_hd {p : Addr} {l n : List D} {S : Sto} : setS p n ((p, l) :: S) = (p, n) :: S := by
  show (if p = p then (p, n) :: S else (p, l) :: setS p n S) = _
  rw [if_pos rfl]
theorem getS_tl {p q : Addr} {l : List D} {S : Sto} (h : q ≠ p) : getS p ((q, l) :: S) = getS p S := by
  show (if q = p then some l else getS p S) = _
  rw [if_neg h]
theorem setS_tl {p q : Addr} {l n : List D} {S : Sto} (h : q ≠ p) : setS p n ((q, l) :: S) = (q, l) :: setS p n S := by
  show (if q = p then (q, n) :: S else (q, l) :: setS p n S) = _
  rw [if_neg h]
theorem getS_setS {p : Addr} {n : List D} : ∀ {S : Sto} {q : Addr}, getS q (setS p n S) = if q = p then (getS p S).map (fun _ => n) else getS q S
  | [], q => by split <;> rfl
  | (r, l) :: S, q => by
    by_cases h1 : r = p
    · subst h1
      rw [setS_hd]
      by_cases h2 : q = r
      · subst h2
        rw [getS_hd, if_pos rfl, getS_hd] <;> rfl
      · rw [getS_tl (Ne.symm h2), if_neg h2, getS_tl (Ne.symm h2)]
    · rw [setS_tl h1, getS_tl (S := S) h1]
      by_cases h2 : r = q
      · subst h2
        rw [getS_hd, if_neg h1, getS_hd]
      · rw [getS_tl h2, getS_tl h2]
        exact getS_setS
section
variable {K : PySem.W.Frag} {Hd Hd' H H' : Hp} {S : Sto} {p : Addr}
theorem Own.at : ∀ {S : Sto} {l : List D}, Own K Hd H S → getS p S = some l → Hd p = none ∧ ∃ xs, H p = some (.lst xs) ∧ RpL K Hd l xs
  | [], _, _, e => by cases e
  | (q, m) :: S, l, o, e => by
    by_cases h : q = p
    · subst h
      rw [getS_hd] at e
      cases e
      exact ⟨o.1, o.2.2.1⟩
    · rw [getS_tl h] at e
      exact Own.at o.2.2.2 e
/-- new things are laid: none of the changed lists' own -/
theorem Own.grow : ∀ {S : Sto}, Own K Hd H S → Same Hd Hd' → (∀ q l, getS q S = some l → Hd' q = none) → (∀ q xs l, getS q S = some l → H q = some (.lst xs) → H' q = some (.lst xs)) → Own K Hd' H' S
  | [], _, _, _, _ => trivial
  | (q, l) :: S, o, e, f, k => by
    obtain ⟨o1, o2, ⟨xs, o3, o4⟩, o5⟩ := o
    refine ⟨f q l getS_hd, o2, ⟨xs, k q xs l getS_hd o3, o4.mono e⟩, o5.grow e (fun r m hr => ?_) (fun r ys m hr => ?_)⟩
    · by_cases h : q = r
      · subst h
        rw [o2] at hr; cases hr
      · exact f r m (by rw [getS_tl h]; exact hr)
    · by_cases h : q = r
      · subst h
        rw [o2] at hr; cases hr
      · exact k r ys m (by rw [getS_tl h]; exact hr)
/-- one changed list is written -/
theorem Own.write {l' : List D} {ys : List V} : ∀ {S : Sto} {l : List D}, Own K Hd H S → getS p S = some l → RpL K Hd l' ys → Own K Hd (upd H p (.lst ys)) (setS p l' S)
  | [], _, _, e, _ => by cases e
  | (q, m) :: S, l, o, e, r => by
    obtain ⟨o1, o2, ⟨xs, o3, o4⟩, o5⟩ := o
    by_cases h : q = p
    · subst h
      rw [setS_hd]
      refine ⟨o1, o2, ⟨ys, upd_same, r⟩, o5.grow (fun _ _ z => z) (fun b w hb => (o5.at hb).1) (fun b zs w hb hz => ?_)⟩
      rw [upd_ne]
      · exact hz
      · intro z
        subst z
        rw [o2] at hb; cases hb
    · rw [getS_tl h] at e
      rw [setS_tl h]
      refine ⟨o1, ?_, ⟨xs, (upd_ne h).trans o3, o4⟩, o5.write e r⟩
      rw [getS_setS, if_neg h]
      exact o2
theorem St0.tracked (s : St0 K S Hd H) {l : List D} (h : getS p S = some l) : H p ≠ none := by
  obtain ⟨_, xs, e, _⟩ := s.own.at h
  rw [e]
  exact fun z => nomatch z
/-- a new object that is not changed any more -/
theorem St0.laid {o : HO} (s : St0 K S Hd H) (hp : H p = none) : Same Hd (upd Hd p o) ∧ St0 K S (upd Hd p o) (upd H p o) := by
  have hd : Hd p = none := s.sub.free hp
  have e : Same Hd (upd Hd p o) := fun b u q => by rw [upd_ne (ne_of_none q hd)]; exact q
  refine ⟨e, fun b u q => ?_, s.own.grow e (fun q l h => ?_) (fun q xs l h z => ?_)⟩
  · by_cases hb : b = p
    · subst hb
      rw [upd_same] at q ⊢
      exact q
    · rw [upd_ne hb] at q ⊢
      exact s.sub b u q
  · rw [upd_ne (fun z => s.tracked h (by rw [z]; exact hp))]
    exact (s.own.at h).1
  · rw [upd_ne (ne_of_none z hp)]
    exact z
/-- a new list that will be changed -/
theorem St0.laidO {l : List D} {xs : List V} (s : St0 K S Hd H) (hp : H p = none) (r : RpL K Hd l xs) : getS p S = none ∧ St0 K ((p, l) :: S) Hd (upd H p (.lst xs)) := by
  have hd : Hd p = none := s.sub.free hp
  have g : getS p S = none := by
    cases q : getS p S with
    | none => rfl
    | some m => exact absurd hp (s.tracked q)
  refine ⟨g, fun b u q => ?_, hd, g, ⟨xs, upd_same, r⟩, s.own.grow (fun _ _ z => z) (fun q l h => (s.own.at h).1) (fun q xs l h z => ?_)⟩
  · rw [upd_ne (ne_of_none q hd)]
    exact s.sub b u q
  · rw [upd_ne (ne_of_none z hp)]
    exact z
theorem St0.written {l l' : List D} {ys : List V} (s : St0 K S Hd H) (h : getS p S = some l) (r : RpL K Hd l' ys) : St0 K (setS p l' S) Hd (upd H p (.lst ys)) := by
  refine ⟨fun b u q => ?_, s.own.write h r⟩
  rw [upd_ne (ne_of_none q (s.own.at h).1)]
  exact s.sub b u q
/-- a changed list is changed no more -/
theorem St0.frozen {l : List D} (s : St0 K ((p, l) :: S) Hd H) : ∃ xs, RpL K Hd l xs ∧ Same Hd (upd Hd p (.lst xs)) ∧ St0 K S (upd Hd p (.lst xs)) H := by
  obtain ⟨sub, o1, o2, ⟨xs, o3, o4⟩, o5⟩ := s
  have e : Same Hd (upd Hd p (.lst xs)) := fun b u q => by rw [upd_ne (ne_of_none q o1)]; exact q
  refine ⟨xs, o4, e, fun b u q => ?_, o5.grow e (fun q l h => ?_) (fun q xs l h z => z)⟩
  · by_cases hb : b = p
    · subst hb
      rw [upd_same] at q
      cases q
      exact o3
    · rw [upd_ne hb] at q
      exact sub b u q
  · rw [upd_ne (fun z => by rw [z, o2] at h; cases h)]
    exact (o5.at h).1
theorem St0.drop {l : List D} (s : St0 K ((p, l) :: S) Hd H) : St0 K S Hd H := ⟨s.sub, s.own.2.2.2⟩
end

/-- the slots as data; none: not known -/
abbrev DEnv := List (Option D)
def RpE (K : PySem.W.Frag) (H : Hp) : DEnv → L2.St → Prop
  | [], σ => σ = []
  | none :: es, σ => ∃ (o : Option V) (σ' : L2.St), σ = o :: σ' ∧ RpE K H es σ'
  | some d :: es, σ => ∃ (v : V) (σ' : L2.St), σ = some v :: σ' ∧ Rp K H d v ∧ RpE K H es σ'
theorem RpE.mono {K : PySem.W.Frag} {H H' : Hp} (e : Same H H') : ∀ {en : DEnv} {σ : L2.St}, RpE K H en σ → RpE K H' en σ
  | [], _, h => h
  | none :: es, _, h => let ⟨o, σ', e1, e2⟩ := h; ⟨o, σ', e1, RpE.mono e e2⟩
  | some d :: es, _, h => let ⟨v, σ', e1, e2, e3⟩ := h; ⟨v, σ', e1, Rp.mono e d v e2, RpE.mono e e3⟩
theorem RpE.get {K : PySem.W.Frag} {H : Hp} : ∀ {en : DEnv} {σ : L2.St} {i : Nat} {d : D}, RpE K H en σ → en[i]? = some (some d) → ∃ v, σ[i]? = some (some v) ∧ Rp K H d v
  | [], _, _, _, _, e => by simp at e
  | none :: es, _, 0, _, h, e => by simp at e
  | none :: es, _, i + 1, d, h, e => by
    obtain ⟨o, σ', rfl, h2⟩ := h
    obtain ⟨v, e1, e2⟩ := RpE.get (i := i) h2 (by simpa using e)
    exact ⟨v, by simpa using e1, e2⟩
  | some x :: es, _, 0, d, h, e => by
    obtain ⟨v, σ', rfl, h2, _⟩ := h
    have e : x = d := by simpa using e
    subst e
    exact ⟨v, rfl, h2⟩
  | some x :: es, _, i + 1, d, h, e => by
    obtain ⟨o, σ', rfl, _, h2⟩ := h
    obtain ⟨v, e1, e2⟩ := RpE.get (i := i) h2 (by simpa using e)
    exact ⟨v, by simpa using e1, e2⟩
theorem RpE.set {K : PySem.W.Frag} {H : Hp} {d : D} {v : V} (r : Rp K H d v) : ∀ {en : DEnv} {σ : L2.St} (i : Nat), RpE K H en σ → RpE K H (en.set i (some d)) (σ.set i (some v))
  | [], _, _, h => by
    have h : _ = [] := h
    subst h
    rfl
  | none :: es, _, 0, h => let ⟨o, σ', e1, e2⟩ := h; ⟨v, σ', by rw [e1] <;> rfl, r, e2⟩
  | some x :: es, _, 0, h => let ⟨o, σ', e1, _, e2⟩ := h; ⟨v, σ', by rw [e1] <;> rfl, r, e2⟩
  | none :: es, _, i + 1, h => let ⟨o, σ', e1, e2⟩ := h; ⟨o, σ'.set i (some v), by rw [e1] <;> rfl, e2.set r i⟩
  | some x :: es, _, i + 1, h => let ⟨o, σ', e1, e0, e2⟩ := h; ⟨o, σ'.set i (some v), by rw [e1] <;> rfl, e0, e2.set r i⟩
/-- less is known -/
def Wk : DEnv → DEnv → Prop
  | [], [] => True
  | _ :: xs, none :: ys => Wk xs ys
  | x :: xs, some d :: ys => x = some d ∧ Wk xs ys
  | _, _ => False
theorem Wk.refl : ∀ (en : DEnv), Wk en en
  | [] => trivial
  | none :: es => Wk.refl es
  | some _ :: es => ⟨rfl, Wk.refl es⟩
theorem Wk.use {K : PySem.W.Frag} {H : Hp} : ∀ {a b : DEnv} {σ : L2.St}, Wk a b → RpE K H a σ → RpE K H b σ
  | [], [], _, _, h => h
  | none :: xs, none :: ys, _, w, h => let ⟨o, σ', e1, e2⟩ := h; ⟨o, σ', e1, Wk.use (a := xs) (b := ys) w e2⟩
  | some x :: xs, none :: ys, _, w, h => let ⟨v, σ', e1, _, e2⟩ := h; ⟨some v, σ', e1, Wk.use (a := xs) (b := ys) w e2⟩
  | x :: xs, some d :: ys, _, w, h => by
    obtain ⟨w1, w2⟩ := w
    subst w1
    obtain ⟨v, σ', e1, e2, e3⟩ := h
    exact ⟨v, σ', e1, e2, Wk.use w2 e3⟩
  | [], none :: _, _, w, _ => w.elim
  | [], some _ :: _, _, w, _ => w.elim
  | _ :: _, [], _, w, _ => w.elim
theorem RpE.start {K : PySem.W.Frag} {H : Hp} : ∀ {ds : List D} {vs : List V} (n : Nat), RpL K H ds vs → RpE K H (ds.map some ++ List.replicate n none) (vs.map some ++ List.replicate n none)
  | [], _, 0, h => by
    have h : _ = [] := h
    subst h
    rfl
  | [], _, n + 1, h => by
    have h : _ = [] := h
    subst h
    exact ⟨none, List.replicate n none, rfl, RpE.start (ds := []) (vs := []) n rfl⟩
  | d :: ds, _, n, h => by
    obtain ⟨x, xs, rfl, h2, h3⟩ := h
    exact ⟨x, xs.map some ++ List.replicate n none, rfl, h2, RpE.start n h3⟩
end DL
namespace DL
open PySem PySem.Spec PyProof.Rows L2

/-! ### what the semantics asks of the form of an expression, quickly answered -/
def nSet : Expr → Bool
  | .Set _ _ _ => false
  | _ => true
theorem fset {e : Expr} {env : Env} (h : nSet e = true) : ∀ x, foldedSetIterable e env x = pure x := fun x => by
  cases e <;> first | rfl | cases h
def nComp : Expr → Bool
  | .ListComp _ _ _ _ => false
  | .SetComp _ _ _ _ => false
  | .DictComp _ _ _ _ _ => false
  | _ => true
theorem sw0 {e : Expr} {t : Option Expr} {l : Nat} {env : Env} (h : nComp e = true) : swapsWith e t l env = pure false := by
  cases e <;> first | rfl | cases h
theorem sws1 {e t : Expr} {l : Nat} {env : Env} (h : nComp e = true) : swapsWithSole [t] e l env = pure false := sw0 h
def nTup2 : Expr → Expr → Bool
  | .Tuple _ _ _, .Tuple _ _ _ => false
  | .List _ _, .Tuple _ _ _ => false
  | _, _ => true
theorem sst {t e : Expr} {env : Env} (h : nTup2 t e = true) : swappedStores [t] e env = pure none := by
  cases t <;> first | rfl | (cases e <;> first | rfl | cases h)

/-! ### what an expression, a test, a list of arguments is as data -/
def QD (K : PySem.W.Frag) (Hd : Hp) (Q : D → Sto → Prop) : VK := fun v H' => ∃ d S' Hd', Same Hd Hd' ∧ St0 K S' Hd' H' ∧ Rp K Hd' d v ∧ Q d S'
def QB (K : PySem.W.Frag) (Hd : Hp) (Q : Bool → Sto → Prop) : Bool → Hp → Prop := fun b H' => ∃ S' Hd', Same Hd Hd' ∧ St0 K S' Hd' H' ∧ Q b S'
def QA (K : PySem.W.Frag) (Hd : Hp) (Q : List D → Sto → Prop) : List V → Hp → Prop := fun vs H' => ∃ ds S' Hd', Same Hd Hd' ∧ St0 K S' Hd' H' ∧ RpL K Hd' ds vs ∧ Q ds S'
structure DE (X : Cx) (e : Expr) (en : DEnv) (S : Sto) (Q : D → Sto → Prop) : Prop where
  run : ∀ (σ : L2.St) (H Hd : Hp), St0 X.K S Hd H → RpE X.K Hd en σ → wE X e σ H (QD X.K Hd Q)
instance {X : Cx} {e : Expr} {en : DEnv} {S : Sto} {Q : D → Sto → Prop} : CoeFun (DE X e en S Q) (fun _ => ∀ (σ : L2.St) (H Hd : Hp), St0 X.K S Hd H → RpE X.K Hd en σ → wE X e σ H (QD X.K Hd Q)) := ⟨fun h => h.run⟩
structure DT (X : Cx) (e : Expr) (en : DEnv) (S : Sto) (Q : Bool → Sto → Prop) : Prop where
  run : ∀ (σ : L2.St) (H Hd : Hp), St0 X.K S Hd H → RpE X.K Hd en σ → wT X e σ H (QB X.K Hd Q)
instance {X : Cx} {e : Expr} {en : DEnv} {S : Sto} {Q : Bool → Sto → Prop} : CoeFun (DT X e en S Q) (fun _ => ∀ (σ : L2.St) (H Hd : Hp), St0 X.K S Hd H → RpE X.K Hd en σ → wT X e σ H (QB X.K Hd Q)) := ⟨fun h => h.run⟩
structure DW (X : Cx) (e : Expr) (en : DEnv) (S : Sto) (Q : Bool → Sto → Prop) : Prop where
  run : ∀ (σ : L2.St) (H Hd : Hp), St0 X.K S Hd H → RpE X.K Hd en σ → wW X e σ H (QB X.K Hd Q)
instance {X : Cx} {e : Expr} {en : DEnv} {S : Sto} {Q : Bool → Sto → Prop} : CoeFun (DW X e en S Q) (fun _ => ∀ (σ : L2.St) (H Hd : Hp), St0 X.K S Hd H → RpE X.K Hd en σ → wW X e σ H (QB X.K Hd Q)) := ⟨fun h => h.run⟩
structure DA (X : Cx) (es : List Expr) (en : DEnv) (S : Sto) (Q : List D → Sto → Prop) : Prop where
  run : ∀ (σ : L2.St) (H Hd : Hp), St0 X.K S Hd H → RpE X.K Hd en σ → wA X es σ H (QA X.K Hd Q)
instance {X : Cx} {es : List Expr} {en : DEnv} {S : Sto} {Q : List D → Sto → Prop} : CoeFun (DA X es en S Q) (fun _ => ∀ (σ : L2.St) (H Hd : Hp), St0 X.K S Hd H → RpE X.K Hd en σ → wA X es σ H (QA X.K Hd Q)) := ⟨fun h => h.run⟩
theorem QD.up {K : PySem.W.Frag} {Hd Hd' H' : Hp} {Q : D → Sto → Prop} {v : V} (e : Same Hd Hd') (h : QD K Hd' Q v H') : QD K Hd Q v H' :=
  let ⟨d, S, Hd2, e2, st, r, q⟩ := h; ⟨d, S, Hd2, e.trans e2, st, r, q⟩
theorem QB.up {K : PySem.W.Frag} {Hd Hd' H' : Hp} {Q : Bool → Sto → Prop} {b : Bool} (e : Same Hd Hd') (h : QB K Hd' Q b H') : QB K Hd Q b H' :=
  let ⟨S, Hd2, e2, st, q⟩ := h; ⟨S, Hd2, e.trans e2, st, q⟩
theorem QA.up {K : PySem.W.Frag} {Hd Hd' H' : Hp} {Q : List D → Sto → Prop} {v : List V} (e : Same Hd Hd') (h : QA K Hd' Q v H') : QA K Hd Q v H' :=
  let ⟨d, S, Hd2, e2, st, r, q⟩ := h; ⟨d, S, Hd2, e.trans e2, st, r, q⟩
/-- a value that is there -/
theorem QD.here {K : PySem.W.Frag} {S : Sto} {Hd H : Hp} {Q : D → Sto → Prop} {d : D} {v : V} (st : St0 K S Hd H) (r : Rp K Hd d v) (q : Q d S) : QD K Hd Q v H := ⟨d, S, Hd, Same.refl _, st, r, q⟩

section
variable {X : Cx} {a b c e : Expr} {es : List Expr} {en : DEnv} {S : Sto} {Q : D → Sto → Prop} {pos : Pos}
theorem DE.mono {Q' : D → Sto → Prop} (h : DE X e en S Q) (k : ∀ d S', Q d S' → Q' d S') : DE X e en S Q' := ⟨fun σ H Hd st re =>
  wE_mono (h σ H Hd st re) fun _ _ ⟨d, S', Hd', e', st', r, q⟩ => ⟨d, S', Hd', e', st', r, k d S' q⟩⟩
theorem DT.mono {Q Q' : Bool → Sto → Prop} (h : DT X e en S Q) (k : ∀ d S', Q d S' → Q' d S') : DT X e en S Q' := ⟨fun σ H Hd st re =>
  wT_mono (h σ H Hd st re) fun b _ ⟨S', Hd', e', st', q⟩ => ⟨S', Hd', e', st', k b S' q⟩⟩
/-! ### names and constants -/
theorem de_name (i : Nat) {x : Str} {d : D} (q : Q d S) (he : en[i]? = some (some d) := by rfl) (hN : X.N[i]? = some x := by rfl)
    (hv : Vis X.env.scope x := by first | exact Or.inl rfl | exact Or.inr (Or.inl rfl) | exact Or.inr (Or.inr rfl)) (hd : (x == ("__debug__" : Str)) = false := by decide)
    (hcd : (x == ("__classdict__" : Str)) = false := by decide) : DE X (.Name x pos) en S Q := ⟨fun σ H Hd st re => by
  obtain ⟨v, e1, r⟩ := re.get he
  exact wE_of (pe_var hN hv hd hcd) ⟨v, e1, .here st r q⟩⟩
theorem de_int {i : Int} {j} (q : Q (.int i) S) : DE X (.Constant (.int i) j pos) en S Q := ⟨fun _ _ _ st _ => wE_of pe_int (.here (d := .int i) st rfl q)⟩
theorem de_bl {i : Bool} {j} (q : Q (.bl i) S) : DE X (.Constant (.bool i) j pos) en S Q := ⟨fun _ _ _ st _ => wE_of pe_bl (.here (d := .bl i) st rfl q)⟩
theorem de_non {j} (q : Q .non S) : DE X (.Constant .none j pos) en S Q := ⟨fun _ _ _ st _ => wE_of pe_non (.here (d := .non) st rfl q)⟩
theorem de_str {i : Str} {j} (q : Q (.str i) S) : DE X (.Constant (.str i) j pos) en S Q := ⟨fun _ _ _ st _ => wE_of pe_str (.here (d := .str i) st rfl q)⟩
theorem de_globI {x : Str} {i : Int} {u : Tok} (hm : X.mg x = some (.int i u)) (q : Q (.int i) S) (hg : Gl X x := by rfl) (hd : (x == ("__debug__" : Str)) = false := by decide) : DE X (.Name x pos) en S Q := ⟨fun _ _ _ st _ => wE_of (pe_glob (v := .int i) hg hm ⟨u, rfl⟩ hd) (.here (d := .int i) st rfl q)⟩
/-! ### operators -/
def DR2 (K : PySem.W.Frag) (r : R2) (x y : D) (S : Sto) (Q : D → Sto → Prop) : Prop :=
  ∀ (H Hd : Hp) (vx vy : V) (Qv : VK), St0 K S Hd H → Rp K Hd x vx → Rp K Hd y vy → (∀ v H', QD K Hd Q v H' → Qv v H') → r vx vy H Qv
theorem de_two {f : Value → Value → Sem Value} {r : R2} (mk : ∀ {ta tb : TE}, PE X a ta → PE X b tb → PE X e (tOp r ta tb))
    (h : DE X a en S fun x S1 => DE X b en S1 fun y S2 => DR2 X.K r x y S2 Q) : DE X e en S Q := ⟨fun σ H Hd st re => by
  refine wE_of (mk peW peW) ?_
  refine wE_mono (h σ H Hd st re) fun v H1 ⟨x, S1, Hd1, e1, st1, r1, q1⟩ => ?_
  refine wE_mono (q1 σ H1 Hd1 st1 (re.mono e1)) fun u H2 ⟨y, S2, Hd2, e2, st2, r2, q2⟩ => ?_
  exact q2 H2 Hd2 v u _ st2 (Rp.mono e2 x v r1) r2 fun w H3 z => .up (e1.trans e2) z⟩
theorem de_op {op : Operator} {r : R2} (ho : OpR X (binaryOp op) r) (h : DE X a en S fun x S1 => DE X b en S1 fun y S2 => DR2 X.K r x y S2 Q) : DE X (.BinOp a op b pos) en S Q :=
  de_two (f := binaryOp op) (pe_op ho) h
theorem de_cmpR {op : CmpOp} {r : R2} (ho : OpR X (compareOp op) r) (hm : behindInMarks op b = false) (h : DE X a en S fun x S1 => DE X b en S1 fun y S2 => DR2 X.K r x y S2 Q) : DE X (.Compare a [op] [b] pos) en S Q :=
  de_two (f := compareOp op) (fun ha hb => pe_cmpR ho ha hb hm) h
theorem dr_I {C : Int → Int → Prop} {g : Int → Int → Int} {i j : Int} {K : PySem.W.Frag} (hc : C i j) (q : Q (.int (g i j)) S) : DR2 K (rI C fun i j => .int (g i j)) (.int i) (.int j) S Q :=
  fun H Hd vx vy Qv st rx ry k => ⟨i, j, rx, ry, hc, k _ _ (.here (d := .int (g i j)) st rfl q)⟩
theorem dr_I0 {g : Int → Int → Int} {i j : Int} {K : PySem.W.Frag} (q : Q (.int (g i j)) S) : DR2 K (rI0 fun i j => .int (g i j)) (.int i) (.int j) S Q :=
  fun H Hd vx vy Qv st rx ry k => ⟨i, j, rx, ry, k _ _ (.here (d := .int (g i j)) st rfl q)⟩
theorem dr_B0 {g : Int → Int → Bool} {i j : Int} {K : PySem.W.Frag} (q : Q (.bl (g i j)) S) : DR2 K (rI0 fun i j => .bl (g i j)) (.int i) (.int j) S Q :=
  fun H Hd vx vy Qv st rx ry k => ⟨i, j, rx, ry, k _ _ (.here (d := .bl (g i j)) st rfl q)⟩

/-- list + list, lists of any kind -/
def rCatL (K : PySem.W.Frag) : R2 := fun x y H Q => ∃ l b xs zs, x = .ref l ∧ y = .ref b ∧ SqL K H l xs ∧ SqL K H b zs ∧ xs.length + zs.length ≤ sizeLine ∧ ∀ p, H p = none → Q (.ref p) (upd H p (.lst (xs ++ zs)))
theorem op_catL : OpR X (binaryOp .Add) (rCatL X.K) := by
  intro pins s σ H x y v u Q I rx ry h
  obtain ⟨l, b, xs, zs, rfl, rfl, hl, hb, hz, q⟩ := h
  cases rx
  cases ry
  obtain ⟨its, r, ⟨⟨c1, d1, da1, s1⟩, n1, g1, k1, k2, k3⟩, _⟩ := I.list hl
  obtain ⟨its2, r2, ⟨⟨c2, d2, da2, s2⟩, n2, g2, j1, j2, j3⟩, _⟩ := I.list hb
  simp only at k1 k2 k3 j1 j2 j3
  subst k1 k2 k3 j1 j2 j3
  have ez : its.toArray.size + its2.toArray.size ≤ sizeLine := by
    rw [List.size_toArray, List.size_toArray, ← r.length, ← r2.length]
    exact hz
  refine concat_meets ⟨_, g1, rfl⟩ ⟨_, g2, rfl⟩ noFill_list_add seq_list_add PySem.F.slot_list_add PySem.F.entry_list_add (PySem.F.args_list_add_2 _ _) (PyProof.Rows.list_addW l b its.toArray its2.toArray n1 n2 none none s1 s2 ez) ⟨g1, g2, ?_⟩
  have ea : its.toArray ++ its2.toArray = (its ++ its2).toArray := by simp
  rw [ea]
  exact ⟨.ref _, _, I.lnew (t' := s.toks) (r.append r2) (by rw [List.length_append]; exact hz), rfl, q _ I.fresh⟩

/-- a + b -/
def addP (x y : D) (S : Sto) (Q : D → Sto → Prop) : Prop := match x, y with
  | .int i, .int j => Q (.int (i + j)) S
  | .lst l, .lst m => l.length + m.length ≤ 100000 ∧ Q (.lst (l ++ m)) S
  | .scr l, .lst m => l.length + m.length ≤ 100000 ∧ Q (.lst (l.map D.int ++ m)) S
  | .tup l, .tup m => (l.length ≠ 0 ∧ m.length ≠ 0 ∧ l.length + m.length ≤ 100000) ∧ Q (.tup (l ++ m)) S
  | .str i, .str j => i.length + j.length ≤ sizeLine ∧ Q (.str (i ++ j)) S
  | _, _ => False
theorem RpL.ne_nil {K : PySem.W.Frag} {H : Hp} {l : List D} {vs : List V} (h : RpL K H l vs) (n : l.length ≠ 0) : vs ≠ [] := fun z => by
  have := h.length
  rw [z] at this
  exact n this.symm
theorem sz5 {n : Nat} (h : n ≤ 100000) : n ≤ sizeLine := Nat.le_trans h (by decide)
/-- the reading of a new tuple, of a new list -/
theorem new_tup {K : PySem.W.Frag} {Hd H : Hp} {l : List D} {xs : List V} {p : Addr} (st : St0 K S Hd H) (r : RpL K Hd l xs) (hp : H p = none) (q : Q (.tup l) S) : QD K Hd Q (.ref p) (upd H p (.tup xs)) := by
  obtain ⟨e, st'⟩ := st.laid (o := .tup xs) hp
  exact ⟨.tup l, S, _, e, st', ⟨p, xs, rfl, SqT.of upd_same, r.mono e⟩, q⟩
theorem new_lst {K : PySem.W.Frag} {Hd H : Hp} {l : List D} {xs : List V} {p : Addr} (st : St0 K S Hd H) (r : RpL K Hd l xs) (hp : H p = none) (q : Q (.lst l) S) : QD K Hd Q (.ref p) (upd H p (.lst xs)) := by
  obtain ⟨e, st'⟩ := st.laid (o := .lst xs) hp
  exact ⟨.lst l, S, _, e, st', ⟨p, xs, rfl, upd_same, r.mono e⟩, q⟩
theorem OpR.or {f : Value → Value → Sem Value} {r r' : R2} (h : OpR X f r) (h' : OpR X f r') : OpR X f (fun x y H Q => r x y H Q ∨ r' x y H Q) := by
  intro pins s σ H x y v u Q I rx ry q
  rcases q with q | q
  · exact h pins s σ H x y v u Q I rx ry q
  · exact h' pins s σ H x y v u Q I rx ry q
theorem de_add (h : DE X a en S fun x S1 => DE X b en S1 fun y S2 => addP x y S2 Q) : DE X (.BinOp a .Add b pos) en S Q := by
  refine de_op (OpR.or op_add (OpR.or op_catL (OpR.or op_catT op_add_str))) (h.mono fun x S1 h1 => h1.mono fun y S2 h2 => ?_)
  intro H Hd vx vy Qv st rx ry k
  unfold addP at h2
  split at h2
  · exact .inl ⟨_, _, rx, ry, k _ _ (.here (d := .int _) st rfl h2)⟩
  · rename_i l m
    obtain ⟨p, xs, e1, e2, e3⟩ := rx
    obtain ⟨p', ys, f1, f2, f3⟩ := ry
    exact .inr (.inl ⟨p, p', xs, ys, e1, f1, .of (st.sub _ _ e2), .of (st.sub _ _ f2), by rw [e3.length, f3.length]; exact sz5 h2.1, fun q hq => k _ _ (new_lst st (e3.append f3) hq h2.2)⟩)
  · rename_i l m
    obtain ⟨p, e1, e2⟩ := rx
    obtain ⟨p', ys, f1, f2, f3⟩ := ry
    exact .inr (.inl ⟨p, p', l.map V.int, ys, e1, f1, same_l st.sub e2, .of (st.sub _ _ f2), by rw [List.length_map, f3.length]; exact sz5 h2.1, fun q hq => k _ _ (new_lst st (RpL.append (RpL.ints l) f3) hq h2.2)⟩)
  · rename_i l m
    obtain ⟨p, xs, e1, e2, e3⟩ := rx
    obtain ⟨p', ys, f1, f2, f3⟩ := ry
    obtain ⟨⟨n1, n2, n3⟩, h2⟩ := h2
    refine .inr (.inr (.inl ⟨p, p', xs, ys, e1, f1, same_t st.sub e2, same_t st.sub f2, e3.ne_nil n1, by rw [e3.length, f3.length]; exact sz5 n3, fun z => absurd z (f3.ne_nil n2), fun _ q hq => k _ _ (new_tup st (e3.append f3) hq h2)⟩))
  · exact .inr (.inr (.inr ⟨_, _, rx, ry, h2.1, k _ _ (.here (d := .str _) st rfl h2.2)⟩))
  · exact h2.elim
theorem add_int {i j : Int} (q : Q (.int (i + j)) S) : addP (.int i) (.int j) S Q := q
theorem add_lst {l m : List D} (q : Q (.lst (l ++ m)) S) (h : l.length + m.length ≤ 100000) : addP (.lst l) (.lst m) S Q := ⟨h, q⟩
theorem add_scr {l : List Int} {m : List D} (q : Q (.lst (l.map D.int ++ m)) S) (h : l.length + m.length ≤ 100000) : addP (.scr l) (.lst m) S Q := ⟨h, q⟩
theorem add_tup {l m : List D} (q : Q (.tup (l ++ m)) S) (h : l.length ≠ 0 ∧ m.length ≠ 0 ∧ l.length + m.length ≤ 100000) : addP (.tup l) (.tup m) S Q := ⟨h, q⟩
/-- a - b, a * b, a // b, a % b, a ** b -/
theorem de_sub (h : DE X a en S fun x S1 => DE X b en S1 fun y S2 => ∃ i j, x = .int i ∧ y = .int j ∧ Q (.int (i - j)) S2) : DE X (.BinOp a .Sub b pos) en S Q :=
  de_op op_sub (h.mono fun _ _ h1 => h1.mono fun _ _ ⟨_, _, e1, e2, q⟩ => by subst e1 e2; exact dr_I0 q)
def mulP (x y : D) (S : Sto) (Q : D → Sto → Prop) : Prop := match x, y with
  | .int i, .int j => CMulW i j ∧ Q (.int (i * j)) S
  | .lst l, .int k => (-(2 ^ 63) ≤ k ∧ k < 2 ^ 63 ∧ l.length * k.toNat ≤ 100000) ∧ Q (.lst (List.replicate k.toNat l).flatten) S
  | _, _ => False
theorem RpL.rep {K : PySem.W.Frag} {H : Hp} {l : List D} {vs : List V} (h : RpL K H l vs) : ∀ n : Nat, RpL K H (List.replicate n l).flatten (List.replicate n vs).flatten
  | 0 => rfl
  | n + 1 => by
    rw [List.replicate_succ, List.replicate_succ, List.flatten_cons, List.flatten_cons]
    exact h.append (RpL.rep h n)
theorem de_mul (h : DE X a en S fun x S1 => DE X b en S1 fun y S2 => mulP x y S2 Q) : DE X (.BinOp a .Mult b pos) en S Q := by
  refine de_op (OpR.or op_mulW op_rep) (h.mono fun x S1 h1 => h1.mono fun y S2 h2 => ?_)
  intro H Hd vx vy Qv st rx ry k
  unfold mulP at h2
  split at h2
  · exact .inl ⟨_, _, rx, ry, h2.1, k _ _ (.here (d := .int _) st rfl h2.2)⟩
  · obtain ⟨p, xs, e1, e2, e3⟩ := rx
    obtain ⟨⟨n1, n2, n3⟩, h2⟩ := h2
    exact .inr ⟨p, _, xs, e1, ry, st.sub _ _ e2, n1, n2, by rw [e3.length]; exact sz5 n3, fun q hq => k _ _ (new_lst st (e3.rep _) hq h2)⟩
  · exact h2.elim
theorem mul_i {i j : Int} (q : Q (.int (i * j)) S) (h : CMulW i j) : mulP (.int i) (.int j) S Q := ⟨h, q⟩
theorem mul_l {l : List D} {k : Int} (q : Q (.lst (List.replicate k.toNat l).flatten) S) (h : -(2 ^ 63) ≤ k ∧ k < 2 ^ 63 ∧ l.length * k.toNat ≤ 100000) : mulP (.lst l) (.int k) S Q := ⟨h, q⟩
theorem de_fdiv (h : DE X a en S fun x S1 => DE X b en S1 fun y S2 => ∃ i j, x = .int i ∧ y = .int j ∧ CDivW i j ∧ Q (.int (i / j)) S2) : DE X (.BinOp a .FloorDiv b pos) en S Q :=
  de_op op_fdivW (h.mono fun _ _ h1 => h1.mono fun _ _ ⟨_, _, e1, e2, hc, q⟩ => by subst e1 e2; exact dr_I hc q)
theorem de_mod (h : DE X a en S fun x S1 => DE X b en S1 fun y S2 => ∃ i j, x = .int i ∧ y = .int j ∧ 0 < j ∧ Q (.int (i % j)) S2) : DE X (.BinOp a .Mod b pos) en S Q :=
  de_op op_mod (h.mono fun _ _ h1 => h1.mono fun _ _ ⟨_, _, e1, e2, hc, q⟩ => by subst e1 e2; exact dr_I hc q)
/-- a ** b, b small, a of less than 2 ^ 20 bits -/
def CPowW (i j : Int) : Prop := 0 ≤ j ∧ j ≤ 64 ∧ i.natAbs.log2 < 1000000
theorem op_powW : OpR X (binaryOp .Pow) (rI CPowW fun i j => .int (i ^ j.toNat)) := opI fun i j _ _ _ _ _ hc q => by
  obtain ⟨h1, h2, h3⟩ := hc
  refine pow_int h1 ?_ q
  have b : Builtin.Int.intBits i ≤ i.natAbs.log2 + 1 := by
    unfold Builtin.Int.intBits
    split <;> omega
  have b2 : (Builtin.Int.intBits i : Int) ≤ 1000000 := by omega
  have b3 : (Builtin.Int.intBits i : Int) * j ≤ 1000000 * 64 := Int.mul_le_mul b2 h2 h1 (by decide)
  have b4 : (1000000 * 64 : Int) ≤ 2 ^ 27 := by decide
  omega
theorem de_pow (h : DE X a en S fun x S1 => DE X b en S1 fun y S2 => ∃ i j, x = .int i ∧ y = .int j ∧ CPowW i j ∧ Q (.int (i ^ j.toNat)) S2) : DE X (.BinOp a .Pow b pos) en S Q :=
  de_op op_powW (h.mono fun _ _ h1 => h1.mono fun _ _ ⟨_, _, e1, e2, hc, q⟩ => by subst e1 e2; exact dr_I hc q)
theorem de_neg (h : DE X a en S fun x S1 => ∃ i, x = .int i ∧ Q (.int (-i)) S1) : DE X (.UnaryOp .USub a pos) en S Q := ⟨fun σ H Hd st re => by
  refine wE_of (pe_un un_neg peW) ?_
  refine wE_mono (h σ H Hd st re) fun v H1 ⟨x, S1, Hd1, e1, st1, r1, i, e2, q1⟩ => ?_
  subst e2
  exact ⟨i, r1, .up e1 (.here (d := .int (-i)) st1 rfl q1)⟩⟩
end
end DL
namespace DL
open PySem PySem.Spec PyProof.Rows L2

/-! ### data as the library's data -/
mutual
def toPy : D → PyData
  | .non => .none
  | .bl b => .bool b
  | .int i => .int i
  | .str x => .str x
  | .tup l => .tuple (toPyL l)
  | .lst l => .list (toPyL l)
  | .raw _ => .none
  | .ext _ => .none
  | .scr ns => .list (ns.map PyData.int)
def toPyL : List D → List PyData
  | [] => []
  | d :: ds => toPy d :: toPyL ds
end
mutual
/-- plain data of at most this depth -/
def flatOk : Nat → D → Bool
  | _, .non => true
  | _, .bl _ => true
  | _, .int _ => true
  | _, .str x => PyData.strOk x
  | n + 1, .tup l => flatOkL n l
  | n + 1, .lst l => flatOkL n l
  | n + 1, .scr _ => true
  | _, _ => false
def flatOkL : Nat → List D → Bool
  | _, [] => true
  | n, d :: ds => flatOk n d && flatOkL n ds
end
theorem dpAll_ints {K : PySem.W.Frag} {H : Hp} : ∀ ns : List Int, DpAll K H (ns.map V.int) (ns.map PyData.int)
  | [] => .nil
  | n :: ns => .cons (.int n) (dpAll_ints ns)
mutual
theorem dp_of {K : PySem.W.Frag} {H : Hp} : ∀ (n : Nat) (d : D) (v : V), flatOk n d = true → Rp K H d v → Dp K H v (toPy d)
  | _, .non, v, _, r => by
    have r : v = _ := r
    subst r
    exact .non
  | _, .bl b, v, _, r => by
    have r : v = _ := r
    subst r
    exact .bl b
  | _, .int i, v, _, r => by
    have r : v = _ := r
    subst r
    exact .int i
  | _, .str x, v, _, r => by
    have r : v = _ := r
    subst r
    exact .str x
  | 0, .tup l, v, h, r => by simp [flatOk] at h
  | n + 1, .tup l, v, h, r => by
    obtain ⟨a, xs, rfl, h1, h2⟩ := r
    exact .tup h1 (dpAll_of n l xs (by simpa [flatOk] using h) h2)
  | 0, .lst l, v, h, r => by simp [flatOk] at h
  | n + 1, .lst l, v, h, r => by
    obtain ⟨a, xs, rfl, h1, h2⟩ := r
    exact .lst (.of h1) (dpAll_of n l xs (by simpa [flatOk] using h) h2)
  | 0, .scr l, v, h, r => by simp [flatOk] at h
  | n + 1, .scr ns, v, h, r => by
    obtain ⟨a, rfl, h1⟩ := r
    exact .lst h1 (dpAll_ints ns)
  | 0, .raw _, v, h, r => by simp [flatOk] at h
  | _ + 1, .raw _, v, h, r => by simp [flatOk] at h
  | 0, .ext _, v, h, r => by simp [flatOk] at h
  | _ + 1, .ext _, v, h, r => by simp [flatOk] at h
theorem dpAll_of {K : PySem.W.Frag} {H : Hp} : ∀ (n : Nat) (l : List D) (vs : List V), flatOkL n l = true → RpL K H l vs → DpAll K H vs (toPyL l)
  | _, [], vs, _, r => by
    have r : vs = [] := r
    subst r
    exact .nil
  | n, d :: ds, vs, h, r => by
    obtain ⟨x, xs, rfl, h1, h2⟩ := r
    rw [flatOkL, Bool.and_eq_true] at h
    exact .cons (dp_of n d x h.1 h1) (dpAll_of n ds xs h.2 h2)
end
theorem canLay_ints : ∀ ns : List Int, PyData.canLayAll0 (ns.map PyData.int) = true
  | [] => rfl
  | n :: ns => by
    show (PyData.canLay0 (.int n) && PyData.canLayAll0 (ns.map PyData.int)) = true
    rw [canLay_ints ns] <;> rfl
theorem depth_ints : ∀ ns : List Int, PyData.depthAll (ns.map PyData.int) = 0
  | [] => rfl
  | n :: ns => by
    show max (PyData.depth (.int n)) (PyData.depthAll (ns.map PyData.int)) = 0
    rw [depth_ints ns] <;> rfl
mutual
theorem lay_of : ∀ (n : Nat) (d : D), flatOk n d = true → (toPy d).canLay0 = true ∧ (toPy d).depth ≤ n
  | _, .non, _ => ⟨rfl, Nat.zero_le _⟩
  | _, .bl b, _ => ⟨rfl, Nat.zero_le _⟩
  | _, .int b, _ => ⟨rfl, Nat.zero_le _⟩
  | _, .str b, h => ⟨by simpa [flatOk, toPy, PyData.canLay0] using h, Nat.zero_le _⟩
  | 0, .tup l, h => by simp [flatOk] at h
  | n + 1, .tup l, h => by
    obtain ⟨h1, h2⟩ := layAll_of n l (by simpa [flatOk] using h)
    exact ⟨by simpa [toPy, PyData.canLay0] using h1, by simpa [toPy, PyData.depth] using h2⟩
  | 0, .lst l, h => by simp [flatOk] at h
  | n + 1, .lst l, h => by
    obtain ⟨h1, h2⟩ := layAll_of n l (by simpa [flatOk] using h)
    exact ⟨by simpa [toPy, PyData.canLay0] using h1, by simpa [toPy, PyData.depth] using h2⟩
  | 0, .scr l, h => by simp [flatOk] at h
  | n + 1, .scr ns, h => by
    refine ⟨by simpa [toPy, PyData.canLay0] using canLay_ints ns, ?_⟩
    show PyData.depthAll (ns.map PyData.int) + 1 ≤ n + 1
    rw [depth_ints]
    omega
  | 0, .raw _, h => by simp [flatOk] at h
  | _ + 1, .raw _, h => by simp [flatOk] at h
  | 0, .ext _, h => by simp [flatOk] at h
  | _ + 1, .ext _, h => by simp [flatOk] at h
theorem layAll_of : ∀ (n : Nat) (l : List D), flatOkL n l = true → PyData.canLayAll0 (toPyL l) = true ∧ PyData.depthAll (toPyL l) ≤ n
  | _, [], _ => ⟨rfl, Nat.zero_le _⟩
  | n, d :: ds, h => by
    rw [flatOkL, Bool.and_eq_true] at h
    obtain ⟨h1, h2⟩ := lay_of n d h.1
    obtain ⟨h3, h4⟩ := layAll_of n ds h.2
    refine ⟨?_, ?_⟩
    · show (PyData.canLay0 (toPy d) && PyData.canLayAll0 (toPyL ds)) = true
      rw [h1, h3] <;> rfl
    · show max (PyData.depth (toPy d)) (PyData.depthAll (toPyL ds)) ≤ n
      omega
end
theorem shaped_of {n : Nat} {d : D} (h : flatOk n d = true) (hn : n ≤ 64) : SeqAt.shaped (toPy d) = true := by
  obtain ⟨h1, h2⟩ := lay_of n d h
  unfold SeqAt.shaped
  rw [h1, decide_eq_true (show (toPy d).depth ≤ 64 by omega)] <;> rfl
/-- how data is compared -/
def eqB (x y : D) : Bool := PyData.eqv (toPy x) (toPy y)
theorem eqB_refl {n : Nat} {d : D} (h : flatOk n d = true) : eqB d d = true := PySem.SeqAt.eqv_refl _ (lay_of n d h).1
section
variable {X : Cx} {a b c e : Expr} {es : List Expr} {en : DEnv} {S : Sto} {Q : D → Sto → Prop} {pos : Pos}
/-! ### comparisons as values -/
def eqP (x y : D) (S : Sto) (Q : Bool → Sto → Prop) : Prop := match x, y with
  | .int i, .int j => Q (decide (i = j)) S
  | .str i, .str j => Q (decide (i = j)) S
  | x, y => (flatOk 9 x = true ∧ flatOk 9 y = true) ∧ Q (eqB x y) S
theorem dr_eq {K : PySem.W.Frag} {x y : D} (h : eqP x y S fun b S' => Q (.bl b) S') : DR2 K (fun x y H Q => rEq x y H Q ∨ rEqD K x y H Q) x y S Q := by
  intro H Hd vx vy Qv st rx ry k
  have deep : (flatOk 9 x = true ∧ flatOk 9 y = true) ∧ Q (.bl (eqB x y)) S → rEqD K vx vy H Qv := fun ⟨⟨h1, h2⟩, q⟩ =>
    ⟨toPy x, toPy y, dp_of 9 x vx h1 (Rp.mono st.sub x vx rx), dp_of 9 y vy h2 (Rp.mono st.sub y vy ry), shaped_of h1 (by decide), shaped_of h2 (by decide), k _ _ (.here (d := .bl (eqB x y)) st rfl q)⟩
  unfold eqP at h
  split at h
  · rename_i i j
    have e1 : vx = .int i := rx
    have e2 : vy = .int j := ry
    subst e1 e2
    refine .inl ⟨rfl, ?_⟩
    have e : decide (V.int i = V.int j) = decide (i = j) := by simp
    rw [e]
    exact k _ _ (.here (d := .bl (decide (i = j))) st rfl h)
  · rename_i i j
    have e1 : vx = .str i := rx
    have e2 : vy = .str j := ry
    subst e1 e2
    refine .inl ⟨rfl, ?_⟩
    have e : decide (V.str i = V.str j) = decide (i = j) := by simp
    rw [e]
    exact k _ _ (.here (d := .bl (decide (i = j))) st rfl h)
  · exact .inr (deep h)
theorem dr_ne {K : PySem.W.Frag} {x y : D} (h : eqP x y S fun b S' => Q (.bl (!b)) S') : DR2 K (fun x y H Q => rNe x y H Q ∨ rNeD K x y H Q) x y S Q := by
  intro H Hd vx vy Qv st rx ry k
  have deep : (flatOk 9 x = true ∧ flatOk 9 y = true) ∧ Q (.bl (!eqB x y)) S → rNeD K vx vy H Qv := fun ⟨⟨h1, h2⟩, q⟩ =>
    ⟨toPy x, toPy y, dp_of 9 x vx h1 (Rp.mono st.sub x vx rx), dp_of 9 y vy h2 (Rp.mono st.sub y vy ry), shaped_of h1 (by decide), shaped_of h2 (by decide), k _ _ (.here (d := .bl (!eqB x y)) st rfl q)⟩
  unfold eqP at h
  split at h
  · rename_i i j
    have e1 : vx = .int i := rx
    have e2 : vy = .int j := ry
    subst e1 e2
    refine .inl ⟨rfl, ?_⟩
    have e : decide (V.int i = V.int j) = decide (i = j) := by simp
    rw [e]
    exact k _ _ (.here (d := .bl (!decide (i = j))) st rfl h)
  · rename_i i j
    have e1 : vx = .str i := rx
    have e2 : vy = .str j := ry
    subst e1 e2
    refine .inl ⟨rfl, ?_⟩
    have e : decide (V.str i = V.str j) = decide (i = j) := by simp
    rw [e]
    exact k _ _ (.here (d := .bl (!decide (i = j))) st rfl h)
  · exact .inr (deep h)
theorem eq_int {i j : Int} {Q : Bool → Sto → Prop} (q : Q (decide (i = j)) S) : eqP (.int i) (.int j) S Q := q
theorem eq_str {i j : Str} {Q : Bool → Sto → Prop} (q : Q (decide (i = j)) S) : eqP (.str i) (.str j) S Q := q
theorem eq_tup {l m : List D} {Q : Bool → Sto → Prop} (q : Q (eqB (.tup l) (.tup m)) S) (h : flatOk 9 (.tup l) = true ∧ flatOk 9 (.tup m) = true := by exact ⟨rfl, rfl⟩) : eqP (.tup l) (.tup m) S Q := ⟨h, q⟩
theorem eq_lst {l m : List D} {Q : Bool → Sto → Prop} (q : Q (eqB (.lst l) (.lst m)) S) (h : flatOk 9 (.lst l) = true ∧ flatOk 9 (.lst m) = true := by exact ⟨rfl, rfl⟩) : eqP (.lst l) (.lst m) S Q := ⟨h, q⟩
theorem eq_scr {l : List Int} {m : List D} {Q : Bool → Sto → Prop} (q : Q (eqB (.scr l) (.lst m)) S) (h : flatOk 9 (.scr l) = true ∧ flatOk 9 (.lst m) = true := by exact ⟨rfl, rfl⟩) : eqP (.scr l) (.lst m) S Q := ⟨h, q⟩
/-- two equal data -/
theorem eqP_same {x y : D} {Q : Bool → Sto → Prop} (z : x = y) (h : flatOk 9 x = true) (q : Q true S) : eqP x y S Q := by
  subst z
  have e := eqB_refl h
  cases x <;> first
    | (refine ⟨⟨h, h⟩, ?_⟩
       rw [e]
       exact q)
    | (show Q (decide (_ = _)) S
       rw [decide_eq_true rfl]
       exact q)
theorem de_eq (hu : X.A.units + 64 < cLine) (h : DE X a en S fun x S1 => DE X b en S1 fun y S2 => eqP x y S2 fun b S' => Q (.bl b) S') : DE X (.Compare a [.Eq] [b] pos) en S Q :=
  de_cmpR (OpR.or op_eq (op_eqD hu)) (nobehind _ (by decide) (by decide)) (h.mono fun _ _ h1 => h1.mono fun _ _ h2 => dr_eq h2)
theorem de_ne (hu : X.A.units + 64 < cLine) (h : DE X a en S fun x S1 => DE X b en S1 fun y S2 => eqP x y S2 fun b S' => Q (.bl (!b)) S') : DE X (.Compare a [.NotEq] [b] pos) en S Q :=
  de_cmpR (OpR.or op_ne (op_neD hu)) (nobehind _ (by decide) (by decide)) (h.mono fun _ _ h1 => h1.mono fun _ _ h2 => dr_ne h2)
theorem de_lt (h : DE X a en S fun x S1 => DE X b en S1 fun y S2 => ∃ i j, x = .int i ∧ y = .int j ∧ Q (.bl (decide (i < j))) S2) : DE X (.Compare a [.Lt] [b] pos) en S Q :=
  de_cmpR op_lt (nobehind _ (by decide) (by decide)) (h.mono fun _ _ h1 => h1.mono fun _ _ ⟨_, _, e1, e2, q⟩ => by subst e1 e2; exact dr_B0 q)
theorem de_le (h : DE X a en S fun x S1 => DE X b en S1 fun y S2 => ∃ i j, x = .int i ∧ y = .int j ∧ Q (.bl (decide (i ≤ j))) S2) : DE X (.Compare a [.LtE] [b] pos) en S Q :=
  de_cmpR op_le (nobehind _ (by decide) (by decide)) (h.mono fun _ _ h1 => h1.mono fun _ _ ⟨_, _, e1, e2, q⟩ => by subst e1 e2; exact dr_B0 q)
/-! ### truths as values -/
theorem de_not (h : DE X a en S fun x S1 => ∃ c, x = .bl c ∧ Q (.bl (!c)) S1) : DE X (.UnaryOp .Not a pos) en S Q := ⟨fun σ H Hd st re => by
  refine wE_of (pe_not peW) ?_
  refine wE_mono (h σ H Hd st re) fun v H1 ⟨x, S1, Hd1, e1, st1, r1, i, e2, q1⟩ => ?_
  subst e2
  exact ⟨i, r1, .up e1 (.here (d := .bl (!i)) st1 rfl q1)⟩⟩
theorem de_one {op} (h : DE X a en S Q) : DE X (.BoolOp op [a] pos) en S Q := ⟨fun σ H Hd st re => wE_of (pe_one peW) (h σ H Hd st re)⟩
theorem de_and {rest : List Expr} (h : DE X a en S fun x S1 => ∃ c, x = .bl c ∧ (c = false → Q (.bl false) S1) ∧ (c = true → DE X (.BoolOp .And (b :: rest) pos) en S1 Q)) : DE X (.BoolOp .And (a :: b :: rest) pos) en S Q := ⟨fun σ H Hd st re => by
  refine wE_of (pe_and peW peW) ?_
  refine wE_mono (h σ H Hd st re) fun v H1 ⟨x, S1, Hd1, e1, st1, r1, i, e2, q1, q2⟩ => ?_
  subst e2
  refine ⟨i, r1, ?_⟩
  cases i with
  | true =>
    rw [if_pos rfl]
    exact wE_mono (q2 rfl σ H1 Hd1 st1 (re.mono e1)) fun _ _ z => .up e1 z
  | false =>
    rw [if_neg Bool.false_ne_true]
    exact .up e1 (.here (d := .bl false) st1 rfl (q1 rfl))⟩
theorem de_ifE (h : DT X c en S fun t S1 => (t = true → DE X a en S1 Q) ∧ (t = false → DE X b en S1 Q)) : DE X (.IfExp c a b pos) en S Q := ⟨fun σ H Hd st re => by
  refine wE_of (pe_ifExp ptW peW peW) ?_
  refine wT_mono (h σ H Hd st re) fun t H1 ⟨S1, Hd1, e1, st1, q1, q2⟩ => ?_
  cases t with
  | true =>
    rw [if_pos rfl]
    exact wE_mono (q1 rfl σ H1 Hd1 st1 (re.mono e1)) fun _ _ z => .up e1 z
  | false =>
    rw [if_neg Bool.false_ne_true]
    exact wE_mono (q2 rfl σ H1 Hd1 st1 (re.mono e1)) fun _ _ z => .up e1 z⟩
/-! ### tests -/
variable {P : Bool → Sto → Prop}
theorem dt_val (h : DE X a en S fun x S1 => ∃ c, x = .bl c ∧ P c S1) (he : ∀ whole, isTrue a X.env whole = (do let v ← whole; standAt a.pos; holding [v] (truthy v)) := by intro _; rfl) : DT X a en S P := ⟨fun σ H Hd st re => by
  refine wT_of (pt_val peW he) ?_
  refine wE_mono (h σ H Hd st re) fun v H1 ⟨x, S1, Hd1, e1, st1, r1, i, e2, q1⟩ => ?_
  subst e2
  exact ⟨i, r1, S1, Hd1, e1, st1, q1⟩⟩
theorem dt_not (h : DT X a en S fun c S1 => P (!c) S1) : DT X (.UnaryOp .Not a pos) en S P := ⟨fun σ H Hd st re => by
  refine wT_of (pt_not ptW) ?_
  exact wT_mono (h σ H Hd st re) fun c H1 ⟨S1, Hd1, e1, st1, q⟩ => ⟨S1, Hd1, e1, st1, q⟩⟩
theorem dt_w (h : DW X a en S P) : DT X a en S P := ⟨fun σ H Hd st re => wT_of (PW.pt pwW) (h σ H Hd st re)⟩
theorem dw_and1 (h : DT X a en S P) : DW X (.BoolOp .And [a] pos) en S P := ⟨fun σ H Hd st re => wW_of (pw_and1 ptW) (h σ H Hd st re)⟩
theorem dw_or1 (h : DT X a en S P) : DW X (.BoolOp .Or [a] pos) en S P := ⟨fun σ H Hd st re => wW_of (pw_or1 ptW) (h σ H Hd st re)⟩
theorem dw_and {rest : List Expr} (h : DT X a en S fun c S1 => (c = false → P false S1) ∧ (c = true → DW X (.BoolOp .And (b :: rest) pos) en S1 P)) : DW X (.BoolOp .And (a :: b :: rest) pos) en S P := ⟨fun σ H Hd st re => by
  refine wW_of (pw_and ptW pwW) ?_
  refine wT_mono (h σ H Hd st re) fun c H1 ⟨S1, Hd1, e1, st1, q1, q2⟩ => ?_
  cases c with
  | true =>
    rw [if_pos rfl]
    exact wW_mono (q2 rfl σ H1 Hd1 st1 (re.mono e1)) fun _ _ z => .up e1 z
  | false =>
    rw [if_neg Bool.false_ne_true]
    exact ⟨S1, Hd1, e1, st1, q1 rfl⟩⟩
theorem dw_or {rest : List Expr} (h : DT X a en S fun c S1 => (c = true → P true S1) ∧ (c = false → DW X (.BoolOp .Or (b :: rest) pos) en S1 P)) : DW X (.BoolOp .Or (a :: b :: rest) pos) en S P := ⟨fun σ H Hd st re => by
  refine wW_of (pw_or ptW pwW) ?_
  refine wT_mono (h σ H Hd st re) fun c H1 ⟨S1, Hd1, e1, st1, q1, q2⟩ => ?_
  cases c with
  | false =>
    rw [if_neg Bool.false_ne_true]
    exact wW_mono (q2 rfl σ H1 Hd1 st1 (re.mono e1)) fun _ _ z => .up e1 z
  | true =>
    rw [if_pos rfl]
    exact ⟨S1, Hd1, e1, st1, q1 rfl⟩⟩
/-- a comparison as a test -/
theorem dt_cmp {op : CmpOp} {r : R2} (ho : OpR X (compareOp op) r) (hm : behindInMarks op b = false) (h : DE X a en S fun x S1 => DE X b en S1 fun y S2 => DR2 X.K r x y S2 fun d S' => ∃ c, d = .bl c ∧ P c S') : DT X (.Compare a [op] [b] pos) en S P := ⟨fun σ H Hd st re => by
  refine wT_of (pt_cmpR ho peW peW hm) ?_
  refine wE_mono (h σ H Hd st re) fun v H1 ⟨x, S1, Hd1, e1, st1, r1, q1⟩ => ?_
  refine wE_mono (q1 σ H1 Hd1 st1 (re.mono e1)) fun u H2 ⟨y, S2, Hd2, e2, st2, r2, q2⟩ => ?_
  refine q2 H2 Hd2 v u _ st2 (Rp.mono e2 x v r1) r2 fun w H3 ⟨d, S3, Hd3, e3, st3, r3, c, ed, q3⟩ => ?_
  subst ed
  exact ⟨c, r3, S3, Hd3, (e1.trans e2).trans e3, st3, q3⟩⟩
theorem dt_lt (h : DE X a en S fun x S1 => DE X b en S1 fun y S2 => ∃ i j, x = .int i ∧ y = .int j ∧ P (decide (i < j)) S2) : DT X (.Compare a [.Lt] [b] pos) en S P :=
  dt_cmp op_lt (nobehind _ (by decide) (by decide)) (h.mono fun _ _ h1 => h1.mono fun _ _ ⟨_, _, e1, e2, q⟩ => by subst e1 e2; exact dr_B0 ⟨_, rfl, q⟩)
theorem dt_gt (h : DE X a en S fun x S1 => DE X b en S1 fun y S2 => ∃ i j, x = .int i ∧ y = .int j ∧ P (decide (j < i)) S2) : DT X (.Compare a [.Gt] [b] pos) en S P :=
  dt_cmp op_gt (nobehind _ (by decide) (by decide)) (h.mono fun _ _ h1 => h1.mono fun _ _ ⟨_, _, e1, e2, q⟩ => by subst e1 e2; exact dr_B0 ⟨_, rfl, q⟩)
theorem dt_ge (h : DE X a en S fun x S1 => DE X b en S1 fun y S2 => ∃ i j, x = .int i ∧ y = .int j ∧ P (decide (j ≤ i)) S2) : DT X (.Compare a [.GtE] [b] pos) en S P :=
  dt_cmp op_ge (nobehind _ (by decide) (by decide)) (h.mono fun _ _ h1 => h1.mono fun _ _ ⟨_, _, e1, e2, q⟩ => by subst e1 e2; exact dr_B0 ⟨_, rfl, q⟩)
theorem dt_eq (hu : X.A.units + 64 < cLine) (h : DE X a en S fun x S1 => DE X b en S1 fun y S2 => eqP x y S2 P) : DT X (.Compare a [.Eq] [b] pos) en S P :=
  dt_cmp (OpR.or op_eq (op_eqD hu)) (nobehind _ (by decide) (by decide)) (h.mono fun _ _ h1 => h1.mono fun x y h2 => dr_eq (by
    unfold eqP at h2 ⊢
    split at h2 <;> first | exact ⟨_, rfl, h2⟩ | exact ⟨h2.1, _, rfl, h2.2⟩))
theorem dt_ne (hu : X.A.units + 64 < cLine) (h : DE X a en S fun x S1 => DE X b en S1 fun y S2 => eqP x y S2 fun b S' => P (!b) S') : DT X (.Compare a [.NotEq] [b] pos) en S P :=
  dt_cmp (OpR.or op_ne (op_neD hu)) (nobehind _ (by decide) (by decide)) (h.mono fun _ _ h1 => h1.mono fun x y h2 => dr_ne (by
    unfold eqP at h2 ⊢
    split at h2 <;> first | exact ⟨_, rfl, h2⟩ | exact ⟨h2.1, _, rfl, h2.2⟩))
/-! ### displays, subscripts, slices -/
variable {R : List D → Sto → Prop}
theorem da_nil (q : R [] S) : DA X [] en S R := ⟨fun σ H Hd st _ => wA_of pa_nil ⟨[], S, Hd, Same.refl _, st, rfl, q⟩⟩
theorem da_cons (h : DE X e en S fun x S1 => DA X es en S1 fun xs S2 => R (x :: xs) S2) (hs : starEach (e :: es) X.env = (false, eval e X.env) :: starEach es X.env := by rfl) : DA X (e :: es) en S R := ⟨fun σ H Hd st re => by
  refine wA_of (pa_cons peW paW hs) ?_
  refine wE_mono (h σ H Hd st re) fun v H1 ⟨x, S1, Hd1, e1, st1, r1, q1⟩ => ?_
  refine wA_mono (q1 σ H1 Hd1 st1 (re.mono e1)) fun vs H2 ⟨xs, S2, Hd2, e2, st2, r2, q2⟩ => ?_
  exact ⟨x :: xs, S2, Hd2, e1.trans e2, st2, ⟨v, vs, rfl, Rp.mono e2 x v r1, r2⟩, q2⟩⟩
theorem DA.mono {R' : List D → Sto → Prop} (h : DA X es en S R) (k : ∀ d S', R d S' → R' d S') : DA X es en S R' := ⟨fun σ H Hd st re =>
  wA_mono (h σ H Hd st re) fun _ _ ⟨d, S', Hd', e', st', r, q⟩ => ⟨d, S', Hd', e', st', r, k d S' q⟩⟩
theorem de_tup {x1} (h : DA X es en S fun xs S1 => xs.length ≤ 100000 ∧ Q (.tup xs) S1) : DE X (.Tuple es x1 pos) en S Q := ⟨fun σ H Hd st re => by
  refine wE_of (pe_tup paW) ?_
  refine wA_mono (h σ H Hd st re) fun vs H1 ⟨xs, S1, Hd1, e1, st1, r1, n1, q1⟩ => ?_
  exact ⟨by rw [r1.length]; exact sz5 n1, fun p hp => .up e1 (new_tup st1 r1 hp q1)⟩⟩
theorem de_lst (h : DA X es en S fun xs S1 => xs.length ≤ 100000 ∧ Q (.lst xs) S1) : DE X (.List es pos) en S Q := ⟨fun σ H Hd st re => by
  refine wE_of (pe_lst paW) ?_
  refine wA_mono (h σ H Hd st re) fun vs H1 ⟨xs, S1, Hd1, e1, st1, r1, n1, q1⟩ => ?_
  exact ⟨by rw [r1.length]; exact sz5 n1, fun p hp => .up e1 (new_lst st1 r1 hp q1)⟩⟩
/-- a list that will be changed -/
theorem de_lstO (h : DA X es en S fun xs S1 => xs.length ≤ 100000 ∧ ∀ p, getS p S1 = none → Q (.raw (.ref p)) ((p, xs) :: S1)) : DE X (.List es pos) en S Q := ⟨fun σ H Hd st re => by
  refine wE_of (pe_lst paW) ?_
  refine wA_mono (h σ H Hd st re) fun vs H1 ⟨xs, S1, Hd1, e1, st1, r1, n1, q1⟩ => ?_
  refine ⟨by rw [r1.length]; exact sz5 n1, fun p hp => ?_⟩
  obtain ⟨g, st2⟩ := st1.laidO hp r1
  exact ⟨.raw (.ref p), _, Hd1, e1, st2, rfl, q1 p g⟩⟩
def ixP (x y : D) (S : Sto) (Q : D → Sto → Prop) : Prop := match x, y with
  | .tup l, .int i => ∃ d, atI l i = some d ∧ Q d S
  | .lst l, .int i => ∃ d, atI l i = some d ∧ Q d S
  | .raw (.ref p), .int i => ∃ l d, getS p S = some l ∧ atI l i = some d ∧ Q d S
  | _, _ => False
theorem RpL.at {K : PySem.W.Frag} {H : Hp} {l : List D} {vs : List V} {i : Int} {d : D} (h : RpL K H l vs) (e : atI l i = some d) : ∃ v, atI vs i = some v ∧ Rp K H d v := by
  unfold atI at e ⊢
  rw [h.length]
  cases q : ixN l.length i with
  | none =>
    rw [q] at e
    cases e
  | some j =>
    rw [q] at e
    exact h.get e
theorem de_ix (hs : PlainIx b := by exact fun _ _ => rfl) (h : DE X a en S fun x S1 => DE X b en S1 fun y S2 => ixP x y S2 Q) : DE X (.Subscript a b pos) en S Q := by
  refine de_two (f := fun _ _ => pure .none) (fun ha hb => pe_ix (IxR.or ix_list ix_tup) ha hb hs) (h.mono fun x S1 h1 => h1.mono fun y S2 h2 => ?_)
  intro H Hd vx vy Qv st rx ry k
  unfold ixP at h2
  split at h2
  · obtain ⟨p, xs, e1, e2, e3⟩ := rx
    obtain ⟨d, ed, q⟩ := h2
    obtain ⟨v, ev, rv⟩ := e3.at ed
    exact .inr ⟨p, xs, _, v, e1, ry, same_t st.sub e2, ev, k _ _ (.here st rv q)⟩
  · obtain ⟨p, xs, e1, e2, e3⟩ := rx
    obtain ⟨d, ed, q⟩ := h2
    obtain ⟨v, ev, rv⟩ := e3.at ed
    exact .inl ⟨p, xs, _, v, e1, ry, .of (st.sub _ _ e2), ev, k _ _ (.here st rv q)⟩
  · obtain ⟨l, d, g, ed, q⟩ := h2
    obtain ⟨_, xs, e2, e3⟩ := st.own.at g
    obtain ⟨v, ev, rv⟩ := e3.at ed
    exact .inl ⟨_, xs, _, v, rx, ry, .of e2, ev, k _ _ (.here st rv q)⟩
  · exact h2.elim
theorem ix_t {l : List D} {i : Int} {d : D} (q : Q d S) (h : atI l i = some d := by rfl) : ixP (.tup l) (.int i) S Q := ⟨d, h, q⟩
theorem ix_l {l : List D} {i : Int} {d : D} (q : Q d S) (h : atI l i = some d := by rfl) : ixP (.lst l) (.int i) S Q := ⟨d, h, q⟩
theorem ix_o {p : Addr} {l : List D} {i : Int} {d : D} (g : getS p S = some l) (q : Q d S) (h : atI l i = some d := by rfl) : ixP (.raw (.ref p)) (.int i) S Q := ⟨l, d, g, h, q⟩
/-- the part of a slice -/
def DO (X : Cx) (e : Option Expr) (en : DEnv) (S : Sto) (Q : Option Int → Prop) : Prop := match e with
  | none => Q none
  | some e => DE X e en S fun x S' => S' = S ∧ ∃ i, x = .int i ∧ Q (some i)
def cutD (l : List D) (lo hi : Option Int) : List D := (l.drop (HT.sIx l.length 0 lo)).take (HT.sIx l.length l.length hi - HT.sIx l.length 0 lo)
theorem RpL.cut {K : PySem.W.Frag} {H : Hp} {l : List D} {vs : List V} (h : RpL K H l vs) (lo hi : Option Int) : RpL K H (cutD l lo hi) (cutV vs lo hi) := by
  unfold cutD cutV
  rw [h.length]
  exact (h.drop _).take _
theorem SlR.or {r r' : V → Option Int → Option Int → Hp → VK → Prop} (h : SlR X r) (h' : SlR X r') : SlR X (fun x l u H Q => r x l u H Q ∨ r' x l u H Q) := by
  intro pins s σ H x v vl vu lo hi sl Q I rx hs pl pu q
  rcases q with q | q
  · exact h pins s σ H x v vl vu lo hi sl Q I rx hs pl pu q
  · exact h' pins s σ H x v vl vu lo hi sl Q I rx hs pl pu q
def slP (x : D) (lo hi : Option Int) (S : Sto) (Q : D → Sto → Prop) : Prop := match x with
  | .tup l => ¬ (HT.sIx l.length 0 lo = 0 ∧ HT.sIx l.length l.length hi = l.length) ∧ Q (.tup (cutD l lo hi)) S
  | .lst l => Q (.lst (cutD l lo hi)) S
  | _ => False
theorem de_slice {lo hi : Option Expr} {p2 : Pos} (h : DE X a en S fun x S1 => DO X lo en S1 fun l => DO X hi en S1 fun u => slP x l u S1 Q) : DE X (.Subscript a (.Slice lo hi none p2) pos) en S Q := ⟨fun σ H Hd st re => by
  -- each part's own reading
  have part : ∀ (o : Option Expr), ∃ t : TO, PO X o t ∧ ∀ {S : Sto} {R : Option Int → Prop} (H Hd : Hp), DO X o en S R → St0 X.K S Hd H → RpE X.K Hd en σ → ∀ Qo : Option Int → Hp → Prop, (∀ i H' Hd', Same Hd Hd' → St0 X.K S Hd' H' → R i → Qo i H') → t σ H Qo := by
    intro o
    cases o with
    | none => exact ⟨_, po_none, fun H Hd d st re Qo k => k none H Hd (Same.refl _) st d⟩
    | some e =>
      refine ⟨_, po_some peW, fun {S R} H Hd d st re Qo k => ?_⟩
      have d : DE X e en S fun x S' => S' = S ∧ ∃ i, x = .int i ∧ R (some i) := d
      show wE X e σ H _
      refine wE_mono (d σ H Hd st re) fun v H1 ⟨x, S1, Hd1, e1, st1, r1, eS, i, ex, q⟩ => ?_
      subst ex eS
      exact ⟨i, r1, k (some i) H1 Hd1 e1 st1 q⟩
  obtain ⟨tl, pl, kl⟩ := part lo
  obtain ⟨th, ph, kh⟩ := part hi
  refine wE_of (pe_slice (SlR.or sl_list sl_tup) peW pl ph) ?_
  refine wE_mono (h σ H Hd st re) fun v H1 ⟨x, S1, Hd1, e1, st1, r1, q1⟩ => ?_
  refine kl H1 Hd1 q1 st1 (re.mono e1) _ fun l H2 Hd2 e2 st2 q2 => ?_
  refine kh H2 Hd2 q2 st2 (re.mono (e1.trans e2)) _ fun u H3 Hd3 e3 st3 q3 => ?_
  have r3 := Rp.mono (e2.trans e3) x v r1
  unfold slP at q3
  split at q3
  · obtain ⟨p, xs, f1, f2, f3⟩ := r3
    refine .inr ⟨p, xs, f1, same_t st3.sub f2, ?_, fun a ha => .up ((e1.trans e2).trans e3) (new_tup st3 (f3.cut l u) ha q3.2)⟩
    rw [f3.length]
    exact q3.1
  · obtain ⟨p, xs, f1, f2, f3⟩ := r3
    exact .inl ⟨p, xs, f1, .of (st3.sub _ _ f2), fun a ha => .up ((e1.trans e2).trans e3) (new_lst st3 (f3.cut l u) ha q3)⟩
  · exact q3.elim⟩
end
end DL
namespace DL
open PySem PySem.Spec PyProof.Rows L2

/-! ### promises of defs that may show data (repr): nothing is being shown around them -/
structure GOk (P : Program) (w : World) (K : PySem.W.Frag) (mg : Str → Option Value) (base : Heap) (k : Nat) (f : Addr) (fd : FuncData) (ps : List Str) (sp : Sp) : Prop where
  len : ∀ vs H Q E, sp vs H Q E → vs.length = ps.length
  run : ∀ (A : Around) (fr : List Env) (s : Shared) (H : Hp) (ar : Args) (us : List Value) (vs : List V) (Q : VK) (E : XK), A.guards = some [] → Room k A →
    Env0 P w K mg base A fr s H → BindsTo s fd ar (ps.zip us) → Vals vs us → sp vs H Q E → codeAny (model P w) A (.call (.ref f) ar) (CR CX0 fr P w H s Q E) s
section
variable {P : Program} {w : World} {K : PySem.W.Frag} {mg : Str → Option Value} {base : Heap}
/-- a def of the text keeps its promise, by its body -/
theorem gok_of {k : Nat} {x qual : Str} {st : Stmt} {f : Addr} {fd : FuncData} {N ps : List Str} {sp : Sp} (F : Fun K x qual st f fd) (S : FnScope N ps (defScope st)) (ln : ∀ vs H Q E, sp vs H Q E → vs.length = ps.length)
    (body : ∀ (cdv : Value) (A : Around) (fr : List Env) (s : Shared) (H : Hp) (vs : List V) (Q : VK) (E : XK), (A.deeper (envOfC qual (defScope st) s.heap.objs.size f cdv)).guards = some [] → Room k (A.deeper (envOfC qual (defScope st) s.heap.objs.size f cdv)) → sp vs H Q E →
      wSs (cxOf CX0 P w K mg base N qual (defScope st) f cdv A fr s H E).nox (defBody st) { nx := fun _ H' => Q .non H', rt := Q } (start N vs) H) : GOk P w K mg base (k + 1) f fd ps sp := by
  obtain ⟨oc, od, kV, doc, pm, an, cdv, ct, osl, rfl, lk, hcd⟩ := F.ex
  refine ⟨ln, fun A fr s H ar us vs Q E gd hr e0 hb r hsp => ?_⟩
  have long := ln _ _ _ _ hsp
  have KX : K.In s.heap := e0.mod.kin.keeps fun b o e => (e0.bs b o e).1
  have free : s.heap.NoLimit := e0.mod.nolimit.keeps fun b o e => (e0.bs b o e).1
  refine codeAny_call_function hr.depth (KX _ _ lk) rfl S.co S.gen rfl (PySem.W.codeRec_of KX hcd) (hb _ _ _ _ ?_)
  refine wpAny_newFunctionEnv_cells S.kind (fun y hy => ?_) fun env he s1 xx => ?_
  · obtain ⟨n, v⟩ := y
    rcases S.par n (List.of_mem_zip hy).1 with z | z
    · exact .inl z
    · exact .inr ⟨z, PySem.W.cellsFrom_some _ _ _ (.inl z)⟩
  subst he
  refine ⟨free.keeps xx.toInCall.keep, codeAny_func ?_⟩
  have J : Inv (cxOf CX0 P w K mg base N qual (defScope st) f cdv A fr s H E) [] (start N vs) H s1 := inv_start S hr.hd e0 long r xx
  have run := (pssW (X := (cxOf CX0 P w K mg base N qual (defScope st) f cdv A fr s H E).nox) (sts := defBody st)).nox.run [] s1 (start N vs) H _ J (body cdv A fr s H vs Q E gd (hr.deeper _) hsp)
  refine wpAny_mono run (fun fl s' hs => ?_) fun e s' hs => hs
  have out : ∀ {σ' : L2.St} {H' : Hp} {v : V} {u : Value}, Inv (cxOf CX0 P w K mg base N qual (defScope st) f cdv A fr s H E) [] σ' H' s' → RelV v u → Q v H' → CE fr P w H s Q u s' :=
    fun {σ' H' v u} I rv q => ⟨v, H', I.os, I.bare, I.base, I.hok, rv, q⟩
  cases fl with
  | ret u =>
    obtain ⟨v, σ', H', I, rv, q⟩ := hs
    exact out I rv q
  | next =>
    obtain ⟨σ', H', I, q⟩ := hs
    exact out (v := V.non) (u := Value.none) I rfl q
  | brk => exact hs.elim fun _ h => h.elim fun _ h => h.2.elim
  | cont => exact hs.elim fun _ h => h.elim fun _ h => h.2.elim
end

/-! ### what a def does to data -/
abbrev Con := List D → Sto → (D → Sto → Prop) → Prop
def spD (K : PySem.W.Frag) (C : Con) : Sp := fun vs H Q _ => ∃ (ds : List D) (S : Sto) (Hd : Hp) (Qd : D → Sto → Prop), RpL K Hd ds vs ∧ St0 K S Hd H ∧ C ds S Qd ∧
  ∀ d S' v H' Hd', Qd d S' → Same Hd Hd' → St0 K S' Hd' H' → Rp K Hd' d v → Q v H'
/-- the values in the parameters' order, the named ones by their names -/
def ordV {α : Type} (df : α) (names ks : List Str) (zs : List α) : List α := names.map fun x => ((ks.zip zs).lookup x).getD df
/-- how such a call's arguments are bound: n of them by position -/
def KwOk (fd : FuncData) (ps : List Str) (p : Nat × List Str) : Prop := p.1 + p.2.length = ps.length ∧ (∀ y ∈ ps.drop p.1, y ∈ p.2) ∧
  ∀ us ws : List Value, us.length = p.1 → ws.length = p.2.length → bindArgs fd ⟨us, p.2.zip ws⟩ = pure (ps.zip (us ++ ordV .none (ps.drop p.1) p.2 ws))
/-- a def that stands in the module under the name x, with its promise -/
structure Cal (P : Program) (w : World) (K : PySem.W.Frag) (mg : Str → Option Value) (base : Heap) (k : Nat) (x : Str) (ps : List Str) (kws : List (Nat × List Str)) (C : Con) : Prop where
  ex : ∃ (f : Addr) (fd : FuncData), GOk P w K mg base k f fd ps (spD K C) ∧ mg x = some (.ref f) ∧ PySem.W.keepIn K (.ref f) = true ∧
    (∀ us : List Value, us.length = ps.length → bindArgs fd ⟨us, []⟩ = pure (ps.zip us)) ∧ ∀ p ∈ kws, KwOk fd ps p
theorem lookup_rp {K : PySem.W.Frag} {H : Hp} {y : Str} : ∀ {ks : List Str} {ds : List D} {vs : List V}, RpL K H ds vs → ks.length = ds.length → y ∈ ks → Rp K H (((ks.zip ds).lookup y).getD .non) (((ks.zip vs).lookup y).getD .non)
  | [], _, _, _, _, hy => nomatch hy
  | k :: ks, [], _, _, e, _ => by simp at e
  | k :: ks, d :: ds, _, h, e, hy => by
    obtain ⟨x, xs, rfl, h1, h2⟩ := h
    show Rp K H ((((k, d) :: ks.zip ds).lookup y).getD .non) ((((k, x) :: ks.zip xs).lookup y).getD .non)
    rw [List.lookup_cons, List.lookup_cons]
    cases q : (y == k) with
    | true => exact h1
    | false =>
      have ne : ¬ y = k := fun z => by
        rw [z] at q
        simp at q
      rcases List.mem_cons.mp hy with z | z
      · exact absurd z ne
      · exact lookup_rp h2 (by simpa using e) z
theorem lookup_vals {y : Str} : ∀ {ks : List Str} {vs : List V} {ws : List Value}, Vals vs ws → ks.length = vs.length → y ∈ ks → RelV (((ks.zip vs).lookup y).getD .non) (((ks.zip ws).lookup y).getD .none)
  | [], _, _, _, _, hy => nomatch hy
  | k :: ks, _, _, .nil, e, _ => by simp at e
  | k :: ks, _, _, .cons (a := a) (b := b) (l₁ := l1) (l₂ := l2) h1 h2, e, hy => by
    show RelV ((((k, a) :: ks.zip l1).lookup y).getD .non) ((((k, b) :: ks.zip l2).lookup y).getD .none)
    rw [List.lookup_cons, List.lookup_cons]
    cases q : (y == k) with
    | true => exact h1
    | false =>
      have ne : ¬ y = k := fun z => by
        rw [z] at q
        simp at q
      rcases List.mem_cons.mp hy with z | z
      · exact absurd z ne
      · exact lookup_vals h2 (by simpa using e) z
theorem ord_rp {K : PySem.W.Frag} {H : Hp} {ks : List Str} {ds : List D} {vs : List V} (h : RpL K H ds vs) (e : ks.length = ds.length) : ∀ {names : List Str}, (∀ y ∈ names, y ∈ ks) → RpL K H (ordV .non names ks ds) (ordV .non names ks vs)
  | [], _ => rfl
  | n :: ns, hm => ⟨_, _, rfl, lookup_rp h e (hm n List.mem_cons_self), ord_rp h e fun y hy => hm y (List.mem_cons_of_mem _ hy)⟩
theorem ord_vals {ks : List Str} {vs : List V} {ws : List Value} (h : Vals vs ws) (e : ks.length = vs.length) : ∀ {names : List Str}, (∀ y ∈ names, y ∈ ks) → Vals (ordV .non names ks vs) (ordV .none names ks ws)
  | [], _ => .nil
  | n :: ns, hm => .cons (lookup_vals h e (hm n List.mem_cons_self)) (ord_vals h e fun y hy => hm y (List.mem_cons_of_mem _ hy))

/-! ### calls -/
def wK (X : Cx) (kws : List Keyword) : TA := fun σ H Q => ∀ (pos : Pos) pins s, Inv X pins σ H s → wpAny (model X.prog X.w) X.A (evalAll ((backToKw pos (keywordEach kws X.env)).map (·.2))) (AP X pins σ Q) X.xe s
structure DK (X : Cx) (kws : List Keyword) (en : DEnv) (S : Sto) (Q : List D → Sto → Prop) : Prop where
  run : ∀ (σ : L2.St) (H Hd : Hp), St0 X.K S Hd H → RpE X.K Hd en σ → wK X kws σ H (QA X.K Hd Q)
instance {X : Cx} {kws : List Keyword} {en : DEnv} {S : Sto} {Q : List D → Sto → Prop} : CoeFun (DK X kws en S Q) (fun _ => ∀ (σ : L2.St) (H Hd : Hp), St0 X.K S Hd H → RpE X.K Hd en σ → wK X kws σ H (QA X.K Hd Q)) := ⟨fun h => h.run⟩
section
variable {X : Cx} {a b c e : Expr} {es : List Expr} {kwl : List Keyword} {en : DEnv} {S : Sto} {Q : D → Sto → Prop} {R : List D → Sto → Prop} {pos p kpos : Pos} {k : Nat} {x : Str} {ps ks : List Str} {kws : List (Nat × List Str)} {C : Con}
theorem pkW : PK X kwl (wK X kwl) := ⟨fun pos pins s _ _ _ I h => h pos pins s I⟩
theorem wK_of {t : TA} {σ : L2.St} {H : Hp} {Q : List V → Hp → Prop} (h : PK X kwl t) (q : t σ H Q) : wK X kwl σ H Q := fun pos pins s I => h.run pos pins s σ H Q I q
theorem wK_mono {σ : L2.St} {H : Hp} {Q Q' : List V → Hp → Prop} (h : wK X kwl σ H Q) (k : ∀ v H', Q v H' → Q' v H') : wK X kwl σ H Q' := fun pos pins s I =>
  thn (h pos pins s I) fun _ _ ⟨v, H', I', r, q⟩ => ⟨v, H', I', r, k v H' q⟩
theorem dk_nil (q : R [] S) : DK X [] en S R := ⟨fun σ H Hd st _ => wK_of pk_nil ⟨[], S, Hd, Same.refl _, st, rfl, q⟩⟩
theorem dk_cons {nm : Option Str} (h : DE X e en S fun x S1 => DK X kwl en S1 fun xs S2 => R (x :: xs) S2) (hp : PK X (⟨nm, e, kpos⟩ :: kwl) (tCons (wE X e) (wK X kwl)) := by exact pk_cons peW pkW) : DK X (⟨nm, e, kpos⟩ :: kwl) en S R := ⟨fun σ H Hd st re => by
  refine wK_of hp ?_
  refine wE_mono (h σ H Hd st re) fun v H1 ⟨x, S1, Hd1, e1, st1, r1, q1⟩ => ?_
  refine wK_mono (q1 σ H1 Hd1 st1 (re.mono e1)) fun vs H2 ⟨xs, S2, Hd2, e2, st2, r2, q2⟩ => ?_
  exact ⟨x :: xs, S2, Hd2, e1.trans e2, st2, ⟨v, vs, rfl, Rp.mono e2 x v r1, r2⟩, q2⟩⟩
/-- the callee runs -/
theorem run_cal (c : Cal X.prog X.w X.K X.mg X.base k x ps kws C) (gd : X.A.guards = some []) (hr : Room k X.A) : ∃ f : Addr, X.mg x = some (.ref f) ∧ PySem.W.keepIn X.K (.ref f) = true ∧
    (∀ {pins : List (Addr × Obj)} {σ : L2.St} {H Hd : Hp} {s : Shared} {us : List Value} {vs : List V} {ds : List D} {S : Sto} {Q : D → Sto → Prop} {Qv : VK}, Inv X pins σ H s → Vals vs us → RpL X.K Hd ds vs → St0 X.K S Hd H → C ds S Q → (∀ v H', QD X.K Hd Q v H' → Qv v H') →
      wpAny (model X.prog X.w) X.A (call (.ref f) us) (EP X pins σ Qv) X.xe s) ∧
    ∀ (n : Nat) (ks : List Str), (n, ks) ∈ kws → ∀ {pins : List (Addr × Obj)} {σ : L2.St} {H Hd : Hp} {s : Shared} {us ws : List Value} {vs zs : List V} {ds fs : List D} {S : Sto} {Q : D → Sto → Prop} {Qv : VK}, Inv X pins σ H s → Vals vs us → Vals zs ws → us.length = n → ws.length = ks.length →
      RpL X.K Hd ds vs → RpL X.K Hd fs zs → St0 X.K S Hd H → C (ds ++ ordV .non (ps.drop n) ks fs) S Q → (∀ v H', QD X.K Hd Q v H' → Qv v H') → wpAny (model X.prog X.w) X.A (call (.ref f) us (ks.zip ws)) (EP X pins σ Qv) X.xe s := by
  obtain ⟨f, fd, G, hm, hk, hb, hkw⟩ := c.ex
  refine ⟨f, hm, hk, fun {pins σ H Hd s us vs ds S Q Qv} I r rd st q kq => ?_, fun n ks hn {pins σ H Hd s us ws vs zs ds fs S Q Qv} I r rz ln lw rd rf st q kq => ?_⟩
  · have hs : spD X.K C vs H Qv E0 := ⟨ds, S, Hd, Q, rd, st, q, fun d S' v H' Hd' z1 z2 z3 z4 => kq v H' ⟨d, S', Hd', z2, z3, z4, z1⟩⟩
    have hl : us.length = ps.length := by rw [← r.length]; exact G.len _ _ _ _ hs
    refine wpAny_call (codeAny_mono (G.run X.A X.stack s H ⟨us, []⟩ us vs Qv E0 gd hr I.env0 (.of_eq (hb us hl)) r hs) fun res s' hq => ?_)
    cases res with
    | error e => exact hq.elim
    | ok fl =>
      cases fl with
      | ret u => exact I.after hq
      | next => exact hq.elim
      | brk => exact hq.elim
      | cont => exact hq.elim
  · obtain ⟨k1, k2, k3⟩ := hkw _ hn
    have lz : ks.length = zs.length := by rw [rz.length]; exact lw.symm
    have lf : ks.length = fs.length := by rw [lz, rf.length]
    have hs : spD X.K C (vs ++ ordV .non (ps.drop n) ks zs) H Qv E0 := ⟨_, S, Hd, Q, rd.append (ord_rp rf lf k2), st, q, fun d S' v H' Hd' z1 z2 z3 z4 => kq v H' ⟨d, S', Hd', z2, z3, z4, z1⟩⟩
    refine wpAny_call (codeAny_mono (G.run X.A X.stack s H ⟨us, ks.zip ws⟩ (us ++ ordV .none (ps.drop n) ks ws) _ Qv E0 gd hr I.env0 (.of_eq (k3 us ws ln lw)) (r.append (ord_vals rz lz k2)) hs) fun res s' hq => ?_)
    cases res with
    | error e => exact hq.elim
    | ok fl =>
      cases fl with
      | ret u => exact I.after hq
      | next => exact hq.elim
      | brk => exact hq.elim
      | cont => exact hq.elim
/-- f(e, ..) -/
theorem de_call (c : Cal X.prog X.w X.K X.mg X.base k x ps kws C) (gd : X.A.guards = some []) (hr : Room k X.A) (h : DA X (e :: es) en S fun ds S1 => C ds S1 Q) (hg : Gl X x := by rfl)
    (hdb : (x == ("__debug__" : Str)) = false := by decide) (he : starEach (e :: es) X.env = (false, eval e X.env) :: starEach es X.env := by rfl) (hpl : (backTo pos (starEach es X.env)).any (·.1) = false := by rfl) : DE X (.Call (.Name x p) (e :: es) [] pos) en S Q := by
  refine ⟨fun σ H Hd st re => ?_⟩
  intro pins s I
  obtain ⟨f, hm, hk, run, _⟩ := run_cal c gd hr
  refine wpAny_Call_Name_kw (ld_glob I hg hm ?_ hdb)
  refine PySem.W.callWith_K (h₀ := X.base) I.ok.mod.kin hk (thn (h σ H Hd st re pos pins s I) fun us s1 ⟨vs, H1, I1, r, ds, S1, Hd1, e1, st1, r1, q1⟩ => ⟨I1.kIn, ?_⟩) he hpl
  exact run I1 r r1 st1 q1 fun v H' z => .up e1 z
/-- f(k = v, ..) -/
theorem de_callN (c : Cal X.prog X.w X.K X.mg X.base k x ps kws C) (gd : X.A.guards = some []) (hr : Room k X.A) (hn : (0, ks) ∈ kws) (h : DK X kwl en S fun zs S1 => zs.length = ks.length ∧ C (ordV .non ps ks zs) S1 Q) (hg : Gl X x := by rfl)
    (hall : (backToKw pos (keywordEach kwl X.env)).all (·.1.isSome) = true := by rfl) (hks : (backToKw pos (keywordEach kwl X.env)).filterMap (·.1) = ks := by rfl) (hdb : (x == ("__debug__" : Str)) = false := by decide)
    (hpl : ((backTo pos (starEach [] X.env)).any (·.1) || (backToKw pos (keywordEach kwl X.env)).any (·.1.isNone)) = false := by rfl) : DE X (.Call (.Name x p) [] kwl pos) en S Q := by
  refine ⟨fun σ H Hd st re => ?_⟩
  intro pins s I
  obtain ⟨f, hm, hk, _, run⟩ := run_cal c gd hr
  refine wpAny_Call_Name_kw (ld_glob I hg hm ?_ hdb)
  refine PySem.W.callWith_KW0 (h₀ := X.base) I.ok.mod.kin hk hall (thn (h σ H Hd st re pos pins s I) fun ws s1 ⟨zs, H1, I1, rz, fs, S1, Hd1, e1, st1, r1, l1, q1⟩ => ⟨I1.kIn, ?_⟩) hpl
  rw [hks]
  exact run 0 ks hn (us := []) (vs := []) (ds := []) I1 .nil rz rfl (by rw [← rz.length, r1.length, l1]) rfl r1 st1 q1 fun v H' z => .up e1 z
/-! ### built-ins -/
def DRC (K : PySem.W.Frag) (r : List V → Hp → VK → Prop) (ds : List D) (S : Sto) (Q : D → Sto → Prop) : Prop :=
  ∀ (H Hd : Hp) (vs : List V) (Qv : VK), St0 K S Hd H → RpL K Hd ds vs → (∀ v H', QD K Hd Q v H' → Qv v H') → r vs H Qv
variable {id T : String} {r : List V → Hp → VK → Prop}
theorem de_B (hc : CallR X (.builtin id) r) (hm : X.mg x = none) (hv : bootBuiltins x = some (.builtin id)) (h : DA X (e :: es) en S fun ds S1 => DRC X.K r ds S1 Q) (hg : Gl X x := by rfl) (hn : x ≠ "__name__" := by decide) (hdb : (x == ("__debug__" : Str)) = false := by decide)
    (he : starEach (e :: es) X.env = (false, eval e X.env) :: starEach es X.env := by rfl) (hpl : (backTo pos (starEach es X.env)).any (·.1) = false := by rfl) : DE X (.Call (.Name x p) (e :: es) [] pos) en S Q := ⟨fun σ H Hd st re => by
  refine wE_of (pe_callB hc hg hm hv paW hn hdb he hpl) ?_
  exact wA_mono (h σ H Hd st re) fun vs H1 ⟨ds, S1, Hd1, e1, st1, r1, q1⟩ => q1 H1 Hd1 vs _ st1 r1 fun v H' z => .up e1 z⟩
theorem de_T (hc : CallR X (.type T) r) (hm : X.mg x = none) (hv : bootBuiltins x = some (.type T)) (h : DA X (e :: es) en S fun ds S1 => DRC X.K r ds S1 Q) (hg : Gl X x := by rfl) (hn : x ≠ "__name__" := by decide) (hdb : (x == ("__debug__" : Str)) = false := by decide)
    (he : starEach (e :: es) X.env = (false, eval e X.env) :: starEach es X.env := by rfl) (hpl : (backTo pos (starEach es X.env)).any (·.1) = false := by rfl) : DE X (.Call (.Name x p) (e :: es) [] pos) en S Q := ⟨fun σ H Hd st re => by
  refine wE_of (pe_callTy hc hg hm hv paW hn hdb he hpl) ?_
  exact wA_mono (h σ H Hd st re) fun vs H1 ⟨ds, S1, Hd1, e1, st1, r1, q1⟩ => q1 H1 Hd1 vs _ st1 r1 fun v H' z => .up e1 z⟩
theorem one_rp {K : PySem.W.Frag} {H : Hp} {d : D} {vs : List V} (h : RpL K H [d] vs) : ∃ v, vs = [v] ∧ Rp K H d v := by
  obtain ⟨v, vs', e1, rv, e2⟩ := h
  have e2 : vs' = [] := e2
  subst e2
  exact ⟨v, e1, rv⟩
theorem two_rp {K : PySem.W.Frag} {H : Hp} {d e : D} {vs : List V} (h : RpL K H [d, e] vs) : ∃ v w, vs = [v, w] ∧ Rp K H d v ∧ Rp K H e w := by
  obtain ⟨v, vs', e1, rv, e2⟩ := h
  obtain ⟨w, e3, rw'⟩ := one_rp e2
  subst e3
  exact ⟨v, w, e1, rv, rw'⟩
variable {K : PySem.W.Frag}
theorem drc_abs {i : Int} (q : Q (.int (if i < 0 then -i else i)) S) : DRC K (fun xs H Q => ∃ i, xs = [.int i] ∧ Q (.int (if i < 0 then -i else i)) H) [.int i] S Q := fun H Hd vs Qv st rr k => by
  obtain ⟨v, e1, rv⟩ := one_rp rr
  have rv : v = V.int i := rv
  subst e1 rv
  exact ⟨i, rfl, k _ _ (.here (d := .int _) st rfl q)⟩
theorem drc_int {i : Int} (q : Q (.int i) S) : DRC K (fun xs H Q => (∃ i, xs = [.int i] ∧ Q (.int i) H) ∨ ∃ k, xs = [.bl k] ∧ Q (.int (if k then 1 else 0)) H) [.int i] S Q := fun H Hd vs Qv st rr k => by
  obtain ⟨v, e1, rv⟩ := one_rp rr
  have rv : v = V.int i := rv
  subst e1 rv
  exact .inl ⟨i, rfl, k _ _ (.here (d := .int _) st rfl q)⟩
theorem drc_intb {i : Bool} (q : Q (.int (if i then 1 else 0)) S) : DRC K (fun xs H Q => (∃ i, xs = [.int i] ∧ Q (.int i) H) ∨ ∃ k, xs = [.bl k] ∧ Q (.int (if k then 1 else 0)) H) [.bl i] S Q := fun H Hd vs Qv st rr k => by
  obtain ⟨v, e1, rv⟩ := one_rp rr
  have rv : v = V.bl i := rv
  subst e1 rv
  exact .inr ⟨i, rfl, k _ _ (.here (d := .int _) st rfl q)⟩
theorem drc_max {i j : Int} (q : Q (.int (if j > i then j else i)) S) : DRC K (fun xs H Q => ∃ i j, xs = [.int i, .int j] ∧ Q (.int (if j > i then j else i)) H) [.int i, .int j] S Q := fun H Hd vs Qv st rr k => by
  obtain ⟨v, w, e1, rv, rw'⟩ := two_rp rr
  have rv : v = V.int i := rv
  have rw' : w = V.int j := rw'
  subst e1 rv rw'
  exact ⟨i, j, rfl, k _ _ (.here (d := .int _) st rfl q)⟩
theorem drc_min {i j : Int} (q : Q (.int (if j < i then j else i)) S) : DRC K (fun xs H Q => ∃ i j, xs = [.int i, .int j] ∧ Q (.int (if j < i then j else i)) H) [.int i, .int j] S Q := fun H Hd vs Qv st rr k => by
  obtain ⟨v, w, e1, rv, rw'⟩ := two_rp rr
  have rv : v = V.int i := rv
  have rw' : w = V.int j := rw'
  subst e1 rv rw'
  exact ⟨i, j, rfl, k _ _ (.here (d := .int _) st rfl q)⟩
/-- math.gcd -/
theorem de_gcd {gx : Str} (hm : X.mg gx = some (.builtin "math.gcd")) (h : DA X [a, b] en S fun ds S1 => ∃ i j : Int, ds = [.int i, .int j] ∧ Q (.int ((Nat.gcd i.natAbs j.natAbs : Nat) : Int)) S1) (hg : Gl X gx := by rfl) (hn : gx ≠ "__name__" := by decide) (hdb : (gx == ("__debug__" : Str)) = false := by decide)
    (he : starEach (a :: [b]) X.env = (false, eval a X.env) :: starEach [b] X.env := by rfl) (hpl : (backTo pos (starEach [b] X.env)).any (·.1) = false := by rfl) : DE X (.Call (.Name gx p) [a, b] [] pos) en S Q := ⟨fun σ H Hd st re => by
  refine wE_of (pe_callBfun cr_gcd hg hm paW (hdb := hdb) (he := he) (hpl := hpl)) ?_
  refine wA_mono (h σ H Hd st re) fun vs H1 ⟨ds, S1, Hd1, e1, st1, r1, i, j, e2, q⟩ => ?_
  subst e2
  obtain ⟨v, vs', e3, rv, w, vs2, e4, rw', e5⟩ := r1
  have e5 : vs2 = [] := e5
  subst e3 e4 e5
  exact ⟨i, j, by rw [show v = V.int i from rv, show w = V.int j from rw'], .up e1 (.here (d := .int _) st1 rfl q)⟩⟩
/-- len -/
def lenP (d : D) (S : Sto) (Q : D → Sto → Prop) : Prop := match d with
  | .tup l => Q (.int (l.length : Int)) S
  | .lst l => Q (.int (l.length : Int)) S
  | .scr l => Q (.int (l.length : Int)) S
  | .raw (.ref p) => ∃ l, getS p S = some l ∧ Q (.int (l.length : Int)) S
  | _ => False
theorem drc_len {d : D} (q : lenP d S Q) : DRC K (fun xs H Q => ∃ p ys, xs = [.ref p] ∧ (SqL K H p ys ∨ SqT K H p ys) ∧ Q (.int ys.length) H) [d] S Q := fun H Hd vs Qv st rr k => by
  obtain ⟨v, e1, rv⟩ := one_rp rr
  subst e1
  unfold lenP at q
  split at q
  · obtain ⟨a, xs, f1, f2, f3⟩ := rv
    exact ⟨a, xs, by rw [f1], .inr (same_t st.sub f2), by rw [f3.length]; exact k _ _ (.here (d := .int _) st rfl q)⟩
  · obtain ⟨a, xs, f1, f2, f3⟩ := rv
    exact ⟨a, xs, by rw [f1], .inl (.of (st.sub _ _ f2)), by rw [f3.length]; exact k _ _ (.here (d := .int _) st rfl q)⟩
  · rename_i l
    obtain ⟨a, f1, f2⟩ := rv
    exact ⟨a, l.map V.int, by rw [f1], .inl (same_l st.sub f2), by rw [List.length_map]; exact k _ _ (.here (d := .int _) st rfl q)⟩
  · rename_i a
    obtain ⟨l, g, q⟩ := q
    obtain ⟨_, xs, f2, f3⟩ := st.own.at g
    exact ⟨a, xs, by rw [show v = V.ref a from rv], .inl (.of f2), by rw [f3.length]; exact k _ _ (.here (d := .int _) st rfl q)⟩
  · exact q.elim
/-- tuple(list) -/
theorem drc_tuple {l : List D} (q : Q (.tup l) S) : DRC K (fun xs H Q => ∃ p ys, xs = [.ref p] ∧ ((SqL K H p ys ∧ ∀ l, H l = none → Q (.ref l) (upd H l (.tup ys))) ∨ (SqT K H p ys ∧ Q (.ref p) H))) [.lst l] S Q := fun H Hd vs Qv st rr k => by
  obtain ⟨v, e1, a, xs, f1, f2, f3⟩ := one_rp rr
  subst e1 f1
  exact ⟨a, xs, rfl, .inl ⟨.of (st.sub _ _ f2), fun p hp => k _ _ (new_tup st f3 hp q)⟩⟩
theorem drc_tupleO {p : Addr} {l : List D} (g : getS p S = some l) (q : Q (.tup l) S) : DRC K (fun xs H Q => ∃ p ys, xs = [.ref p] ∧ ((SqL K H p ys ∧ ∀ l, H l = none → Q (.ref l) (upd H l (.tup ys))) ∨ (SqT K H p ys ∧ Q (.ref p) H))) [.raw (.ref p)] S Q := fun H Hd vs Qv st rr k => by
  obtain ⟨v, e1, f1⟩ := one_rp rr
  have f1 : v = V.ref p := f1
  subst e1 f1
  obtain ⟨_, xs, f2, f3⟩ := st.own.at g
  exact ⟨p, xs, rfl, .inl ⟨.of f2, fun p hp => k _ _ (new_tup st f3 hp q)⟩⟩
end

/-! ### repr -/
mutual
/-- data that is shown: ints of less than 1900 bits, plain texts, not too many things -/
def shoP : D → Prop
  | .int i => i.natAbs < 2 ^ 1900
  | .str x => (x.cps.toList.all fun c => decide (c < 16 ^ 8)) = true
  | .tup l => shoL l
  | .lst l => shoL l
  | .scr _ => False
  | .raw _ => False
  | .ext _ => False
  | .non => True
  | .bl _ => True
def shoL : List D → Prop
  | [] => True
  | d :: ds => shoP d ∧ shoL ds
end
theorem digits_le {i : Int} (h : i.natAbs < 2 ^ 1900) : ((PyData.shown (.int i)).length ≤ 1921) ∧ i.natAbs.log2 < 1920 := by
  have h2 : i.natAbs.log2 < 1920 := Nat.lt_of_lt_of_le (PySem.Flt.log2_lt_of (by decide) h) (by decide)
  exact ⟨int_text_len_1921 h2, h2⟩
mutual
/-- how many things -/
def bigD : D → Nat
  | .str x => x.cps.size
  | .tup l => bigL l
  | .lst l => bigL l
  | _ => 0
def bigL : List D → Nat
  | [] => 0
  | d :: ds => bigD d + 1 + bigL ds
end
section
variable {X : Cx}
end
end DL
namespace DL
open PySem PySem.Spec PyProof.Rows L2

/-! ### statements -/
structure Dn where
  nx : DEnv → Sto → Prop
  rt : D → Sto → Prop
  bk : DEnv → Sto → Prop := fun _ _ => False
  ct : DEnv → Sto → Prop := fun _ _ => False
structure Lift (K : PySem.W.Frag) (Hd : Hp) (Z : Dn) (De : Ends) : Prop where
  nx : ∀ en S σ H Hd', Same Hd Hd' → St0 K S Hd' H → RpE K Hd' en σ → Z.nx en S → De.nx σ H
  rt : ∀ d S v H Hd', Same Hd Hd' → St0 K S Hd' H → Rp K Hd' d v → Z.rt d S → De.rt v H
  bk : ∀ en S σ H Hd', Same Hd Hd' → St0 K S Hd' H → RpE K Hd' en σ → Z.bk en S → De.bk σ H
  ct : ∀ en S σ H Hd', Same Hd Hd' → St0 K S Hd' H → RpE K Hd' en σ → Z.ct en S → De.ct σ H
theorem Lift.up {K : PySem.W.Frag} {Hd Hd' : Hp} {Z : Dn} {De : Ends} (e : Same Hd Hd') (l : Lift K Hd Z De) : Lift K Hd' Z De :=
  ⟨fun en S σ H H2 k => l.nx en S σ H H2 (e.trans k), fun d S v H H2 k => l.rt d S v H H2 (e.trans k), fun en S σ H H2 k => l.bk en S σ H H2 (e.trans k), fun en S σ H H2 k => l.ct en S σ H H2 (e.trans k)⟩
structure DS1 (X : Cx) (st : Stmt) (en : DEnv) (S : Sto) (Z : Dn) : Prop where
  run : ∀ (σ : L2.St) (H Hd : Hp), St0 X.K S Hd H → RpE X.K Hd en σ → ∀ De : Ends, Lift X.K Hd Z De → wS X st De σ H
instance {X : Cx} {st : Stmt} {en : DEnv} {S : Sto} {Z : Dn} : CoeFun (DS1 X st en S Z) (fun _ => ∀ (σ : L2.St) (H Hd : Hp), St0 X.K S Hd H → RpE X.K Hd en σ → ∀ De : Ends, Lift X.K Hd Z De → wS X st De σ H) := ⟨fun h => h.run⟩
structure DS (X : Cx) (sts : List Stmt) (en : DEnv) (S : Sto) (Z : Dn) : Prop where
  run : ∀ (σ : L2.St) (H Hd : Hp), St0 X.K S Hd H → RpE X.K Hd en σ → ∀ De : Ends, Lift X.K Hd Z De → wSs X sts De σ H
instance {X : Cx} {sts : List Stmt} {en : DEnv} {S : Sto} {Z : Dn} : CoeFun (DS X sts en S Z) (fun _ => ∀ (σ : L2.St) (H Hd : Hp), St0 X.K S Hd H → RpE X.K Hd en σ → ∀ De : Ends, Lift X.K Hd Z De → wSs X sts De σ H) := ⟨fun h => h.run⟩
/-- a target takes data -/
structure DG (X : Cx) (tg : Expr) (d : D) (en : DEnv) (S : Sto) (N : DEnv → Sto → Prop) : Prop where
  run : ∀ (σ : L2.St) (H Hd : Hp) (v : V), St0 X.K S Hd H → RpE X.K Hd en σ → Rp X.K Hd d v →
  wG X tg v σ H fun σ' H' => ∃ en' S' Hd', Same Hd Hd' ∧ St0 X.K S' Hd' H' ∧ RpE X.K Hd' en' σ' ∧ N en' S'
instance {X : Cx} {tg : Expr} {d : D} {en : DEnv} {S : Sto} {N : DEnv → Sto → Prop} : CoeFun (DG X tg d en S N) (fun _ => ∀ (σ : L2.St) (H Hd : Hp) (v : V), St0 X.K S Hd H → RpE X.K Hd en σ → Rp X.K Hd d v →
  wG X tg v σ H fun σ' H' => ∃ en' S' Hd', Same Hd Hd' ∧ St0 X.K S' Hd' H' ∧ RpE X.K Hd' en' σ' ∧ N en' S') := ⟨fun h => h.run⟩
def wGs (X : Cx) (ts : List Expr) : TGs := fun vs σ H Q => ∀ pins s us, Inv X pins σ H s → Vals vs us →
  wpAny (model X.prog X.w) X.A (assignInOrder ((assignEach ts X.env).map (·.2)) us) (fun _ s' => ∃ σ' H', Inv X pins σ' H' s' ∧ Q σ' H') X.xe s
structure DGs (X : Cx) (ts : List Expr) (ds : List D) (en : DEnv) (S : Sto) (N : DEnv → Sto → Prop) : Prop where
  run : ∀ (σ : L2.St) (H Hd : Hp) (vs : List V), St0 X.K S Hd H → RpE X.K Hd en σ → RpL X.K Hd ds vs →
  wGs X ts vs σ H fun σ' H' => ∃ en' S' Hd', Same Hd Hd' ∧ St0 X.K S' Hd' H' ∧ RpE X.K Hd' en' σ' ∧ N en' S'
instance {X : Cx} {ts : List Expr} {ds : List D} {en : DEnv} {S : Sto} {N : DEnv → Sto → Prop} : CoeFun (DGs X ts ds en S N) (fun _ => ∀ (σ : L2.St) (H Hd : Hp) (vs : List V), St0 X.K S Hd H → RpE X.K Hd en σ → RpL X.K Hd ds vs →
  wGs X ts vs σ H fun σ' H' => ∃ en' S' Hd', Same Hd Hd' ∧ St0 X.K S' Hd' H' ∧ RpE X.K Hd' en' σ' ∧ N en' S') := ⟨fun h => h.run⟩
section
variable {X : Cx} {a b c e tg : Expr} {es ts : List Expr} {st : Stmt} {sts rest : List Stmt} {en en' : DEnv} {S : Sto} {Z : Dn} {N : DEnv → Sto → Prop} {pos pos' p2 : Pos} {x : Str} {d : D} {ds : List D}
theorem pgsW : PGs X ts (wGs X ts) := ⟨fun pins s _ _ vs us _ I r h => h pins s us I r⟩
theorem wGs_of {t : TGs} {vs : List V} {σ : L2.St} {H : Hp} {Q : L2.St → Hp → Prop} (h : PGs X ts t) (q : t vs σ H Q) : wGs X ts vs σ H Q := fun pins s us I r => h.run pins s σ H vs us Q I r q
theorem DG.mono {N' : DEnv → Sto → Prop} (h : DG X tg d en S N) (k : ∀ en' S', N en' S' → N' en' S') : DG X tg d en S N' := ⟨fun σ H Hd v st re r =>
  wG_mono (h σ H Hd v st re r) fun _ _ ⟨en', S', Hd', z1, z2, z3, q⟩ => ⟨en', S', Hd', z1, z2, z3, k _ _ q⟩⟩
theorem ds_nil (q : Z.nx en S) : DS X [] en S Z := ⟨fun σ H Hd st re De l => wSs_of pss_nil (l.nx en S σ H Hd (Same.refl _) st re q)⟩
theorem ds_cons (h : DS1 X st en S { Z with nx := fun en' S' => DS X rest en' S' Z }) : DS X (st :: rest) en S Z := ⟨fun σ H Hd s0 re De l => by
  refine wSs_of (pss_cons psW pssW) ?_
  exact h σ H Hd s0 re _ ⟨fun en' S' σ' H' Hd' z1 z2 z3 q => q σ' H' Hd' z2 z3 De (l.up z1), l.rt, l.bk, l.ct⟩⟩
/-- a changed list is changed no more -/
theorem ds_freeze (i : Nat) {p : Addr} {l : List D} {S' : Sto} (he : en[i]? = some (some (.raw (.ref p))) := by rfl) (h : DS X sts (en.set i (some (.lst l))) S' Z) (hS : S = (p, l) :: S' := by rfl) : DS X sts en S Z := ⟨fun σ H Hd st re De lf => by
  subst hS
  obtain ⟨xs, r, e1, st'⟩ := st.frozen
  obtain ⟨v, e2, rv⟩ := re.get he
  have rv : v = V.ref p := rv
  subst rv
  have re' : RpE X.K (upd Hd p (.lst xs)) (en.set i (some (.lst l))) (σ.set i (some (.ref p))) := (re.mono e1).set (d := .lst l) ⟨p, xs, rfl, upd_same, r.mono e1⟩ i
  have es : σ.set i (some (.ref p)) = σ := by
    have hi := List.getElem?_eq_some_iff.mp e2
    obtain ⟨h1, h2⟩ := hi
    rw [← h2]
    exact List.set_getElem_self h1
  rw [es] at re'
  exact h σ H _ st' re' De (lf.up e1)⟩
/-- a changed list is forgotten -/
theorem ds_forget {p : Addr} {l : List D} {S' : Sto} (h : DS X sts en S' Z) (hS : S = (p, l) :: S' := by rfl) : DS X sts en S Z := ⟨fun σ H Hd st re De lf => by
  subst hS
  exact h σ H Hd st.drop re De lf⟩
/-! ### targets -/
theorem dg_name (i : Nat) {en' : DEnv} (q : N en' S) (hN : X.N.Nodup) (hi : X.N[i]? = some x := by rfl) (hx : Loc X.env.scope x := by first | exact Or.inl rfl | exact Or.inr rfl)
    (hf : X.fn x = true ∨ X.env.scope.names.lookup x = some .local := by first | exact .inl rfl | exact .inr rfl) (he : en.set i (some d) = en' := by set_option simprocs false in dsimp only [List.set]) : DG X (.Name x pos) d en S N := ⟨fun σ H Hd v st re r =>
  wG_of (pg_name hN hi hx hf) ⟨_, S, Hd, Same.refl _, st, re.set r i, by rw [he]; exact q⟩⟩
/-- the slots written out -/
theorem ds_nrm {en' : DEnv} (h : DS X sts en' S Z) (he : en = en' := by set_option simprocs false in dsimp only [List.set]) : DS X sts en S Z := by
  rw [he]
  exact h
theorem dgs_nil (q : N en S) : DGs X [] [] en S N := ⟨fun σ H Hd vs st re r => wGs_of pgs_nil ⟨r, en, S, Hd, Same.refl _, st, re, q⟩⟩
theorem dgs_cons (h : DG X e d en S fun en1 S1 => DGs X es ds en1 S1 N) (hs : (assignEach (e :: es) X.env).map (·.2) = assign e X.env :: (assignEach es X.env).map (·.2) := by rfl) : DGs X (e :: es) (d :: ds) en S N := ⟨fun σ H Hd vs st re r => by
  obtain ⟨v, vr, e1, r1, r2⟩ := r
  subst e1
  refine wGs_of (pgs_cons pgW pgsW hs) ⟨v, vr, rfl, ?_⟩
  refine wG_mono (h σ H Hd v st re r1) fun σ1 H1 ⟨en1, S1, Hd1, z1, z2, z3, q⟩ => ?_
  intro pins s us I rr
  refine thn (q σ1 H1 Hd1 vr z2 z3 (r2.mono z1) pins s us I rr) fun _ s2 ⟨σ2, H2, I2, en2, S2, Hd2, y1, y2, y3, y4⟩ => ⟨σ2, H2, I2, en2, S2, Hd2, z1.trans y1, y2, y3, y4⟩⟩
theorem dg_tup {k : Nat} {n : Nat} (hc : X.calm = true) (hl : ds.length = n) (h : DGs X es ds en S N) (hn : (assignEach es X.env).length = n := by rfl) (hst : (assignEach es X.env).findIdx? (·.1) = none := by rfl) : DG X (.Tuple es k pos) (.tup ds) en S N := ⟨fun σ H Hd v st re r => by
  obtain ⟨a, xs, e1, e2, e3⟩ := r
  subst e1
  exact wG_of (pg_tup hc pgsW hn hst) ⟨a, xs, rfl, same_t st.sub e2, by rw [e3.length]; exact hl, h σ H Hd xs st re e3⟩⟩
theorem dg_tupL {k : Nat} {n : Nat} (hc : X.calm = true) (hl : ds.length = n) (h : DGs X es ds en S N) (pl : ∀ {t : TGs}, PGs X es t → PG X (.Tuple es k pos) (gLst X.K n t)) : DG X (.Tuple es k pos) (.lst ds) en S N := ⟨fun σ H Hd v st re r => by
  obtain ⟨a, xs, e1, e2, e3⟩ := r
  subst e1
  exact wG_of (pl pgsW) ⟨a, xs, rfl, .of (st.sub _ _ e2), by rw [e3.length]; exact hl, h σ H Hd xs st re e3⟩⟩
/-- xs[i] = .., a changed list -/
theorem dg_sub (h : DE X a en S fun o S1 => DE X b en S1 fun i S2 => ∃ (p : Addr) (k : Int) (l : List D) (j : Nat), o = .raw (.ref p) ∧ i = .int k ∧ getS p S2 = some l ∧ ixN l.length k = some j ∧ N en (setS p (l.set j d) S2))
    (ha : ∀ v, assign (.Subscript a b pos) X.env v = (do
      let ov ← holding [v] (eval a X.env)
      let iv ← holding [v, ov] (eval b X.env)
      standAt pos
      holding [v, ov, iv] (setItem ov iv v)
      release [v, ov, iv] []) := by intro _; rfl) : DG X (.Subscript a b pos) d en S N := ⟨fun σ H Hd v st re r => by
  refine wG_of (pg_sub peW peW set_list ha) ?_
  refine wE_mono (h σ H Hd st re) fun o H1 ⟨od, S1, Hd1, e1, st1, r1, q1⟩ => ?_
  refine wE_mono (q1 σ H1 Hd1 st1 (re.mono e1)) fun i H2 ⟨idd, S2, Hd2, e2, st2, r2, p, k, l, j, f1, f2, g, hj, q⟩ => ?_
  subst f1 f2
  have r1 : o = V.ref p := r1
  have r2 : i = V.int k := r2
  subst r1 r2
  obtain ⟨hd, xs, hx, rx⟩ := st2.own.at g
  have e12 := e1.trans e2
  refine ⟨p, xs, k, j, rfl, rfl, hx, by rw [rx.length]; exact hj, ?_⟩
  exact ⟨en, _, Hd2, e12, st2.written g (RpL.set (Rp.mono e12 d v r) j rx), re.mono e12, q⟩⟩
/-! ### assignments, return, if -/
theorem ds_asg (h : DE X e en S fun d S1 => DG X tg d en S1 Z.nx) (hs : swapsWithSole [tg] e pos.line X.env = pure false := by first | exact sws1 rfl | exact sw0 rfl | rfl) (hw : swappedStores [tg] e X.env = pure none := by first | exact sst rfl | rfl)
    (h1 : (assignEach [tg] X.env).map (·.2) = [assign tg X.env] := by rfl) : DS1 X (.Assign [tg] e pos) en S Z := ⟨fun σ H Hd st re De l => by
  refine wS_of (ps_asg peW pgW hs hw h1) ?_
  refine wE_mono (h σ H Hd st re) fun v H1 ⟨d, S1, Hd1, e1, st1, r1, q⟩ => ?_
  refine wG_mono (q σ H1 Hd1 v st1 (re.mono e1) r1) fun σ2 H2 ⟨en2, S2, Hd2, z1, z2, z3, z4⟩ => ?_
  exact l.nx en2 S2 σ2 H2 Hd2 (e1.trans z1) z2 z3 z4⟩
/-- a, b = x, y -/
theorem ds_par {i j : Nat} {y : Str} {px py pt : Pos} {kt k2 pt2} (hc : X.calm = true) (hN : X.N.Nodup) (hi : X.N[i]? = some x) (hj : X.N[j]? = some y) (hij : i ≠ j) (h : DA X [a, b] en S fun vs S1 => ∃ v w, vs = [v, w] ∧ Z.nx ((en.set i (some v)).set j (some w)) S1)
    (hx : X.env.scope.names.lookup x = some .local := by rfl) (hy : X.env.scope.names.lookup y = some .local := by rfl)
    (hw : swappedStores [.Tuple [.Name x px, .Name y py] kt pt] (.Tuple [a, b] k2 pt2) X.env = pure (some [x, y]) := by rfl)
    (hs : swapsWithSole [.Tuple [.Name x px, .Name y py] kt pt] (.Tuple [a, b] k2 pt2) pos.line X.env = pure false := by first | exact sws1 rfl | exact sw0 rfl | rfl) : DS1 X (.Assign [.Tuple [.Name x px, .Name y py] kt pt] (.Tuple [a, b] k2 pt2) pos) en S Z := ⟨fun σ H Hd st re De l => by
  refine wS_of (ps_par hc hN hi hj hij hx hy paW hw hs) ?_
  refine wA_mono (h σ H Hd st re) fun vs H1 ⟨ds, S1, Hd1, e1, st1, r1, v, w, e2, q⟩ => ?_
  subst e2
  obtain ⟨v1, w1, e3, rv, rw'⟩ := two_rp r1
  exact ⟨v1, w1, e3, l.nx _ S1 _ H1 Hd1 e1 st1 (((re.mono e1).set rv i).set rw' j) q⟩⟩
theorem ds_ret (h : DE X e en S Z.rt) : DS1 X (.Return (some e) pos) en S Z := ⟨fun σ H Hd st re De l =>
  wS_of (ps_ret peW) (wE_mono (h σ H Hd st re) fun v H1 ⟨d, S1, Hd1, e1, st1, r1, q⟩ => l.rt d S1 v H1 Hd1 e1 st1 r1 q)⟩
theorem ds_if {s1 s2 : List Stmt} (h : DT X c en S fun t S1 => (t = true → DS X s1 en S1 Z) ∧ (t = false → DS X s2 en S1 Z)) : DS1 X (.If c s1 s2 pos) en S Z := ⟨fun σ H Hd st re De l => by
  refine wS_of (ps_if ptW pssW pssW) ?_
  refine wT_mono (h σ H Hd st re) fun t H1 ⟨S1, Hd1, e1, st1, q1, q2⟩ => ?_
  cases t with
  | true =>
    rw [if_pos rfl]
    exact q1 rfl σ H1 Hd1 st1 (re.mono e1) De (l.up e1)
  | false =>
    rw [if_neg Bool.false_ne_true]
    exact q2 rfl σ H1 Hd1 st1 (re.mono e1) De (l.up e1)⟩
theorem ds_expr (h : DE X e en S fun _ S1 => Z.nx en S1) (hs : swapsWith e none pos.line X.env = pure false := by first | exact sws1 rfl | exact sw0 rfl | rfl) : DS1 X (.Expr e pos) en S Z := ⟨fun σ H Hd st re De l =>
  wS_of (ps_expr peW hs) (wE_mono (h σ H Hd st re) fun v H1 ⟨d, S1, Hd1, e1, st1, r1, q⟩ => l.nx en S1 σ H1 Hd1 e1 st1 (re.mono e1) q)⟩
/-- xs.append(e) -/
theorem de_append {o : Expr} {apos cpos : Pos} {Q : D → Sto → Prop} (h : DE X o en S fun d S1 => ∃ p l, d = .raw (.ref p) ∧ getS p S1 = some l ∧ DA X [e] en S1 fun vs S2 => ∃ v l, vs = [v] ∧ getS p S2 = some l ∧ l.length < 100000 ∧ Q .non (setS p (l ++ [v]) S2))
    (mk : ∀ {to : TE} {t : TA}, PE X o to → PA X [e] t → PE X (.Call (.Attribute o "append" apos) [e] [] cpos) (tBM X.K "list" rAppend to t) := by
      exact fun ho ha => pe_bm PySem.F.plainAttrs_list PySem.F.slot_list_append PySem.F.type_list_append mt_append ho ha) : DE X (.Call (.Attribute o "append" apos) [e] [] cpos) en S Q := ⟨fun σ H Hd st re => by
  refine wE_of (mk peW paW) ?_
  refine wE_mono (h σ H Hd st re) fun o' H1 ⟨d, S1, Hd1, e1, st1, r1, p, l, f1, g, q⟩ => ?_
  subst f1
  have r1 : o' = V.ref p := r1
  subst r1
  obtain ⟨_, xs, hx, _⟩ := st1.own.at g
  refine ⟨.inl ⟨rfl, xs, .of hx⟩, ?_⟩
  refine wA_mono (q σ H1 Hd1 st1 (re.mono e1)) fun vs H2 ⟨ds, S2, Hd2, e2, st2, r2, v, l2, f2, g2, n2, q2⟩ => ?_
  subst f2
  obtain ⟨v1, f3, rv⟩ := one_rp r2
  subst f3
  obtain ⟨_, ys, hy, ry⟩ := st2.own.at g2
  have ln : ys.length < sizeLine := by
    rw [ry.length]
    exact Nat.lt_of_lt_of_le n2 (by decide)
  refine ⟨p, ys, v1, rfl, rfl, hy, ln, ?_⟩
  exact ⟨.non, _, Hd2, e1.trans e2, st2.written g2 (ry.append (show RpL X.K Hd2 [v] [v1] from ⟨v1, [], rfl, rv, rfl⟩)), rfl, q2⟩⟩
end

/-! ### loops -/
/-- the iterator yields these data, one after another -/
structure ItOk (K : PySem.W.Frag) (Hd : Hp) (J : It) (ds : List D) : Prop where
  go : ∀ {Hd' H : Hp} {S : Sto} {i : Nat} {d : D}, Same Hd Hd' → St0 K S Hd' H → ds[i]? = some d → J.go i H ∧ ∀ x H', J.yld i H x H' → ∃ Hd2, Same Hd' Hd2 ∧ St0 K S Hd2 H' ∧ Rp K Hd2 d x
  stop : ∀ {Hd' H : Hp} {S : Sto}, Same Hd Hd' → St0 K S Hd' H → J.stop ds.length H
def wI (X : Cx) (tg iter : Expr) : TI := fun σ H R => ∀ pins s, Inv X pins σ H s →
  wpAny (model X.prog X.w) X.A (eval iter X.env) (fun v s1 => wpAny (model X.prog X.w) X.A (pyIter v) (PIE X pins σ tg R) X.xe s1) X.xe s
structure DI (X : Cx) (tg iter : Expr) (en : DEnv) (S : Sto) (R : List D → Sto → Prop) : Prop where
  run : ∀ (σ : L2.St) (H Hd : Hp), St0 X.K S Hd H → RpE X.K Hd en σ →
  wI X tg iter σ H fun J H' => ∃ ds S' Hd', Same Hd Hd' ∧ St0 X.K S' Hd' H' ∧ ItOk X.K Hd' J ds ∧ R ds S'
instance {X : Cx} {tg iter : Expr} {en : DEnv} {S : Sto} {R : List D → Sto → Prop} : CoeFun (DI X tg iter en S R) (fun _ => ∀ (σ : L2.St) (H Hd : Hp), St0 X.K S Hd H → RpE X.K Hd en σ →
  wI X tg iter σ H fun J H' => ∃ ds S' Hd', Same Hd Hd' ∧ St0 X.K S' Hd' H' ∧ ItOk X.K Hd' J ds ∧ R ds S') := ⟨fun h => h.run⟩
section
variable {X : Cx} {a b c e tg iter : Expr} {es ts : List Expr} {st : Stmt} {sts rest body : List Stmt} {en en' : DEnv} {S : Sto} {Z : Dn} {N : DEnv → Sto → Prop} {pos pos' p2 p : Pos} {x : Str} {d : D} {ds : List D} {R : List D → Sto → Prop}
theorem piW : PI X tg iter (wI X tg iter) := ⟨fun pins s _ _ _ I h => h pins s I⟩
theorem wI_of {t : TI} {σ : L2.St} {H : Hp} {Q : It → Hp → Prop} (h : PI X tg iter t) (q : t σ H Q) : wI X tg iter σ H Q := fun pins s I => h.run pins s σ H Q I q
theorem it_list {K : PySem.W.Frag} {Hd : Hp} {a : Addr} {xs : List V} (h : SqL K Hd a xs) (r : RpL K Hd ds xs) (inj : ∀ {H : Hp} {ys zs : List V}, SqL K H a ys → SqL K H a zs → True) : ItOk K Hd (Itl K a) ds where
  go := fun {Hd' H S i d} e st hi => by
    obtain ⟨v, hv, rv⟩ := r.get hi
    have hs := same_l (e.trans st.sub) h
    refine ⟨⟨xs, v, hs, hv⟩, fun x H' y => ?_⟩
    obtain ⟨e1, y⟩ := y
    subst e1
    have q := y xs hs
    rw [hv] at q
    cases q
    exact ⟨Hd', Same.refl _, st, Rp.mono e d v rv⟩
  stop := fun {Hd' H S} e st => ⟨xs, same_l (e.trans st.sub) h, by rw [r.length]; exact Nat.le_refl _⟩
theorem it_tup {K : PySem.W.Frag} {Hd : Hp} {a : Addr} {xs : List V} (h : SqT K Hd a xs) (r : RpL K Hd ds xs) : ItOk K Hd (Itt K a) ds where
  go := fun {Hd' H S i d} e st hi => by
    obtain ⟨v, hv, rv⟩ := r.get hi
    have hs := same_t (e.trans st.sub) h
    refine ⟨⟨xs, v, hs, hv⟩, fun x H' y => ?_⟩
    obtain ⟨e1, y⟩ := y
    subst e1
    have q := y xs hs
    rw [hv] at q
    cases q
    exact ⟨Hd', Same.refl _, st, Rp.mono e d v rv⟩
  stop := fun {Hd' H S} e st => ⟨xs, same_t (e.trans st.sub) h, by rw [r.length]; exact Nat.le_refl _⟩
def rngD (lo : Int) (n : Nat) : List D := (List.range n).map fun i => D.int (lo + (i : Nat))
theorem rngD_len {lo : Int} {n : Nat} : (rngD lo n).length = n := by unfold rngD; simp
theorem rngD_get {lo : Int} {n i : Nat} {d : D} (h : (rngD lo n)[i]? = some d) : i < n ∧ d = .int (lo + (i : Nat)) := by
  have hi : i < n := by
    have := (List.getElem?_eq_some_iff.mp h).1
    rw [rngD_len] at this
    exact this
  refine ⟨hi, ?_⟩
  unfold rngD at h
  rw [List.getElem?_map, List.getElem?_range hi] at h
  exact (Option.some.inj h).symm
theorem it_rng {K : PySem.W.Frag} {Hd : Hp} {lo : Int} {n : Nat} : ItOk K Hd (Itr lo n) (rngD lo n) where
  go := fun {Hd' H S i d} e st hi => by
    obtain ⟨h1, h2⟩ := rngD_get hi
    subst h2
    refine ⟨h1, fun x H' y => ?_⟩
    obtain ⟨e1, e2⟩ := y
    subst e1 e2
    exact ⟨Hd', Same.refl _, st, rfl⟩
  stop := fun {Hd' H S} e st => by
    show n ≤ (rngD lo n).length
    rw [rngD_len]
    exact Nat.le_refl _
def enuD (ds : List D) : List D := ds.mapIdx fun i d => D.tup [.int (i : Nat), d]
theorem enuD_get {i : Nat} {d : D} (h : (enuD ds)[i]? = some d) : ∃ x, ds[i]? = some x ∧ d = .tup [.int (i : Nat), x] := by
  unfold enuD at h
  rw [List.getElem?_mapIdx] at h
  cases q : ds[i]? with
  | none => rw [q] at h; cases h
  | some x =>
    rw [q] at h
    exact ⟨x, rfl, (Option.some.inj h).symm⟩
theorem it_enu {K : PySem.W.Frag} {Hd : Hp} {a : Addr} {xs : List V} (h : SqL K Hd a xs) (r : RpL K Hd ds xs) : ItOk K Hd (Ite K a) (enuD ds) where
  go := fun {Hd' H S i d} e st hi => by
    obtain ⟨z, hz, ez⟩ := enuD_get hi
    subst ez
    obtain ⟨v, hv, rv⟩ := r.get hz
    have hs := same_l (e.trans st.sub) h
    refine ⟨⟨xs, v, hs, hv⟩, fun x H' y => ?_⟩
    obtain ⟨T, w, e1, hT, e2, y⟩ := y
    subst e1 e2
    have q := y xs hs
    rw [hv] at q
    cases q
    obtain ⟨k1, k2⟩ := st.laid (o := .tup [.int (i : Nat), v]) hT
    exact ⟨_, k1, k2, T, _, rfl, SqT.of upd_same, ⟨_, _, rfl, rfl, _, _, rfl, Rp.mono (e.trans k1) z v rv, rfl⟩⟩
  stop := fun {Hd' H S} e st => by
    refine ⟨xs, same_l (e.trans st.sub) h, ?_⟩
    rw [r.length]
    unfold enuD
    simp
theorem di_lst (h : DE X iter en S fun d S1 => ∃ l, d = .lst l ∧ R l S1) : DI X tg iter en S R := ⟨fun σ H Hd st re => by
  refine wI_of (pi_list peW) ?_
  refine wE_mono (h σ H Hd st re) fun v H1 ⟨d, S1, Hd1, e1, st1, r1, l, e2, q⟩ => ?_
  subst e2
  obtain ⟨a, xs, f1, f2, f3⟩ := r1
  exact ⟨a, f1, ⟨xs, .of (st1.sub _ _ f2)⟩, l, S1, Hd1, e1, st1, it_list (.of f2) f3 (fun _ _ => trivial), q⟩⟩
theorem di_tup (h : DE X iter en S fun d S1 => ∃ l, d = .tup l ∧ R l S1) : DI X tg iter en S R := ⟨fun σ H Hd st re => by
  refine wI_of (pi_tup peW) ?_
  refine wE_mono (h σ H Hd st re) fun v H1 ⟨d, S1, Hd1, e1, st1, r1, l, e2, q⟩ => ?_
  subst e2
  obtain ⟨a, xs, f1, f2, f3⟩ := r1
  exact ⟨a, f1, ⟨xs, same_t st1.sub f2⟩, l, S1, Hd1, e1, st1, it_tup f2 f3, q⟩⟩
theorem di_rng1 (hm : X.mg "range" = none) (h : DA X [a] en S fun ds S1 => ∃ n : Int, ds = [.int n] ∧ (-(2 ^ 62) ≤ n ∧ n < 2 ^ 62) ∧ R (rngD 0 n.toNat) S1) (hg : Gl X "range" := by rfl) (hs : starEach [a] X.env = [(false, eval a X.env)] := by rfl) : DI X tg (.Call (.Name "range" p) [a] [] pos) en S R := ⟨fun σ H Hd st re => by
  refine wI_of (pi_range1 hg hm paW hs) ?_
  refine wA_mono (h σ H Hd st re) fun vs H1 ⟨ds, S1, Hd1, e1, st1, r1, n, e2, ⟨n1, n2⟩, q⟩ => ?_
  subst e2
  obtain ⟨v, f1, rv⟩ := one_rp r1
  have rv : v = V.int n := rv
  subst f1 rv
  exact ⟨n, rfl, n1, n2, _, S1, Hd1, e1, st1, it_rng, q⟩⟩
theorem di_enum {elts : List Expr} {kk : Nat} {tpos : Pos} (hm : X.mg "enumerate" = none) (h : DA X [e] en S fun ds S1 => ∃ l, ds = [.lst l] ∧ R (enuD l) S1) (hg : Gl X "enumerate" := by rfl) (hs : starEach [e] X.env = [(false, eval e X.env)] := by rfl) :
    DI X (.Tuple elts kk tpos) (.Call (.Name "enumerate" p) [e] [] pos) en S R := ⟨fun σ H Hd st re => by
  refine wI_of (pi_enum hg hm paW hs) ?_
  refine wA_mono (h σ H Hd st re) fun vs H1 ⟨ds, S1, Hd1, e1, st1, r1, l, e2, q⟩ => ?_
  subst e2
  obtain ⟨v, f1, a, xs, f2, f3, f4⟩ := one_rp r1
  subst f1 f2
  exact ⟨a, xs, rfl, .of (st1.sub _ _ f3), _, S1, Hd1, e1, st1, it_enu (.of f3) f4, q⟩⟩
/-- THE LOOP: E g, what is known of the slots; P i g, what holds ahead of turn i; g is yours -/
theorem ds_for {γ : Type} (hp : PassesOwn (model X.prog X.w) X.A X.env X.xe) (hc : X.calm = true)
    (h : DI X tg iter en S fun ds S1 => ∃ (E : γ → DEnv) (P : Nat → γ → Sto → Prop) (g0 : γ), Wk en (E g0) ∧ P 0 g0 S1 ∧
      (∀ i d g S', ds[i]? = some d → P i g S' → DG X tg d (E g) S' fun en2 S2 => DS X body en2 S2 { nx := fun en3 S3 => ∃ g', Wk en3 (E g') ∧ P (i + 1) g' S3, rt := Z.rt, ct := fun en3 S3 => ∃ g', Wk en3 (E g') ∧ P (i + 1) g' S3, bk := Z.nx }) ∧
      ∀ g S', P ds.length g S' → Z.nx (E g) S') (hs : ∀ x, foldedSetIterable iter X.env x = pure x := by first | exact fset rfl | (intro _; rfl)) : DS1 X (.For tg iter body [] pos) en S Z := ⟨fun σ H Hd st re De l => by
  refine wS_of (ps_for hp hc piW pgW pssW hs) ?_
  intro pins s I
  refine thn (h σ H Hd st re pins s I) fun v s1 h1 => thn h1 fun itv s2 h2 => ?_
  obtain ⟨it, fp, tn, J, H2, e, I2, T, st2, f2, ds, S1, Hd1, e1, s01, io, E, P, g0, wk, p0, turn, fin⟩ := h2
  refine ⟨it, fp, tn, J, H2, e, I2, T, st2, f2, ?_⟩
  refine ⟨fun i m σ H => m = ds.length - i ∧ i ≤ ds.length ∧ ∃ g S' Hd', Same Hd1 Hd' ∧ St0 X.K S' Hd' H ∧ RpE X.K Hd' (E g) σ ∧ P i g S', ⟨_, rfl, Nat.zero_le _, g0, S1, Hd1, Same.refl _, s01, wk.use (re.mono e1), p0⟩, ?_⟩
  rintro i m σ H ⟨rfl, hi, g, S', Hd', k1, k2, k3, k4⟩
  by_cases hlt : i < ds.length
  · obtain ⟨go, yl⟩ := io.go k1 k2 (List.getElem?_eq_getElem hlt)
    refine .inr ⟨go, fun σ' H' => ∃ g S' Hd', Same Hd1 Hd' ∧ St0 X.K S' Hd' H' ∧ RpE X.K Hd' (E g) σ' ∧ P (i + 1) g S', fun σ' H' q => ⟨ds.length - (i + 1), by omega, rfl, hlt, q⟩, fun x H' y => ?_⟩
    obtain ⟨Hd2, y1, y2, y3⟩ := yl x H' y
    refine wG_mono (turn i _ g S' (List.getElem?_eq_getElem hlt) k4 σ H' Hd2 x y2 (k3.mono y1) y3) fun σ4 H4 ⟨en4, S4, Hd4, z1, z2, z3, z4⟩ => ?_
    have up : Same Hd1 Hd4 := k1.trans (y1.trans z1)
    exact z4 σ4 H4 Hd4 z2 z3 _ ⟨fun en5 S5 σ5 H5 Hd5 w1 w2 w3 ⟨g', w4, w5⟩ => ⟨g', S5, Hd5, up.trans w1, w2, w4.use w3, w5⟩, fun d5 S5 v5 H5 Hd5 w1 => l.rt d5 S5 v5 H5 Hd5 (e1.trans (up.trans w1)),
      fun en5 S5 σ5 H5 Hd5 w1 => l.nx en5 S5 σ5 H5 Hd5 (e1.trans (up.trans w1)), fun en5 S5 σ5 H5 Hd5 w1 w2 w3 ⟨g', w4, w5⟩ => ⟨g', S5, Hd5, up.trans w1, w2, w4.use w3, w5⟩⟩
  · have e0 : i = ds.length := by omega
    subst e0
    exact .inl ⟨io.stop k1 k2, l.nx (E g) S' σ H Hd' (e1.trans k1) k2 k3 (fin g S' k4)⟩⟩
/-- a while: μ falls at each turn -/
theorem ds_while {γ : Type} (hp : PassesOwn (model X.prog X.w) X.A X.env X.xe) (E : γ → DEnv) (P : γ → Sto → Prop) (μ : γ → Nat) (g0 : γ) (w0 : Wk en (E g0)) (p0 : P g0 S)
    (h : ∀ g S', P g S' → DT X c (E g) S' fun t S1 => (t = true → DS X body (E g) S1 { nx := fun en3 S3 => ∃ g', Wk en3 (E g') ∧ P g' S3 ∧ μ g' < μ g, rt := Z.rt, ct := fun en3 S3 => ∃ g', Wk en3 (E g') ∧ P g' S3 ∧ μ g' < μ g, bk := Z.nx }) ∧ (t = false → Z.nx (E g) S1)) :
    DS1 X (.While c body [] pos) en S Z := ⟨fun σ H Hd st re De l => by
  refine wS_of (ps_while hp ptW pssW) ?_
  refine ⟨fun m σ H => ∃ g S' Hd', Same Hd Hd' ∧ St0 X.K S' Hd' H ∧ RpE X.K Hd' (E g) σ ∧ P g S' ∧ m = μ g, ⟨_, g0, S, Hd, Same.refl _, st, w0.use re, p0, rfl⟩, ?_⟩
  rintro m σ H ⟨g, S', Hd', k1, k2, k3, k4, rfl⟩
  refine wT_mono (h g S' k4 σ H Hd' k2 k3) fun t H1 ⟨S1, Hd1, e1, st1, q1, q2⟩ => ?_
  cases t with
  | false =>
    rw [if_neg Bool.false_ne_true]
    exact l.nx (E g) S1 σ H1 Hd1 (k1.trans e1) st1 (k3.mono e1) (q2 rfl)
  | true =>
    rw [if_pos rfl]
    refine ⟨fun σ' H' => ∃ g' S' Hd', Same Hd Hd' ∧ St0 X.K S' Hd' H' ∧ RpE X.K Hd' (E g') σ' ∧ P g' S' ∧ μ g' < μ g, fun σ' H' ⟨g', S', Hd', z1, z2, z3, z4, z5⟩ => ⟨μ g', z5, g', S', Hd', z1, z2, z3, z4, rfl⟩, ?_⟩
    have up := k1.trans e1
    exact q1 rfl σ H1 Hd1 st1 (k3.mono e1) _ ⟨fun en5 S5 σ5 H5 Hd5 w1 w2 w3 ⟨g', w4, w5, w6⟩ => ⟨g', S5, Hd5, up.trans w1, w2, w4.use w3, w5, w6⟩, fun d5 S5 v5 H5 Hd5 w1 => l.rt d5 S5 v5 H5 Hd5 (up.trans w1),
      fun en5 S5 σ5 H5 Hd5 w1 => l.nx en5 S5 σ5 H5 Hd5 (up.trans w1), fun en5 S5 σ5 H5 Hd5 w1 w2 w3 ⟨g', w4, w5, w6⟩ => ⟨g', S5, Hd5, up.trans w1, w2, w4.use w3, w5, w6⟩⟩⟩
end
end DL
namespace DL
open PySem PySem.Spec PyProof.Rows L2

/-! ### comprehensions -/
theorem RpE.reset {K : PySem.W.Frag} {H : Hp} {d : D} {v : V} {en : DEnv} {σ : L2.St} (i : Nat) (h : RpE K H en σ) (r : Rp K H d v) : RpE K H (en.set i (some d)) ((wipe σ [i]).set i (some v)) := by
  have e : (wipe σ [i]).set i (some v) = σ.set i (some v) := by
    show (σ.set i none).set i (some v) = _
    rw [List.set_set]
  rw [e]
  exact h.set r i
theorem wipe_back {σ : L2.St} {i : Nat} {v : V} : wipe ((wipe σ [i]).set i (some v)) [i] = wipe σ [i] := by
  show ((σ.set i none).set i (some v)).set i none = σ.set i none
  rw [List.set_set, List.set_set]
section
variable {X : Cx} {elt iter c : Expr} {en : DEnv} {S : Sto} {Q : D → Sto → Prop} {pos py : Pos} {y : Str} {scope : Scope}
/-- the block of a comprehension -/
abbrev bX (X : Cx) (scope : Scope) (s : Shared) (H : Hp) (C : Addr) (cl : List (Str × Addr)) (fp : List Addr) : Cx := X.blk s H scope (compEnvC scope cl C X.env) fp
/-- one turn's item: the element's data behind the items so far -/
def Turn1 (X : Cx) (scope : Scope) (elt : Expr) (en : DEnv) (S : Sto) (p : Addr) (acc : List D) (N : List D → Sto → Prop) : Prop :=
  ∀ s H C cl fp, DE (bX X scope s H C cl fp) elt en ((p, acc) :: S) fun d S2 => ∃ S3, S2 = (p, acc) :: S3 ∧ N (acc ++ [d]) S3
theorem pe_blk (te : TE) (h : te = fun σ H Q => ∀ s0 H0 C cl fp, wE (bX X scope s0 H0 C cl fp) elt σ H Q) : ∀ (s : Shared) (H : Hp) (C : Addr) (cl : List (Str × Addr)) (fp : List Addr), PE (bX X scope s H C cl fp) elt te := fun s0 H0 C cl fp => by
  subst h
  exact ⟨fun pins s _ _ _ I q => q s0 H0 C cl fp pins s I⟩
theorem pt_blk (tt : TT) (h : tt = fun σ H Q => ∀ s0 H0 C cl fp, wT (bX X scope s0 H0 C cl fp) c σ H Q) : ∀ (s : Shared) (H : Hp) (C : Addr) (cl : List (Str × Addr)) (fp : List Addr), PT (bX X scope s H C cl fp) c tt := fun s0 H0 C cl fp => by
  subst h
  exact ⟨fun pins s _ _ _ I q => q s0 H0 C cl fp pins s I⟩
variable {ifs : List Expr} {tt : TT}
/-- the comprehension's walk, whatever its tests -/
theorem lc_go (i : Nat) (te : TE) {own : List Nat} (ho : own = [i]) (mT : ∀ (σ : L2.St) (H : Hp) (A B : Bool → Hp → Prop), tt σ H A → (∀ b H', A b H' → B b H') → tt σ H B) (mE : ∀ (σ : L2.St) (H : Hp) (A B : VK), te σ H A → (∀ v H', A v H' → B v H') → te σ H B)
    (h : DI X (.Name y py) iter en S fun ds S1 => ∃ (P : Nat → List D → Sto → Prop), P 0 [] S1 ∧
      (∀ k d acc S' p, ds[k]? = some d → P k acc S' → getS p S' = none → acc.length ≤ k → ∀ (σ : L2.St) (H Hd : Hp), St0 X.K ((p, acc) :: S') Hd H → RpE X.K Hd (en.set i (some d)) σ →
        tt σ H fun b H3 => if b = true then te σ H3 fun v H4 => ∃ d2 S4 Hd4, Same Hd Hd4 ∧ St0 X.K ((p, acc) :: S4) Hd4 H4 ∧ Rp X.K Hd4 d2 v ∧ P (k + 1) (acc ++ [d2]) S4 else ∃ S4 Hd4, Same Hd Hd4 ∧ St0 X.K ((p, acc) :: S4) Hd4 H3 ∧ P (k + 1) acc S4) ∧
      ds.length ≤ 100000 ∧ ∀ acc S', acc.length ≤ ds.length → P ds.length acc S' → Q (.lst acc) S') {σ : L2.St} {H Hd : Hp} (st : St0 X.K S Hd H) (re : RpE X.K Hd en σ) (Qv : VK) (kq : ∀ v H', QD X.K Hd Q v H' → Qv v H') : tLc (wI X (.Name y py) iter) (gName i) tt te own σ H Qv := by
  subst ho
  intro pins s I
  refine thn (DI.run h σ H Hd st re pins s I) fun v s1 h1 => thn h1 fun itv s2 h2 => ?_
  obtain ⟨it, fp, tn, J, H2, e, I2, T, st2, f2, ds, S1, Hd1, e1, s01, io, P, p0, turn, lim, fin⟩ := h2
  refine ⟨it, fp, tn, J, H2, e, I2, T, st2, f2, fun p hp => ?_⟩
  obtain ⟨fr, s02⟩ := s01.laidO (l := []) (xs := []) hp rfl
  refine ⟨fun k m H => m = ds.length - k ∧ k ≤ ds.length ∧ ∃ acc S' Hd', acc.length ≤ k ∧ Same Hd1 Hd' ∧ St0 X.K ((p, acc) :: S') Hd' H ∧ P k acc S', ⟨_, rfl, Nat.zero_le _, [], S1, Hd1, Nat.le_refl _, Same.refl _, s02, p0⟩, ?_⟩
  rintro k m H ⟨rfl, hk, acc, S', Hd', ka, k1, k2, k3⟩
  by_cases hlt : k < ds.length
  · obtain ⟨go, yl⟩ := io.go k1 k2 (List.getElem?_eq_getElem hlt)
    refine .inr ⟨go, fun H' => ∃ acc S' Hd', acc.length ≤ k + 1 ∧ Same Hd1 Hd' ∧ St0 X.K ((p, acc) :: S') Hd' H' ∧ P (k + 1) acc S', fun H' q => ⟨ds.length - (k + 1), by omega, rfl, hlt, q⟩, fun x H' y => ?_⟩
    obtain ⟨Hd2, y1, y2, y3⟩ := yl x H' y
    refine ⟨wipe_back, ?_⟩
    have reB := RpE.reset i (re.mono (e1.trans (k1.trans y1))) y3
    have go2 := turn k _ acc S' p (List.getElem?_eq_getElem hlt) k3 k2.own.2.1 ka _ H' Hd2 y2 reB
    have en1 : ∀ (H4 : Hp) (v : V) (d2 : D) (S4 : Sto) (Hd4 : Hp), Same Hd2 Hd4 → St0 X.K ((p, acc) :: S4) Hd4 H4 → Rp X.K Hd4 d2 v → P (k + 1) (acc ++ [d2]) S4 →
        ∃ vs, H4 p = some (.lst vs) ∧ vs.length < sizeLine ∧ ∃ acc S' Hd', acc.length ≤ k + 1 ∧ Same Hd1 Hd' ∧ St0 X.K ((p, acc) :: S') Hd' (upd H4 p (.lst (vs ++ [v]))) ∧ P (k + 1) acc S' := by
      intro H4 v d2 S4 Hd4 z1 z2 z3 z4
      obtain ⟨_, xs, hx, rx⟩ := z2.own.at (l := acc) getS_hd
      refine ⟨xs, hx, by rw [rx.length]; exact Nat.lt_of_le_of_lt (Nat.le_trans ka hk) (Nat.lt_of_le_of_lt lim (by decide)), acc ++ [d2], S4, Hd4, by rw [List.length_append, List.length_singleton]; omega, k1.trans (y1.trans z1), ?_, z4⟩
      have w := z2.written (l' := acc ++ [d2]) (ys := xs ++ [v]) getS_hd (rx.append (show RpL X.K Hd4 [d2] [v] from ⟨v, [], rfl, z3, rfl⟩))
      rw [setS_hd] at w
      exact w
    refine mT _ _ _ _ go2 fun b H3 q => ?_
    cases b with
    | true =>
      rw [if_pos rfl] at q ⊢
      exact mE _ _ _ _ q fun v H4 ⟨d2, S4, Hd4, z1, z2, z3, z4⟩ => en1 H4 v d2 S4 Hd4 z1 z2 z3 z4
    | false =>
      rw [if_neg Bool.false_ne_true] at q ⊢
      obtain ⟨S4, Hd4, z1, z2, z3⟩ := q
      exact ⟨acc, S4, Hd4, Nat.le_succ_of_le ka, k1.trans (y1.trans z1), z2, z3⟩
  · have e0 : k = ds.length := by omega
    subst e0
    obtain ⟨xs, rx, ex, sx⟩ := k2.frozen
    exact .inl ⟨io.stop k1 k2, kq _ _ ⟨.lst acc, S', _, e1.trans (k1.trans ex), sx, ⟨p, xs, rfl, upd_same, rx.mono ex⟩, fin acc S' ka k3⟩⟩
abbrev teB (X : Cx) (scope : Scope) (elt : Expr) : TE := fun σ H Q => ∀ s0 H0 C cl fp, wE (bX X scope s0 H0 C cl fp) elt σ H Q
abbrev ttB (X : Cx) (scope : Scope) (c : Expr) : TT := fun σ H Q => ∀ s0 H0 C cl fp, wT (bX X scope s0 H0 C cl fp) c σ H Q
/-- what a comprehension without a test is asked -/
def Lc0 (X : Cx) (scope : Scope) (i : Nat) (y : Str) (py : Pos) (elt iter : Expr) (en : DEnv) (S : Sto) (Q : D → Sto → Prop) : Prop := DI X (.Name y py) iter en S fun ds S1 => ∃ (P : Nat → List D → Sto → Prop), P 0 [] S1 ∧
  (∀ k d acc S' p, ds[k]? = some d → P k acc S' → getS p S' = none → acc.length ≤ k → Turn1 X scope elt (en.set i (some d)) S' p acc (P (k + 1))) ∧ ds.length ≤ 100000 ∧ ∀ acc S', acc.length ≤ ds.length → P ds.length acc S' → Q (.lst acc) S'
/-- .. with a test -/
def Lc1 (X : Cx) (scope : Scope) (i : Nat) (y : Str) (py : Pos) (elt iter c : Expr) (en : DEnv) (S : Sto) (Q : D → Sto → Prop) : Prop := DI X (.Name y py) iter en S fun ds S1 => ∃ (P : Nat → List D → Sto → Prop), P 0 [] S1 ∧
  (∀ k d acc S' p, ds[k]? = some d → P k acc S' → getS p S' = none → acc.length ≤ k → ∀ s H C cl fp, DT (bX X scope s H C cl fp) c (en.set i (some d)) ((p, acc) :: S') fun b S2 => ∃ S3, S2 = (p, acc) :: S3 ∧ (b = true → Turn1 X scope elt (en.set i (some d)) S3 p acc (P (k + 1))) ∧ (b = false → P (k + 1) acc S3)) ∧
  ds.length ≤ 100000 ∧ ∀ acc S', acc.length ≤ ds.length → P ds.length acc S' → Q (.lst acc) S'
theorem lc0_read {i : Nat} (h : Lc0 X scope i y py elt iter en S Q) {σ : L2.St} {H Hd : Hp} (st : St0 X.K S Hd H) (re : RpE X.K Hd en σ) (Qv : VK) (kq : ∀ v H', QD X.K Hd Q v H' → Qv v H') : tLc (wI X (.Name y py) iter) (gName i) tYes (teB X scope elt) [i] σ H Qv := by
  refine lc_go (tt := tYes) i _ rfl (fun σ H A B q k => k _ _ q) (fun σ H A B q k s0 H0 C cl fp => wE_mono (q s0 H0 C cl fp) k) ?_ st re Qv kq
  refine ⟨fun σ H Hd st re => ?_⟩
  intro pins s I
  refine thn (DI.run h σ H Hd st re pins s I) fun v s1 h1 => thn h1 fun itv s2 h2 => ?_
  obtain ⟨it, fp, tn, J, H2, e, I2, T, st2, f2, ds, S1, Hd1, e1, s01, io, P, p0, turn, lim, fin⟩ := h2
  refine ⟨it, fp, tn, J, H2, e, I2, T, st2, f2, ds, S1, Hd1, e1, s01, io, P, p0, fun k d acc S' p hk hP hp hl σ H Hd st re => ?_, lim, fin⟩
  show tYes σ H _
  unfold tYes
  simp only [↓reduceIte]
  intro s0 H0 C cl fp
  exact wE_mono (turn k d acc S' p hk hP hp hl s0 H0 C cl fp σ H Hd st re) fun v H4 ⟨d2, S2, Hd4, z1, z2, z3, S3, z4, z5⟩ => by
    subst z4
    exact ⟨d2, S3, Hd4, z1, z2, z3, z5⟩
theorem lc1_read {i : Nat} (h : Lc1 X scope i y py elt iter c en S Q) {σ : L2.St} {H Hd : Hp} (st : St0 X.K S Hd H) (re : RpE X.K Hd en σ) (Qv : VK) (kq : ∀ v H', QD X.K Hd Q v H' → Qv v H') : tLc (wI X (.Name y py) iter) (gName i) (ttB X scope c) (teB X scope elt) [i] σ H Qv := by
  refine lc_go i _ rfl (fun σ H A B q k s0 H0 C cl fp => wT_mono (q s0 H0 C cl fp) k) (fun σ H A B q k s0 H0 C cl fp => wE_mono (q s0 H0 C cl fp) k) ?_ st re Qv kq
  refine ⟨fun σ H Hd st re => ?_⟩
  intro pins s I
  refine thn (DI.run h σ H Hd st re pins s I) fun v s1 h1 => thn h1 fun itv s2 h2 => ?_
  obtain ⟨it, fp, tn, J, H2, e, I2, T, st2, f2, ds, S1, Hd1, e1, s01, io, P, p0, turn, lim, fin⟩ := h2
  refine ⟨it, fp, tn, J, H2, e, I2, T, st2, f2, ds, S1, Hd1, e1, s01, io, P, p0, fun k d acc S' p hk hP hp hl σ H Hd st re => ?_, lim, fin⟩
  intro s0 H0 C cl fp
  refine wT_mono (turn k d acc S' p hk hP hp hl s0 H0 C cl fp σ H Hd st re) fun b H3 ⟨S2, Hd3, e3, st3, S3, z, q1, q2⟩ => ?_
  subst z
  cases b with
  | true =>
    rw [if_pos rfl]
    intro s5 H5 C5 cl5 fp5
    exact wE_mono (q1 rfl s5 H5 C5 cl5 fp5 σ H3 Hd3 st3 (re.mono e3)) fun v H4 ⟨d2, S5, Hd4, y1, y2, y3, S6, y4, y5⟩ => by
      subst y4
      exact ⟨d2, S6, Hd4, e3.trans y1, y2, y3, y5⟩
  | false =>
    rw [if_neg Bool.false_ne_true]
    exact ⟨S3, Hd3, e3, st3, q2 rfl⟩
/-- [elt for y in iter] -/
theorem de_lc (i : Nat) (hc : X.calm = true) (hN : X.N.Nodup) (ok : BlkOk X.N X.env.scope scope [(y, i)]) (h : Lc0 X scope i y py elt iter en S Q)
    (hg : ∀ (s : Shared) (H : Hp) (C : Addr) (cl : List (Str × Addr)) (fp : List Addr), PG (bX X scope s H C cl fp) (.Name y py) (gName i))
    (hs : ∀ x, foldedSetIterable iter X.env x = pure x := by first | exact fset rfl | (intro _; rfl)) : DE X (.ListComp elt [⟨.Name y py, iter, [], 0⟩] scope pos) en S Q := ⟨fun σ H Hd st re =>
  wE_of (pe_lc hc hN piW ok hg (fun _ _ _ _ _ => pts_nil) (pe_blk (te := teB X scope elt) rfl) hs) (lc0_read h st re _ fun _ _ z => z)⟩
/-- [elt for y in iter if c] -/
theorem de_lcIf (i : Nat) (hc : X.calm = true) (hN : X.N.Nodup) (ok : BlkOk X.N X.env.scope scope [(y, i)]) (h : Lc1 X scope i y py elt iter c en S Q)
    (hg : ∀ (s : Shared) (H : Hp) (C : Addr) (cl : List (Str × Addr)) (fp : List Addr), PG (bX X scope s H C cl fp) (.Name y py) (gName i))
    (hs : ∀ x, foldedSetIterable iter X.env x = pure x := by first | exact fset rfl | (intro _; rfl)) : DE X (.ListComp elt [⟨.Name y py, iter, [c], 0⟩] scope pos) en S Q := ⟨fun σ H Hd st re =>
  wE_of (pe_lc hc hN piW ok hg (fun s H C cl fp => pts_one (pt_blk (tt := ttB X scope c) rfl s H C cl fp)) (pe_blk (te := teB X scope elt) rfl) hs) (lc1_read h st re _ fun _ _ z => z)⟩
end

/-! ### the law's end -/
/-- the promise of a law: it gives True of every such script -/
def conLaw (n : Nat) : Con := fun ds S Q => ∃ ns : List Int, ns.length ≤ n ∧ ds = [.scr ns] ∧ S = [] ∧ Q (.bl true) []
theorem law_end {l : PySem.W.OpenLaw} {n k : Nat} {q : Program} {loose : List Str} {XP : (Str → Option Value) → Heap → Prop} {YP : World → Heap → Prop} {d : DefRec} {K : Params → PySem.W.Frag} {x : Str}
    (hn : l.most = some n) (hn2 : n ≤ sizeLine) (hdf : d.params.defaults = []) (hr : Room k callerA) (hY : ∀ (w : World) (h : Heap), YP w h → (K w.params).In h)
    (F : ∀ (w : World) (mg : Str → Option Value) (fa : Addr) (h : Heap), (K w.params).In h → h.Ns mainGlobals mg → mg d.name = some (.ref fa) → ∃ fd : FuncData, (∀ (s : Shared) (u : Value), BindsTo s fd ⟨[u], []⟩ [(x, u)]) ∧
      ∀ base : Heap, (K w.params).In base → base.Ns mainGlobals mg → GOk l.prog w (K w.params) mg base k fa fd [x] (spD (K w.params) (conLaw n))) : PySem.W.WalkO q loose XP YP l.row.toRowW d [] (fun f vs => PySem.call f vs) := by
  refine Att.attach_call hn hdf fun w s0 s1 mg mb fa o pm cd doc a vs ns G Y ho hd hcd hmg hobj hints hlen hg => ?_
  have KX := hY w _ Y
  obtain ⟨fd, hb, hF⟩ := F w mg fa _ KX G.T.g hmg
  have rv := vals_ints hints
  -- the script is tracked, as known to its object, unless the module itself holds it
  generalize hH : (fun b => if b = a ∧ (K w.params).lookup a = none then some (HO.frz { cls := .type "list", data := .seq vs.toArray } (.lst (ns.map V.int))) else none : Hp) = H
  have none_of : ∀ b, ¬ (b = a ∧ (K w.params).lookup a = none) → H b = none := fun b z => by rw [← hH]; exact if_neg z
  have some_of : ∀ b u, H b = some u → b = a ∧ (K w.params).lookup a = none ∧ u = .frz { cls := .type "list", data := .seq vs.toArray } (.lst (ns.map V.int)) := fun b u z => by
    rw [← hH] at z
    by_cases c : b = a ∧ (K w.params).lookup a = none
    · have z2 := (if_pos c).symm.trans z
      exact ⟨c.1, c.2, (Option.some.inj z2).symm⟩
    · have z2 := (if_neg c).symm.trans z
      cases z2
  have scr : SqL (K w.params) H a (ns.map V.int) := by
    cases hk : (K w.params).lookup a with
    | none =>
      refine .inl (.inr ⟨{ cls := .type "list", data := .seq vs.toArray }, ?_⟩)
      rw [← hH]
      exact if_pos ⟨rfl, hk⟩
    | some ob =>
      have e := KX a ob hk
      rw [hobj] at e
      cases e
      exact .inr ⟨_, vs.toArray, _, hk, rfl, rfl, rfl, by rw [List.size_toArray, hints.length]; exact Nat.le_trans hlen hn2, by simpa using rv⟩
  have hok : HOk l.prog w H s1.heap := fun b u z => by
    obtain ⟨e1, _, e3⟩ := some_of b u z
    subst e1 e3
    exact ⟨hobj, by rw [List.length_map]; exact Nat.le_trans hlen hn2, vs, _, rv, hobj⟩
  have dictN : ∀ {b : Addr} {ob : Obj} {es : Array DictEntry} {ep : Nat}, s1.heap.get? b = some ob → ob.data = .dict es ep → H b = none := fun {b ob es ep} e dd => by
    refine none_of b fun z => ?_
    rw [z.1, hobj] at e
    cases e
    cases dd
  have nsB : ∀ {b : Addr} {m : Str → Option Value}, s1.heap.Ns b m → (hidT s1.heap H).Ns b m := fun ⟨ob, es, ep, e, dd, rr⟩ => ⟨ob, es, ep, hidT_get e (dictN e dd), dd, rr⟩
  have KB : (K w.params).In (hidT s1.heap H) := fun b ob e => hidT_get (KX b ob e) (none_of b fun z => by rw [z.1, z.2] at e; cases e)
  have M : Mod (K w.params) mg (hidT s1.heap H) := ⟨KB, nsB G.T.g, ⟨mb, nsB G.T.b, G.T.builtins⟩, let ⟨mc, z1, z2⟩ := G.T.nolimit; ⟨mc, nsB z1, z2⟩⟩
  have e0 : Env0 l.prog w (K w.params) mg (hidT s1.heap H) callerA [] s1 H := ⟨rfl, M, fun b ob e => of_hidT e, Nat.le_of_eq (hidT_size _ _), trivial, (fun b z => absurd (show b ∈ ([] : List Addr) from z) List.not_mem_nil), hok, .of_eq hg⟩
  have st : St0 (K w.params) [] H H := ⟨Same.refl _, trivial⟩
  have sp : spD (K w.params) (conLaw n) [V.ref a] H (fun v _ => v = V.bl true) fun _ _ _ => False := ⟨[.scr ns], [], H, fun d _ => d = .bl true, ⟨V.ref a, [], rfl, ⟨a, rfl, scr⟩, rfl⟩, st, ⟨ns, hlen, rfl, rfl, rfl⟩, fun d S' v H' Hd' z _ _ r => by
    subst z
    exact r⟩
  refine codeAny_mono ((hF _ KB (nsB G.T.g)).run callerA [] s1 H ⟨[.ref a], []⟩ [.ref a] [.ref a] _ _ rfl hr e0 (hb s1 (.ref a)) (.cons rfl .nil) sp) fun r s' h => ?_
  cases r with
  | error e => exact h.elim
  | ok fl =>
    cases fl with
    | next => exact False.elim h
    | brk => exact False.elim h
    | cont => exact False.elim h
    | ret u =>
      obtain ⟨v, H', os, bare, un, hok', r', q'⟩ := h
      have q' : v = V.bl true := q'
      subst q'
      have r' : u = Value.bool true := r'
      subst r'
      refine ⟨rfl, OldK.of_keep fun b ob e => ?_, os, bare⟩
      cases z : H b with
      | none => exact un.keep b ob e z (fun y => absurd (show b ∈ ([] : List Addr) from y) List.not_mem_nil) List.not_mem_nil
      | some u =>
        obtain ⟨_, _, e3⟩ := some_of b u z
        subst e3
        obtain ⟨k1, _⟩ := hok b _ z
        obtain ⟨k2, _⟩ := hok' b _ (un.frzs b _ _ z)
        rw [e] at k1
        cases k1
        exact k2
end DL
namespace DL
open PySem PySem.Spec PyProof.Rows L2

/-! ### sizes of ints -/
def Bd (n : Nat) (i : Int) : Prop := i.natAbs < 2 ^ n
section
variable {a b n : Nat} {i j : Int}
theorem Bd.up (h : Bd a i) (k : a ≤ b) : Bd b i := Nat.lt_of_lt_of_le h (Nat.pow_le_pow_right (by decide) k)
theorem Bd.mul (h : Bd a i) (k : Bd b j) : Bd (a + b) (i * j) := wide_lt h k
theorem Bd.neg (h : Bd a i) : Bd a (-i) := by
  unfold Bd at h ⊢
  rw [Int.natAbs_neg]
  exact h
theorem Bd.add (h : Bd a i) (k : Bd b j) : Bd (max a b + 1) (i + j) := by
  have h1 : i.natAbs < 2 ^ (max a b) := Bd.up h (Nat.le_max_left a b)
  have k1 : j.natAbs < 2 ^ (max a b) := Bd.up k (Nat.le_max_right a b)
  have := Int.natAbs_add_le i j
  unfold Bd
  rw [Nat.pow_succ]
  omega
theorem Bd.sub (h : Bd a i) (k : Bd b j) : Bd (max a b + 1) (i - j) := by
  rw [Int.sub_eq_add_neg]
  exact h.add k.neg
theorem Bd.div (h : Bd a i) : Bd a (i / j) := Nat.lt_of_le_of_lt (Int.natAbs_ediv_le_natAbs i j) h
theorem Bd.mod (h : Bd b j) (h0 : 0 < j) : Bd b (i % j) := by
  have h1 := Int.emod_nonneg i (by omega : j ≠ 0)
  have h2 := Int.emod_lt_of_pos i h0
  have h3 : j.natAbs < 2 ^ b := h
  unfold Bd
  omega
theorem Bd.abs (h : Bd a i) : Bd a (if i < 0 then -i else i) := by
  split
  · exact h.neg
  · exact h
theorem Bd.of_le (h0 : 0 ≤ i) (h1 : i ≤ j) (h : Bd a j) : Bd a i := by
  unfold Bd at h ⊢
  omega
theorem Bd.of_lt (h0 : 0 ≤ i) (h1 : i < j) (h : Bd a j) : Bd a i := Bd.of_le h0 (Int.le_of_lt h1) h
theorem Bd.of_abs (h0 : -j ≤ i) (h1 : i ≤ j) (h : Bd a j) : Bd a i := by
  unfold Bd at h ⊢
  omega
theorem Bd.lit (i : Int) : Bd (i.natAbs.log2 + 1) i := Nat.lt_log2_self
theorem Bd.pow (h : Bd a i) : ∀ k : Nat, Bd (a * k + 1) (i ^ k)
  | 0 => by
    rw [Int.pow_zero]
    show (1 : Int).natAbs < _
    rw [Nat.mul_zero]
    decide
  | k + 1 => by
    rw [Int.pow_succ]
    exact ((Bd.pow h k).mul h).up (by rw [Nat.mul_succ]; omega)
theorem cmw (h : Bd a i) (k : Bd b j) (z : a + b ≤ 900000) : CMulW i j := by
  have h1 := wide_lt h k
  unfold CMulW
  have x : ∀ (n : Nat) (m : Nat), m < 2 ^ n → m.log2 ≤ n := fun n m hm => by
    by_cases e : m = 0
    · subst e
      simp
    · exact Nat.le_of_lt ((Nat.log2_lt e).mpr hm)
  have := x a _ h
  have := x b _ k
  omega
theorem cdw (h : Bd b j) (h0 : 0 < j) (z : b ≤ 8000) : CDivW i j := ⟨h0, by
  have e : ¬ j.natAbs = 0 := by omega
  exact Nat.lt_of_lt_of_le ((Nat.log2_lt e).mpr h) (by omega)⟩
theorem cpw (h : Bd a i) (h0 : 0 ≤ j ∧ j ≤ 64) (z : a ≤ 900000) : CPowW i j := ⟨h0.1, h0.2, by
  by_cases e : i.natAbs = 0
  · rw [e]
    decide
  · exact Nat.lt_of_lt_of_le ((Nat.log2_lt e).mpr h) (by omega)⟩
theorem shw (h : Bd a i) (z : a ≤ 1900) : i.natAbs < 2 ^ 1900 := h.up z
end

/-! ### the built-ins by their names -/
theorem bt_abs : bootBuiltins "abs" = some (.builtin "abs") := by decide +kernel
theorem bt_max : bootBuiltins "max" = some (.builtin "max") := by decide +kernel
theorem bt_min : bootBuiltins "min" = some (.builtin "min") := by decide +kernel
theorem bt_len : bootBuiltins "len" = some (.builtin "len") := by decide +kernel
theorem bt_int : bootBuiltins "int" = some (.type "int") := by decide +kernel
theorem bt_tuple : bootBuiltins "tuple" = some (.type "tuple") := by decide +kernel
theorem bt_repr : bootBuiltins "repr" = some (.builtin "repr") := by decide +kernel
theorem bt_isinstance : bootBuiltins "isinstance" = some (.builtin "isinstance") := by decide +kernel
theorem bt_all : bootBuiltins "all" = some (.builtin "all") := by decide +kernel
/-! ### a def by its body, over data -/
theorem gok_ds {P : Program} {w : World} {K : PySem.W.Frag} {mg : Str → Option Value} {base : Heap} {k m : Nat} {x qual : Str} {st : Stmt} {f : Addr} {fd : FuncData} {N ps : List Str} {C : Con} (F : Fun K x qual st f fd) (S : FnScope N ps (defScope st))
    (hm : N.length - ps.length = m) (ln : ∀ ds S Q, C ds S Q → ds.length = ps.length)
    (body : ∀ (cdv : Value) (A : Around) (fr : List Env) (s : Shared) (H : Hp) (E : XK), (A.deeper (envOfC qual (defScope st) s.heap.objs.size f cdv)).guards = some [] → Room k (A.deeper (envOfC qual (defScope st) s.heap.objs.size f cdv)) → ∀ (ds : List D) (S0 : Sto) (Q : D → Sto → Prop), C ds S0 Q →
      DS (cxOf CX0 P w K mg base N qual (defScope st) f cdv A fr s H E).nox (defBody st) (ds.map some ++ List.replicate m none) S0 { nx := fun _ S' => Q .non S', rt := Q }) : GOk P w K mg base (k + 1) f fd ps (spD K C) := by
  refine gok_of F S (fun vs H Q E h => ?_) fun cdv A fr s H vs Q E gd hr h => ?_
  · obtain ⟨ds, S0, Hd, Qd, r, _, c, _⟩ := h
    rw [r.length]
    exact ln _ _ _ c
  · obtain ⟨ds, S0, Hd, Qd, r, st0, c, fin⟩ := h
    have e : L2.start N vs = vs.map some ++ List.replicate m none := by
      unfold L2.start
      rw [r.length, ln _ _ _ c, hm]
    rw [e]
    exact body cdv A fr s H E gd hr ds S0 Qd c _ H Hd st0 (RpE.start m r) _ ⟨fun en S' σ H' Hd' z1 z2 _ q => fin .non S' .non H' Hd' q z1 z2 rfl, fun d S' v H' Hd' z1 z2 z3 q => fin d S' v H' Hd' q z1 z2 z3, fun _ _ _ _ _ _ _ _ q => q.elim, fun _ _ _ _ _ _ _ _ q => q.elim⟩
/-- it stands in the module -/
theorem cal_of {P : Program} {w : World} {K : PySem.W.Frag} {mg : Str → Option Value} {base : Heap} {k : Nat} {x qual : Str} {st : Stmt} {f : Addr} {fd : FuncData} {ps : List Str} {kws : List (Nat × List Str)} {C : Con} (F : Fun K x qual st f fd)
    (G : GOk P w K mg base k f fd ps (spD K C)) (hm : mg x = some (.ref f)) (hb : ∀ us : List Value, us.length = ps.length → bindArgs fd ⟨us, []⟩ = pure (ps.zip us)) (hk : ∀ p ∈ kws, KwOk fd ps p) : Cal P w K mg base k x ps kws C := ⟨f, fd, G, hm, F.kp, hb, hk⟩
theorem bargs_of {K : PySem.W.Frag} {x qual : Str} {st : Stmt} {f : Addr} {fd : FuncData} {ps : List Str} (F : Fun K x qual st f fd)
    (h : ∀ (kV doc pm : Value) (an : Option Addr) (cdv ct : Value) (us : List Value), us.length = ps.length → bindArgs (PySem.W.fnOf x qual (defArgs st) (defBody st) (defScope st) .none kV doc pm an cdv ct) ⟨us, []⟩ = pure (ps.zip us)) : ∀ us : List Value, us.length = ps.length → bindArgs fd ⟨us, []⟩ = pure (ps.zip us) := by
  obtain ⟨oc, od, kV, doc, pm, an, cdv, ct, osl, rfl, _, _⟩ := F.ex
  exact h kV doc pm an cdv ct
theorem kw_of {K : PySem.W.Frag} {x qual : Str} {st : Stmt} {f : Addr} {fd : FuncData} {ps : List Str} {p : Nat × List Str} (F : Fun K x qual st f fd) (h1 : p.1 + p.2.length = ps.length) (h2 : ∀ y ∈ ps.drop p.1, y ∈ p.2)
    (h : ∀ (kV doc pm : Value) (an : Option Addr) (cdv ct : Value) (us ws : List Value), us.length = p.1 → ws.length = p.2.length → bindArgs (PySem.W.fnOf x qual (defArgs st) (defBody st) (defScope st) .none kV doc pm an cdv ct) ⟨us, p.2.zip ws⟩ = pure (ps.zip (us ++ ordV .none (ps.drop p.1) p.2 ws))) : KwOk fd ps p := by
  obtain ⟨oc, od, kV, doc, pm, an, cdv, ct, osl, rfl, _, _⟩ := F.ex
  exact ⟨h1, h2, h kV doc pm an cdv ct⟩
end DL
namespace DL
open PySem PySem.Spec PyProof.Rows L2

/-! ### isinstance with a built-in type -/
def tyD : D → Option String
  | .non => some "NoneType"
  | .bl _ => some "bool"
  | .int _ => some "int"
  | .str _ => some "str"
  | .tup _ => some "tuple"
  | .lst _ => some "list"
  | .scr _ => some "list"
  | .raw _ => none
  | .ext _ => none
theorem tyX_of {K : PySem.W.Frag} {H : Hp} {d : D} {v : V} {t : String} (h : tyD d = some t) (r : Rp K H d v) (hs : ∀ l, d ≠ .scr l) : TyX K H v (.type t) := by
  cases d with
  | non => cases h; cases (show v = _ from r); exact .base .non
  | bl b => cases h; cases (show v = _ from r); exact .base (.bl b)
  | int i => cases h; cases (show v = _ from r); exact .base (.int i)
  | str x => cases h; cases (show v = _ from r); exact .base (.str x)
  | tup l =>
    cases h
    obtain ⟨a, xs, rfl, h1, _⟩ := r
    rcases h1 with (h1 | ⟨o, h1⟩) | ⟨o, its, n, h1, h2, _⟩
    · exact .base (.tup h1)
    · exact .fTuple h1
    · exact .kTuple h1 h2
  | lst l =>
    cases h
    obtain ⟨a, xs, rfl, h1, _⟩ := r
    exact .base (.lst h1)
  | raw u => cases h
  | ext u => cases h
  | scr l => exact absurd rfl (hs l)
section
variable {X : Cx} {K : PySem.W.Frag} {S : Sto} {Q : D → Sto → Prop} {d : D}
theorem drc_isi {t T : String} {b : Bool} (ht : tyD d = some t) (hk : kitB t T = some b) (q : Q (.bl b) S) (hs : ∀ l, d ≠ .scr l := by intro _ z; cases z) : DRC K (rIsi K) [d, .raw (.ty T)] S Q := fun H Hd vs Qv st rr k => by
  obtain ⟨v, w, e1, rv, rw'⟩ := two_rp rr
  have rw' : w = V.ty T := rw'
  subst e1 rw'
  exact ⟨v, .ty T, .type t, .type T, b, rfl, .ty T, tyX_of ht (Rp.mono st.sub d v rv) hs, kit_ty hk, k _ _ (.here (d := .bl b) st rfl q)⟩
theorem k_ii : kitB "int" "int" = some true := by decide +kernel
theorem k_ib : kitB "int" "bool" = some false := by decide +kernel
theorem k_bi : kitB "bool" "int" = some true := by decide +kernel
theorem k_bb : kitB "bool" "bool" = some true := by decide +kernel
theorem k_tt : kitB "tuple" "tuple" = some true := by decide +kernel
theorem k_si : kitB "str" "int" = some false := by decide +kernel
theorem k_ni : kitB "NoneType" "int" = some false := by decide +kernel
theorem k_ti : kitB "tuple" "int" = some false := by decide +kernel
theorem k_li : kitB "list" "int" = some false := by decide +kernel
theorem k_it : kitB "int" "tuple" = some false := by decide +kernel
theorem k_bt : kitB "bool" "tuple" = some false := by decide +kernel
theorem k_st : kitB "str" "tuple" = some false := by decide +kernel
theorem k_nt : kitB "NoneType" "tuple" = some false := by decide +kernel
theorem k_lt : kitB "list" "tuple" = some false := by decide +kernel
/-- a built-in type's name as a value -/
theorem de_ty {x : Str} {T : String} {en : DEnv} {pos : Pos} (hm : X.mg x = none) (hv : bootBuiltins x = some (.type T)) (q : Q (.raw (.ty T)) S) (hg : Gl X x := by rfl) (hn : x ≠ "__name__" := by decide) (hd : (x == ("__debug__" : Str)) = false := by decide) : DE X (.Name x pos) en S Q := ⟨fun _ _ _ st _ => wE_of (pe_bltn (v := .ty T) hg hm hv rfl hn hd) (.here (d := .raw (.ty T)) st rfl q)⟩
theorem bt_bool : bootBuiltins "bool" = some (.type "bool") := by decide +kernel
/-- all, any of a list of truths -/
theorem bls_of {H : Hp} : ∀ {bs : List Bool} {vs : List V}, RpL K H (bs.map D.bl) vs → vs = bs.map V.bl
  | [], _, h => h
  | b :: bs, _, h => by
    obtain ⟨x, xs, e1, e2, e3⟩ := h
    have e2 : x = V.bl b := e2
    rw [e1, e2, bls_of e3] <;> rfl
theorem drc_all {bs : List Bool} (q : Q (.bl (bs.all id)) S) : DRC K (rAll K) [.lst (bs.map D.bl)] S Q := fun H Hd vs Qv st rr k => by
  obtain ⟨v, e1, a, xs, f1, f2, f3⟩ := one_rp rr
  subst e1 f1
  exact ⟨a, bs, rfl, by rw [← bls_of f3]; exact .of (st.sub _ _ f2), k _ _ (.here (d := .bl _) st rfl q)⟩
/-! ### slices -/
variable {e : Expr} {en : DEnv} {R : Option Int → Prop}
theorem do_none (q : R none) : DO X none en S R := q
theorem do_some (h : DE X e en S fun x S' => S' = S ∧ ∃ i, x = .int i ∧ R (some i)) : DO X (some e) en S R := h
theorem sl_t2 {a b c : D} (q : Q (.tup [a, b]) S) : slP (.tup [a, b, c]) none (some 2) S Q := ⟨(show ¬ (HT.sIx 3 0 none = 0 ∧ HT.sIx 3 3 (some 2) = 3) by decide), q⟩
theorem sl_l {l : List D} {lo hi : Option Int} (q : Q (.lst (cutD l lo hi)) S) : slP (.lst l) lo hi S Q := q
theorem cut_to {l : List D} {n : Int} (h : 0 ≤ n) : cutD l none (some n) = l.take n.toNat := by
  unfold cutD HT.sIx
  simp only [Nat.sub_zero, List.drop_zero]
  have e1 : ¬ n < 0 := by omega
  simp only [e1, if_false]
  by_cases h2 : n.toNat ≤ l.length
  · congr 1
    omega
  · rw [List.take_of_length_le (by omega), List.take_of_length_le (by omega)]

theorem kws_cons {fd : FuncData} {ps : List Str} {p : Nat × List Str} {r : List (Nat × List Str)} (h : KwOk fd ps p) (k : ∀ q ∈ r, KwOk fd ps q) : ∀ q ∈ p :: r, KwOk fd ps q := fun q hq => by
  rcases List.mem_cons.mp hq with e | e
  · rw [e]
    exact h
  · exact k q e

/-! ### three targets at once -/
end

/-! ### the turns of a law over its script -/
theorem scr_turn {ns : List Int} {n : Int} (hn : 0 ≤ n ∧ n ≤ 64) {i : Nat} {d : D} (h : (enuD (cutD (ns.map D.int ++ [.int 0]) none (some n)))[i]? = some d) : i < 64 ∧ ∃ e : Int, d = .tup [.int (i : Nat), .int e] := by
  obtain ⟨x, h1, h2⟩ := enuD_get h
  rw [cut_to hn.1] at h1
  have hi := (List.getElem?_eq_some_iff.mp h1).1
  rw [List.length_take] at hi
  refine ⟨by omega, ?_⟩
  have m := List.mem_of_getElem? h1
  have m2 := List.mem_of_mem_take m
  rcases List.mem_append.mp m2 with z | z
  · obtain ⟨e, _, z2⟩ := List.mem_map.mp z
    exact ⟨e, by rw [h2, ← z2]⟩
  · have z2 : x = .int 0 := by simpa using z
    exact ⟨0, by rw [h2, z2]⟩

/-! ### the source of a law's numbers -/
def Src (m : Nat) (l : List D) : Prop := ∃ a b c : Int, l = [.int a, .int b, .int c] ∧ 0 ≤ a ∧ Bd 200 b ∧ (0 ≤ c ∧ c ≤ (m : Int)) ∧ 0 ≤ b
def con_source : Con := fun ds S Q => ∃ e k : Int, ds = [.int e, .int k] ∧ (0 ≤ k ∧ k ≤ 100) ∧ ∀ p l, getS p S = none → Src 0 l → Q (.raw (.ref p)) ((p, l) :: S)
def con_draw : Con := fun ds S Q => ∃ (p : Addr) (n : Int) (l : List D) (m : Nat), ds = [.raw (.ref p), .int n] ∧ getS p S = some l ∧ Src m l ∧ m ≤ 1000000 ∧ 0 < n ∧ Bd 400 n ∧ ∀ r l', 0 ≤ r → r < n → Src (m + 1) l' → Q (.int r) (setS p l' S)
def con_common : Con := fun ds S Q => ∃ a b : Int, ds = [.int a, .int b] ∧ Q (.int ((Nat.gcd a.natAbs b.natAbs : Nat) : Int)) S
/-- p, q, quarters are a turn -/
structure Tn (p q k : Int) : Prop where
  p1 : 1 ≤ p
  p2 : p ≤ 1000000000000000
  q1 : -p < q
  q2 : q < p
  g : Nat.gcd p.natAbs q.natAbs = 1
  o : (p + q) % 2 = 1
  k1 : 0 ≤ k
  k2 : k ≤ 3
theorem Tn.bp {p q k : Int} (h : Tn p q k) : Bd 50 p := by
  have := h.p1
  have := h.p2
  unfold Bd
  omega
theorem Tn.bq {p q k : Int} (h : Tn p q k) : Bd 50 q := by
  have := h.p2
  have := h.q1
  have := h.q2
  unfold Bd
  omega
def con_spin : Con := fun ds S Q => ∃ (p : Addr) (n : Int) (l : List D) (m : Nat), ds = [.raw (.ref p), .int n] ∧ getS p S = some l ∧ Src m l ∧ m ≤ 900000 ∧ 0 < n ∧ n ≤ 1000000000000000 ∧ ∀ a b k l', Tn a b k → a ≤ n → Src (m + 10) l' → Q (.tup [.int a, .int b, .int k]) (setS p l' S)
def con_dot : Con := fun ds S Q => ∃ (p : Addr) (n : Int) (l : List D) (m : Nat), ds = [.raw (.ref p), .int n] ∧ getS p S = some l ∧ Src m l ∧ m ≤ 900000 ∧ 0 ≤ n ∧ Bd 300 n ∧ ∀ x y l', (-n ≤ x ∧ x ≤ n) → (-n ≤ y ∧ y ≤ n) → Src (m + 2) l' → Q (.tup [.int x, .int y]) (setS p l' S)
theorem Src.up {m n : Nat} {l : List D} (h : Src m l) (k : m ≤ n) : Src n l := by
  obtain ⟨a, b, c, e, h1, h2, h3, h4⟩ := h
  exact ⟨a, b, c, e, h1, h2, ⟨h3.1, by omega⟩, h4⟩
theorem getS_setS_same {p : Addr} {S : Sto} {l n : List D} (h : getS p S = some l) : getS p (setS p n S) = some n := by
  rw [getS_setS, if_pos rfl, h] <;> rfl
theorem setS_setS {p : Addr} {n m : List D} : ∀ {S : Sto}, setS p n (setS p m S) = setS p n S
  | [] => rfl
  | (q, l) :: S => by
    by_cases h : q = p
    · subst h
      rw [setS_hd, setS_hd, setS_hd]
    · rw [setS_tl h, setS_tl h, setS_tl h, setS_setS]
end DL
namespace DL
open PySem PySem.Spec PyProof.Rows L2
section
variable {X : Cx} {a b : Expr} {en : DEnv} {S : Sto} {Q : D → Sto → Prop} {pos p : Pos}
end
end DL
namespace Tp
open PySem DL
end Tp
namespace DL
open PySem PySem.Spec PyProof.Rows L2
end DL
namespace DL
open PySem PySem.Spec PyProof.Rows L2
/-- a number and a pair of numbers -/
def d3 (t : Int × Int × Int) : D := .tup [.int t.1, .tup [.int t.2.1, .int t.2.2]]
/-- the ends of a statement's ways, told by one form -/
theorem ds_join {X : Cx} {st : Stmt} {en : DEnv} {S : Sto} {Z : Dn} {γ : Type} (E : γ → DEnv) (P : γ → Sto → Prop)
    (h : DS1 X st en S { nx := fun en3 S3 => ∃ g, Wk en3 (E g) ∧ P g S3, rt := Z.rt, bk := Z.bk, ct := Z.ct }) (k : ∀ g S', P g S' → Z.nx (E g) S') : DS1 X st en S Z := ⟨fun σ H Hd st re De l =>
  h σ H Hd st re De ⟨fun _ S5 σ5 H5 Hd5 w1 w2 w3 ⟨g, w4, w5⟩ => l.nx (E g) S5 σ5 H5 Hd5 w1 w2 (w4.use w3) (k g S5 w5), l.rt, l.bk, l.ct⟩⟩
end DL
namespace DL
open PySem PySem.Spec PyProof.Rows L2
/-- slots forgotten; slots with values -/
def fgt : List Nat → DEnv → DEnv
  | [], en => en
  | k :: ks, en => fgt ks (en.set k none)
def putU : List (Nat × D) → DEnv → DEnv
  | [], en => en
  | (k, d) :: us, en => putU us (en.set k (some d))
section
variable {X : Cx} {c tg iter : Expr} {body : List Stmt} {en : DEnv} {S : Sto} {Z : Dn} {pos : Pos}
theorem ds_forG {γ : Type} (ks : List Nat) (hp : PassesOwn (model X.prog X.w) X.A X.env X.xe) (hc : X.calm = true)
    (h : DI X tg iter en S fun ds S1 => ∃ (U : γ → List (Nat × D)) (E : γ → DEnv) (_ : ∀ g, putU (U g) (fgt ks en) = E g) (P : Nat → γ → Sto → Prop) (g0 : γ), Wk en (E g0) ∧ P 0 g0 S1 ∧
      (∀ i d g S', ds[i]? = some d → P i g S' → DG X tg d (E g) S' fun en2 S2 => DS X body en2 S2 { nx := fun en3 S3 => ∃ g', Wk en3 (E g') ∧ P (i + 1) g' S3, rt := Z.rt, ct := fun en3 S3 => ∃ g', Wk en3 (E g') ∧ P (i + 1) g' S3, bk := Z.nx }) ∧
      ∀ g S', P ds.length g S' → Z.nx (E g) S') (hs : ∀ x, foldedSetIterable iter X.env x = pure x := by first | exact fset rfl | (intro _; rfl)) : DS1 X (.For tg iter body [] pos) en S Z := by
  refine ds_for (γ := γ) hp hc ⟨fun σ H Hd st re => ?_⟩ hs
  intro pins s I
  refine thn (DI.run h σ H Hd st re pins s I) fun v s1 h1 => thn h1 fun itv s2 h2 => ?_
  obtain ⟨it, fp, tn, J, H2, e, I2, T, st2, f2, ds, S1, Hd1, e1, s01, io, U, E, _, P, g0, wk, p0, turn, fin⟩ := h2
  exact ⟨it, fp, tn, J, H2, e, I2, T, st2, f2, ds, S1, Hd1, e1, s01, io, E, P, g0, wk, p0, turn, fin⟩
end
end DL
namespace DL
open PySem PySem.Spec PyProof.Rows L2
section
variable {X : Cx} {K : PySem.W.Frag} {S : Sto} {Q : D → Sto → Prop}
end
end DL
namespace DL
open PySem PySem.Spec PyProof.Rows L2
/-! ### comprehensions with several targets -/
section
variable {X : Cx} {elt iter c tg : Expr} {en : DEnv} {S : Sto} {Q : D → Sto → Prop} {pos : Pos} {scope : Scope} {ifs : List Expr} {tt : TT}
variable {own : List (Str × Nat)} {n : Nat}
end
end DL
namespace DL
open PySem PySem.Spec PyProof.Rows L2
/-! ### in, not in over any data; is None; repr of plain values -/
section
variable {X : Cx} {a b c e : Expr} {en : DEnv} {S : Sto} {Q : D → Sto → Prop} {P : Bool → Sto → Prop} {pos p : Pos}
end
end DL
namespace DL
open PySem PySem.Spec PyProof.Rows L2
/-! ### sorted over data -/
end DL
namespace DL
open PySem PySem.Spec PyProof.Rows L2
/-! ### constants of the module -/
section
variable {X : Cx} {en : DEnv} {S : Sto} {Q : D → Sto → Prop} {pos : Pos}
end
section
variable {K : PySem.W.Frag} {H : Hp} {a : Addr} {od : Option Addr} {n : Nat} {sl : Array (Option Value)}
end
end DL
namespace DL
open PySem PySem.Spec PyProof.Rows L2
/-! ### comprehensions that give a list that may be changed -/
section
variable {X : Cx} {elt iter c : Expr} {en : DEnv} {S : Sto} {Q : D → Sto → Prop} {pos py : Pos} {y : Str} {scope : Scope}
variable {ifs : List Expr} {tt : TT}
end
section
variable {X : Cx} {elt iter c tg : Expr} {en : DEnv} {S : Sto} {Q : D → Sto → Prop} {pos : Pos} {scope : Scope} {ifs : List Expr} {tt : TT}
variable {own : List (Str × Nat)} {n : Nat}
end

/-! ### data with changed lists in it, as it stands -/
end DL
/-! An error class of the program whose __init__ says super().__init__(f"..{x}"), self.x = x: made, held, its field read. -/
namespace PySem
namespace LimX
open PySem.W PySem.Calls PyProof.Rows PySem.HandSPX
section
variable {prog : Program} {w : World} {A : Around} {E : Value → Shared → Prop} {R : Result → Shared → Prop} {s : Shared} {K : Frag} {mg : Str → Option Value} {C fI : Addr} {x qual fld pre : Str}
end
end LimX
end PySem
namespace L2
open PySem PySem.Spec PyProof.Rows
section
variable {X : Cx} {C fI : Addr} {x qual fld pre : Str}
end
end L2
namespace DL
open PySem PySem.Spec PyProof.Rows L2
/-! ### errors over data -/
structure XD where
  cls : Value
  fld : Option (Str × D)
/-- an error's class and dict, in the heap of data -/
def XR (K : PySem.W.Frag) (Hd : Hp) (x : XD) (cls : Value) (d : Option Addr) : Prop := cls = x.cls ∧ match x.fld with
  | none => d = none
  | some (f, dv) => ∃ dd v, d = some dd ∧ Hd dd = some (.xd [(f, v)]) ∧ Rp K Hd dv v
abbrev RX := XD → DEnv → Sto → Prop
/-- what is wanted of an error is taken -/
structure LiftX (X : Cx) (Hd : Hp) (R : RX) : Prop where
  ex : ∃ W : WX, Takes X W ∧ ∀ x en S cls d σ H Hd', Same Hd Hd' → St0 X.K S Hd' H → RpE X.K Hd' en σ → XR X.K Hd' x cls d → R x en S → W cls d σ H
theorem LiftX.up {X : Cx} {Hd Hd' : Hp} {R : RX} (e : Same Hd Hd') (l : LiftX X Hd R) : LiftX X Hd' R := by
  obtain ⟨W, tk, h⟩ := l.ex
  exact ⟨W, tk, fun x en S cls d σ H H2 k => h x en S cls d σ H H2 (e.trans k)⟩
structure DEX (X : Cx) (e : Expr) (en : DEnv) (S : Sto) (Q : D → Sto → Prop) (R : RX) : Prop where
  run : ∀ (σ : L2.St) (H Hd : Hp), St0 X.K S Hd H → RpE X.K Hd en σ → LiftX X Hd R → wE X e σ H (QD X.K Hd Q)
structure DS1X (X : Cx) (st : Stmt) (en : DEnv) (S : Sto) (Z : Dn) (R : RX) : Prop where
  run : ∀ (σ : L2.St) (H Hd : Hp), St0 X.K S Hd H → RpE X.K Hd en σ → ∀ De : Ends, Lift X.K Hd Z De → LiftX X Hd R → wS X st De σ H
structure DSX (X : Cx) (sts : List Stmt) (en : DEnv) (S : Sto) (Z : Dn) (R : RX) : Prop where
  run : ∀ (σ : L2.St) (H Hd : Hp), St0 X.K S Hd H → RpE X.K Hd en σ → ∀ De : Ends, Lift X.K Hd Z De → LiftX X Hd R → wSs X sts De σ H
abbrev ConX := List D → Sto → (D → Sto → Prop) → (XD → Sto → Prop) → Prop
def spDX (K : PySem.W.Frag) (C : ConX) : Sp := fun vs H Q E => ∃ (ds : List D) (S : Sto) (Hd : Hp) (Qd : D → Sto → Prop) (Rd : XD → Sto → Prop), RpL K Hd ds vs ∧ St0 K S Hd H ∧ C ds S Qd Rd ∧
  (∀ d S' v H' Hd', Qd d S' → Same Hd Hd' → St0 K S' Hd' H' → Rp K Hd' d v → Q v H') ∧ ∀ x S' cls d H' Hd', Rd x S' → Same Hd Hd' → St0 K S' Hd' H' → XR K Hd' x cls d → E cls d H'
/-! ### a def that may raise keeps its promise, by its body -/
structure GOkX (P : Program) (w : World) (K : PySem.W.Frag) (mg : Str → Option Value) (base : Heap) (k : Nat) (f : Addr) (fd : FuncData) (ps : List Str) (sp : Sp) : Prop where
  len : ∀ vs H Q E, sp vs H Q E → vs.length = ps.length
  run : ∀ (A : Around) (fr : List Env) (s : Shared) (H : Hp) (ar : Args) (us : List Value) (vs : List V) (Q : VK) (E : XK), A.guards = some [] → Room k A →
    Env0 P w K mg base A fr s H → BindsTo s fd ar (ps.zip us) → Vals vs us → sp vs H Q E → codeAny (model P w) A (.call (.ref f) ar) (CR (L2.CX P w) fr P w H s Q E) s
section
variable {P : Program} {w : World} {K : PySem.W.Frag} {mg : Str → Option Value} {base : Heap}
theorem gokx_of {k : Nat} {x qual : Str} {st : Stmt} {f : Addr} {fd : FuncData} {N ps : List Str} {sp : Sp} (F : Fun K x qual st f fd) (S : FnScope N ps (defScope st)) (ln : ∀ vs H Q E, sp vs H Q E → vs.length = ps.length)
    (body : ∀ (cdv : Value) (A : Around) (fr : List Env) (s : Shared) (H : Hp) (vs : List V) (Q : VK) (E : XK), (A.deeper (envOfC qual (defScope st) s.heap.objs.size f cdv)).guards = some [] → Room k (A.deeper (envOfC qual (defScope st) s.heap.objs.size f cdv)) → sp vs H Q E →
      wSs (cxOf (L2.CX P w) P w K mg base N qual (defScope st) f cdv A fr s H E) (defBody st) { nx := fun _ H' => Q .non H', rt := Q } (start N vs) H) : GOkX P w K mg base (k + 1) f fd ps sp := by
  obtain ⟨oc, od, kV, doc, pm, an, cdv, ct, osl, rfl, lk, hcd⟩ := F.ex
  refine ⟨ln, fun A fr s H ar us vs Q E gd hr e0 hb r hsp => ?_⟩
  have long := ln _ _ _ _ hsp
  have KX : K.In s.heap := e0.mod.kin.keeps fun b o e => (e0.bs b o e).1
  have free : s.heap.NoLimit := e0.mod.nolimit.keeps fun b o e => (e0.bs b o e).1
  refine codeAny_call_function hr.depth (KX _ _ lk) rfl S.co S.gen rfl (PySem.W.codeRec_of KX hcd) (hb _ _ _ _ ?_)
  refine wpAny_newFunctionEnv_cells S.kind (fun y hy => ?_) fun env he s1 xx => ?_
  · obtain ⟨n, v⟩ := y
    rcases S.par n (List.of_mem_zip hy).1 with z | z
    · exact .inl z
    · exact .inr ⟨z, PySem.W.cellsFrom_some _ _ _ (.inl z)⟩
  subst he
  refine ⟨free.keeps xx.toInCall.keep, codeAny_func ?_⟩
  have J : Inv (cxOf (L2.CX P w) P w K mg base N qual (defScope st) f cdv A fr s H E) [] (start N vs) H s1 := inv_start S hr.hd e0 long r xx
  have run := (pssW (X := (cxOf (L2.CX P w) P w K mg base N qual (defScope st) f cdv A fr s H E)) (sts := defBody st)).run [] s1 (start N vs) H _ J (body cdv A fr s H vs Q E gd (hr.deeper _) hsp)
  refine wpAny_mono run (fun fl s' hs => ?_) fun e s' hs => hs
  have out : ∀ {σ' : L2.St} {H' : Hp} {v : V} {u : Value}, Inv (cxOf (L2.CX P w) P w K mg base N qual (defScope st) f cdv A fr s H E) [] σ' H' s' → RelV v u → Q v H' → CE fr P w H s Q u s' :=
    fun {σ' H' v u} I rv q => ⟨v, H', I.os, I.bare, I.base, I.hok, rv, q⟩
  cases fl with
  | ret u =>
    obtain ⟨v, σ', H', I, rv, q⟩ := hs
    exact out I rv q
  | next =>
    obtain ⟨σ', H', I, q⟩ := hs
    exact out (v := V.non) (u := Value.none) I rfl q
  | brk => exact hs.elim fun _ h => h.elim fun _ h => h.2.elim
  | cont => exact hs.elim fun _ h => h.elim fun _ h => h.2.elim
theorem gokx_ds {k m : Nat} {x qual : Str} {st : Stmt} {f : Addr} {fd : FuncData} {N ps : List Str} {C : ConX} (F : Fun K x qual st f fd) (S : FnScope N ps (defScope st))
    (hm : N.length - ps.length = m) (ln : ∀ ds S Q R, C ds S Q R → ds.length = ps.length)
    (body : ∀ (cdv : Value) (A : Around) (fr : List Env) (s : Shared) (H : Hp) (E : XK), (A.deeper (envOfC qual (defScope st) s.heap.objs.size f cdv)).guards = some [] → Room k (A.deeper (envOfC qual (defScope st) s.heap.objs.size f cdv)) → ∀ (ds : List D) (S0 : Sto) (Q : D → Sto → Prop) (R : XD → Sto → Prop), C ds S0 Q R →
      DSX (cxOf (L2.CX P w) P w K mg base N qual (defScope st) f cdv A fr s H E) (defBody st) (ds.map some ++ List.replicate m none) S0 { nx := fun _ S' => Q .non S', rt := Q } (fun x _ S' => R x S')) : GOkX P w K mg base (k + 1) f fd ps (spDX K C) := by
  refine gokx_of F S (fun vs H Q E h => ?_) fun cdv A fr s H vs Q E gd hr h => ?_
  · obtain ⟨ds, S0, Hd, Qd, Rd, r, _, c, _⟩ := h
    rw [r.length]
    exact ln _ _ _ _ c
  · obtain ⟨ds, S0, Hd, Qd, Rd, r, st0, c, fin, finx⟩ := h
    have e : L2.start N vs = vs.map some ++ List.replicate m none := by
      unfold L2.start
      rw [r.length, ln _ _ _ _ c, hm]
    rw [e]
    refine (body cdv A fr s H E gd hr ds S0 Qd Rd c).run _ H Hd st0 (RpE.start m r) _ ⟨fun en S' σ H' Hd' z1 z2 _ q => fin .non S' .non H' Hd' q z1 z2 rfl, fun d S' v H' Hd' z1 z2 z3 q => fin d S' v H' Hd' q z1 z2 z3, fun _ _ _ _ _ _ _ _ q => q.elim, fun _ _ _ _ _ _ _ _ q => q.elim⟩ ?_
    exact ⟨fun cls d _ H => E cls d H, takes_of rfl rfl rfl rfl, fun x en S cls d σ H' Hd' z1 z2 _ z3 q => finx x S cls d H' Hd' q z1 z2 z3⟩
end
/-- a def that may raise, in the module -/
structure CalX (P : Program) (w : World) (K : PySem.W.Frag) (mg : Str → Option Value) (base : Heap) (k : Nat) (x : Str) (ps : List Str) (kws : List (Nat × List Str)) (C : ConX) : Prop where
  ex : ∃ (f : Addr) (fd : FuncData), GOkX P w K mg base k f fd ps (spDX K C) ∧ mg x = some (.ref f) ∧ PySem.W.keepIn K (.ref f) = true ∧
    (∀ us : List Value, us.length = ps.length → bindArgs fd ⟨us, []⟩ = pure (ps.zip us)) ∧ ∀ p ∈ kws, KwOk fd ps p
theorem calx_of {P : Program} {w : World} {K : PySem.W.Frag} {mg : Str → Option Value} {base : Heap} {k : Nat} {x qual : Str} {st : Stmt} {f : Addr} {fd : FuncData} {ps : List Str} {kws : List (Nat × List Str)} {C : ConX} (F : Fun K x qual st f fd)
    (G : GOkX P w K mg base k f fd ps (spDX K C)) (hm : mg x = some (.ref f)) (hb : ∀ us : List Value, us.length = ps.length → bindArgs fd ⟨us, []⟩ = pure (ps.zip us)) (hk : ∀ p ∈ kws, KwOk fd ps p) : CalX P w K mg base k x ps kws C := ⟨f, fd, G, hm, F.kp, hb, hk⟩
section
variable {X : Cx} {a b c e tg : Expr} {es : List Expr} {kwl : List Keyword} {st : Stmt} {sts rest : List Stmt} {en : DEnv} {S : Sto} {Z : Dn} {Q : D → Sto → Prop} {R : RX} {QL : List D → Sto → Prop} {pos pos' p kpos : Pos} {k : Nat} {x : Str} {ps ks : List Str} {kws : List (Nat × List Str)} {C : ConX}
/-! ### what raises nothing -/
theorem dsx_of (h : DS X sts en S Z) : DSX X sts en S Z R := ⟨fun σ H Hd st re De l _ => h σ H Hd st re De l⟩
theorem dsx_nil (q : Z.nx en S) : DSX X [] en S Z R := dsx_of (ds_nil q)
theorem dsx_cons (h : DS1X X st en S { Z with nx := fun en' S' => DSX X rest en' S' Z R } R) : DSX X (st :: rest) en S Z R := ⟨fun σ H Hd s0 re De l lx => by
  refine wSs_of (pss_cons psW pssW) ?_
  exact h.run σ H Hd s0 re _ ⟨fun en' S' σ' H' Hd' z1 z2 z3 q => q.run σ' H' Hd' z2 z3 De (l.up z1) (lx.up z1), l.rt, l.bk, l.ct⟩ lx⟩
theorem dsx_nrm {en' : DEnv} (h : DSX X sts en' S Z R) (he : en = en' := by set_option simprocs false in dsimp only [List.set]) : DSX X sts en S Z R := by
  rw [he]
  exact h
theorem dsx_if {s1 s2 : List Stmt} (h : DT X c en S fun t S1 => (t = true → DSX X s1 en S1 Z R) ∧ (t = false → DSX X s2 en S1 Z R)) : DS1X X (.If c s1 s2 pos) en S Z R := ⟨fun σ H Hd st re De l lx => by
  refine wS_of (ps_if ptW pssW pssW) ?_
  refine wT_mono (h σ H Hd st re) fun t H1 ⟨S1, Hd1, e1, st1, q1, q2⟩ => ?_
  cases t with
  | true =>
    rw [if_pos rfl]
    exact (q1 rfl).run σ H1 Hd1 st1 (re.mono e1) De (l.up e1) (lx.up e1)
  | false =>
    rw [if_neg Bool.false_ne_true]
    exact (q2 rfl).run σ H1 Hd1 st1 (re.mono e1) De (l.up e1) (lx.up e1)⟩
/-! ### calls of what may raise -/
theorem DEX.mono {Q' : D → Sto → Prop} (h : DEX X e en S Q R) (k : ∀ d S', Q d S' → Q' d S') : DEX X e en S Q' R := ⟨fun σ H Hd st re lx =>
  wE_mono (h.run σ H Hd st re lx) fun _ _ ⟨d, S', Hd', e', st', r, q⟩ => ⟨d, S', Hd', e', st', r, k d S' q⟩⟩
end
end DL
/-! try with several clauses, some of which name the error -/
namespace DL
open PySem PySem.Spec PyProof.Rows L2
abbrev TCl := Addr → Value → Option Addr → TS
section
variable {X : Cx} {body : List Stmt} {h₀ : ExceptHandler} {hds : List ExceptHandler} {l : List (Value × Option Nat × TCl)} {pos : Pos} {tb : WX → TS} {Wout : WX}
end
end DL
namespace DL
open PySem PySem.Spec PyProof.Rows L2
/-! ### errors raised -/
/-- an error class of the program without an own __init__ -/
structure OwnErr (K : PySem.W.Frag) (mg : Str → Option Value) (x : Str) (C : Addr) : Prop where
  gC : mg x = some (.ref C)
  kC : PySem.W.keepIn K (.ref C) = true
  q : PySem.W.excIn K C [.type "ValueError", .type "Exception", .type "BaseException", .type "object"] "ValueError.__new__" = true
  exC : PySem.W.subIn K (.ref C) (.type "BaseException") = some true
  tyC : PySem.W.typeIn K (.ref C) = some (.type "type")
section
variable {X : Cx} {a e : Expr} {st : Stmt} {sts : List Stmt} {en : DEnv} {S : Sto} {Z : Dn} {Q : D → Sto → Prop} {R : RX} {pos pos' p p2 : Pos} {x qual fld pre : Str} {C fI : Addr} {j : Nat} {m : Str} {k : Nat}
theorem dsx_raise_own (T : OwnErr X.K X.mg x C) (hc : X.calm = true) (q : R ⟨.ref C, none⟩ en S) (hg : Gl X x := by rfl) (hdb : (x == ("__debug__" : Str)) = false := by decide) : DS1X X (.Raise (some (.Call (.Name x p) [.Constant (.str m) j p2] [] pos)) none pos') en S Z R := ⟨fun σ H Hd st re De l lx => by
  obtain ⟨W, tk, hW⟩ := lx.ex
  refine wS_of (ps_raise hc tk (pmk_own PySem.F.excBase_ValueError T.q T.gC T.kC (raises_own T.exC T.tyC) hg (hdb := hdb))) ?_
  exact hW ⟨.ref C, none⟩ en S _ none σ H Hd (Same.refl _) st re ⟨rfl, rfl⟩ q⟩
/-! ### errors caught -/
end
end DL
namespace DL
open PySem PySem.Spec PyProof.Rows L2
section
variable {X : Cx} {sts : List Stmt} {en : DEnv} {S : Sto} {Z : Dn} {R : RX}
end
end DL
/-! l.count(x) over data; sum, zip -/
namespace DL
open PySem PySem.Spec PyProof.Rows L2
section
variable {X : Cx} {e : Expr} {en : DEnv} {S : Sto}
end
/-- whole numbers, truths -/
theorem flat_ints : ∀ l : List Int, flatOkL 8 (l.map D.int) = true
  | [] => rfl
  | i :: l => by
    show (flatOk 8 (.int i) && flatOkL 8 (l.map D.int)) = true
    rw [flat_ints l] <;> rfl
theorem flat_bls : ∀ l : List Bool, flatOkL 8 (l.map D.bl) = true
  | [] => rfl
  | i :: l => by
    show (flatOk 8 (.bl i) && flatOkL 8 (l.map D.bl)) = true
    rw [flat_bls l] <;> rfl
theorem plain_ints : ∀ l : List Int, PyData.plainAll (toPyL (l.map D.int)) = true
  | [] => rfl
  | i :: l => by
    show ((toPy (.int i)).plain && PyData.plainAll (toPyL (l.map D.int))) = true
    rw [plain_ints l] <;> rfl
theorem plain_bls : ∀ l : List Bool, PyData.plainAll (toPyL (l.map D.bl)) = true
  | [] => rfl
  | i :: l => by
    show ((toPy (.bl i)).plain && PyData.plainAll (toPyL (l.map D.bl))) = true
    rw [plain_bls l] <;> rfl
end DL
/-! sum and min of a tuple of whole numbers -/
namespace DL
open PySem PySem.Spec PyProof.Rows L2
end DL
/-! xs.extend(ys) -/
namespace DL
open PySem PySem.Spec PyProof.Rows L2
section
variable {X : Cx} {e : Expr} {en : DEnv} {S : Sto}
end
end DL
/-! zip of two lists -/
namespace DL
open PySem PySem.Spec PyProof.Rows L2
section
variable {X : Cx} {e e2 : Expr} {en : DEnv} {S : Sto} {R : List D → Sto → Prop} {p pos : Pos}
end
end DL
/-! repr of many small numbers -/
namespace DL
open PySem PySem.Spec PyProof.Rows L2
end DL
/-! max of three -/
namespace DL
open PySem PySem.Spec PyProof.Rows L2
end DL
namespace DL
open PySem PySem.Spec PyProof.Rows L2
/-! ### ranges whose ends are great -/
section
variable {X : Cx} {tg : Expr}
variable {a b : Expr} {en : DEnv} {S : Sto} {R : List D → Sto → Prop} {p pos : Pos}
end
end DL
namespace DL
open PySem PySem.Spec PyProof.Rows L2
/-! ### comprehensions over two walks -/
section
variable {X : Cx} {elt iter iter1 : Expr} {en : DEnv} {S : Sto} {Q : D → Sto → Prop} {pos py pz : Pos} {y z : Str} {scope : Scope}
end
end DL
namespace DL
open PySem PySem.Spec PyProof.Rows L2
/-! ### for x in a list that may be changed, but is not, within -/
section
variable {X : Cx} {tg iter : Expr} {body : List Stmt} {en : DEnv} {S : Sto} {Z : Dn} {pos : Pos}
end
end DL
namespace DL
open PySem PySem.Spec PyProof.Rows L2
/-! ### xs[i] += e, of whole numbers in a changed list -/
section
variable {X : Cx} {a b e : Expr} {en : DEnv} {S : Sto} {Z : Dn} {pos tpos : Pos}
end
end DL
namespace DL
open PySem PySem.Spec PyProof.Rows L2
/-! ### pairs of whole numbers in order -/
section
variable {X : Cx} {a b : Expr} {en : DEnv} {S : Sto} {Q : D → Sto → Prop} {P : Bool → Sto → Prop} {pos : Pos}
end
end DL
/-! sorted of a tuple of ints -/
namespace DL
open PySem PySem.Spec PyProof.Rows L2
end DL
/-! repr of an own exception that was made with one text -/
namespace PySem
namespace ExR
open Sem (wp)
open Builtin Builtin.Str Builtin.BaseException Builtin.Exceptions
open PySem.W (Looks Frag findIn subIn clsIn looks_findIn looks_subIn looks_clsIn)
def nmOf (cd : PySem.ClassData) : Str := Str.ofString ((cd.name.toString.cutAt '.').getLastD "")
/-- how such an error is shown -/
def txtOf (cd : PySem.ClassData) (m : Str) : Str := nmOf cd ++ Str.ofString "(" ++ reprText m ++ Str.ofString ")"
section
variable {prog : Program} {w : World} {M : Model} {A : Around} {E : Value → Shared → Prop} {s : Shared} {K : Frag} {C e t0 : Addr} {cd : PySem.ClassData} {m : Str} {tk : Tok}
end
end ExR
end PySem
/-! what any value is shown as: plain data, dicts, own errors, lists and tuples of them -/
namespace DL
open PySem PySem.Spec PyProof.Rows L2
/-! ### how deep a value is -/
mutual
inductive Dpt (h : Heap) : Value → Nat → Prop
  | leaf {v : Value} : (∀ a, v ≠ .ref a) → Dpt h v 0
  | obj {a : Addr} {o : Obj} : h.get? a = some o → (∀ xs n, o.data ≠ .seq xs n) → Dpt h (.ref a) 1
  | seq {a : Addr} {o : Obj} {items : List Value} {n k : Nat} : h.get? a = some o → o.data = .seq items.toArray n → DptL h items k → Dpt h (.ref a) (k + 1)
inductive DptL (h : Heap) : List Value → Nat → Prop
  | nil : DptL h [] 0
  | cons {v : Value} {vs : List Value} {j k : Nat} : Dpt h v j → DptL h vs k → DptL h (v :: vs) (max j k)
end
mutual
theorem Dpt.det {h : Heap} : ∀ {v : Value} {n m : Nat}, Dpt h v n → Dpt h v m → n = m
  | _, _, _, .leaf e, .leaf _ => rfl
  | _, _, _, .leaf e, .obj _ _ => absurd rfl (e _)
  | _, _, _, .leaf e, .seq _ _ _ => absurd rfl (e _)
  | _, _, _, .obj _ _, .leaf e => absurd rfl (e _)
  | _, _, _, .obj _ _, .obj _ _ => rfl
  | _, _, _, .obj e f, .seq e2 f2 _ => by
    rw [e] at e2
    cases e2
    exact absurd f2 (f _ _)
  | _, _, _, .seq _ _ _, .leaf e => absurd rfl (e _)
  | _, _, _, .seq e f _, .obj e2 f2 => by
    rw [e] at e2
    cases e2
    exact absurd f (f2 _ _)
  | _, _, _, .seq (items := i1) e f g, .seq (items := i2) e2 f2 g2 => by
    rw [e] at e2
    cases e2
    rw [f] at f2
    have z : i1 = i2 := by
      have w := congrArg (fun d => match d with | Data.seq xs _ => xs.toList | _ => []) f2
      simpa using w
    subst z
    rw [DptL.det g g2]
theorem DptL.det {h : Heap} : ∀ {vs : List Value} {n m : Nat}, DptL h vs n → DptL h vs m → n = m
  | _, _, _, .nil, .nil => rfl
  | _, _, _, .cons a b, .cons c d => by rw [Dpt.det a c, DptL.det b d]
end
def AsB (h : Heap) (n : Nat) (as : List Addr) : Prop := ∀ b ∈ as, ∃ m, m ≤ n ∧ Dpt h (.ref b) m
theorem AsB.nil {h : Heap} {n : Nat} : AsB h n [] := fun _ z => nomatch z
theorem AsB.up {h : Heap} {n m : Nat} {as : List Addr} (x : AsB h n as) (k : n ≤ m) : AsB h m as := fun b hb => let ⟨j, h1, h2⟩ := x b hb; ⟨j, Nat.le_trans h1 k, h2⟩
theorem AsB.app {h : Heap} {n : Nat} {as bs : List Addr} (x : AsB h n as) (y : AsB h n bs) : AsB h n (as ++ bs) := fun b hb => (List.mem_append.mp hb).elim (x b) (y b)
theorem AsB.notIn {h : Heap} {n : Nat} {as : List Addr} {a : Addr} (x : AsB h n as) (d : Dpt h (.ref a) (n + 1)) : a ∉ as := fun hm => by
  obtain ⟨m, h1, h2⟩ := x a hm
  have := Dpt.det d h2
  omega
/-- u is shown as t -/
def Sh (P : Program) (w : World) (h : Heap) (u : Value) (t : Str) (n : Nat) : Prop := ∃ as, Dpt h u n ∧ AsB h n as ∧ ReprK P w as h n u t
def ShL (P : Program) (w : World) (h : Heap) (us : List Value) (ts : List Str) (n : Nat) : Prop := ∃ as, DptL h us n ∧ AsB h n as ∧ ReprAllK P w as h n us ts
section
variable {P : Program} {w : World} {h : Heap} {u : Value} {us : List Value} {t : Str} {ts : List Str} {n j k : Nat} {a : Addr} {o : Obj} {na : Nat}
theorem Sh.leaf (e : ∀ a, u ≠ .ref a) (r : ReprIs P w u t) : Sh P w h u t 0 := ⟨[], .leaf e, .nil, .of_is r _ _ _⟩
theorem ShL.nil : ShL P w h [] [] 0 := ⟨[], .nil, .nil, .nil⟩
theorem ShL.cons (x : Sh P w h u t j) (y : ShL P w h us ts k) : ShL P w h (u :: us) (t :: ts) (max j k) := by
  obtain ⟨as, d1, b1, r1⟩ := x
  obtain ⟨bs, d2, b2, r2⟩ := y
  exact ⟨as ++ bs, .cons d1 d2, (b1.up (Nat.le_max_left _ _)).app (b2.up (Nat.le_max_right _ _)),
    .cons ((r1.more fun b hb => List.mem_append_left _ hb).level_le (Nat.le_max_left _ _)) (r2.more_le (fun b hb => List.mem_append_right _ hb) (Nat.le_max_right _ _))⟩
theorem Sh.lst (x : ShL P w h us ts n) (ho : h.get? a = some o) (hc : o.cls = .type "list") (hd : o.data = .seq us.toArray na) : Sh P w h (.ref a) (listText ts) (n + 1) := by
  obtain ⟨as, d, b, r⟩ := x
  have D : Dpt h (.ref a) (n + 1) := .seq ho hd d
  refine ⟨a :: as, D, fun c hc2 => ?_, ?_⟩
  · rcases List.mem_cons.mp hc2 with e | e
    · rw [e]
      exact ⟨_, Nat.le_refl _, D⟩
    · exact (b.up (Nat.le_succ _)) c e
  · cases us with
    | nil =>
      cases r
      rw [listText_nil]
      exact ReprK.listEmpty ho hc hd
    | cons x l => exact ReprK.list ho hc hd (b.notIn D) (by simpa using r.length_eq) (fun i y e => r.item i y (by simpa using e))
theorem Sh.tup (x : ShL P w h us ts n) (ho : h.get? a = some o) (hc : o.cls = .type "tuple") (hd : o.data = .seq us.toArray na) : Sh P w h (.ref a) (tupleText ts) (n + 1) := by
  obtain ⟨as, d, b, r⟩ := x
  have D : Dpt h (.ref a) (n + 1) := .seq ho hd d
  refine ⟨a :: as, D, fun c hc2 => ?_, ReprK.tuple ho hc hd (b.notIn D) r⟩
  rcases List.mem_cons.mp hc2 with e | e
  · rw [e]
    exact ⟨_, Nat.le_refl _, D⟩
  · exact (b.up (Nat.le_succ _)) c e
end

/-! ### data that is shown -/
/-- what stands behind an ext is shown as t -/
structure ShX (P : Program) (w : World) (K : PySem.W.Frag) (Q : Hp → V → Prop) (t : Str) (n : Nat) : Prop where
  sh : ∀ {X : Cx} {pins : List (Addr × Obj)} {σ : L2.St} {H Hd : Hp} {s : Shared} {v : V} {u : Value}, X.prog = P → X.w = w → X.K = K → Inv X pins σ H s → Same Hd H → Q Hd v → RelV v u → Sh P w s.heap u t n
  top : ∀ {X : Cx} {pins : List (Addr × Obj)} {σ : L2.St} {H Hd : Hp} {s : Shared} {v : V} {u : Value} {R : Value → Shared → Prop} {E : Value → Shared → Prop}, X.prog = P → X.w = w → X.K = K → X.A.guards = some [] → X.A.units + 64 < cLine → t.length ≤ sizeLine → Inv X pins σ H s → Same Hd H → Q Hd v → RelV v u →
    (∀ h' x tk, (∀ b o, s.heap.get? b = some o → h'.get? b = some o) → R (.str t x) { s with heap := h', toks := tk }) → wpAny (model X.prog X.w) X.A (call (.builtin "repr") [u]) R E s
mutual
/-- d is shown as t, of depth n; t has at most m signs -/
def ShD (P : Program) (w : World) (K : PySem.W.Frag) : D → Str → Nat → Nat → Prop
  | .non, t, n, m => t = "None" ∧ n = 0 ∧ 8 ≤ m
  | .bl b, t, n, m => t = (if b then Str.ofString "True" else Str.ofString "False") ∧ n = 0 ∧ 8 ≤ m
  | .int i, t, n, m => t = toString i ∧ i.natAbs < 2 ^ 1900 ∧ n = 0 ∧ 1930 ≤ m
  | .str x, t, n, m => t = reprText x ∧ (reprText x).length ≤ m ∧ n = 0 ∧ m ≤ 100000
  | .tup l, t, n, m => ∃ ts k j, ShDL P w K l ts k j ∧ t = tupleText ts ∧ n = k + 1 ∧ j + 3 ≤ m
  | .lst l, t, n, m => ∃ ts k j, ShDL P w K l ts k j ∧ t = listText ts ∧ n = k + 1 ∧ j + 3 ≤ m
  | .ext Q, t, n, m => ShX P w K Q t n ∧ t.length ≤ m
  | .raw _, _, _, _ => False
  | .scr _, _, _, _ => False
def ShDL (P : Program) (w : World) (K : PySem.W.Frag) : List D → List Str → Nat → Nat → Prop
  | [], ts, n, _ => ts = [] ∧ n = 0
  | d :: ds, ts, n, m => ∃ t ts' j k p q, ts = t :: ts' ∧ ShD P w K d t j p ∧ ShDL P w K ds ts' k q ∧ n = max j k ∧ p + 2 + q ≤ m
end
section
variable {P : Program} {w : World} {K : PySem.W.Frag}
mutual
theorem sh_len : ∀ (d : D) (t : Str) (n m : Nat), ShD P w K d t n m → t.length ≤ m
  | .non, t, n, m, h => by
    obtain ⟨rfl, _, h⟩ := h
    exact Nat.le_trans (by decide) h
  | .bl b, t, n, m, h => by
    obtain ⟨rfl, _, h⟩ := h
    refine Nat.le_trans ?_ h
    cases b <;> decide
  | .int i, t, n, m, h => by
    obtain ⟨rfl, hi, _, h⟩ := h
    obtain ⟨h1, h2⟩ := digits_le hi
    refine Nat.le_trans ?_ h
    have : (Str.ofString (toString i)).length ≤ 1921 := h1
    exact Nat.le_trans this (by decide)
  | .str x, t, n, m, h => by
    obtain ⟨rfl, h, _⟩ := h
    exact h
  | .tup l, t, n, m, h => by
    obtain ⟨ts, k, j, hl, rfl, _, hj⟩ := h
    have e := sh_lens l ts k j hl
    have := tupleText_len_le ts
    omega
  | .lst l, t, n, m, h => by
    obtain ⟨ts, k, j, hl, rfl, _, hj⟩ := h
    have e := sh_lens l ts k j hl
    have := listText_len_le ts
    omega
  | .ext Q, t, n, m, h => h.2
  | .raw _, _, _, _, h => h.elim
  | .scr _, _, _, _, h => h.elim
theorem sh_lens : ∀ (l : List D) (ts : List Str) (n m : Nat), ShDL P w K l ts n m → (ts.map (·.length)).sum + 2 * ts.length ≤ m
  | [], ts, n, m, h => by
    obtain ⟨rfl, _⟩ := h
    simp
  | d :: ds, ts, n, m, h => by
    obtain ⟨t, ts', j, k, p, q, rfl, h1, h2, _, h3⟩ := h
    have e1 := sh_len d t j p h1
    have e2 := sh_lens ds ts' k q h2
    simp only [List.map_cons, List.sum_cons, List.length_cons]
    omega
end
end
section
variable {X : Cx} {pins : List (Addr × Obj)} {σ : L2.St} {H Hd : Hp} {s : Shared}
mutual
theorem sh_of (I : Inv X pins σ H s) (e : Same Hd H) : ∀ (d : D) (t : Str) (n m : Nat) (v : V) (u : Value), ShD X.prog X.w X.K d t n m → t.length ≤ sizeLine → Rp X.K Hd d v → RelV v u → Sh X.prog X.w s.heap u t n
  | .non, t, n, m, v, u, h, _, r, q => by
    obtain ⟨rfl, rfl, _⟩ := h
    have r : v = .non := r
    subst r
    have q : u = .none := q
    subst q
    exact .leaf (fun _ z => nomatch z) ReprIs.none
  | .bl b, t, n, m, v, u, h, _, r, q => by
    obtain ⟨rfl, rfl, _⟩ := h
    have r : v = .bl b := r
    subst r
    have q : u = .bool b := q
    subst q
    exact .leaf (fun _ z => nomatch z) (ReprIs.bool b)
  | .int i, t, n, m, v, u, h, _, r, q => by
    obtain ⟨rfl, hi, rfl, _⟩ := h
    have r : v = .int i := r
    subst r
    obtain ⟨tk, rfl⟩ := q
    exact .leaf (fun _ z => nomatch z) (ReprIs.int tk (digits_le hi).2)
  | .str x, t, n, m, v, u, h, z, r, q => by
    obtain ⟨rfl, hz, rfl, _⟩ := h
    have r : v = .str x := r
    subst r
    obtain ⟨tk, rfl⟩ := q
    exact .leaf (fun _ z => nomatch z) (ReprIs.str x tk z)
  | .tup l, t, n, m, v, u, h, z, r, q => by
    obtain ⟨ts, k, j, hl, rfl, rfl, _⟩ := h
    obtain ⟨a, xs, rfl, h1, h2⟩ := r
    have q : u = .ref a := q
    subst q
    obtain ⟨its, rv, ⟨o, ho, hc, na, hd⟩, _⟩ := I.tuple (same_t e h1)
    exact Sh.tup (shs_of I e l ts k j xs its hl (fun t ht => Nat.le_trans (tupleText_mem_le ht) z) h2 rv) ho hc hd
  | .lst l, t, n, m, v, u, h, z, r, q => by
    obtain ⟨ts, k, j, hl, rfl, rfl, _⟩ := h
    obtain ⟨a, xs, rfl, h1, h2⟩ := r
    have q : u = .ref a := q
    subst q
    obtain ⟨its, rv, ⟨o, na, ho, hc, _, hd⟩, _⟩ := I.list (.of (e _ _ h1))
    exact Sh.lst (shs_of I e l ts k j xs its hl (fun t ht => Nat.le_trans (listText_mem_le ht) z) h2 rv) ho hc hd
  | .ext Q, t, n, m, v, u, h, z, r, q => by
    obtain ⟨H0, e0, r⟩ := r
    exact h.1.sh rfl rfl rfl I (e0.trans e) r q
  | .raw _, _, _, _, _, _, h, _, _, _ => h.elim
  | .scr _, _, _, _, _, _, h, _, _, _ => h.elim
theorem shs_of (I : Inv X pins σ H s) (e : Same Hd H) : ∀ (l : List D) (ts : List Str) (n m : Nat) (vs : List V) (us : List Value), ShDL X.prog X.w X.K l ts n m → (∀ t ∈ ts, t.length ≤ sizeLine) → RpL X.K Hd l vs → Vals vs us → ShL X.prog X.w s.heap us ts n
  | [], ts, n, m, vs, us, h, _, r, q => by
    obtain ⟨rfl, rfl⟩ := h
    have r : vs = [] := r
    subst r
    cases q
    exact .nil
  | d :: ds, ts, n, m, vs, us, h, z, r, q => by
    obtain ⟨t, ts', j, k, p, q', rfl, h1, h2, rfl, _⟩ := h
    obtain ⟨v, vs', rfl, r1, r2⟩ := r
    cases q with
    | cons q1 q2 => exact .cons (sh_of I e d t j p v _ h1 (z t List.mem_cons_self) r1 q1) (shs_of I e ds ts' k q' vs' _ h2 (fun t ht => z t (List.mem_cons_of_mem _ ht)) r2 q2)
end
end
end DL
/-! dicts of ints, own errors as values: their text, their kind; repr and isinstance of any value -/
namespace DL
open PySem PySem.Spec PyProof.Rows L2
/-- a dict of ints -/
def dicD (kvs : List (Key × Int)) : D := .ext fun H v => ∃ a, v = .ref a ∧ H a = some (.dK (kvs.map fun p => (p.1, V.int p.2)))
def keyTx : Key → Str
  | .inl i => toString i
  | .inr x => reprText x
def keyOk : Key → Prop
  | .inl i => i.natAbs < 2 ^ 1900
  | .inr x => (reprText x).length ≤ 100000
def dicTx (kvs : List (Key × Int)) : Str := dictText (kvs.map fun p => keyTx p.1 ++ Str.ofString ": " ++ Str.ofString (toString p.2))
section
variable {P : Program} {w : World} {h : Heap}
theorem ents_sh : ∀ {kvs : List (Key × Int)} {es : List DictEntry} {vs : List (Key × Value)}, (∀ p ∈ kvs, keyOk p.1 ∧ p.2.natAbs < 2 ^ 1900) → KV (kvs.map fun p => (p.1, V.int p.2)) vs → Pairs (mixKind P w) es vs →
    ReprEntriesK P w [] h 0 es (kvs.map fun p => keyTx p.1 ++ Str.ofString ": " ++ Str.ofString (toString p.2))
  | [], es, vs, ok, kv, ps => by
    cases kv
    cases ps
    exact .nil
  | (k, i) :: kvs, es, vs, ok, kv, ps => by
    cases kv with
    | cons z rest =>
      cases ps with
      | cons z1 z2 ps =>
        obtain ⟨e1, e2⟩ := z
        obtain ⟨o1, o2⟩ := ok (k, i) List.mem_cons_self
        obtain ⟨tk, e3⟩ := e2
        refine .cons (d := 0) ?_ ?_ (ents_sh (fun p hp => ok p (List.mem_cons_of_mem _ hp)) rest ps)
        · dsimp only at e1 z1
          rw [← e1] at z1
          rcases keyIs_shape z1 with ⟨j, t, rfl, ev⟩ | ⟨x, t, rfl, ev⟩
          · rw [ev]
            exact .of_is (ReprIs.int t (digits_le o1).2) _ _ _
          · rw [ev]
            exact .of_is (ReprIs.str x t (Nat.le_trans o1 (by decide))) _ _ _
        · rw [z2, e3]
          exact .of_is (ReprIs.int tk (digits_le o2).2) _ _ _
end
theorem dic_at {X : Cx} {pins : List (Addr × Obj)} {σ : L2.St} {H Hd : Hp} {s : Shared} {kvs : List (Key × Int)} {v : V} {u : Value} (I : Inv X pins σ H s) (e : Same Hd H) (q : ∃ a, v = .ref a ∧ Hd a = some (.dK (kvs.map fun p => (p.1, V.int p.2)))) (r : RelV v u) :
    ∃ (a : Addr) (o : Obj) (es : Array DictEntry) (ep : Nat) (vs : List (Key × Value)), u = .ref a ∧ s.heap.get? a = some o ∧ o.cls = .type "dict" ∧ o.data = .dict es ep ∧ (a == sysModules) = false ∧ KV (kvs.map fun p => (p.1, V.int p.2)) vs ∧ Pairs (mixKind X.prog X.w) es.toList vs := by
  obtain ⟨a, rfl, ha⟩ := q
  have r : u = .ref a := r
  subst r
  obtain ⟨_, sy, vs, kv, o, es, ep, ho, hx, hd, _, hp, _⟩ := I.hok a _ (e _ _ ha)
  exact ⟨a, o, es, ep, vs, rfl, ho, hx.1, hd, sy, kv, hp⟩
theorem shx_dic {P : Program} {w : World} {K : PySem.W.Frag} {kvs : List (Key × Int)} (ok : ∀ p ∈ kvs, keyOk p.1 ∧ p.2.natAbs < 2 ^ 1900) : ShX P w K (fun H v => ∃ a, v = .ref a ∧ H a = some (.dK (kvs.map fun p => (p.1, V.int p.2)))) (dicTx kvs) 1 where
  sh := fun {X pins σ H Hd s v u} e1 e2 e3 I e q r => by
    subst e1 e2 e3
    obtain ⟨a, o, es, ep, vs, rfl, ho, hc, hd, sy, kv, hp⟩ := dic_at I e q r
    have D : Dpt s.heap (.ref a) 1 := .obj ho fun xs n z => by rw [hd] at z; cases z
    refine ⟨[a], D, fun b hb => ?_, ReprK.dict ho hc hd sy (fun z => nomatch z) (ents_sh ok kv hp)⟩
    rw [List.mem_singleton.mp hb]
    exact ⟨1, Nat.le_refl _, D⟩
  top := fun {X pins σ H Hd s v u R E} e1 e2 e3 gd hu hz I e q r k => by
    subst e1 e2 e3
    obtain ⟨a, o, es, ep, vs, rfl, ho, hc, hd, sy, kv, hp⟩ := dic_at I e q r
    refine call_repr_slot (by omega) ⟨o, ho, hc⟩ F.slot_dict_repr (call_dict_reprK (as := []) (d := 0) ho hc hd sy (fun z => nomatch z) (ents_sh ok kv hp) (A := X.A.in1) gd (fun b _ => Clear.nil b) (by show X.A.units + 1 + (0 + 1) < cLine; omega) (fun _ _ z => z) (fun h' x tk kp => ⟨_, _, rfl, k h' x tk kp⟩) hz)

/-! ### own errors as values -/
/-- what is asked of the class -/
structure ExcK (K : PySem.W.Frag) (C : Addr) (cd : PySem.ClassData) : Prop where
  cls : PySem.W.clsIn K C = some cd
  exC : PySem.W.subIn K (.ref C) (.type "BaseException") = some true
  rp : PySem.W.findIn K (.ref C) "__repr__" = some (some (.builtin "BaseException.__repr__"))
  nm : (PySem.ExR.nmOf cd).length ≤ 100
theorem ExcK.len {K : PySem.W.Frag} {C : Addr} {cd : PySem.ClassData} (T : ExcK K C cd) (m : Str) : (PySem.ExR.txtOf cd m).length ≤ (reprText m).length + 102 := by
  unfold PySem.ExR.txtOf
  have p1 : (Str.ofString "(").length = 1 := by rw [PySem.ofString_length] <;> rfl
  have p2 : (Str.ofString ")").length = 1 := by rw [PySem.ofString_length] <;> rfl
  rw [strLen_append, strLen_append, strLen_append, p1, p2]
  have := T.nm
  omega
/-! ### repr of any value that is shown -/
/-- the value stands in an object -/
def isObj : D → Bool
  | .tup _ => true
  | .lst _ => true
  | .ext _ => true
  | _ => false
def rRepS (P : Program) (w : World) (K : PySem.W.Frag) : List V → Hp → VK → Prop := fun vs H Q => ∃ (v : V) (d : D) (t : Str) (n m : Nat) (Hd : Hp), vs = [v] ∧ Same Hd H ∧ Rp K Hd d v ∧ ShD P w K d t n m ∧ n ≤ 20 ∧ m ≤ 10000000 ∧ isObj d = true ∧ Q (.str t) H
theorem call_repr_S {X : Cx} (gd : X.A.guards = some []) (hu : X.A.units + 64 < cLine) : CallR X (.builtin "repr") (rRepS X.prog X.w X.K) := by
  intro pins s σ H vs us Q I r h
  obtain ⟨v, d, t, n, m, Hd, rfl, e, rd, hs, hn, hm, ob, q⟩ := h
  obtain ⟨u, rfl, ru⟩ := r.one
  have hz : t.length ≤ sizeLine := Nat.le_trans (sh_len d t n m hs) (Nat.le_trans hm (by decide))
  have fin : ∀ h' x tk, (∀ b o, s.heap.get? b = some o → h'.get? b = some o) → EP X pins σ Q (.str t x) { s with heap := h', toks := tk } := fun h' x tk k => ⟨.str t, H, I.kept k, ⟨x, rfl⟩, q⟩
  cases d with
  | non => cases ob
  | bl b => cases ob
  | int i => cases ob
  | str x => cases ob
  | raw x => cases ob
  | scr x => cases ob
  | ext Qd =>
    obtain ⟨H0, e0, rd⟩ := rd
    exact hs.1.top rfl rfl rfl gd hu hz I (e0.trans e) rd ru fin
  | tup l =>
    obtain ⟨ts, k, j, hl, rfl, rfl, _⟩ := hs
    obtain ⟨a, xs, rfl, h1, h2⟩ := rd
    have ru : u = .ref a := ru
    subst ru
    obtain ⟨its, rv, ⟨o, ho, hc, na, hd⟩, _⟩ := I.tuple (same_t e h1)
    obtain ⟨as, dp, b, rp⟩ := shs_of I e l ts k j xs its hl (fun t ht => Nat.le_trans (tupleText_mem_le ht) hz) h2 rv
    have D : Dpt s.heap (.ref a) (k + 1) := .seq ho hd dp
    exact call_repr_slot (by omega) ⟨o, ho, hc⟩ F.slot_tuple_repr (call_tuple_reprK ho hc hd (b.notIn D) rp (A := X.A.in1) gd (fun b _ => Clear.nil b) (by show X.A.units + 1 + (k + 1) < cLine; omega) (fun _ _ z => z) (fun h' x tk kp => ⟨_, _, rfl, fin h' x tk kp⟩) hz)
  | lst l =>
    obtain ⟨ts, k, j, hl, rfl, rfl, _⟩ := hs
    obtain ⟨a, xs, rfl, h1, h2⟩ := rd
    have ru : u = .ref a := ru
    subst ru
    obtain ⟨its, rv, ⟨o, na, ho, hc, _, hd⟩, _⟩ := I.list (.of (e _ _ h1))
    obtain ⟨as, dp, b, rp⟩ := shs_of I e l ts k j xs its hl (fun t ht => Nat.le_trans (listText_mem_le ht) hz) h2 rv
    have D : Dpt s.heap (.ref a) (k + 1) := .seq ho hd dp
    refine call_repr_slot (by omega) ⟨o, ho, hc⟩ F.slot_list_repr.toG ?_
    cases its with
    | nil =>
      cases rp
      have z := fin
      rw [listText_nil] at z
      exact call_list_repr_empty ⟨o, ho, hc⟩ ho hd ⟨_, _, rfl, z s.heap _ _ fun _ _ e => e⟩
    | cons x l' =>
      exact call_list_reprK ho hc hd (b.notIn D) (by simpa using rp.length_eq) (fun i y e => rp.item i y (by simpa using e)) (A := X.A.in1) gd (fun b _ => Clear.nil b) (by show X.A.units + 1 + (k + 1) < cLine; omega) (fun _ _ z => z) (fun h' x tk kp => ⟨_, _, rfl, fin h' x tk kp⟩) hz
/-! ### isinstance of any value -/
/-- what stands behind an ext is of the kind t -/
def KTy (K : PySem.W.Frag) (Q : Hp → V → Prop) (t : Value) : Prop := ∀ {X : Cx} {pins : List (Addr × Obj)} {σ : L2.St} {H Hd : Hp} {s : Shared} {v : V} {u : Value}, X.K = K → Inv X pins σ H s → Same Hd H → Q Hd v → RelV v u →
  ∃ Pp : Heap → Prop, PySem.W.KitX K u t Pp ∧ Pp s.heap ∧ u ≠ .builtin "__main__.__loader__#opaque"
def TyV (K : PySem.W.Frag) : D → Value → Prop
  | .ext Q, t => KTy K Q t
  | .scr _, _ => False
  | d, t => ∃ n, tyD d = some n ∧ t = .type n
theorem kit_v {X : Cx} {pins : List (Addr × Obj)} {σ : L2.St} {H Hd : Hp} {s : Shared} {d : D} {t : Value} {v : V} {u : Value} (I : Inv X pins σ H s) (e : Same Hd H) (T : TyV X.K d t) (r : Rp X.K Hd d v) (q : RelV v u) :
    ∃ Pp : Heap → Prop, PySem.W.KitX X.K u t Pp ∧ Pp s.heap ∧ u ≠ .builtin "__main__.__loader__#opaque" := by
  have pl : ∀ n, tyD d = some n → t = .type n → (∀ l, d ≠ .scr l) → ∃ Pp : Heap → Prop, PySem.W.KitX X.K u t Pp ∧ Pp s.heap ∧ u ≠ .builtin "__main__.__loader__#opaque" := fun n h1 h2 h3 => by
    subst h2
    exact kit_of I q (tyX_of h1 (Rp.mono e d v r) h3)
  cases d with
  | ext Q =>
    obtain ⟨H0, e0, r⟩ := r
    exact T rfl I (e0.trans e) r q
  | scr l => exact T.elim
  | raw x => obtain ⟨n, h1, h2⟩ := T; cases h1
  | non => obtain ⟨n, h1, h2⟩ := T; exact pl n h1 h2 (fun _ z => nomatch z)
  | bl b => obtain ⟨n, h1, h2⟩ := T; exact pl n h1 h2 (fun _ z => nomatch z)
  | int b => obtain ⟨n, h1, h2⟩ := T; exact pl n h1 h2 (fun _ z => nomatch z)
  | str b => obtain ⟨n, h1, h2⟩ := T; exact pl n h1 h2 (fun _ z => nomatch z)
  | tup b => obtain ⟨n, h1, h2⟩ := T; exact pl n h1 h2 (fun _ z => nomatch z)
  | lst b => obtain ⟨n, h1, h2⟩ := T; exact pl n h1 h2 (fun _ z => nomatch z)
def rIsiD (K : PySem.W.Frag) : List V → Hp → VK → Prop := fun vs H Q => ∃ (v c : V) (d : D) (t u : Value) (b : Bool) (Hd : Hp), vs = [v, c] ∧ Same Hd H ∧ Rp K Hd d v ∧ TyV K d t ∧ ClsV c u ∧ PySem.W.kitOne K t u = some b ∧ Q (.bl b) H
theorem call_isi_D {X : Cx} : CallR X (.builtin "isinstance") (rIsiD X.K) := by
  intro pins s σ H vs us Q I r h
  obtain ⟨v, c, d, t, u, b, Hd, rfl, e, rd, T, k, kb, q⟩ := h
  obtain ⟨u1, u2, rfl, r1, r2⟩ := vals2 r
  have e2 := k.eq r2
  subst e2
  obtain ⟨Pp, Z, p, hx⟩ := kit_v I e T rd r1
  exact PySem.W.kia_one Z I.kIn p kb hx fun tk => ⟨.bl b, H, I.tok tk, rfl, q⟩
theorem drc_isiD {K : PySem.W.Frag} {d : D} {t : Value} {T : String} {b : Bool} {S : Sto} {Q : D → Sto → Prop} (ht : TyV K d t) (hk : PySem.W.kitOne K t (.type T) = some b) (q : Q (.bl b) S) : DRC K (rIsiD K) [d, .raw (.ty T)] S Q := fun H Hd vs Qv st rr k => by
  obtain ⟨v, w', e1, rv, rw'⟩ := two_rp rr
  have rw' : w' = V.ty T := rw'
  subst e1 rw'
  exact ⟨v, .ty T, d, t, .type T, b, Hd, rfl, st.sub, rv, ht, .ty T, hk, k _ _ (.here (d := .bl b) st rfl q)⟩
theorem kty_dic {K : PySem.W.Frag} {kvs : List (Key × Int)} : KTy K (fun H v => ∃ a, v = .ref a ∧ H a = some (.dK (kvs.map fun p => (p.1, V.int p.2)))) (.type "dict") := fun {X pins σ H Hd s v u} eK I e q r => by
  subst eK
  obtain ⟨a, o, es, ep, vs, rfl, ho, hc, _⟩ := dic_at I e q r
  exact ⟨_, PySem.W.kitx_dict, ⟨o, ho, hc⟩, fun z => nomatch z⟩
end DL
/-! dicts and own errors made; defs as values, called -/
namespace DL
open PySem PySem.Spec PyProof.Rows L2
section
variable {X : Cx} {a b c e fe : Expr} {es : List Expr} {en : DEnv} {S : Sto} {Q : D → Sto → Prop} {R : RX} {pos p p2 p3 : Pos} {j j2 : Nat}
theorem de_dic0 (q : Q (dicD []) S) : DE X (.Dict [] [] pos) en S Q := ⟨fun σ H Hd st re => by
  refine wE_of pe_dnewK ?_
  intro p hp
  obtain ⟨e1, st1⟩ := st.laid (o := .dK []) hp
  exact ⟨dicD [], S, _, e1, st1, ⟨_, Same.refl _, p, rfl, upd_same⟩, q⟩⟩
/-! ### an own error made, held as a value -/
/-! ### defs as values -/
theorem GOkX.mono {P : Program} {w : World} {K : PySem.W.Frag} {mg : Str → Option Value} {base : Heap} {k k2 : Nat} {f : Addr} {fd : FuncData} {ps : List Str} {C C2 : ConX} (G : GOkX P w K mg base k f fd ps (spDX K C)) (hk : k ≤ k2) (wk : ∀ ds S Q R, C2 ds S Q R → C ds S Q R) : GOkX P w K mg base k2 f fd ps (spDX K C2) :=
  ⟨fun vs H Q E ⟨ds, S, Hd, Qd, Rd, z1, z2, z3, z4⟩ => G.len vs H Q E ⟨ds, S, Hd, Qd, Rd, z1, z2, wk _ _ _ _ z3, z4⟩,
   fun A fr s H ar us vs Q E gd hr e0 hb r ⟨ds, S, Hd, Qd, Rd, z1, z2, z3, z4⟩ => G.run A fr s H ar us vs Q E gd (hr.mono hk) e0 hb r ⟨ds, S, Hd, Qd, Rd, z1, z2, wk _ _ _ _ z3, z4⟩⟩
/-- a def that raises nothing, as one that may -/
theorem GOk.x {P : Program} {w : World} {K : PySem.W.Frag} {mg : Str → Option Value} {base : Heap} {k : Nat} {f : Addr} {fd : FuncData} {ps : List Str} {C : Con} (G : GOk P w K mg base k f fd ps (spD K C)) : GOkX P w K mg base k f fd ps (spDX K fun ds S Q _ => C ds S Q) :=
  ⟨fun vs H Q E ⟨ds, S, Hd, Qd, Rd, z1, z2, z3, z4⟩ => G.len vs H Q E ⟨ds, S, Hd, Qd, z1, z2, z3, z4.1⟩,
   fun A fr s H ar us vs Q E gd hr e0 hb r ⟨ds, S, Hd, Qd, Rd, z1, z2, z3, z4⟩ => codeAny_mono (G.run A fr s H ar us vs Q E gd hr e0 hb r ⟨ds, S, Hd, Qd, z1, z2, z3, z4.1⟩) fun res s' q => by
     cases res with
     | error e => exact q.elim
     | ok fl =>
       cases fl with
       | ret u => exact q
       | next => exact q
       | brk => exact q
       | cont => exact q⟩
theorem Cal.x {P : Program} {w : World} {K : PySem.W.Frag} {mg : Str → Option Value} {base : Heap} {k : Nat} {x : Str} {ps : List Str} {kws : List (Nat × List Str)} {C : Con} (c : Cal P w K mg base k x ps kws C) : CalX P w K mg base k x ps kws (fun ds S Q _ => C ds S Q) := by
  obtain ⟨f, fd, G, h⟩ := c.ex
  exact ⟨f, fd, G.x, h⟩
end
end DL
/-! defs that a caught error is handed to, within the except suite -/
namespace L2H
open PySem PySem.Spec PyProof.Rows L2 HotX
theorem RoomH.units {k : Nat} {A : Around} (r : RoomH k A) : A.units + 64 < cLine := by have := r.un; omega
end L2H
namespace DL
open PySem PySem.Spec PyProof.Rows L2
section
variable {P : Program} {w : World} {K : PySem.W.Frag} {mg : Str → Option Value} {base : Heap}
abbrev ConE := Addr × Obj → Con
end
section
variable {X : Cx} {a : Addr} {oe : Obj} {pn : List (Addr × Obj)} {e : Expr} {es : List Expr} {en : DEnv} {S : Sto} {Q : D → Sto → Prop} {pos p p2 : Pos} {k : Nat} {x : Str} {ps : List Str} {C : ConE}
/-! ### what such a def asks of the error -/
end
/-! ### xs.index(e) -/
section
variable {X : Cx} {e : Expr} {en : DEnv} {S : Sto}
end
end DL
/-! what may raise, within expressions -/
namespace DL
open PySem PySem.Spec PyProof.Rows L2
section
variable {X : Cx} {a b c e tg : Expr} {es : List Expr} {st : Stmt} {sts rest : List Stmt} {en : DEnv} {S : Sto} {Z : Dn} {Q : D → Sto → Prop} {R : RX} {QL : List D → Sto → Prop} {pos p cpos : Pos} {k : Nat} {x : Str} {ps : List Str} {kws : List (Nat × List Str)} {C : Con} {j2 : Nat}
end
/-! ### repr of any value that is shown -/
def rRepW (P : Program) (w : World) (K : PySem.W.Frag) : List V → Hp → VK → Prop := fun vs H Q => ∃ (v : V) (d : D) (t : Str) (n m : Nat) (Hd : Hp), vs = [v] ∧ Same Hd H ∧ Rp K Hd d v ∧ ShD P w K d t n m ∧ n ≤ 20 ∧ m ≤ 10000000 ∧ Q (.str t) H
theorem call_reprW {X : Cx} (gd : X.A.guards = some []) (hu : X.A.units + 64 < cLine) : CallR X (.builtin "repr") (rRepW X.prog X.w X.K) := by
  intro pins s σ H vs us Q I r h
  obtain ⟨v, d, t, n, m, Hd, rfl, e, rd, hs, hn, hm, q⟩ := h
  have go : isObj d = true → wpAny (model X.prog X.w) X.A (call (.builtin "repr") us) (fun u s' => EP X pins σ Q u s') (X.xe) s := fun ob =>
    call_repr_S gd hu pins s σ H [v] us Q I r ⟨v, d, t, n, m, Hd, rfl, e, rd, hs, hn, hm, ob, q⟩
  obtain ⟨u, rfl, ru⟩ := r.one
  cases d with
  | non =>
    obtain ⟨rfl, _⟩ := hs
    have rd : v = V.non := rd
    subst rd
    cases ru
    exact PySem.P.repr_of_none ⟨.str _, H, I.tok _, ⟨_, rfl⟩, q⟩
  | bl b =>
    obtain ⟨rfl, _⟩ := hs
    have rd : v = V.bl b := rd
    subst rd
    cases ru
    refine PySem.P.repr_of_bool ⟨.str _, H, I.tok _, ⟨_, rfl⟩, ?_⟩
    cases b <;> exact q
  | int i =>
    obtain ⟨rfl, hi, _⟩ := hs
    have rd : v = V.int i := rd
    subst rd
    obtain ⟨tk, rfl⟩ := ru
    exact PySem.P.repr_of_int (digits_le hi).2 ⟨.str _, H, I.tok _, ⟨_, rfl⟩, q⟩
  | str x =>
    obtain ⟨rfl, hx, _, hm⟩ := hs
    have rd : v = V.str x := rd
    subst rd
    obtain ⟨tk, rfl⟩ := ru
    exact PySem.P.repr_of_str ⟨.str _, H, I.tok _, ⟨_, rfl⟩, q⟩ (Nat.le_trans hx (Nat.le_trans hm (by decide)))
  | tup l => exact go rfl
  | lst l => exact go rfl
  | ext Qd => exact go rfl
  | raw x => exact hs.elim
  | scr x => exact hs.elim
theorem drc_reprW {P : Program} {w : World} {K : PySem.W.Frag} {d : D} {t : Str} {n m : Nat} {S : Sto} {Q : D → Sto → Prop} (h : ShD P w K d t n m) (q : Q (.str t) S) (hn : n ≤ 20) (hm : m ≤ 10000000) : DRC K (rRepW P w K) [d] S Q := fun H Hd vs Qv st rr k => by
  obtain ⟨v, e1, rv⟩ := one_rp rr
  subst e1
  exact ⟨v, d, t, n, m, Hd, rfl, st.sub, rv, h, hn, hm, k _ _ (.here (d := .str _) st rfl q)⟩
/-! ### parts that may raise -/
section
variable {X : Cx} {a b c e tg iter : Expr} {es : List Expr} {st : Stmt} {sts rest body : List Stmt} {en : DEnv} {S : Sto} {Z : Dn} {Q : D → Sto → Prop} {R : RX} {QL : List D → Sto → Prop} {pos p cpos p2 : Pos} {k : Nat} {x : Str} {ps : List Str} {kws : List (Nat × List Str)} {C : Con} {j2 : Nat} {P : Bool → Sto → Prop}
/-! ### tests -/
/-! ### loops -/
variable {RI : List D → Sto → Prop}
end
end DL
/-! texts repeated; a text read as a number, a number written as a text -/
namespace DL
open PySem PySem.Spec PyProof.Rows L2
section
variable {X : Cx} {a b : Expr} {en : DEnv} {S : Sto} {Q : D → Sto → Prop} {pos : Pos} {K : PySem.W.Frag}
/-- str(n) -/
def rStrI : List V → Hp → VK → Prop := fun vs H Q => ∃ i : Int, vs = [.int i] ∧ i.natAbs.log2 < 1920 ∧ Q (.str (toString i)) H
theorem call_strI {X : Cx} : CallR X (.type "str") rStrI := by
  intro pins s σ H xs us Q I r h
  obtain ⟨i, rfl, hz, q⟩ := h
  obtain ⟨u, rfl, r1⟩ := r.one
  obtain ⟨t1, rfl⟩ := r1
  exact PySem.P.str_of_int hz ⟨.str _, H, I.tok _, ⟨_, rfl⟩, q⟩
theorem drc_strI {i : Int} (h : i.natAbs < 2 ^ 1900) (q : Q (.str (toPy (.int i)).shown) S) : DRC K rStrI [.int i] S Q := fun H Hd vs Qv st rr k => by
  obtain ⟨v, e1, rv⟩ := one_rp rr
  have rv : v = V.int i := rv
  subst e1 rv
  exact ⟨i, rfl, (digits_le h).2, k _ _ (.here (d := .str _) st rfl q)⟩
end
end DL
namespace Tp
open PySem PySem.Spec PyProof.Rows L2 DL
/-! ### the mathematics of turns -/
theorem sq_nn (q : Int) : 0 ≤ q * q := by
  rcases Int.le_total 0 q with h | h
  · exact Int.mul_nonneg h h
  · exact Int.mul_nonneg_of_nonpos_of_nonpos h h
def rtX (k : Nat) (x y : Int) : Int := match k with | 0 => x | 1 => -y | 2 => -x | _ => y
def rtY (k : Nat) (x y : Int) : Int := match k with | 0 => y | 1 => x | 2 => -y | _ => -x
def cc (p q : Int) : Int := p * p + q * q
@[irreducible] def lgA (p q k : Int) : Int := rtX k.toNat (p * p - q * q) (p * q + q * p)
@[irreducible] def lgB (p q k : Int) : Int := rtY k.toNat (p * p - q * q) (p * q + q * p)
@[irreducible] def exX (p q k x y : Int) : Int := lgA p q k * x - lgB p q k * y
@[irreducible] def exY (p q k x y : Int) : Int := lgA p q k * y + lgB p q k * x
@[irreducible] def nrr (n d : Int) : Int := (2 * n + d) / (2 * d)
@[irreducible] def imX (p q k x y : Int) : Int := nrr (exX p q k x y) (cc p q)
@[irreducible] def imY (p q k x y : Int) : Int := nrr (exY p q k x y) (cc p q)
theorem rt_step (k : Nat) (hk : k < 3) (x y : Int) : rtX (k + 1) x y = -rtY k x y ∧ rtY (k + 1) x y = rtX k x y := by
  rcases (by omega : k = 0 ∨ k = 1 ∨ k = 2) with h | h | h <;> subst h <;> simp [rtX, rtY]
theorem Bd.rtX {a b : Nat} {x y : Int} (k : Nat) (h : Bd a x) (g : Bd b y) : Bd (max a b) (rtX k x y) := by
  have h1 := h.up (Nat.le_max_left a b)
  have g1 := g.up (Nat.le_max_right a b)
  unfold Tp.rtX
  split
  · exact h1
  · exact g1.neg
  · exact h1.neg
  · exact g1
theorem Bd.rtY {a b : Nat} {x y : Int} (k : Nat) (h : Bd a x) (g : Bd b y) : Bd (max a b) (rtY k x y) := by
  have h1 := h.up (Nat.le_max_left a b)
  have g1 := g.up (Nat.le_max_right a b)
  unfold Tp.rtY
  split
  · exact g1
  · exact h1
  · exact g1.neg
  · exact h1.neg
theorem Bd.cc {p q : Int} (h : Bd 50 p) (g : Bd 50 q) : Bd 101 (cc p q) := (h.mul h).add (g.mul g)
theorem Bd.lgA {p q : Int} (k : Int) (h : Bd 50 p) (g : Bd 50 q) : Bd 101 (lgA p q k) := by unfold Tp.lgA; exact (Bd.rtX _ ((h.mul h).sub (g.mul g)) ((h.mul g).add (g.mul h))).up (by decide)
theorem Bd.lgB {p q : Int} (k : Int) (h : Bd 50 p) (g : Bd 50 q) : Bd 101 (lgB p q k) := by unfold Tp.lgB; exact (Bd.rtY _ ((h.mul h).sub (g.mul g)) ((h.mul g).add (g.mul h))).up (by decide)
theorem Bd.exX {p q x y : Int} {n : Nat} (k : Int) (h : Bd 50 p) (g : Bd 50 q) (hx : Bd n x) (hy : Bd n y) : Bd (102 + n) (exX p q k x y) := by unfold Tp.exX; exact (((Bd.lgA k h g).mul hx).sub ((Bd.lgB k h g).mul hy)).up (by omega)
theorem Bd.exY {p q x y : Int} {n : Nat} (k : Int) (h : Bd 50 p) (g : Bd 50 q) (hx : Bd n x) (hy : Bd n y) : Bd (102 + n) (exY p q k x y) := by unfold Tp.exY; exact (((Bd.lgA k h g).mul hy).add ((Bd.lgB k h g).mul hx)).up (by omega)
theorem Bd.nrr {n d : Int} {a b : Nat} (h : Bd a n) (g : Bd b d) : Bd (max (2 + a) b + 1) (nrr n d) := by unfold Tp.nrr; exact (((Bd.lit 2).mul h).add g).div
theorem Bd.imX {p q x y : Int} {n : Nat} (k : Int) (h : Bd 50 p) (g : Bd 50 q) (hx : Bd n x) (hy : Bd n y) : Bd (105 + n) (imX p q k x y) := by unfold Tp.imX; exact (Bd.nrr (Bd.exX k h g hx hy) (Bd.cc h g)).up (by omega)
theorem Bd.imY {p q x y : Int} {n : Nat} (k : Int) (h : Bd 50 p) (g : Bd 50 q) (hx : Bd n x) (hy : Bd n y) : Bd (105 + n) (imY p q k x y) := by unfold Tp.imY; exact (Bd.nrr (Bd.exY k h g hx hy) (Bd.cc h g)).up (by omega)
theorem cc_pos {p q k : Int} (h : Tn p q k) : 0 < cc p q := by
  have h1 := h.p1
  have h2 : 0 < p * p := Int.mul_pos (by omega) (by omega)
  have h3 : 0 ≤ q * q := sq_nn q
  unfold cc
  omega
/-! ### what the program's defs promise of turns, pixels -/
def con_check_pixel : Con := fun ds S Q => ∃ x y : Int, ds = [.tup [.int x, .int y]] ∧ Q .non S
def con_check_turn : Con := fun ds S Q => ∃ p q k : Int, ds = [.tup [.int p, .int q, .int k]] ∧ Tn p q k ∧ Q .non S
def con_times : Con := fun ds S Q => ∃ x y r s, ds = [.tup [.int x, .int y], .tup [.int r, .int s]] ∧ (Bd 1500 x ∧ Bd 1500 y ∧ Bd 1500 r ∧ Bd 1500 s) ∧ Q (.tup [.int (x * r - y * s), .int (x * s + y * r)]) S
def con_nearest : Con := fun ds S Q => ∃ n d, ds = [.int n, .int d] ∧ (Bd 3000 n ∧ Bd 500 d ∧ 0 < d) ∧ Q (.int (nrr n d)) S
def con_legs_of : Con := fun ds S Q => ∃ p q k : Int, ds = [.tup [.int p, .int q, .int k]] ∧ Tn p q k ∧ Q (.tup [.int (lgA p q k), .int (lgB p q k), .int (cc p q)]) S
def con_exact_place : Con := fun ds S Q => ∃ p q k x y : Int, ds = [.tup [.int p, .int q, .int k], .tup [.int x, .int y]] ∧ Tn p q k ∧ (Bd 1200 x ∧ Bd 1200 y) ∧ Q (.tup [.int (exX p q k x y), .int (exY p q k x y), .int (cc p q)]) S
def con_image : Con := fun ds S Q => ∃ p q k x y : Int, ds = [.tup [.int p, .int q, .int k], .tup [.int x, .int y]] ∧ Tn p q k ∧ (Bd 1200 x ∧ Bd 1200 y) ∧ Q (.tup [.int (imX p q k x y), .int (imY p q k x y)]) S
/-! ### what the laws' helpers do -/
theorem abs_nat (i : Int) : (if i < 0 then -i else i) = (i.natAbs : Int) := by split <;> omega
theorem gcd_step (x y : Nat) : Nat.gcd y (x % y) = Nat.gcd x y := by rw [Nat.gcd_comm y, ← Nat.gcd_rec, Nat.gcd_comm]
theorem src_mk {a b : Int} (h : 0 ≤ a) (hb : 0 ≤ b ∧ Bd 200 b) : Src 0 [.int a, .int b, .int 0] := ⟨a, b, 0, rfl, h, hb.2, ⟨Int.le_refl 0, Int.le_refl 0⟩, hb.1⟩
theorem src_a (g m : Int) : 0 ≤ (if g - m > 0 then g - m else 0) := by split <;> omega
theorem src_b (g k : Int) (c : Bool) (hk : 0 ≤ k ∧ k ≤ 100) : 0 ≤ g % (10 ^ (Int.toNat 44) + 31) * 97 + 2 * k + (if c = true then 1 else 0) ∧ Bd 200 (g % (10 ^ (Int.toNat 44) + 31) * 97 + 2 * k + (if c = true then 1 else 0)) := by
  have e : (10 : Int) ^ (Int.toNat 44) + 31 = 100000000000000000000000000000000000000000031 := by decide +kernel
  rw [e]
  have h1 := Int.emod_nonneg g (show (100000000000000000000000000000000000000000031 : Int) ≠ 0 by decide)
  have h2 := Int.emod_lt_of_pos g (show (0 : Int) < 100000000000000000000000000000000000000000031 by decide)
  generalize g % 100000000000000000000000000000000000000000031 = r at *
  unfold Bd
  split <;> omega
theorem src_div {a b c n : Int} {m : Nat} (ha : 0 ≤ a) (hb : Bd 200 b) (hc : 0 ≤ c ∧ c ≤ (m : Int)) (hb0 : 0 ≤ b) (hn : 0 < n) : Src (m + 1) [.int (a / n), .int b, .int c] :=
  ⟨_, _, _, rfl, Int.ediv_nonneg ha (by omega), hb, ⟨hc.1, by omega⟩, hb0⟩
theorem src_next {a b c : Int} {m : Nat} (ha : 0 ≤ a) (hb : Bd 200 b) (hc : 0 ≤ c ∧ c ≤ (m : Int)) (hb0 : 0 ≤ b) : Src (m + 1) [.int a, .int b, .int (c + 1)] :=
  ⟨_, _, _, rfl, ha, hb, ⟨by omega, by omega⟩, hb0⟩
/-- the numbers that a law tries for q, from q on: some end is reached -/
theorem spin_end {p : Int} (h : 1 ≤ p) : Nat.gcd p.natAbs (p - 1).natAbs = 1 ∧ (p + (p - 1)) % 2 = 1 := by
  refine ⟨?_, by omega⟩
  obtain ⟨n, rfl⟩ : ∃ n : Nat, p = (n : Int) + 1 := ⟨(p - 1).toNat, by omega⟩
  have e1 : ((n : Int) + 1).natAbs = n + 1 := by omega
  have e2 : ((n : Int) + 1 - 1).natAbs = n := by omega
  rw [e1, e2, Nat.gcd_comm, Nat.gcd_rec]
  by_cases hn : n = 0
  · subst hn
    rfl
  · have e3 : (n + 1) % n = 1 % n := by rw [Nat.add_mod_left]
    rw [e3]
    by_cases h1 : n = 1
    · subst h1
      rfl
    · rw [Nat.mod_eq_of_lt (by omega)]
      exact Nat.gcd_one_left n
theorem tn_mk {p q k : Int} (h1 : 1 ≤ p) (h2 : p ≤ 1000000000000000) (h3 : 0 ≤ q) (h4 : q < p) (g : Nat.gcd p.natAbs q.natAbs = 1) (o : (p + q) % 2 = 1) (hk : 0 ≤ k ∧ k < 4) : Tn p q k ∧ Tn p (-q) k :=
  ⟨⟨h1, h2, by omega, h4, g, o, hk.1, by omega⟩, ⟨h1, h2, by omega, by omega, by rw [Int.natAbs_neg]; exact g, by omega, hk.1, by omega⟩⟩

theorem pickL {l : List D} {i : Int} {P : D → Prop} (h : ∀ x ∈ l, P x) (h0 : 0 ≤ i) (h1 : i < (l.length : Int)) : ∃ x, atI l i = some x ∧ P x := by
  obtain ⟨j, rfl⟩ : ∃ j : Nat, i = (j : Int) := ⟨i.toNat, by omega⟩
  have hj : j < l.length := by omega
  exact ⟨l[j], atI_nat (List.getElem?_eq_getElem hj), h _ (List.getElem_mem hj)⟩
theorem ix_pick {l : List D} {i : Int} {S : Sto} {Q : D → Sto → Prop} (P : D → Prop) (h : ∀ x ∈ l, P x) (h0 : 0 ≤ i) (h1 : i < (l.length : Int)) (k : ∀ x, P x → Q x S) : ixP (.lst l) (.int i) S Q := by
  obtain ⟨x, e, px⟩ := pickL h h0 h1
  exact ⟨x, e, k x px⟩
theorem fa_nil {P : D → Prop} : ∀ x ∈ ([] : List D), P x := fun _ h => nomatch h
theorem fa_cons {P : D → Prop} {a : D} {l : List D} (h : P a) (k : ∀ x ∈ l, P x) : ∀ x ∈ a :: l, P x := fun x hx => by
  rcases List.mem_cons.mp hx with e | e
  · rw [e]
    exact h
  · exact k x e
theorem Bd.ite {a b : Nat} {c : Prop} [Decidable c] {x y : Int} (h : Bd a x) (k : Bd b y) : Bd (max a b) (if c then x else y) := by
  split
  · exact h.up (Nat.le_max_left _ _)
  · exact k.up (Nat.le_max_right _ _)
theorem spin_turn {p q : Int} (h : 1 ≤ p) (hq : q ≤ p - 1) (z : 1 < ((Nat.gcd p.natAbs q.natAbs : Nat) : Int) ∨ (p + q) % 2 = 0) : q + 1 < p := by
  by_cases e : q = p - 1
  · subst e
    obtain ⟨e1, e2⟩ := spin_end h
    rcases z with z | z
    · rw [e1] at z
      exact absurd z (by decide)
    · omega
  · omega
theorem gcd_one {p q : Int} (h : 1 ≤ p) (z : ¬ 1 < ((Nat.gcd p.natAbs q.natAbs : Nat) : Int)) : Nat.gcd p.natAbs q.natAbs = 1 := by
  have : 0 < Nat.gcd p.natAbs q.natAbs := Nat.gcd_pos_of_pos_left _ (by omega)
  omega

theorem setS_self {p : Addr} {l : List D} : ∀ {S : Sto}, getS p S = some l → setS p l S = S
  | [], h => by cases h
  | (q, m) :: S, h => by
    by_cases e : q = p
    · subst e
      rw [getS_hd] at h
      cases h
      rw [setS_hd]
    · rw [getS_tl e] at h
      rw [setS_tl e, setS_self h]

theorem eq_strT {i j : Str} {S : Sto} {Q : Bool → Sto → Prop} (e : i = j) (q : Q true S) : eqP (.str i) (.str j) S Q := by
  refine eq_str ?_
  rw [decide_eq_true e]
  exact q
theorem tn_b3 {p q k : Int} (h : Tn p q k) : Bd 3 k := by
  have := h.k1
  have := h.k2
  unfold Bd
  omega

/-! ### further helpers of the laws -/
def con_ltimes : Con := fun ds S Q => ∃ x y r s, ds = [.tup [.int x, .int y], .tup [.int r, .int s]] ∧ (Bd 1500 x ∧ Bd 1500 y ∧ Bd 1500 r ∧ Bd 1500 s) ∧ Q (.tup [.int (x * r - y * s), .int (x * s + y * r)]) S
def con_llegs : Con := fun ds S Q => ∃ (l : List D) (p q : Int), ds = [.tup l] ∧ atI l 0 = some (.int p) ∧ atI l 1 = some (.int q) ∧ (Bd 60 p ∧ Bd 60 q) ∧ Q (.tup [.int (p * p - q * q), .int (2 * p * q), .int (p * p + q * q)]) S
def con_close : Con := fun ds S Q => ∃ t l : Int, ds = [.int t, .int l] ∧ (Bd 3000 t ∧ Bd 500 l ∧ 0 < l) ∧ Q (.int (nrr t l)) S
def con_seen : Con := fun ds S Q => ∃ p q k x y : Int, ds = [.tup [.int p, .int q, .int k], .tup [.int x, .int y]] ∧ Tn p q k ∧ (Bd 1200 x ∧ Bd 1200 y) ∧ Q (.tup [.int (imX p q k x y), .int (imY p q k x y)]) S
theorem close_eq {t l : Int} (h : 0 < l) : (if 2 * (t - t / l * l) < l then t / l else t / l + 1) = nrr t l := by
  unfold nrr
  have e := Int.emod_add_mul_ediv t l
  have r0 := Int.emod_nonneg t (show l ≠ 0 by omega)
  have r1 := Int.emod_lt_of_pos t h
  generalize t % l = r at *
  generalize t / l = m at *
  have c1 : m * l = l * m := Int.mul_comm _ _
  split
  · have e3 : 2 * t + l = (2 * r + l) + 2 * l * m := by
      have : 2 * l * m = 2 * (l * m) := Int.mul_assoc _ _ _
      omega
    rw [e3, Int.add_mul_ediv_left _ _ (by omega), Int.ediv_eq_zero_of_lt (by omega) (by omega)]
    omega
  · have e3 : 2 * t + l = (2 * r - l) + 2 * l * (m + 1) := by
      have : 2 * l * (m + 1) = 2 * (l * m) + 2 * l := by rw [Int.mul_add, Int.mul_assoc, Int.mul_one]
      omega
    rw [e3, Int.add_mul_ediv_left _ _ (by omega), Int.ediv_eq_zero_of_lt (by omega) (by omega)]
    omega
theorem ex_raw (p q k x y : Int) : exX p q k x y = rtX k.toNat ((p * p - q * q) * x - 2 * p * q * y) ((p * p - q * q) * y + 2 * p * q * x) ∧ exY p q k x y = rtY k.toNat ((p * p - q * q) * x - 2 * p * q * y) ((p * p - q * q) * y + 2 * p * q * x) := by
  unfold exX exY lgA lgB
  generalize k.toNat = j
  match j with
  | 0 => simp only [rtX, rtY]; constructor <;> grind
  | 1 => simp only [rtX, rtY]; constructor <;> grind
  | 2 => simp only [rtX, rtY]; constructor <;> grind
  | _ + 3 => simp only [rtX, rtY]; constructor <;> grind
theorem tup2 {a b c d : Int} (h : a = c) (g : b = d) : D.tup [.int a, .int b] = D.tup [.int c, .int d] := by rw [h, g]
def rat (x c : Int) : D := .tup [.int (x / ((Nat.gcd x.natAbs c.natAbs : Nat) : Int)), .int (c / ((Nat.gcd x.natAbs c.natAbs : Nat) : Int))]
theorem Bd.isq {n : Nat} {i : Int} (h : Bd n i) : Bd n ((Float64.isqrt i.toNat : Nat) : Int) := by
  obtain ⟨s1, _⟩ := Float64.isqrt_spec i.toNat
  generalize Float64.isqrt i.toNat = r at *
  unfold Bd at h ⊢
  have h1 : r ≤ r * r := by
    rcases Nat.eq_zero_or_pos r with z | z
    · subst z; decide
    · exact Nat.le_mul_of_pos_left r z
  have : (r : Int).natAbs = r := by omega
  omega

end Tp
namespace Tp
open PySem PySem.Spec PyProof.Rows L2 DL
/-! ### turns by quarters, and back -/
theorem cc_odd {p q k : Int} (h : Tn p q k) : cc p q % 2 = 1 := by
  obtain ⟨t, ht⟩ : ∃ t, p + q = 2 * t + 1 := ⟨(p + q) / 2, by have := h.o; omega⟩
  have e : cc p q = 2 * (2 * t * t + 2 * t - 2 * t * q - q + q * q) + 1 := by
    have : p = 2 * t + 1 - q := by omega
    subst this
    unfold cc
    grind
  omega
theorem nrr_neg {n c : Int} (h : c % 2 = 1) (h0 : 0 < c) : nrr (-n) c = -nrr n c := by
  unfold nrr
  have e := Int.emod_add_mul_ediv (2 * n + c) (2 * c)
  have r0 := Int.emod_nonneg (2 * n + c) (show 2 * c ≠ 0 by omega)
  have r1 := Int.emod_lt_of_pos (2 * n + c) (show 0 < 2 * c by omega)
  generalize (2 * n + c) % (2 * c) = r at *
  generalize hm : (2 * n + c) / (2 * c) = m at *
  have e2 : 2 * c * m = 2 * (c * m) := by rw [Int.mul_assoc]
  have rn : r ≠ 0 := by omega
  have e3 : 2 * -n + c = (2 * c - r) + 2 * c * -m := by
    have e4 : 2 * c * -m = -(2 * c * m) := Int.mul_neg _ _
    omega
  rw [e3, Int.add_mul_ediv_left _ _ (by omega), Int.ediv_eq_zero_of_lt (by omega) (by omega)]
  omega
theorem four {k : Int} (h : 0 ≤ k ∧ k < 4) : k = 0 ∨ k = 1 ∨ k = 2 ∨ k = 3 := by omega
theorem nrr_rot {p q k : Int} (h : Tn p q k) (j : Nat) (x y : Int) : nrr (rtX j x y) (cc p q) = rtX j (nrr x (cc p q)) (nrr y (cc p q)) ∧ nrr (rtY j x y) (cc p q) = rtY j (nrr x (cc p q)) (nrr y (cc p q)) := by
  have n1 := nrr_neg (n := x) (cc_odd h) (cc_pos h)
  have n2 := nrr_neg (n := y) (cc_odd h) (cc_pos h)
  match j with
  | 0 => simp [rtX, rtY]
  | 1 => simp [rtX, rtY, n2]
  | 2 => simp [rtX, rtY, n1, n2]
  | _ + 3 => simp [rtX, rtY, n1]
theorem tn_bk {p q k : Int} (h : Tn p q k) : Tn p (-q) ((4 - k) % 4) := by
  have := h.q1
  have := h.q2
  have := h.o
  exact ⟨h.p1, h.p2, by omega, by omega, by rw [Int.natAbs_neg]; exact h.g, by omega, by omega, by omega⟩
theorem bk_1 {p q k : Int} (h : Tn p q k) : -k % 4 = (4 - k) % 4 := by omega
theorem seen_eq {p q k : Int} (h : Tn p q k) (x y : Int) : D.tup [.int (rtX k.toNat (nrr ((p * p - q * q) * x - 2 * p * q * y) (p * p + q * q)) (nrr ((p * p - q * q) * y + 2 * p * q * x) (p * p + q * q))), .int (rtY k.toNat (nrr ((p * p - q * q) * x - 2 * p * q * y) (p * p + q * q)) (nrr ((p * p - q * q) * y + 2 * p * q * x) (p * p + q * q)))] = D.tup [.int (imX p q k x y), .int (imY p q k x y)] := by
  obtain ⟨e1, e2⟩ := ex_raw p q k x y
  obtain ⟨n1, n2⟩ := nrr_rot h k.toNat ((p * p - q * q) * x - 2 * p * q * y) ((p * p - q * q) * y + 2 * p * q * x)
  refine tup2 ?_ ?_
  · unfold imX
    rw [e1, n1] <;> rfl
  · unfold imY
    rw [e2, n2] <;> rfl
theorem nrr_near {n c : Int} (h : c % 2 = 1) (h0 : 0 < c) : -c < 2 * (n - c * nrr n c) ∧ 2 * (n - c * nrr n c) < c := by
  unfold nrr
  have e := Int.emod_add_mul_ediv (2 * n + c) (2 * c)
  have r0 := Int.emod_nonneg (2 * n + c) (show 2 * c ≠ 0 by omega)
  have r1 := Int.emod_lt_of_pos (2 * n + c) (show 0 < 2 * c by omega)
  generalize (2 * n + c) % (2 * c) = r at *
  generalize (2 * n + c) / (2 * c) = m at *
  have e2 : 2 * c * m = 2 * (c * m) := by rw [Int.mul_assoc]
  have rn : r ≠ 0 := by omega
  omega
theorem im_near {p q k : Int} (h : Tn p q k) (x y : Int) : (-(cc p q) < 2 * (exX p q k x y - cc p q * imX p q k x y) ∧ 2 * (exX p q k x y - cc p q * imX p q k x y) < cc p q) ∧ -(cc p q) < 2 * (exY p q k x y - cc p q * imY p q k x y) ∧ 2 * (exY p q k x y - cc p q * imY p q k x y) < cc p q :=
  by unfold imX imY; exact ⟨nrr_near (cc_odd h) (cc_pos h), nrr_near (cc_odd h) (cc_pos h)⟩

/-- a pixel within a bound -/
def DotB (n : Nat) (d : D) : Prop := ∃ x y : Int, d = .tup [.int x, .int y] ∧ Bd n x ∧ Bd n y
theorem DotB.up {n m : Nat} {d : D} (h : DotB n d) (k : n ≤ m) : DotB m d := by
  obtain ⟨x, y, e, a, b⟩ := h
  exact ⟨x, y, e, a.up k, b.up k⟩
end Tp
namespace Tp
open PySem PySem.Spec PyProof.Rows L2 DL
/-! ### rests -/
def reX (p q x y : Int) : Int := p * x - q * y - (p * imX p q 0 x y - -q * imY p q 0 x y)
def reY (p q x y : Int) : Int := p * y + q * x - (p * imY p q 0 x y + -q * imX p q 0 x y)
def isR (p q m n : Int) : Prop := (-(cc p q) < 2 * (p * m - q * n) ∧ 2 * (p * m - q * n) < cc p q) ∧ -(cc p q) < 2 * (p * n + q * m) ∧ 2 * (p * n + q * m) < cc p q
theorem bez_nat (m n : Nat) : ∃ s t : Int, s * (m : Int) + t * (n : Int) = (Nat.gcd m n : Int) := by
  induction m, n using Nat.gcd.induction with
  | H0 n => exact ⟨0, 1, by simp⟩
  | H1 m n hm ih =>
    obtain ⟨s, t, e⟩ := ih
    rw [← Nat.gcd_rec] at e
    have d : ((n % m : Nat) : Int) = (n : Int) - (m : Int) * ((n / m : Nat) : Int) := by
      have := Nat.mod_add_div n m
      omega
    refine ⟨t - s * ((n / m : Nat) : Int), s, ?_⟩
    rw [← e, d]
    grind
theorem bez {p q : Int} (g : Nat.gcd p.natAbs q.natAbs = 1) : ∃ s t : Int, s * p + t * q = 1 := by
  obtain ⟨s, t, e⟩ := bez_nat p.natAbs q.natAbs
  rw [g] at e
  rcases Int.natAbs_eq p with h | h <;> rcases Int.natAbs_eq q with h' | h'
  · exact ⟨s, t, by rw [h, h']; exact e⟩
  · exact ⟨s, -t, by rw [h, h', Int.neg_mul_neg]; exact e⟩
  · exact ⟨-s, t, by rw [h, h', Int.neg_mul_neg]; exact e⟩
  · exact ⟨-s, -t, by rw [h, h', Int.neg_mul_neg, Int.neg_mul_neg]; exact e⟩
theorem ex0 (p q x y : Int) : exX p q 0 x y = (p * p - q * q) * x - 2 * p * q * y ∧ exY p q 0 x y = (p * p - q * q) * y + 2 * p * q * x := by have h := ex_raw p q 0 x y; simpa [rtX, rtY] using h
/-- u times the rest is what the exact place has over c times the image -/
theorem u_re (p q x y : Int) : p * reX p q x y - q * reY p q x y = exX p q 0 x y - cc p q * imX p q 0 x y ∧ p * reY p q x y + q * reX p q x y = exY p q 0 x y - cc p q * imY p q 0 x y := by
  unfold reX reY
  rw [(ex0 p q x y).1, (ex0 p q x y).2]
  unfold cc
  generalize imX p q 0 x y = X
  generalize imY p q 0 x y = Y
  constructor <;> grind
theorem re_is {p q k : Int} (h : Tn p q k) (x y : Int) : isR p q (reX p q x y) (reY p q x y) := by
  unfold isR
  rw [(u_re p q x y).1, (u_re p q x y).2]
  have h0 : Tn p q 0 := ⟨h.p1, h.p2, h.q1, h.q2, h.g, h.o, by decide, by decide⟩
  exact im_near h0 x y
theorem half_le {x c : Int} : (if x < 0 then -x else x) ≤ (c - 1) / 2 ↔ -c < 2 * x ∧ 2 * x < c := by split <;> omega
def con_rest_of : Con := fun ds S Q => ∃ p q k x y : Int, ds = [.tup [.int p, .int q, .int k], .tup [.int x, .int y]] ∧ Tn p q k ∧ (Bd 1000 x ∧ Bd 1000 y) ∧ Q (.tup [.int (reX p q x y), .int (reY p q x y)]) S
theorem Bd.reX {p q x y : Int} {n : Nat} (h : Bd 50 p) (g : Bd 50 q) (hx : Bd n x) (hy : Bd n y) : Bd (160 + n) (reX p q x y) :=
  (((h.mul hx).sub (g.mul hy)).sub ((h.mul (Bd.imX 0 h g hx hy)).sub (g.neg.mul (Bd.imY 0 h g hx hy)))).up (by omega)
theorem Bd.reY {p q x y : Int} {n : Nat} (h : Bd 50 p) (g : Bd 50 q) (hx : Bd n x) (hy : Bd n y) : Bd (160 + n) (reY p q x y) :=
  (((h.mul hy).add (g.mul hx)).sub ((h.mul (Bd.imY 0 h g hx hy)).add (g.neg.mul (Bd.imX 0 h g hx hy)))).up (by omega)
/-- the rounds that find an inverse -/
structure InvI (n m h l a b : Int) : Prop where
  h0 : 0 < h
  l0 : 0 ≤ l
  az : ∃ z, a * n - h = m * z
  bz : ∃ z, b * n - l = m * z
  co : ∀ d, d ∣ h → d ∣ l → d ∣ 1
  sg : (0 ≤ a ∧ b ≤ 0 ∧ a * l - b * h = m) ∨ (a ≤ 0 ∧ 0 ≤ b ∧ b * h - a * l = m)
  hm : h ≤ m
  lm : l ≤ m
  ab : -m ≤ a ∧ a ≤ m
theorem InvI.b_le {n m h l a b : Int} (I : InvI n m h l a b) : -m ≤ b ∧ b ≤ m := by
  have h0 := I.h0
  have l0 := I.l0
  rcases I.sg with ⟨a0, b0, e⟩ | ⟨a0, b0, e⟩
  · have x1 : 0 ≤ a * l := Int.mul_nonneg a0 l0
    have x2 : (-b) * 1 ≤ (-b) * h := Int.mul_le_mul_of_nonneg_left (by omega) (by omega)
    have x3 : (-b) * h = -(b * h) := Int.neg_mul _ _
    omega
  · have x1 : 0 ≤ (-a) * l := Int.mul_nonneg (by omega) l0
    have x2 : b * 1 ≤ b * h := Int.mul_le_mul_of_nonneg_left (by omega) (by omega)
    have x3 : (-a) * l = -(a * l) := Int.neg_mul _ _
    omega
theorem InvI.less {h l : Int} (h0 : 0 < l) : 0 ≤ h - h / l * l ∧ h - h / l * l < l := by
  have r0 := Int.emod_nonneg h (show l ≠ 0 by omega)
  have r1 := Int.emod_lt_of_pos h h0
  have r2 := Int.emod_add_mul_ediv h l
  have r3 : h / l * l = l * (h / l) := Int.mul_comm _ _
  omega
theorem InvI.step {n m h l a b : Int} (I : InvI n m h l a b) (hl : 0 < l) : InvI n m l (h - h / l * l) b (a - h / l * b) := by
  obtain ⟨l1, l2⟩ := InvI.less (h := h) hl
  have q0 : 0 ≤ h / l := Int.ediv_nonneg (by have := I.h0; omega) (by omega)
  have hlm := I.lm
  obtain ⟨z, hz⟩ := I.az
  obtain ⟨w, hw⟩ := I.bz
  refine ⟨hl, l1, I.bz, ⟨z - h / l * w, ?_⟩, fun d h1 h2 => I.co d ?_ h1, ?_, hlm, by omega, I.b_le⟩
  · have : (a - h / l * b) * n - (h - h / l * l) = (a * n - h) - h / l * (b * n - l) := by grind
    rw [this, hz, hw]
    grind
  · have : h = (h - h / l * l) + h / l * l := by omega
    rw [this]
    exact Int.dvd_add h2 (Int.dvd_trans h1 (Int.dvd_mul_left _ _))
  · generalize h / l = k at *
    rcases I.sg with ⟨a0, b0, e⟩ | ⟨a0, b0, e⟩
    · have x : 0 ≤ k * (-b) := Int.mul_nonneg q0 (by omega)
      have x2 : k * (-b) = -(k * b) := Int.mul_neg _ _
      exact .inr ⟨b0, by omega, by rw [← e]; grind⟩
    · have x : 0 ≤ k * b := Int.mul_nonneg q0 b0
      exact .inl ⟨b0, by omega, by rw [← e]; grind⟩
theorem Tn.zero {p q k : Int} (h : Tn p q k) : Tn p q 0 := ⟨h.p1, h.p2, h.q1, h.q2, h.g, h.o, by decide, by decide⟩
theorem bd_cc {p q : Int} (h : Bd 101 (cc p q)) : Bd 101 (cc p q) := h

end Tp
namespace Tp
open PySem PySem.Spec PyProof.Rows L2 DL

/-! ### pixels with one rest -/
theorem sq2 (p : Int) : p ^ (Int.toNat 2) = p * p := by
  show p ^ 2 = p * p
  rw [Int.pow_succ, Int.pow_succ, Int.pow_zero, Int.one_mul]
theorem cc2 (p q : Int) : p ^ (Int.toNat 2) + q ^ (Int.toNat 2) = cc p q := by rw [sq2, sq2] <;> rfl
theorem Bd.cc2 {p q : Int} (h : Bd 50 p) (g : Bd 50 q) : Bd 101 (p ^ (Int.toNat 2) + q ^ (Int.toNat 2)) := by
  rw [Tp.cc2]
  exact Bd.cc h g
def con_left : Con := fun ds S Q => ∃ p q k x y : Int, ds = [.tup [.int p, .int q, .int k], .tup [.int x, .int y]] ∧ Tn p q k ∧ (Bd 1000 x ∧ Bd 1000 y) ∧ Q (.tup [.int (reX p q x y), .int (reY p q x y)]) S
end Tp
namespace Tp
open PySem PySem.Spec PyProof.Rows L2 DL
/-! ### the nearest pixel with a rest -/
theorem three {i : Nat} {d : D} (h : [D.int (-1), D.int 0, D.int 1][i]? = some d) : i < 3 ∧ d = .int ((i : Int) - 1) := by
  have hi : i < 3 := (List.getElem?_eq_some_iff.mp h).1
  refine ⟨hi, ?_⟩
  rcases (by omega : i = 0 ∨ i = 1 ∨ i = 2) with e | e | e <;> subst e <;> exact (Option.some.inj h).symm
end Tp
namespace Tp
open PySem PySem.Spec PyProof.Rows L2 DL
/-! ### turns of legs, and joined turns -/
/-- the last step of what finds a turn of legs -/
theorem root_p (p q : Int) : (cc p q + (p * p - q * q)) / 2 = p * p := by unfold cc; omega
theorem root_q (p q : Int) : (cc p q - (p * p - q * q)) / 2 = q * q := by unfold cc; omega
theorem tn_bk2 {p q k : Int} (h : Tn p q k) : Tn p (-q) (-k % 4) := by
  have := tn_bk h
  have e := bk_1 h
  rw [e]
  exact this
theorem isq_ok {i p : Int} (e : i = p * p) (b : Bd 100 (p * p)) : 0 ≤ i ∧ i.natAbs < 2 ^ 3000 := by
  subst e
  exact ⟨sq_nn p, b.up (by decide)⟩
theorem sq_bd {p : Int} (h : Bd 50 p) : Bd 100 (p * p) := h.mul h
end Tp
namespace Tp
open PySem PySem.Spec PyProof.Rows L2 DL
/-! ### misses -/
def absI (v : Int) : Int := if v < 0 then -v else v
theorem take_step {α β : Type} (f : α → β) {os : List α} {k : Nat} {v : α} (h : os[k]? = some v) : (os.map f).take (k + 1) = (os.map f).take k ++ [f v] := by
  rw [List.take_add_one, List.getElem?_map, h] <;> rfl
end Tp
namespace Tp
open PySem PySem.Spec PyProof.Rows L2 DL
/-! ### how many turns keep all -/
end Tp
namespace Tp
open PySem PySem.Spec PyProof.Rows L2 DL
/-! ### pixels with one image; bare pixels -/
/-- a rest of a pixel that comes back -/
def isC (p q m n : Int) : Prop := (-(cc p q) < 2 * (p * m + q * n) ∧ 2 * (p * m + q * n) < cc p q) ∧ -(cc p q) < 2 * (p * n - q * m) ∧ 2 * (p * n - q * m) < cc p q
/-! ### turns that keep all -/
/-! ### a bare pixel of each turn that does not keep all -/
/-! ### where some are bare, some meet -/
end Tp
namespace Tp
open PySem PySem.Spec PyProof.Rows L2 DL
/-! ### where a pixel comes from -/
end Tp
namespace Tp
open PySem PySem.Spec PyProof.Rows L2 DL
/-! ### the gaps between the exact places -/
/-- the four ways a point lies out of the gap -/
def Hit (a b c D E : Int) : Prop := ∃ m n : Int, (m = 1 ∨ m = -1) ∧ (n = 1 ∨ n = -1) ∧ (-c < D - (a * m - b * n) ∧ D - (a * m - b * n) < c) ∧ -c < E - (b * m + a * n) ∧ E - (b * m + a * n) < c
theorem Hit.turn {a b c D E : Int} (h : Hit b (-a) c D E) : Hit a b c D E := by
  obtain ⟨m, n, hm, hn, h1, h2⟩ := h
  refine ⟨n, -m, hn, by omega, ?_⟩
  have e1 : D - (a * n - b * -m) = D - (b * m - -a * n) := by grind
  have e2 : E - (b * n + a * -m) = E - (-a * m + b * n) := by grind
  rw [e1, e2]; omega
/-! ### the law's own lists of pixels around a place -/
/-! ### pixels that meet a pixel, of those around -/
theorem eqB_nil (l : List D) : eqB (.lst l) (.lst []) = l.isEmpty := by cases l <;> rfl
theorem eq_nil {l : List D} {S : Sto} {Q : Bool → Sto → Prop} (h : flatOkL 8 l = true) (q : Q l.isEmpty S) : eqP (.lst l) (.lst []) S Q := ⟨⟨by simpa [flatOk] using h, rfl⟩, by rw [eqB_nil]; exact q⟩
end Tp
namespace Tp
open PySem PySem.Spec PyProof.Rows L2 DL
/-! ### sources, with lists that may be changed -/
end Tp
namespace Tp
open PySem PySem.Spec PyProof.Rows L2 DL
/-! ### sums over rows of pixels -/
def sumN : Nat → (Nat → Int) → Int
  | 0, _ => 0
  | n + 1, f => sumN n f + f n
end Tp
namespace Tp
open PySem PySem.Spec PyProof.Rows L2 DL
/-! ### bare pixels in a row -/
def keepsP (p q : Int) : Prop := p = (if q < 0 then -q else q) + 1
instance (p q : Int) : Decidable (keepsP p q) := by unfold keepsP; infer_instance
end Tp
namespace Tp
open PySem PySem.Spec PyProof.Rows L2 DL
/-! ### sums of floors -/
def fs (n : Nat) (d s b : Int) : Int := sumN n fun k => (s * (k : Int) + b) / d
structure FsI (T t n d s b : Int) : Prop where
  e : t + fs n.toNat d s b = T
  n0 : 0 ≤ n
  d0 : 0 < d
  bt : Bd 320 t
  bn : Bd 102 n
  bd : Bd 102 d
  bs : Bd 102 s
  bb : Bd 204 b
theorem FsI.pos {T t n d s b : Int} (h : FsI T t n d s b) (g : ¬ s % d * n + b % d < d) : 0 < s % d := by
  have d0 := h.d0
  have n0 := Int.emod_nonneg s (show d ≠ 0 by omega)
  have n1 := Int.emod_lt_of_pos b d0
  rcases Int.lt_or_eq_of_le n0 with z | z
  · exact z
  · rw [← z, Int.zero_mul] at g; omega
end Tp
namespace Tp
open PySem PySem.Spec PyProof.Rows L2 DL
/-! ### rests of a row -/
instance (p q m n : Int) : Decidable (isR p q m n) := by unfold isR; infer_instance
instance (p q m n : Int) : Decidable (isC p q m n) := by unfold isC; infer_instance
end Tp
namespace Tp
open PySem PySem.Spec PyProof.Rows L2 DL
/-! ### counting rests -/
def octP (p Q h m n : Int) : Prop := p * absI m + Q * absI n ≤ h ∧ Q * absI m + p * absI n ≤ h
instance (p Q h m n : Int) : Decidable (octP p Q h m n) := by unfold octP; infer_instance
theorem absI_le {m a : Int} : absI m ≤ a ↔ -a ≤ m ∧ m ≤ a := by unfold absI; split <;> omega
end Tp
namespace Tp
open PySem PySem.Spec PyProof.Rows L2 DL
end Tp
namespace Tp
open PySem PySem.Spec PyProof.Rows L2 DL
/-! ### pairs of a row -/
def isH (c v : Int) : Prop := -c < 2 * v ∧ 2 * v < c
instance (c v : Int) : Decidable (isH c v) := by unfold isH; infer_instance
/-- the condition that a pixel and the one beside it have one image -/
def meetO (p q dx dy X Y : Int) : Prop := isH (cc p q) (X + ((p * p - q * q) * dx - 2 * p * q * dy)) ∧ isH (cc p q) (Y + ((p * p - q * q) * dy + 2 * p * q * dx))
instance (p q dx dy X Y : Int) : Decidable (meetO p q dx dy X Y) := by unfold meetO; infer_instance
end Tp
namespace Tp
open PySem PySem.Spec PyProof.Rows L2 DL
/-! ### places of a row and what comes to them -/
end Tp
namespace Tp
open PySem PySem.Spec PyProof.Rows L2 DL
/-! ### k13 -/
end Tp
namespace Tp
open PySem PySem.Spec PyProof.Rows L2 DL
/-! ### kinds of pixels -/
def metR (p q : Int) (t : Int × Int) : Prop := meetO p q 1 0 (p * t.1 - q * t.2) (p * t.2 + q * t.1) ∨ meetO p q (-1) 0 (p * t.1 - q * t.2) (p * t.2 + q * t.1) ∨ meetO p q 0 1 (p * t.1 - q * t.2) (p * t.2 + q * t.1) ∨ meetO p q 0 (-1) (p * t.1 - q * t.2) (p * t.2 + q * t.1)
instance (p q : Int) (t : Int × Int) : Decidable (metR p q t) := by unfold metR; infer_instance
end Tp
namespace Tp
open PySem PySem.Spec PyProof.Rows L2 DL
/-! ### mirrored and turned by a quarter -/
end Tp
namespace Tp
open PySem PySem.Spec PyProof.Rows L2 DL
/-! ### all rests, row by row -/
end Tp
namespace Tp
open PySem PySem.Spec PyProof.Rows L2 DL
end Tp
namespace Tp
open PySem PySem.Spec PyProof.Rows L2 DL
/-! ### a row as a whole -/
end Tp
namespace Tp
open PySem PySem.Spec PyProof.Rows L2 DL
/-! ### k10 -/
def isRb (p q : Int) (t : Int × Int) : Bool := decide (isR p q t.1 t.2)
theorem inside_iff {p q k : Int} (h : Tn p q k) (m n : Int) : isRb p q (m, n) = (decide (absI (p * m - q * n) ≤ (p * p + q * q) / 2) && decide (absI (p * n + q * m) ≤ (p * p + q * q) / 2)) := by
  have ho : (p * p + q * q) % 2 = 1 := cc_odd h
  unfold isRb
  rw [← Bool.decide_and, decide_eq_decide, absI_le, absI_le]
  show isR p q m n ↔ _
  unfold isR
  have ec : cc p q = p * p + q * q := rfl
  omega
end Tp
namespace Tp
open PySem PySem.Spec PyProof.Rows L2 DL
/-! ### greatest misses -/
/-- the ends of a row, as the law takes them -/
def lawLo (p q m : Int) : Int × Int := (0 - ((p * p + q * q) / 2 + q * m) / p, if 0 < q then 0 - ((p * p + q * q) / 2 - p * m) / q else 0 - p)
def lawHi (p q m : Int) : Int × Int := (((p * p + q * q) / 2 - q * m) / p, if 0 < q then ((p * p + q * q) / 2 + p * m) / q else p)
end Tp
namespace Tp
open PySem PySem.Spec PyProof.Rows L2 DL
/-! ### greatest misses: the program's list, the law's rows -/
/-- the law's rows -/
def loI (p q m : Int) : Int := max (lawLo p q m).1 (lawLo p q m).2
def hiI (p q m : Int) : Int := min (lawHi p q m).1 (lawHi p q m).2
def rowC (p q m : Int) : Prop := loI p q m ≤ hiI p q m ∧ (0 < q ∨ absI (p * m) ≤ (p * p + q * q) / 2)
instance (p q m : Int) : Decidable (rowC p q m) := by unfold rowC; infer_instance
end Tp
namespace Tp
open PySem PySem.Spec PyProof.Rows L2 DL
/-! ### misses by rests -/
end Tp
namespace Tp
open PySem PySem.Spec PyProof.Rows L2 DL
/-! ### a loss told; numbers of no loss -/
end Tp
namespace Tp
open PySem PySem.Spec PyProof.Rows L2 DL
/-! ### turns whose p may be a little too great -/
structure Tw (p q k : Int) : Prop where
  p1 : 1 ≤ p
  p2 : p ≤ 1100000000000000
  q1 : -p < q
  q2 : q < p
  g : Nat.gcd p.natAbs q.natAbs = 1
  o : (p + q) % 2 = 1
  k1 : 0 ≤ k
  k2 : k ≤ 3
theorem Tw.bp {p q k : Int} (h : Tw p q k) : Bd 50 p := by
  have := h.p1
  have := h.p2
  unfold Bd
  omega
theorem Tw.bq {p q k : Int} (h : Tw p q k) : Bd 50 q := by
  have := h.p1
  have := h.p2
  have := h.q1
  have := h.q2
  unfold Bd
  omega
theorem Tw.zero {p q k : Int} (h : Tw p q k) : Tw p q 0 := ⟨h.p1, h.p2, h.q1, h.q2, h.g, h.o, by decide, by decide⟩
theorem Tn.w {p q k : Int} (h : Tn p q k) : Tw p q k := ⟨h.p1, by have := h.p2; omega, h.q1, h.q2, h.g, h.o, h.k1, h.k2⟩
theorem Tw.n {p q k : Int} (h : Tw p q k) (hp : p ≤ 1000000000000000) : Tn p q k := ⟨h.p1, hp, h.q1, h.q2, h.g, h.o, h.k1, h.k2⟩
end Tp
namespace Tp
open PySem PySem.Spec PyProof.Rows L2 DL
/-! ### joined turns -/
structure Tv (p q k : Int) : Prop where
  p1 : 1 ≤ p
  p2 : p ≤ 2535301200456458802993406410752
  q1 : -p < q
  q2 : q < p
  g : Nat.gcd p.natAbs q.natAbs = 1
  o : (p + q) % 2 = 1
  k1 : 0 ≤ k
  k2 : k ≤ 3
theorem Tv.bp {p q k : Int} (h : Tv p q k) : Bd 102 p := by
  have := h.p1
  have := h.p2
  unfold Bd
  omega
theorem Tv.bq {p q k : Int} (h : Tv p q k) : Bd 102 q := by
  have := h.p1
  have := h.p2
  have := h.q1
  have := h.q2
  unfold Bd
  omega
theorem Tv.zero {p q k : Int} (h : Tv p q k) : Tv p q 0 := ⟨h.p1, h.p2, h.q1, h.q2, h.g, h.o, by decide, by decide⟩
end Tp
namespace Tp
open PySem PySem.Spec PyProof.Rows L2 DL
/-! ### chains -/
abbrev Stp := Bool × Int × Int
def OkS (t : Stp) : Prop := 1 ≤ t.2.2 ∧ Bd 150 t.2.1 ∧ Bd 150 t.2.2
def led1 (t : Stp) (v : Int × Int) : Int × Int := if t.1 then (v.1 + nrr (t.2.1 * v.2) t.2.2, v.2) else (v.1, v.2 + nrr (t.2.1 * v.1) t.2.2)
def unl1 (t : Stp) (v : Int × Int) : Int × Int := if t.1 then (v.1 - nrr (t.2.1 * v.2) t.2.2, v.2) else (v.1, v.2 - nrr (t.2.1 * v.1) t.2.2)
def ledN (l : List Stp) (v : Int × Int) : Int × Int := l.foldl (fun v t => led1 t v) v
def unlN (l : List Stp) (v : Int × Int) : Int × Int := l.reverse.foldl (fun v t => unl1 t v) v
def BdP (n : Nat) (v : Int × Int) : Prop := Bd n v.1 ∧ Bd n v.2
theorem BdP.up {n m : Nat} {v : Int × Int} (h : BdP n v) (k : n ≤ m) : BdP m v := ⟨h.1.up k, h.2.up k⟩
/-! the chains that are drawn -/
def OkT (t : Stp) : Prop := 1 ≤ t.2.2 ∧ Bd 145 t.2.1 ∧ Bd 145 t.2.2
theorem OkT.s {t : Stp} (h : OkT t) : OkS t := ⟨h.1, h.2.1.up (by decide), h.2.2.up (by decide)⟩
/-! steps in lowest terms -/
theorem k_ll : kitB "list" "list" = some true := by decide +kernel
theorem sl_t31 {a b c : D} {S : Sto} {Q : D → Sto → Prop} (q : Q (.tup [b, c]) S) : slP (.tup [a, b, c]) (some 1) none S Q := ⟨by show ¬ ((1 : Nat) = 0 ∧ _); omega, q⟩
end Tp
namespace Tp
open PySem PySem.Spec PyProof.Rows L2 DL
/-! ### where chains part -/
instance (t : Stp) : Decidable (OkS t) := by unfold OkS Bd; infer_instance
end Tp
namespace Tp
open PySem PySem.Spec PyProof.Rows L2 DL
/-! ### how many unlike tuples -/
section
variable {X : Cx}
end
/-! ### chains done and undone -/
end Tp
namespace Tp
open PySem PySem.Spec PyProof.Rows L2 DL
/-! ### matrices of chains -/
abbrev Mt := Int × Int × Int × Int × Int
def ml (m : Mt) : List Int := [m.1, m.2.1, m.2.2.1, m.2.2.2.1, m.2.2.2.2]
def detM (m : Mt) : Int := m.1 * m.2.2.2.1 - m.2.1 * m.2.2.1
/-! common divisors -/
def foldG (ns : List Int) : Nat := ns.foldl (fun g n => Nat.gcd g n.natAbs) 0
def IsM (m : Mt) : Prop := 1 ≤ m.2.2.2.2 ∧ detM m = m.2.2.2.2 * m.2.2.2.2 ∧ foldG (ml m) = 1
/-! the way back, scaled, crossed -/
/-! pixels that are led without rounding -/
end Tp
namespace Tp
open PySem PySem.Spec PyProof.Rows L2 DL
def BdM (n : Nat) (m : Mt) : Prop := Bd n m.1 ∧ Bd n m.2.1 ∧ Bd n m.2.2.1 ∧ Bd n m.2.2.2.1 ∧ Bd n m.2.2.2.2
theorem BdM.up {n k : Nat} {m : Mt} (b : BdM n m) (h : n ≤ k) : BdM k m := ⟨b.1.up h, b.2.1.up h, b.2.2.1.up h, b.2.2.2.1.up h, b.2.2.2.2.up h⟩
end Tp
namespace Tp
open PySem PySem.Spec PyProof.Rows L2 DL
/-! ### fewest shears -/
instance (m : Mt) : Decidable (IsM m) := by unfold IsM; infer_instance
instance (n : Nat) (m : Mt) : Decidable (BdM n m) := by unfold BdM Bd; infer_instance
end Tp
namespace Tp
open PySem PySem.Spec PyProof.Rows L2 DL
/-! ### scales: each pixel to the nearest place -/
structure Sc (a b n : Int) : Prop where
  n1 : 1 ≤ n
  n2 : n ≤ 1000000000000000000000000000000
  a1 : -1000000000000000000000000000000 ≤ a
  a2 : a ≤ 1000000000000000000000000000000
  b1 : -1000000000000000000000000000000 ≤ b
  b2 : b ≤ 1000000000000000000000000000000
  s : n * n ≤ a * a + b * b
theorem bd_30 {x : Int} (h : -1000000000000000000000000000000 ≤ x ∧ x ≤ 1000000000000000000000000000000) : Bd 100 x := by unfold Bd; omega
theorem Sc.bn {a b n : Int} (h : Sc a b n) : Bd 100 n := bd_30 ⟨by have := h.n1; omega, h.n2⟩
theorem Sc.np {a b n : Int} (h : Sc a b n) : 0 < n := by have := h.n1; omega
theorem sc_great {a b r : Int} (h1 : 0 ≤ a ∧ a < 10 ^ (Int.toNat 30)) (h2 : 0 ≤ b ∧ b < 10 ^ (Int.toNat 29)) (h3 : 0 ≤ r ∧ r < 9) : Sc (10 ^ (Int.toNat 30) - a) (10 ^ (Int.toNat 29) + b) (1 + r) := by
  have e1 : (10 : Int) ^ (Int.toNat 30) = 1000000000000000000000000000000 := by decide +kernel
  have e2 : (10 : Int) ^ (Int.toNat 29) = 100000000000000000000000000000 := by decide +kernel
  rw [e1] at h1 ⊢
  rw [e2] at h2 ⊢
  refine ⟨by omega, by omega, by omega, by omega, by omega, by omega, ?_⟩
  have s1 := sq_nn (1000000000000000000000000000000 - a)
  have s2 : 100000000000000000000000000000 * 100000000000000000000000000000 ≤ (100000000000000000000000000000 + b) * (100000000000000000000000000000 + b) := Int.mul_le_mul (by omega) (by omega) (by omega) (by omega)
  have s3 : (1 + r) * (1 + r) ≤ 9 * 9 := Int.mul_le_mul (by omega) (by omega) (by omega) (by omega)
  omega
end Tp
namespace Tp
open PySem PySem.Spec PyProof.Rows L2 DL
/-! ### three shears -/
def shC (p q : Int) (o : Bool) : List Stp := if o then [(true, -q, p), (false, 2 * p * q, p * p + q * q), (true, -q, p)] else [(false, q, p), (true, -(2 * p * q), p * p + q * q), (false, q, p)]
theorem shC_len (p q : Int) (o : Bool) : (shC p q o).length = 3 := by cases o <;> rfl
def rt2 (j : Nat) (v : Int × Int) : Int × Int := (rtX j v.1 v.2, rtY j v.1 v.2)
@[irreducible] def shV (p q k : Int) (o : Bool) (x y : Int) : Int × Int := rt2 k.toNat (ledN (shC p q o) (x, y))
@[irreducible] def usV (p q k : Int) (o : Bool) (x y : Int) : Int × Int := unlN (shC p q o) (rt2 (-k % 4).toNat (x, y))
theorem tn_one {r : Int} (h0 : 0 ≤ r) (h1 : r < 4) : Tn 1 0 r := ⟨by decide, by decide, by decide, by decide, by decide, by decide, h0, by omega⟩
end Tp
namespace Tp
open PySem PySem.Spec PyProof.Rows L2 DL
/-! ### ways -/
abbrev Trn := Int × Int × Int
def TnT (t : Trn) : Prop := Tn t.1 t.2.1 t.2.2
def KW (t : Trn) : Prop := TnT t ∧ keepsP t.1 t.2.1
/-! how far an image may lie -/
theorem kw_tn {l : List Trn} (h : ∀ t ∈ l, KW t) : ∀ t ∈ l, TnT t := fun t ht => (h t ht).1
end Tp
namespace Tp
open PySem PySem.Spec PyProof.Rows L2 DL
/-! ### six-cornered turns -/
structure Sx (p q k : Int) : Prop where
  p1 : -1000000000000000 ≤ p
  p2 : p ≤ 1000000000000000
  q1 : -1000000000000000 ≤ q
  q2 : q ≤ 1000000000000000
  d1 : -1000000000000000 ≤ p - q
  d2 : p - q ≤ 1000000000000000
  o : (p + q) % 3 ≠ 0
  g : Nat.gcd p.natAbs q.natAbs = 1
  k1 : 0 ≤ k
  k2 : k ≤ 5
theorem Sx.bp {p q k : Int} (h : Sx p q k) : Bd 50 p := by have := h.p1; have := h.p2; unfold Bd; omega
theorem Sx.bq {p q k : Int} (h : Sx p q k) : Bd 50 q := by have := h.q1; have := h.q2; unfold Bd; omega
theorem Sx.b3 {p q k : Int} (h : Sx p q k) : Bd 3 k := by have := h.k1; have := h.k2; unfold Bd; omega
def r6X (k : Nat) (x y : Int) : Int := match k with | 0 => x | 1 => x - y | 2 => -y | 3 => -x | 4 => y - x | _ => y
def r6Y (k : Nat) (x y : Int) : Int := match k with | 0 => y | 1 => x | 2 => x - y | 3 => -y | 4 => -x | _ => y - x
theorem six {k : Int} (h : 0 ≤ k ∧ k ≤ 5) : k = 0 ∨ k = 1 ∨ k = 2 ∨ k = 3 ∨ k = 4 ∨ k = 5 := by omega
@[irreducible] def sz (p q : Int) : Int := p * p - p * q + q * q
theorem sz_eq (p q : Int) : sz p q = p * p - p * q + q * q := by unfold sz; rfl
def sqA (p q : Int) : Int := p * p - q * q
def sqB (p q : Int) : Int := p * q + q * p - q * q
@[irreducible] def spX (p q k x y : Int) : Int := r6X k.toNat (sqA p q * x - sqB p q * y) (sqA p q * y + sqB p q * x - sqB p q * y)
@[irreducible] def spY (p q k x y : Int) : Int := r6Y k.toNat (sqA p q * x - sqB p q * y) (sqA p q * y + sqB p q * x - sqB p q * y)
/-! the hexagon about (0, 0) -/
def HexC (c x y : Int) : Prop := (-c ≤ 2 * x - y ∧ 2 * x - y ≤ c) ∧ (-c ≤ 2 * y - x ∧ 2 * y - x ≤ c) ∧ -c ≤ x + y ∧ x + y ≤ c
def HexS (c x y : Int) : Prop := (-c < 2 * x - y ∧ 2 * x - y < c) ∧ (-c < 2 * y - x ∧ 2 * y - x < c) ∧ -c < x + y ∧ x + y < c
theorem HexC.r1 {c x y : Int} (h : HexC c x y) : HexC c (x - y) x := by unfold HexC at *; omega
theorem HexS.r1 {c x y : Int} (h : HexS c x y) : HexS c (x - y) x := by unfold HexS at *; omega
theorem HexS.neg {c x y : Int} (h : HexS c x y) : HexS c (-x) (-y) := by unfold HexS at *; omega
def mxI (f h : Int) : Int := if h > f then h else f
def mnI (f h : Int) : Int := if h < f then h else f
@[irreducible] def hexI (c X Y : Int) : Int × Int :=
  if 2 * mxI (X - c * (X / c)) (Y - c * (Y / c)) - mnI (X - c * (X / c)) (Y - c * (Y / c)) < c ∧ X - c * (X / c) + (Y - c * (Y / c)) < c then (X / c, Y / c)
  else if 2 * mnI (X - c * (X / c)) (Y - c * (Y / c)) > mxI (X - c * (X / c)) (Y - c * (Y / c)) then (X / c + 1, Y / c + 1)
  else if X - c * (X / c) > Y - c * (Y / c) then (X / c + 1, Y / c) else (X / c, Y / c + 1)
end Tp
namespace Tp
open PySem PySem.Spec PyProof.Rows L2 DL
/-! ### six-cornered images -/
theorem gcd_bez {p q s t : Int} (h : s * p + t * q = 1) : Nat.gcd p.natAbs q.natAbs = 1 := by
  have d1 : ((Nat.gcd p.natAbs q.natAbs : Nat) : Int) ∣ p := Int.ofNat_dvd_left.mpr (Nat.gcd_dvd_left _ _)
  have d2 : ((Nat.gcd p.natAbs q.natAbs : Nat) : Int) ∣ q := Int.ofNat_dvd_left.mpr (Nat.gcd_dvd_right _ _)
  have d3 : ((Nat.gcd p.natAbs q.natAbs : Nat) : Int) ∣ 1 := by
    rw [← h]
    exact Int.dvd_add (Int.dvd_mul_of_dvd_right d1) (Int.dvd_mul_of_dvd_right d2)
  have := Int.le_of_dvd (by decide) d3
  have g0 : Nat.gcd p.natAbs q.natAbs ≠ 0 := fun z => by
    rw [z] at d3
    have := Int.zero_dvd.mp d3
    cases this
  omega
@[irreducible] def siX (p q k x y : Int) : Int := (hexI (sz p q) (spX p q k x y) (spY p q k x y)).1
@[irreducible] def siY (p q k x y : Int) : Int := (hexI (sz p q) (spX p q k x y) (spY p q k x y)).2
/-! the sixths -/
theorem sx_rot {p q k : Int} (h : Sx p q k) (j : Int) : Sx p q ((k + j) % 6) := ⟨h.p1, h.p2, h.q1, h.q2, h.d1, h.d2, h.o, h.g, by omega, by omega⟩
/-! back -/
theorem sx_bk {p q k : Int} (h : Sx p q k) : Sx (p - q) (-q) (-k % 6) := by
  have := h.o
  have := h.p1
  have := h.p2
  have := h.q1
  have := h.q2
  have := h.d1
  have := h.d2
  obtain ⟨s, t, b⟩ := bez h.g
  exact ⟨by omega, by omega, by omega, by omega, by omega, by omega, by omega, gcd_bez (s := s) (t := -(s + t)) (by rw [← b]; grind), by omega, by omega⟩
/-! kin: u times a sixth -/
theorem sx_kin {p q k : Int} (h : Sx p q k) (j : Nat) (l : Int) (hl : 0 ≤ l ∧ l ≤ 5) : Sx (r6X j p q) (r6Y j p q) l := by
  have := h.o
  have := h.p1
  have := h.p2
  have := h.q1
  have := h.q2
  have := h.d1
  have := h.d2
  obtain ⟨s, t, b⟩ := bez h.g
  match j with
  | 0 => show Sx p q l; exact ⟨h.p1, h.p2, h.q1, h.q2, h.d1, h.d2, h.o, h.g, hl.1, hl.2⟩
  | 1 => exact ⟨by show _ ≤ p - q; omega, by show p - q ≤ _; omega, by show _ ≤ p; omega, by show p ≤ _; omega, by show _ ≤ p - q - p; omega, by show p - q - p ≤ _; omega, by show (p - q + p) % 3 ≠ 0; omega, gcd_bez (p := p - q) (q := p) (s := -t) (t := s + t) (by rw [← b]; grind), hl.1, hl.2⟩
  | 2 => exact ⟨by show _ ≤ -q; omega, by show -q ≤ _; omega, by show _ ≤ p - q; omega, by show p - q ≤ _; omega, by show _ ≤ -q - (p - q); omega, by show -q - (p - q) ≤ _; omega, by show (-q + (p - q)) % 3 ≠ 0; omega, gcd_bez (p := -q) (q := p - q) (s := -(s + t)) (t := s) (by rw [← b]; grind), hl.1, hl.2⟩
  | 3 => exact ⟨by show _ ≤ -p; omega, by show -p ≤ _; omega, by show _ ≤ -q; omega, by show -q ≤ _; omega, by show _ ≤ -p - -q; omega, by show -p - -q ≤ _; omega, by show (-p + -q) % 3 ≠ 0; omega, gcd_bez (p := -p) (q := -q) (s := -s) (t := -t) (by rw [← b]; grind), hl.1, hl.2⟩
  | 4 => exact ⟨by show _ ≤ q - p; omega, by show q - p ≤ _; omega, by show _ ≤ -p; omega, by show -p ≤ _; omega, by show _ ≤ q - p - -p; omega, by show q - p - -p ≤ _; omega, by show (q - p + -p) % 3 ≠ 0; omega, gcd_bez (p := q - p) (q := -p) (s := t) (t := -(s + t)) (by rw [← b]; grind), hl.1, hl.2⟩
  | _ + 5 => exact ⟨by show _ ≤ q; omega, by show q ≤ _; omega, by show _ ≤ q - p; omega, by show q - p ≤ _; omega, by show _ ≤ q - (q - p); omega, by show q - (q - p) ≤ _; omega, by show (q + (q - p)) % 3 ≠ 0; omega, gcd_bez (p := q) (q := q - p) (s := s + t) (t := -s) (by rw [← b]; grind), hl.1, hl.2⟩
end Tp
namespace Tp
open PySem PySem.Spec PyProof.Rows L2 DL
/-! ### a number without a common divisor is never far -/
/-! what the defs of six-cornered turns and the laws' helpers promise -/
theorem Sx.bc {p q k : Int} (h : Sx p q k) : Bd 110 (sz p q) := by rw [sz_eq]; exact (((h.bp.mul h.bp).sub (h.bp.mul h.bq)).add (h.bq.mul h.bq)).up (by decide)
end Tp
namespace Tp
open PySem PySem.Spec PyProof.Rows L2 DL
/-! ### six-cornered turns: what is near -/
/-! moved pixels -/
end Tp
namespace Tp
open PySem PySem.Spec PyProof.Rows L2 DL
/-! ### six-cornered: the laws' own words -/
/-! nearest -/
end Tp
namespace Tp
open PySem PySem.Spec PyProof.Rows L2 DL
/-! ### scales: which classes meet -/
def cmT (a b n : Int) : Int := ((Nat.gcd ((Nat.gcd a.natAbs b.natAbs : Nat) : Int).natAbs n.natAbs : Nat) : Int)
def cmN (a b n : Int) : Int := ((Nat.gcd (n / cmT a b n).natAbs (a / cmT a b n * (a / cmT a b n) + b / cmT a b n * (b / cmT a b n)).natAbs : Nat) : Int)
theorem cmT_dvd (a b n : Int) : cmT a b n ∣ a ∧ cmT a b n ∣ b ∧ cmT a b n ∣ n := by
  unfold cmT
  have h1 : Nat.gcd ((Nat.gcd a.natAbs b.natAbs : Nat) : Int).natAbs n.natAbs ∣ Nat.gcd a.natAbs b.natAbs := Nat.gcd_dvd_left _ _
  refine ⟨Int.ofNat_dvd_left.mpr (Nat.dvd_trans h1 (Nat.gcd_dvd_left _ _)), Int.ofNat_dvd_left.mpr (Nat.dvd_trans h1 (Nat.gcd_dvd_right _ _)), Int.ofNat_dvd_left.mpr (Nat.gcd_dvd_right _ _)⟩
theorem cmT_pos {a b n : Int} (h : 1 ≤ n) : 1 ≤ cmT a b n := by
  unfold cmT
  have := Nat.gcd_pos_of_pos_right ((Nat.gcd a.natAbs b.natAbs : Nat) : Int).natAbs (show 0 < n.natAbs by omega)
  omega
/-- k: Y is k X, modulo N, for the multiples of a + b i -/
def IsK (a b n k : Int) : Prop := 0 ≤ k ∧ k < cmN a b n ∧ (b / cmT a b n * k + a / cmT a b n) % cmN a b n = 0
/-! the box of what is rounded to 0, together with what is r further -/
end Tp
namespace Tp
open PySem PySem.Spec PyProof.Rows L2 DL
/-! ### scales: the pixels that are led to one -/
def ltP (s t : Int × Int) : Prop := s.1 < t.1 ∨ (s.1 = t.1 ∧ s.2 < t.2)
instance (s t : Int × Int) : Decidable (ltP s t) := by unfold ltP; infer_instance
end Tp
namespace Tp
open PySem PySem.Spec PyProof.Rows L2 DL
/-! ### scales: what the defs promise -/
theorem cmN_le {a b n : Int} (h : 1 ≤ n) : cmT a b n ≤ n ∧ cmN a b n ≤ n := by
  obtain ⟨t1, t2, t3⟩ := cmT_dvd a b n
  have tp := cmT_pos (a := a) (b := b) h
  refine ⟨Int.le_of_dvd (by omega) t3, ?_⟩
  have e := Int.mul_ediv_cancel' t3
  have np : 0 < n / cmT a b n := by
    rcases Int.lt_or_le 0 (n / cmT a b n) with z | z
    · exact z
    · have := Int.mul_le_mul_of_nonneg_left z (show 0 ≤ cmT a b n by omega)
      omega
  have d : cmN a b n ∣ n / cmT a b n := by
    unfold cmN
    exact Int.ofNat_dvd_left.mpr (Nat.gcd_dvd_left _ _)
  have l1 := Int.le_of_dvd np d
  have l2 : n / cmT a b n ≤ n := Int.ediv_le_self _ (by omega)
  omega
theorem IsK.bk {a b n k : Int} (h : 1 ≤ n) (bn : Bd 100 n) (hk : IsK a b n k) : Bd 100 k := Bd.of_le hk.1 (show k ≤ n by have := hk.2.1; have := (cmN_le (a := a) (b := b) h).2; omega) bn
end Tp
namespace Tp
open PySem PySem.Spec PyProof.Rows L2 DL
/-! ### scales: the law of sources -/
end Tp
namespace Tp
open PySem PySem.Spec PyProof.Rows L2 DL
/-! ### two bare pixels are never neighbours -/
end Tp
namespace Tp
open PySem PySem.Spec PyProof.Rows L2 DL
/-! ### bare pixels, meetings and sources along a row -/
end Tp
namespace Tp
open PySem PySem.Spec PyProof.Rows L2 DL
/-! ### scales that are turns: the lattice, meeting numbers -/
end Tp
namespace Tp
open PySem PySem.Spec PyProof.Rows L2 DL
/-! ### scales that are turns: what the program says of both -/
end Tp
namespace Tp
open PySem PySem.Spec PyProof.Rows L2 DL
/-! ### lattice points in a box -/
end Tp
namespace Tp
open PySem PySem.Spec PyProof.Rows L2 DL
/-! ### the meeting numbers of a scale's kin -/
end Tp
namespace Tp
open PySem PySem.Spec PyProof.Rows L2 DL
/-! ### a scale's kin -/
end Tp
namespace Tp
open PySem PySem.Spec PyProof.Rows L2 DL
/-! ### the meeting numbers of a scale as boxes -/
end Tp
namespace Tp
open PySem PySem.Spec PyProof.Rows L2 DL
/-! ### k87: bounds, more than once around, whole factors -/
end Tp
namespace Tp
open PySem PySem.Spec PyProof.Rows L2 DL
/-! ### whole factors: one class, no meeting, one source; k87's helpers -/
end Tp
namespace Tp
open PySem PySem.Spec PyProof.Rows L2 DL
/-! ### any values: kinds, texts -/
def isIntD : D → Bool
  | .int _ => true
  | .bl _ => true
  | _ => false
def isBlD : D → Bool
  | .bl _ => true
  | _ => false
def isTupD : D → Bool
  | .tup _ => true
  | _ => false
def isLstD : D → Bool
  | .lst _ => true
  | _ => false
def isStrD : D → Bool
  | .str _ => true
  | _ => false
def wholeD : D → Bool
  | .int _ => true
  | _ => false
structure AnyV (K : PySem.W.Frag) (d : D) : Prop where
  ex : ∃ t, TyV K d t ∧ PySem.W.kitOne K t (.type "int") = some (isIntD d) ∧ PySem.W.kitOne K t (.type "bool") = some (isBlD d) ∧ PySem.W.kitOne K t (.type "tuple") = some (isTupD d) ∧ PySem.W.kitOne K t (.type "list") = some (isLstD d) ∧ PySem.W.kitOne K t (.type "str") = some (isStrD d)
def pvD : D → Bool
  | .non => true
  | .bl _ => true
  | .int _ => true
  | .str _ => true
  | .tup _ => true
  | .lst _ => true
  | _ => false
theorem kt_NoneType : kitB "NoneType" "int" = some false ∧ kitB "NoneType" "bool" = some false ∧ kitB "NoneType" "tuple" = some false ∧ kitB "NoneType" "list" = some false ∧ kitB "NoneType" "str" = some false := by decide +kernel
theorem kt_bool : kitB "bool" "int" = some true ∧ kitB "bool" "bool" = some true ∧ kitB "bool" "tuple" = some false ∧ kitB "bool" "list" = some false ∧ kitB "bool" "str" = some false := by decide +kernel
theorem kt_int : kitB "int" "int" = some true ∧ kitB "int" "bool" = some false ∧ kitB "int" "tuple" = some false ∧ kitB "int" "list" = some false ∧ kitB "int" "str" = some false := by decide +kernel
theorem kt_str : kitB "str" "int" = some false ∧ kitB "str" "bool" = some false ∧ kitB "str" "tuple" = some false ∧ kitB "str" "list" = some false ∧ kitB "str" "str" = some true := by decide +kernel
theorem kt_tuple : kitB "tuple" "int" = some false ∧ kitB "tuple" "bool" = some false ∧ kitB "tuple" "tuple" = some true ∧ kitB "tuple" "list" = some false ∧ kitB "tuple" "str" = some false := by decide +kernel
theorem kt_list : kitB "list" "int" = some false ∧ kitB "list" "bool" = some false ∧ kitB "list" "tuple" = some false ∧ kitB "list" "list" = some true ∧ kitB "list" "str" = some false := by decide +kernel
theorem kt_dict : kitB "dict" "int" = some false ∧ kitB "dict" "bool" = some false ∧ kitB "dict" "tuple" = some false ∧ kitB "dict" "list" = some false ∧ kitB "dict" "str" = some false := by decide +kernel
theorem any_pv {K : PySem.W.Frag} {d : D} (h : pvD d = true) : AnyV K d := by
  cases d with
  | non => exact ⟨_, ⟨_, rfl, rfl⟩, kit_ty kt_NoneType.1, kit_ty kt_NoneType.2.1, kit_ty kt_NoneType.2.2.1, kit_ty kt_NoneType.2.2.2.1, kit_ty kt_NoneType.2.2.2.2⟩
  | bl b => exact ⟨_, ⟨_, rfl, rfl⟩, kit_ty kt_bool.1, kit_ty kt_bool.2.1, kit_ty kt_bool.2.2.1, kit_ty kt_bool.2.2.2.1, kit_ty kt_bool.2.2.2.2⟩
  | int b => exact ⟨_, ⟨_, rfl, rfl⟩, kit_ty kt_int.1, kit_ty kt_int.2.1, kit_ty kt_int.2.2.1, kit_ty kt_int.2.2.2.1, kit_ty kt_int.2.2.2.2⟩
  | str b => exact ⟨_, ⟨_, rfl, rfl⟩, kit_ty kt_str.1, kit_ty kt_str.2.1, kit_ty kt_str.2.2.1, kit_ty kt_str.2.2.2.1, kit_ty kt_str.2.2.2.2⟩
  | tup b => exact ⟨_, ⟨_, rfl, rfl⟩, kit_ty kt_tuple.1, kit_ty kt_tuple.2.1, kit_ty kt_tuple.2.2.1, kit_ty kt_tuple.2.2.2.1, kit_ty kt_tuple.2.2.2.2⟩
  | lst b => exact ⟨_, ⟨_, rfl, rfl⟩, kit_ty kt_list.1, kit_ty kt_list.2.1, kit_ty kt_list.2.2.1, kit_ty kt_list.2.2.2.1, kit_ty kt_list.2.2.2.2⟩
  | raw b => cases h
  | ext b => cases h
  | scr b => cases h
theorem any_dic {K : PySem.W.Frag} {kvs : List (Key × Int)} : AnyV K (dicD kvs) := ⟨_, kty_dic, kit_ty kt_dict.1, kit_ty kt_dict.2.1, kit_ty kt_dict.2.2.1, kit_ty kt_dict.2.2.2.1, kit_ty kt_dict.2.2.2.2⟩
/-- its parts, if it is a tuple, as well -/
structure AnyT (K : PySem.W.Frag) (d : D) : Prop where
  v : AnyV K d
  p : ∀ l, d = .tup l → ∀ x ∈ l, AnyV K x
def ptD : D → Bool
  | .tup l => l.all pvD
  | d => pvD d
theorem any_pt {K : PySem.W.Frag} {d : D} (h : ptD d = true) : AnyT K d := by
  refine ⟨any_pv ?_, fun l e x hx => ?_⟩
  · cases d <;> first | rfl | exact h
  · subst e
    exact any_pv (List.all_eq_true.mp h x hx)
theorem any_ext {K : PySem.W.Frag} {Q : Hp → V → Prop} (h : AnyV K (.ext Q)) : AnyT K (.ext Q) := ⟨h, fun _ e => nomatch e⟩
/-! ### what is shown -/
mutual
def shQ : D → Prop
  | .int i => i.natAbs < 2 ^ 1900
  | .str x => (reprText x).length ≤ 90000
  | .tup l => shQL l
  | .lst l => shQL l
  | .non => True
  | .bl _ => True
  | .raw _ => False
  | .ext _ => False
  | .scr _ => False
def shQL : List D → Prop
  | [] => True
  | d :: ds => shQ d ∧ shQL ds
end
mutual
def dpD : D → Nat
  | .tup l => dpL l + 1
  | .lst l => dpL l + 1
  | _ => 0
def dpL : List D → Nat
  | [] => 0
  | d :: ds => max (dpD d) (dpL ds)
end
mutual
def wtS : D → Nat
  | .int _ => 1930
  | .str x => (reprText x).length
  | .tup l => wtL l + 3
  | .lst l => wtL l + 3
  | _ => 8
def wtL : List D → Nat
  | [] => 0
  | d :: ds => wtS d + 2 + wtL ds
end
section
variable {P : Program} {w : World} {K : PySem.W.Frag}
mutual
theorem shq_of : ∀ d : D, shQ d → ∃ t n, ShD P w K d t n (wtS d) ∧ n ≤ dpD d
  | .non, _ => ⟨_, 0, ⟨rfl, rfl, Nat.le_refl _⟩, Nat.zero_le _⟩
  | .bl b, _ => ⟨_, 0, ⟨rfl, rfl, Nat.le_refl _⟩, Nat.zero_le _⟩
  | .int i, h => ⟨_, 0, ⟨rfl, by simpa only [shQ] using h, rfl, Nat.le_refl _⟩, Nat.zero_le _⟩
  | .str x, h => ⟨_, 0, ⟨rfl, Nat.le_refl _, rfl, Nat.le_trans (show (reprText x).length ≤ 90000 by simpa only [shQ] using h) (by decide)⟩, Nat.zero_le _⟩
  | .tup l, h => by
    obtain ⟨ts, n, h1, h2⟩ := shql_of l (by simpa only [shQ] using h)
    exact ⟨_, _, ⟨ts, n, wtL l, h1, rfl, rfl, by simp only [wtS]; omega⟩, by simp only [dpD]; omega⟩
  | .lst l, h => by
    obtain ⟨ts, n, h1, h2⟩ := shql_of l (by simpa only [shQ] using h)
    exact ⟨_, _, ⟨ts, n, wtL l, h1, rfl, rfl, by simp only [wtS]; omega⟩, by simp only [dpD]; omega⟩
  | .raw _, h => by simp only [shQ] at h
  | .ext _, h => by simp only [shQ] at h
  | .scr _, h => by simp only [shQ] at h
theorem shql_of : ∀ l : List D, shQL l → ∃ ts n, ShDL P w K l ts n (wtL l) ∧ n ≤ dpL l
  | [], _ => ⟨[], 0, ⟨rfl, rfl⟩, Nat.zero_le _⟩
  | d :: ds, h => by
    rw [shQL] at h
    obtain ⟨t, j, h1, h2⟩ := shq_of d h.1
    obtain ⟨ts, k, h3, h4⟩ := shql_of ds h.2
    exact ⟨_, _, ⟨t, ts, j, k, wtS d, wtL ds, rfl, h1, h3, rfl, by simp only [wtL]; omega⟩, by simp only [dpL]; omega⟩
end
end
/-- d is shown, in at most N signs -/
def Shw (P : Program) (w : World) (K : PySem.W.Frag) (d : D) (N : Nat) : Prop := ∃ t n m, ShD P w K d t n m ∧ n ≤ 8 ∧ m ≤ N
section
variable {P : Program} {w : World} {K : PySem.W.Frag}
theorem shw_q {d : D} {N : Nat} (h : shQ d) (h1 : dpD d ≤ 8) (h2 : wtS d ≤ N) : Shw P w K d N := by
  obtain ⟨t, n, h3, h4⟩ := shq_of (P := P) (w := w) (K := K) d h
  exact ⟨t, n, _, h3, by omega, h2⟩
theorem shw_up {d : D} {N M : Nat} (h : Shw P w K d N) (k : N ≤ M) : Shw P w K d M := let ⟨t, n, m, h1, h2, h3⟩ := h; ⟨t, n, m, h1, h2, by omega⟩
theorem shw_dic0 {N : Nat} (h : 10 ≤ N) : Shw P w K (dicD []) N := ⟨_, 1, 10, ⟨shx_dic (fun _ z => nomatch z), by decide +kernel⟩, by decide, h⟩
end
/-! ### what values are -/
def wtB (n : Int) : D → Bool
  | .tup l => decide ((l.length : Int) = n) && l.all wholeD
  | _ => false
def tnB (p q k : Int) : Bool := decide (1 ≤ p ∧ p ≤ 1000000000000000 ∧ -p < q ∧ q < p ∧ 0 ≤ k ∧ k ≤ 3 ∧ (p + q) % 2 = 1 ∧ Nat.gcd p.natAbs q.natAbs = 1)
theorem tnB_iff {p q k : Int} : tnB p q k = true ↔ Tn p q k := by
  unfold tnB
  rw [decide_eq_true_iff]
  exact ⟨fun ⟨h1, h2, h3, h4, h5, h6, h7, h8⟩ => ⟨h1, h2, h3, h4, h8, h7, h5, h6⟩, fun h => ⟨h.p1, h.p2, h.q1, h.q2, h.k1, h.k2, h.o, h.g⟩⟩
def turnB : D → Bool
  | .tup [.int p, .int q, .int k] => tnB p q k
  | _ => false
def pixB (d : D) : Bool := wtB 2 d
theorem whole_int {d : D} (h : wholeD d = true) : ∃ i, d = .int i := by
  cases d <;> first | exact ⟨_, rfl⟩ | cases h
theorem all_whole : ∀ {l : List D}, l.all wholeD = true → ∃ ns : List Int, l = ns.map D.int
  | [], _ => ⟨[], rfl⟩
  | d :: ds, h => by
    rw [List.all_cons, Bool.and_eq_true] at h
    obtain ⟨i, rfl⟩ := whole_int h.1
    obtain ⟨ns, rfl⟩ := all_whole h.2
    exact ⟨i :: ns, rfl⟩
theorem wt_ints {d : D} {n : Int} (h : wtB n d = true) : ∃ ns : List Int, d = .tup (ns.map D.int) ∧ (ns.length : Int) = n := by
  cases d with
  | tup l =>
    rw [wtB, Bool.and_eq_true] at h
    obtain ⟨ns, rfl⟩ := all_whole h.2
    exact ⟨ns, rfl, by have := of_decide_eq_true h.1; rwa [List.length_map] at this⟩
  | _ => cases h
theorem wt2 {d : D} (h : pixB d = true) : ∃ x y, d = .tup [.int x, .int y] := by
  obtain ⟨ns, rfl, e⟩ := wt_ints h
  match ns, e with
  | [x, y], _ => exact ⟨x, y, rfl⟩
  | [], e => cases e
  | [_], e => cases e
  | _ :: _ :: _ :: _, e => simp at e; omega
theorem wt3 {d : D} (h : wtB 3 d = true) : ∃ x y z, d = .tup [.int x, .int y, .int z] := by
  obtain ⟨ns, rfl, e⟩ := wt_ints h
  match ns, e with
  | [x, y, z], _ => exact ⟨x, y, z, rfl⟩
  | [], e => cases e
  | [_], e => cases e
  | [_, _], e => cases e
  | _ :: _ :: _ :: _ :: _, e => simp at e; omega
theorem turnB_no {d : D} (h : wtB 3 d = false) : turnB d = false := by
  unfold turnB
  split
  · cases h
  · rfl
theorem tn_turnB {p q k : Int} (h : Tn p q k) : turnB (.tup [.int p, .int q, .int k]) = true := tnB_iff.mpr h
theorem wt_map : ∀ (l : List D), (l.map fun d => D.bl (wholeD d)) = (l.map wholeD).map D.bl := fun l => by rw [List.map_map]; rfl
theorem all_id (l : List D) : (l.map wholeD).all id = l.all wholeD := by
  induction l with
  | nil => rfl
  | cons d ds ih => rw [List.map_cons, List.all_cons, List.all_cons, ih]; rfl
/-! ### contracts of the checks over any values -/
def con_wholeA (K : PySem.W.Frag) : Con := fun ds S Q => ∃ d, ds = [d] ∧ AnyV K d ∧ Q (.bl (wholeD d)) S
def con_wtA (K : PySem.W.Frag) : Con := fun ds S Q => ∃ d n, ds = [d, .int n] ∧ AnyT K d ∧ (∀ l, d = .tup l → l.length ≤ 1000) ∧ Q (.bl (wtB n d)) S
def con_pixA (K : PySem.W.Frag) : Con := fun ds S Q => ∃ d, ds = [d] ∧ AnyT K d ∧ (∀ l, d = .tup l → l.length ≤ 1000) ∧ Q (.bl (pixB d)) S
def con_turnA (K : PySem.W.Frag) : Con := fun ds S Q => ∃ d, ds = [d] ∧ AnyT K d ∧ (∀ l, d = .tup l → l.length ≤ 1000) ∧ Q (.bl (turnB d)) S
/-- any value that is handed to the program -/
structure Any (K : PySem.W.Frag) (d : D) : Prop where
  t : AnyT K d
  l : ∀ l, d = .tup l → l.length ≤ 1000
theorem Any.pt {K : PySem.W.Frag} {d : D} (h : ptD d = true) (k : ∀ l, d = .tup l → l.length ≤ 1000 := by intro l e; first | (cases e; decide) | cases e) : Any K d := ⟨any_pt h, k⟩
theorem Any.ext {K : PySem.W.Frag} {Q : Hp → V → Prop} (h : AnyV K (.ext Q)) : Any K (.ext Q) := ⟨any_ext h, fun _ e => nomatch e⟩
theorem Any.i3 {K : PySem.W.Frag} {p q k : Int} : Any K (.tup [.int p, .int q, .int k]) := .pt rfl (fun l e => by cases e; exact Nat.le_add_left 3 997)
theorem Any.i2 {K : PySem.W.Frag} {p q : Int} : Any K (.tup [.int p, .int q]) := .pt rfl (fun l e => by cases e; exact Nat.le_add_left 2 998)
def con_chkX (K : PySem.W.Frag) (b : D → Bool) (C : Addr) : ConX := fun ds S Q R => ∃ d, ds = [d] ∧ Any K d ∧ (b d = false → R ⟨.ref C, none⟩ S) ∧ (b d = true → Q .non S)
/-! ### errors told apart -/
/-! ### plain values, looked at by the kernel -/
mutual
def shQb : D → Bool
  | .int i => decide (i.natAbs < 2 ^ 1900)
  | .str x => decide ((reprText x).length ≤ 90000)
  | .tup l => shQbL l
  | .lst l => shQbL l
  | .non => true
  | .bl _ => true
  | .raw _ => false
  | .ext _ => false
  | .scr _ => false
def shQbL : List D → Bool
  | [] => true
  | d :: ds => shQb d && shQbL ds
end
mutual
theorem shQb_of : ∀ d : D, shQb d = true → shQ d
  | .int i, h => by simpa only [shQ] using of_decide_eq_true (show decide (i.natAbs < 2 ^ 1900) = true by simpa only [shQb] using h)
  | .str x, h => by simpa only [shQ] using of_decide_eq_true (show decide ((reprText x).length ≤ 90000) = true by simpa only [shQb] using h)
  | .tup l, h => by simpa only [shQ] using shQbL_of l (by simpa only [shQb] using h)
  | .lst l, h => by simpa only [shQ] using shQbL_of l (by simpa only [shQb] using h)
  | .non, _ => by simp only [shQ]
  | .bl _, _ => by simp only [shQ]
  | .raw _, h => by simp only [shQb] at h; cases h
  | .ext _, h => by simp only [shQb] at h; cases h
  | .scr _, h => by simp only [shQb] at h; cases h
theorem shQbL_of : ∀ l : List D, shQbL l = true → shQL l
  | [], _ => by simp only [shQL]
  | d :: ds, h => by
    simp only [shQbL, Bool.and_eq_true] at h
    rw [shQL]
    exact ⟨shQb_of d h.1, shQbL_of ds h.2⟩
end
/-- plain, shown in N signs at most, no long tuple -/
def plB (N : Nat) (d : D) : Bool := ptD d && shQb d && decide (wtS d ≤ N) && decide (dpD d ≤ 8) && (match d with | .tup l => decide (l.length ≤ 1000) | _ => true)
theorem plB_any {K : PySem.W.Frag} {N : Nat} {d : D} (h : plB N d = true) : Any K d := by
  unfold plB at h
  simp only [Bool.and_eq_true] at h
  refine .pt h.1.1.1.1 fun l e => ?_
  subst e
  exact of_decide_eq_true h.2
theorem plB_shw {P : Program} {w : World} {K : PySem.W.Frag} {N : Nat} {d : D} (h : plB N d = true) : Shw P w K d N := by
  unfold plB at h
  simp only [Bool.and_eq_true] at h
  exact shw_q (shQb_of d h.1.1.1.2) (of_decide_eq_true h.1.2) (of_decide_eq_true h.1.1.2)
theorem shw_i2 {P : Program} {w : World} {K : PySem.W.Frag} {a b : Int} (h1 : Bd 1800 a) (h2 : Bd 1800 b) : Shw P w K (.tup [.int a, .int b]) 4000 := by
  refine shw_q (by simp only [shQ, shQL, and_true]; exact ⟨shw h1 (by decide), shw h2 (by decide)⟩) (by simp only [dpD, dpL]; decide) (by simp only [wtS, wtL]; decide)
end Tp
namespace Tp
open PySem PySem.Spec PyProof.Rows L2 DL
/-! ### k06: what is told -/
/-! ### the eight answers -/
end Tp
namespace Tp
open PySem PySem.Spec PyProof.Rows L2 DL
/-! ### k18: what is told of losses -/
end Tp
namespace Tp
open PySem PySem.Spec PyProof.Rows L2 DL
/-! ### arguments that are checked one behind the other -/
/-- bounds of a pair -/
def PB (B : Nat) (d : D) : Prop := ∀ x y : Int, d = .tup [.int x, .int y] → Bd B x ∧ Bd B y
def i2BB (B : Nat) : D → Bool
  | .tup [.int a, .int b] => decide (a.natAbs < 2 ^ B ∧ b.natAbs < 2 ^ B)
  | _ => true
theorem pB_of {B : Nat} {d : D} (h : i2BB B d = true) : PB B d := fun x y e => by
  subst e
  exact of_decide_eq_true (p := x.natAbs < 2 ^ B ∧ y.natAbs < 2 ^ B) h
theorem PB.up {A B : Nat} {d : D} (h : PB A d) (k : A ≤ B) : PB B d := fun x y e => ⟨(h x y e).1.up k, (h x y e).2.up k⟩
theorem pB_2 {B : Nat} {x y : Int} (bx : Bd B x) (by' : Bd B y) : PB B (.tup [.int x, .int y]) := fun _ _ e => by cases e; exact ⟨bx, by'⟩
/-! ### rests, of any value -/
def restB (p q : Int) : D → Bool
  | .tup [.int x, .int y] => isRb p q (x, y)
  | _ => false
theorem restB_no {p q : Int} {d : D} (h : pixB d = false) : restB p q d = false := by
  unfold restB
  split
  · cases h
  · rfl
def con_isrestA (K : PySem.W.Frag) : Con := fun ds S Q => ∃ (p q k : Int) (d : D), ds = [.tup [.int p, .int q, .int k], d] ∧ Tn p q k ∧ Any K d ∧ PB 1200 d ∧ Q (.bl (restB p q d)) S
/-! ### k11: what is told -/
end Tp
namespace Tp
open PySem PySem.Spec PyProof.Rows L2 DL
/-! ### errors with a field, told -/
def shI (i : Int) : Str := (toPy (.int i)).shown
/-! ### one turn checked first -/
/-! ### k28: what is told of misses -/
end Tp
namespace Tp
open PySem PySem.Spec PyProof.Rows L2 DL
/-! ### k24: what is told of losses and sources -/
theorem len_2 {l : List D} (h : ((l.length : Nat) : Int) = 2) : ∃ a b, l = [a, b] := by
  match l, h with
  | [a, b], _ => exact ⟨a, b, rfl⟩
  | [], h => exact absurd h (by decide)
  | [a], h => exact absurd h (by simp only [List.length_cons, List.length_nil]; omega)
  | a :: b :: c :: l, h => exact absurd h (by simp only [List.length_cons]; omega)
end Tp
namespace Tp
open PySem PySem.Spec PyProof.Rows L2 DL
/-! ### k50: scales, of any value -/
section
variable {P : Program} {w : World} {K : PySem.W.Frag}
end
theorem ofString_lt (t : String) : ∀ c ∈ (Str.ofString t).cps.toList, c < 16 ^ 8 := fun c hc => by
  rw [PyProof.Rows.signs_ofString] at hc
  obtain ⟨ch, _, e⟩ := List.mem_map.mp hc
  rw [← e]
  exact Nat.lt_of_lt_of_le ch.val.toNat_lt (by decide)
theorem shI_len {i : Int} (h : i.natAbs < 2 ^ 1900) : (reprText (shI i)).length ≤ 19300 := by
  have h1 : (shI i).length ≤ 1921 := (digits_le h).1
  have h2 : (reprText (shI i)).length ≤ 10 * (shI i).length + 2 := PySem.StrLaws.reprText_len (shI i) (ofString_lt (toString i))
  omega
theorem bt_str : bootBuiltins "str" = some (.type "str") := by decide +kernel

end Tp
namespace Tp
open PySem PySem.Spec PyProof.Rows L2 DL
/-! ### k55: six-cornered turns, of any value -/
/-! strips, and what lies within -/
/-! contracts -/
/-! what is told -/
section
variable {P : Program} {w : World} {K : PySem.W.Frag}
end
end Tp
namespace Tp
open PySem PySem.Spec PyProof.Rows L2 DL
/-! ### k01: any thing, recognized -/
def flB : D → Bool
  | .tup l => flatOkL 8 l
  | _ => true
structure ThI (P : Program) (w : World) (K : PySem.W.Frag) (d : D) : Prop where
  a : Any K d
  f : flB d = true
  s : Shw P w K d 40000
section
variable {P : Program} {w : World} {K : PySem.W.Frag}
theorem thI_pl {d : D} (h : (plB 40000 d && flB d) = true) : ThI P w K d := by
  rw [Bool.and_eq_true] at h
  exact ⟨plB_any h.1, h.2, plB_shw h.1⟩
theorem thI_dic : ThI P w K (dicD []) := ⟨.ext any_dic, rfl, shw_dic0 (by decide)⟩
theorem thI_2 {a b : Int} (h1 : Bd 1000 a) (h2 : Bd 1000 b) : ThI P w K (.tup [.int a, .int b]) := ⟨.i2, rfl, shw_up (shw_i2 (h1.up (by decide)) (h2.up (by decide))) (by decide)⟩
end
theorem flatL_filter {n : Nat} (f : D → Bool) : ∀ l : List D, flatOkL n l = true → flatOkL n (l.filter f) = true
  | [], _ => rfl
  | d :: ds, h => by
    rw [flatOkL, Bool.and_eq_true] at h
    rw [List.filter_cons]
    split
    · rw [flatOkL, Bool.and_eq_true]
      exact ⟨h.1, flatL_filter f ds h.2⟩
    · exact flatL_filter f ds h.2
theorem filter_empty (f : D → Bool) : ∀ l : List D, (l.filter f).isEmpty = l.all fun d => !f d
  | [] => rfl
  | d :: ds => by
    rw [List.filter_cons, List.all_cons]
    cases h : f d with
    | true => rfl
    | false => simpa using filter_empty f ds
theorem whole_eq (l : List D) : (l.filter fun d => !wholeD d).isEmpty = l.all wholeD := by
  rw [filter_empty]
  congr 1
  funext d
  simp
theorem flt_step2 {α : Type} (f : α → Bool) {l : List α} {k : Nat} {v : α} (h : l[k]? = some v) : (l.take (k + 1)).filter f = (l.take k).filter f ++ if f v = true then [v] else [] := by
  rw [List.take_add_one, h, List.filter_append]
  congr 1
  simp only [Option.toList_some, List.filter_cons, List.filter_nil]
end Tp
namespace Tp
open PySem PySem.Spec PyProof.Rows L2 DL
/-! ### k07: rests, told of any thing -/
structure Th7 (P : Program) (w : World) (K : PySem.W.Frag) (d : D) : Prop where
  t : ThI P w K d
  i : PB 700 d
section
variable {P : Program} {w : World} {K : PySem.W.Frag}
theorem th7_pl {d : D} (h : (plB 40000 d && flB d && i2BB 700 d) = true) : Th7 P w K d := by
  rw [Bool.and_eq_true] at h
  exact ⟨thI_pl h.1, pB_of h.2⟩
theorem th7_dic : Th7 P w K (dicD []) := ⟨thI_dic, fun _ _ e => nomatch e⟩
theorem th7_2 {a b : Int} (h1 : Bd 700 a) (h2 : Bd 700 b) : Th7 P w K (.tup [.int a, .int b]) := ⟨thI_2 (h1.up (by decide)) (h2.up (by decide)), pB_2 h1 h2⟩
theorem th7_q {d : D} (h0 : ptD d = true) (h1 : ∀ l, d = .tup l → l.length ≤ 1000) (h2 : flB d = true) (h6 : ∀ x y : Int, d ≠ .tup [.int x, .int y]) (h3 : shQ d) (h4 : dpD d ≤ 8) (h5 : wtS d ≤ 40000) : Th7 P w K d := ⟨⟨.pt h0 h1, h2, shw_q h3 h4 h5⟩, fun x y e => (h6 x y e).elim⟩
end
theorem shI_ok {i : Int} : PyData.strOk (shI i) = true := by
  show (shI i).cps.all (fun x => decide (x < 1114112)) = true
  rw [← Array.all_toList]
  refine List.all_eq_true.mpr fun c hc => decide_eq_true ?_
  rw [show shI i = Str.ofString (toString i) from rfl, PyProof.Rows.signs_ofString] at hc
  obtain ⟨ch, _, e⟩ := List.mem_map.mp hc
  rw [← e]
  have h := ch.valid
  unfold UInt32.isValidChar Nat.isValidChar at h
  show ch.val.toNat < 1114112
  omega
def con_ins7 : Con := fun ds S Q => ∃ p q k m n : Int, ds = [.tup [.int p, .int q, .int k], .tup [.int m, .int n]] ∧ Tn p q k ∧ (Bd 700 m ∧ Bd 700 n) ∧ Q (.bl (isRb p q (m, n))) S
def con_th7 (P : Program) (w : World) (K : PySem.W.Frag) : Con := fun ds S Q => ∃ (pp : Addr) (x y : Int) (l : List D) (m : Nat), ds = [.raw (.ref pp), .tup [.int x, .int y]] ∧ getS pp S = some l ∧ Src m l ∧ m ≤ 900000 ∧ (Bd 600 x ∧ Bd 600 y) ∧ ∀ ts l', (∀ d ∈ ts, Th7 P w K d) → ts.length ≤ 60 → Src (m + 1) l' → Q (.lst ts) (setS pp l' S)
def con_r07 : Con := fun ds S Q => ∃ (pp : Addr) (p q k x y : Int) (l : List D) (m : Nat), ds = [.raw (.ref pp), .tup [.int p, .int q, .int k], .tup [.int x, .int y]] ∧ getS pp S = some l ∧ Src m l ∧ m ≤ 900000 ∧ Tn p q k ∧ (Bd 200 x ∧ Bd 200 y) ∧ ∀ l', Src (m + 1) l' → Q (.bl true) (setS pp l' S)
theorem shw_b2 {P : Program} {w : World} {K : PySem.W.Frag} (a b : Bool) : Shw P w K (.lst [.bl a, .bl b]) 100 := shw_q (by simp only [shQ, shQL, and_true]) (Nat.le_of_ble_eq_true rfl) (Nat.le_of_ble_eq_true rfl)
theorem shw_p2 {P : Program} {w : World} {K : PySem.W.Frag} {a b c d : Int} (h1 : Bd 1800 a) (h2 : Bd 1800 b) (h3 : Bd 1800 c) (h4 : Bd 1800 d) : Shw P w K (.lst [.tup [.int a, .int b], .tup [.int c, .int d]]) 20000 := by
  refine shw_q ?_ (Nat.le_of_ble_eq_true rfl) (by simp only [wtS, wtL]; omega)
  simp only [shQ, shQL, and_true]
  exact ⟨⟨h1.up (by decide), h2.up (by decide)⟩, h3.up (by decide), h4.up (by decide)⟩
theorem isRb_whole {p q : Int} {l : List D} (h : (l.length : Int) = 2) (hw : l.all wholeD = false) : restB p q (.tup l) = false := by
  obtain ⟨a, b, rfl⟩ := len_2 h
  unfold restB
  split
  · rename_i e
    cases e
    cases hw
  · rfl
theorem pair_whole {l : List D} (h : (l.length : Int) = 2) (hw : l.all wholeD = true) : ∃ x y : Int, l = [.int x, .int y] := by
  obtain ⟨x, y, e⟩ := wt2 (d := .tup l) (by show (decide ((l.length : Int) = 2) && l.all wholeD) = true; rw [decide_eq_true h, hw]; rfl)
  exact ⟨x, y, by cases e; rfl⟩
theorem reX_1 : reX 4 1 4 0 = -2 ∧ reY 4 1 4 0 = 0 ∧ reX 4 1 5 0 = 2 ∧ reY 4 1 5 0 = 1 ∧ reX 1 0 7 (-5) = 0 ∧ reY 1 0 7 (-5) = 0 := by decide +kernel
theorem restB_len {p q : Int} {l : List D} (h : ¬ (l.length : Int) = 2) : restB p q (.tup l) = false := by
  unfold restB
  split
  · rename_i e
    cases e
    exact absurd rfl h
  · rfl

end Tp
namespace Tp
open PySem PySem.Spec PyProof.Rows L2 DL
def top (i : Nat) : Stmt := PySem.Challenge.pw_turnedpixels_k07_rests_by_own_reckoning.main.body.getD i (.Pass ⟨0, 0, 0, 0⟩)
local macro_rules | `(tactic| walk_at "bd") => `(tactic| first
  | assumption
  | (with_reducible refine' Bd.exX _ (by assumption) (by assumption) ?a1 ?a2; (case a1 => walk_at "bd"); (case a2 => walk_at "bd"))
  | (with_reducible refine' Bd.exY _ (by assumption) (by assumption) ?a1 ?a2; (case a1 => walk_at "bd"); (case a2 => walk_at "bd"))
  | (with_reducible refine' Bd.imX _ (by assumption) (by assumption) ?a1 ?a2; (case a1 => walk_at "bd"); (case a2 => walk_at "bd"))
  | (with_reducible refine' Bd.imY _ (by assumption) (by assumption) ?a1 ?a2; (case a1 => walk_at "bd"); (case a2 => walk_at "bd"))
  | (with_reducible refine' Bd.reX (by assumption) (by assumption) ?a1 ?a2; (case a1 => walk_at "bd"); (case a2 => walk_at "bd"))
  | (with_reducible refine' Bd.reY (by assumption) (by assumption) ?a1 ?a2; (case a1 => walk_at "bd"); (case a2 => walk_at "bd"))
  | (with_reducible refine' Bd.rtX _ ?a1 ?a2; (case a1 => walk_at "bd"); (case a2 => walk_at "bd"))
  | (with_reducible refine' Bd.rtY _ ?a1 ?a2; (case a1 => walk_at "bd"); (case a2 => walk_at "bd"))
  | (with_reducible refine' Bd.nrr ?a1 ?a2; (case a1 => walk_at "bd"); (case a2 => walk_at "bd"))
  | with_reducible exact Bd.lgA _ (by assumption) (by assumption)
  | with_reducible exact Bd.lgB _ (by assumption) (by assumption)
  | with_reducible exact Bd.cc (by assumption) (by assumption)
  | with_reducible exact bd_cc (by unfold Bd; decide)
  | with_reducible exact Bd.lit (OfNat.ofNat _)
  | (with_reducible refine' Bd.isq ?a1; (case a1 => walk_at "bd"))
  | with_reducible exact Bd.lit ((OfNat.ofNat _) ^ _)
  | (with_reducible refine' Bd.abs ?a1; (case a1 => walk_at "bd"))
  | (with_reducible refine' Bd.neg ?a1; (case a1 => walk_at "bd"))
  | (with_reducible refine' Bd.mul ?a1 ?a2; (case a1 => walk_at "bd"); (case a2 => walk_at "bd"))
  | (with_reducible refine' Bd.add ?a1 ?a2; (case a1 => walk_at "bd"); (case a2 => walk_at "bd"))
  | (with_reducible refine' Bd.sub ?a1 ?a2; (case a1 => walk_at "bd"); (case a2 => walk_at "bd"))
  | (with_reducible refine' Bd.pow ?a1 _; (case a1 => walk_at "bd"))
  | (with_reducible refine' Bd.ite ?a1 ?a2; (case a1 => walk_at "bd"); (case a2 => walk_at "bd"))
  | (with_reducible refine' Bd.of_lt ?z1 ?z2 ?z3; (case z1 => assumption); (case z2 => assumption); (case z3 => walk_at "bd"))
  | (with_reducible refine' Bd.of_le ?z1 ?z2 ?z3; (case z1 => assumption); (case z2 => assumption); (case z3 => walk_at "bd"))
  | (with_reducible refine' Bd.div ?a1; (case a1 => walk_at "bd"))
  | (with_reducible refine' Bd.mod ?a1 ?a2; (case a1 => walk_at "bd"); (case a2 => walk_at "pos")))
local macro_rules | `(tactic| walk_at "bdu") => `(tactic| (refine' Bd.up ?u1 ?u2; (case u1 => walk_at "bd"); (case u2 => decide +kernel)))
local macro_rules | `(tactic| walk_at "tn") => `(tactic| first | assumption | exact tn_bk2 (by assumption) | exact Tn.zero (by assumption) | exact tn_one (by assumption) (by assumption) | exact ⟨by decide, by decide, by decide, by decide, by decide, by decide, by decide, by decide⟩)
local macro_rules | `(tactic| walk_at "m") => `(tactic| first | assumption | omega)
local macro_rules | `(tactic| walk_at "isi") => `(tactic| first | refine drc_isi rfl k_ii ?_ | refine drc_isi rfl k_ib ?_ | refine drc_isi rfl k_tt ?_ | refine drc_isi rfl k_bi ?_ | refine drc_isi rfl k_bb ?_ | refine drc_isi rfl k_it ?_ | refine drc_isi rfl k_st ?_ | refine drc_isi rfl k_nt ?_ | refine drc_isi rfl k_lt ?_ | refine drc_isi rfl k_bt ?_ | refine drc_isi rfl k_si ?_ | refine drc_isi rfl k_ni ?_ | refine drc_isi rfl k_ti ?_ | refine drc_isi rfl k_li ?_ | refine drc_isi rfl k_ll ?_)
local macro_rules | `(tactic| walk_at "no") => `(tactic| exact absurd hc (by simp))
local macro_rules | `(tactic| walk_at "cmw") => `(tactic| (refine' cmw ?h1 ?h2 ?h3; (case h1 => walk_at "bd"); (case h2 => walk_at "bd"); (case h3 => decide +kernel)))
local macro_rules | `(tactic| walk_at "cdw") => `(tactic| (refine' cdw ?h1 ?h2 ?h3; (case h1 => walk_at "bd"); (case h2 => walk_at "pos"); (case h3 => decide +kernel)))
local macro_rules | `(tactic| walk_at "cpw") => `(tactic| (refine' cpw ?h1 ?h2 ?h3; (case h1 => walk_at "bd"); (case h2 => exact ⟨by decide, by decide⟩); (case h3 => decide +kernel)))
local macro_rules | `(tactic| walk_at "pos") => `(tactic| first | assumption | exact of_decide_eq_true (by assumption) | exact cc_pos (by assumption) | exact Int.mul_pos (cc_pos (by assumption)) (cc_pos (by assumption)) | omega | (split <;> omega) | decide +kernel)
local macro_rules | `(tactic| walk_at "len") => `(tactic| first | decide | omega | (simp; done) | (simp; omega) | (simp only [List.length_map, shC_len]; decide))
local macro_rules | `(tactic| walk_at "len3") => `(tactic| first | decide | exact ⟨by simp, by simp, by simp⟩)
local macro_rules | `(tactic| walk_at "slice") => `(tactic| first | refine sl_t31 ?_ | refine sl_t2 ?_ | refine sl_l ?_)
local macro_rules | `(tactic| walk_at "ix") => `(tactic| first | refine ix_t ?_ | refine ix_t ?_ (by assumption) | refine ix_l ?_ | refine ix_o getS_hd ?_ | (refine ix_o (by walk_at "gets") ?_))
local macro_rules | `(tactic| walk_at "gets") => `(tactic| first | exact getS_hd | assumption | (rw [getS_tl (by assumption)]; first | exact getS_hd | assumption | exact getS_setS_same (by assumption)) | exact getS_setS_same (by assumption))
local macro_rules | `(tactic| walk_at "sets") => `(tactic| first | rw [setS_hd] | rw [setS_setS] | rw [setS_tl (by assumption)] | skip)
local macro_rules | `(tactic| walk_at "eq") => `(tactic| first | refine eq_int ?_ | refine eq_tup ?_ | refine eq_lst ?_ | refine eq_scr ?_ | refine eq_str ?_)
local macro_rules | `(tactic| walk_at "flat") => `(tactic| first | rfl | decide)
local macro_rules | `(tactic| walk_at "sho") => `(tactic| (simp only [rat, shoP, shoL, List.cons_append, List.nil_append, true_and, and_true] <;> walk_at "shos"))
local macro_rules | `(tactic| walk_at "shos") => `(tactic| first | trivial | (refine ⟨?_, ?_⟩ <;> walk_at "shos") | (refine' shw ?h1 ?h2; (case h1 => walk_at "bd"); (case h2 => decide +kernel)))
local macro_rules | `(tactic| walk_at "big") => `(tactic| (simp only [rat, bigD, bigL, List.cons_append, List.nil_append]; decide))
local macro_rules | `(tactic| walk_at "obj") => `(tactic| first | exact .inl ⟨_, rfl⟩ | exact .inr ⟨_, rfl⟩)
local macro_rules | `(tactic| walk_at "lenP") => `(tactic| first | refine (show lenP (.tup _) _ _ from ?_) | refine (show lenP (.lst _) _ _ from ?_) | refine (show lenP (.scr _) _ _ from ?_) | skip)
local macro_rules | `(tactic| walk_at "rng") => `(tactic| first | decide | omega)
local macro_rules | `(tactic| walk_at "ord") => `(tactic| skip)
local macro_rules | `(tactic| walk_at "wk") => `(tactic| (repeat (first | refine ⟨rfl, ?_⟩ | exact trivial)))
local macro_rules | `(tactic| walk_at "spx") => `(tactic| first | exact ⟨by assumption, by assumption⟩ | (refine ⟨?_, ?_⟩ <;> first | omega | (split <;> omega)))
local macro_rules | `(tactic| walk_at "at") => `(tactic| first | rfl | assumption)
local macro_rules | `(tactic| walk_at "isr") => `(tactic| first | assumption | exact re_is (by assumption) _ _ | exact ⟨⟨by decide, by decide⟩, by decide, by decide⟩)
local macro_rules | `(tactic| walk_at "isq") => `(tactic| first | exact isq_ok (root_p _ _) (sq_bd (by assumption)) | exact isq_ok (root_q _ _) (sq_bd (by assumption)) | exact ⟨by omega, (show Bd 3000 _ by walk_at "bdu")⟩)
local macro_rules | `(tactic| walk_at "n0") => `(tactic| first | assumption | omega | decide)
local macro_rules | `(tactic| walk_at "cfl") => `(tactic| first | exact flat_ints _ | exact flat_bls _ | rfl)
local macro_rules | `(tactic| walk_at "cpl") => `(tactic| first | exact plain_ints _ | exact plain_bls _ | rfl)
local macro_rules | `(tactic| walk_at "zl") => `(tactic| first | (rw [List.length_map, List.length_map]; assumption) | (simp only [List.length_map, List.length_range]; done) | (simp; done))
local macro_rules | `(tactic| walk_at "sets2") => `(tactic| first | rw [setS_hd] | (rw [setS_tl (by assumption)]; first | rw [setS_hd] | rw [setS_setS] | skip) | rw [setS_setS] | skip)
local macro_rules | `(tactic| walk_at "sc") => `(tactic| first | assumption | exact sc_great ⟨by assumption, by assumption⟩ ⟨by assumption, by assumption⟩ ⟨by assumption, by assumption⟩ | exact ⟨by decide, by decide, by decide, by decide, by decide, by decide, by decide⟩ | exact ⟨by decide +kernel, by decide +kernel, by decide +kernel, by decide +kernel, by decide +kernel, by decide +kernel, by decide +kernel⟩)
local macro_rules | `(tactic| walk_at "gi") => `(tactic| first | exact ⟨by assumption, by assumption⟩ | exact ⟨by omega, by omega⟩ | (refine ⟨?_, ?_⟩ <;> (try dsimp only) <;> split <;> omega) | (dsimp only; omega) | (refine ⟨?_, ?_⟩ <;> dsimp only <;> omega))
local macro_rules | `(tactic| walk_at "kw1") => `(tactic| first | assumption | exact ⟨by assumption, by assumption⟩)
local macro_rules | `(tactic| walk_at "kw") => `(tactic| first | assumption)
local macro_rules | `(tactic| walk_at "kwt") => `(tactic| first | assumption | exact kw_tn (by assumption))
local macro_rules | `(tactic| walk_at "kwl") => `(tactic| first | assumption | omega | (simp only [List.length_map, List.length_reverse]; omega))
local macro_rules | `(tactic| walk_at "rd") => `(tactic| first | (refine ⟨?_, ?_⟩ <;> first | assumption | omega | decide +kernel))
local macro_rules | `(tactic| walk_at "sx") => `(tactic| first | assumption | exact sx_bk (by assumption) | exact sx_rot (by assumption) _ | exact sx_kin (by assumption) _ _ ⟨by omega, by omega⟩ | exact ⟨by decide, by decide, by decide, by decide, by decide, by decide, by decide, by decide, by decide, by decide⟩)
local macro_rules | `(tactic| walk_at "k6") => `(tactic| first | exact ⟨by assumption, by assumption⟩ | exact ⟨by omega, by omega⟩)
section
variable {P : Program} {w : World} {K : PySem.W.Frag} {mg : Str → Option Value} {base : Heap}
abbrev s_is_whole : Stmt := top 6
theorem sc_is_whole : FnScope ["value"] ["value"] (defScope s_is_whole) := ⟨rfl, rfl, rfl, by decide +kernel, rfl, by decide +kernel, by decide +kernel⟩
set_option maxHeartbeats 40000000 in
theorem ok_is_whole {f : Addr} {fd : FuncData} (F : Fun K "is_whole" "is_whole" s_is_whole f fd) (n_bool : mg "bool" = none) (n_int : mg "int" = none) (n_isinstance : mg "isinstance" = none) : GOk P w K mg base 1 f fd ["value"] (spD K (con_wholeA K)) := by
  refine gok_ds F sc_is_whole (m := 0) rfl (fun ds S0 Q h => ?_) fun cdv A fr s0 H0 E0' gd hr ds S0 Q h => ?_
  · obtain ⟨_, rfl, _⟩ := h
    rfl
  obtain ⟨d, rfl, ⟨t9, hty, hi9, hb9, htu, hls, hst⟩, q⟩ := h
  refine ds_nrm ?_ (by set_option simprocs false in dsimp only [List.map, List.replicate, List.cons_append, List.nil_append])
  refine ds_cons ?_
  refine ds_ret ?_
  refine de_and ?_
  refine de_B call_isi_D n_isinstance bt_isinstance ?_
  refine da_cons ?_
  refine de_name 0 ?_
  refine da_cons ?_
  refine de_ty n_int bt_int ?_
  refine da_nil ?_
  refine drc_isiD hty hi9 ?_
  refine ⟨_, rfl, fun hb => ?_, fun hb => ?_⟩
  · rw [show wholeD d = false by cases d <;> first | rfl | cases hb] at q; exact q
  refine de_one ?_
  refine de_not ?_
  refine de_B call_isi_D n_isinstance bt_isinstance ?_
  refine da_cons ?_
  refine de_name 0 ?_
  refine da_cons ?_
  refine de_ty n_bool bt_bool ?_
  refine da_nil ?_
  refine drc_isiD hty hb9 ?_
  refine ⟨_, rfl, ?_⟩
  rw [show (!isBlD d) = wholeD d by cases d <;> first | rfl | cases hb]
  exact q
abbrev s_is_whole_tuple : Stmt := top 7
theorem sc_is_whole_tuple : FnScope ["value", "size", "part"] ["value", "size"] (defScope s_is_whole_tuple) := ⟨rfl, rfl, rfl, by decide +kernel, rfl, by decide +kernel, by decide +kernel⟩
set_option maxHeartbeats 40000000 in
theorem ok_is_whole_tuple {f : Addr} {fd : FuncData} (F : Fun K "is_whole_tuple" "is_whole_tuple" s_is_whole_tuple f fd) (c_is_whole : Cal P w K mg base 1 "is_whole" ["value"] [] (con_wholeA K)) (n_all : mg "all" = none) (n_isinstance : mg "isinstance" = none) (n_len : mg "len" = none) (n_tuple : mg "tuple" = none) : GOk P w K mg base 2 f fd ["value", "size"] (spD K (con_wtA K)) := by
  refine gok_ds F sc_is_whole_tuple (m := 1) rfl (fun ds S0 Q h => ?_) fun cdv A fr s0 H0 E0' gd hr ds S0 Q h => ?_
  · obtain ⟨_, _, rfl, _⟩ := h
    rfl
  obtain ⟨d, n, rfl, hA, hl9, q⟩ := h
  obtain ⟨t9, hty, hi9, hb9, htu, hls, hst⟩ := hA.v
  refine ds_nrm ?_ (by set_option simprocs false in dsimp only [List.map, List.replicate, List.cons_append, List.nil_append])
  refine ds_cons ?_
  refine ds_ret ?_
  refine de_and ?_
  refine de_B call_isi_D n_isinstance bt_isinstance ?_
  refine da_cons ?_
  refine de_name 0 ?_
  refine da_cons ?_
  refine de_ty n_tuple bt_tuple ?_
  refine da_nil ?_
  refine drc_isiD hty htu ?_
  refine ⟨_, rfl, fun hb => ?_, fun hb => ?_⟩
  · rw [show wtB n d = false by cases d <;> first | rfl | cases hb] at q; exact q
  obtain ⟨l9, rfl⟩ : ∃ l, d = .tup l := by cases d <;> first | exact ⟨_, rfl⟩ | cases hb
  refine de_and ?_
  refine de_eq (hr.units) ?_
  refine de_B call_len_seq n_len bt_len ?_
  refine da_cons ?_
  refine de_name 0 ?_
  refine da_nil ?_
  refine drc_len ?_
  walk_at "lenP"
  refine de_name 1 ?_
  refine eq_int ?_
  refine ⟨_, rfl, fun hb => ?_, fun hb => ?_⟩
  · rw [show wtB n (.tup l9) = false by rw [wtB, hb]; rfl] at q; exact q
  refine de_one ?_
  refine de_B (cr_all rfl) n_all bt_all ?_
  refine da_cons ?_
  refine de_lc 2 rfl sc_is_whole_tuple.nd (blkOk_by (N := ["value", "size", "part"]) (sc := defScope s_is_whole_tuple) (by decide +kernel)) ?_ (fun _ _ _ _ _ => pg_name sc_is_whole_tuple.nd rfl (Or.inl rfl))
  refine di_tup ?_
  refine de_name 0 ?_
  refine ⟨_, rfl, ?_⟩
  refine ⟨fun k acc S' => S' = S0 ∧ acc = (l9.map (fun z => D.bl (wholeD z))).take k, ⟨rfl, rfl⟩, fun k d9 acc S' p hk hP hp hl s H C cl fp => ?_, by have := hl9 l9 rfl; omega, fun acc S' hl hP => ?_⟩
  · obtain ⟨rfl, rfl⟩ := hP
    refine de_call c_is_whole gd (hr.mono (by decide)) ?_
    refine da_cons ?_
    refine de_name 2 ?_
    refine da_nil ?_
    refine ⟨_, rfl, hA.p _ rfl _ (List.mem_of_getElem? hk), ?_⟩
    exact ⟨_, rfl, rfl, by rw [take_step (fun z => D.bl (wholeD z)) hk]⟩
  obtain ⟨rfl, rfl⟩ := hP
  rw [List.take_of_length_le (by rw [List.length_map]; exact Nat.le_refl _), wt_map]
  refine da_nil ?_
  refine drc_all ?_
  rw [all_id]
  have q9 := q
  rw [wtB, hb, Bool.true_and] at q9
  exact q9
abbrev s_is_pixel : Stmt := top 12
theorem sc_is_pixel : FnScope ["value"] ["value"] (defScope s_is_pixel) := ⟨rfl, rfl, rfl, by decide +kernel, rfl, by decide +kernel, by decide +kernel⟩
set_option maxHeartbeats 40000000 in
theorem ok_is_pixel {f : Addr} {fd : FuncData} (F : Fun K "is_pixel" "is_pixel" s_is_pixel f fd) (c_is_whole_tuple : Cal P w K mg base 2 "is_whole_tuple" ["value", "size"] [] (con_wtA K)) : GOk P w K mg base 3 f fd ["value"] (spD K (con_pixA K)) := by
  refine gok_ds F sc_is_pixel (m := 0) rfl (fun ds S0 Q h => ?_) fun cdv A fr s0 H0 E0' gd hr ds S0 Q h => ?_
  · obtain ⟨_, rfl, _⟩ := h
    rfl
  obtain ⟨d, rfl, hA, hl9, q⟩ := h
  refine ds_nrm ?_ (by set_option simprocs false in dsimp only [List.map, List.replicate, List.cons_append, List.nil_append])
  refine ds_cons ?_
  refine ds_ret ?_
  refine de_call c_is_whole_tuple gd (hr.mono (by decide)) ?_
  refine da_cons ?_
  refine de_name 0 ?_
  refine da_cons ?_
  refine de_int ?_
  refine da_nil ?_
  refine ⟨_, _, rfl, hA, hl9, ?_⟩
  exact q
abbrev s_is_turn : Stmt := top 13
theorem sc_is_turn : FnScope ["value", "p", "q", "quarters"] ["value"] (defScope s_is_turn) := ⟨rfl, rfl, rfl, by decide +kernel, rfl, by decide +kernel, by decide +kernel⟩
set_option maxHeartbeats 40000000 in
theorem ok_is_turn {f : Addr} {fd : FuncData} (F : Fun K "is_turn" "is_turn" s_is_turn f fd) (b_gcd : mg "gcd" = some (.builtin "math.gcd")) (c_is_whole_tuple : Cal P w K mg base 2 "is_whole_tuple" ["value", "size"] [] (con_wtA K)) (g_GREATEST_P : ∃ u, mg "GREATEST_P" = some (.int (1000000000000000) u)) (n_abs : mg "abs" = none) : GOk P w K mg base 3 f fd ["value"] (spD K (con_turnA K)) := by
  refine gok_ds F sc_is_turn (m := 3) rfl (fun ds S0 Q h => ?_) fun cdv A fr s0 H0 E0' gd hr ds S0 Q h => ?_
  · obtain ⟨_, rfl, _⟩ := h
    rfl
  obtain ⟨d, rfl, hA, hl9, q⟩ := h
  obtain ⟨u0, gP⟩ := g_GREATEST_P
  refine ds_nrm ?_ (by set_option simprocs false in dsimp only [List.map, List.replicate, List.cons_append, List.nil_append])
  refine ds_cons ?_
  refine ds_if ?_
  refine dt_not ?_
  refine dt_val (h := ?_)
  refine de_call c_is_whole_tuple gd (hr.mono (by decide)) ?_
  refine da_cons ?_
  refine de_name 0 ?_
  refine da_cons ?_
  refine de_int ?_
  refine da_nil ?_
  refine ⟨_, _, rfl, hA, hl9, ?_⟩
  refine ⟨_, rfl, ?_⟩
  refine ⟨fun ht => ?_, fun ht => ?_⟩
  · rw [turnB_no (by simpa using ht)] at q
    refine ds_cons ?_
    refine ds_ret ?_
    refine de_bl ?_
    exact q
  obtain ⟨p, q', k, rfl⟩ := wt3 (d := d) (by simpa using ht)
  refine ds_nil ?_
  refine ds_cons ?_
  refine ds_asg (h := ?_)
  refine de_name 0 ?_
  first | refine dg_tup rfl rfl ?_ | refine dg_tupL rfl rfl ?_ (fun h => pg_lst rfl h)
  refine dgs_cons (h := ?_)
  refine dg_name 1 ?_ sc_is_turn.nd
  refine dgs_cons (h := ?_)
  refine dg_name 2 ?_ sc_is_turn.nd
  refine dgs_cons (h := ?_)
  refine dg_name 3 ?_ sc_is_turn.nd
  refine dgs_nil ?_
  refine ds_cons ?_
  refine ds_if ?_
  refine DT.mono (Q := fun b' S' => S0 = S' ∧ (b' = true → turnB (.tup [.int p, .int q', .int k]) = false) ∧ (b' = false → 1 ≤ p ∧ p ≤ 1000000000000000 ∧ -p < q' ∧ q' < p ∧ 0 ≤ k ∧ k ≤ 3)) ?_ ?_
  · refine dt_w ?_
    refine dw_or ?_
    refine dt_lt ?_
    refine de_name 1 ?_
    refine de_int ?_
    refine ⟨_, _, rfl, rfl, ?_⟩
    refine ⟨fun hb => ?_, fun hc1 => ?_⟩
    · exact ⟨rfl, fun _ => by have z := of_decide_eq_true hb; unfold turnB tnB; exact decide_eq_false (by (try split at z) <;> omega), fun z => nomatch z⟩
    refine dw_or ?_
    refine dt_gt ?_
    refine de_name 1 ?_
    refine de_globI gP ?_
    refine ⟨_, _, rfl, rfl, ?_⟩
    refine ⟨fun hb => ?_, fun hc2 => ?_⟩
    · exact ⟨rfl, fun _ => by have z := of_decide_eq_true hb; unfold turnB tnB; exact decide_eq_false (by (try split at z) <;> omega), fun z => nomatch z⟩
    refine dw_or ?_
    refine dt_ge ?_
    refine de_B call_abs n_abs bt_abs ?_
    refine da_cons ?_
    refine de_name 2 ?_
    refine da_nil ?_
    refine drc_abs ?_
    refine de_name 1 ?_
    refine ⟨_, _, rfl, rfl, ?_⟩
    refine ⟨fun hb => ?_, fun hc3 => ?_⟩
    · exact ⟨rfl, fun _ => by have z := of_decide_eq_true hb; unfold turnB tnB; exact decide_eq_false (by (try split at z) <;> omega), fun z => nomatch z⟩
    refine dw_or ?_
    refine dt_lt ?_
    refine de_name 3 ?_
    refine de_int ?_
    refine ⟨_, _, rfl, rfl, ?_⟩
    refine ⟨fun hb => ?_, fun hc4 => ?_⟩
    · exact ⟨rfl, fun _ => by have z := of_decide_eq_true hb; unfold turnB tnB; exact decide_eq_false (by (try split at z) <;> omega), fun z => nomatch z⟩
    refine dw_or1 ?_
    refine dt_gt ?_
    refine de_name 3 ?_
    refine de_int ?_
    refine ⟨_, _, rfl, rfl, ?_⟩
    refine ⟨rfl, fun z => ?_, fun z => ?_⟩
    · have z := of_decide_eq_true z
      unfold turnB tnB
      exact decide_eq_false (by omega)
    · have c1 := of_decide_eq_false hc1; have c2 := of_decide_eq_false hc2; have c3 := of_decide_eq_false hc3; have c4 := of_decide_eq_false hc4; have c5 := of_decide_eq_false z; split at c3 <;> omega
  rintro b' _ ⟨rfl, hbt, hbf⟩
  refine ⟨fun ht => ?_, fun ht => ?_⟩
  · rw [hbt ht] at q
    refine ds_cons ?_
    refine ds_ret ?_
    refine de_bl ?_
    exact q
  obtain ⟨h1, h2, h3, h4, h5, h6⟩ := hbf ht
  refine ds_nil ?_
  refine ds_cons ?_
  refine ds_ret ?_
  refine de_and ?_
  refine de_eq (hr.units) ?_
  refine de_mod ?_
  refine de_add ?_
  refine de_name 1 ?_
  refine de_name 2 ?_
  first | refine add_int ?_ | refine add_lst ?_ (by walk_at "len") | refine add_tup ?_ (by walk_at "len3") | refine add_scr ?_ (by walk_at "len") | refine (show addP (.str _) (.str _) _ _ from ⟨by decide +kernel, ?_⟩)
  refine de_int ?_
  refine ⟨_, _, rfl, rfl, (by walk_at "pos"), ?_⟩
  refine de_int ?_
  refine eq_int ?_
  refine ⟨_, rfl, fun hb => ?_, fun hb => ?_⟩
  · rw [show turnB (.tup [.int p, .int q', .int k]) = false by unfold turnB tnB; exact decide_eq_false (fun z => (of_decide_eq_false hb) z.2.2.2.2.2.2.1)] at q; exact q
  refine de_one ?_
  refine de_eq (hr.units) ?_
  refine de_gcd b_gcd ?_
  refine da_cons ?_
  refine de_name 1 ?_
  refine da_cons ?_
  refine de_name 2 ?_
  refine da_nil ?_
  refine ⟨_, _, rfl, ?_⟩
  refine de_int ?_
  refine eq_int ?_
  rw [show decide (((Nat.gcd p.natAbs q'.natAbs : Nat) : Int) = 1) = turnB (.tup [.int p, .int q', .int k]) by unfold turnB tnB; exact decide_eq_decide.mpr ⟨fun z => ⟨h1, h2, h3, h4, h5, h6, of_decide_eq_true hb, by omega⟩, fun z => by have := z.2.2.2.2.2.2.2; omega⟩]
  exact q
abbrev s_check_pixel : Stmt := top 14
theorem sc_check_pixel : FnScope ["pixel"] ["pixel"] (defScope s_check_pixel) := ⟨rfl, rfl, rfl, by decide +kernel, rfl, by decide +kernel, by decide +kernel⟩
set_option maxHeartbeats 40000000 in
theorem ok_check_pixel {f : Addr} {fd : FuncData} (F : Fun K "check_pixel" "check_pixel" s_check_pixel f fd) (c_is_pixel : Cal P w K mg base 3 "is_pixel" ["value"] [] (con_pixA K)) : GOk P w K mg base 4 f fd ["pixel"] (spD K con_check_pixel) := by
  refine gok_ds F sc_check_pixel (m := 0) rfl (fun ds S0 Q h => ?_) fun cdv A fr s0 H0 E0' gd hr ds S0 Q h => ?_
  · obtain ⟨_, _, rfl, _⟩ := h
    rfl
  obtain ⟨x, y, rfl, q⟩ := h
  refine ds_nrm ?_ (by set_option simprocs false in dsimp only [List.map, List.replicate, List.cons_append, List.nil_append])
  refine ds_cons ?_
  refine ds_if ?_
  refine dt_not ?_
  refine dt_val (h := ?_)
  refine de_call c_is_pixel gd (hr.mono (by decide)) ?_
  refine da_cons ?_
  refine de_name 0 ?_
  refine da_nil ?_
  refine ⟨_, rfl, any_pt rfl, (fun l e => by cases e; exact Nat.le_add_left 2 998), ?_⟩
  refine ⟨_, rfl, ?_⟩
  refine ⟨fun ht => ?_, fun ht => ?_⟩
  · cases ht
  refine ds_nil ?_
  refine ds_nil ?_
  exact q
abbrev s_check_turn : Stmt := top 15
theorem sc_check_turn : FnScope ["turn"] ["turn"] (defScope s_check_turn) := ⟨rfl, rfl, rfl, by decide +kernel, rfl, by decide +kernel, by decide +kernel⟩
set_option maxHeartbeats 40000000 in
theorem ok_check_turn {f : Addr} {fd : FuncData} (F : Fun K "check_turn" "check_turn" s_check_turn f fd) (c_is_turn : Cal P w K mg base 3 "is_turn" ["value"] [] (con_turnA K)) : GOk P w K mg base 4 f fd ["turn"] (spD K con_check_turn) := by
  refine gok_ds F sc_check_turn (m := 0) rfl (fun ds S0 Q h => ?_) fun cdv A fr s0 H0 E0' gd hr ds S0 Q h => ?_
  · obtain ⟨_, _, _, rfl, _⟩ := h
    rfl
  obtain ⟨p, q, k, rfl, hT, qq⟩ := h
  refine ds_nrm ?_ (by set_option simprocs false in dsimp only [List.map, List.replicate, List.cons_append, List.nil_append])
  refine ds_cons ?_
  refine ds_if ?_
  refine dt_not ?_
  refine dt_val (h := ?_)
  refine de_call c_is_turn gd (hr.mono (by decide)) ?_
  refine da_cons ?_
  refine de_name 0 ?_
  refine da_nil ?_
  refine ⟨_, rfl, any_pt rfl, (fun l e => by cases e; exact Nat.le_add_left 3 997), ?_⟩
  rw [tn_turnB hT]
  refine ⟨_, rfl, ?_⟩
  refine ⟨fun ht => ?_, fun ht => ?_⟩
  · cases ht
  refine ds_nil ?_
  refine ds_nil ?_
  exact qq
set_option maxHeartbeats 40000000 in
theorem okx_check_pixel {f : Addr} {fd : FuncData} (F : Fun K "check_pixel" "check_pixel" s_check_pixel f fd) {C_InvalidPixel : Addr} (c_is_pixel : Cal P w K mg base 3 "is_pixel" ["value"] [] (con_pixA K)) (o_InvalidPixel : OwnErr K mg "InvalidPixel" C_InvalidPixel) : GOkX P w K mg base 4 f fd ["pixel"] (spDX K (con_chkX K pixB C_InvalidPixel)) := by
  refine gokx_ds F sc_check_pixel (m := 0) rfl (fun ds S0 Q R h => ?_) fun cdv A fr s0 H0 E0' gd hr ds S0 Q R h => ?_
  · obtain ⟨_, rfl, _⟩ := h
    rfl
  obtain ⟨d, rfl, hA, q1, q2⟩ := h
  refine dsx_nrm ?_ (by set_option simprocs false in dsimp only [List.map, List.replicate, List.cons_append, List.nil_append])
  refine dsx_cons ?_
  refine dsx_if ?_
  refine dt_not ?_
  refine dt_val (h := ?_)
  refine de_call c_is_pixel gd (hr.mono (by decide)) ?_
  refine da_cons ?_
  refine de_name 0 ?_
  refine da_nil ?_
  refine ⟨_, rfl, hA.t, hA.l, ?_⟩
  refine ⟨_, rfl, ?_⟩
  refine ⟨fun ht => ?_, fun ht => ?_⟩
  · refine dsx_cons ?_
    refine dsx_raise_own o_InvalidPixel rfl ?_
    exact q1 (by simpa using ht)
  refine dsx_nil ?_
  refine dsx_nil ?_
  exact q2 (by simpa using ht)
set_option maxHeartbeats 40000000 in
theorem okx_check_turn {f : Addr} {fd : FuncData} (F : Fun K "check_turn" "check_turn" s_check_turn f fd) {C_InvalidTurn : Addr} (c_is_turn : Cal P w K mg base 3 "is_turn" ["value"] [] (con_turnA K)) (o_InvalidTurn : OwnErr K mg "InvalidTurn" C_InvalidTurn) : GOkX P w K mg base 4 f fd ["turn"] (spDX K (con_chkX K turnB C_InvalidTurn)) := by
  refine gokx_ds F sc_check_turn (m := 0) rfl (fun ds S0 Q R h => ?_) fun cdv A fr s0 H0 E0' gd hr ds S0 Q R h => ?_
  · obtain ⟨_, rfl, _⟩ := h
    rfl
  obtain ⟨d, rfl, hA, q1, q2⟩ := h
  refine dsx_nrm ?_ (by set_option simprocs false in dsimp only [List.map, List.replicate, List.cons_append, List.nil_append])
  refine dsx_cons ?_
  refine dsx_if ?_
  refine dt_not ?_
  refine dt_val (h := ?_)
  refine de_call c_is_turn gd (hr.mono (by decide)) ?_
  refine da_cons ?_
  refine de_name 0 ?_
  refine da_nil ?_
  refine ⟨_, rfl, hA.t, hA.l, ?_⟩
  refine ⟨_, rfl, ?_⟩
  refine ⟨fun ht => ?_, fun ht => ?_⟩
  · refine dsx_cons ?_
    refine dsx_raise_own o_InvalidTurn rfl ?_
    exact q1 (by simpa using ht)
  refine dsx_nil ?_
  refine dsx_nil ?_
  exact q2 (by simpa using ht)
abbrev s_nearest : Stmt := top 8
theorem sc_nearest : FnScope ["number", "divisor"] ["number", "divisor"] (defScope s_nearest) := ⟨rfl, rfl, rfl, by decide +kernel, rfl, by decide +kernel, by decide +kernel⟩
set_option maxHeartbeats 40000000 in
theorem ok_nearest {f : Addr} {fd : FuncData} (F : Fun K "nearest" "nearest" s_nearest f fd)  : GOk P w K mg base 1 f fd ["number", "divisor"] (spD K con_nearest) := by
  refine gok_ds F sc_nearest (m := 0) rfl (fun ds S0 Q h => ?_) fun cdv A fr s0 H0 E0' gd hr ds S0 Q h => ?_
  · obtain ⟨_, _, rfl, _⟩ := h
    rfl
  obtain ⟨n, d, rfl, ⟨b1, b2, b3⟩, q⟩ := h
  refine ds_nrm ?_ (by set_option simprocs false in dsimp only [List.map, List.replicate, List.cons_append, List.nil_append])
  refine ds_cons ?_
  refine ds_ret ?_
  refine de_fdiv ?_
  refine de_add ?_
  refine de_mul ?_
  refine de_int ?_
  refine de_name 0 ?_
  first | refine mul_i ?_ (by walk_at "cmw") | refine mul_l ?_ ⟨by decide, by decide, by first | decide | exact Nat.le_of_ble_eq_true rfl⟩
  refine de_name 1 ?_
  first | refine add_int ?_ | refine add_lst ?_ (by walk_at "len") | refine add_tup ?_ (by walk_at "len3") | refine add_scr ?_ (by walk_at "len") | refine (show addP (.str _) (.str _) _ _ from ⟨by decide +kernel, ?_⟩)
  refine de_mul ?_
  refine de_int ?_
  refine de_name 1 ?_
  first | refine mul_i ?_ (by walk_at "cmw") | refine mul_l ?_ ⟨by decide, by decide, by first | decide | exact Nat.le_of_ble_eq_true rfl⟩
  refine ⟨_, _, rfl, rfl, (by walk_at "cdw"), ?_⟩
  unfold nrr at q
  exact q
abbrev s_times : Stmt := top 9
theorem sc_times : FnScope ["one", "other", "x", "y", "r", "s"] ["one", "other"] (defScope s_times) := ⟨rfl, rfl, rfl, by decide +kernel, rfl, by decide +kernel, by decide +kernel⟩
set_option maxHeartbeats 40000000 in
theorem ok_times {f : Addr} {fd : FuncData} (F : Fun K "times" "times" s_times f fd)  : GOk P w K mg base 1 f fd ["one", "other"] (spD K con_times) := by
  refine gok_ds F sc_times (m := 4) rfl (fun ds S0 Q h => ?_) fun cdv A fr s0 H0 E0' gd hr ds S0 Q h => ?_
  · obtain ⟨_, _, _, _, rfl, _⟩ := h
    rfl
  obtain ⟨x, y, r, s, rfl, ⟨b1, b2, b3, b4⟩, q⟩ := h
  refine ds_nrm ?_ (by set_option simprocs false in dsimp only [List.map, List.replicate, List.cons_append, List.nil_append])
  refine ds_cons ?_
  refine ds_asg (h := ?_)
  refine de_name 0 ?_
  first | refine dg_tup rfl rfl ?_ | refine dg_tupL rfl rfl ?_ (fun h => pg_lst rfl h)
  refine dgs_cons (h := ?_)
  refine dg_name 2 ?_ sc_times.nd
  refine dgs_cons (h := ?_)
  refine dg_name 3 ?_ sc_times.nd
  refine dgs_nil ?_
  refine ds_cons ?_
  refine ds_asg (h := ?_)
  refine de_name 1 ?_
  first | refine dg_tup rfl rfl ?_ | refine dg_tupL rfl rfl ?_ (fun h => pg_lst rfl h)
  refine dgs_cons (h := ?_)
  refine dg_name 4 ?_ sc_times.nd
  refine dgs_cons (h := ?_)
  refine dg_name 5 ?_ sc_times.nd
  refine dgs_nil ?_
  refine ds_cons ?_
  refine ds_ret ?_
  refine de_tup ?_
  refine da_cons ?_
  refine de_sub ?_
  refine de_mul ?_
  refine de_name 2 ?_
  refine de_name 4 ?_
  first | refine mul_i ?_ (by walk_at "cmw") | refine mul_l ?_ ⟨by decide, by decide, by first | decide | exact Nat.le_of_ble_eq_true rfl⟩
  refine de_mul ?_
  refine de_name 3 ?_
  refine de_name 5 ?_
  first | refine mul_i ?_ (by walk_at "cmw") | refine mul_l ?_ ⟨by decide, by decide, by first | decide | exact Nat.le_of_ble_eq_true rfl⟩
  refine ⟨_, _, rfl, rfl, ?_⟩
  refine da_cons ?_
  refine de_add ?_
  refine de_mul ?_
  refine de_name 2 ?_
  refine de_name 5 ?_
  first | refine mul_i ?_ (by walk_at "cmw") | refine mul_l ?_ ⟨by decide, by decide, by first | decide | exact Nat.le_of_ble_eq_true rfl⟩
  refine de_mul ?_
  refine de_name 3 ?_
  refine de_name 4 ?_
  first | refine mul_i ?_ (by walk_at "cmw") | refine mul_l ?_ ⟨by decide, by decide, by first | decide | exact Nat.le_of_ble_eq_true rfl⟩
  first | refine add_int ?_ | refine add_lst ?_ (by walk_at "len") | refine add_tup ?_ (by walk_at "len3") | refine add_scr ?_ (by walk_at "len") | refine (show addP (.str _) (.str _) _ _ from ⟨by decide +kernel, ?_⟩)
  refine da_nil ?_
  refine ⟨by walk_at "len", ?_⟩
  exact q
abbrev s_legs_of : Stmt := top 16
theorem sc_legs_of : FnScope ["turn", "p", "q", "quarters", "a", "b", "_"] ["turn"] (defScope s_legs_of) := ⟨rfl, rfl, rfl, by decide +kernel, rfl, by decide +kernel, by decide +kernel⟩
set_option maxHeartbeats 40000000 in
theorem ok_legs_of {f : Addr} {fd : FuncData} (F : Fun K "legs_of" "legs_of" s_legs_of f fd) (c_check_turn : Cal P w K mg base 4 "check_turn" ["turn"] [] con_check_turn) (c_times : Cal P w K mg base 1 "times" ["one", "other"] [] con_times) (n_range : mg "range" = none) : GOk P w K mg base 5 f fd ["turn"] (spD K con_legs_of) := by
  refine gok_ds F sc_legs_of (m := 6) rfl (fun ds S0 Q h => ?_) fun cdv A fr s0 H0 E0' gd hr ds S0 Q h => ?_
  · obtain ⟨_, _, _, rfl, _⟩ := h
    rfl
  obtain ⟨p, q, k, rfl, hT, qq⟩ := h
  have h5 := hT.k1
  have h6 := hT.k2
  have b1 := hT.bp
  have b2 := hT.bq
  refine ds_nrm ?_ (by set_option simprocs false in dsimp only [List.map, List.replicate, List.cons_append, List.nil_append])
  refine ds_cons ?_
  refine ds_expr (h := ?_)
  refine de_call c_check_turn gd (hr.mono (by decide)) ?_
  refine da_cons ?_
  refine de_name 0 ?_
  refine da_nil ?_
  refine ⟨_, _, _, rfl, by walk_at "tn", ?_⟩
  refine ds_cons ?_
  refine ds_asg (h := ?_)
  refine de_name 0 ?_
  first | refine dg_tup rfl rfl ?_ | refine dg_tupL rfl rfl ?_ (fun h => pg_lst rfl h)
  refine dgs_cons (h := ?_)
  refine dg_name 1 ?_ sc_legs_of.nd
  refine dgs_cons (h := ?_)
  refine dg_name 2 ?_ sc_legs_of.nd
  refine dgs_cons (h := ?_)
  refine dg_name 3 ?_ sc_legs_of.nd
  refine dgs_nil ?_
  refine ds_cons ?_
  refine ds_asg (h := ?_)
  refine de_call c_times gd (hr.mono (by decide)) ?_
  refine da_cons ?_
  refine de_tup ?_
  refine da_cons ?_
  refine de_name 1 ?_
  refine da_cons ?_
  refine de_name 2 ?_
  refine da_nil ?_
  refine ⟨by walk_at "len", ?_⟩
  refine da_cons ?_
  refine de_tup ?_
  refine da_cons ?_
  refine de_name 1 ?_
  refine da_cons ?_
  refine de_name 2 ?_
  refine da_nil ?_
  refine ⟨by walk_at "len", ?_⟩
  refine da_nil ?_
  refine ⟨_, _, _, _, rfl, ⟨by walk_at "bdu", by walk_at "bdu", by walk_at "bdu", by walk_at "bdu"⟩, ?_⟩
  first | refine dg_tup rfl rfl ?_ | refine dg_tupL rfl rfl ?_ (fun h => pg_lst rfl h)
  refine dgs_cons (h := ?_)
  refine dg_name 4 ?_ sc_legs_of.nd
  refine dgs_cons (h := ?_)
  refine dg_name 5 ?_ sc_legs_of.nd
  refine dgs_nil ?_
  refine ds_cons ?_
  refine ds_for (γ := Nat) PassesOwn.never rfl ?_
  refine di_rng1 n_range ?_
  refine da_cons ?_
  refine de_name 3 ?_
  refine da_nil ?_
  refine ⟨_, rfl, (by walk_at "rng"), ?_⟩
  refine ⟨fun j : Nat => [some (.tup [.int p, .int q, .int k]), some (.int p), some (.int q), some (.int k), some (.int (rtX j (p * p - q * q) (p * q + q * p))), some (.int (rtY j (p * p - q * q) (p * q + q * p))), none], fun i j S' => j = i ∧ S' = S0, 0, ⟨rfl, rfl, rfl, rfl, rfl, rfl, trivial⟩, ⟨rfl, rfl⟩, fun i d j S' hi hP => ?_, fun j S' hP => ?_⟩
  · obtain ⟨rfl, rfl⟩ := hP
    obtain ⟨hlt, rfl⟩ := rngD_get hi
    have hj : j < 3 := by omega
    refine dg_name 6 ?_ sc_legs_of.nd
    refine ds_cons ?_
    refine ds_par (i := 4) (j := 5) rfl sc_legs_of.nd rfl rfl (by decide) ?_
    refine da_cons ?_
    refine de_neg ?_
    refine de_name 5 ?_
    refine ⟨_, rfl, ?_⟩
    refine da_cons ?_
    refine de_name 4 ?_
    refine da_nil ?_
    refine ⟨_, _, rfl, ?_⟩
    refine ds_nrm ?_
    refine ds_nil ?_
    exact ⟨j + 1, ⟨rfl, rfl, rfl, rfl, by rw [(rt_step j hj _ _).1] <;> rfl, by rw [(rt_step j hj _ _).2] <;> rfl, trivial⟩, rfl, rfl⟩
  obtain ⟨rfl, rfl⟩ := hP
  rw [rngD_len]
  refine ds_cons ?_
  refine ds_ret ?_
  refine de_tup ?_
  refine da_cons ?_
  refine de_name 4 ?_
  refine da_cons ?_
  refine de_name 5 ?_
  refine da_cons ?_
  refine de_add ?_
  refine de_mul ?_
  refine de_name 1 ?_
  refine de_name 1 ?_
  first | refine mul_i ?_ (by walk_at "cmw") | refine mul_l ?_ ⟨by decide, by decide, by first | decide | exact Nat.le_of_ble_eq_true rfl⟩
  refine de_mul ?_
  refine de_name 2 ?_
  refine de_name 2 ?_
  first | refine mul_i ?_ (by walk_at "cmw") | refine mul_l ?_ ⟨by decide, by decide, by first | decide | exact Nat.le_of_ble_eq_true rfl⟩
  first | refine add_int ?_ | refine add_lst ?_ (by walk_at "len") | refine add_tup ?_ (by walk_at "len3") | refine add_scr ?_ (by walk_at "len") | refine (show addP (.str _) (.str _) _ _ from ⟨by decide +kernel, ?_⟩)
  refine da_nil ?_
  refine ⟨by walk_at "len", ?_⟩
  unfold lgA lgB at qq
  exact qq
abbrev s_exact_place : Stmt := top 17
theorem sc_exact_place : FnScope ["turn", "pixel", "a", "b", "c", "x", "y"] ["turn", "pixel"] (defScope s_exact_place) := ⟨rfl, rfl, rfl, by decide +kernel, rfl, by decide +kernel, by decide +kernel⟩
set_option maxHeartbeats 40000000 in
theorem ok_exact_place {f : Addr} {fd : FuncData} (F : Fun K "exact_place" "exact_place" s_exact_place f fd) (c_check_pixel : Cal P w K mg base 4 "check_pixel" ["pixel"] [] con_check_pixel) (c_check_turn : Cal P w K mg base 4 "check_turn" ["turn"] [] con_check_turn) (c_legs_of : Cal P w K mg base 5 "legs_of" ["turn"] [] con_legs_of) (c_times : Cal P w K mg base 1 "times" ["one", "other"] [] con_times) : GOk P w K mg base 6 f fd ["turn", "pixel"] (spD K con_exact_place) := by
  refine gok_ds F sc_exact_place (m := 5) rfl (fun ds S0 Q h => ?_) fun cdv A fr s0 H0 E0' gd hr ds S0 Q h => ?_
  · obtain ⟨_, _, _, _, _, rfl, _⟩ := h
    rfl
  obtain ⟨p, q, k, x, y, rfl, hT, ⟨bx, by'⟩, qq⟩ := h
  have b1 := hT.bp
  have b2 := hT.bq
  refine ds_nrm ?_ (by set_option simprocs false in dsimp only [List.map, List.replicate, List.cons_append, List.nil_append])
  refine ds_cons ?_
  refine ds_expr (h := ?_)
  refine de_call c_check_turn gd (hr.mono (by decide)) ?_
  refine da_cons ?_
  refine de_name 0 ?_
  refine da_nil ?_
  refine ⟨_, _, _, rfl, by walk_at "tn", ?_⟩
  refine ds_cons ?_
  refine ds_expr (h := ?_)
  refine de_call c_check_pixel gd (hr.mono (by decide)) ?_
  refine da_cons ?_
  refine de_name 1 ?_
  refine da_nil ?_
  refine ⟨_, _, rfl, ?_⟩
  refine ds_cons ?_
  refine ds_asg (h := ?_)
  refine de_call c_legs_of gd (hr.mono (by decide)) ?_
  refine da_cons ?_
  refine de_name 0 ?_
  refine da_nil ?_
  refine ⟨_, _, _, rfl, by walk_at "tn", ?_⟩
  first | refine dg_tup rfl rfl ?_ | refine dg_tupL rfl rfl ?_ (fun h => pg_lst rfl h)
  refine dgs_cons (h := ?_)
  refine dg_name 2 ?_ sc_exact_place.nd
  refine dgs_cons (h := ?_)
  refine dg_name 3 ?_ sc_exact_place.nd
  refine dgs_cons (h := ?_)
  refine dg_name 4 ?_ sc_exact_place.nd
  refine dgs_nil ?_
  refine ds_cons ?_
  refine ds_asg (h := ?_)
  refine de_call c_times gd (hr.mono (by decide)) ?_
  refine da_cons ?_
  refine de_tup ?_
  refine da_cons ?_
  refine de_name 2 ?_
  refine da_cons ?_
  refine de_name 3 ?_
  refine da_nil ?_
  refine ⟨by walk_at "len", ?_⟩
  refine da_cons ?_
  refine de_name 1 ?_
  refine da_nil ?_
  refine ⟨_, _, _, _, rfl, ⟨by walk_at "bdu", by walk_at "bdu", by walk_at "bdu", by walk_at "bdu"⟩, ?_⟩
  first | refine dg_tup rfl rfl ?_ | refine dg_tupL rfl rfl ?_ (fun h => pg_lst rfl h)
  refine dgs_cons (h := ?_)
  refine dg_name 5 ?_ sc_exact_place.nd
  refine dgs_cons (h := ?_)
  refine dg_name 6 ?_ sc_exact_place.nd
  refine dgs_nil ?_
  refine ds_cons ?_
  refine ds_ret ?_
  refine de_tup ?_
  refine da_cons ?_
  refine de_name 5 ?_
  refine da_cons ?_
  refine de_name 6 ?_
  refine da_cons ?_
  refine de_name 4 ?_
  refine da_nil ?_
  refine ⟨by walk_at "len", ?_⟩
  unfold exX exY at qq
  exact qq
abbrev s_image : Stmt := top 18
theorem sc_image : FnScope ["turn", "pixel", "x", "y", "c"] ["turn", "pixel"] (defScope s_image) := ⟨rfl, rfl, rfl, by decide +kernel, rfl, by decide +kernel, by decide +kernel⟩
set_option maxHeartbeats 40000000 in
theorem ok_image {f : Addr} {fd : FuncData} (F : Fun K "image" "image" s_image f fd) (c_exact_place : Cal P w K mg base 6 "exact_place" ["turn", "pixel"] [] con_exact_place) (c_nearest : Cal P w K mg base 1 "nearest" ["number", "divisor"] [] con_nearest) : GOk P w K mg base 7 f fd ["turn", "pixel"] (spD K con_image) := by
  refine gok_ds F sc_image (m := 3) rfl (fun ds S0 Q h => ?_) fun cdv A fr s0 H0 E0' gd hr ds S0 Q h => ?_
  · obtain ⟨_, _, _, _, _, rfl, _⟩ := h
    rfl
  obtain ⟨p, q, k, x, y, rfl, hT, ⟨bx, by'⟩, qq⟩ := h
  have b1 := hT.bp
  have b2 := hT.bq
  refine ds_nrm ?_ (by set_option simprocs false in dsimp only [List.map, List.replicate, List.cons_append, List.nil_append])
  refine ds_cons ?_
  refine ds_asg (h := ?_)
  refine de_call c_exact_place gd (hr.mono (by decide)) ?_
  refine da_cons ?_
  refine de_name 0 ?_
  refine da_cons ?_
  refine de_name 1 ?_
  refine da_nil ?_
  refine ⟨_, _, _, _, _, rfl, by walk_at "tn", ⟨by walk_at "bdu", by walk_at "bdu"⟩, ?_⟩
  first | refine dg_tup rfl rfl ?_ | refine dg_tupL rfl rfl ?_ (fun h => pg_lst rfl h)
  refine dgs_cons (h := ?_)
  refine dg_name 2 ?_ sc_image.nd
  refine dgs_cons (h := ?_)
  refine dg_name 3 ?_ sc_image.nd
  refine dgs_cons (h := ?_)
  refine dg_name 4 ?_ sc_image.nd
  refine dgs_nil ?_
  refine ds_cons ?_
  refine ds_ret ?_
  refine de_tup ?_
  refine da_cons ?_
  refine de_call c_nearest gd (hr.mono (by decide)) ?_
  refine da_cons ?_
  refine de_name 2 ?_
  refine da_cons ?_
  refine de_name 4 ?_
  refine da_nil ?_
  refine ⟨_, _, rfl, ⟨by walk_at "bdu", by walk_at "bdu", by walk_at "pos"⟩, ?_⟩
  refine da_cons ?_
  refine de_call c_nearest gd (hr.mono (by decide)) ?_
  refine da_cons ?_
  refine de_name 3 ?_
  refine da_cons ?_
  refine de_name 4 ?_
  refine da_nil ?_
  refine ⟨_, _, rfl, ⟨by walk_at "bdu", by walk_at "bdu", by walk_at "pos"⟩, ?_⟩
  refine da_nil ?_
  refine ⟨by walk_at "len", ?_⟩
  unfold imX imY at qq
  exact qq
abbrev s__law_source : Stmt := top 23
theorem sc__law_source : FnScope ["_law_entry", "_law_k", "_law_great"] ["_law_entry", "_law_k"] (defScope s__law_source) := ⟨rfl, rfl, rfl, by decide +kernel, rfl, by decide +kernel, by decide +kernel⟩
set_option maxHeartbeats 40000000 in
theorem ok__law_source {f : Addr} {fd : FuncData} (F : Fun K "_law_source" "_law_source" s__law_source f fd) (n_abs : mg "abs" = none) (n_int : mg "int" = none) (n_max : mg "max" = none) : GOk P w K mg base 1 f fd ["_law_entry", "_law_k"] (spD K con_source) := by
  refine gok_ds F sc__law_source (m := 1) rfl (fun ds S0 Q h => ?_) fun cdv A fr s0 H0 E0' gd hr ds S0 Q h => ?_
  · obtain ⟨_, _, rfl, _⟩ := h
    rfl
  obtain ⟨e, k, rfl, ⟨k1, k2⟩, q⟩ := h
  have bk : Bd 7 k := by unfold Bd; omega
  refine ds_nrm ?_ (by set_option simprocs false in dsimp only [List.map, List.replicate, List.cons_append, List.nil_append])
  refine ds_cons ?_
  refine ds_asg (h := ?_)
  refine de_B call_abs n_abs bt_abs ?_
  refine da_cons ?_
  refine de_name 0 ?_
  refine da_nil ?_
  refine drc_abs ?_
  refine dg_name 2 ?_ sc__law_source.nd
  refine ds_cons ?_
  refine ds_ret ?_
  refine de_lstO ?_
  refine da_cons ?_
  refine de_B (call_max2 rfl) n_max bt_max ?_
  refine da_cons ?_
  refine de_int ?_
  refine da_cons ?_
  refine de_sub ?_
  refine de_name 2 ?_
  refine de_pow ?_
  refine de_int ?_
  refine de_int ?_
  refine ⟨_, _, rfl, rfl, (by walk_at "cpw"), ?_⟩
  refine ⟨_, _, rfl, rfl, ?_⟩
  refine da_nil ?_
  refine drc_max ?_
  refine da_cons ?_
  refine de_add ?_
  refine de_add ?_
  refine de_mul ?_
  refine de_mod ?_
  refine de_T call_int1 n_int bt_int ?_
  refine da_cons ?_
  refine de_name 2 ?_
  refine da_nil ?_
  first | refine drc_int ?_ | refine drc_intb ?_
  refine de_add ?_
  refine de_pow ?_
  refine de_int ?_
  refine de_int ?_
  refine ⟨_, _, rfl, rfl, (by walk_at "cpw"), ?_⟩
  refine de_int ?_
  first | refine add_int ?_ | refine add_lst ?_ (by walk_at "len") | refine add_tup ?_ (by walk_at "len3") | refine add_scr ?_ (by walk_at "len") | refine (show addP (.str _) (.str _) _ _ from ⟨by decide +kernel, ?_⟩)
  refine ⟨_, _, rfl, rfl, (by walk_at "pos"), ?_⟩
  refine de_int ?_
  first | refine mul_i ?_ (by walk_at "cmw") | refine mul_l ?_ ⟨by decide, by decide, by first | decide | exact Nat.le_of_ble_eq_true rfl⟩
  refine de_mul ?_
  refine de_int ?_
  refine de_name 1 ?_
  first | refine mul_i ?_ (by walk_at "cmw") | refine mul_l ?_ ⟨by decide, by decide, by first | decide | exact Nat.le_of_ble_eq_true rfl⟩
  first | refine add_int ?_ | refine add_lst ?_ (by walk_at "len") | refine add_tup ?_ (by walk_at "len3") | refine add_scr ?_ (by walk_at "len") | refine (show addP (.str _) (.str _) _ _ from ⟨by decide +kernel, ?_⟩)
  refine de_T call_int1 n_int bt_int ?_
  refine da_cons ?_
  refine de_lt ?_
  refine de_name 0 ?_
  refine de_int ?_
  refine ⟨_, _, rfl, rfl, ?_⟩
  refine da_nil ?_
  first | refine drc_int ?_ | refine drc_intb ?_
  first | refine add_int ?_ | refine add_lst ?_ (by walk_at "len") | refine add_tup ?_ (by walk_at "len3") | refine add_scr ?_ (by walk_at "len") | refine (show addP (.str _) (.str _) _ _ from ⟨by decide +kernel, ?_⟩)
  refine da_cons ?_
  refine de_int ?_
  refine da_nil ?_
  refine ⟨by walk_at "len", fun p1 hp1 => ?_⟩
  exact q _ _ (by assumption) (src_mk (src_a _ _) (src_b _ _ _ ⟨k1, k2⟩))
abbrev s__law_draw : Stmt := top 24
theorem sc__law_draw : FnScope ["_law_source_here", "_law_count", "_law_digit", "_law_mixed"] ["_law_source_here", "_law_count"] (defScope s__law_draw) := ⟨rfl, rfl, rfl, by decide +kernel, rfl, by decide +kernel, by decide +kernel⟩
set_option maxHeartbeats 40000000 in
theorem ok__law_draw {f : Addr} {fd : FuncData} (F : Fun K "_law_draw" "_law_draw" s__law_draw f fd) (n_int : mg "int" = none) : GOk P w K mg base 1 f fd ["_law_source_here", "_law_count"] (spD K con_draw) := by
  refine gok_ds F sc__law_draw (m := 2) rfl (fun ds S0 Q h => ?_) fun cdv A fr s0 H0 E0' gd hr ds S0 Q h => ?_
  · obtain ⟨_, _, _, _, rfl, _⟩ := h
    rfl
  obtain ⟨p, n, l, m, rfl, hg, ⟨a, b, c, rfl, ha, hb, hc, hb0⟩, hm, hn, bn, qq⟩ := h
  have bc : Bd 30 c := by unfold Bd; omega
  have bc1 : Bd 30 (c + 1) := by unfold Bd; omega
  refine ds_nrm ?_ (by set_option simprocs false in dsimp only [List.map, List.replicate, List.cons_append, List.nil_append])
  refine ds_cons ?_
  refine ds_if ?_
  refine dt_gt ?_
  refine de_ix (h := ?_)
  refine de_name 0 ?_
  refine de_int ?_
  walk_at "ix"
  refine de_int ?_
  refine ⟨_, _, rfl, rfl, ?_⟩
  refine ⟨fun ht => ?_, fun ht => ?_⟩
  · refine ds_cons ?_
    refine ds_asg (h := ?_)
    refine de_mod ?_
    refine de_T call_int1 n_int bt_int ?_
    refine da_cons ?_
    refine de_ix (h := ?_)
    refine de_name 0 ?_
    refine de_int ?_
    walk_at "ix"
    refine da_nil ?_
    first | refine drc_int ?_ | refine drc_intb ?_
    refine de_name 1 ?_
    refine ⟨_, _, rfl, rfl, (by walk_at "pos"), ?_⟩
    refine dg_name 2 ?_ sc__law_draw.nd
    refine ds_cons ?_
    refine ds_asg (h := ?_)
    refine de_fdiv ?_
    refine de_ix (h := ?_)
    refine de_name 0 ?_
    refine de_int ?_
    walk_at "ix"
    refine de_name 1 ?_
    refine ⟨_, _, rfl, rfl, (by walk_at "cdw"), ?_⟩
    refine dg_sub ?_
    refine de_name 0 ?_
    refine de_int ?_
    refine ⟨_, _, _, _, rfl, rfl, (by walk_at "gets"), rfl, ?_⟩
    walk_at "sets"
    refine ds_cons ?_
    refine ds_ret ?_
    refine de_name 2 ?_
    exact qq _ _ (Int.emod_nonneg _ (by omega)) (Int.emod_lt_of_pos _ hn) (src_div ha hb hc hb0 hn)
  refine ds_nil ?_
  refine ds_cons ?_
  refine ds_asg (h := ?_)
  refine de_add ?_
  refine de_ix (h := ?_)
  refine de_name 0 ?_
  refine de_int ?_
  walk_at "ix"
  refine de_int ?_
  first | refine add_int ?_ | refine add_lst ?_ (by walk_at "len") | refine add_tup ?_ (by walk_at "len3") | refine add_scr ?_ (by walk_at "len") | refine (show addP (.str _) (.str _) _ _ from ⟨by decide +kernel, ?_⟩)
  refine dg_sub ?_
  refine de_name 0 ?_
  refine de_int ?_
  refine ⟨_, _, _, _, rfl, rfl, (by walk_at "gets"), rfl, ?_⟩
  walk_at "sets"
  refine ds_cons ?_
  refine ds_asg (h := ?_)
  refine de_mod ?_
  refine de_T call_int1 n_int bt_int ?_
  refine da_cons ?_
  refine de_pow ?_
  refine de_add ?_
  refine de_ix (h := ?_)
  refine de_name 0 ?_
  refine de_int ?_
  walk_at "ix"
  refine de_mul ?_
  refine de_int ?_
  refine de_ix (h := ?_)
  refine de_name 0 ?_
  refine de_int ?_
  walk_at "ix"
  first | refine mul_i ?_ (by walk_at "cmw") | refine mul_l ?_ ⟨by decide, by decide, by first | decide | exact Nat.le_of_ble_eq_true rfl⟩
  first | refine add_int ?_ | refine add_lst ?_ (by walk_at "len") | refine add_tup ?_ (by walk_at "len3") | refine add_scr ?_ (by walk_at "len") | refine (show addP (.str _) (.str _) _ _ from ⟨by decide +kernel, ?_⟩)
  refine de_int ?_
  refine ⟨_, _, rfl, rfl, (by walk_at "cpw"), ?_⟩
  refine da_nil ?_
  first | refine drc_int ?_ | refine drc_intb ?_
  refine de_add ?_
  refine de_pow ?_
  refine de_int ?_
  refine de_int ?_
  refine ⟨_, _, rfl, rfl, (by walk_at "cpw"), ?_⟩
  refine de_int ?_
  first | refine add_int ?_ | refine add_lst ?_ (by walk_at "len") | refine add_tup ?_ (by walk_at "len3") | refine add_scr ?_ (by walk_at "len") | refine (show addP (.str _) (.str _) _ _ from ⟨by decide +kernel, ?_⟩)
  refine ⟨_, _, rfl, rfl, (by walk_at "pos"), ?_⟩
  refine dg_name 3 ?_ sc__law_draw.nd
  refine ds_cons ?_
  refine ds_asg (h := ?_)
  refine de_mod ?_
  refine de_T call_int1 n_int bt_int ?_
  refine da_cons ?_
  refine de_pow ?_
  refine de_add ?_
  refine de_mul ?_
  refine de_name 3 ?_
  refine de_ix (h := ?_)
  refine de_name 0 ?_
  refine de_int ?_
  walk_at "ix"
  first | refine mul_i ?_ (by walk_at "cmw") | refine mul_l ?_ ⟨by decide, by decide, by first | decide | exact Nat.le_of_ble_eq_true rfl⟩
  refine de_int ?_
  first | refine add_int ?_ | refine add_lst ?_ (by walk_at "len") | refine add_tup ?_ (by walk_at "len3") | refine add_scr ?_ (by walk_at "len") | refine (show addP (.str _) (.str _) _ _ from ⟨by decide +kernel, ?_⟩)
  refine de_int ?_
  refine ⟨_, _, rfl, rfl, (by walk_at "cpw"), ?_⟩
  refine da_nil ?_
  first | refine drc_int ?_ | refine drc_intb ?_
  refine de_add ?_
  refine de_pow ?_
  refine de_int ?_
  refine de_int ?_
  refine ⟨_, _, rfl, rfl, (by walk_at "cpw"), ?_⟩
  refine de_int ?_
  first | refine add_int ?_ | refine add_lst ?_ (by walk_at "len") | refine add_tup ?_ (by walk_at "len3") | refine add_scr ?_ (by walk_at "len") | refine (show addP (.str _) (.str _) _ _ from ⟨by decide +kernel, ?_⟩)
  refine ⟨_, _, rfl, rfl, (by walk_at "pos"), ?_⟩
  refine dg_name 3 ?_ sc__law_draw.nd
  refine ds_cons ?_
  refine ds_ret ?_
  refine de_mod ?_
  refine de_T call_int1 n_int bt_int ?_
  refine da_cons ?_
  refine de_fdiv ?_
  refine de_name 3 ?_
  refine de_int ?_
  refine ⟨_, _, rfl, rfl, (by walk_at "cdw"), ?_⟩
  refine da_nil ?_
  first | refine drc_int ?_ | refine drc_intb ?_
  refine de_name 1 ?_
  refine ⟨_, _, rfl, rfl, (by walk_at "pos"), ?_⟩
  exact qq _ _ (Int.emod_nonneg _ (by omega)) (Int.emod_lt_of_pos _ hn) (src_next ha hb hc hb0)
abbrev s__law_common : Stmt := top 25
theorem sc__law_common : FnScope ["_law_one", "_law_two"] ["_law_one", "_law_two"] (defScope s__law_common) := ⟨rfl, rfl, rfl, by decide +kernel, rfl, by decide +kernel, by decide +kernel⟩
set_option maxHeartbeats 40000000 in
theorem ok__law_common {f : Addr} {fd : FuncData} (F : Fun K "_law_common" "_law_common" s__law_common f fd) (n_abs : mg "abs" = none) (n_int : mg "int" = none) : GOk P w K mg base 1 f fd ["_law_one", "_law_two"] (spD K con_common) := by
  refine gok_ds F sc__law_common (m := 0) rfl (fun ds S0 Q h => ?_) fun cdv A fr s0 H0 E0' gd hr ds S0 Q h => ?_
  · obtain ⟨_, _, rfl, _⟩ := h
    rfl
  obtain ⟨a, b, rfl, qq⟩ := h
  refine ds_nrm ?_ (by set_option simprocs false in dsimp only [List.map, List.replicate, List.cons_append, List.nil_append])
  refine ds_cons ?_
  refine ds_par (i := 0) (j := 1) rfl sc__law_common.nd rfl rfl (by decide) ?_
  refine da_cons ?_
  refine de_B call_abs n_abs bt_abs ?_
  refine da_cons ?_
  refine de_name 0 ?_
  refine da_nil ?_
  refine drc_abs ?_
  refine da_cons ?_
  refine de_B call_abs n_abs bt_abs ?_
  refine da_cons ?_
  refine de_name 1 ?_
  refine da_nil ?_
  refine drc_abs ?_
  refine da_nil ?_
  refine ⟨_, _, rfl, ?_⟩
  refine ds_nrm ?_
  refine ds_cons ?_
  refine ds_while (γ := Nat × Nat) PassesOwn.never (fun g => [some (.int g.1), some (.int g.2)]) (fun g S' => S' = S0 ∧ Nat.gcd g.1 g.2 = Nat.gcd a.natAbs b.natAbs) (fun g => g.2) (a.natAbs, b.natAbs) ⟨by rw [abs_nat] <;> rfl, by rw [abs_nat] <;> rfl, trivial⟩ ⟨rfl, rfl⟩ (fun g S' hP => ?_)
  obtain ⟨rfl, hG⟩ := hP
  obtain ⟨x, y⟩ := g
  refine dt_gt ?_
  refine de_name 1 ?_
  refine de_int ?_
  refine ⟨_, _, rfl, rfl, ?_⟩
  refine ⟨fun ht => ?_, fun ht => ?_⟩
  · have hy : 0 < y := by have := of_decide_eq_true ht; omega
    refine ds_cons ?_
    refine ds_par (i := 0) (j := 1) rfl sc__law_common.nd rfl rfl (by decide) ?_
    refine da_cons ?_
    refine de_name 1 ?_
    refine da_cons ?_
    refine de_mod ?_
    refine de_T call_int1 n_int bt_int ?_
    refine da_cons ?_
    refine de_name 0 ?_
    refine da_nil ?_
    first | refine drc_int ?_ | refine drc_intb ?_
    refine de_name 1 ?_
    refine ⟨_, _, rfl, rfl, (by walk_at "pos"), ?_⟩
    refine da_nil ?_
    refine ⟨_, _, rfl, ?_⟩
    refine ds_nrm ?_
    refine ds_nil ?_
    exact ⟨(y, x % y), ⟨rfl, rfl, trivial⟩, ⟨rfl, by rw [← hG]; exact gcd_step x y⟩, Nat.mod_lt x hy⟩
  have hy : y = 0 := by have := of_decide_eq_false ht; omega
  subst hy
  have hG : x = Nat.gcd a.natAbs b.natAbs := by rw [← hG] <;> exact (Nat.gcd_zero_right x).symm
  refine ds_cons ?_
  refine ds_ret ?_
  refine de_name 0 ?_
  rw [hG]
  exact qq
abbrev s__law_spin : Stmt := top 26
theorem sc__law_spin : FnScope ["_law_source_here", "_law_most", "_law_p", "_law_sort", "_law_q"] ["_law_source_here", "_law_most"] (defScope s__law_spin) := ⟨rfl, rfl, rfl, by decide +kernel, rfl, by decide +kernel, by decide +kernel⟩
set_option maxHeartbeats 40000000 in
theorem ok__law_spin {f : Addr} {fd : FuncData} (F : Fun K "_law_spin" "_law_spin" s__law_spin f fd) (c__law_common : Cal P w K mg base 1 "_law_common" ["_law_one", "_law_two"] [] con_common) (c__law_draw : Cal P w K mg base 1 "_law_draw" ["_law_source_here", "_law_count"] [] con_draw) (n_int : mg "int" = none) (n_max : mg "max" = none) (n_min : mg "min" = none) : GOk P w K mg base 2 f fd ["_law_source_here", "_law_most"] (spD K con_spin) := by
  refine gok_ds F sc__law_spin (m := 3) rfl (fun ds S0 Q h => ?_) fun cdv A fr s0 H0 E0' gd hr ds S0 Q h => ?_
  · obtain ⟨_, _, _, _, rfl, _⟩ := h
    rfl
  obtain ⟨pp, n, l, m, rfl, hg, hS, hm, hn, hn2, qq⟩ := h
  have bn : Bd 50 n := by unfold Bd; omega
  refine ds_nrm ?_ (by set_option simprocs false in dsimp only [List.map, List.replicate, List.cons_append, List.nil_append])
  refine ds_cons ?_
  refine ds_par (i := 2) (j := 3) rfl sc__law_spin.nd rfl rfl (by decide) ?_
  refine da_cons ?_
  refine de_add ?_
  refine de_int ?_
  refine de_call c__law_draw gd (hr.mono (by decide)) ?_
  refine da_cons ?_
  refine de_name 0 ?_
  refine da_cons ?_
  refine de_name 1 ?_
  refine da_nil ?_
  refine ⟨_, _, _, _, rfl, (by walk_at "gets"), (by assumption), (by walk_at "m"), (by walk_at "pos"), (by walk_at "bdu"), fun r1 l1 hr1 hn1 hs1 => ?_⟩
  walk_at "sets"
  first | refine add_int ?_ | refine add_lst ?_ (by walk_at "len") | refine add_tup ?_ (by walk_at "len3") | refine add_scr ?_ (by walk_at "len") | refine (show addP (.str _) (.str _) _ _ from ⟨by decide +kernel, ?_⟩)
  refine da_cons ?_
  refine de_call c__law_draw gd (hr.mono (by decide)) ?_
  refine da_cons ?_
  refine de_name 0 ?_
  refine da_cons ?_
  refine de_int ?_
  refine da_nil ?_
  refine ⟨_, _, _, _, rfl, (by walk_at "gets"), (by assumption), (by walk_at "m"), (by walk_at "pos"), (by walk_at "bdu"), fun r2 l2 hr2 hn2 hs2 => ?_⟩
  walk_at "sets"
  refine da_nil ?_
  refine ⟨_, _, rfl, ?_⟩
  refine ds_nrm ?_
  refine ds_cons ?_
  refine ds_asg (h := ?_)
  refine de_ix (h := ?_)
  refine de_lst ?_
  refine da_cons ?_
  refine de_call c__law_draw gd (hr.mono (by decide)) ?_
  refine da_cons ?_
  refine de_name 0 ?_
  refine da_cons ?_
  refine de_name 2 ?_
  refine da_nil ?_
  refine ⟨_, _, _, _, rfl, (by walk_at "gets"), (by assumption), (by walk_at "m"), (by walk_at "pos"), (by walk_at "bdu"), fun r3 l3 hr3 hn3 hs3 => ?_⟩
  walk_at "sets"
  refine da_cons ?_
  refine de_sub ?_
  refine de_name 2 ?_
  refine de_int ?_
  refine ⟨_, _, rfl, rfl, ?_⟩
  refine da_cons ?_
  refine de_B (call_max2 rfl) n_max bt_max ?_
  refine da_cons ?_
  refine de_int ?_
  refine da_cons ?_
  refine de_sub ?_
  refine de_name 2 ?_
  refine de_int ?_
  refine ⟨_, _, rfl, rfl, ?_⟩
  refine da_nil ?_
  refine drc_max ?_
  refine da_cons ?_
  refine de_call c__law_draw gd (hr.mono (by decide)) ?_
  refine da_cons ?_
  refine de_name 0 ?_
  refine da_cons ?_
  refine de_B (call_min2 rfl) n_min bt_min ?_
  refine da_cons ?_
  refine de_name 2 ?_
  refine da_cons ?_
  refine de_int ?_
  refine da_nil ?_
  refine drc_min ?_
  refine da_nil ?_
  refine ⟨_, _, _, _, rfl, (by walk_at "gets"), (by assumption), (by walk_at "m"), (by walk_at "pos"), (by walk_at "bdu"), fun r4 l4 hr4 hn4 hs4 => ?_⟩
  walk_at "sets"
  refine da_cons ?_
  refine de_call c__law_draw gd (hr.mono (by decide)) ?_
  refine da_cons ?_
  refine de_name 0 ?_
  refine da_cons ?_
  refine de_name 2 ?_
  refine da_nil ?_
  refine ⟨_, _, _, _, rfl, (by walk_at "gets"), (by assumption), (by walk_at "m"), (by walk_at "pos"), (by walk_at "bdu"), fun r5 l5 hr5 hn5 hs5 => ?_⟩
  walk_at "sets"
  refine da_nil ?_
  refine ⟨by walk_at "len", ?_⟩
  refine de_name 3 ?_
  first | refine ix_pick (fun d => ∃ x : Int, d = .int x ∧ 0 ≤ x ∧ x < 1 + r1) (fa_cons ⟨_, rfl, by walk_at "spx"⟩ (fa_cons ⟨_, rfl, by walk_at "spx"⟩ (fa_cons ⟨_, rfl, by walk_at "spx"⟩ (fa_cons ⟨_, rfl, by walk_at "spx"⟩ (fa_cons ⟨_, rfl, by walk_at "spx"⟩ fa_nil))))) (by assumption) (by show r2 < 5; assumption) ?_ | refine ix_pick (fun d => ∃ x : Int, d = .int x ∧ (x = q0 ∨ x = -q0)) (fa_cons ⟨_, rfl, .inl rfl⟩ (fa_cons ⟨_, rfl, .inr rfl⟩ fa_nil)) (by assumption) (by assumption) ?_
  rintro _ ⟨xq, rfl, hxq⟩
  refine dg_name 4 ?_ sc__law_spin.nd
  refine ds_cons ?_
  refine ds_while (γ := Int) PassesOwn.never (fun q => [some (.raw (.ref pp)), some (.int n), some (.int (1 + r1)), some (.int r2), some (.int q)]) (fun q S' => S' = setS pp l5 S0 ∧ 0 ≤ q ∧ q < 1 + r1) (fun q => (1 + r1 - q).toNat) xq ⟨rfl, rfl, rfl, rfl, rfl, trivial⟩ ⟨rfl, hxq⟩ (fun q S' hP => ?_)
  obtain ⟨rfl, hq0, hq1⟩ := hP
  refine dt_w ?_
  refine dw_or ?_
  refine dt_gt ?_
  refine de_call c__law_common gd (hr.mono (by decide)) ?_
  refine da_cons ?_
  refine de_name 2 ?_
  refine da_cons ?_
  refine de_name 4 ?_
  refine da_nil ?_
  refine ⟨_, _, rfl, ?_⟩
  refine de_int ?_
  refine ⟨_, _, rfl, rfl, ?_⟩
  refine ⟨fun hb => ?_, fun hb => ?_⟩
  · refine ⟨fun _ => ?_, fun h => absurd h (by simp)⟩
    refine ds_cons ?_
    refine ds_asg (h := ?_)
    refine de_add ?_
    refine de_name 4 ?_
    refine de_int ?_
    refine add_int ?_
    refine dg_name 4 ?_ sc__law_spin.nd
    refine ds_nil ?_
    have hq2 := spin_turn (p := 1 + r1) (q := q) (by omega) (by omega) (.inl (of_decide_eq_true hb))
    exact ⟨q + 1, ⟨rfl, rfl, rfl, rfl, rfl, trivial⟩, ⟨rfl, by omega, hq2⟩, by omega⟩
  refine dw_or1 ?_
  refine dt_eq (hr.units) ?_
  refine de_mod ?_
  refine de_T call_int1 n_int bt_int ?_
  refine da_cons ?_
  refine de_add ?_
  refine de_name 2 ?_
  refine de_name 4 ?_
  first | refine add_int ?_ | refine add_lst ?_ (by walk_at "len") | refine add_tup ?_ (by walk_at "len3") | refine add_scr ?_ (by walk_at "len") | refine (show addP (.str _) (.str _) _ _ from ⟨by decide +kernel, ?_⟩)
  refine da_nil ?_
  first | refine drc_int ?_ | refine drc_intb ?_
  refine de_int ?_
  refine ⟨_, _, rfl, rfl, (by walk_at "pos"), ?_⟩
  refine de_int ?_
  walk_at "eq"
  refine ⟨fun ht => ?_, fun ht => ?_⟩
  · refine ds_cons ?_
    refine ds_asg (h := ?_)
    refine de_add ?_
    refine de_name 4 ?_
    refine de_int ?_
    first | refine add_int ?_ | refine add_lst ?_ (by walk_at "len") | refine add_tup ?_ (by walk_at "len3") | refine add_scr ?_ (by walk_at "len") | refine (show addP (.str _) (.str _) _ _ from ⟨by decide +kernel, ?_⟩)
    refine dg_name 4 ?_ sc__law_spin.nd
    refine ds_nil ?_
    have hq2 := spin_turn (p := 1 + r1) (q := q) (by omega) (by omega) (.inr (of_decide_eq_true ht))
    exact ⟨q + 1, ⟨rfl, rfl, rfl, rfl, rfl, trivial⟩, ⟨rfl, by omega, hq2⟩, by omega⟩
  have hgc := gcd_one (p := 1 + r1) (q := q) (by omega) (of_decide_eq_false hb)
  have hod : (1 + r1 + q) % 2 = 1 := by have := of_decide_eq_false ht; omega
  obtain ⟨q0, hq0'⟩ : ∃ q0, q0 = q := ⟨q, rfl⟩
  subst hq0'
  refine ds_cons ?_
  refine ds_ret ?_
  refine de_tup ?_
  refine da_cons ?_
  refine de_name 2 ?_
  refine da_cons ?_
  refine de_ix (h := ?_)
  refine de_lst ?_
  refine da_cons ?_
  refine de_name 4 ?_
  refine da_cons ?_
  refine de_neg ?_
  refine de_name 4 ?_
  refine ⟨_, rfl, ?_⟩
  refine da_nil ?_
  refine ⟨by walk_at "len", ?_⟩
  refine de_call c__law_draw gd (hr.mono (by decide)) ?_
  refine da_cons ?_
  refine de_name 0 ?_
  refine da_cons ?_
  refine de_int ?_
  refine da_nil ?_
  refine ⟨_, _, _, _, rfl, (by walk_at "gets"), (by assumption), (by walk_at "m"), (by walk_at "pos"), (by walk_at "bdu"), fun r7 l7 hr7 hn7 hs7 => ?_⟩
  walk_at "sets"
  first | refine ix_pick (fun d => ∃ x : Int, d = .int x ∧ 0 ≤ x ∧ x < 1 + r1) (fa_cons ⟨_, rfl, by walk_at "spx"⟩ (fa_cons ⟨_, rfl, by walk_at "spx"⟩ (fa_cons ⟨_, rfl, by walk_at "spx"⟩ (fa_cons ⟨_, rfl, by walk_at "spx"⟩ (fa_cons ⟨_, rfl, by walk_at "spx"⟩ fa_nil))))) (by assumption) (by show r2 < 5; assumption) ?_ | refine ix_pick (fun d => ∃ x : Int, d = .int x ∧ (x = q0 ∨ x = -q0)) (fa_cons ⟨_, rfl, .inl rfl⟩ (fa_cons ⟨_, rfl, .inr rfl⟩ fa_nil)) (by assumption) (by assumption) ?_
  rintro _ ⟨xq, rfl, hxq⟩
  refine da_cons ?_
  refine de_call c__law_draw gd (hr.mono (by decide)) ?_
  refine da_cons ?_
  refine de_name 0 ?_
  refine da_cons ?_
  refine de_int ?_
  refine da_nil ?_
  refine ⟨_, _, _, _, rfl, (by walk_at "gets"), (by assumption), (by walk_at "m"), (by walk_at "pos"), (by walk_at "bdu"), fun r8 l8 hr8 hn8 hs8 => ?_⟩
  walk_at "sets"
  refine da_nil ?_
  refine ⟨by walk_at "len", ?_⟩
  refine qq _ _ _ _ ?_ (by omega) ((by assumption : Src _ _).up (by omega))
  have tt := tn_mk (p := 1 + r1) (q := q0) (by omega) (by omega) hq0 hq1 hgc hod ⟨by assumption, by assumption⟩
  rcases hxq with e | e
  · rw [e]; exact tt.1
  · rw [e]; exact tt.2
abbrev s__law_dot : Stmt := top 27
theorem sc__law_dot : FnScope ["_law_source_here", "_law_wide", "_law_spots", "_law_k"] ["_law_source_here", "_law_wide"] (defScope s__law_dot) := ⟨rfl, rfl, rfl, by decide +kernel, rfl, by decide +kernel, by decide +kernel⟩
set_option maxHeartbeats 40000000 in
theorem ok__law_dot {f : Addr} {fd : FuncData} (F : Fun K "_law_dot" "_law_dot" s__law_dot f fd) (c__law_draw : Cal P w K mg base 1 "_law_draw" ["_law_source_here", "_law_count"] [] con_draw) (n_range : mg "range" = none) (n_tuple : mg "tuple" = none) : GOk P w K mg base 2 f fd ["_law_source_here", "_law_wide"] (spD K con_dot) := by
  refine gok_ds F sc__law_dot (m := 2) rfl (fun ds S0 Q h => ?_) fun cdv A fr s0 H0 E0' gd hr ds S0 Q h => ?_
  · obtain ⟨_, _, _, _, rfl, _⟩ := h
    rfl
  obtain ⟨pp, n, l, m, rfl, hg, hS, hm, hn, bn, qq⟩ := h
  refine ds_nrm ?_ (by set_option simprocs false in dsimp only [List.map, List.replicate, List.cons_append, List.nil_append])
  refine ds_cons ?_
  refine ds_asg (h := ?_)
  refine de_lstO ?_
  refine da_nil ?_
  refine ⟨by walk_at "len", fun p1 hp1 => ?_⟩
  refine dg_name 2 ?_ sc__law_dot.nd
  refine ds_cons ?_
  refine ds_for (γ := Unit) PassesOwn.never rfl ?_
  refine di_rng1 n_range ?_
  refine da_cons ?_
  refine de_int ?_
  refine da_nil ?_
  refine ⟨_, rfl, (by walk_at "rng"), ?_⟩
  have hne : p1 ≠ pp := fun z => by rw [z, hg] at hp1; cases hp1
  refine ⟨fun _ => [some (.raw (.ref pp)), some (.int n), some (.raw (.ref p1)), none], fun i _ S' => ∃ (xs : List Int) (l' : List D), S' = (p1, xs.map D.int) :: setS pp l' S0 ∧ xs.length = i ∧ (∀ x ∈ xs, -n ≤ x ∧ x ≤ n) ∧ Src (m + i) l' ∧ getS pp (setS pp l' S0) = some l', (), ⟨rfl, rfl, rfl, trivial⟩, ⟨[], l, by rw [setS_self hg] <;> rfl, rfl, (fun _ h => nomatch h), hS, getS_setS_same hg⟩, fun i d _ S' hi hP => ?_, fun _ S' hP => ?_⟩
  · obtain ⟨xs, l', rfl, hl, hx, hS', hg'⟩ := hP
    obtain ⟨hi2, rfl⟩ := rngD_get hi
    have hi3 : i < 2 := hi2
    refine dg_name 3 ?_ sc__law_dot.nd
    refine ds_cons ?_
    refine ds_expr (h := ?_)
    refine de_append ?_
    refine de_name 2 ?_
    refine ⟨_, _, rfl, (by walk_at "gets"), ?_⟩
    refine da_cons ?_
    refine de_sub ?_
    refine de_call c__law_draw gd (hr.mono (by decide)) ?_
    refine da_cons ?_
    refine de_name 0 ?_
    refine da_cons ?_
    refine de_add ?_
    refine de_mul ?_
    refine de_int ?_
    refine de_name 1 ?_
    first | refine mul_i ?_ (by walk_at "cmw") | refine mul_l ?_ ⟨by decide, by decide, by first | decide | exact Nat.le_of_ble_eq_true rfl⟩
    refine de_int ?_
    first | refine add_int ?_ | refine add_lst ?_ (by walk_at "len") | refine add_tup ?_ (by walk_at "len3") | refine add_scr ?_ (by walk_at "len") | refine (show addP (.str _) (.str _) _ _ from ⟨by decide +kernel, ?_⟩)
    refine da_nil ?_
    refine ⟨_, _, _, _, rfl, (by walk_at "gets"), (by assumption), (by walk_at "m"), (by walk_at "pos"), (by walk_at "bdu"), fun r2 l2 hr2 hn2 hs2 => ?_⟩
    walk_at "sets"
    refine de_name 1 ?_
    refine ⟨_, _, rfl, rfl, ?_⟩
    refine da_nil ?_
    refine ⟨_, _, rfl, (by walk_at "gets"), (by walk_at "len"), ?_⟩
    walk_at "sets"
    refine ds_nil ?_
    rw [setS_setS]
    refine ⟨(), ⟨rfl, rfl, rfl, trivial⟩, xs ++ [r2 - n], l2, by rw [List.map_append] <;> rfl, by rw [List.length_append, hl] <;> rfl, fun x hx' => ?_, (by assumption : Src _ _).up (by omega), getS_setS_same hg⟩
    rcases List.mem_append.mp hx' with z | z
    · exact hx x z
    · have z : x = r2 - n := by simpa using z
      omega
  obtain ⟨xs, l', rfl, hl, hx, hS', hg'⟩ := hP
  have hl : xs.length = 2 := hl
  obtain ⟨x, y, rfl⟩ : ∃ x y, xs = [x, y] := by
    match xs, hl with
    | [x, y], _ => exact ⟨x, y, rfl⟩
  refine ds_freeze 2 rfl (ds_nrm ?_) rfl
  refine ds_cons ?_
  refine ds_ret ?_
  refine de_T call_tuple_of n_tuple bt_tuple ?_
  refine da_cons ?_
  refine de_name 2 ?_
  refine da_nil ?_
  first | refine drc_tuple ?_ | refine drc_tupleO getS_hd ?_
  exact qq x y l' (hx x (by simp)) (hx y (by simp)) hS'
abbrev s__law_times : Stmt := top 28
theorem sc__law_times : FnScope ["_law_one", "_law_two"] ["_law_one", "_law_two"] (defScope s__law_times) := ⟨rfl, rfl, rfl, by decide +kernel, rfl, by decide +kernel, by decide +kernel⟩
set_option maxHeartbeats 40000000 in
theorem ok__law_times {f : Addr} {fd : FuncData} (F : Fun K "_law_times" "_law_times" s__law_times f fd)  : GOk P w K mg base 1 f fd ["_law_one", "_law_two"] (spD K con_ltimes) := by
  refine gok_ds F sc__law_times (m := 0) rfl (fun ds S0 Q h => ?_) fun cdv A fr s0 H0 E0' gd hr ds S0 Q h => ?_
  · obtain ⟨_, _, _, _, rfl, _⟩ := h
    rfl
  obtain ⟨x, y, r, s, rfl, ⟨b1, b2, b3, b4⟩, q⟩ := h
  refine ds_nrm ?_ (by set_option simprocs false in dsimp only [List.map, List.replicate, List.cons_append, List.nil_append])
  refine ds_cons ?_
  refine ds_ret ?_
  refine de_tup ?_
  refine da_cons ?_
  refine de_sub ?_
  refine de_mul ?_
  refine de_ix (h := ?_)
  refine de_name 0 ?_
  refine de_int ?_
  walk_at "ix"
  refine de_ix (h := ?_)
  refine de_name 1 ?_
  refine de_int ?_
  walk_at "ix"
  first | refine mul_i ?_ (by walk_at "cmw") | refine mul_l ?_ ⟨by decide, by decide, by first | decide | exact Nat.le_of_ble_eq_true rfl⟩
  refine de_mul ?_
  refine de_ix (h := ?_)
  refine de_name 0 ?_
  refine de_int ?_
  walk_at "ix"
  refine de_ix (h := ?_)
  refine de_name 1 ?_
  refine de_int ?_
  walk_at "ix"
  first | refine mul_i ?_ (by walk_at "cmw") | refine mul_l ?_ ⟨by decide, by decide, by first | decide | exact Nat.le_of_ble_eq_true rfl⟩
  refine ⟨_, _, rfl, rfl, ?_⟩
  refine da_cons ?_
  refine de_add ?_
  refine de_mul ?_
  refine de_ix (h := ?_)
  refine de_name 0 ?_
  refine de_int ?_
  walk_at "ix"
  refine de_ix (h := ?_)
  refine de_name 1 ?_
  refine de_int ?_
  walk_at "ix"
  first | refine mul_i ?_ (by walk_at "cmw") | refine mul_l ?_ ⟨by decide, by decide, by first | decide | exact Nat.le_of_ble_eq_true rfl⟩
  refine de_mul ?_
  refine de_ix (h := ?_)
  refine de_name 0 ?_
  refine de_int ?_
  walk_at "ix"
  refine de_ix (h := ?_)
  refine de_name 1 ?_
  refine de_int ?_
  walk_at "ix"
  first | refine mul_i ?_ (by walk_at "cmw") | refine mul_l ?_ ⟨by decide, by decide, by first | decide | exact Nat.le_of_ble_eq_true rfl⟩
  first | refine add_int ?_ | refine add_lst ?_ (by walk_at "len") | refine add_tup ?_ (by walk_at "len3") | refine add_scr ?_ (by walk_at "len") | refine (show addP (.str _) (.str _) _ _ from ⟨by decide +kernel, ?_⟩)
  refine da_nil ?_
  refine ⟨by walk_at "len", ?_⟩
  exact q
abbrev s__law_legs : Stmt := top 29
theorem sc__law_legs : FnScope ["_law_spin_here", "_law_p", "_law_q"] ["_law_spin_here"] (defScope s__law_legs) := ⟨rfl, rfl, rfl, by decide +kernel, rfl, by decide +kernel, by decide +kernel⟩
set_option maxHeartbeats 40000000 in
theorem ok__law_legs {f : Addr} {fd : FuncData} (F : Fun K "_law_legs" "_law_legs" s__law_legs f fd)  : GOk P w K mg base 1 f fd ["_law_spin_here"] (spD K con_llegs) := by
  refine gok_ds F sc__law_legs (m := 2) rfl (fun ds S0 Q h => ?_) fun cdv A fr s0 H0 E0' gd hr ds S0 Q h => ?_
  · obtain ⟨_, _, _, rfl, _⟩ := h
    rfl
  obtain ⟨l, p, q, rfl, e0, e1, ⟨b1, b2⟩, qq⟩ := h
  refine ds_nrm ?_ (by set_option simprocs false in dsimp only [List.map, List.replicate, List.cons_append, List.nil_append])
  refine ds_cons ?_
  refine ds_par (i := 1) (j := 2) rfl sc__law_legs.nd rfl rfl (by decide) ?_
  refine da_cons ?_
  refine de_ix (h := ?_)
  refine de_name 0 ?_
  refine de_int ?_
  first | refine ix_t ?_ e0 | refine ix_t ?_ e1
  refine da_cons ?_
  refine de_ix (h := ?_)
  refine de_name 0 ?_
  refine de_int ?_
  first | refine ix_t ?_ e0 | refine ix_t ?_ e1
  refine da_nil ?_
  refine ⟨_, _, rfl, ?_⟩
  refine ds_nrm ?_
  refine ds_cons ?_
  refine ds_ret ?_
  refine de_tup ?_
  refine da_cons ?_
  refine de_sub ?_
  refine de_mul ?_
  refine de_name 1 ?_
  refine de_name 1 ?_
  first | refine mul_i ?_ (by walk_at "cmw") | refine mul_l ?_ ⟨by decide, by decide, by first | decide | exact Nat.le_of_ble_eq_true rfl⟩
  refine de_mul ?_
  refine de_name 2 ?_
  refine de_name 2 ?_
  first | refine mul_i ?_ (by walk_at "cmw") | refine mul_l ?_ ⟨by decide, by decide, by first | decide | exact Nat.le_of_ble_eq_true rfl⟩
  refine ⟨_, _, rfl, rfl, ?_⟩
  refine da_cons ?_
  refine de_mul ?_
  refine de_mul ?_
  refine de_int ?_
  refine de_name 1 ?_
  first | refine mul_i ?_ (by walk_at "cmw") | refine mul_l ?_ ⟨by decide, by decide, by first | decide | exact Nat.le_of_ble_eq_true rfl⟩
  refine de_name 2 ?_
  first | refine mul_i ?_ (by walk_at "cmw") | refine mul_l ?_ ⟨by decide, by decide, by first | decide | exact Nat.le_of_ble_eq_true rfl⟩
  refine da_cons ?_
  refine de_add ?_
  refine de_mul ?_
  refine de_name 1 ?_
  refine de_name 1 ?_
  first | refine mul_i ?_ (by walk_at "cmw") | refine mul_l ?_ ⟨by decide, by decide, by first | decide | exact Nat.le_of_ble_eq_true rfl⟩
  refine de_mul ?_
  refine de_name 2 ?_
  refine de_name 2 ?_
  first | refine mul_i ?_ (by walk_at "cmw") | refine mul_l ?_ ⟨by decide, by decide, by first | decide | exact Nat.le_of_ble_eq_true rfl⟩
  first | refine add_int ?_ | refine add_lst ?_ (by walk_at "len") | refine add_tup ?_ (by walk_at "len3") | refine add_scr ?_ (by walk_at "len") | refine (show addP (.str _) (.str _) _ _ from ⟨by decide +kernel, ?_⟩)
  refine da_nil ?_
  refine ⟨by walk_at "len", ?_⟩
  exact qq
abbrev s__law_close : Stmt := top 30
theorem sc__law_close : FnScope ["_law_top", "_law_low", "_law_down"] ["_law_top", "_law_low"] (defScope s__law_close) := ⟨rfl, rfl, rfl, by decide +kernel, rfl, by decide +kernel, by decide +kernel⟩
set_option maxHeartbeats 40000000 in
theorem ok__law_close {f : Addr} {fd : FuncData} (F : Fun K "_law_close" "_law_close" s__law_close f fd)  : GOk P w K mg base 1 f fd ["_law_top", "_law_low"] (spD K con_close) := by
  refine gok_ds F sc__law_close (m := 1) rfl (fun ds S0 Q h => ?_) fun cdv A fr s0 H0 E0' gd hr ds S0 Q h => ?_
  · obtain ⟨_, _, rfl, _⟩ := h
    rfl
  obtain ⟨t, l, rfl, ⟨b1, b2, b3⟩, q⟩ := h
  have ce := close_eq (t := t) b3
  refine ds_nrm ?_ (by set_option simprocs false in dsimp only [List.map, List.replicate, List.cons_append, List.nil_append])
  refine ds_cons ?_
  refine ds_asg (h := ?_)
  refine de_fdiv ?_
  refine de_name 0 ?_
  refine de_name 1 ?_
  refine ⟨_, _, rfl, rfl, (by walk_at "cdw"), ?_⟩
  refine dg_name 2 ?_ sc__law_close.nd
  refine ds_cons ?_
  refine ds_ret ?_
  refine de_ifE ?_
  refine dt_lt ?_
  refine de_mul ?_
  refine de_int ?_
  refine de_sub ?_
  refine de_name 0 ?_
  refine de_mul ?_
  refine de_name 2 ?_
  refine de_name 1 ?_
  first | refine mul_i ?_ (by walk_at "cmw") | refine mul_l ?_ ⟨by decide, by decide, by first | decide | exact Nat.le_of_ble_eq_true rfl⟩
  refine ⟨_, _, rfl, rfl, ?_⟩
  first | refine mul_i ?_ (by walk_at "cmw") | refine mul_l ?_ ⟨by decide, by decide, by first | decide | exact Nat.le_of_ble_eq_true rfl⟩
  refine de_name 1 ?_
  refine ⟨_, _, rfl, rfl, ?_⟩
  refine ⟨fun ht => ?_, fun ht => ?_⟩
  · refine de_name 2 ?_
    rw [if_pos (of_decide_eq_true ht)] at ce
    rw [ce]
    exact q
  refine de_add ?_
  refine de_name 2 ?_
  refine de_int ?_
  first | refine add_int ?_ | refine add_lst ?_ (by walk_at "len") | refine add_tup ?_ (by walk_at "len3") | refine add_scr ?_ (by walk_at "len") | refine (show addP (.str _) (.str _) _ _ from ⟨by decide +kernel, ?_⟩)
  rw [if_neg (of_decide_eq_false ht)] at ce
  rw [ce]
  exact q
abbrev s__law_seen : Stmt := top 31
theorem sc__law_seen : FnScope ["_law_spin_here", "_law_dot_here", "_law_a", "_law_b", "_law_c", "_law_x", "_law_y", "_law_found", "_law_turned_here"] ["_law_spin_here", "_law_dot_here"] (defScope s__law_seen) := ⟨rfl, rfl, rfl, by decide +kernel, rfl, by decide +kernel, by decide +kernel⟩
set_option maxHeartbeats 40000000 in
theorem ok__law_seen {f : Addr} {fd : FuncData} (F : Fun K "_law_seen" "_law_seen" s__law_seen f fd) (c__law_close : Cal P w K mg base 1 "_law_close" ["_law_top", "_law_low"] [] con_close) (c__law_legs : Cal P w K mg base 1 "_law_legs" ["_law_spin_here"] [] con_llegs) (c__law_times : Cal P w K mg base 1 "_law_times" ["_law_one", "_law_two"] [] con_ltimes) (n_range : mg "range" = none) : GOk P w K mg base 2 f fd ["_law_spin_here", "_law_dot_here"] (spD K con_seen) := by
  refine gok_ds F sc__law_seen (m := 7) rfl (fun ds S0 Q h => ?_) fun cdv A fr s0 H0 E0' gd hr ds S0 Q h => ?_
  · obtain ⟨_, _, _, _, _, rfl, _⟩ := h
    rfl
  obtain ⟨p, q, k, x, y, rfl, hT, ⟨bx, by'⟩, qq⟩ := h
  have b1 := hT.bp
  have b2 := hT.bq
  have b3 := tn_b3 hT
  have k1 := hT.k1
  have k2 := hT.k2
  have cp : 0 < p * p + q * q := cc_pos hT
  refine ds_nrm ?_ (by set_option simprocs false in dsimp only [List.map, List.replicate, List.cons_append, List.nil_append])
  refine ds_cons ?_
  refine ds_asg (h := ?_)
  refine de_call c__law_legs gd (hr.mono (by decide)) ?_
  refine da_cons ?_
  refine de_name 0 ?_
  refine da_nil ?_
  refine ⟨_, _, _, rfl, (by walk_at "at"), (by walk_at "at"), ⟨by walk_at "bdu", by walk_at "bdu"⟩, ?_⟩
  first | refine dg_tup rfl rfl ?_ | refine dg_tupL rfl rfl ?_ (fun h => pg_lst rfl h)
  refine dgs_cons (h := ?_)
  refine dg_name 2 ?_ sc__law_seen.nd
  refine dgs_cons (h := ?_)
  refine dg_name 3 ?_ sc__law_seen.nd
  refine dgs_cons (h := ?_)
  refine dg_name 4 ?_ sc__law_seen.nd
  refine dgs_nil ?_
  refine ds_cons ?_
  refine ds_asg (h := ?_)
  refine de_call c__law_times gd (hr.mono (by decide)) ?_
  refine da_cons ?_
  refine de_tup ?_
  refine da_cons ?_
  refine de_name 2 ?_
  refine da_cons ?_
  refine de_name 3 ?_
  refine da_nil ?_
  refine ⟨by walk_at "len", ?_⟩
  refine da_cons ?_
  refine de_name 1 ?_
  refine da_nil ?_
  refine ⟨_, _, _, _, rfl, ⟨by walk_at "bdu", by walk_at "bdu", by walk_at "bdu", by walk_at "bdu"⟩, ?_⟩
  first | refine dg_tup rfl rfl ?_ | refine dg_tupL rfl rfl ?_ (fun h => pg_lst rfl h)
  refine dgs_cons (h := ?_)
  refine dg_name 5 ?_ sc__law_seen.nd
  refine dgs_cons (h := ?_)
  refine dg_name 6 ?_ sc__law_seen.nd
  refine dgs_nil ?_
  refine ds_cons ?_
  refine ds_asg (h := ?_)
  refine de_tup ?_
  refine da_cons ?_
  refine de_call c__law_close gd (hr.mono (by decide)) ?_
  refine da_cons ?_
  refine de_name 5 ?_
  refine da_cons ?_
  refine de_name 4 ?_
  refine da_nil ?_
  refine ⟨_, _, rfl, ⟨by walk_at "bdu", by walk_at "bdu", by walk_at "pos"⟩, ?_⟩
  refine da_cons ?_
  refine de_call c__law_close gd (hr.mono (by decide)) ?_
  refine da_cons ?_
  refine de_name 6 ?_
  refine da_cons ?_
  refine de_name 4 ?_
  refine da_nil ?_
  refine ⟨_, _, rfl, ⟨by walk_at "bdu", by walk_at "bdu", by walk_at "pos"⟩, ?_⟩
  refine da_nil ?_
  refine ⟨by walk_at "len", ?_⟩
  refine dg_name 7 ?_ sc__law_seen.nd
  refine ds_cons ?_
  refine ds_for (γ := Nat) PassesOwn.never rfl ?_
  refine di_rng1 n_range ?_
  refine da_cons ?_
  refine de_ix (h := ?_)
  refine de_name 0 ?_
  refine de_int ?_
  walk_at "ix"
  refine da_nil ?_
  refine ⟨_, rfl, (by walk_at "rng"), ?_⟩
  refine ⟨fun j : Nat => [some (.tup [.int p, .int q, .int k]), some (.tup [.int x, .int y]), some (.int (p * p - q * q)), some (.int (2 * p * q)), some (.int (p * p + q * q)), some (.int ((p * p - q * q) * x - 2 * p * q * y)), some (.int ((p * p - q * q) * y + 2 * p * q * x)), some (.tup [.int (rtX j (nrr ((p * p - q * q) * x - 2 * p * q * y) (p * p + q * q)) (nrr ((p * p - q * q) * y + 2 * p * q * x) (p * p + q * q))), .int (rtY j (nrr ((p * p - q * q) * x - 2 * p * q * y) (p * p + q * q)) (nrr ((p * p - q * q) * y + 2 * p * q * x) (p * p + q * q)))]), none], fun i j S' => j = i ∧ S' = S0, 0, ⟨rfl, rfl, rfl, rfl, rfl, rfl, rfl, rfl, trivial⟩, ⟨rfl, rfl⟩, fun i d j S' hi hP => ?_, fun j S' hP => ?_⟩
  · obtain ⟨rfl, rfl⟩ := hP
    obtain ⟨hlt, rfl⟩ := rngD_get hi
    have hj : j < 3 := by omega
    refine dg_name 8 ?_ sc__law_seen.nd
    refine ds_cons ?_
    refine ds_asg (h := ?_)
    refine de_tup ?_
    refine da_cons ?_
    refine de_neg ?_
    refine de_ix (h := ?_)
    refine de_name 7 ?_
    refine de_int ?_
    walk_at "ix"
    refine ⟨_, rfl, ?_⟩
    refine da_cons ?_
    refine de_ix (h := ?_)
    refine de_name 7 ?_
    refine de_int ?_
    walk_at "ix"
    refine da_nil ?_
    refine ⟨by walk_at "len", ?_⟩
    refine dg_name 7 ?_ sc__law_seen.nd
    refine ds_nil ?_
    exact ⟨j + 1, ⟨rfl, rfl, rfl, rfl, rfl, rfl, rfl, by rw [(rt_step j hj _ _).1, (rt_step j hj _ _).2] <;> rfl, trivial⟩, rfl, rfl⟩
  obtain ⟨rfl, rfl⟩ := hP
  rw [rngD_len]
  refine ds_cons ?_
  refine ds_ret ?_
  refine de_name 7 ?_
  exact (congrArg (fun d => Q d _) (seen_eq hT x y)).mpr qq
abbrev s_is_rest : Stmt := top 21
theorem sc_is_rest : FnScope ["turn", "value", "p", "q", "_", "half", "x", "y"] ["turn", "value"] (defScope s_is_rest) := ⟨rfl, rfl, rfl, by decide +kernel, rfl, by decide +kernel, by decide +kernel⟩
set_option maxHeartbeats 40000000 in
theorem ok_is_rest {f : Addr} {fd : FuncData} (F : Fun K "is_rest" "is_rest" s_is_rest f fd) (c_check_turn : Cal P w K mg base 4 "check_turn" ["turn"] [] con_check_turn) (c_is_whole_tuple : Cal P w K mg base 2 "is_whole_tuple" ["value", "size"] [] (con_wtA K)) (c_times : Cal P w K mg base 1 "times" ["one", "other"] [] con_times) (n_abs : mg "abs" = none) : GOk P w K mg base 5 f fd ["turn", "value"] (spD K (con_isrestA K)) := by
  refine gok_ds F sc_is_rest (m := 6) rfl (fun ds S0 Q h => ?_) fun cdv A fr s0 H0 E0' gd hr ds S0 Q h => ?_
  · obtain ⟨_, _, _, _, rfl, _⟩ := h
    rfl
  obtain ⟨p, q, k, d, rfl, hT, hA, hbd, qq⟩ := h
  have b1 := hT.bp
  have b2 := hT.bq
  refine ds_nrm ?_ (by set_option simprocs false in dsimp only [List.map, List.replicate, List.cons_append, List.nil_append])
  refine ds_cons ?_
  refine ds_expr (h := ?_)
  refine de_call c_check_turn gd (hr.mono (by decide)) ?_
  refine da_cons ?_
  refine de_name 0 ?_
  refine da_nil ?_
  refine ⟨_, _, _, rfl, by walk_at "tn", ?_⟩
  refine ds_cons ?_
  refine ds_if ?_
  refine dt_not ?_
  refine dt_val (h := ?_)
  refine de_call c_is_whole_tuple gd (hr.mono (by decide)) ?_
  refine da_cons ?_
  refine de_name 1 ?_
  refine da_cons ?_
  refine de_int ?_
  refine da_nil ?_
  refine ⟨_, _, rfl, hA.t, hA.l, ?_⟩
  refine ⟨_, rfl, ?_⟩
  refine ⟨fun ht => ?_, fun ht => ?_⟩
  · rw [restB_no (by unfold pixB; simpa using ht)] at qq
    refine ds_cons ?_
    refine ds_ret ?_
    refine de_bl ?_
    exact qq
  obtain ⟨x, y, rfl⟩ := wt2 (d := d) (by unfold pixB; simpa using ht)
  obtain ⟨bx, by'⟩ := hbd x y rfl
  refine ds_nil ?_
  refine ds_cons ?_
  refine ds_asg (h := ?_)
  refine de_name 0 ?_
  first | refine dg_tup rfl rfl ?_ | refine dg_tupL rfl rfl ?_ (fun h => pg_lst rfl h)
  refine dgs_cons (h := ?_)
  refine dg_name 2 ?_ sc_is_rest.nd
  refine dgs_cons (h := ?_)
  refine dg_name 3 ?_ sc_is_rest.nd
  refine dgs_cons (h := ?_)
  refine dg_name 4 ?_ sc_is_rest.nd
  refine dgs_nil ?_
  refine ds_cons ?_
  refine ds_asg (h := ?_)
  refine de_fdiv ?_
  refine de_sub ?_
  refine de_add ?_
  refine de_mul ?_
  refine de_name 2 ?_
  refine de_name 2 ?_
  first | refine mul_i ?_ (by walk_at "cmw") | refine mul_l ?_ ⟨by decide, by decide, by first | decide | exact Nat.le_of_ble_eq_true rfl⟩
  refine de_mul ?_
  refine de_name 3 ?_
  refine de_name 3 ?_
  first | refine mul_i ?_ (by walk_at "cmw") | refine mul_l ?_ ⟨by decide, by decide, by first | decide | exact Nat.le_of_ble_eq_true rfl⟩
  first | refine add_int ?_ | refine add_lst ?_ (by walk_at "len") | refine add_tup ?_ (by walk_at "len3") | refine add_scr ?_ (by walk_at "len") | refine (show addP (.str _) (.str _) _ _ from ⟨by decide +kernel, ?_⟩)
  refine de_int ?_
  refine ⟨_, _, rfl, rfl, ?_⟩
  refine de_int ?_
  refine ⟨_, _, rfl, rfl, (by walk_at "cdw"), ?_⟩
  refine dg_name 5 ?_ sc_is_rest.nd
  refine ds_cons ?_
  refine ds_asg (h := ?_)
  refine de_call c_times gd (hr.mono (by decide)) ?_
  refine da_cons ?_
  refine de_tup ?_
  refine da_cons ?_
  refine de_name 2 ?_
  refine da_cons ?_
  refine de_name 3 ?_
  refine da_nil ?_
  refine ⟨by walk_at "len", ?_⟩
  refine da_cons ?_
  refine de_name 1 ?_
  refine da_nil ?_
  refine ⟨_, _, _, _, rfl, ⟨by walk_at "bdu", by walk_at "bdu", by walk_at "bdu", by walk_at "bdu"⟩, ?_⟩
  first | refine dg_tup rfl rfl ?_ | refine dg_tupL rfl rfl ?_ (fun h => pg_lst rfl h)
  refine dgs_cons (h := ?_)
  refine dg_name 6 ?_ sc_is_rest.nd
  refine dgs_cons (h := ?_)
  refine dg_name 7 ?_ sc_is_rest.nd
  refine dgs_nil ?_
  refine ds_cons ?_
  refine ds_ret ?_
  refine de_and ?_
  refine de_le ?_
  refine de_B call_abs n_abs bt_abs ?_
  refine da_cons ?_
  refine de_name 6 ?_
  refine da_nil ?_
  refine drc_abs ?_
  refine de_name 5 ?_
  refine ⟨_, _, rfl, rfl, ?_⟩
  refine ⟨_, rfl, fun hb => ?_, fun hb => ?_⟩
  · rw [show restB p q (.tup [.int x, .int y]) = false from decide_eq_false fun z => (of_decide_eq_false hb) (half_le.mpr z.1)] at qq
    exact qq
  refine de_one ?_
  refine de_le ?_
  refine de_B call_abs n_abs bt_abs ?_
  refine da_cons ?_
  refine de_name 7 ?_
  refine da_nil ?_
  refine drc_abs ?_
  refine de_name 5 ?_
  refine ⟨_, _, rfl, rfl, ?_⟩
  refine (congrArg (fun v => Q (.bl v) _) (show restB p q (.tup [.int x, .int y]) = _ from decide_eq_decide.mpr ⟨fun z => half_le.mpr z.2, fun z => ⟨half_le.mp (of_decide_eq_true hb), half_le.mp z⟩⟩)).mp qq
abbrev s_rest_of : Stmt := top 20
theorem sc_rest_of : FnScope ["turn", "pixel", "p", "q", "_", "m", "n", "r", "s"] ["turn", "pixel"] (defScope s_rest_of) := ⟨rfl, rfl, rfl, by decide +kernel, rfl, by decide +kernel, by decide +kernel⟩
set_option maxHeartbeats 40000000 in
theorem ok_rest_of {f : Addr} {fd : FuncData} (F : Fun K "rest_of" "rest_of" s_rest_of f fd) (c_check_pixel : Cal P w K mg base 4 "check_pixel" ["pixel"] [] con_check_pixel) (c_check_turn : Cal P w K mg base 4 "check_turn" ["turn"] [] con_check_turn) (c_image : Cal P w K mg base 7 "image" ["turn", "pixel"] [] con_image) (c_times : Cal P w K mg base 1 "times" ["one", "other"] [] con_times) : GOk P w K mg base 8 f fd ["turn", "pixel"] (spD K con_rest_of) := by
  refine gok_ds F sc_rest_of (m := 7) rfl (fun ds S0 Q h => ?_) fun cdv A fr s0 H0 E0' gd hr ds S0 Q h => ?_
  · obtain ⟨_, _, _, _, _, rfl, _⟩ := h
    rfl
  obtain ⟨p, q, k, x, y, rfl, hT, ⟨bx, by'⟩, qq⟩ := h
  have b1 := hT.bp
  have b2 := hT.bq
  refine ds_nrm ?_ (by set_option simprocs false in dsimp only [List.map, List.replicate, List.cons_append, List.nil_append])
  refine ds_cons ?_
  refine ds_expr (h := ?_)
  refine de_call c_check_turn gd (hr.mono (by decide)) ?_
  refine da_cons ?_
  refine de_name 0 ?_
  refine da_nil ?_
  refine ⟨_, _, _, rfl, by walk_at "tn", ?_⟩
  refine ds_cons ?_
  refine ds_expr (h := ?_)
  refine de_call c_check_pixel gd (hr.mono (by decide)) ?_
  refine da_cons ?_
  refine de_name 1 ?_
  refine da_nil ?_
  refine ⟨_, _, rfl, ?_⟩
  refine ds_cons ?_
  refine ds_asg (h := ?_)
  refine de_name 0 ?_
  first | refine dg_tup rfl rfl ?_ | refine dg_tupL rfl rfl ?_ (fun h => pg_lst rfl h)
  refine dgs_cons (h := ?_)
  refine dg_name 2 ?_ sc_rest_of.nd
  refine dgs_cons (h := ?_)
  refine dg_name 3 ?_ sc_rest_of.nd
  refine dgs_cons (h := ?_)
  refine dg_name 4 ?_ sc_rest_of.nd
  refine dgs_nil ?_
  refine ds_cons ?_
  refine ds_asg (h := ?_)
  refine de_call c_times gd (hr.mono (by decide)) ?_
  refine da_cons ?_
  refine de_tup ?_
  refine da_cons ?_
  refine de_name 2 ?_
  refine da_cons ?_
  refine de_name 3 ?_
  refine da_nil ?_
  refine ⟨by walk_at "len", ?_⟩
  refine da_cons ?_
  refine de_name 1 ?_
  refine da_nil ?_
  refine ⟨_, _, _, _, rfl, ⟨by walk_at "bdu", by walk_at "bdu", by walk_at "bdu", by walk_at "bdu"⟩, ?_⟩
  first | refine dg_tup rfl rfl ?_ | refine dg_tupL rfl rfl ?_ (fun h => pg_lst rfl h)
  refine dgs_cons (h := ?_)
  refine dg_name 5 ?_ sc_rest_of.nd
  refine dgs_cons (h := ?_)
  refine dg_name 6 ?_ sc_rest_of.nd
  refine dgs_nil ?_
  refine ds_cons ?_
  refine ds_asg (h := ?_)
  refine de_call c_times gd (hr.mono (by decide)) ?_
  refine da_cons ?_
  refine de_tup ?_
  refine da_cons ?_
  refine de_name 2 ?_
  refine da_cons ?_
  refine de_neg ?_
  refine de_name 3 ?_
  refine ⟨_, rfl, ?_⟩
  refine da_nil ?_
  refine ⟨by walk_at "len", ?_⟩
  refine da_cons ?_
  refine de_call c_image gd (hr.mono (by decide)) ?_
  refine da_cons ?_
  refine de_tup ?_
  refine da_cons ?_
  refine de_name 2 ?_
  refine da_cons ?_
  refine de_name 3 ?_
  refine da_cons ?_
  refine de_int ?_
  refine da_nil ?_
  refine ⟨by walk_at "len", ?_⟩
  refine da_cons ?_
  refine de_name 1 ?_
  refine da_nil ?_
  refine ⟨_, _, _, _, _, rfl, by walk_at "tn", ⟨by walk_at "bdu", by walk_at "bdu"⟩, ?_⟩
  refine da_nil ?_
  refine ⟨_, _, _, _, rfl, ⟨by walk_at "bdu", by walk_at "bdu", by walk_at "bdu", by walk_at "bdu"⟩, ?_⟩
  first | refine dg_tup rfl rfl ?_ | refine dg_tupL rfl rfl ?_ (fun h => pg_lst rfl h)
  refine dgs_cons (h := ?_)
  refine dg_name 7 ?_ sc_rest_of.nd
  refine dgs_cons (h := ?_)
  refine dg_name 8 ?_ sc_rest_of.nd
  refine dgs_nil ?_
  refine ds_cons ?_
  refine ds_ret ?_
  refine de_tup ?_
  refine da_cons ?_
  refine de_sub ?_
  refine de_name 5 ?_
  refine de_name 7 ?_
  refine ⟨_, _, rfl, rfl, ?_⟩
  refine da_cons ?_
  refine de_sub ?_
  refine de_name 6 ?_
  refine de_name 8 ?_
  refine ⟨_, _, rfl, rfl, ?_⟩
  refine da_nil ?_
  refine ⟨by walk_at "len", ?_⟩
  exact qq
abbrev s__law_left : Stmt := top 32
theorem sc__law_left : FnScope ["_law_spin_here", "_law_dot_here", "_law_goal", "_law_one", "_law_two"] ["_law_spin_here", "_law_dot_here"] (defScope s__law_left) := ⟨rfl, rfl, rfl, by decide +kernel, rfl, by decide +kernel, by decide +kernel⟩
set_option maxHeartbeats 40000000 in
theorem ok__law_left {f : Addr} {fd : FuncData} (F : Fun K "_law_left" "_law_left" s__law_left f fd) (c__law_seen : Cal P w K mg base 2 "_law_seen" ["_law_spin_here", "_law_dot_here"] [] con_seen) (c__law_times : Cal P w K mg base 1 "_law_times" ["_law_one", "_law_two"] [] con_ltimes) : GOk P w K mg base 3 f fd ["_law_spin_here", "_law_dot_here"] (spD K con_left) := by
  refine gok_ds F sc__law_left (m := 3) rfl (fun ds S0 Q h => ?_) fun cdv A fr s0 H0 E0' gd hr ds S0 Q h => ?_
  · obtain ⟨_, _, _, _, _, rfl, _⟩ := h
    rfl
  obtain ⟨p, q, k, x, y, rfl, hT, ⟨bx, by'⟩, qq⟩ := h
  have b1 := hT.bp
  have b2 := hT.bq
  have b3 := tn_b3 hT
  refine ds_nrm ?_ (by set_option simprocs false in dsimp only [List.map, List.replicate, List.cons_append, List.nil_append])
  refine ds_cons ?_
  refine ds_asg (h := ?_)
  refine de_call c__law_seen gd (hr.mono (by decide)) ?_
  refine da_cons ?_
  refine de_add ?_
  refine de_slice ?_
  refine de_name 0 ?_
  refine do_none ?_
  refine do_some ?_
  refine de_int ?_
  refine ⟨rfl, _, rfl, ?_⟩
  walk_at "slice"
  refine de_tup ?_
  refine da_cons ?_
  refine de_int ?_
  refine da_nil ?_
  refine ⟨by walk_at "len", ?_⟩
  first | refine add_int ?_ | refine add_lst ?_ (by walk_at "len") | refine add_tup ?_ (by walk_at "len3") | refine add_scr ?_ (by walk_at "len") | refine (show addP (.str _) (.str _) _ _ from ⟨by decide +kernel, ?_⟩)
  refine da_cons ?_
  refine de_name 1 ?_
  refine da_nil ?_
  refine ⟨_, _, _, _, _, rfl, by walk_at "tn", ⟨by walk_at "bdu", by walk_at "bdu"⟩, ?_⟩
  refine dg_name 2 ?_ sc__law_left.nd
  refine ds_cons ?_
  refine ds_par (i := 3) (j := 4) rfl sc__law_left.nd rfl rfl (by decide) ?_
  refine da_cons ?_
  refine de_call c__law_times gd (hr.mono (by decide)) ?_
  refine da_cons ?_
  refine de_slice ?_
  refine de_name 0 ?_
  refine do_none ?_
  refine do_some ?_
  refine de_int ?_
  refine ⟨rfl, _, rfl, ?_⟩
  walk_at "slice"
  refine da_cons ?_
  refine de_name 1 ?_
  refine da_nil ?_
  refine ⟨_, _, _, _, rfl, ⟨by walk_at "bdu", by walk_at "bdu", by walk_at "bdu", by walk_at "bdu"⟩, ?_⟩
  refine da_cons ?_
  refine de_call c__law_times gd (hr.mono (by decide)) ?_
  refine da_cons ?_
  refine de_tup ?_
  refine da_cons ?_
  refine de_ix (h := ?_)
  refine de_name 0 ?_
  refine de_int ?_
  walk_at "ix"
  refine da_cons ?_
  refine de_neg ?_
  refine de_ix (h := ?_)
  refine de_name 0 ?_
  refine de_int ?_
  walk_at "ix"
  refine ⟨_, rfl, ?_⟩
  refine da_nil ?_
  refine ⟨by walk_at "len", ?_⟩
  refine da_cons ?_
  refine de_name 2 ?_
  refine da_nil ?_
  refine ⟨_, _, _, _, rfl, ⟨by walk_at "bdu", by walk_at "bdu", by walk_at "bdu", by walk_at "bdu"⟩, ?_⟩
  refine da_nil ?_
  refine ⟨_, _, rfl, ?_⟩
  refine ds_nrm ?_
  refine ds_cons ?_
  refine ds_ret ?_
  refine de_tup ?_
  refine da_cons ?_
  refine de_sub ?_
  refine de_ix (h := ?_)
  refine de_name 3 ?_
  refine de_int ?_
  walk_at "ix"
  refine de_ix (h := ?_)
  refine de_name 4 ?_
  refine de_int ?_
  walk_at "ix"
  refine ⟨_, _, rfl, rfl, ?_⟩
  refine da_cons ?_
  refine de_sub ?_
  refine de_ix (h := ?_)
  refine de_name 3 ?_
  refine de_int ?_
  walk_at "ix"
  refine de_ix (h := ?_)
  refine de_name 4 ?_
  refine de_int ?_
  walk_at "ix"
  refine ⟨_, _, rfl, rfl, ?_⟩
  refine da_nil ?_
  refine ⟨by walk_at "len", ?_⟩
  exact qq
abbrev s__law_inside : Stmt := top 33
theorem sc__law_inside : FnScope ["_law_spin_here", "_law_pair", "_law_h", "_law_found"] ["_law_spin_here", "_law_pair"] (defScope s__law_inside) := ⟨rfl, rfl, rfl, by decide +kernel, rfl, by decide +kernel, by decide +kernel⟩
set_option maxHeartbeats 40000000 in
theorem ok__law_inside {f : Addr} {fd : FuncData} (F : Fun K "_law_inside" "_law_inside" s__law_inside f fd) (c__law_times : Cal P w K mg base 1 "_law_times" ["_law_one", "_law_two"] [] con_ltimes) (n_abs : mg "abs" = none) : GOk P w K mg base 2 f fd ["_law_spin_here", "_law_pair"] (spD K con_ins7) := by
  refine gok_ds F sc__law_inside (m := 2) rfl (fun ds S0 Q h => ?_) fun cdv A fr s0 H0 E0' gd hr ds S0 Q h => ?_
  · obtain ⟨_, _, _, _, _, rfl, _⟩ := h
    rfl
  obtain ⟨p, q, k, m, n, rfl, hT, ⟨bm, bn⟩, qq⟩ := h
  have b1 := hT.bp
  have b2 := hT.bq
  have hi9 := inside_iff hT m n
  refine ds_nrm ?_ (by set_option simprocs false in dsimp only [List.map, List.replicate, List.cons_append, List.nil_append])
  refine ds_cons ?_
  refine ds_par (i := 2) (j := 3) rfl sc__law_inside.nd rfl rfl (by decide) ?_
  refine da_cons ?_
  refine de_fdiv ?_
  refine de_add ?_
  refine de_pow ?_
  refine de_ix (h := ?_)
  refine de_name 0 ?_
  refine de_int ?_
  walk_at "ix"
  refine de_int ?_
  refine ⟨_, _, rfl, rfl, (by walk_at "cpw"), ?_⟩
  refine de_pow ?_
  refine de_ix (h := ?_)
  refine de_name 0 ?_
  refine de_int ?_
  walk_at "ix"
  refine de_int ?_
  refine ⟨_, _, rfl, rfl, (by walk_at "cpw"), ?_⟩
  first | refine add_int ?_ | refine add_lst ?_ (by walk_at "len") | refine add_tup ?_ (by walk_at "len3") | refine add_scr ?_ (by walk_at "len") | refine (show addP (.str _) (.str _) _ _ from ⟨by decide +kernel, ?_⟩)
  refine de_int ?_
  refine ⟨_, _, rfl, rfl, (by walk_at "cdw"), ?_⟩
  refine da_cons ?_
  refine de_call c__law_times gd (hr.mono (by decide)) ?_
  refine da_cons ?_
  refine de_slice ?_
  refine de_name 0 ?_
  refine do_none ?_
  refine do_some ?_
  refine de_int ?_
  refine ⟨rfl, _, rfl, ?_⟩
  walk_at "slice"
  refine da_cons ?_
  refine de_name 1 ?_
  refine da_nil ?_
  refine ⟨_, _, _, _, rfl, ⟨by walk_at "bdu", by walk_at "bdu", by walk_at "bdu", by walk_at "bdu"⟩, ?_⟩
  refine da_nil ?_
  refine ⟨_, _, rfl, ?_⟩
  refine ds_nrm ?_
  rw [cc2]
  refine ds_cons ?_
  refine ds_ret ?_
  refine de_and ?_
  refine de_le ?_
  refine de_B call_abs n_abs bt_abs ?_
  refine da_cons ?_
  refine de_ix (h := ?_)
  refine de_name 3 ?_
  refine de_int ?_
  walk_at "ix"
  refine da_nil ?_
  refine drc_abs ?_
  refine de_name 2 ?_
  refine ⟨_, _, rfl, rfl, ?_⟩
  refine ⟨_, rfl, fun hb => ?_, fun hb => ?_⟩
  · exact (congrArg (fun v => Q (.bl v) _) (show isRb p q (m, n) = false by rw [hi9, show decide (absI (p * m - q * n) ≤ (p * p + q * q) / 2) = false from hb] <;> rfl)).mp qq
  refine de_one ?_
  refine de_le ?_
  refine de_B call_abs n_abs bt_abs ?_
  refine da_cons ?_
  refine de_ix (h := ?_)
  refine de_name 3 ?_
  refine de_int ?_
  walk_at "ix"
  refine da_nil ?_
  refine drc_abs ?_
  refine de_name 2 ?_
  refine ⟨_, _, rfl, rfl, ?_⟩
  exact (congrArg (fun v => Q (.bl v) _) (show isRb p q (m, n) = decide (absI (p * n + q * m) ≤ (p * p + q * q) / 2) by rw [hi9, show decide (absI (p * m - q * n) ≤ (p * p + q * q) / 2) = true from hb, Bool.true_and])).mp qq
abbrev s__law_things : Stmt := top 34
theorem sc__law_things : FnScope ["_law_source_here", "_law_pair", "_law_m", "_law_n", "_law_some", "_law_far"] ["_law_source_here", "_law_pair"] (defScope s__law_things) := ⟨rfl, rfl, rfl, by decide +kernel, rfl, by decide +kernel, by decide +kernel⟩
set_option maxHeartbeats 40000000 in
theorem ok__law_things {f : Addr} {fd : FuncData} (F : Fun K "_law_things" "_law_things" s__law_things f fd) (c__law_draw : Cal P w K mg base 1 "_law_draw" ["_law_source_here", "_law_count"] [] con_draw) (n_str : mg "str" = none) : GOk P w K mg base 2 f fd ["_law_source_here", "_law_pair"] (spD K (con_th7 P w K)) := by
  refine gok_ds F sc__law_things (m := 4) rfl (fun ds S0 Q h => ?_) fun cdv A fr s0 H0 E0' gd hr ds S0 Q h => ?_
  · obtain ⟨_, _, _, _, _, rfl, _⟩ := h
    rfl
  obtain ⟨pp, x, y, l, m, rfl, hg, hS, hm, ⟨bx, by'⟩, qq⟩ := h
  have hs9 : (reprText (toPy (.int x)).shown).length ≤ 19300 := shI_len (bx.up (by decide))
  refine ds_nrm ?_ (by set_option simprocs false in dsimp only [List.map, List.replicate, List.cons_append, List.nil_append])
  refine ds_cons ?_
  refine ds_asg (h := ?_)
  refine de_name 1 ?_
  first | refine dg_tup rfl rfl ?_ | refine dg_tupL rfl rfl ?_ (fun h => pg_lst rfl h)
  refine dgs_cons (h := ?_)
  refine dg_name 2 ?_ sc__law_things.nd
  refine dgs_cons (h := ?_)
  refine dg_name 3 ?_ sc__law_things.nd
  refine dgs_nil ?_
  refine ds_cons ?_
  refine ds_asg (h := ?_)
  refine de_lst ?_
  refine da_cons ?_
  refine de_tup ?_
  refine da_cons ?_
  refine de_add ?_
  refine de_name 2 ?_
  refine de_int ?_
  first | refine add_int ?_ | refine add_lst ?_ (by walk_at "len") | refine add_tup ?_ (by walk_at "len3") | refine add_scr ?_ (by walk_at "len") | refine (show addP (.str _) (.str _) _ _ from ⟨by decide +kernel, ?_⟩)
  refine da_cons ?_
  refine de_name 3 ?_
  refine da_nil ?_
  refine ⟨by walk_at "len", ?_⟩
  refine da_cons ?_
  refine de_tup ?_
  refine da_cons ?_
  refine de_name 2 ?_
  refine da_cons ?_
  refine de_sub ?_
  refine de_name 3 ?_
  refine de_int ?_
  refine ⟨_, _, rfl, rfl, ?_⟩
  refine da_nil ?_
  refine ⟨by walk_at "len", ?_⟩
  refine da_cons ?_
  refine de_tup ?_
  refine da_cons ?_
  refine de_neg ?_
  refine de_name 2 ?_
  refine ⟨_, rfl, ?_⟩
  refine da_cons ?_
  refine de_neg ?_
  refine de_name 3 ?_
  refine ⟨_, rfl, ?_⟩
  refine da_nil ?_
  refine ⟨by walk_at "len", ?_⟩
  refine da_cons ?_
  refine de_tup ?_
  refine da_cons ?_
  refine de_name 3 ?_
  refine da_cons ?_
  refine de_name 2 ?_
  refine da_nil ?_
  refine ⟨by walk_at "len", ?_⟩
  refine da_cons ?_
  refine de_tup ?_
  refine da_cons ?_
  refine de_neg ?_
  refine de_name 3 ?_
  refine ⟨_, rfl, ?_⟩
  refine da_cons ?_
  refine de_name 2 ?_
  refine da_nil ?_
  refine ⟨by walk_at "len", ?_⟩
  refine da_cons ?_
  refine de_tup ?_
  refine da_cons ?_
  refine de_name 2 ?_
  refine da_cons ?_
  refine de_neg ?_
  refine de_name 3 ?_
  refine ⟨_, rfl, ?_⟩
  refine da_nil ?_
  refine ⟨by walk_at "len", ?_⟩
  refine da_cons ?_
  refine de_tup ?_
  refine da_cons ?_
  refine de_mul ?_
  refine de_int ?_
  refine de_name 2 ?_
  first | refine mul_i ?_ (by walk_at "cmw") | refine mul_l ?_ ⟨by decide, by decide, by first | decide | exact Nat.le_of_ble_eq_true rfl⟩
  refine da_cons ?_
  refine de_mul ?_
  refine de_int ?_
  refine de_name 3 ?_
  first | refine mul_i ?_ (by walk_at "cmw") | refine mul_l ?_ ⟨by decide, by decide, by first | decide | exact Nat.le_of_ble_eq_true rfl⟩
  refine da_nil ?_
  refine ⟨by walk_at "len", ?_⟩
  refine da_cons ?_
  refine de_lst ?_
  refine da_cons ?_
  refine de_name 2 ?_
  refine da_cons ?_
  refine de_name 3 ?_
  refine da_nil ?_
  refine ⟨by walk_at "len", ?_⟩
  refine da_cons ?_
  refine de_tup ?_
  refine da_cons ?_
  refine de_name 2 ?_
  refine da_nil ?_
  refine ⟨by walk_at "len", ?_⟩
  refine da_cons ?_
  refine de_tup ?_
  refine da_cons ?_
  refine de_name 2 ?_
  refine da_cons ?_
  refine de_name 3 ?_
  refine da_cons ?_
  refine de_int ?_
  refine da_nil ?_
  refine ⟨by walk_at "len", ?_⟩
  refine da_nil ?_
  refine ⟨by walk_at "len", ?_⟩
  refine dg_name 4 ?_ sc__law_things.nd
  refine ds_cons ?_
  refine ds_asg (h := ?_)
  refine de_add ?_
  refine de_name 4 ?_
  refine de_lst ?_
  refine da_cons ?_
  refine de_tup ?_
  refine da_cons ?_
  refine de_int ?_
  refine da_cons ?_
  refine de_int ?_
  refine da_nil ?_
  refine ⟨by walk_at "len", ?_⟩
  refine da_cons ?_
  refine de_tup ?_
  refine da_cons ?_
  refine de_bl ?_
  refine da_cons ?_
  refine de_bl ?_
  refine da_nil ?_
  refine ⟨by walk_at "len", ?_⟩
  refine da_cons ?_
  refine de_tup ?_
  refine da_cons ?_
  refine de_T call_strI n_str bt_str ?_
  refine da_cons ?_
  refine de_name 2 ?_
  refine da_nil ?_
  refine drc_strI (bx.up (by decide)) ?_
  refine da_cons ?_
  refine de_name 3 ?_
  refine da_nil ?_
  refine ⟨by walk_at "len", ?_⟩
  refine da_cons ?_
  refine de_non ?_
  refine da_cons ?_
  refine de_int ?_
  refine da_cons ?_
  refine de_str ?_
  refine da_cons ?_
  refine de_dic0 ?_
  refine da_cons ?_
  refine de_lst ?_
  refine da_nil ?_
  refine ⟨by walk_at "len", ?_⟩
  refine da_cons ?_
  refine de_tup ?_
  refine da_nil ?_
  refine ⟨by walk_at "len", ?_⟩
  refine da_cons ?_
  refine de_tup ?_
  refine da_cons ?_
  refine de_tup ?_
  refine da_cons ?_
  refine de_name 2 ?_
  refine da_cons ?_
  refine de_name 3 ?_
  refine da_nil ?_
  refine ⟨by walk_at "len", ?_⟩
  refine da_cons ?_
  refine de_int ?_
  refine da_nil ?_
  refine ⟨by walk_at "len", ?_⟩
  refine da_cons ?_
  refine de_tup ?_
  refine da_cons ?_
  refine de_name 2 ?_
  refine da_cons ?_
  refine de_non ?_
  refine da_nil ?_
  refine ⟨by walk_at "len", ?_⟩
  refine da_cons ?_
  refine de_bl ?_
  refine da_nil ?_
  refine ⟨by walk_at "len", ?_⟩
  first | refine add_int ?_ | refine add_lst ?_ (by walk_at "len") | refine add_tup ?_ (by walk_at "len3") | refine add_scr ?_ (by walk_at "len") | refine (show addP (.str _) (.str _) _ _ from ⟨by decide +kernel, ?_⟩)
  refine dg_name 4 ?_ sc__law_things.nd
  refine ds_cons ?_
  refine ds_asg (h := ?_)
  refine de_add ?_
  refine de_int ?_
  refine de_call c__law_draw gd (hr.mono (by decide)) ?_
  refine da_cons ?_
  refine de_name 0 ?_
  refine da_cons ?_
  refine de_int ?_
  refine da_nil ?_
  refine ⟨_, _, _, _, rfl, (by walk_at "gets"), (by assumption), (by walk_at "m"), (by walk_at "pos"), (by walk_at "bdu"), fun r1 l1 hr1 hn1 hs1 => ?_⟩
  walk_at "sets"
  first | refine add_int ?_ | refine add_lst ?_ (by walk_at "len") | refine add_tup ?_ (by walk_at "len3") | refine add_scr ?_ (by walk_at "len") | refine (show addP (.str _) (.str _) _ _ from ⟨by decide +kernel, ?_⟩)
  refine dg_name 5 ?_ sc__law_things.nd
  refine ds_cons ?_
  refine ds_ret ?_
  refine de_add ?_
  refine de_name 4 ?_
  refine de_lst ?_
  refine da_cons ?_
  refine de_tup ?_
  refine da_cons ?_
  refine de_add ?_
  refine de_name 2 ?_
  refine de_name 5 ?_
  first | refine add_int ?_ | refine add_lst ?_ (by walk_at "len") | refine add_tup ?_ (by walk_at "len3") | refine add_scr ?_ (by walk_at "len") | refine (show addP (.str _) (.str _) _ _ from ⟨by decide +kernel, ?_⟩)
  refine da_cons ?_
  refine de_sub ?_
  refine de_name 3 ?_
  refine de_name 5 ?_
  refine ⟨_, _, rfl, rfl, ?_⟩
  refine da_nil ?_
  refine ⟨by walk_at "len", ?_⟩
  refine da_cons ?_
  refine de_tup ?_
  refine da_cons ?_
  refine de_mul ?_
  refine de_name 2 ?_
  refine de_name 5 ?_
  first | refine mul_i ?_ (by walk_at "cmw") | refine mul_l ?_ ⟨by decide, by decide, by first | decide | exact Nat.le_of_ble_eq_true rfl⟩
  refine da_cons ?_
  refine de_name 3 ?_
  refine da_nil ?_
  refine ⟨by walk_at "len", ?_⟩
  refine da_cons ?_
  refine de_tup ?_
  refine da_cons ?_
  refine de_name 5 ?_
  refine da_cons ?_
  refine de_name 5 ?_
  refine da_nil ?_
  refine ⟨by walk_at "len", ?_⟩
  refine da_cons ?_
  refine de_tup ?_
  refine da_cons ?_
  refine de_pow ?_
  refine de_int ?_
  refine de_int ?_
  refine ⟨_, _, rfl, rfl, (by walk_at "cpw"), ?_⟩
  refine da_cons ?_
  refine de_int ?_
  refine da_nil ?_
  refine ⟨by walk_at "len", ?_⟩
  refine da_nil ?_
  refine ⟨by walk_at "len", ?_⟩
  first | refine add_int ?_ | refine add_lst ?_ (by walk_at "len") | refine add_tup ?_ (by walk_at "len3") | refine add_scr ?_ (by walk_at "len") | refine (show addP (.str _) (.str _) _ _ from ⟨by decide +kernel, ?_⟩)
  exact qq _ _ (fa_cons (th7_2 (by walk_at "bdu") (by walk_at "bdu")) (fa_cons (th7_2 (by walk_at "bdu") (by walk_at "bdu")) (fa_cons (th7_2 (by walk_at "bdu") (by walk_at "bdu")) (fa_cons (th7_2 (by walk_at "bdu") (by walk_at "bdu")) (fa_cons (th7_2 (by walk_at "bdu") (by walk_at "bdu")) (fa_cons (th7_2 (by walk_at "bdu") (by walk_at "bdu")) (fa_cons (th7_2 (by walk_at "bdu") (by walk_at "bdu")) (fa_cons (th7_q rfl (fun l e => by first | (cases e; exact Nat.le_of_ble_eq_true rfl) | cases e) rfl (fun _ _ e => nomatch e) (by simp only [shQ, shQL]; (repeat' apply And.intro) <;> first | exact trivial | exact bx.up (by decide) | exact by'.up (by decide) | exact Nat.le_trans hs9 (by decide) | decide +kernel) (Nat.le_of_ble_eq_true rfl) (by simp only [wtS, wtL]; omega)) (fa_cons (th7_q rfl (fun l e => by first | (cases e; exact Nat.le_of_ble_eq_true rfl) | cases e) rfl (fun _ _ e => nomatch e) (by simp only [shQ, shQL]; (repeat' apply And.intro) <;> first | exact trivial | exact bx.up (by decide) | exact by'.up (by decide) | exact Nat.le_trans hs9 (by decide) | decide +kernel) (Nat.le_of_ble_eq_true rfl) (by simp only [wtS, wtL]; omega)) (fa_cons (th7_q rfl (fun l e => by first | (cases e; exact Nat.le_of_ble_eq_true rfl) | cases e) rfl (fun _ _ e => nomatch e) (by simp only [shQ, shQL]; (repeat' apply And.intro) <;> first | exact trivial | exact bx.up (by decide) | exact by'.up (by decide) | exact Nat.le_trans hs9 (by decide) | decide +kernel) (Nat.le_of_ble_eq_true rfl) (by simp only [wtS, wtL]; omega)) (fa_cons (th7_pl (by decide +kernel)) (fa_cons (th7_pl (by decide +kernel)) (fa_cons (th7_q rfl (fun l e => by first | (cases e; exact Nat.le_of_ble_eq_true rfl) | cases e) (show (PyData.strOk (shI x) && true) = true by rw [shI_ok]; rfl) (fun _ _ e => nomatch e) (by simp only [shQ, shQL]; (repeat' apply And.intro) <;> first | exact trivial | exact bx.up (by decide) | exact by'.up (by decide) | exact Nat.le_trans hs9 (by decide) | decide +kernel) (Nat.le_of_ble_eq_true rfl) (by simp only [wtS, wtL]; omega)) (fa_cons (th7_pl (by decide +kernel)) (fa_cons (th7_pl (by decide +kernel)) (fa_cons (th7_pl (by decide +kernel)) (fa_cons th7_dic (fa_cons (th7_pl (by decide +kernel)) (fa_cons (th7_pl (by decide +kernel)) (fa_cons (th7_q rfl (fun l e => by first | (cases e; exact Nat.le_of_ble_eq_true rfl) | cases e) rfl (fun _ _ e => nomatch e) (by simp only [shQ, shQL]; (repeat' apply And.intro) <;> first | exact trivial | exact bx.up (by decide) | exact by'.up (by decide) | exact Nat.le_trans hs9 (by decide) | decide +kernel) (Nat.le_of_ble_eq_true rfl) (by simp only [wtS, wtL]; omega)) (fa_cons (th7_q rfl (fun l e => by first | (cases e; exact Nat.le_of_ble_eq_true rfl) | cases e) rfl (fun _ _ e => nomatch e) (by simp only [shQ, shQL]; (repeat' apply And.intro) <;> first | exact trivial | exact bx.up (by decide) | exact by'.up (by decide) | exact Nat.le_trans hs9 (by decide) | decide +kernel) (Nat.le_of_ble_eq_true rfl) (by simp only [wtS, wtL]; omega)) (fa_cons (th7_pl (by decide +kernel)) (fa_cons (th7_2 (by walk_at "bdu") (by walk_at "bdu")) (fa_cons (th7_2 (by walk_at "bdu") (by walk_at "bdu")) (fa_cons (th7_2 (by walk_at "bdu") (by walk_at "bdu")) (fa_cons (th7_pl (by decide +kernel)) fa_nil)))))))))))))))))))))))))) (Nat.le_of_ble_eq_true rfl) (by assumption)
abbrev s__law_right : Stmt := top 35
theorem sc__law_right : FnScope ["_law_source_here", "_law_spin_here", "_law_dot_here", "_law_due", "_law_thing", "_law_kept", "_law_goal", "_law_one", "_law_told"] ["_law_source_here", "_law_spin_here", "_law_dot_here"] (defScope s__law_right) := ⟨rfl, rfl, rfl, by decide +kernel, rfl, by decide +kernel, by decide +kernel⟩
set_option maxHeartbeats 40000000 in
theorem ok__law_right {f : Addr} {fd : FuncData} (F : Fun K "_law_right" "_law_right" s__law_right f fd) (c__law_inside : Cal P w K mg base 2 "_law_inside" ["_law_spin_here", "_law_pair"] [] con_ins7) (c__law_left : Cal P w K mg base 3 "_law_left" ["_law_spin_here", "_law_dot_here"] [] con_left) (c__law_things : Cal P w K mg base 2 "_law_things" ["_law_source_here", "_law_pair"] [] (con_th7 P w K)) (c_is_rest : Cal P w K mg base 5 "is_rest" ["turn", "value"] [(0, ["value", "turn"])] (con_isrestA K)) (c_rest_of : Cal P w K mg base 8 "rest_of" ["turn", "pixel"] [(0, ["pixel", "turn"])] con_rest_of) (n_bool : mg "bool" = none) (n_int : mg "int" = none) (n_isinstance : mg "isinstance" = none) (n_len : mg "len" = none) (n_repr : mg "repr" = none) (n_tuple : mg "tuple" = none) : GOk P w K mg base 9 f fd ["_law_source_here", "_law_spin_here", "_law_dot_here"] (spD K con_r07) := by
  refine gok_ds F sc__law_right (m := 6) rfl (fun ds S0 Q h => ?_) fun cdv A fr s0 H0 E0' gd hr ds S0 Q h => ?_
  · obtain ⟨_, _, _, _, _, _, _, _, rfl, _⟩ := h
    rfl
  obtain ⟨pp, p, q, k, x, y, l, m, rfl, hg, hS, hm, hT, ⟨bx, by'⟩, qq⟩ := h
  have b1 := hT.bp
  have b2 := hT.bq
  have b3 := tn_b3 hT
  have bm9 : Bd 600 (reX p q x y) := (Bd.reX b1 b2 bx by').up (by decide)
  have bn9 : Bd 600 (reY p q x y) := (Bd.reY b1 b2 bx by').up (by decide)
  obtain ⟨td, nd, md, hshd, hnd, hmd⟩ := shw_p2 (P := P) (w := w) (K := K) (bm9.up (by decide : 600 ≤ 1800)) (bn9.up (by decide : 600 ≤ 1800)) (bm9.up (by decide : 600 ≤ 1800)) (bn9.up (by decide : 600 ≤ 1800))
  refine ds_nrm ?_ (by set_option simprocs false in dsimp only [List.map, List.replicate, List.cons_append, List.nil_append])
  refine ds_cons ?_
  refine ds_asg (h := ?_)
  refine de_call c__law_left gd (hr.mono (by decide)) ?_
  refine da_cons ?_
  refine de_name 1 ?_
  refine da_cons ?_
  refine de_name 2 ?_
  refine da_nil ?_
  refine ⟨_, _, _, _, _, rfl, by walk_at "tn", ⟨by walk_at "bdu", by walk_at "bdu"⟩, ?_⟩
  refine dg_name 3 ?_ sc__law_right.nd
  refine ds_cons ?_
  refine ds_if ?_
  refine dt_ne (hr.units) ?_
  refine de_B (call_reprW gd hr.units) n_repr bt_repr ?_
  refine da_cons ?_
  refine de_lst ?_
  refine da_cons ?_
  refine de_call c_rest_of gd (hr.mono (by decide)) ?_
  refine da_cons ?_
  refine de_name 1 ?_
  refine da_cons ?_
  refine de_name 2 ?_
  refine da_nil ?_
  refine ⟨_, _, _, _, _, rfl, by walk_at "tn", ⟨by walk_at "bdu", by walk_at "bdu"⟩, ?_⟩
  refine da_cons ?_
  refine de_callN (ks := ["pixel", "turn"]) c_rest_of gd (hr.mono (by decide)) (by decide) ?_
  refine dk_cons (h := ?_)
  refine de_name 2 ?_
  refine dk_cons (h := ?_)
  refine de_name 1 ?_
  refine dk_nil ?_
  refine ⟨rfl, ?_⟩
  walk_at "ord"
  refine ⟨_, _, _, _, _, rfl, by walk_at "tn", ⟨by walk_at "bdu", by walk_at "bdu"⟩, ?_⟩
  refine da_nil ?_
  refine ⟨by walk_at "len", ?_⟩
  refine da_nil ?_
  refine drc_reprW hshd ?_ (by omega) (by omega)
  refine de_B (call_reprW gd hr.units) n_repr bt_repr ?_
  refine da_cons ?_
  refine de_lst ?_
  refine da_cons ?_
  refine de_name 3 ?_
  refine da_cons ?_
  refine de_name 3 ?_
  refine da_nil ?_
  refine ⟨by walk_at "len", ?_⟩
  refine da_nil ?_
  refine drc_reprW hshd ?_ (by omega) (by omega)
  refine eq_strT rfl ?_
  refine ⟨fun ht => ?_, fun ht => ?_⟩
  · cases ht
  refine ds_nil ?_
  refine ds_cons ?_
  refine ds_if ?_
  refine dt_not ?_
  refine dt_val (h := ?_)
  refine de_call c_is_rest gd (hr.mono (by decide)) ?_
  refine da_cons ?_
  refine de_name 1 ?_
  refine da_cons ?_
  refine de_name 3 ?_
  refine da_nil ?_
  refine ⟨_, _, _, _, rfl, hT, .i2, pB_2 (bm9.up (by decide)) (bn9.up (by decide)), ?_⟩
  rw [show restB p q (.tup [.int (reX p q x y), .int (reY p q x y)]) = true from decide_eq_true (re_is hT x y)]
  refine ⟨_, rfl, ?_⟩
  refine ⟨fun ht => ?_, fun ht => ?_⟩
  · cases ht
  refine ds_nil ?_
  refine ds_cons ?_
  refine ds_forG (γ := Unit) [4, 5, 6, 8] PassesOwn.never rfl ?_
  refine di_lst ?_
  refine de_call c__law_things gd (hr.mono (by decide)) ?_
  refine da_cons ?_
  refine de_name 0 ?_
  refine da_cons ?_
  refine de_name 3 ?_
  refine da_nil ?_
  refine ⟨_, _, _, _, _, rfl, (by walk_at "gets"), (by assumption), (by walk_at "m"), ⟨by walk_at "bdu", by walk_at "bdu"⟩, fun ts5 l5 hts5 hln5 hs5 => ?_⟩
  walk_at "sets"
  refine ⟨_, rfl, ?_⟩
  refine ⟨fun _ => [], _, fun _ => (by dsimp only [putU, fgt, List.set]), fun i _ S' => setS pp l5 S0 = S', (), by walk_at "wk", rfl, fun i1 d1 g1 S1 hi1 hP1 => ?_, fun g1 S1 hP1 => ?_⟩
  · subst hP1
    have hth : Th7 P w K d1 := hts5 _ (List.mem_of_getElem? hi1)
    obtain ⟨t0, n0, m0, hsh, hn0, hm0⟩ := hth.t.s
    obtain ⟨t1, n1, m1, hsh1, hn1, hm1⟩ := shw_b2 (P := P) (w := w) (K := K) (restB p q d1) (restB p q d1)
    obtain ⟨u8, hty, hi9, hb9, htu, hls, hst⟩ := hth.t.a.t.v
    refine dg_name 4 ?_ sc__law_right.nd
    refine ds_cons ?_
    refine ds_par (i := 5) (j := 6) rfl sc__law_right.nd rfl rfl (by decide) ?_
    refine da_cons ?_
    refine de_B (call_reprW gd hr.units) n_repr bt_repr ?_
    refine da_cons ?_
    refine de_name 4 ?_
    refine da_nil ?_
    refine drc_reprW hsh ?_ (by omega) (by omega)
    refine da_cons ?_
    refine de_bl ?_
    refine da_nil ?_
    refine ⟨_, _, rfl, ?_⟩
    refine ds_nrm ?_
    refine ds_cons ?_
    refine ds_join (γ := D) (fun d => [some (.raw (.ref pp)), some (.tup [.int p, .int q, .int k]), some (.tup [.int x, .int y]), some (.tup [.int (reX p q x y), .int (reY p q x y)]), some d1, some (.str t0), some d, none, none]) (fun d S' => setS pp l5 S0 = S' ∧ d = .bl (restB p q d1)) ?_ ?_
    · refine ds_if ?_
      refine DT.mono (Q := fun b' S' => setS pp l5 S0 = S' ∧ (b' = false → restB p q d1 = false) ∧ (b' = true → ∃ l, d1 = .tup l ∧ (l.length : Int) = 2)) ?_ ?_
      · refine dt_w ?_
        refine dw_and ?_
        refine dt_val (h := ?_)
        refine de_B call_isi_D n_isinstance bt_isinstance ?_
        refine da_cons ?_
        refine de_name 4 ?_
        refine da_cons ?_
        refine de_ty n_tuple bt_tuple ?_
        refine da_nil ?_
        refine drc_isiD hty htu ?_
        refine ⟨_, rfl, ?_⟩
        refine ⟨fun hb => ?_, fun hb => ?_⟩
        · exact ⟨rfl, (fun _ => by cases d1 <;> first | rfl | cases hb), fun z => nomatch z⟩
        obtain ⟨l9, rfl⟩ : ∃ l, d1 = .tup l := by cases d1 <;> first | exact ⟨_, rfl⟩ | cases hb
        refine dw_and1 ?_
        refine dt_eq (hr.units) ?_
        refine de_B call_len_seq n_len bt_len ?_
        refine da_cons ?_
        refine de_name 4 ?_
        refine da_nil ?_
        refine drc_len ?_
        walk_at "lenP"
        refine de_int ?_
        refine eq_int ?_
        exact ⟨rfl, fun z => restB_len (of_decide_eq_false z), fun z => ⟨l9, rfl, of_decide_eq_true z⟩⟩
      rintro b' _ ⟨rfl, hbf, hbt⟩
      refine ⟨fun ht => ?_, fun ht => ?_⟩
      · obtain ⟨l9, rfl, hl9⟩ := hbt ht
        refine ds_cons ?_
        refine ds_if ?_
        refine dt_eq (hr.units) ?_
        refine de_lcIf 7 rfl sc__law_right.nd (blkOk_by (N := ["_law_source_here", "_law_spin_here", "_law_dot_here", "_law_due", "_law_thing", "_law_kept", "_law_goal", "_law_one", "_law_told"]) (sc := defScope s__law_right) (by decide +kernel)) ?_ (fun _ _ _ _ _ => pg_name sc__law_right.nd rfl (Or.inl rfl))
        refine di_tup ?_
        refine de_name 4 ?_
        refine ⟨_, rfl, ?_⟩
        refine ⟨fun k acc S' => setS pp l5 S0 = S' ∧ acc = (l9.take k).filter fun d => !wholeD d, ⟨rfl, rfl⟩, fun k9 d9 acc S' p9 hk hP hp hl s5 H5 C5 cl5 fp5 => ?_, by omega, fun acc S' hl hP => ?_⟩
        · obtain ⟨rfl, rfl⟩ := hP
          obtain ⟨u9, gty, gi9, gb9, gtu, gls, gst⟩ := hth.t.a.t.p l9 rfl d9 (List.mem_of_getElem? hk)
          refine DT.mono (Q := fun b' S' => (p9, (l9.take k9).filter fun d => !wholeD d) :: setS pp l5 S0 = S' ∧ b' = !wholeD d9) ?_ ?_
          · refine dt_w ?_
            refine dw_or ?_
            refine dt_not ?_
            refine dt_val (h := ?_)
            refine de_B call_isi_D n_isinstance bt_isinstance ?_
            refine da_cons ?_
            refine de_name 7 ?_
            refine da_cons ?_
            refine de_ty n_int bt_int ?_
            refine da_nil ?_
            refine drc_isiD gty gi9 ?_
            refine ⟨_, rfl, ?_⟩
            refine ⟨fun hb => ?_, fun hb => ?_⟩
            · exact ⟨rfl, by cases d9 <;> first | rfl | cases hb⟩
            refine dw_or1 ?_
            refine dt_val (h := ?_)
            refine de_B call_isi_D n_isinstance bt_isinstance ?_
            refine da_cons ?_
            refine de_name 7 ?_
            refine da_cons ?_
            refine de_ty n_bool bt_bool ?_
            refine da_nil ?_
            refine drc_isiD gty gb9 ?_
            refine ⟨_, rfl, ?_⟩
            exact ⟨rfl, by cases d9 <;> first | rfl | cases hb⟩
          rintro b' _ ⟨rfl, rfl⟩
          refine ⟨_, rfl, fun ht s6 H6 C6 cl6 fp6 => ?_, fun ht => ⟨rfl, by rw [flt_step2 _ hk, if_neg (by rw [ht]; decide), List.append_nil]⟩⟩
          refine de_name 7 ?_
          exact ⟨_, rfl, rfl, by rw [flt_step2 _ hk, if_pos ht]⟩
        obtain ⟨rfl, rfl⟩ := hP
        rw [List.take_of_length_le (Nat.le_refl _)]
        refine de_lst ?_
        refine da_nil ?_
        refine ⟨by walk_at "len", ?_⟩
        refine eq_nil (flatL_filter _ _ hth.t.f) ?_
        rw [whole_eq]
        refine ⟨fun ht => ?_, fun ht => ?_⟩
        · obtain ⟨x9, y9, rfl⟩ := pair_whole hl9 ht
          obtain ⟨bx9, by9⟩ := hth.i _ _ rfl
          refine ds_cons ?_
          refine ds_asg (h := ?_)
          refine de_call c__law_inside gd (hr.mono (by decide)) ?_
          refine da_cons ?_
          refine de_name 1 ?_
          refine da_cons ?_
          refine de_name 4 ?_
          refine da_nil ?_
          refine ⟨_, _, _, _, _, rfl, by walk_at "tn", ⟨by walk_at "bdu", by walk_at "bdu"⟩, ?_⟩
          refine dg_name 6 ?_ sc__law_right.nd
          refine ds_nil ?_
          refine ds_nil ?_
          exact ⟨_, by walk_at "wk", rfl, rfl⟩
        have ht2 := ht
        refine ds_nil ?_
        refine ds_nil ?_
        exact ⟨_, by walk_at "wk", rfl, congrArg D.bl (isRb_whole hl9 ht2).symm⟩
      refine ds_nil ?_
      exact ⟨_, by walk_at "wk", rfl, congrArg D.bl (hbf ht).symm⟩
    rintro _ _ ⟨rfl, rfl⟩
    refine ds_cons ?_
    refine ds_asg (h := ?_)
    refine de_lst ?_
    refine da_cons ?_
    refine de_call c_is_rest gd (hr.mono (by decide)) ?_
    refine da_cons ?_
    refine de_name 1 ?_
    refine da_cons ?_
    refine de_name 4 ?_
    refine da_nil ?_
    refine ⟨_, _, _, _, rfl, hT, hth.t.a, hth.i.up (by decide), ?_⟩
    refine da_cons ?_
    refine de_callN (ks := ["value", "turn"]) c_is_rest gd (hr.mono (by decide)) (by decide) ?_
    refine dk_cons (h := ?_)
    refine de_name 4 ?_
    refine dk_cons (h := ?_)
    refine de_name 1 ?_
    refine dk_nil ?_
    refine ⟨rfl, ?_⟩
    walk_at "ord"
    refine ⟨_, _, _, _, rfl, hT, hth.t.a, hth.i.up (by decide), ?_⟩
    refine da_nil ?_
    refine ⟨by walk_at "len", ?_⟩
    refine dg_name 8 ?_ sc__law_right.nd
    refine ds_cons ?_
    refine ds_if ?_
    refine DT.mono (Q := fun b' S' => setS pp l5 S0 = S' ∧ b' = false) ?_ ?_
    · refine dt_w ?_
      refine dw_or ?_
      refine dt_ne (hr.units) ?_
      refine de_B (call_reprW gd hr.units) n_repr bt_repr ?_
      refine da_cons ?_
      refine de_name 8 ?_
      refine da_nil ?_
      refine drc_reprW hsh1 ?_ (by omega) (by omega)
      refine de_B (call_reprW gd hr.units) n_repr bt_repr ?_
      refine da_cons ?_
      refine de_lst ?_
      refine da_cons ?_
      refine de_name 6 ?_
      refine da_cons ?_
      refine de_name 6 ?_
      refine da_nil ?_
      refine ⟨by walk_at "len", ?_⟩
      refine da_nil ?_
      refine drc_reprW hsh1 ?_ (by omega) (by omega)
      refine eq_strT rfl ?_
      refine ⟨fun hb => ?_, fun hb => ?_⟩
      · cases hb
      refine dw_or1 ?_
      refine dt_ne (hr.units) ?_
      refine de_B (call_reprW gd hr.units) n_repr bt_repr ?_
      refine da_cons ?_
      refine de_name 4 ?_
      refine da_nil ?_
      refine drc_reprW hsh ?_ (by omega) (by omega)
      refine de_name 5 ?_
      refine eq_strT rfl ?_
      exact ⟨rfl, rfl⟩
    rintro b' _ ⟨rfl, rfl⟩
    refine ⟨fun ht => ?_, fun ht => ?_⟩
    · cases ht
    refine ds_nil ?_
    refine ds_nil ?_
    exact ⟨(), by walk_at "wk", rfl⟩
  subst hP1
  refine ds_cons ?_
  refine ds_ret ?_
  refine de_bl ?_
  exact qq _ (by assumption)
abbrev s_law : Stmt := top 36
theorem sc_law : FnScope ["_law_script", "_law_k", "_law_entry", "_law_source_here", "_law_most", "_law_spin_here", "_law_wide", "_law_told"] ["_law_script"] (defScope s_law) := ⟨rfl, rfl, rfl, by decide +kernel, rfl, by decide +kernel, by decide +kernel⟩
set_option maxHeartbeats 40000000 in
theorem ok_law {f : Addr} {fd : FuncData} (F : Fun K "law" "law" s_law f fd) (c__law_dot : Cal P w K mg base 2 "_law_dot" ["_law_source_here", "_law_wide"] [] con_dot) (c__law_right : Cal P w K mg base 9 "_law_right" ["_law_source_here", "_law_spin_here", "_law_dot_here"] [] con_r07) (c__law_source : Cal P w K mg base 1 "_law_source" ["_law_entry", "_law_k"] [] con_source) (c__law_spin : Cal P w K mg base 2 "_law_spin" ["_law_source_here", "_law_most"] [] con_spin) (c_is_rest : Cal P w K mg base 5 "is_rest" ["turn", "value"] [(0, ["value", "turn"])] (con_isrestA K)) (c_rest_of : Cal P w K mg base 8 "rest_of" ["turn", "pixel"] [(0, ["pixel", "turn"])] con_rest_of) (n_enumerate : mg "enumerate" = none) (n_int : mg "int" = none) (n_len : mg "len" = none) (n_max : mg "max" = none) (n_min : mg "min" = none) : GOk P w K mg base 10 f fd ["_law_script"] (spD K (conLaw 63)) := by
  refine gok_ds F sc_law (m := 7) rfl (fun ds S0 Q h => ?_) fun cdv A fr s0 H0 E0' gd hr ds S0 Q h => ?_
  · obtain ⟨_, _, rfl, _⟩ := h
    rfl
  obtain ⟨ns, hns, rfl, rfl, qq⟩ := h
  refine ds_nrm ?_ (by set_option simprocs false in dsimp only [List.map, List.replicate, List.cons_append, List.nil_append])
  refine ds_cons ?_
  refine ds_forG (γ := Unit) [1, 2, 3, 4, 5, 6] PassesOwn.never rfl ?_
  refine di_enum n_enumerate ?_
  refine da_cons ?_
  refine de_slice ?_
  refine de_add ?_
  refine de_name 0 ?_
  refine de_lst ?_
  refine da_cons ?_
  refine de_int ?_
  refine da_nil ?_
  refine ⟨by walk_at "len", ?_⟩
  first | refine add_int ?_ | refine add_lst ?_ (by walk_at "len") | refine add_tup ?_ (by walk_at "len3") | refine add_scr ?_ (by walk_at "len") | refine (show addP (.str _) (.str _) _ _ from ⟨by decide +kernel, ?_⟩)
  refine do_none ?_
  refine do_some ?_
  refine de_B (call_max2 rfl) n_max bt_max ?_
  refine da_cons ?_
  refine de_int ?_
  refine da_cons ?_
  refine de_B (call_min2 rfl) n_min bt_min ?_
  refine da_cons ?_
  refine de_B call_len_seq n_len bt_len ?_
  refine da_cons ?_
  refine de_name 0 ?_
  refine da_nil ?_
  refine drc_len ?_
  walk_at "lenP"
  refine da_cons ?_
  refine de_int ?_
  refine da_nil ?_
  refine drc_min ?_
  refine da_nil ?_
  refine drc_max ?_
  refine ⟨rfl, _, rfl, ?_⟩
  walk_at "slice"
  refine da_nil ?_
  refine ⟨_, rfl, ?_⟩
  refine ⟨fun _ => [], _, fun _ => (by dsimp only [putU, fgt, List.set]), fun i _ S' => [] = S', (), by walk_at "wk", rfl, fun i1 d1 g1 S1 hi1 hP1 => ?_, fun g1 S1 hP1 => ?_⟩
  · subst hP1
    obtain ⟨hi64, e, rfl⟩ := scr_turn (by refine ⟨?_, ?_⟩ <;> split <;> (try split) <;> omega) hi1
    first | refine dg_tup rfl rfl ?_ | refine dg_tupL rfl rfl ?_ (fun h => pg_lst rfl h)
    refine dgs_cons (h := ?_)
    refine dg_name 1 ?_ sc_law.nd
    refine dgs_cons (h := ?_)
    refine dg_name 2 ?_ sc_law.nd
    refine dgs_nil ?_
    refine ds_cons ?_
    refine ds_asg (h := ?_)
    refine de_call c__law_source gd (hr.mono (by decide)) ?_
    refine da_cons ?_
    refine de_name 2 ?_
    refine da_cons ?_
    refine de_name 1 ?_
    refine da_nil ?_
    refine ⟨_, _, rfl, (by walk_at "rng"), fun p1 l1 hp1 hs1 => ?_⟩
    refine dg_name 3 ?_ sc_law.nd
    refine ds_cons ?_
    refine ds_forG (γ := Unit) [4, 5, 6] PassesOwn.never rfl ?_
    refine di_tup ?_
    refine de_tup ?_
    refine da_cons ?_
    refine de_int ?_
    refine da_cons ?_
    refine de_int ?_
    refine da_cons ?_
    refine de_ix (h := ?_)
    refine de_lst ?_
    refine da_cons ?_
    refine de_int ?_
    refine da_cons ?_
    refine de_pow ?_
    refine de_int ?_
    refine de_int ?_
    refine ⟨_, _, rfl, rfl, (by walk_at "cpw"), ?_⟩
    refine da_nil ?_
    refine ⟨by walk_at "len", ?_⟩
    refine de_T call_int1 n_int bt_int ?_
    refine da_cons ?_
    refine de_ne (hr.units) ?_
    refine de_name 0 ?_
    refine de_lst ?_
    refine da_nil ?_
    refine ⟨by walk_at "len", ?_⟩
    walk_at "eq"
    refine da_nil ?_
    first | refine drc_int ?_ | refine drc_intb ?_
    refine ix_pick (fun d => ∃ m : Int, d = .int m ∧ 1 ≤ m ∧ m ≤ 1000000000000000) (fa_cons ⟨_, rfl, by decide, by decide⟩ (fa_cons ⟨_, rfl, by decide, by decide⟩ fa_nil)) (by split <;> decide) (by show _ < (2 : Int); split <;> decide) ?_
    rintro _ ⟨mq, rfl, hmq0, hmq1⟩
    refine da_nil ?_
    refine ⟨by walk_at "len", ?_⟩
    refine ⟨_, rfl, ?_⟩
    refine ⟨fun _ => [], _, fun _ => (by dsimp only [putU, fgt, List.set]), fun i _ S' => ∃ l, [(p1, l)] = S' ∧ Src (1000 * i) l, (), by walk_at "wk", ⟨l1, rfl, hs1⟩, fun i2 d2 g2 S2 hi2 hP2 => ?_, fun g2 S2 hP2 => ?_⟩
    · obtain ⟨l0, rfl, hs0⟩ := hP2
      obtain ⟨mw, rfl, hmw0, hmw1⟩ : ∃ m : Int, d2 = .int m ∧ 1 ≤ m ∧ m ≤ 1000000000000000 := (fa_cons ⟨_, rfl, by decide, by decide⟩ (fa_cons ⟨_, rfl, by decide, by decide⟩ (fa_cons ⟨_, rfl, hmq0, hmq1⟩ fa_nil)) : ∀ x ∈ _, ∃ m : Int, x = .int m ∧ 1 ≤ m ∧ m ≤ 1000000000000000) _ (List.mem_of_getElem? hi2)
      have hi6 : i2 < 3 := (List.getElem?_eq_some_iff.mp hi2).1
      refine dg_name 4 ?_ sc_law.nd
      refine ds_cons ?_
      refine ds_asg (h := ?_)
      refine de_call c__law_spin gd (hr.mono (by decide)) ?_
      refine da_cons ?_
      refine de_name 3 ?_
      refine da_cons ?_
      refine de_name 4 ?_
      refine da_nil ?_
      refine ⟨_, _, _, _, rfl, (by walk_at "gets"), (by assumption), (by walk_at "m"), (by walk_at "pos"), (by walk_at "pos"), fun p2 q2 k2 l2 ht2 hm2 hs2 => ?_⟩
      have bp2 := ht2.bp
      have bq2 := ht2.bq
      have bk2 := tn_b3 ht2
      walk_at "sets"
      refine dg_name 5 ?_ sc_law.nd
      refine ds_cons ?_
      refine ds_forG (γ := Unit) [6] PassesOwn.never rfl ?_
      refine di_tup ?_
      refine de_tup ?_
      refine da_cons ?_
      refine de_int ?_
      refine da_cons ?_
      refine de_pow ?_
      refine de_int ?_
      refine de_int ?_
      refine ⟨_, _, rfl, rfl, (by walk_at "cpw"), ?_⟩
      refine da_cons ?_
      refine de_sub ?_
      refine de_pow ?_
      refine de_int ?_
      refine de_int ?_
      refine ⟨_, _, rfl, rfl, (by walk_at "cpw"), ?_⟩
      refine de_int ?_
      refine ⟨_, _, rfl, rfl, ?_⟩
      refine da_nil ?_
      refine ⟨by walk_at "len", ?_⟩
      refine ⟨_, rfl, ?_⟩
      refine ⟨fun _ => [], _, fun _ => (by dsimp only [putU, fgt, List.set]), fun i _ S' => ∃ l, [(p1, l)] = S' ∧ Src (1000 * i2 + 20 + 100 * i) l, (), by walk_at "wk", ⟨_, rfl, (by assumption : Src (_ + 10) _).up (by omega)⟩, fun i3 d3 g3 S3 hi3 hP3 => ?_, fun g3 S3 hP3 => ?_⟩
      · obtain ⟨l81, rfl, hs81⟩ := hP3
        obtain ⟨mx, rfl, hmx0, bmx⟩ : ∃ m : Int, d3 = .int m ∧ 1 ≤ m ∧ Bd 150 m := ((fa_cons ⟨_, rfl, by decide +kernel, by unfold Bd; decide +kernel⟩ (fa_cons ⟨_, rfl, by decide +kernel, by unfold Bd; decide +kernel⟩ (fa_cons ⟨_, rfl, by decide +kernel, by unfold Bd; decide +kernel⟩ fa_nil))) : ∀ x ∈ _, ∃ m : Int, x = .int m ∧ 1 ≤ m ∧ Bd 150 m) _ (List.mem_of_getElem? hi3)
        have hi7 : i3 < 3 := (List.getElem?_eq_some_iff.mp hi3).1
        refine dg_name 6 ?_ sc_law.nd
        refine ds_cons ?_
        refine ds_if ?_
        refine dt_not ?_
        refine dt_val (h := ?_)
        refine de_call c__law_right gd (hr.mono (by decide)) ?_
        refine da_cons ?_
        refine de_name 3 ?_
        refine da_cons ?_
        refine de_name 5 ?_
        refine da_cons ?_
        refine de_call c__law_dot gd (hr.mono (by decide)) ?_
        refine da_cons ?_
        refine de_name 3 ?_
        refine da_cons ?_
        refine de_name 6 ?_
        refine da_nil ?_
        refine ⟨_, _, _, _, rfl, (by walk_at "gets"), (by assumption), (by walk_at "m"), (by walk_at "pos"), (by walk_at "bdu"), fun x4 y4 l4 hx4 hy4 hs4 => ?_⟩
        have bx4 := Bd.of_abs hx4.1 hx4.2 (by walk_at "bd")
        have by4 := Bd.of_abs hy4.1 hy4.2 (by walk_at "bd")
        walk_at "sets"
        refine da_nil ?_
        refine ⟨_, _, _, _, _, _, _, _, rfl, (by walk_at "gets"), (by assumption), (by walk_at "m"), (by assumption), ⟨by walk_at "bdu", by walk_at "bdu"⟩, fun l3 hs3 => ?_⟩
        walk_at "sets"
        refine ⟨_, rfl, ?_⟩
        refine ⟨fun ht => ?_, fun ht => ?_⟩
        · cases ht
        refine ds_nil ?_
        refine ds_nil ?_
        exact ⟨(), by walk_at "wk", _, rfl, (by assumption : Src (_ + 1) _).up (by omega)⟩
      obtain ⟨l82, rfl, hs82⟩ := hP3
      have hs83 : Src (1000 * i2 + 20 + 100 * 3) l82 := hs82
      refine ds_nil ?_
      exact ⟨(), by walk_at "wk", _, rfl, hs83.up (by omega)⟩
    obtain ⟨l7, rfl, hs7⟩ := hP2
    refine ds_forget ?_ rfl
    refine ds_nil ?_
    exact ⟨(), by walk_at "wk", rfl⟩
  subst hP1
  refine ds_cons ?_
  refine ds_asg (h := ?_)
  refine de_lst ?_
  refine da_cons ?_
  refine de_call c_rest_of gd (hr.mono (by decide)) ?_
  refine da_cons ?_
  refine de_tup ?_
  refine da_cons ?_
  refine de_int ?_
  refine da_cons ?_
  refine de_int ?_
  refine da_cons ?_
  refine de_int ?_
  refine da_nil ?_
  refine ⟨by walk_at "len", ?_⟩
  refine da_cons ?_
  refine de_tup ?_
  refine da_cons ?_
  refine de_int ?_
  refine da_cons ?_
  refine de_int ?_
  refine da_nil ?_
  refine ⟨by walk_at "len", ?_⟩
  refine da_nil ?_
  refine ⟨_, _, _, _, _, rfl, by walk_at "tn", ⟨by walk_at "bdu", by walk_at "bdu"⟩, ?_⟩
  refine da_cons ?_
  refine de_call c_rest_of gd (hr.mono (by decide)) ?_
  refine da_cons ?_
  refine de_tup ?_
  refine da_cons ?_
  refine de_int ?_
  refine da_cons ?_
  refine de_int ?_
  refine da_cons ?_
  refine de_int ?_
  refine da_nil ?_
  refine ⟨by walk_at "len", ?_⟩
  refine da_cons ?_
  refine de_tup ?_
  refine da_cons ?_
  refine de_int ?_
  refine da_cons ?_
  refine de_int ?_
  refine da_nil ?_
  refine ⟨by walk_at "len", ?_⟩
  refine da_nil ?_
  refine ⟨_, _, _, _, _, rfl, by walk_at "tn", ⟨by walk_at "bdu", by walk_at "bdu"⟩, ?_⟩
  refine da_cons ?_
  refine de_call c_rest_of gd (hr.mono (by decide)) ?_
  refine da_cons ?_
  refine de_tup ?_
  refine da_cons ?_
  refine de_int ?_
  refine da_cons ?_
  refine de_int ?_
  refine da_cons ?_
  refine de_int ?_
  refine da_nil ?_
  refine ⟨by walk_at "len", ?_⟩
  refine da_cons ?_
  refine de_tup ?_
  refine da_cons ?_
  refine de_int ?_
  refine da_cons ?_
  refine de_neg ?_
  refine de_int ?_
  refine ⟨_, rfl, ?_⟩
  refine da_nil ?_
  refine ⟨by walk_at "len", ?_⟩
  refine da_nil ?_
  refine ⟨_, _, _, _, _, rfl, by walk_at "tn", ⟨by walk_at "bdu", by walk_at "bdu"⟩, ?_⟩
  refine da_nil ?_
  refine ⟨by walk_at "len", ?_⟩
  refine dg_name 7 ?_ sc_law.nd
  refine ds_cons ?_
  refine ds_ret ?_
  refine de_and ?_
  refine de_eq (hr.units) ?_
  refine de_name 7 ?_
  refine de_lst ?_
  refine da_cons ?_
  refine de_tup ?_
  refine da_cons ?_
  refine de_neg ?_
  refine de_int ?_
  refine ⟨_, rfl, ?_⟩
  refine da_cons ?_
  refine de_int ?_
  refine da_nil ?_
  refine ⟨by walk_at "len", ?_⟩
  refine da_cons ?_
  refine de_tup ?_
  refine da_cons ?_
  refine de_int ?_
  refine da_cons ?_
  refine de_int ?_
  refine da_nil ?_
  refine ⟨by walk_at "len", ?_⟩
  refine da_cons ?_
  refine de_tup ?_
  refine da_cons ?_
  refine de_int ?_
  refine da_cons ?_
  refine de_int ?_
  refine da_nil ?_
  refine ⟨by walk_at "len", ?_⟩
  refine da_nil ?_
  refine ⟨by walk_at "len", ?_⟩
  rw [reX_1.1, reX_1.2.1, reX_1.2.2.1, reX_1.2.2.2.1, reX_1.2.2.2.2.1, reX_1.2.2.2.2.2]
  refine eqP_same rfl rfl ?_
  refine ⟨_, rfl, fun hb => ?_, fun hb => ?_⟩
  · cases hb
  refine de_and ?_
  refine de_not ?_
  refine de_call c_is_rest gd (hr.mono (by decide)) ?_
  refine da_cons ?_
  refine de_tup ?_
  refine da_cons ?_
  refine de_int ?_
  refine da_cons ?_
  refine de_int ?_
  refine da_cons ?_
  refine de_int ?_
  refine da_nil ?_
  refine ⟨by walk_at "len", ?_⟩
  refine da_cons ?_
  refine de_tup ?_
  refine da_cons ?_
  refine de_int ?_
  refine da_cons ?_
  refine de_int ?_
  refine da_nil ?_
  refine ⟨by walk_at "len", ?_⟩
  refine da_nil ?_
  refine ⟨_, _, _, _, rfl, (by walk_at "tn"), .i2, (fun _ _ e => by cases e; exact ⟨by unfold Bd; decide +kernel, by unfold Bd; decide +kernel⟩), ?_⟩
  refine ⟨_, rfl, ?_⟩
  refine ⟨_, rfl, fun hb => ?_, fun hb => ?_⟩
  · cases hb
  refine de_one ?_
  refine de_call c_is_rest gd (hr.mono (by decide)) ?_
  refine da_cons ?_
  refine de_tup ?_
  refine da_cons ?_
  refine de_int ?_
  refine da_cons ?_
  refine de_int ?_
  refine da_cons ?_
  refine de_int ?_
  refine da_nil ?_
  refine ⟨by walk_at "len", ?_⟩
  refine da_cons ?_
  refine de_tup ?_
  refine da_cons ?_
  refine de_int ?_
  refine da_cons ?_
  refine de_int ?_
  refine da_nil ?_
  refine ⟨by walk_at "len", ?_⟩
  refine da_nil ?_
  refine ⟨_, _, _, _, rfl, (by walk_at "tn"), .i2, (fun _ _ e => by cases e; exact ⟨by unfold Bd; decide +kernel, by unfold Bd; decide +kernel⟩), ?_⟩
  exact qq
end
theorem all_mk {l : PySem.W.OpenLaw} {w : World} {K : PySem.W.Frag} {h : Heap} {mg : Str → Option Value} {fa f0 f1 f2 f3 f4 f5 f6 f7 f8 f9 f10 f11 f12 f13 f14 f15 f16 f17 f18 f19 f20 f21 f22 f23 f24 f25 f26 : Addr} (X : K.In h) (G : h.Ns mainGlobals mg) (hfa : mg "law" = some (.ref fa))
    {od0 an0 od1 an1 od2 an2 od3 an3 od4 an4 od5 an5 od6 an6 od7 an7 od8 an8 od9 an9 od10 an10 od11 an11 od12 an12 od13 an13 od14 an14 od15 an15 od16 an16 od17 an17 od18 an18 od19 an19 od20 an20 od21 an21 od22 an22 od23 an23 od24 an24 od25 an25 od26 an26 : Option Addr} {sl0 sl1 sl2 sl3 sl4 sl5 sl6 sl7 sl8 sl9 sl10 sl11 sl12 sl13 sl14 sl15 sl16 sl17 sl18 sl19 sl20 sl21 sl22 sl23 sl24 sl25 sl26 : Array (Option Value)} {oc0 kV0 dc0 pm0 cd0 ct0 oc1 kV1 dc1 pm1 cd1 ct1 oc2 kV2 dc2 pm2 cd2 ct2 oc3 kV3 dc3 pm3 cd3 ct3 oc4 kV4 dc4 pm4 cd4 ct4 oc5 kV5 dc5 pm5 cd5 ct5 oc6 kV6 dc6 pm6 cd6 ct6 oc7 kV7 dc7 pm7 cd7 ct7 oc8 kV8 dc8 pm8 cd8 ct8 oc9 kV9 dc9 pm9 cd9 ct9 oc10 kV10 dc10 pm10 cd10 ct10 oc11 kV11 dc11 pm11 cd11 ct11 oc12 kV12 dc12 pm12 cd12 ct12 oc13 kV13 dc13 pm13 cd13 ct13 oc14 kV14 dc14 pm14 cd14 ct14 oc15 kV15 dc15 pm15 cd15 ct15 oc16 kV16 dc16 pm16 cd16 ct16 oc17 kV17 dc17 pm17 cd17 ct17 oc18 kV18 dc18 pm18 cd18 ct18 oc19 kV19 dc19 pm19 cd19 ct19 oc20 kV20 dc20 pm20 cd20 ct20 oc21 kV21 dc21 pm21 cd21 ct21 oc22 kV22 dc22 pm22 cd22 ct22 oc23 kV23 dc23 pm23 cd23 ct23 oc24 kV24 dc24 pm24 cd24 ct24 oc25 kV25 dc25 pm25 cd25 ct25 oc26 kV26 dc26 pm26 cd26 ct26 : Value}
    {C_InvalidPixel C_InvalidTurn : Addr}
    (a0 : PySem.W.nsIn K mainGlobals "is_whole" = some (some (.ref f0))) (l0 : K.lookup f0 = some ⟨oc0, od0, .func (PySem.W.fnOf "is_whole" "is_whole" (defArgs s_is_whole) (defBody s_is_whole) (defScope s_is_whole) .none kV0 dc0 pm0 an0 cd0 ct0), sl0⟩) (c0 : PySem.W.codeIn K cd0 "is_whole" = true) (k0 : PySem.W.keepIn K (.ref f0) = true)
    (a1 : PySem.W.nsIn K mainGlobals "is_whole_tuple" = some (some (.ref f1))) (l1 : K.lookup f1 = some ⟨oc1, od1, .func (PySem.W.fnOf "is_whole_tuple" "is_whole_tuple" (defArgs s_is_whole_tuple) (defBody s_is_whole_tuple) (defScope s_is_whole_tuple) .none kV1 dc1 pm1 an1 cd1 ct1), sl1⟩) (c1 : PySem.W.codeIn K cd1 "is_whole_tuple" = true) (k1 : PySem.W.keepIn K (.ref f1) = true)
    (a2 : PySem.W.nsIn K mainGlobals "is_pixel" = some (some (.ref f2))) (l2 : K.lookup f2 = some ⟨oc2, od2, .func (PySem.W.fnOf "is_pixel" "is_pixel" (defArgs s_is_pixel) (defBody s_is_pixel) (defScope s_is_pixel) .none kV2 dc2 pm2 an2 cd2 ct2), sl2⟩) (c2 : PySem.W.codeIn K cd2 "is_pixel" = true) (k2 : PySem.W.keepIn K (.ref f2) = true)
    (a3 : PySem.W.nsIn K mainGlobals "is_turn" = some (some (.ref f3))) (l3 : K.lookup f3 = some ⟨oc3, od3, .func (PySem.W.fnOf "is_turn" "is_turn" (defArgs s_is_turn) (defBody s_is_turn) (defScope s_is_turn) .none kV3 dc3 pm3 an3 cd3 ct3), sl3⟩) (c3 : PySem.W.codeIn K cd3 "is_turn" = true) (k3 : PySem.W.keepIn K (.ref f3) = true)
    (a4 : PySem.W.nsIn K mainGlobals "check_pixel" = some (some (.ref f4))) (l4 : K.lookup f4 = some ⟨oc4, od4, .func (PySem.W.fnOf "check_pixel" "check_pixel" (defArgs s_check_pixel) (defBody s_check_pixel) (defScope s_check_pixel) .none kV4 dc4 pm4 an4 cd4 ct4), sl4⟩) (c4 : PySem.W.codeIn K cd4 "check_pixel" = true) (k4 : PySem.W.keepIn K (.ref f4) = true)
    (a5 : PySem.W.nsIn K mainGlobals "check_turn" = some (some (.ref f5))) (l5 : K.lookup f5 = some ⟨oc5, od5, .func (PySem.W.fnOf "check_turn" "check_turn" (defArgs s_check_turn) (defBody s_check_turn) (defScope s_check_turn) .none kV5 dc5 pm5 an5 cd5 ct5), sl5⟩) (c5 : PySem.W.codeIn K cd5 "check_turn" = true) (k5 : PySem.W.keepIn K (.ref f5) = true)
    (a6 : PySem.W.nsIn K mainGlobals "nearest" = some (some (.ref f6))) (l6 : K.lookup f6 = some ⟨oc6, od6, .func (PySem.W.fnOf "nearest" "nearest" (defArgs s_nearest) (defBody s_nearest) (defScope s_nearest) .none kV6 dc6 pm6 an6 cd6 ct6), sl6⟩) (c6 : PySem.W.codeIn K cd6 "nearest" = true) (k6 : PySem.W.keepIn K (.ref f6) = true)
    (a7 : PySem.W.nsIn K mainGlobals "times" = some (some (.ref f7))) (l7 : K.lookup f7 = some ⟨oc7, od7, .func (PySem.W.fnOf "times" "times" (defArgs s_times) (defBody s_times) (defScope s_times) .none kV7 dc7 pm7 an7 cd7 ct7), sl7⟩) (c7 : PySem.W.codeIn K cd7 "times" = true) (k7 : PySem.W.keepIn K (.ref f7) = true)
    (a8 : PySem.W.nsIn K mainGlobals "legs_of" = some (some (.ref f8))) (l8 : K.lookup f8 = some ⟨oc8, od8, .func (PySem.W.fnOf "legs_of" "legs_of" (defArgs s_legs_of) (defBody s_legs_of) (defScope s_legs_of) .none kV8 dc8 pm8 an8 cd8 ct8), sl8⟩) (c8 : PySem.W.codeIn K cd8 "legs_of" = true) (k8 : PySem.W.keepIn K (.ref f8) = true)
    (a9 : PySem.W.nsIn K mainGlobals "exact_place" = some (some (.ref f9))) (l9 : K.lookup f9 = some ⟨oc9, od9, .func (PySem.W.fnOf "exact_place" "exact_place" (defArgs s_exact_place) (defBody s_exact_place) (defScope s_exact_place) .none kV9 dc9 pm9 an9 cd9 ct9), sl9⟩) (c9 : PySem.W.codeIn K cd9 "exact_place" = true) (k9 : PySem.W.keepIn K (.ref f9) = true)
    (a10 : PySem.W.nsIn K mainGlobals "image" = some (some (.ref f10))) (l10 : K.lookup f10 = some ⟨oc10, od10, .func (PySem.W.fnOf "image" "image" (defArgs s_image) (defBody s_image) (defScope s_image) .none kV10 dc10 pm10 an10 cd10 ct10), sl10⟩) (c10 : PySem.W.codeIn K cd10 "image" = true) (k10 : PySem.W.keepIn K (.ref f10) = true)
    (a11 : PySem.W.nsIn K mainGlobals "_law_source" = some (some (.ref f11))) (l11 : K.lookup f11 = some ⟨oc11, od11, .func (PySem.W.fnOf "_law_source" "_law_source" (defArgs s__law_source) (defBody s__law_source) (defScope s__law_source) .none kV11 dc11 pm11 an11 cd11 ct11), sl11⟩) (c11 : PySem.W.codeIn K cd11 "_law_source" = true) (k11 : PySem.W.keepIn K (.ref f11) = true)
    (a12 : PySem.W.nsIn K mainGlobals "_law_draw" = some (some (.ref f12))) (l12 : K.lookup f12 = some ⟨oc12, od12, .func (PySem.W.fnOf "_law_draw" "_law_draw" (defArgs s__law_draw) (defBody s__law_draw) (defScope s__law_draw) .none kV12 dc12 pm12 an12 cd12 ct12), sl12⟩) (c12 : PySem.W.codeIn K cd12 "_law_draw" = true) (k12 : PySem.W.keepIn K (.ref f12) = true)
    (a13 : PySem.W.nsIn K mainGlobals "_law_common" = some (some (.ref f13))) (l13 : K.lookup f13 = some ⟨oc13, od13, .func (PySem.W.fnOf "_law_common" "_law_common" (defArgs s__law_common) (defBody s__law_common) (defScope s__law_common) .none kV13 dc13 pm13 an13 cd13 ct13), sl13⟩) (c13 : PySem.W.codeIn K cd13 "_law_common" = true) (k13 : PySem.W.keepIn K (.ref f13) = true)
    (a14 : PySem.W.nsIn K mainGlobals "_law_spin" = some (some (.ref f14))) (l14 : K.lookup f14 = some ⟨oc14, od14, .func (PySem.W.fnOf "_law_spin" "_law_spin" (defArgs s__law_spin) (defBody s__law_spin) (defScope s__law_spin) .none kV14 dc14 pm14 an14 cd14 ct14), sl14⟩) (c14 : PySem.W.codeIn K cd14 "_law_spin" = true) (k14 : PySem.W.keepIn K (.ref f14) = true)
    (a15 : PySem.W.nsIn K mainGlobals "_law_dot" = some (some (.ref f15))) (l15 : K.lookup f15 = some ⟨oc15, od15, .func (PySem.W.fnOf "_law_dot" "_law_dot" (defArgs s__law_dot) (defBody s__law_dot) (defScope s__law_dot) .none kV15 dc15 pm15 an15 cd15 ct15), sl15⟩) (c15 : PySem.W.codeIn K cd15 "_law_dot" = true) (k15 : PySem.W.keepIn K (.ref f15) = true)
    (a16 : PySem.W.nsIn K mainGlobals "_law_times" = some (some (.ref f16))) (l16 : K.lookup f16 = some ⟨oc16, od16, .func (PySem.W.fnOf "_law_times" "_law_times" (defArgs s__law_times) (defBody s__law_times) (defScope s__law_times) .none kV16 dc16 pm16 an16 cd16 ct16), sl16⟩) (c16 : PySem.W.codeIn K cd16 "_law_times" = true) (k16 : PySem.W.keepIn K (.ref f16) = true)
    (a17 : PySem.W.nsIn K mainGlobals "_law_legs" = some (some (.ref f17))) (l17 : K.lookup f17 = some ⟨oc17, od17, .func (PySem.W.fnOf "_law_legs" "_law_legs" (defArgs s__law_legs) (defBody s__law_legs) (defScope s__law_legs) .none kV17 dc17 pm17 an17 cd17 ct17), sl17⟩) (c17 : PySem.W.codeIn K cd17 "_law_legs" = true) (k17 : PySem.W.keepIn K (.ref f17) = true)
    (a18 : PySem.W.nsIn K mainGlobals "_law_close" = some (some (.ref f18))) (l18 : K.lookup f18 = some ⟨oc18, od18, .func (PySem.W.fnOf "_law_close" "_law_close" (defArgs s__law_close) (defBody s__law_close) (defScope s__law_close) .none kV18 dc18 pm18 an18 cd18 ct18), sl18⟩) (c18 : PySem.W.codeIn K cd18 "_law_close" = true) (k18 : PySem.W.keepIn K (.ref f18) = true)
    (a19 : PySem.W.nsIn K mainGlobals "_law_seen" = some (some (.ref f19))) (l19 : K.lookup f19 = some ⟨oc19, od19, .func (PySem.W.fnOf "_law_seen" "_law_seen" (defArgs s__law_seen) (defBody s__law_seen) (defScope s__law_seen) .none kV19 dc19 pm19 an19 cd19 ct19), sl19⟩) (c19 : PySem.W.codeIn K cd19 "_law_seen" = true) (k19 : PySem.W.keepIn K (.ref f19) = true)
    (a20 : PySem.W.nsIn K mainGlobals "is_rest" = some (some (.ref f20))) (l20 : K.lookup f20 = some ⟨oc20, od20, .func (PySem.W.fnOf "is_rest" "is_rest" (defArgs s_is_rest) (defBody s_is_rest) (defScope s_is_rest) .none kV20 dc20 pm20 an20 cd20 ct20), sl20⟩) (c20 : PySem.W.codeIn K cd20 "is_rest" = true) (k20 : PySem.W.keepIn K (.ref f20) = true)
    (a21 : PySem.W.nsIn K mainGlobals "rest_of" = some (some (.ref f21))) (l21 : K.lookup f21 = some ⟨oc21, od21, .func (PySem.W.fnOf "rest_of" "rest_of" (defArgs s_rest_of) (defBody s_rest_of) (defScope s_rest_of) .none kV21 dc21 pm21 an21 cd21 ct21), sl21⟩) (c21 : PySem.W.codeIn K cd21 "rest_of" = true) (k21 : PySem.W.keepIn K (.ref f21) = true)
    (a22 : PySem.W.nsIn K mainGlobals "_law_left" = some (some (.ref f22))) (l22 : K.lookup f22 = some ⟨oc22, od22, .func (PySem.W.fnOf "_law_left" "_law_left" (defArgs s__law_left) (defBody s__law_left) (defScope s__law_left) .none kV22 dc22 pm22 an22 cd22 ct22), sl22⟩) (c22 : PySem.W.codeIn K cd22 "_law_left" = true) (k22 : PySem.W.keepIn K (.ref f22) = true)
    (a23 : PySem.W.nsIn K mainGlobals "_law_inside" = some (some (.ref f23))) (l23 : K.lookup f23 = some ⟨oc23, od23, .func (PySem.W.fnOf "_law_inside" "_law_inside" (defArgs s__law_inside) (defBody s__law_inside) (defScope s__law_inside) .none kV23 dc23 pm23 an23 cd23 ct23), sl23⟩) (c23 : PySem.W.codeIn K cd23 "_law_inside" = true) (k23 : PySem.W.keepIn K (.ref f23) = true)
    (a24 : PySem.W.nsIn K mainGlobals "_law_things" = some (some (.ref f24))) (l24 : K.lookup f24 = some ⟨oc24, od24, .func (PySem.W.fnOf "_law_things" "_law_things" (defArgs s__law_things) (defBody s__law_things) (defScope s__law_things) .none kV24 dc24 pm24 an24 cd24 ct24), sl24⟩) (c24 : PySem.W.codeIn K cd24 "_law_things" = true) (k24 : PySem.W.keepIn K (.ref f24) = true)
    (a25 : PySem.W.nsIn K mainGlobals "_law_right" = some (some (.ref f25))) (l25 : K.lookup f25 = some ⟨oc25, od25, .func (PySem.W.fnOf "_law_right" "_law_right" (defArgs s__law_right) (defBody s__law_right) (defScope s__law_right) .none kV25 dc25 pm25 an25 cd25 ct25), sl25⟩) (c25 : PySem.W.codeIn K cd25 "_law_right" = true) (k25 : PySem.W.keepIn K (.ref f25) = true)
    (a26 : PySem.W.nsIn K mainGlobals "law" = some (some (.ref f26))) (l26 : K.lookup f26 = some ⟨oc26, od26, .func (PySem.W.fnOf "law" "law" (defArgs s_law) (defBody s_law) (defScope s_law) .none kV26 dc26 pm26 an26 cd26 ct26), sl26⟩) (c26 : PySem.W.codeIn K cd26 "law" = true) (k26 : PySem.W.keepIn K (.ref f26) = true)
    (z_abs : PySem.W.nsIn K mainGlobals "abs" = some none)
    (z_all : PySem.W.nsIn K mainGlobals "all" = some none)
    (z_bool : PySem.W.nsIn K mainGlobals "bool" = some none)
    (z_enumerate : PySem.W.nsIn K mainGlobals "enumerate" = some none)
    (z_int : PySem.W.nsIn K mainGlobals "int" = some none)
    (z_isinstance : PySem.W.nsIn K mainGlobals "isinstance" = some none)
    (z_len : PySem.W.nsIn K mainGlobals "len" = some none)
    (z_max : PySem.W.nsIn K mainGlobals "max" = some none)
    (z_min : PySem.W.nsIn K mainGlobals "min" = some none)
    (z_range : PySem.W.nsIn K mainGlobals "range" = some none)
    (z_repr : PySem.W.nsIn K mainGlobals "repr" = some none)
    (z_str : PySem.W.nsIn K mainGlobals "str" = some none)
    (z_tuple : PySem.W.nsIn K mainGlobals "tuple" = some none)
    (y_gcd : PySem.W.nsIn K mainGlobals "gcd" = some (some (.builtin "math.gcd")))
    (x_GREATEST_P : ∃ u, mg "GREATEST_P" = some (.int (1000000000000000) u))
    (eA_InvalidPixel : PySem.W.nsIn K mainGlobals "InvalidPixel" = some (some (.ref C_InvalidPixel)))
    (eK_InvalidPixel : PySem.W.keepIn K (.ref C_InvalidPixel) = true)
    (eQ_InvalidPixel : PySem.W.excIn K C_InvalidPixel [.type "ValueError", .type "Exception", .type "BaseException", .type "object"] "ValueError.__new__" = true)
    (eX_InvalidPixel : PySem.W.subIn K (.ref C_InvalidPixel) (.type "BaseException") = some true)
    (eT_InvalidPixel : PySem.W.typeIn K (.ref C_InvalidPixel) = some (.type "type"))
    (eA_InvalidTurn : PySem.W.nsIn K mainGlobals "InvalidTurn" = some (some (.ref C_InvalidTurn)))
    (eK_InvalidTurn : PySem.W.keepIn K (.ref C_InvalidTurn) = true)
    (eQ_InvalidTurn : PySem.W.excIn K C_InvalidTurn [.type "ValueError", .type "Exception", .type "BaseException", .type "object"] "ValueError.__new__" = true)
    (eX_InvalidTurn : PySem.W.subIn K (.ref C_InvalidTurn) (.type "BaseException") = some true)
    (eT_InvalidTurn : PySem.W.typeIn K (.ref C_InvalidTurn) = some (.type "type"))
    : ∃ fd : FuncData, (∀ (s : Shared) (v : Value), BindsTo s fd ⟨[v], []⟩ [("_law_script", v)]) ∧ ∀ base : Heap, K.In base → base.Ns mainGlobals mg → GOk l.prog w K mg base 10 fa fd ["_law_script"] (spD K (conLaw 63)) := by
  have e := hfa.symm.trans (PySem.W.mg_of X G a26)
  cases e
  have F0 := fun_mk (st := s_is_whole) l0 c0 k0
  have F1 := fun_mk (st := s_is_whole_tuple) l1 c1 k1
  have F2 := fun_mk (st := s_is_pixel) l2 c2 k2
  have F3 := fun_mk (st := s_is_turn) l3 c3 k3
  have F4 := fun_mk (st := s_check_pixel) l4 c4 k4
  have F5 := fun_mk (st := s_check_turn) l5 c5 k5
  have F6 := fun_mk (st := s_nearest) l6 c6 k6
  have F7 := fun_mk (st := s_times) l7 c7 k7
  have F8 := fun_mk (st := s_legs_of) l8 c8 k8
  have F9 := fun_mk (st := s_exact_place) l9 c9 k9
  have F10 := fun_mk (st := s_image) l10 c10 k10
  have F11 := fun_mk (st := s__law_source) l11 c11 k11
  have F12 := fun_mk (st := s__law_draw) l12 c12 k12
  have F13 := fun_mk (st := s__law_common) l13 c13 k13
  have F14 := fun_mk (st := s__law_spin) l14 c14 k14
  have F15 := fun_mk (st := s__law_dot) l15 c15 k15
  have F16 := fun_mk (st := s__law_times) l16 c16 k16
  have F17 := fun_mk (st := s__law_legs) l17 c17 k17
  have F18 := fun_mk (st := s__law_close) l18 c18 k18
  have F19 := fun_mk (st := s__law_seen) l19 c19 k19
  have F20 := fun_mk (st := s_is_rest) l20 c20 k20
  have F21 := fun_mk (st := s_rest_of) l21 c21 k21
  have F22 := fun_mk (st := s__law_left) l22 c22 k22
  have F23 := fun_mk (st := s__law_inside) l23 c23 k23
  have F24 := fun_mk (st := s__law_things) l24 c24 k24
  have F25 := fun_mk (st := s__law_right) l25 c25 k25
  have F26 := fun_mk (st := s_law) l26 c26 k26
  have n_abs := PySem.W.mg_none_of X G z_abs
  have n_all := PySem.W.mg_none_of X G z_all
  have n_bool := PySem.W.mg_none_of X G z_bool
  have n_enumerate := PySem.W.mg_none_of X G z_enumerate
  have n_int := PySem.W.mg_none_of X G z_int
  have n_isinstance := PySem.W.mg_none_of X G z_isinstance
  have n_len := PySem.W.mg_none_of X G z_len
  have n_max := PySem.W.mg_none_of X G z_max
  have n_min := PySem.W.mg_none_of X G z_min
  have n_range := PySem.W.mg_none_of X G z_range
  have n_repr := PySem.W.mg_none_of X G z_repr
  have n_str := PySem.W.mg_none_of X G z_str
  have n_tuple := PySem.W.mg_none_of X G z_tuple
  have b_gcd := PySem.W.mg_of X G y_gcd
  have g_GREATEST_P := x_GREATEST_P
  have o_InvalidPixel : OwnErr K mg "InvalidPixel" C_InvalidPixel := ⟨PySem.W.mg_of X G eA_InvalidPixel, eK_InvalidPixel, eQ_InvalidPixel, eX_InvalidPixel, eT_InvalidPixel⟩
  have o_InvalidTurn : OwnErr K mg "InvalidTurn" C_InvalidTurn := ⟨PySem.W.mg_of X G eA_InvalidTurn, eK_InvalidTurn, eQ_InvalidTurn, eX_InvalidTurn, eT_InvalidTurn⟩
  refine ⟨PySem.W.fnOf "law" "law" (defArgs s_law) (defBody s_law) (defScope s_law) .none kV26 dc26 pm26 an26 cd26 ct26, fun s v => .of_eq rfl, fun base _ _ => ?_⟩
  have c_is_whole := cal_of (kws := []) F0 (ok_is_whole (P := l.prog) (w := w) (base := base) F0 n_bool n_int n_isinstance) (PySem.W.mg_of X G a0) (bargs_of F0 fun _ _ _ _ _ _ us hl => match us, hl with | [_], _ => rfl) (fun _ h => nomatch h)
  have c_is_whole_tuple := cal_of (kws := []) F1 (ok_is_whole_tuple (P := l.prog) (w := w) (base := base) F1 c_is_whole n_all n_isinstance n_len n_tuple) (PySem.W.mg_of X G a1) (bargs_of F1 fun _ _ _ _ _ _ us hl => match us, hl with | [_, _], _ => rfl) (fun _ h => nomatch h)
  have c_is_pixel := cal_of (kws := []) F2 (ok_is_pixel (P := l.prog) (w := w) (base := base) F2 c_is_whole_tuple) (PySem.W.mg_of X G a2) (bargs_of F2 fun _ _ _ _ _ _ us hl => match us, hl with | [_], _ => rfl) (fun _ h => nomatch h)
  have c_is_turn := cal_of (kws := []) F3 (ok_is_turn (P := l.prog) (w := w) (base := base) F3 b_gcd c_is_whole_tuple g_GREATEST_P n_abs) (PySem.W.mg_of X G a3) (bargs_of F3 fun _ _ _ _ _ _ us hl => match us, hl with | [_], _ => rfl) (fun _ h => nomatch h)
  have c_check_pixel := cal_of (kws := []) F4 (ok_check_pixel (P := l.prog) (w := w) (base := base) F4 c_is_pixel) (PySem.W.mg_of X G a4) (bargs_of F4 fun _ _ _ _ _ _ us hl => match us, hl with | [_], _ => rfl) (fun _ h => nomatch h)
  have c_check_turn := cal_of (kws := []) F5 (ok_check_turn (P := l.prog) (w := w) (base := base) F5 c_is_turn) (PySem.W.mg_of X G a5) (bargs_of F5 fun _ _ _ _ _ _ us hl => match us, hl with | [_], _ => rfl) (fun _ h => nomatch h)
  have r_check_pixel := calx_of (kws := []) F4 (okx_check_pixel (P := l.prog) (w := w) (base := base) F4 c_is_pixel o_InvalidPixel) (PySem.W.mg_of X G a4) (bargs_of F4 fun _ _ _ _ _ _ us hl => match us, hl with | [_], _ => rfl) (fun _ h => nomatch h)
  have r_check_turn := calx_of (kws := []) F5 (okx_check_turn (P := l.prog) (w := w) (base := base) F5 c_is_turn o_InvalidTurn) (PySem.W.mg_of X G a5) (bargs_of F5 fun _ _ _ _ _ _ us hl => match us, hl with | [_], _ => rfl) (fun _ h => nomatch h)
  have c_nearest := cal_of (kws := []) F6 (ok_nearest (P := l.prog) (w := w) (base := base) F6 ) (PySem.W.mg_of X G a6) (bargs_of F6 fun _ _ _ _ _ _ us hl => match us, hl with | [_, _], _ => rfl) (fun _ h => nomatch h)
  have c_times := cal_of (kws := []) F7 (ok_times (P := l.prog) (w := w) (base := base) F7 ) (PySem.W.mg_of X G a7) (bargs_of F7 fun _ _ _ _ _ _ us hl => match us, hl with | [_, _], _ => rfl) (fun _ h => nomatch h)
  have c_legs_of := cal_of (kws := []) F8 (ok_legs_of (P := l.prog) (w := w) (base := base) F8 c_check_turn c_times n_range) (PySem.W.mg_of X G a8) (bargs_of F8 fun _ _ _ _ _ _ us hl => match us, hl with | [_], _ => rfl) (fun _ h => nomatch h)
  have c_exact_place := cal_of (kws := []) F9 (ok_exact_place (P := l.prog) (w := w) (base := base) F9 c_check_pixel c_check_turn c_legs_of c_times) (PySem.W.mg_of X G a9) (bargs_of F9 fun _ _ _ _ _ _ us hl => match us, hl with | [_, _], _ => rfl) (fun _ h => nomatch h)
  have c_image := cal_of (kws := []) F10 (ok_image (P := l.prog) (w := w) (base := base) F10 c_exact_place c_nearest) (PySem.W.mg_of X G a10) (bargs_of F10 fun _ _ _ _ _ _ us hl => match us, hl with | [_, _], _ => rfl) (fun _ h => nomatch h)
  have c__law_source := cal_of (kws := []) F11 (ok__law_source (P := l.prog) (w := w) (base := base) F11 n_abs n_int n_max) (PySem.W.mg_of X G a11) (bargs_of F11 fun _ _ _ _ _ _ us hl => match us, hl with | [_, _], _ => rfl) (fun _ h => nomatch h)
  have c__law_draw := cal_of (kws := []) F12 (ok__law_draw (P := l.prog) (w := w) (base := base) F12 n_int) (PySem.W.mg_of X G a12) (bargs_of F12 fun _ _ _ _ _ _ us hl => match us, hl with | [_, _], _ => rfl) (fun _ h => nomatch h)
  have c__law_common := cal_of (kws := []) F13 (ok__law_common (P := l.prog) (w := w) (base := base) F13 n_abs n_int) (PySem.W.mg_of X G a13) (bargs_of F13 fun _ _ _ _ _ _ us hl => match us, hl with | [_, _], _ => rfl) (fun _ h => nomatch h)
  have c__law_spin := cal_of (kws := []) F14 (ok__law_spin (P := l.prog) (w := w) (base := base) F14 c__law_common c__law_draw n_int n_max n_min) (PySem.W.mg_of X G a14) (bargs_of F14 fun _ _ _ _ _ _ us hl => match us, hl with | [_, _], _ => rfl) (fun _ h => nomatch h)
  have c__law_dot := cal_of (kws := []) F15 (ok__law_dot (P := l.prog) (w := w) (base := base) F15 c__law_draw n_range n_tuple) (PySem.W.mg_of X G a15) (bargs_of F15 fun _ _ _ _ _ _ us hl => match us, hl with | [_, _], _ => rfl) (fun _ h => nomatch h)
  have c__law_times := cal_of (kws := []) F16 (ok__law_times (P := l.prog) (w := w) (base := base) F16 ) (PySem.W.mg_of X G a16) (bargs_of F16 fun _ _ _ _ _ _ us hl => match us, hl with | [_, _], _ => rfl) (fun _ h => nomatch h)
  have c__law_legs := cal_of (kws := []) F17 (ok__law_legs (P := l.prog) (w := w) (base := base) F17 ) (PySem.W.mg_of X G a17) (bargs_of F17 fun _ _ _ _ _ _ us hl => match us, hl with | [_], _ => rfl) (fun _ h => nomatch h)
  have c__law_close := cal_of (kws := []) F18 (ok__law_close (P := l.prog) (w := w) (base := base) F18 ) (PySem.W.mg_of X G a18) (bargs_of F18 fun _ _ _ _ _ _ us hl => match us, hl with | [_, _], _ => rfl) (fun _ h => nomatch h)
  have c__law_seen := cal_of (kws := []) F19 (ok__law_seen (P := l.prog) (w := w) (base := base) F19 c__law_close c__law_legs c__law_times n_range) (PySem.W.mg_of X G a19) (bargs_of F19 fun _ _ _ _ _ _ us hl => match us, hl with | [_, _], _ => rfl) (fun _ h => nomatch h)
  have c_is_rest := cal_of (kws := [(0, ["value", "turn"])]) F20 (ok_is_rest (P := l.prog) (w := w) (base := base) F20 c_check_turn c_is_whole_tuple c_times n_abs) (PySem.W.mg_of X G a20) (bargs_of F20 fun _ _ _ _ _ _ us hl => match us, hl with | [_, _], _ => rfl) (kws_cons (kw_of F20 rfl (by decide) fun _ _ _ _ _ _ us ws h1 h2 => match us, ws, h1, h2 with | [], [_, _], _, _ => rfl) (fun _ h => nomatch h))
  have c_rest_of := cal_of (kws := [(0, ["pixel", "turn"])]) F21 (ok_rest_of (P := l.prog) (w := w) (base := base) F21 c_check_pixel c_check_turn c_image c_times) (PySem.W.mg_of X G a21) (bargs_of F21 fun _ _ _ _ _ _ us hl => match us, hl with | [_, _], _ => rfl) (kws_cons (kw_of F21 rfl (by decide) fun _ _ _ _ _ _ us ws h1 h2 => match us, ws, h1, h2 with | [], [_, _], _, _ => rfl) (fun _ h => nomatch h))
  have c__law_left := cal_of (kws := []) F22 (ok__law_left (P := l.prog) (w := w) (base := base) F22 c__law_seen c__law_times) (PySem.W.mg_of X G a22) (bargs_of F22 fun _ _ _ _ _ _ us hl => match us, hl with | [_, _], _ => rfl) (fun _ h => nomatch h)
  have c__law_inside := cal_of (kws := []) F23 (ok__law_inside (P := l.prog) (w := w) (base := base) F23 c__law_times n_abs) (PySem.W.mg_of X G a23) (bargs_of F23 fun _ _ _ _ _ _ us hl => match us, hl with | [_, _], _ => rfl) (fun _ h => nomatch h)
  have c__law_things := cal_of (kws := []) F24 (ok__law_things (P := l.prog) (w := w) (base := base) F24 c__law_draw n_str) (PySem.W.mg_of X G a24) (bargs_of F24 fun _ _ _ _ _ _ us hl => match us, hl with | [_, _], _ => rfl) (fun _ h => nomatch h)
  have c__law_right := cal_of (kws := []) F25 (ok__law_right (P := l.prog) (w := w) (base := base) F25 c__law_inside c__law_left c__law_things c_is_rest c_rest_of n_bool n_int n_isinstance n_len n_repr n_tuple) (PySem.W.mg_of X G a25) (bargs_of F25 fun _ _ _ _ _ _ us hl => match us, hl with | [_, _, _], _ => rfl) (fun _ h => nomatch h)
  exact ok_law (P := l.prog) (w := w) (base := base) F26 c__law_dot c__law_right c__law_source c__law_spin c_is_rest c_rest_of n_enumerate n_int n_len n_max n_min
end Tp
set_option maxRecDepth 100000 in
set_option maxHeartbeats 0 in
theorem PySem.Challenge.cw_turnedpixels_k07_rests_by_own_reckoning_holds : PySem.Challenge.rw_turnedpixels_k07_rests_by_own_reckoning.Holds := by
  w_on; o_law; k_head; (case hw => w_witness2)
  k_fill
  refine DL.law_end (l := PySem.Challenge.rw_turnedpixels_k07_rests_by_own_reckoning) (n := 63) (k := 10) (x := "_law_script") rfl (by decide) rfl ⟨rfl, by decide, by decide⟩ (fun w h Y => PySem.W.kIn_of Y) ?F
  case F =>
    intro w mg fa h KX G hmg
    refine' Tp.all_mk KX G hmg ?a0 ?l0 ?c0 ?k0 ?a1 ?l1 ?c1 ?k1 ?a2 ?l2 ?c2 ?k2 ?a3 ?l3 ?c3 ?k3 ?a4 ?l4 ?c4 ?k4 ?a5 ?l5 ?c5 ?k5 ?a6 ?l6 ?c6 ?k6 ?a7 ?l7 ?c7 ?k7 ?a8 ?l8 ?c8 ?k8 ?a9 ?l9 ?c9 ?k9 ?a10 ?l10 ?c10 ?k10 ?a11 ?l11 ?c11 ?k11 ?a12 ?l12 ?c12 ?k12 ?a13 ?l13 ?c13 ?k13 ?a14 ?l14 ?c14 ?k14 ?a15 ?l15 ?c15 ?k15 ?a16 ?l16 ?c16 ?k16 ?a17 ?l17 ?c17 ?k17 ?a18 ?l18 ?c18 ?k18 ?a19 ?l19 ?c19 ?k19 ?a20 ?l20 ?c20 ?k20 ?a21 ?l21 ?c21 ?k21 ?a22 ?l22 ?c22 ?k22 ?a23 ?l23 ?c23 ?k23 ?a24 ?l24 ?c24 ?k24 ?a25 ?l25 ?c25 ?k25 ?a26 ?l26 ?c26 ?k26 ?z_abs ?z_all ?z_bool ?z_enumerate ?z_int ?z_isinstance ?z_len ?z_max ?z_min ?z_range ?z_repr ?z_str ?z_tuple ?y_gcd ?x_GREATEST_P ?eA_InvalidPixel ?eK_InvalidPixel ?eQ_InvalidPixel ?eX_InvalidPixel ?eT_InvalidPixel ?eA_InvalidTurn ?eK_InvalidTurn ?eQ_InvalidTurn ?eX_InvalidTurn ?eT_InvalidTurn
    (case a0 => k_is)
    (case l0 => k_is)
    (case c0 => k_is)
    (case k0 => k_is)
    (case a1 => k_is)
    (case l1 => k_is)
    (case c1 => k_is)
    (case k1 => k_is)
    (case a2 => k_is)
    (case l2 => k_is)
    (case c2 => k_is)
    (case k2 => k_is)
    (case a3 => k_is)
    (case l3 => k_is)
    (case c3 => k_is)
    (case k3 => k_is)
    (case a4 => k_is)
    (case l4 => k_is)
    (case c4 => k_is)
    (case k4 => k_is)
    (case a5 => k_is)
    (case l5 => k_is)
    (case c5 => k_is)
    (case k5 => k_is)
    (case a6 => k_is)
    (case l6 => k_is)
    (case c6 => k_is)
    (case k6 => k_is)
    (case a7 => k_is)
    (case l7 => k_is)
    (case c7 => k_is)
    (case k7 => k_is)
    (case a8 => k_is)
    (case l8 => k_is)
    (case c8 => k_is)
    (case k8 => k_is)
    (case a9 => k_is)
    (case l9 => k_is)
    (case c9 => k_is)
    (case k9 => k_is)
    (case a10 => k_is)
    (case l10 => k_is)
    (case c10 => k_is)
    (case k10 => k_is)
    (case a11 => k_is)
    (case l11 => k_is)
    (case c11 => k_is)
    (case k11 => k_is)
    (case a12 => k_is)
    (case l12 => k_is)
    (case c12 => k_is)
    (case k12 => k_is)
    (case a13 => k_is)
    (case l13 => k_is)
    (case c13 => k_is)
    (case k13 => k_is)
    (case a14 => k_is)
    (case l14 => k_is)
    (case c14 => k_is)
    (case k14 => k_is)
    (case a15 => k_is)
    (case l15 => k_is)
    (case c15 => k_is)
    (case k15 => k_is)
    (case a16 => k_is)
    (case l16 => k_is)
    (case c16 => k_is)
    (case k16 => k_is)
    (case a17 => k_is)
    (case l17 => k_is)
    (case c17 => k_is)
    (case k17 => k_is)
    (case a18 => k_is)
    (case l18 => k_is)
    (case c18 => k_is)
    (case k18 => k_is)
    (case a19 => k_is)
    (case l19 => k_is)
    (case c19 => k_is)
    (case k19 => k_is)
    (case a20 => k_is)
    (case l20 => k_is)
    (case c20 => k_is)
    (case k20 => k_is)
    (case a21 => k_is)
    (case l21 => k_is)
    (case c21 => k_is)
    (case k21 => k_is)
    (case a22 => k_is)
    (case l22 => k_is)
    (case c22 => k_is)
    (case k22 => k_is)
    (case a23 => k_is)
    (case l23 => k_is)
    (case c23 => k_is)
    (case k23 => k_is)
    (case a24 => k_is)
    (case l24 => k_is)
    (case c24 => k_is)
    (case k24 => k_is)
    (case a25 => k_is)
    (case l25 => k_is)
    (case c25 => k_is)
    (case k25 => k_is)
    (case a26 => k_is)
    (case l26 => k_is)
    (case c26 => k_is)
    (case k26 => k_is)
    (case z_abs => k_is)
    (case z_all => k_is)
    (case z_bool => k_is)
    (case z_enumerate => k_is)
    (case z_int => k_is)
    (case z_isinstance => k_is)
    (case z_len => k_is)
    (case z_max => k_is)
    (case z_min => k_is)
    (case z_range => k_is)
    (case z_repr => k_is)
    (case z_str => k_is)
    (case z_tuple => k_is)
    (case y_gcd => k_is)
    (case x_GREATEST_P => exact ⟨_, PySem.W.mg_of KX G (by k_is)⟩)
    (case eA_InvalidPixel => k_is)
    (case eK_InvalidPixel => k_is)
    (case eQ_InvalidPixel => k_exc)
    (case eX_InvalidPixel => k_is)
    (case eT_InvalidPixel => k_is)
    (case eA_InvalidTurn => k_is)
    (case eK_InvalidTurn => k_is)
    (case eQ_InvalidTurn => k_exc)
    (case eX_InvalidTurn => k_is)
    (case eT_InvalidTurn => k_is)
#print axioms PySem.Challenge.cw_turnedpixels_k07_rests_by_own_reckoning_holds
