import PyProof.Rows.All
import Wide.All
import OpenK.AllK
import Wide.FinOn
import HandS.ForMost
import HandS.Wide
import HandS.Gcd
import HandS.IsInst
import HandS.RaiseMore
import HandS.ForExc
import KE.DatumOrd
import HandS.Deep
import HandS.Style
import HandS.Sort
import KE.SortData
import HandS.FStr
import HandS.ExcField
import KE.KExcSuper
import KE.KExcMake
import HandS.TryMany
import HandS.ExcOwn
import KE.DataFind
import KE.KTupSum
import HandS.Zip
import PyProof.MaxThree
import PyProof.LongRange
import KE.DataCmp
import HandS.TupLe
import KE.KExcStr
import PyProof.ExcReprCall
import PyProof.ReprUnder
import PyProof.ReprLen
import HandS.ExcValue
import HandS.ExcIs
import HandS.Dict
import HandS.HotCalls
import KE.KExcIs
import KE.KIntText
import PyProof.StrOps2
import PyProof.CallStr
import HandS.WideBits
import HandS.TupSets
import PySem.Challenge.RW_turnedpixels_k44_errors_of_ways
set_option Elab.async false
set_option linter.all false
set_option exponentiation.threshold 3000
set_option maxRecDepth 100000
set_option maxHeartbeats 4000000
/-! Data in place of the heap: what a value is as data, kept while the heap grows; lists that are changed stand apart. -/
namespace DL
open PySem PySem.Spec PyProof.Rows L2

/-! ### the readings that the semantics itself gives -/
def wE (X : Cx) (e : Expr) : TE := fun σ H Q => ∀ pins s, Inv X pins σ H s → wpAny (model X.prog X.w) X.A (eval e X.env) (EP X pins σ Q) X.xe s
def wT (X : Cx) (e : Expr) : TT := fun σ H Q => ∀ pins s, Inv X pins σ H s → wpAny (model X.prog X.w) X.A (isTrue e X.env (eval e X.env)) (TP X pins σ Q) X.xe s
def wW (X : Cx) (e : Expr) : TT := fun σ H Q => ∀ whole pins s, Inv X pins σ H s → wpAny (model X.prog X.w) X.A (isTrue e X.env whole) (TP X pins σ Q) X.xe s
def wA (X : Cx) (es : List Expr) : TA := fun σ H Q => ∀ pos pins s, Inv X pins σ H s → wpAny (model X.prog X.w) X.A (spliced (backTo pos (starEach es X.env))) (AP X pins σ Q) X.xe s
def wS (X : Cx) (st : Stmt) : TS := fun D σ H => ∀ pins s, Inv X pins σ H s → wpAny (model X.prog X.w) X.A (exec st X.env) (SP X pins D) X.xe s
def wSs (X : Cx) (st : List Stmt) : TS := fun D σ H => ∀ pins s, Inv X pins σ H s → wpAny (model X.prog X.w) X.A (execs st X.env) (SP X pins D) X.xe s
def wG (X : Cx) (tg : Expr) : TG := fun v σ H Q => ∀ pins s u, Inv X pins σ H s → RelV v u →
  wpAny (model X.prog X.w) X.A (assign tg X.env u) (fun _ s' => ∃ σ' H', Inv X pins σ' H' s' ∧ Q σ' H') X.xe s
section
variable {X : Cx} {e : Expr} {es : List Expr} {st : Stmt} {sts : List Stmt} {σ : L2.St} {H : Hp}
theorem peW : PE X e (wE X e) := ⟨fun pins s _ _ _ I h => h pins s I⟩
theorem ptW : PT X e (wT X e) := ⟨fun pins s _ _ _ I h => h pins s I⟩
theorem pwW : PW X e (wW X e) := ⟨fun wh pins s _ _ _ I h => h wh pins s I⟩
theorem paW : PA X es (wA X es) := ⟨fun pos pins s _ _ _ I h => h pos pins s I⟩
theorem psW : PS X st (wS X st) := ⟨fun pins s _ _ _ I h => h pins s I⟩
theorem pssW : PSs X sts (wSs X sts) := ⟨fun pins s _ _ _ I h => h pins s I⟩
theorem pgW {tg : Expr} : PG X tg (wG X tg) := ⟨fun pins s _ _ _ u _ I r h => h pins s u I r⟩
theorem wE_of {t : TE} {Q : VK} (h : PE X e t) (q : t σ H Q) : wE X e σ H Q := fun pins s I => h.run pins s σ H Q I q
theorem wT_of {t : TT} {Q : Bool → Hp → Prop} (h : PT X e t) (q : t σ H Q) : wT X e σ H Q := fun pins s I => h.run pins s σ H Q I q
theorem wW_of {t : TT} {Q : Bool → Hp → Prop} (h : PW X e t) (q : t σ H Q) : wW X e σ H Q := fun wh pins s I => h.run wh pins s σ H Q I q
theorem wA_of {t : TA} {Q : List V → Hp → Prop} (h : PA X es t) (q : t σ H Q) : wA X es σ H Q := fun pos pins s I => h.run pos pins s σ H Q I q
theorem wS_of {t : TS} {De : Ends} (h : PS X st t) (q : t De σ H) : wS X st De σ H := fun pins s I => h.run pins s σ H De I q
theorem wSs_of {t : TS} {De : Ends} (h : PSs X sts t) (q : t De σ H) : wSs X sts De σ H := fun pins s I => h.run pins s σ H De I q
theorem wG_of {tg : Expr} {t : TG} {v : V} {Q : L2.St → Hp → Prop} (h : PG X tg t) (q : t v σ H Q) : wG X tg v σ H Q := fun pins s u I r => h.run pins s σ H v u Q I r q
theorem wE_mono {Q Q' : VK} (h : wE X e σ H Q) (k : ∀ v H', Q v H' → Q' v H') : wE X e σ H Q' := fun pins s I =>
  thn (h pins s I) fun _ _ ⟨v, H', I', r, q⟩ => ⟨v, H', I', r, k v H' q⟩
theorem wT_mono {Q Q' : Bool → Hp → Prop} (h : wT X e σ H Q) (k : ∀ b H', Q b H' → Q' b H') : wT X e σ H Q' := fun pins s I =>
  thn (h pins s I) fun b _ ⟨H', I', q⟩ => ⟨H', I', k b H' q⟩
theorem wW_mono {Q Q' : Bool → Hp → Prop} (h : wW X e σ H Q) (k : ∀ b H', Q b H' → Q' b H') : wW X e σ H Q' := fun wh pins s I =>
  thn (h wh pins s I) fun b _ ⟨H', I', q⟩ => ⟨H', I', k b H' q⟩
theorem wA_mono {Q Q' : List V → Hp → Prop} (h : wA X es σ H Q) (k : ∀ v H', Q v H' → Q' v H') : wA X es σ H Q' := fun pos pins s I =>
  thn (h pos pins s I) fun _ _ ⟨v, H', I', r, q⟩ => ⟨v, H', I', r, k v H' q⟩
theorem wG_mono {tg : Expr} {v : V} {Q Q' : L2.St → Hp → Prop} (h : wG X tg v σ H Q) (k : ∀ σ' H', Q σ' H' → Q' σ' H') : wG X tg v σ H Q' := fun pins s u I r =>
  thn (h pins s u I r) fun _ _ ⟨σ', H', I', q⟩ => ⟨σ', H', I', k σ' H' q⟩
end

/-! ### data -/
inductive D where
  | non
  | bl (b : Bool)
  | int (i : Int)
  | str (x : Str)
  | tup (l : List D)
  | lst (l : List D)
  | raw (v : V)
  | ext (P : Hp → V → Prop)
  | scr (ns : List Int)

mutual
def Rp (K : PySem.W.Frag) (H : Hp) : D → V → Prop
  | .non, v => v = .non
  | .bl b, v => v = .bl b
  | .int i, v => v = .int i
  | .str x, v => v = .str x
  | .tup l, v => ∃ (a : Addr) (xs : List V), v = .ref a ∧ SqT K H a xs ∧ RpL K H l xs
  | .lst l, v => ∃ (a : Addr) (xs : List V), v = .ref a ∧ H a = some (.lst xs) ∧ RpL K H l xs
  | .raw u, v => v = u
  | .ext P, v => ∃ H0 : Hp, Same H0 H ∧ P H0 v
  | .scr ns, v => ∃ a : Addr, v = .ref a ∧ SqL K H a (ns.map V.int)
def RpL (K : PySem.W.Frag) (H : Hp) : List D → List V → Prop
  | [], vs => vs = []
  | d :: ds, vs => ∃ (x : V) (xs : List V), vs = x :: xs ∧ Rp K H d x ∧ RpL K H ds xs
end
theorem same_l {K : PySem.W.Frag} {H H' : Hp} (e : Same H H') {a : Addr} {xs : List V} (h : SqL K H a xs) : SqL K H' a xs := e.seq h
theorem same_t {K : PySem.W.Frag} {H H' : Hp} (e : Same H H') {a : Addr} {xs : List V} (h : SqT K H a xs) : SqT K H' a xs := by
  rcases h with (h | ⟨o, h⟩) | h
  · exact .inl (.inl (e _ _ h))
  · exact .inl (.inr ⟨o, e _ _ h⟩)
  · exact .inr h
mutual
theorem Rp.mono {K : PySem.W.Frag} {H H' : Hp} (e : Same H H') : ∀ (d : D) (v : V), Rp K H d v → Rp K H' d v
  | .non, _, h => h
  | .bl _, _, h => h
  | .int _, _, h => h
  | .str _, _, h => h
  | .tup l, _, h => let ⟨a, xs, e1, e2, e3⟩ := h; ⟨a, xs, e1, same_t e e2, RpL.mono e l xs e3⟩
  | .lst l, _, h => let ⟨a, xs, e1, e2, e3⟩ := h; ⟨a, xs, e1, e _ _ e2, RpL.mono e l xs e3⟩
  | .raw _, _, h => h
  | .ext _, _, h => let ⟨H0, e0, p⟩ := h; ⟨H0, e0.trans e, p⟩
  | .scr _, _, h => let ⟨a, e1, e2⟩ := h; ⟨a, e1, same_l e e2⟩
theorem RpL.mono {K : PySem.W.Frag} {H H' : Hp} (e : Same H H') : ∀ (l : List D) (vs : List V), RpL K H l vs → RpL K H' l vs
  | [], _, h => h
  | d :: ds, _, h => let ⟨x, xs, e1, e2, e3⟩ := h; ⟨x, xs, e1, Rp.mono e d x e2, RpL.mono e ds xs e3⟩
end
theorem RpL.length {K : PySem.W.Frag} {H : Hp} : ∀ {l : List D} {vs : List V}, RpL K H l vs → vs.length = l.length
  | [], _, h => by
    have h : _ = [] := h
    rw [h] <;> rfl
  | d :: ds, _, h => by
    obtain ⟨x, xs, rfl, _, h3⟩ := h
    rw [List.length_cons, List.length_cons, RpL.length h3]
theorem RpL.get {K : PySem.W.Frag} {H : Hp} : ∀ {l : List D} {vs : List V} {i : Nat} {d : D}, RpL K H l vs → l[i]? = some d → ∃ v, vs[i]? = some v ∧ Rp K H d v
  | [], _, _, _, _, e => by simp at e
  | d :: ds, _, 0, d', h, e => by
    obtain ⟨x, xs, rfl, h2, h3⟩ := h
    have e : d = d' := by simpa using e
    subst e
    exact ⟨x, rfl, h2⟩
  | d :: ds, _, i + 1, d', h, e => by
    obtain ⟨x, xs, rfl, h2, h3⟩ := h
    obtain ⟨v, e1, e2⟩ := RpL.get (i := i) h3 (by simpa using e)
    exact ⟨v, by simpa using e1, e2⟩
theorem RpL.back {K : PySem.W.Frag} {H : Hp} {l : List D} {vs : List V} {i : Nat} {v : V} (h : RpL K H l vs) (e : vs[i]? = some v) : ∃ d, l[i]? = some d ∧ Rp K H d v := by
  have hl := h.length
  have hi : i < vs.length := (List.getElem?_eq_some_iff.mp e).1
  obtain ⟨d, hd⟩ : ∃ d, l[i]? = some d := ⟨l[i]'(by omega), List.getElem?_eq_getElem (by omega)⟩
  obtain ⟨w, e1, r⟩ := h.get hd
  rw [e] at e1
  cases e1
  exact ⟨d, hd, r⟩
theorem RpL.append {K : PySem.W.Frag} {H : Hp} : ∀ {l m : List D} {vs ws : List V}, RpL K H l vs → RpL K H m ws → RpL K H (l ++ m) (vs ++ ws)
  | [], _, _, _, h, k => by
    have h : _ = [] := h
    subst h
    exact k
  | d :: ds, _, _, _, h, k => by
    obtain ⟨x, xs, rfl, h2, h3⟩ := h
    exact ⟨x, xs ++ _, rfl, h2, RpL.append h3 k⟩
theorem RpL.take {K : PySem.W.Frag} {H : Hp} : ∀ {l : List D} {vs : List V} (n : Nat), RpL K H l vs → RpL K H (l.take n) (vs.take n)
  | _, _, 0, _ => by rw [List.take_zero, List.take_zero]; rfl
  | [], _, n + 1, h => by
    have h : _ = [] := h
    subst h
    rfl
  | d :: ds, _, n + 1, h => by
    obtain ⟨x, xs, rfl, h2, h3⟩ := h
    exact ⟨x, xs.take n, rfl, h2, RpL.take n h3⟩
theorem RpL.drop {K : PySem.W.Frag} {H : Hp} : ∀ {l : List D} {vs : List V} (n : Nat), RpL K H l vs → RpL K H (l.drop n) (vs.drop n)
  | _, _, 0, h => h
  | [], _, n + 1, h => by
    have h : _ = [] := h
    subst h
    rfl
  | d :: ds, _, n + 1, h => by
    obtain ⟨x, xs, rfl, h2, h3⟩ := h
    exact RpL.drop n h3
theorem RpL.set {K : PySem.W.Frag} {H : Hp} {d : D} {v : V} (r : Rp K H d v) : ∀ {l : List D} {vs : List V} (i : Nat), RpL K H l vs → RpL K H (l.set i d) (vs.set i v)
  | [], _, _, h => by
    have h : _ = [] := h
    subst h
    exact h
  | d :: ds, _, 0, h => by
    obtain ⟨x, xs, rfl, h2, h3⟩ := h
    exact ⟨v, xs, rfl, r, h3⟩
  | d :: ds, _, i + 1, h => by
    obtain ⟨x, xs, rfl, h2, h3⟩ := h
    exact ⟨x, xs.set i v, rfl, h2, RpL.set r i h3⟩
theorem RpL.ints {K : PySem.W.Frag} {H : Hp} : ∀ (ns : List Int), RpL K H (ns.map D.int) (ns.map V.int)
  | [] => rfl
  | n :: ns => ⟨.int n, ns.map V.int, rfl, rfl, RpL.ints ns⟩

/-! ### lists that are changed; the slots -/
abbrev Sto := List (Addr × List D)
def getS (p : Addr) : Sto → Option (List D)
  | [] => none
  | (q, l) :: S => if q = p then some l else getS p S
def setS (p : Addr) (n : List D) : Sto → Sto
  | [] => []
  | (q, l) :: S => if q = p then (q, n) :: S else (q, l) :: setS p n S
def Own (K : PySem.W.Frag) (Hd H : Hp) : Sto → Prop
  | [] => True
  | (p, l) :: S => Hd p = none ∧ getS p S = none ∧ (∃ xs, H p = some (.lst xs) ∧ RpL K Hd l xs) ∧ Own K Hd H S
structure St0 (K : PySem.W.Frag) (S : Sto) (Hd H : Hp) : Prop where
  sub : Same Hd H
  own : Own K Hd H S
theorem getS_hd {p : Addr} {l : List D} {S : Sto} : getS p ((p, l) :: S) = some l := by
  show (if p = p then some l else getS p S) = some l
  rw [if_pos rfl]
theorem setS_hd {p : Addr} {l n : List D} {S : Sto} : setS p n ((p, l) :: S) = (p, n) :: S := by
  show (if p = p then (p, n) :: S else (p, l) :: setS p n S) = _
  rw [if_pos rfl]
theorem getS_tl {p q : Addr} {l : List D} {S : Sto} (h : q ≠ p) : getS p ((q, l) :: S) = getS p S := by
  show (if q = p then some l else getS p S) = _
  rw [if_neg h]
theorem setS_tl {p q : Addr} {l n : List D} {S : Sto} (h : q ≠ p) : setS p n ((q, l) :: S) = (q, l) :: setS p n S := by
  show (if q = p then (q, n) :: S else (q, l) :: setS p n S) = _
  rw [if_neg h]
theorem getS_setS {p : Addr} {n : List D} : ∀ {S : Sto} {q : Addr}, getS q (setS p n S) = if q = p then (getS p S).map (fun _ => n) else getS q S
  | [], q => by split <;> rfl
  | (r, l) :: S, q => by
    by_cases h1 : r = p
    · subst h1
      rw [setS_hd]
      by_cases h2 : q = r
      · subst h2
        rw [getS_hd, if_pos rfl, getS_hd] <;> rfl
      · rw [getS_tl (Ne.symm h2), if_neg h2, getS_tl (Ne.symm h2)]
    · rw [setS_tl h1, getS_tl (S := S) h1]
      by_cases h2 : r = q
      · subst h2
        rw [getS_hd, if_neg h1, getS_hd]
      · rw [getS_tl h2, getS_tl h2]
        exact getS_setS
section
variable {K : PySem.W.Frag} {Hd Hd' H H' : Hp} {S : Sto} {p : Addr}
theorem Own.at : ∀ {S : Sto} {l : List D}, Own K Hd H S → getS p S = some l → Hd p = none ∧ ∃ xs, H p = some (.lst xs) ∧ RpL K Hd l xs
  | [], _, _, e => by cases e
  | (q, m) :: S, l, o, e => by
    by_cases h : q = p
    · subst h
      rw [getS_hd] at e
      cases e
      exact ⟨o.1, o.2.2.1⟩
    · rw [getS_tl h] at e
      exact Own.at o.2.2.2 e
/-- new things are laid: none of the changed lists' own -/
theorem Own.grow : ∀ {S : Sto}, Own K Hd H S → Same Hd Hd' → (∀ q l, getS q S = some l → Hd' q = none) → (∀ q xs l, getS q S = some l → H q = some (.lst xs) → H' q = some (.lst xs)) → Own K Hd' H' S
  | [], _, _, _, _ => trivial
  | (q, l) :: S, o, e, f, k => by
    obtain ⟨o1, o2, ⟨xs, o3, o4⟩, o5⟩ := o
    refine ⟨f q l getS_hd, o2, ⟨xs, k q xs l getS_hd o3, o4.mono e⟩, o5.grow e (fun r m hr => ?_) (fun r ys m hr => ?_)⟩
    · by_cases h : q = r
      · subst h
        rw [o2] at hr; cases hr
      · exact f r m (by rw [getS_tl h]; exact hr)
    · by_cases h : q = r
      · subst h
        rw [o2] at hr; cases hr
      · exact k r ys m (by rw [getS_tl h]; exact hr)
/-- one changed list is written -/
theorem Own.write {l' : List D} {ys : List V} : ∀ {S : Sto} {l : List D}, Own K Hd H S → getS p S = some l → RpL K Hd l' ys → Own K Hd (upd H p (.lst ys)) (setS p l' S)
  | [], _, _, e, _ => by cases e
  | (q, m) :: S, l, o, e, r => by
    obtain ⟨o1, o2, ⟨xs, o3, o4⟩, o5⟩ := o
    by_cases h : q = p
    · subst h
      rw [setS_hd]
      refine ⟨o1, o2, ⟨ys, upd_same, r⟩, o5.grow (fun _ _ z => z) (fun b w hb => (o5.at hb).1) (fun b zs w hb hz => ?_)⟩
      rw [upd_ne]
      · exact hz
      · intro z
        subst z
        rw [o2] at hb; cases hb
    · rw [getS_tl h] at e
      rw [setS_tl h]
      refine ⟨o1, ?_, ⟨xs, (upd_ne h).trans o3, o4⟩, o5.write e r⟩
      rw [getS_setS, if_neg h]
      exact o2
theorem St0.tracked (s : St0 K S Hd H) {l : List D} (h : getS p S = some l) : H p ≠ none := by
  obtain ⟨_, xs, e, _⟩ := s.own.at h
  rw [e]
  exact fun z => nomatch z
/-- a new object that is not changed any more -/
theorem St0.laid {o : HO} (s : St0 K S Hd H) (hp : H p = none) : Same Hd (upd Hd p o) ∧ St0 K S (upd Hd p o) (upd H p o) := by
  have hd : Hd p = none := s.sub.free hp
  have e : Same Hd (upd Hd p o) := fun b u q => by rw [upd_ne (ne_of_none q hd)]; exact q
  refine ⟨e, fun b u q => ?_, s.own.grow e (fun q l h => ?_) (fun q xs l h z => ?_)⟩
  · by_cases hb : b = p
    · subst hb
      rw [upd_same] at q ⊢
      exact q
    · rw [upd_ne hb] at q ⊢
      exact s.sub b u q
  · rw [upd_ne (fun z => s.tracked h (by rw [z]; exact hp))]
    exact (s.own.at h).1
  · rw [upd_ne (ne_of_none z hp)]
    exact z
/-- a new list that will be changed -/
theorem St0.laidO {l : List D} {xs : List V} (s : St0 K S Hd H) (hp : H p = none) (r : RpL K Hd l xs) : getS p S = none ∧ St0 K ((p, l) :: S) Hd (upd H p (.lst xs)) := by
  have hd : Hd p = none := s.sub.free hp
  have g : getS p S = none := by
    cases q : getS p S with
    | none => rfl
    | some m => exact absurd hp (s.tracked q)
  refine ⟨g, fun b u q => ?_, hd, g, ⟨xs, upd_same, r⟩, s.own.grow (fun _ _ z => z) (fun q l h => (s.own.at h).1) (fun q xs l h z => ?_)⟩
  · rw [upd_ne (ne_of_none q hd)]
    exact s.sub b u q
  · rw [upd_ne (ne_of_none z hp)]
    exact z
theorem St0.written {l l' : List D} {ys : List V} (s : St0 K S Hd H) (h : getS p S = some l) (r : RpL K Hd l' ys) : St0 K (setS p l' S) Hd (upd H p (.lst ys)) := by
  refine ⟨fun b u q => ?_, s.own.write h r⟩
  rw [upd_ne (ne_of_none q (s.own.at h).1)]
  exact s.sub b u q
/-- a changed list is changed no more -/
theorem St0.frozen {l : List D} (s : St0 K ((p, l) :: S) Hd H) : ∃ xs, RpL K Hd l xs ∧ Same Hd (upd Hd p (.lst xs)) ∧ St0 K S (upd Hd p (.lst xs)) H := by
  obtain ⟨sub, o1, o2, ⟨xs, o3, o4⟩, o5⟩ := s
  have e : Same Hd (upd Hd p (.lst xs)) := fun b u q => by rw [upd_ne (ne_of_none q o1)]; exact q
  refine ⟨xs, o4, e, fun b u q => ?_, o5.grow e (fun q l h => ?_) (fun q xs l h z => z)⟩
  · by_cases hb : b = p
    · subst hb
      rw [upd_same] at q
      cases q
      exact o3
    · rw [upd_ne hb] at q
      exact sub b u q
  · rw [upd_ne (fun z => by rw [z, o2] at h; cases h)]
    exact (o5.at h).1
theorem St0.drop {l : List D} (s : St0 K ((p, l) :: S) Hd H) : St0 K S Hd H := ⟨s.sub, s.own.2.2.2⟩
end

/-- the slots as data; none: not known -/
abbrev DEnv := List (Option D)
def RpE (K : PySem.W.Frag) (H : Hp) : DEnv → L2.St → Prop
  | [], σ => σ = []
  | none :: es, σ => ∃ (o : Option V) (σ' : L2.St), σ = o :: σ' ∧ RpE K H es σ'
  | some d :: es, σ => ∃ (v : V) (σ' : L2.St), σ = some v :: σ' ∧ Rp K H d v ∧ RpE K H es σ'
theorem RpE.mono {K : PySem.W.Frag} {H H' : Hp} (e : Same H H') : ∀ {en : DEnv} {σ : L2.St}, RpE K H en σ → RpE K H' en σ
  | [], _, h => h
  | none :: es, _, h => let ⟨o, σ', e1, e2⟩ := h; ⟨o, σ', e1, RpE.mono e e2⟩
  | some d :: es, _, h => let ⟨v, σ', e1, e2, e3⟩ := h; ⟨v, σ', e1, Rp.mono e d v e2, RpE.mono e e3⟩
theorem RpE.get {K : PySem.W.Frag} {H : Hp} : ∀ {en : DEnv} {σ : L2.St} {i : Nat} {d : D}, RpE K H en σ → en[i]? = some (some d) → ∃ v, σ[i]? = some (some v) ∧ Rp K H d v
  | [], _, _, _, _, e => by simp at e
  | none :: es, _, 0, _, h, e => by simp at e
  | none :: es, _, i + 1, d, h, e => by
    obtain ⟨o, σ', rfl, h2⟩ := h
    obtain ⟨v, e1, e2⟩ := RpE.get (i := i) h2 (by simpa using e)
    exact ⟨v, by simpa using e1, e2⟩
  | some x :: es, _, 0, d, h, e => by
    obtain ⟨v, σ', rfl, h2, _⟩ := h
    have e : x = d := by simpa using e
    subst e
    exact ⟨v, rfl, h2⟩
  | some x :: es, _, i + 1, d, h, e => by
    obtain ⟨o, σ', rfl, _, h2⟩ := h
    obtain ⟨v, e1, e2⟩ := RpE.get (i := i) h2 (by simpa using e)
    exact ⟨v, by simpa using e1, e2⟩
theorem RpE.set {K : PySem.W.Frag} {H : Hp} {d : D} {v : V} (r : Rp K H d v) : ∀ {en : DEnv} {σ : L2.St} (i : Nat), RpE K H en σ → RpE K H (en.set i (some d)) (σ.set i (some v))
  | [], _, _, h => by
    have h : _ = [] := h
    subst h
    rfl
  | none :: es, _, 0, h => let ⟨o, σ', e1, e2⟩ := h; ⟨v, σ', by rw [e1] <;> rfl, r, e2⟩
  | some x :: es, _, 0, h => let ⟨o, σ', e1, _, e2⟩ := h; ⟨v, σ', by rw [e1] <;> rfl, r, e2⟩
  | none :: es, _, i + 1, h => let ⟨o, σ', e1, e2⟩ := h; ⟨o, σ'.set i (some v), by rw [e1] <;> rfl, e2.set r i⟩
  | some x :: es, _, i + 1, h => let ⟨o, σ', e1, e0, e2⟩ := h; ⟨o, σ'.set i (some v), by rw [e1] <;> rfl, e0, e2.set r i⟩
/-- less is known -/
def Wk : DEnv → DEnv → Prop
  | [], [] => True
  | _ :: xs, none :: ys => Wk xs ys
  | x :: xs, some d :: ys => x = some d ∧ Wk xs ys
  | _, _ => False
theorem Wk.refl : ∀ (en : DEnv), Wk en en
  | [] => trivial
  | none :: es => Wk.refl es
  | some _ :: es => ⟨rfl, Wk.refl es⟩
theorem Wk.use {K : PySem.W.Frag} {H : Hp} : ∀ {a b : DEnv} {σ : L2.St}, Wk a b → RpE K H a σ → RpE K H b σ
  | [], [], _, _, h => h
  | none :: xs, none :: ys, _, w, h => let ⟨o, σ', e1, e2⟩ := h; ⟨o, σ', e1, Wk.use (a := xs) (b := ys) w e2⟩
  | some x :: xs, none :: ys, _, w, h => let ⟨v, σ', e1, _, e2⟩ := h; ⟨some v, σ', e1, Wk.use (a := xs) (b := ys) w e2⟩
  | x :: xs, some d :: ys, _, w, h => by
    obtain ⟨w1, w2⟩ := w
    subst w1
    obtain ⟨v, σ', e1, e2, e3⟩ := h
    exact ⟨v, σ', e1, e2, Wk.use w2 e3⟩
  | [], none :: _, _, w, _ => w.elim
  | [], some _ :: _, _, w, _ => w.elim
  | _ :: _, [], _, w, _ => w.elim
theorem RpE.start {K : PySem.W.Frag} {H : Hp} : ∀ {ds : List D} {vs : List V} (n : Nat), RpL K H ds vs → RpE K H (ds.map some ++ List.replicate n none) (vs.map some ++ List.replicate n none)
  | [], _, 0, h => by
    have h : _ = [] := h
    subst h
    rfl
  | [], _, n + 1, h => by
    have h : _ = [] := h
    subst h
    exact ⟨none, List.replicate n none, rfl, RpE.start (ds := []) (vs := []) n rfl⟩
  | d :: ds, _, n, h => by
    obtain ⟨x, xs, rfl, h2, h3⟩ := h
    exact ⟨x, xs.map some ++ List.replicate n none, rfl, h2, RpE.start n h3⟩
end DL
namespace DL
open PySem PySem.Spec PyProof.Rows L2

/-! ### what the semantics asks of the form of an expression, quickly answered -/
def nSet : Expr → Bool
  | .Set _ _ _ => false
  | _ => true
theorem fset {e : Expr} {env : Env} (h : nSet e = true) : ∀ x, foldedSetIterable e env x = pure x := fun x => by
  cases e <;> first | rfl | cases h
def nComp : Expr → Bool
  | .ListComp _ _ _ _ => false
  | .SetComp _ _ _ _ => false
  | .DictComp _ _ _ _ _ => false
  | _ => true
theorem sw0 {e : Expr} {t : Option Expr} {l : Nat} {env : Env} (h : nComp e = true) : swapsWith e t l env = pure false := by
  cases e <;> first | rfl | cases h
theorem sws1 {e t : Expr} {l : Nat} {env : Env} (h : nComp e = true) : swapsWithSole [t] e l env = pure false := sw0 h
def nTup2 : Expr → Expr → Bool
  | .Tuple _ _ _, .Tuple _ _ _ => false
  | .List _ _, .Tuple _ _ _ => false
  | _, _ => true
theorem sst {t e : Expr} {env : Env} (h : nTup2 t e = true) : swappedStores [t] e env = pure none := by
  cases t <;> first | rfl | (cases e <;> first | rfl | cases h)

/-! ### what an expression, a test, a list of arguments is as data -/
def QD (K : PySem.W.Frag) (Hd : Hp) (Q : D → Sto → Prop) : VK := fun v H' => ∃ d S' Hd', Same Hd Hd' ∧ St0 K S' Hd' H' ∧ Rp K Hd' d v ∧ Q d S'
def QB (K : PySem.W.Frag) (Hd : Hp) (Q : Bool → Sto → Prop) : Bool → Hp → Prop := fun b H' => ∃ S' Hd', Same Hd Hd' ∧ St0 K S' Hd' H' ∧ Q b S'
def QA (K : PySem.W.Frag) (Hd : Hp) (Q : List D → Sto → Prop) : List V → Hp → Prop := fun vs H' => ∃ ds S' Hd', Same Hd Hd' ∧ St0 K S' Hd' H' ∧ RpL K Hd' ds vs ∧ Q ds S'
structure DE (X : Cx) (e : Expr) (en : DEnv) (S : Sto) (Q : D → Sto → Prop) : Prop where
  run : ∀ (σ : L2.St) (H Hd : Hp), St0 X.K S Hd H → RpE X.K Hd en σ → wE X e σ H (QD X.K Hd Q)
instance {X : Cx} {e : Expr} {en : DEnv} {S : Sto} {Q : D → Sto → Prop} : CoeFun (DE X e en S Q) (fun _ => ∀ (σ : L2.St) (H Hd : Hp), St0 X.K S Hd H → RpE X.K Hd en σ → wE X e σ H (QD X.K Hd Q)) := ⟨fun h => h.run⟩
structure DT (X : Cx) (e : Expr) (en : DEnv) (S : Sto) (Q : Bool → Sto → Prop) : Prop where
  run : ∀ (σ : L2.St) (H Hd : Hp), St0 X.K S Hd H → RpE X.K Hd en σ → wT X e σ H (QB X.K Hd Q)
instance {X : Cx} {e : Expr} {en : DEnv} {S : Sto} {Q : Bool → Sto → Prop} : CoeFun (DT X e en S Q) (fun _ => ∀ (σ : L2.St) (H Hd : Hp), St0 X.K S Hd H → RpE X.K Hd en σ → wT X e σ H (QB X.K Hd Q)) := ⟨fun h => h.run⟩
structure DW (X : Cx) (e : Expr) (en : DEnv) (S : Sto) (Q : Bool → Sto → Prop) : Prop where
  run : ∀ (σ : L2.St) (H Hd : Hp), St0 X.K S Hd H → RpE X.K Hd en σ → wW X e σ H (QB X.K Hd Q)
instance {X : Cx} {e : Expr} {en : DEnv} {S : Sto} {Q : Bool → Sto → Prop} : CoeFun (DW X e en S Q) (fun _ => ∀ (σ : L2.St) (H Hd : Hp), St0 X.K S Hd H → RpE X.K Hd en σ → wW X e σ H (QB X.K Hd Q)) := ⟨fun h => h.run⟩
structure DA (X : Cx) (es : List Expr) (en : DEnv) (S : Sto) (Q : List D → Sto → Prop) : Prop where
  run : ∀ (σ : L2.St) (H Hd : Hp), St0 X.K S Hd H → RpE X.K Hd en σ → wA X es σ H (QA X.K Hd Q)
instance {X : Cx} {es : List Expr} {en : DEnv} {S : Sto} {Q : List D → Sto → Prop} : CoeFun (DA X es en S Q) (fun _ => ∀ (σ : L2.St) (H Hd : Hp), St0 X.K S Hd H → RpE X.K Hd en σ → wA X es σ H (QA X.K Hd Q)) := ⟨fun h => h.run⟩
theorem QD.up {K : PySem.W.Frag} {Hd Hd' H' : Hp} {Q : D → Sto → Prop} {v : V} (e : Same Hd Hd') (h : QD K Hd' Q v H') : QD K Hd Q v H' :=
  let ⟨d, S, Hd2, e2, st, r, q⟩ := h; ⟨d, S, Hd2, e.trans e2, st, r, q⟩
theorem QB.up {K : PySem.W.Frag} {Hd Hd' H' : Hp} {Q : Bool → Sto → Prop} {b : Bool} (e : Same Hd Hd') (h : QB K Hd' Q b H') : QB K Hd Q b H' :=
  let ⟨S, Hd2, e2, st, q⟩ := h; ⟨S, Hd2, e.trans e2, st, q⟩
theorem QA.up {K : PySem.W.Frag} {Hd Hd' H' : Hp} {Q : List D → Sto → Prop} {v : List V} (e : Same Hd Hd') (h : QA K Hd' Q v H') : QA K Hd Q v H' :=
  let ⟨d, S, Hd2, e2, st, r, q⟩ := h; ⟨d, S, Hd2, e.trans e2, st, r, q⟩
/-- a value that is there -/
theorem QD.here {K : PySem.W.Frag} {S : Sto} {Hd H : Hp} {Q : D → Sto → Prop} {d : D} {v : V} (st : St0 K S Hd H) (r : Rp K Hd d v) (q : Q d S) : QD K Hd Q v H := ⟨d, S, Hd, Same.refl _, st, r, q⟩

section
variable {X : Cx} {a b c e : Expr} {es : List Expr} {en : DEnv} {S : Sto} {Q : D → Sto → Prop} {pos : Pos}
theorem DE.mono {Q' : D → Sto → Prop} (h : DE X e en S Q) (k : ∀ d S', Q d S' → Q' d S') : DE X e en S Q' := ⟨fun σ H Hd st re =>
  wE_mono (h σ H Hd st re) fun _ _ ⟨d, S', Hd', e', st', r, q⟩ => ⟨d, S', Hd', e', st', r, k d S' q⟩⟩
theorem DT.mono {Q Q' : Bool → Sto → Prop} (h : DT X e en S Q) (k : ∀ d S', Q d S' → Q' d S') : DT X e en S Q' := ⟨fun σ H Hd st re =>
  wT_mono (h σ H Hd st re) fun b _ ⟨S', Hd', e', st', q⟩ => ⟨S', Hd', e', st', k b S' q⟩⟩
/-! ### names and constants -/
theorem de_name (i : Nat) {x : Str} {d : D} (q : Q d S) (he : en[i]? = some (some d) := by rfl) (hN : X.N[i]? = some x := by rfl)
    (hv : Vis X.env.scope x := by first | exact Or.inl rfl | exact Or.inr (Or.inl rfl) | exact Or.inr (Or.inr rfl)) (hd : (x == ("__debug__" : Str)) = false := by decide)
    (hcd : (x == ("__classdict__" : Str)) = false := by decide) : DE X (.Name x pos) en S Q := ⟨fun σ H Hd st re => by
  obtain ⟨v, e1, r⟩ := re.get he
  exact wE_of (pe_var hN hv hd hcd) ⟨v, e1, .here st r q⟩⟩
theorem de_int {i : Int} {j} (q : Q (.int i) S) : DE X (.Constant (.int i) j pos) en S Q := ⟨fun _ _ _ st _ => wE_of pe_int (.here (d := .int i) st rfl q)⟩
theorem de_bl {i : Bool} {j} (q : Q (.bl i) S) : DE X (.Constant (.bool i) j pos) en S Q := ⟨fun _ _ _ st _ => wE_of pe_bl (.here (d := .bl i) st rfl q)⟩
theorem de_non {j} (q : Q .non S) : DE X (.Constant .none j pos) en S Q := ⟨fun _ _ _ st _ => wE_of pe_non (.here (d := .non) st rfl q)⟩
theorem de_str {i : Str} {j} (q : Q (.str i) S) : DE X (.Constant (.str i) j pos) en S Q := ⟨fun _ _ _ st _ => wE_of pe_str (.here (d := .str i) st rfl q)⟩
/-- a thing of the module by its name -/
theorem de_glob {x : Str} {v : V} {u : Value} (hm : X.mg x = some u) (r : RelV v u) (q : Q (.raw v) S) (hg : Gl X x := by rfl) (hd : (x == ("__debug__" : Str)) = false := by decide) : DE X (.Name x pos) en S Q := ⟨fun _ _ _ st _ => wE_of (pe_glob hg hm r hd) (.here (d := .raw v) st rfl q)⟩
theorem de_globI {x : Str} {i : Int} {u : Tok} (hm : X.mg x = some (.int i u)) (q : Q (.int i) S) (hg : Gl X x := by rfl) (hd : (x == ("__debug__" : Str)) = false := by decide) : DE X (.Name x pos) en S Q := ⟨fun _ _ _ st _ => wE_of (pe_glob (v := .int i) hg hm ⟨u, rfl⟩ hd) (.here (d := .int i) st rfl q)⟩
/-! ### operators -/
def DR2 (K : PySem.W.Frag) (r : R2) (x y : D) (S : Sto) (Q : D → Sto → Prop) : Prop :=
  ∀ (H Hd : Hp) (vx vy : V) (Qv : VK), St0 K S Hd H → Rp K Hd x vx → Rp K Hd y vy → (∀ v H', QD K Hd Q v H' → Qv v H') → r vx vy H Qv
theorem de_two {f : Value → Value → Sem Value} {r : R2} (mk : ∀ {ta tb : TE}, PE X a ta → PE X b tb → PE X e (tOp r ta tb))
    (h : DE X a en S fun x S1 => DE X b en S1 fun y S2 => DR2 X.K r x y S2 Q) : DE X e en S Q := ⟨fun σ H Hd st re => by
  refine wE_of (mk peW peW) ?_
  refine wE_mono (h σ H Hd st re) fun v H1 ⟨x, S1, Hd1, e1, st1, r1, q1⟩ => ?_
  refine wE_mono (q1 σ H1 Hd1 st1 (re.mono e1)) fun u H2 ⟨y, S2, Hd2, e2, st2, r2, q2⟩ => ?_
  exact q2 H2 Hd2 v u _ st2 (Rp.mono e2 x v r1) r2 fun w H3 z => .up (e1.trans e2) z⟩
theorem de_op {op : Operator} {r : R2} (ho : OpR X (binaryOp op) r) (h : DE X a en S fun x S1 => DE X b en S1 fun y S2 => DR2 X.K r x y S2 Q) : DE X (.BinOp a op b pos) en S Q :=
  de_two (f := binaryOp op) (pe_op ho) h
theorem de_cmpR {op : CmpOp} {r : R2} (ho : OpR X (compareOp op) r) (hm : behindInMarks op b = false) (h : DE X a en S fun x S1 => DE X b en S1 fun y S2 => DR2 X.K r x y S2 Q) : DE X (.Compare a [op] [b] pos) en S Q :=
  de_two (f := compareOp op) (fun ha hb => pe_cmpR ho ha hb hm) h
theorem dr_I {C : Int → Int → Prop} {g : Int → Int → Int} {i j : Int} {K : PySem.W.Frag} (hc : C i j) (q : Q (.int (g i j)) S) : DR2 K (rI C fun i j => .int (g i j)) (.int i) (.int j) S Q :=
  fun H Hd vx vy Qv st rx ry k => ⟨i, j, rx, ry, hc, k _ _ (.here (d := .int (g i j)) st rfl q)⟩
theorem dr_I0 {g : Int → Int → Int} {i j : Int} {K : PySem.W.Frag} (q : Q (.int (g i j)) S) : DR2 K (rI0 fun i j => .int (g i j)) (.int i) (.int j) S Q :=
  fun H Hd vx vy Qv st rx ry k => ⟨i, j, rx, ry, k _ _ (.here (d := .int (g i j)) st rfl q)⟩
theorem dr_B0 {g : Int → Int → Bool} {i j : Int} {K : PySem.W.Frag} (q : Q (.bl (g i j)) S) : DR2 K (rI0 fun i j => .bl (g i j)) (.int i) (.int j) S Q :=
  fun H Hd vx vy Qv st rx ry k => ⟨i, j, rx, ry, k _ _ (.here (d := .bl (g i j)) st rfl q)⟩

/-- list + list, lists of any kind -/
def rCatL (K : PySem.W.Frag) : R2 := fun x y H Q => ∃ l b xs zs, x = .ref l ∧ y = .ref b ∧ SqL K H l xs ∧ SqL K H b zs ∧ xs.length + zs.length ≤ sizeLine ∧ ∀ p, H p = none → Q (.ref p) (upd H p (.lst (xs ++ zs)))
theorem op_catL : OpR X (binaryOp .Add) (rCatL X.K) := by
  intro pins s σ H x y v u Q I rx ry h
  obtain ⟨l, b, xs, zs, rfl, rfl, hl, hb, hz, q⟩ := h
  cases rx
  cases ry
  obtain ⟨its, r, ⟨⟨c1, d1, da1, s1⟩, n1, g1, k1, k2, k3⟩, _⟩ := I.list hl
  obtain ⟨its2, r2, ⟨⟨c2, d2, da2, s2⟩, n2, g2, j1, j2, j3⟩, _⟩ := I.list hb
  simp only at k1 k2 k3 j1 j2 j3
  subst k1 k2 k3 j1 j2 j3
  have ez : its.toArray.size + its2.toArray.size ≤ sizeLine := by
    rw [List.size_toArray, List.size_toArray, ← r.length, ← r2.length]
    exact hz
  refine concat_meets ⟨_, g1, rfl⟩ ⟨_, g2, rfl⟩ noFill_list_add seq_list_add PySem.F.slot_list_add PySem.F.entry_list_add (PySem.F.args_list_add_2 _ _) (PyProof.Rows.list_addW l b its.toArray its2.toArray n1 n2 none none s1 s2 ez) ⟨g1, g2, ?_⟩
  have ea : its.toArray ++ its2.toArray = (its ++ its2).toArray := by simp
  rw [ea]
  exact ⟨.ref _, _, I.lnew (t' := s.toks) (r.append r2) (by rw [List.length_append]; exact hz), rfl, q _ I.fresh⟩

/-- a + b -/
def addP (x y : D) (S : Sto) (Q : D → Sto → Prop) : Prop := match x, y with
  | .int i, .int j => Q (.int (i + j)) S
  | .lst l, .lst m => l.length + m.length ≤ 100000 ∧ Q (.lst (l ++ m)) S
  | .scr l, .lst m => l.length + m.length ≤ 100000 ∧ Q (.lst (l.map D.int ++ m)) S
  | .tup l, .tup m => (l.length ≠ 0 ∧ m.length ≠ 0 ∧ l.length + m.length ≤ 100000) ∧ Q (.tup (l ++ m)) S
  | .str i, .str j => i.length + j.length ≤ sizeLine ∧ Q (.str (i ++ j)) S
  | _, _ => False
theorem RpL.ne_nil {K : PySem.W.Frag} {H : Hp} {l : List D} {vs : List V} (h : RpL K H l vs) (n : l.length ≠ 0) : vs ≠ [] := fun z => by
  have := h.length
  rw [z] at this
  exact n this.symm
theorem sz5 {n : Nat} (h : n ≤ 100000) : n ≤ sizeLine := Nat.le_trans h (by decide)
/-- the reading of a new tuple, of a new list -/
theorem new_tup {K : PySem.W.Frag} {Hd H : Hp} {l : List D} {xs : List V} {p : Addr} (st : St0 K S Hd H) (r : RpL K Hd l xs) (hp : H p = none) (q : Q (.tup l) S) : QD K Hd Q (.ref p) (upd H p (.tup xs)) := by
  obtain ⟨e, st'⟩ := st.laid (o := .tup xs) hp
  exact ⟨.tup l, S, _, e, st', ⟨p, xs, rfl, SqT.of upd_same, r.mono e⟩, q⟩
theorem new_lst {K : PySem.W.Frag} {Hd H : Hp} {l : List D} {xs : List V} {p : Addr} (st : St0 K S Hd H) (r : RpL K Hd l xs) (hp : H p = none) (q : Q (.lst l) S) : QD K Hd Q (.ref p) (upd H p (.lst xs)) := by
  obtain ⟨e, st'⟩ := st.laid (o := .lst xs) hp
  exact ⟨.lst l, S, _, e, st', ⟨p, xs, rfl, upd_same, r.mono e⟩, q⟩
theorem OpR.or {f : Value → Value → Sem Value} {r r' : R2} (h : OpR X f r) (h' : OpR X f r') : OpR X f (fun x y H Q => r x y H Q ∨ r' x y H Q) := by
  intro pins s σ H x y v u Q I rx ry q
  rcases q with q | q
  · exact h pins s σ H x y v u Q I rx ry q
  · exact h' pins s σ H x y v u Q I rx ry q
theorem de_add (h : DE X a en S fun x S1 => DE X b en S1 fun y S2 => addP x y S2 Q) : DE X (.BinOp a .Add b pos) en S Q := by
  refine de_op (OpR.or op_add (OpR.or op_catL (OpR.or op_catT op_add_str))) (h.mono fun x S1 h1 => h1.mono fun y S2 h2 => ?_)
  intro H Hd vx vy Qv st rx ry k
  unfold addP at h2
  split at h2
  · exact .inl ⟨_, _, rx, ry, k _ _ (.here (d := .int _) st rfl h2)⟩
  · rename_i l m
    obtain ⟨p, xs, e1, e2, e3⟩ := rx
    obtain ⟨p', ys, f1, f2, f3⟩ := ry
    exact .inr (.inl ⟨p, p', xs, ys, e1, f1, .of (st.sub _ _ e2), .of (st.sub _ _ f2), by rw [e3.length, f3.length]; exact sz5 h2.1, fun q hq => k _ _ (new_lst st (e3.append f3) hq h2.2)⟩)
  · rename_i l m
    obtain ⟨p, e1, e2⟩ := rx
    obtain ⟨p', ys, f1, f2, f3⟩ := ry
    exact .inr (.inl ⟨p, p', l.map V.int, ys, e1, f1, same_l st.sub e2, .of (st.sub _ _ f2), by rw [List.length_map, f3.length]; exact sz5 h2.1, fun q hq => k _ _ (new_lst st (RpL.append (RpL.ints l) f3) hq h2.2)⟩)
  · rename_i l m
    obtain ⟨p, xs, e1, e2, e3⟩ := rx
    obtain ⟨p', ys, f1, f2, f3⟩ := ry
    obtain ⟨⟨n1, n2, n3⟩, h2⟩ := h2
    refine .inr (.inr (.inl ⟨p, p', xs, ys, e1, f1, same_t st.sub e2, same_t st.sub f2, e3.ne_nil n1, by rw [e3.length, f3.length]; exact sz5 n3, fun z => absurd z (f3.ne_nil n2), fun _ q hq => k _ _ (new_tup st (e3.append f3) hq h2)⟩))
  · exact .inr (.inr (.inr ⟨_, _, rx, ry, h2.1, k _ _ (.here (d := .str _) st rfl h2.2)⟩))
  · exact h2.elim
theorem add_int {i j : Int} (q : Q (.int (i + j)) S) : addP (.int i) (.int j) S Q := q
theorem add_lst {l m : List D} (q : Q (.lst (l ++ m)) S) (h : l.length + m.length ≤ 100000) : addP (.lst l) (.lst m) S Q := ⟨h, q⟩
theorem add_scr {l : List Int} {m : List D} (q : Q (.lst (l.map D.int ++ m)) S) (h : l.length + m.length ≤ 100000) : addP (.scr l) (.lst m) S Q := ⟨h, q⟩
theorem add_tup {l m : List D} (q : Q (.tup (l ++ m)) S) (h : l.length ≠ 0 ∧ m.length ≠ 0 ∧ l.length + m.length ≤ 100000) : addP (.tup l) (.tup m) S Q := ⟨h, q⟩
/-- a - b, a * b, a // b, a % b, a ** b -/
theorem de_sub (h : DE X a en S fun x S1 => DE X b en S1 fun y S2 => ∃ i j, x = .int i ∧ y = .int j ∧ Q (.int (i - j)) S2) : DE X (.BinOp a .Sub b pos) en S Q :=
  de_op op_sub (h.mono fun _ _ h1 => h1.mono fun _ _ ⟨_, _, e1, e2, q⟩ => by subst e1 e2; exact dr_I0 q)
def mulP (x y : D) (S : Sto) (Q : D → Sto → Prop) : Prop := match x, y with
  | .int i, .int j => CMulW i j ∧ Q (.int (i * j)) S
  | .lst l, .int k => (-(2 ^ 63) ≤ k ∧ k < 2 ^ 63 ∧ l.length * k.toNat ≤ 100000) ∧ Q (.lst (List.replicate k.toNat l).flatten) S
  | _, _ => False
theorem RpL.rep {K : PySem.W.Frag} {H : Hp} {l : List D} {vs : List V} (h : RpL K H l vs) : ∀ n : Nat, RpL K H (List.replicate n l).flatten (List.replicate n vs).flatten
  | 0 => rfl
  | n + 1 => by
    rw [List.replicate_succ, List.replicate_succ, List.flatten_cons, List.flatten_cons]
    exact h.append (RpL.rep h n)
theorem de_mul (h : DE X a en S fun x S1 => DE X b en S1 fun y S2 => mulP x y S2 Q) : DE X (.BinOp a .Mult b pos) en S Q := by
  refine de_op (OpR.or op_mulW op_rep) (h.mono fun x S1 h1 => h1.mono fun y S2 h2 => ?_)
  intro H Hd vx vy Qv st rx ry k
  unfold mulP at h2
  split at h2
  · exact .inl ⟨_, _, rx, ry, h2.1, k _ _ (.here (d := .int _) st rfl h2.2)⟩
  · obtain ⟨p, xs, e1, e2, e3⟩ := rx
    obtain ⟨⟨n1, n2, n3⟩, h2⟩ := h2
    exact .inr ⟨p, _, xs, e1, ry, st.sub _ _ e2, n1, n2, by rw [e3.length]; exact sz5 n3, fun q hq => k _ _ (new_lst st (e3.rep _) hq h2)⟩
  · exact h2.elim
theorem mul_i {i j : Int} (q : Q (.int (i * j)) S) (h : CMulW i j) : mulP (.int i) (.int j) S Q := ⟨h, q⟩
theorem mul_l {l : List D} {k : Int} (q : Q (.lst (List.replicate k.toNat l).flatten) S) (h : -(2 ^ 63) ≤ k ∧ k < 2 ^ 63 ∧ l.length * k.toNat ≤ 100000) : mulP (.lst l) (.int k) S Q := ⟨h, q⟩
theorem de_fdiv (h : DE X a en S fun x S1 => DE X b en S1 fun y S2 => ∃ i j, x = .int i ∧ y = .int j ∧ CDivW i j ∧ Q (.int (i / j)) S2) : DE X (.BinOp a .FloorDiv b pos) en S Q :=
  de_op op_fdivW (h.mono fun _ _ h1 => h1.mono fun _ _ ⟨_, _, e1, e2, hc, q⟩ => by subst e1 e2; exact dr_I hc q)
theorem de_mod (h : DE X a en S fun x S1 => DE X b en S1 fun y S2 => ∃ i j, x = .int i ∧ y = .int j ∧ 0 < j ∧ Q (.int (i % j)) S2) : DE X (.BinOp a .Mod b pos) en S Q :=
  de_op op_mod (h.mono fun _ _ h1 => h1.mono fun _ _ ⟨_, _, e1, e2, hc, q⟩ => by subst e1 e2; exact dr_I hc q)
/-- a ** b, b small, a of less than 2 ^ 20 bits -/
def CPowW (i j : Int) : Prop := 0 ≤ j ∧ j ≤ 64 ∧ i.natAbs.log2 < 1000000
theorem op_powW : OpR X (binaryOp .Pow) (rI CPowW fun i j => .int (i ^ j.toNat)) := opI fun i j _ _ _ _ _ hc q => by
  obtain ⟨h1, h2, h3⟩ := hc
  refine pow_int h1 ?_ q
  have b : Builtin.Int.intBits i ≤ i.natAbs.log2 + 1 := by
    unfold Builtin.Int.intBits
    split <;> omega
  have b2 : (Builtin.Int.intBits i : Int) ≤ 1000000 := by omega
  have b3 : (Builtin.Int.intBits i : Int) * j ≤ 1000000 * 64 := Int.mul_le_mul b2 h2 h1 (by decide)
  have b4 : (1000000 * 64 : Int) ≤ 2 ^ 27 := by decide
  omega
theorem de_pow (h : DE X a en S fun x S1 => DE X b en S1 fun y S2 => ∃ i j, x = .int i ∧ y = .int j ∧ CPowW i j ∧ Q (.int (i ^ j.toNat)) S2) : DE X (.BinOp a .Pow b pos) en S Q :=
  de_op op_powW (h.mono fun _ _ h1 => h1.mono fun _ _ ⟨_, _, e1, e2, hc, q⟩ => by subst e1 e2; exact dr_I hc q)
theorem de_neg (h : DE X a en S fun x S1 => ∃ i, x = .int i ∧ Q (.int (-i)) S1) : DE X (.UnaryOp .USub a pos) en S Q := ⟨fun σ H Hd st re => by
  refine wE_of (pe_un un_neg peW) ?_
  refine wE_mono (h σ H Hd st re) fun v H1 ⟨x, S1, Hd1, e1, st1, r1, i, e2, q1⟩ => ?_
  subst e2
  exact ⟨i, r1, .up e1 (.here (d := .int (-i)) st1 rfl q1)⟩⟩
end
end DL
namespace DL
open PySem PySem.Spec PyProof.Rows L2

/-! ### data as the library's data -/
mutual
def toPy : D → PyData
  | .non => .none
  | .bl b => .bool b
  | .int i => .int i
  | .str x => .str x
  | .tup l => .tuple (toPyL l)
  | .lst l => .list (toPyL l)
  | .raw _ => .none
  | .ext _ => .none
  | .scr ns => .list (ns.map PyData.int)
def toPyL : List D → List PyData
  | [] => []
  | d :: ds => toPy d :: toPyL ds
end
mutual
/-- plain data of at most this depth -/
def flatOk : Nat → D → Bool
  | _, .non => true
  | _, .bl _ => true
  | _, .int _ => true
  | _, .str x => PyData.strOk x
  | n + 1, .tup l => flatOkL n l
  | n + 1, .lst l => flatOkL n l
  | n + 1, .scr _ => true
  | _, _ => false
def flatOkL : Nat → List D → Bool
  | _, [] => true
  | n, d :: ds => flatOk n d && flatOkL n ds
end
theorem dpAll_ints {K : PySem.W.Frag} {H : Hp} : ∀ ns : List Int, DpAll K H (ns.map V.int) (ns.map PyData.int)
  | [] => .nil
  | n :: ns => .cons (.int n) (dpAll_ints ns)
mutual
theorem dp_of {K : PySem.W.Frag} {H : Hp} : ∀ (n : Nat) (d : D) (v : V), flatOk n d = true → Rp K H d v → Dp K H v (toPy d)
  | _, .non, v, _, r => by
    have r : v = _ := r
    subst r
    exact .non
  | _, .bl b, v, _, r => by
    have r : v = _ := r
    subst r
    exact .bl b
  | _, .int i, v, _, r => by
    have r : v = _ := r
    subst r
    exact .int i
  | _, .str x, v, _, r => by
    have r : v = _ := r
    subst r
    exact .str x
  | 0, .tup l, v, h, r => by simp [flatOk] at h
  | n + 1, .tup l, v, h, r => by
    obtain ⟨a, xs, rfl, h1, h2⟩ := r
    exact .tup h1 (dpAll_of n l xs (by simpa [flatOk] using h) h2)
  | 0, .lst l, v, h, r => by simp [flatOk] at h
  | n + 1, .lst l, v, h, r => by
    obtain ⟨a, xs, rfl, h1, h2⟩ := r
    exact .lst (.of h1) (dpAll_of n l xs (by simpa [flatOk] using h) h2)
  | 0, .scr l, v, h, r => by simp [flatOk] at h
  | n + 1, .scr ns, v, h, r => by
    obtain ⟨a, rfl, h1⟩ := r
    exact .lst h1 (dpAll_ints ns)
  | 0, .raw _, v, h, r => by simp [flatOk] at h
  | _ + 1, .raw _, v, h, r => by simp [flatOk] at h
  | 0, .ext _, v, h, r => by simp [flatOk] at h
  | _ + 1, .ext _, v, h, r => by simp [flatOk] at h
theorem dpAll_of {K : PySem.W.Frag} {H : Hp} : ∀ (n : Nat) (l : List D) (vs : List V), flatOkL n l = true → RpL K H l vs → DpAll K H vs (toPyL l)
  | _, [], vs, _, r => by
    have r : vs = [] := r
    subst r
    exact .nil
  | n, d :: ds, vs, h, r => by
    obtain ⟨x, xs, rfl, h1, h2⟩ := r
    rw [flatOkL, Bool.and_eq_true] at h
    exact .cons (dp_of n d x h.1 h1) (dpAll_of n ds xs h.2 h2)
end
theorem canLay_ints : ∀ ns : List Int, PyData.canLayAll0 (ns.map PyData.int) = true
  | [] => rfl
  | n :: ns => by
    show (PyData.canLay0 (.int n) && PyData.canLayAll0 (ns.map PyData.int)) = true
    rw [canLay_ints ns] <;> rfl
theorem depth_ints : ∀ ns : List Int, PyData.depthAll (ns.map PyData.int) = 0
  | [] => rfl
  | n :: ns => by
    show max (PyData.depth (.int n)) (PyData.depthAll (ns.map PyData.int)) = 0
    rw [depth_ints ns] <;> rfl
mutual
theorem lay_of : ∀ (n : Nat) (d : D), flatOk n d = true → (toPy d).canLay0 = true ∧ (toPy d).depth ≤ n
  | _, .non, _ => ⟨rfl, Nat.zero_le _⟩
  | _, .bl b, _ => ⟨rfl, Nat.zero_le _⟩
  | _, .int b, _ => ⟨rfl, Nat.zero_le _⟩
  | _, .str b, h => ⟨by simpa [flatOk, toPy, PyData.canLay0] using h, Nat.zero_le _⟩
  | 0, .tup l, h => by simp [flatOk] at h
  | n + 1, .tup l, h => by
    obtain ⟨h1, h2⟩ := layAll_of n l (by simpa [flatOk] using h)
    exact ⟨by simpa [toPy, PyData.canLay0] using h1, by simpa [toPy, PyData.depth] using h2⟩
  | 0, .lst l, h => by simp [flatOk] at h
  | n + 1, .lst l, h => by
    obtain ⟨h1, h2⟩ := layAll_of n l (by simpa [flatOk] using h)
    exact ⟨by simpa [toPy, PyData.canLay0] using h1, by simpa [toPy, PyData.depth] using h2⟩
  | 0, .scr l, h => by simp [flatOk] at h
  | n + 1, .scr ns, h => by
    refine ⟨by simpa [toPy, PyData.canLay0] using canLay_ints ns, ?_⟩
    show PyData.depthAll (ns.map PyData.int) + 1 ≤ n + 1
    rw [depth_ints]
    omega
  | 0, .raw _, h => by simp [flatOk] at h
  | _ + 1, .raw _, h => by simp [flatOk] at h
  | 0, .ext _, h => by simp [flatOk] at h
  | _ + 1, .ext _, h => by simp [flatOk] at h
theorem layAll_of : ∀ (n : Nat) (l : List D), flatOkL n l = true → PyData.canLayAll0 (toPyL l) = true ∧ PyData.depthAll (toPyL l) ≤ n
  | _, [], _ => ⟨rfl, Nat.zero_le _⟩
  | n, d :: ds, h => by
    rw [flatOkL, Bool.and_eq_true] at h
    obtain ⟨h1, h2⟩ := lay_of n d h.1
    obtain ⟨h3, h4⟩ := layAll_of n ds h.2
    refine ⟨?_, ?_⟩
    · show (PyData.canLay0 (toPy d) && PyData.canLayAll0 (toPyL ds)) = true
      rw [h1, h3] <;> rfl
    · show max (PyData.depth (toPy d)) (PyData.depthAll (toPyL ds)) ≤ n
      omega
end
theorem shaped_of {n : Nat} {d : D} (h : flatOk n d = true) (hn : n ≤ 64) : SeqAt.shaped (toPy d) = true := by
  obtain ⟨h1, h2⟩ := lay_of n d h
  unfold SeqAt.shaped
  rw [h1, decide_eq_true (show (toPy d).depth ≤ 64 by omega)] <;> rfl
/-- how data is compared -/
def eqB (x y : D) : Bool := PyData.eqv (toPy x) (toPy y)
theorem eqB_refl {n : Nat} {d : D} (h : flatOk n d = true) : eqB d d = true := PySem.SeqAt.eqv_refl _ (lay_of n d h).1
section
variable {X : Cx} {a b c e : Expr} {es : List Expr} {en : DEnv} {S : Sto} {Q : D → Sto → Prop} {pos : Pos}
/-! ### comparisons as values -/
def eqP (x y : D) (S : Sto) (Q : Bool → Sto → Prop) : Prop := match x, y with
  | .int i, .int j => Q (decide (i = j)) S
  | .str i, .str j => Q (decide (i = j)) S
  | x, y => (flatOk 9 x = true ∧ flatOk 9 y = true) ∧ Q (eqB x y) S
theorem dr_eq {K : PySem.W.Frag} {x y : D} (h : eqP x y S fun b S' => Q (.bl b) S') : DR2 K (fun x y H Q => rEq x y H Q ∨ rEqD K x y H Q) x y S Q := by
  intro H Hd vx vy Qv st rx ry k
  have deep : (flatOk 9 x = true ∧ flatOk 9 y = true) ∧ Q (.bl (eqB x y)) S → rEqD K vx vy H Qv := fun ⟨⟨h1, h2⟩, q⟩ =>
    ⟨toPy x, toPy y, dp_of 9 x vx h1 (Rp.mono st.sub x vx rx), dp_of 9 y vy h2 (Rp.mono st.sub y vy ry), shaped_of h1 (by decide), shaped_of h2 (by decide), k _ _ (.here (d := .bl (eqB x y)) st rfl q)⟩
  unfold eqP at h
  split at h
  · rename_i i j
    have e1 : vx = .int i := rx
    have e2 : vy = .int j := ry
    subst e1 e2
    refine .inl ⟨rfl, ?_⟩
    have e : decide (V.int i = V.int j) = decide (i = j) := by simp
    rw [e]
    exact k _ _ (.here (d := .bl (decide (i = j))) st rfl h)
  · rename_i i j
    have e1 : vx = .str i := rx
    have e2 : vy = .str j := ry
    subst e1 e2
    refine .inl ⟨rfl, ?_⟩
    have e : decide (V.str i = V.str j) = decide (i = j) := by simp
    rw [e]
    exact k _ _ (.here (d := .bl (decide (i = j))) st rfl h)
  · exact .inr (deep h)
theorem dr_ne {K : PySem.W.Frag} {x y : D} (h : eqP x y S fun b S' => Q (.bl (!b)) S') : DR2 K (fun x y H Q => rNe x y H Q ∨ rNeD K x y H Q) x y S Q := by
  intro H Hd vx vy Qv st rx ry k
  have deep : (flatOk 9 x = true ∧ flatOk 9 y = true) ∧ Q (.bl (!eqB x y)) S → rNeD K vx vy H Qv := fun ⟨⟨h1, h2⟩, q⟩ =>
    ⟨toPy x, toPy y, dp_of 9 x vx h1 (Rp.mono st.sub x vx rx), dp_of 9 y vy h2 (Rp.mono st.sub y vy ry), shaped_of h1 (by decide), shaped_of h2 (by decide), k _ _ (.here (d := .bl (!eqB x y)) st rfl q)⟩
  unfold eqP at h
  split at h
  · rename_i i j
    have e1 : vx = .int i := rx
    have e2 : vy = .int j := ry
    subst e1 e2
    refine .inl ⟨rfl, ?_⟩
    have e : decide (V.int i = V.int j) = decide (i = j) := by simp
    rw [e]
    exact k _ _ (.here (d := .bl (!decide (i = j))) st rfl h)
  · rename_i i j
    have e1 : vx = .str i := rx
    have e2 : vy = .str j := ry
    subst e1 e2
    refine .inl ⟨rfl, ?_⟩
    have e : decide (V.str i = V.str j) = decide (i = j) := by simp
    rw [e]
    exact k _ _ (.here (d := .bl (!decide (i = j))) st rfl h)
  · exact .inr (deep h)
theorem eq_int {i j : Int} {Q : Bool → Sto → Prop} (q : Q (decide (i = j)) S) : eqP (.int i) (.int j) S Q := q
theorem eq_str {i j : Str} {Q : Bool → Sto → Prop} (q : Q (decide (i = j)) S) : eqP (.str i) (.str j) S Q := q
theorem eq_tup {l m : List D} {Q : Bool → Sto → Prop} (q : Q (eqB (.tup l) (.tup m)) S) (h : flatOk 9 (.tup l) = true ∧ flatOk 9 (.tup m) = true := by exact ⟨rfl, rfl⟩) : eqP (.tup l) (.tup m) S Q := ⟨h, q⟩
theorem eq_lst {l m : List D} {Q : Bool → Sto → Prop} (q : Q (eqB (.lst l) (.lst m)) S) (h : flatOk 9 (.lst l) = true ∧ flatOk 9 (.lst m) = true := by exact ⟨rfl, rfl⟩) : eqP (.lst l) (.lst m) S Q := ⟨h, q⟩
theorem eq_scr {l : List Int} {m : List D} {Q : Bool → Sto → Prop} (q : Q (eqB (.scr l) (.lst m)) S) (h : flatOk 9 (.scr l) = true ∧ flatOk 9 (.lst m) = true := by exact ⟨rfl, rfl⟩) : eqP (.scr l) (.lst m) S Q := ⟨h, q⟩
/-- two equal data -/
theorem eqP_same {x y : D} {Q : Bool → Sto → Prop} (z : x = y) (h : flatOk 9 x = true) (q : Q true S) : eqP x y S Q := by
  subst z
  have e := eqB_refl h
  cases x <;> first
    | (refine ⟨⟨h, h⟩, ?_⟩
       rw [e]
       exact q)
    | (show Q (decide (_ = _)) S
       rw [decide_eq_true rfl]
       exact q)
theorem de_eq (hu : X.A.units + 64 < cLine) (h : DE X a en S fun x S1 => DE X b en S1 fun y S2 => eqP x y S2 fun b S' => Q (.bl b) S') : DE X (.Compare a [.Eq] [b] pos) en S Q :=
  de_cmpR (OpR.or op_eq (op_eqD hu)) (nobehind _ (by decide) (by decide)) (h.mono fun _ _ h1 => h1.mono fun _ _ h2 => dr_eq h2)
theorem de_lt (h : DE X a en S fun x S1 => DE X b en S1 fun y S2 => ∃ i j, x = .int i ∧ y = .int j ∧ Q (.bl (decide (i < j))) S2) : DE X (.Compare a [.Lt] [b] pos) en S Q :=
  de_cmpR op_lt (nobehind _ (by decide) (by decide)) (h.mono fun _ _ h1 => h1.mono fun _ _ ⟨_, _, e1, e2, q⟩ => by subst e1 e2; exact dr_B0 q)
theorem de_le (h : DE X a en S fun x S1 => DE X b en S1 fun y S2 => ∃ i j, x = .int i ∧ y = .int j ∧ Q (.bl (decide (i ≤ j))) S2) : DE X (.Compare a [.LtE] [b] pos) en S Q :=
  de_cmpR op_le (nobehind _ (by decide) (by decide)) (h.mono fun _ _ h1 => h1.mono fun _ _ ⟨_, _, e1, e2, q⟩ => by subst e1 e2; exact dr_B0 q)
/-! ### truths as values -/
theorem de_not (h : DE X a en S fun x S1 => ∃ c, x = .bl c ∧ Q (.bl (!c)) S1) : DE X (.UnaryOp .Not a pos) en S Q := ⟨fun σ H Hd st re => by
  refine wE_of (pe_not peW) ?_
  refine wE_mono (h σ H Hd st re) fun v H1 ⟨x, S1, Hd1, e1, st1, r1, i, e2, q1⟩ => ?_
  subst e2
  exact ⟨i, r1, .up e1 (.here (d := .bl (!i)) st1 rfl q1)⟩⟩
theorem de_one {op} (h : DE X a en S Q) : DE X (.BoolOp op [a] pos) en S Q := ⟨fun σ H Hd st re => wE_of (pe_one peW) (h σ H Hd st re)⟩
theorem de_and {rest : List Expr} (h : DE X a en S fun x S1 => ∃ c, x = .bl c ∧ (c = false → Q (.bl false) S1) ∧ (c = true → DE X (.BoolOp .And (b :: rest) pos) en S1 Q)) : DE X (.BoolOp .And (a :: b :: rest) pos) en S Q := ⟨fun σ H Hd st re => by
  refine wE_of (pe_and peW peW) ?_
  refine wE_mono (h σ H Hd st re) fun v H1 ⟨x, S1, Hd1, e1, st1, r1, i, e2, q1, q2⟩ => ?_
  subst e2
  refine ⟨i, r1, ?_⟩
  cases i with
  | true =>
    rw [if_pos rfl]
    exact wE_mono (q2 rfl σ H1 Hd1 st1 (re.mono e1)) fun _ _ z => .up e1 z
  | false =>
    rw [if_neg Bool.false_ne_true]
    exact .up e1 (.here (d := .bl false) st1 rfl (q1 rfl))⟩
theorem de_ifE (h : DT X c en S fun t S1 => (t = true → DE X a en S1 Q) ∧ (t = false → DE X b en S1 Q)) : DE X (.IfExp c a b pos) en S Q := ⟨fun σ H Hd st re => by
  refine wE_of (pe_ifExp ptW peW peW) ?_
  refine wT_mono (h σ H Hd st re) fun t H1 ⟨S1, Hd1, e1, st1, q1, q2⟩ => ?_
  cases t with
  | true =>
    rw [if_pos rfl]
    exact wE_mono (q1 rfl σ H1 Hd1 st1 (re.mono e1)) fun _ _ z => .up e1 z
  | false =>
    rw [if_neg Bool.false_ne_true]
    exact wE_mono (q2 rfl σ H1 Hd1 st1 (re.mono e1)) fun _ _ z => .up e1 z⟩
/-! ### tests -/
variable {P : Bool → Sto → Prop}
theorem dt_val (h : DE X a en S fun x S1 => ∃ c, x = .bl c ∧ P c S1) (he : ∀ whole, isTrue a X.env whole = (do let v ← whole; standAt a.pos; holding [v] (truthy v)) := by intro _; rfl) : DT X a en S P := ⟨fun σ H Hd st re => by
  refine wT_of (pt_val peW he) ?_
  refine wE_mono (h σ H Hd st re) fun v H1 ⟨x, S1, Hd1, e1, st1, r1, i, e2, q1⟩ => ?_
  subst e2
  exact ⟨i, r1, S1, Hd1, e1, st1, q1⟩⟩
theorem dt_not (h : DT X a en S fun c S1 => P (!c) S1) : DT X (.UnaryOp .Not a pos) en S P := ⟨fun σ H Hd st re => by
  refine wT_of (pt_not ptW) ?_
  exact wT_mono (h σ H Hd st re) fun c H1 ⟨S1, Hd1, e1, st1, q⟩ => ⟨S1, Hd1, e1, st1, q⟩⟩
theorem dt_w (h : DW X a en S P) : DT X a en S P := ⟨fun σ H Hd st re => wT_of (PW.pt pwW) (h σ H Hd st re)⟩
theorem dw_or1 (h : DT X a en S P) : DW X (.BoolOp .Or [a] pos) en S P := ⟨fun σ H Hd st re => wW_of (pw_or1 ptW) (h σ H Hd st re)⟩
theorem dw_or {rest : List Expr} (h : DT X a en S fun c S1 => (c = true → P true S1) ∧ (c = false → DW X (.BoolOp .Or (b :: rest) pos) en S1 P)) : DW X (.BoolOp .Or (a :: b :: rest) pos) en S P := ⟨fun σ H Hd st re => by
  refine wW_of (pw_or ptW pwW) ?_
  refine wT_mono (h σ H Hd st re) fun c H1 ⟨S1, Hd1, e1, st1, q1, q2⟩ => ?_
  cases c with
  | false =>
    rw [if_neg Bool.false_ne_true]
    exact wW_mono (q2 rfl σ H1 Hd1 st1 (re.mono e1)) fun _ _ z => .up e1 z
  | true =>
    rw [if_pos rfl]
    exact ⟨S1, Hd1, e1, st1, q1 rfl⟩⟩
/-- a comparison as a test -/
theorem dt_cmp {op : CmpOp} {r : R2} (ho : OpR X (compareOp op) r) (hm : behindInMarks op b = false) (h : DE X a en S fun x S1 => DE X b en S1 fun y S2 => DR2 X.K r x y S2 fun d S' => ∃ c, d = .bl c ∧ P c S') : DT X (.Compare a [op] [b] pos) en S P := ⟨fun σ H Hd st re => by
  refine wT_of (pt_cmpR ho peW peW hm) ?_
  refine wE_mono (h σ H Hd st re) fun v H1 ⟨x, S1, Hd1, e1, st1, r1, q1⟩ => ?_
  refine wE_mono (q1 σ H1 Hd1 st1 (re.mono e1)) fun u H2 ⟨y, S2, Hd2, e2, st2, r2, q2⟩ => ?_
  refine q2 H2 Hd2 v u _ st2 (Rp.mono e2 x v r1) r2 fun w H3 ⟨d, S3, Hd3, e3, st3, r3, c, ed, q3⟩ => ?_
  subst ed
  exact ⟨c, r3, S3, Hd3, (e1.trans e2).trans e3, st3, q3⟩⟩
theorem dt_lt (h : DE X a en S fun x S1 => DE X b en S1 fun y S2 => ∃ i j, x = .int i ∧ y = .int j ∧ P (decide (i < j)) S2) : DT X (.Compare a [.Lt] [b] pos) en S P :=
  dt_cmp op_lt (nobehind _ (by decide) (by decide)) (h.mono fun _ _ h1 => h1.mono fun _ _ ⟨_, _, e1, e2, q⟩ => by subst e1 e2; exact dr_B0 ⟨_, rfl, q⟩)
theorem dt_gt (h : DE X a en S fun x S1 => DE X b en S1 fun y S2 => ∃ i j, x = .int i ∧ y = .int j ∧ P (decide (j < i)) S2) : DT X (.Compare a [.Gt] [b] pos) en S P :=
  dt_cmp op_gt (nobehind _ (by decide) (by decide)) (h.mono fun _ _ h1 => h1.mono fun _ _ ⟨_, _, e1, e2, q⟩ => by subst e1 e2; exact dr_B0 ⟨_, rfl, q⟩)
theorem dt_ge (h : DE X a en S fun x S1 => DE X b en S1 fun y S2 => ∃ i j, x = .int i ∧ y = .int j ∧ P (decide (j ≤ i)) S2) : DT X (.Compare a [.GtE] [b] pos) en S P :=
  dt_cmp op_ge (nobehind _ (by decide) (by decide)) (h.mono fun _ _ h1 => h1.mono fun _ _ ⟨_, _, e1, e2, q⟩ => by subst e1 e2; exact dr_B0 ⟨_, rfl, q⟩)
theorem dt_eq (hu : X.A.units + 64 < cLine) (h : DE X a en S fun x S1 => DE X b en S1 fun y S2 => eqP x y S2 P) : DT X (.Compare a [.Eq] [b] pos) en S P :=
  dt_cmp (OpR.or op_eq (op_eqD hu)) (nobehind _ (by decide) (by decide)) (h.mono fun _ _ h1 => h1.mono fun x y h2 => dr_eq (by
    unfold eqP at h2 ⊢
    split at h2 <;> first | exact ⟨_, rfl, h2⟩ | exact ⟨h2.1, _, rfl, h2.2⟩))
theorem dt_ne (hu : X.A.units + 64 < cLine) (h : DE X a en S fun x S1 => DE X b en S1 fun y S2 => eqP x y S2 fun b S' => P (!b) S') : DT X (.Compare a [.NotEq] [b] pos) en S P :=
  dt_cmp (OpR.or op_ne (op_neD hu)) (nobehind _ (by decide) (by decide)) (h.mono fun _ _ h1 => h1.mono fun x y h2 => dr_ne (by
    unfold eqP at h2 ⊢
    split at h2 <;> first | exact ⟨_, rfl, h2⟩ | exact ⟨h2.1, _, rfl, h2.2⟩))
/-! ### displays, subscripts, slices -/
variable {R : List D → Sto → Prop}
theorem da_nil (q : R [] S) : DA X [] en S R := ⟨fun σ H Hd st _ => wA_of pa_nil ⟨[], S, Hd, Same.refl _, st, rfl, q⟩⟩
theorem da_cons (h : DE X e en S fun x S1 => DA X es en S1 fun xs S2 => R (x :: xs) S2) (hs : starEach (e :: es) X.env = (false, eval e X.env) :: starEach es X.env := by rfl) : DA X (e :: es) en S R := ⟨fun σ H Hd st re => by
  refine wA_of (pa_cons peW paW hs) ?_
  refine wE_mono (h σ H Hd st re) fun v H1 ⟨x, S1, Hd1, e1, st1, r1, q1⟩ => ?_
  refine wA_mono (q1 σ H1 Hd1 st1 (re.mono e1)) fun vs H2 ⟨xs, S2, Hd2, e2, st2, r2, q2⟩ => ?_
  exact ⟨x :: xs, S2, Hd2, e1.trans e2, st2, ⟨v, vs, rfl, Rp.mono e2 x v r1, r2⟩, q2⟩⟩
theorem DA.mono {R' : List D → Sto → Prop} (h : DA X es en S R) (k : ∀ d S', R d S' → R' d S') : DA X es en S R' := ⟨fun σ H Hd st re =>
  wA_mono (h σ H Hd st re) fun _ _ ⟨d, S', Hd', e', st', r, q⟩ => ⟨d, S', Hd', e', st', r, k d S' q⟩⟩
theorem de_tup {x1} (h : DA X es en S fun xs S1 => xs.length ≤ 100000 ∧ Q (.tup xs) S1) : DE X (.Tuple es x1 pos) en S Q := ⟨fun σ H Hd st re => by
  refine wE_of (pe_tup paW) ?_
  refine wA_mono (h σ H Hd st re) fun vs H1 ⟨xs, S1, Hd1, e1, st1, r1, n1, q1⟩ => ?_
  exact ⟨by rw [r1.length]; exact sz5 n1, fun p hp => .up e1 (new_tup st1 r1 hp q1)⟩⟩
theorem de_lst (h : DA X es en S fun xs S1 => xs.length ≤ 100000 ∧ Q (.lst xs) S1) : DE X (.List es pos) en S Q := ⟨fun σ H Hd st re => by
  refine wE_of (pe_lst paW) ?_
  refine wA_mono (h σ H Hd st re) fun vs H1 ⟨xs, S1, Hd1, e1, st1, r1, n1, q1⟩ => ?_
  exact ⟨by rw [r1.length]; exact sz5 n1, fun p hp => .up e1 (new_lst st1 r1 hp q1)⟩⟩
/-- a list that will be changed -/
theorem de_lstO (h : DA X es en S fun xs S1 => xs.length ≤ 100000 ∧ ∀ p, getS p S1 = none → Q (.raw (.ref p)) ((p, xs) :: S1)) : DE X (.List es pos) en S Q := ⟨fun σ H Hd st re => by
  refine wE_of (pe_lst paW) ?_
  refine wA_mono (h σ H Hd st re) fun vs H1 ⟨xs, S1, Hd1, e1, st1, r1, n1, q1⟩ => ?_
  refine ⟨by rw [r1.length]; exact sz5 n1, fun p hp => ?_⟩
  obtain ⟨g, st2⟩ := st1.laidO hp r1
  exact ⟨.raw (.ref p), _, Hd1, e1, st2, rfl, q1 p g⟩⟩
def ixP (x y : D) (S : Sto) (Q : D → Sto → Prop) : Prop := match x, y with
  | .tup l, .int i => ∃ d, atI l i = some d ∧ Q d S
  | .lst l, .int i => ∃ d, atI l i = some d ∧ Q d S
  | .raw (.ref p), .int i => ∃ l d, getS p S = some l ∧ atI l i = some d ∧ Q d S
  | _, _ => False
theorem RpL.at {K : PySem.W.Frag} {H : Hp} {l : List D} {vs : List V} {i : Int} {d : D} (h : RpL K H l vs) (e : atI l i = some d) : ∃ v, atI vs i = some v ∧ Rp K H d v := by
  unfold atI at e ⊢
  rw [h.length]
  cases q : ixN l.length i with
  | none =>
    rw [q] at e
    cases e
  | some j =>
    rw [q] at e
    exact h.get e
theorem de_ix (hs : PlainIx b := by exact fun _ _ => rfl) (h : DE X a en S fun x S1 => DE X b en S1 fun y S2 => ixP x y S2 Q) : DE X (.Subscript a b pos) en S Q := by
  refine de_two (f := fun _ _ => pure .none) (fun ha hb => pe_ix (IxR.or ix_list ix_tup) ha hb hs) (h.mono fun x S1 h1 => h1.mono fun y S2 h2 => ?_)
  intro H Hd vx vy Qv st rx ry k
  unfold ixP at h2
  split at h2
  · obtain ⟨p, xs, e1, e2, e3⟩ := rx
    obtain ⟨d, ed, q⟩ := h2
    obtain ⟨v, ev, rv⟩ := e3.at ed
    exact .inr ⟨p, xs, _, v, e1, ry, same_t st.sub e2, ev, k _ _ (.here st rv q)⟩
  · obtain ⟨p, xs, e1, e2, e3⟩ := rx
    obtain ⟨d, ed, q⟩ := h2
    obtain ⟨v, ev, rv⟩ := e3.at ed
    exact .inl ⟨p, xs, _, v, e1, ry, .of (st.sub _ _ e2), ev, k _ _ (.here st rv q)⟩
  · obtain ⟨l, d, g, ed, q⟩ := h2
    obtain ⟨_, xs, e2, e3⟩ := st.own.at g
    obtain ⟨v, ev, rv⟩ := e3.at ed
    exact .inl ⟨_, xs, _, v, rx, ry, .of e2, ev, k _ _ (.here st rv q)⟩
  · exact h2.elim
theorem ix_t {l : List D} {i : Int} {d : D} (q : Q d S) (h : atI l i = some d := by rfl) : ixP (.tup l) (.int i) S Q := ⟨d, h, q⟩
theorem ix_l {l : List D} {i : Int} {d : D} (q : Q d S) (h : atI l i = some d := by rfl) : ixP (.lst l) (.int i) S Q := ⟨d, h, q⟩
theorem ix_o {p : Addr} {l : List D} {i : Int} {d : D} (g : getS p S = some l) (q : Q d S) (h : atI l i = some d := by rfl) : ixP (.raw (.ref p)) (.int i) S Q := ⟨l, d, g, h, q⟩
/-- the part of a slice -/
def DO (X : Cx) (e : Option Expr) (en : DEnv) (S : Sto) (Q : Option Int → Prop) : Prop := match e with
  | none => Q none
  | some e => DE X e en S fun x S' => S' = S ∧ ∃ i, x = .int i ∧ Q (some i)
def cutD (l : List D) (lo hi : Option Int) : List D := (l.drop (HT.sIx l.length 0 lo)).take (HT.sIx l.length l.length hi - HT.sIx l.length 0 lo)
theorem RpL.cut {K : PySem.W.Frag} {H : Hp} {l : List D} {vs : List V} (h : RpL K H l vs) (lo hi : Option Int) : RpL K H (cutD l lo hi) (cutV vs lo hi) := by
  unfold cutD cutV
  rw [h.length]
  exact (h.drop _).take _
theorem SlR.or {r r' : V → Option Int → Option Int → Hp → VK → Prop} (h : SlR X r) (h' : SlR X r') : SlR X (fun x l u H Q => r x l u H Q ∨ r' x l u H Q) := by
  intro pins s σ H x v vl vu lo hi sl Q I rx hs pl pu q
  rcases q with q | q
  · exact h pins s σ H x v vl vu lo hi sl Q I rx hs pl pu q
  · exact h' pins s σ H x v vl vu lo hi sl Q I rx hs pl pu q
def slP (x : D) (lo hi : Option Int) (S : Sto) (Q : D → Sto → Prop) : Prop := match x with
  | .tup l => ¬ (HT.sIx l.length 0 lo = 0 ∧ HT.sIx l.length l.length hi = l.length) ∧ Q (.tup (cutD l lo hi)) S
  | .lst l => Q (.lst (cutD l lo hi)) S
  | _ => False
theorem de_slice {lo hi : Option Expr} {p2 : Pos} (h : DE X a en S fun x S1 => DO X lo en S1 fun l => DO X hi en S1 fun u => slP x l u S1 Q) : DE X (.Subscript a (.Slice lo hi none p2) pos) en S Q := ⟨fun σ H Hd st re => by
  -- each part's own reading
  have part : ∀ (o : Option Expr), ∃ t : TO, PO X o t ∧ ∀ {S : Sto} {R : Option Int → Prop} (H Hd : Hp), DO X o en S R → St0 X.K S Hd H → RpE X.K Hd en σ → ∀ Qo : Option Int → Hp → Prop, (∀ i H' Hd', Same Hd Hd' → St0 X.K S Hd' H' → R i → Qo i H') → t σ H Qo := by
    intro o
    cases o with
    | none => exact ⟨_, po_none, fun H Hd d st re Qo k => k none H Hd (Same.refl _) st d⟩
    | some e =>
      refine ⟨_, po_some peW, fun {S R} H Hd d st re Qo k => ?_⟩
      have d : DE X e en S fun x S' => S' = S ∧ ∃ i, x = .int i ∧ R (some i) := d
      show wE X e σ H _
      refine wE_mono (d σ H Hd st re) fun v H1 ⟨x, S1, Hd1, e1, st1, r1, eS, i, ex, q⟩ => ?_
      subst ex eS
      exact ⟨i, r1, k (some i) H1 Hd1 e1 st1 q⟩
  obtain ⟨tl, pl, kl⟩ := part lo
  obtain ⟨th, ph, kh⟩ := part hi
  refine wE_of (pe_slice (SlR.or sl_list sl_tup) peW pl ph) ?_
  refine wE_mono (h σ H Hd st re) fun v H1 ⟨x, S1, Hd1, e1, st1, r1, q1⟩ => ?_
  refine kl H1 Hd1 q1 st1 (re.mono e1) _ fun l H2 Hd2 e2 st2 q2 => ?_
  refine kh H2 Hd2 q2 st2 (re.mono (e1.trans e2)) _ fun u H3 Hd3 e3 st3 q3 => ?_
  have r3 := Rp.mono (e2.trans e3) x v r1
  unfold slP at q3
  split at q3
  · obtain ⟨p, xs, f1, f2, f3⟩ := r3
    refine .inr ⟨p, xs, f1, same_t st3.sub f2, ?_, fun a ha => .up ((e1.trans e2).trans e3) (new_tup st3 (f3.cut l u) ha q3.2)⟩
    rw [f3.length]
    exact q3.1
  · obtain ⟨p, xs, f1, f2, f3⟩ := r3
    exact .inl ⟨p, xs, f1, .of (st3.sub _ _ f2), fun a ha => .up ((e1.trans e2).trans e3) (new_lst st3 (f3.cut l u) ha q3)⟩
  · exact q3.elim⟩
end
end DL
namespace DL
open PySem PySem.Spec PyProof.Rows L2

/-! ### promises of defs that may show data (repr): nothing is being shown around them -/
structure GOk (P : Program) (w : World) (K : PySem.W.Frag) (mg : Str → Option Value) (base : Heap) (k : Nat) (f : Addr) (fd : FuncData) (ps : List Str) (sp : Sp) : Prop where
  len : ∀ vs H Q E, sp vs H Q E → vs.length = ps.length
  run : ∀ (A : Around) (fr : List Env) (s : Shared) (H : Hp) (ar : Args) (us : List Value) (vs : List V) (Q : VK) (E : XK), A.guards = some [] → Room k A →
    Env0 P w K mg base A fr s H → BindsTo s fd ar (ps.zip us) → Vals vs us → sp vs H Q E → codeAny (model P w) A (.call (.ref f) ar) (CR CX0 fr P w H s Q E) s
section
variable {P : Program} {w : World} {K : PySem.W.Frag} {mg : Str → Option Value} {base : Heap}
/-- a def of the text keeps its promise, by its body -/
theorem gok_of {k : Nat} {x qual : Str} {st : Stmt} {f : Addr} {fd : FuncData} {N ps : List Str} {sp : Sp} (F : Fun K x qual st f fd) (S : FnScope N ps (defScope st)) (ln : ∀ vs H Q E, sp vs H Q E → vs.length = ps.length)
    (body : ∀ (cdv : Value) (A : Around) (fr : List Env) (s : Shared) (H : Hp) (vs : List V) (Q : VK) (E : XK), (A.deeper (envOfC qual (defScope st) s.heap.objs.size f cdv)).guards = some [] → Room k (A.deeper (envOfC qual (defScope st) s.heap.objs.size f cdv)) → sp vs H Q E →
      wSs (cxOf CX0 P w K mg base N qual (defScope st) f cdv A fr s H E).nox (defBody st) { nx := fun _ H' => Q .non H', rt := Q } (start N vs) H) : GOk P w K mg base (k + 1) f fd ps sp := by
  obtain ⟨oc, od, kV, doc, pm, an, cdv, ct, osl, rfl, lk, hcd⟩ := F.ex
  refine ⟨ln, fun A fr s H ar us vs Q E gd hr e0 hb r hsp => ?_⟩
  have long := ln _ _ _ _ hsp
  have KX : K.In s.heap := e0.mod.kin.keeps fun b o e => (e0.bs b o e).1
  have free : s.heap.NoLimit := e0.mod.nolimit.keeps fun b o e => (e0.bs b o e).1
  refine codeAny_call_function hr.depth (KX _ _ lk) rfl S.co S.gen rfl (PySem.W.codeRec_of KX hcd) (hb _ _ _ _ ?_)
  refine wpAny_newFunctionEnv_cells S.kind (fun y hy => ?_) fun env he s1 xx => ?_
  · obtain ⟨n, v⟩ := y
    rcases S.par n (List.of_mem_zip hy).1 with z | z
    · exact .inl z
    · exact .inr ⟨z, PySem.W.cellsFrom_some _ _ _ (.inl z)⟩
  subst he
  refine ⟨free.keeps xx.toInCall.keep, codeAny_func ?_⟩
  have J : Inv (cxOf CX0 P w K mg base N qual (defScope st) f cdv A fr s H E) [] (start N vs) H s1 := inv_start S hr.hd e0 long r xx
  have run := (pssW (X := (cxOf CX0 P w K mg base N qual (defScope st) f cdv A fr s H E).nox) (sts := defBody st)).nox.run [] s1 (start N vs) H _ J (body cdv A fr s H vs Q E gd (hr.deeper _) hsp)
  refine wpAny_mono run (fun fl s' hs => ?_) fun e s' hs => hs
  have out : ∀ {σ' : L2.St} {H' : Hp} {v : V} {u : Value}, Inv (cxOf CX0 P w K mg base N qual (defScope st) f cdv A fr s H E) [] σ' H' s' → RelV v u → Q v H' → CE fr P w H s Q u s' :=
    fun {σ' H' v u} I rv q => ⟨v, H', I.os, I.bare, I.base, I.hok, rv, q⟩
  cases fl with
  | ret u =>
    obtain ⟨v, σ', H', I, rv, q⟩ := hs
    exact out I rv q
  | next =>
    obtain ⟨σ', H', I, q⟩ := hs
    exact out (v := V.non) (u := Value.none) I rfl q
  | brk => exact hs.elim fun _ h => h.elim fun _ h => h.2.elim
  | cont => exact hs.elim fun _ h => h.elim fun _ h => h.2.elim
end

/-! ### what a def does to data -/
abbrev Con := List D → Sto → (D → Sto → Prop) → Prop
def spD (K : PySem.W.Frag) (C : Con) : Sp := fun vs H Q _ => ∃ (ds : List D) (S : Sto) (Hd : Hp) (Qd : D → Sto → Prop), RpL K Hd ds vs ∧ St0 K S Hd H ∧ C ds S Qd ∧
  ∀ d S' v H' Hd', Qd d S' → Same Hd Hd' → St0 K S' Hd' H' → Rp K Hd' d v → Q v H'
/-- the values in the parameters' order, the named ones by their names -/
def ordV {α : Type} (df : α) (names ks : List Str) (zs : List α) : List α := names.map fun x => ((ks.zip zs).lookup x).getD df
/-- how such a call's arguments are bound: n of them by position -/
def KwOk (fd : FuncData) (ps : List Str) (p : Nat × List Str) : Prop := p.1 + p.2.length = ps.length ∧ (∀ y ∈ ps.drop p.1, y ∈ p.2) ∧
  ∀ us ws : List Value, us.length = p.1 → ws.length = p.2.length → bindArgs fd ⟨us, p.2.zip ws⟩ = pure (ps.zip (us ++ ordV .none (ps.drop p.1) p.2 ws))
/-- a def that stands in the module under the name x, with its promise -/
structure Cal (P : Program) (w : World) (K : PySem.W.Frag) (mg : Str → Option Value) (base : Heap) (k : Nat) (x : Str) (ps : List Str) (kws : List (Nat × List Str)) (C : Con) : Prop where
  ex : ∃ (f : Addr) (fd : FuncData), GOk P w K mg base k f fd ps (spD K C) ∧ mg x = some (.ref f) ∧ PySem.W.keepIn K (.ref f) = true ∧
    (∀ us : List Value, us.length = ps.length → bindArgs fd ⟨us, []⟩ = pure (ps.zip us)) ∧ ∀ p ∈ kws, KwOk fd ps p
theorem lookup_rp {K : PySem.W.Frag} {H : Hp} {y : Str} : ∀ {ks : List Str} {ds : List D} {vs : List V}, RpL K H ds vs → ks.length = ds.length → y ∈ ks → Rp K H (((ks.zip ds).lookup y).getD .non) (((ks.zip vs).lookup y).getD .non)
  | [], _, _, _, _, hy => nomatch hy
  | k :: ks, [], _, _, e, _ => by simp at e
  | k :: ks, d :: ds, _, h, e, hy => by
    obtain ⟨x, xs, rfl, h1, h2⟩ := h
    show Rp K H ((((k, d) :: ks.zip ds).lookup y).getD .non) ((((k, x) :: ks.zip xs).lookup y).getD .non)
    rw [List.lookup_cons, List.lookup_cons]
    cases q : (y == k) with
    | true => exact h1
    | false =>
      have ne : ¬ y = k := fun z => by
        rw [z] at q
        simp at q
      rcases List.mem_cons.mp hy with z | z
      · exact absurd z ne
      · exact lookup_rp h2 (by simpa using e) z
theorem lookup_vals {y : Str} : ∀ {ks : List Str} {vs : List V} {ws : List Value}, Vals vs ws → ks.length = vs.length → y ∈ ks → RelV (((ks.zip vs).lookup y).getD .non) (((ks.zip ws).lookup y).getD .none)
  | [], _, _, _, _, hy => nomatch hy
  | k :: ks, _, _, .nil, e, _ => by simp at e
  | k :: ks, _, _, .cons (a := a) (b := b) (l₁ := l1) (l₂ := l2) h1 h2, e, hy => by
    show RelV ((((k, a) :: ks.zip l1).lookup y).getD .non) ((((k, b) :: ks.zip l2).lookup y).getD .none)
    rw [List.lookup_cons, List.lookup_cons]
    cases q : (y == k) with
    | true => exact h1
    | false =>
      have ne : ¬ y = k := fun z => by
        rw [z] at q
        simp at q
      rcases List.mem_cons.mp hy with z | z
      · exact absurd z ne
      · exact lookup_vals h2 (by simpa using e) z
theorem ord_rp {K : PySem.W.Frag} {H : Hp} {ks : List Str} {ds : List D} {vs : List V} (h : RpL K H ds vs) (e : ks.length = ds.length) : ∀ {names : List Str}, (∀ y ∈ names, y ∈ ks) → RpL K H (ordV .non names ks ds) (ordV .non names ks vs)
  | [], _ => rfl
  | n :: ns, hm => ⟨_, _, rfl, lookup_rp h e (hm n List.mem_cons_self), ord_rp h e fun y hy => hm y (List.mem_cons_of_mem _ hy)⟩
theorem ord_vals {ks : List Str} {vs : List V} {ws : List Value} (h : Vals vs ws) (e : ks.length = vs.length) : ∀ {names : List Str}, (∀ y ∈ names, y ∈ ks) → Vals (ordV .non names ks vs) (ordV .none names ks ws)
  | [], _ => .nil
  | n :: ns, hm => .cons (lookup_vals h e (hm n List.mem_cons_self)) (ord_vals h e fun y hy => hm y (List.mem_cons_of_mem _ hy))

/-! ### calls -/
def wK (X : Cx) (kws : List Keyword) : TA := fun σ H Q => ∀ (pos : Pos) pins s, Inv X pins σ H s → wpAny (model X.prog X.w) X.A (evalAll ((backToKw pos (keywordEach kws X.env)).map (·.2))) (AP X pins σ Q) X.xe s
structure DK (X : Cx) (kws : List Keyword) (en : DEnv) (S : Sto) (Q : List D → Sto → Prop) : Prop where
  run : ∀ (σ : L2.St) (H Hd : Hp), St0 X.K S Hd H → RpE X.K Hd en σ → wK X kws σ H (QA X.K Hd Q)
instance {X : Cx} {kws : List Keyword} {en : DEnv} {S : Sto} {Q : List D → Sto → Prop} : CoeFun (DK X kws en S Q) (fun _ => ∀ (σ : L2.St) (H Hd : Hp), St0 X.K S Hd H → RpE X.K Hd en σ → wK X kws σ H (QA X.K Hd Q)) := ⟨fun h => h.run⟩
section
variable {X : Cx} {a b c e : Expr} {es : List Expr} {kwl : List Keyword} {en : DEnv} {S : Sto} {Q : D → Sto → Prop} {R : List D → Sto → Prop} {pos p kpos : Pos} {k : Nat} {x : Str} {ps ks : List Str} {kws : List (Nat × List Str)} {C : Con}
/-- the callee runs -/
theorem run_cal (c : Cal X.prog X.w X.K X.mg X.base k x ps kws C) (gd : X.A.guards = some []) (hr : Room k X.A) : ∃ f : Addr, X.mg x = some (.ref f) ∧ PySem.W.keepIn X.K (.ref f) = true ∧
    (∀ {pins : List (Addr × Obj)} {σ : L2.St} {H Hd : Hp} {s : Shared} {us : List Value} {vs : List V} {ds : List D} {S : Sto} {Q : D → Sto → Prop} {Qv : VK}, Inv X pins σ H s → Vals vs us → RpL X.K Hd ds vs → St0 X.K S Hd H → C ds S Q → (∀ v H', QD X.K Hd Q v H' → Qv v H') →
      wpAny (model X.prog X.w) X.A (call (.ref f) us) (EP X pins σ Qv) X.xe s) ∧
    ∀ (n : Nat) (ks : List Str), (n, ks) ∈ kws → ∀ {pins : List (Addr × Obj)} {σ : L2.St} {H Hd : Hp} {s : Shared} {us ws : List Value} {vs zs : List V} {ds fs : List D} {S : Sto} {Q : D → Sto → Prop} {Qv : VK}, Inv X pins σ H s → Vals vs us → Vals zs ws → us.length = n → ws.length = ks.length →
      RpL X.K Hd ds vs → RpL X.K Hd fs zs → St0 X.K S Hd H → C (ds ++ ordV .non (ps.drop n) ks fs) S Q → (∀ v H', QD X.K Hd Q v H' → Qv v H') → wpAny (model X.prog X.w) X.A (call (.ref f) us (ks.zip ws)) (EP X pins σ Qv) X.xe s := by
  obtain ⟨f, fd, G, hm, hk, hb, hkw⟩ := c.ex
  refine ⟨f, hm, hk, fun {pins σ H Hd s us vs ds S Q Qv} I r rd st q kq => ?_, fun n ks hn {pins σ H Hd s us ws vs zs ds fs S Q Qv} I r rz ln lw rd rf st q kq => ?_⟩
  · have hs : spD X.K C vs H Qv E0 := ⟨ds, S, Hd, Q, rd, st, q, fun d S' v H' Hd' z1 z2 z3 z4 => kq v H' ⟨d, S', Hd', z2, z3, z4, z1⟩⟩
    have hl : us.length = ps.length := by rw [← r.length]; exact G.len _ _ _ _ hs
    refine wpAny_call (codeAny_mono (G.run X.A X.stack s H ⟨us, []⟩ us vs Qv E0 gd hr I.env0 (.of_eq (hb us hl)) r hs) fun res s' hq => ?_)
    cases res with
    | error e => exact hq.elim
    | ok fl =>
      cases fl with
      | ret u => exact I.after hq
      | next => exact hq.elim
      | brk => exact hq.elim
      | cont => exact hq.elim
  · obtain ⟨k1, k2, k3⟩ := hkw _ hn
    have lz : ks.length = zs.length := by rw [rz.length]; exact lw.symm
    have lf : ks.length = fs.length := by rw [lz, rf.length]
    have hs : spD X.K C (vs ++ ordV .non (ps.drop n) ks zs) H Qv E0 := ⟨_, S, Hd, Q, rd.append (ord_rp rf lf k2), st, q, fun d S' v H' Hd' z1 z2 z3 z4 => kq v H' ⟨d, S', Hd', z2, z3, z4, z1⟩⟩
    refine wpAny_call (codeAny_mono (G.run X.A X.stack s H ⟨us, ks.zip ws⟩ (us ++ ordV .none (ps.drop n) ks ws) _ Qv E0 gd hr I.env0 (.of_eq (k3 us ws ln lw)) (r.append (ord_vals rz lz k2)) hs) fun res s' hq => ?_)
    cases res with
    | error e => exact hq.elim
    | ok fl =>
      cases fl with
      | ret u => exact I.after hq
      | next => exact hq.elim
      | brk => exact hq.elim
      | cont => exact hq.elim
/-- f(e, ..) -/
theorem de_call (c : Cal X.prog X.w X.K X.mg X.base k x ps kws C) (gd : X.A.guards = some []) (hr : Room k X.A) (h : DA X (e :: es) en S fun ds S1 => C ds S1 Q) (hg : Gl X x := by rfl)
    (hdb : (x == ("__debug__" : Str)) = false := by decide) (he : starEach (e :: es) X.env = (false, eval e X.env) :: starEach es X.env := by rfl) (hpl : (backTo pos (starEach es X.env)).any (·.1) = false := by rfl) : DE X (.Call (.Name x p) (e :: es) [] pos) en S Q := by
  refine ⟨fun σ H Hd st re => ?_⟩
  intro pins s I
  obtain ⟨f, hm, hk, run, _⟩ := run_cal c gd hr
  refine wpAny_Call_Name_kw (ld_glob I hg hm ?_ hdb)
  refine PySem.W.callWith_K (h₀ := X.base) I.ok.mod.kin hk (thn (h σ H Hd st re pos pins s I) fun us s1 ⟨vs, H1, I1, r, ds, S1, Hd1, e1, st1, r1, q1⟩ => ⟨I1.kIn, ?_⟩) he hpl
  exact run I1 r r1 st1 q1 fun v H' z => .up e1 z
/-- f() -/
theorem de_call0 (c : Cal X.prog X.w X.K X.mg X.base k x ps kws C) (gd : X.A.guards = some []) (hr : Room k X.A) (h : C [] S Q) (hg : Gl X x := by rfl) (hdb : (x == ("__debug__" : Str)) = false := by decide) : DE X (.Call (.Name x p) [] [] pos) en S Q := by
  refine ⟨fun σ H Hd st re => ?_⟩
  intro pins s I
  obtain ⟨f, hm, hk, run, _⟩ := run_cal c gd hr
  refine wpAny_Call_Name_kw (ld_glob I hg hm ?_ hdb)
  exact PySem.W.callWith_K0 I.kIn hk (run (us := []) (vs := []) (ds := []) I .nil rfl st h fun v H' z => z)
/-! ### built-ins -/
def DRC (K : PySem.W.Frag) (r : List V → Hp → VK → Prop) (ds : List D) (S : Sto) (Q : D → Sto → Prop) : Prop :=
  ∀ (H Hd : Hp) (vs : List V) (Qv : VK), St0 K S Hd H → RpL K Hd ds vs → (∀ v H', QD K Hd Q v H' → Qv v H') → r vs H Qv
variable {id T : String} {r : List V → Hp → VK → Prop}
theorem de_B (hc : CallR X (.builtin id) r) (hm : X.mg x = none) (hv : bootBuiltins x = some (.builtin id)) (h : DA X (e :: es) en S fun ds S1 => DRC X.K r ds S1 Q) (hg : Gl X x := by rfl) (hn : x ≠ "__name__" := by decide) (hdb : (x == ("__debug__" : Str)) = false := by decide)
    (he : starEach (e :: es) X.env = (false, eval e X.env) :: starEach es X.env := by rfl) (hpl : (backTo pos (starEach es X.env)).any (·.1) = false := by rfl) : DE X (.Call (.Name x p) (e :: es) [] pos) en S Q := ⟨fun σ H Hd st re => by
  refine wE_of (pe_callB hc hg hm hv paW hn hdb he hpl) ?_
  exact wA_mono (h σ H Hd st re) fun vs H1 ⟨ds, S1, Hd1, e1, st1, r1, q1⟩ => q1 H1 Hd1 vs _ st1 r1 fun v H' z => .up e1 z⟩
theorem de_T (hc : CallR X (.type T) r) (hm : X.mg x = none) (hv : bootBuiltins x = some (.type T)) (h : DA X (e :: es) en S fun ds S1 => DRC X.K r ds S1 Q) (hg : Gl X x := by rfl) (hn : x ≠ "__name__" := by decide) (hdb : (x == ("__debug__" : Str)) = false := by decide)
    (he : starEach (e :: es) X.env = (false, eval e X.env) :: starEach es X.env := by rfl) (hpl : (backTo pos (starEach es X.env)).any (·.1) = false := by rfl) : DE X (.Call (.Name x p) (e :: es) [] pos) en S Q := ⟨fun σ H Hd st re => by
  refine wE_of (pe_callTy hc hg hm hv paW hn hdb he hpl) ?_
  exact wA_mono (h σ H Hd st re) fun vs H1 ⟨ds, S1, Hd1, e1, st1, r1, q1⟩ => q1 H1 Hd1 vs _ st1 r1 fun v H' z => .up e1 z⟩
theorem one_rp {K : PySem.W.Frag} {H : Hp} {d : D} {vs : List V} (h : RpL K H [d] vs) : ∃ v, vs = [v] ∧ Rp K H d v := by
  obtain ⟨v, vs', e1, rv, e2⟩ := h
  have e2 : vs' = [] := e2
  subst e2
  exact ⟨v, e1, rv⟩
theorem two_rp {K : PySem.W.Frag} {H : Hp} {d e : D} {vs : List V} (h : RpL K H [d, e] vs) : ∃ v w, vs = [v, w] ∧ Rp K H d v ∧ Rp K H e w := by
  obtain ⟨v, vs', e1, rv, e2⟩ := h
  obtain ⟨w, e3, rw'⟩ := one_rp e2
  subst e3
  exact ⟨v, w, e1, rv, rw'⟩
variable {K : PySem.W.Frag}
theorem drc_abs {i : Int} (q : Q (.int (if i < 0 then -i else i)) S) : DRC K (fun xs H Q => ∃ i, xs = [.int i] ∧ Q (.int (if i < 0 then -i else i)) H) [.int i] S Q := fun H Hd vs Qv st rr k => by
  obtain ⟨v, e1, rv⟩ := one_rp rr
  have rv : v = V.int i := rv
  subst e1 rv
  exact ⟨i, rfl, k _ _ (.here (d := .int _) st rfl q)⟩
theorem drc_int {i : Int} (q : Q (.int i) S) : DRC K (fun xs H Q => (∃ i, xs = [.int i] ∧ Q (.int i) H) ∨ ∃ k, xs = [.bl k] ∧ Q (.int (if k then 1 else 0)) H) [.int i] S Q := fun H Hd vs Qv st rr k => by
  obtain ⟨v, e1, rv⟩ := one_rp rr
  have rv : v = V.int i := rv
  subst e1 rv
  exact .inl ⟨i, rfl, k _ _ (.here (d := .int _) st rfl q)⟩
theorem drc_intb {i : Bool} (q : Q (.int (if i then 1 else 0)) S) : DRC K (fun xs H Q => (∃ i, xs = [.int i] ∧ Q (.int i) H) ∨ ∃ k, xs = [.bl k] ∧ Q (.int (if k then 1 else 0)) H) [.bl i] S Q := fun H Hd vs Qv st rr k => by
  obtain ⟨v, e1, rv⟩ := one_rp rr
  have rv : v = V.bl i := rv
  subst e1 rv
  exact .inr ⟨i, rfl, k _ _ (.here (d := .int _) st rfl q)⟩
theorem drc_max {i j : Int} (q : Q (.int (if j > i then j else i)) S) : DRC K (fun xs H Q => ∃ i j, xs = [.int i, .int j] ∧ Q (.int (if j > i then j else i)) H) [.int i, .int j] S Q := fun H Hd vs Qv st rr k => by
  obtain ⟨v, w, e1, rv, rw'⟩ := two_rp rr
  have rv : v = V.int i := rv
  have rw' : w = V.int j := rw'
  subst e1 rv rw'
  exact ⟨i, j, rfl, k _ _ (.here (d := .int _) st rfl q)⟩
theorem drc_min {i j : Int} (q : Q (.int (if j < i then j else i)) S) : DRC K (fun xs H Q => ∃ i j, xs = [.int i, .int j] ∧ Q (.int (if j < i then j else i)) H) [.int i, .int j] S Q := fun H Hd vs Qv st rr k => by
  obtain ⟨v, w, e1, rv, rw'⟩ := two_rp rr
  have rv : v = V.int i := rv
  have rw' : w = V.int j := rw'
  subst e1 rv rw'
  exact ⟨i, j, rfl, k _ _ (.here (d := .int _) st rfl q)⟩
/-- math.gcd -/
theorem de_gcd {gx : Str} (hm : X.mg gx = some (.builtin "math.gcd")) (h : DA X [a, b] en S fun ds S1 => ∃ i j : Int, ds = [.int i, .int j] ∧ Q (.int ((Nat.gcd i.natAbs j.natAbs : Nat) : Int)) S1) (hg : Gl X gx := by rfl) (hn : gx ≠ "__name__" := by decide) (hdb : (gx == ("__debug__" : Str)) = false := by decide)
    (he : starEach (a :: [b]) X.env = (false, eval a X.env) :: starEach [b] X.env := by rfl) (hpl : (backTo pos (starEach [b] X.env)).any (·.1) = false := by rfl) : DE X (.Call (.Name gx p) [a, b] [] pos) en S Q := ⟨fun σ H Hd st re => by
  refine wE_of (pe_callBfun cr_gcd hg hm paW (hdb := hdb) (he := he) (hpl := hpl)) ?_
  refine wA_mono (h σ H Hd st re) fun vs H1 ⟨ds, S1, Hd1, e1, st1, r1, i, j, e2, q⟩ => ?_
  subst e2
  obtain ⟨v, vs', e3, rv, w, vs2, e4, rw', e5⟩ := r1
  have e5 : vs2 = [] := e5
  subst e3 e4 e5
  exact ⟨i, j, by rw [show v = V.int i from rv, show w = V.int j from rw'], .up e1 (.here (d := .int _) st1 rfl q)⟩⟩
/-- len -/
def lenP (d : D) (S : Sto) (Q : D → Sto → Prop) : Prop := match d with
  | .tup l => Q (.int (l.length : Int)) S
  | .lst l => Q (.int (l.length : Int)) S
  | .scr l => Q (.int (l.length : Int)) S
  | .raw (.ref p) => ∃ l, getS p S = some l ∧ Q (.int (l.length : Int)) S
  | _ => False
theorem drc_len {d : D} (q : lenP d S Q) : DRC K (fun xs H Q => ∃ p ys, xs = [.ref p] ∧ (SqL K H p ys ∨ SqT K H p ys) ∧ Q (.int ys.length) H) [d] S Q := fun H Hd vs Qv st rr k => by
  obtain ⟨v, e1, rv⟩ := one_rp rr
  subst e1
  unfold lenP at q
  split at q
  · obtain ⟨a, xs, f1, f2, f3⟩ := rv
    exact ⟨a, xs, by rw [f1], .inr (same_t st.sub f2), by rw [f3.length]; exact k _ _ (.here (d := .int _) st rfl q)⟩
  · obtain ⟨a, xs, f1, f2, f3⟩ := rv
    exact ⟨a, xs, by rw [f1], .inl (.of (st.sub _ _ f2)), by rw [f3.length]; exact k _ _ (.here (d := .int _) st rfl q)⟩
  · rename_i l
    obtain ⟨a, f1, f2⟩ := rv
    exact ⟨a, l.map V.int, by rw [f1], .inl (same_l st.sub f2), by rw [List.length_map]; exact k _ _ (.here (d := .int _) st rfl q)⟩
  · rename_i a
    obtain ⟨l, g, q⟩ := q
    obtain ⟨_, xs, f2, f3⟩ := st.own.at g
    exact ⟨a, xs, by rw [show v = V.ref a from rv], .inl (.of f2), by rw [f3.length]; exact k _ _ (.here (d := .int _) st rfl q)⟩
  · exact q.elim
/-- tuple(list) -/
theorem drc_tuple {l : List D} (q : Q (.tup l) S) : DRC K (fun xs H Q => ∃ p ys, xs = [.ref p] ∧ ((SqL K H p ys ∧ ∀ l, H l = none → Q (.ref l) (upd H l (.tup ys))) ∨ (SqT K H p ys ∧ Q (.ref p) H))) [.lst l] S Q := fun H Hd vs Qv st rr k => by
  obtain ⟨v, e1, a, xs, f1, f2, f3⟩ := one_rp rr
  subst e1 f1
  exact ⟨a, xs, rfl, .inl ⟨.of (st.sub _ _ f2), fun p hp => k _ _ (new_tup st f3 hp q)⟩⟩
theorem drc_tupleO {p : Addr} {l : List D} (g : getS p S = some l) (q : Q (.tup l) S) : DRC K (fun xs H Q => ∃ p ys, xs = [.ref p] ∧ ((SqL K H p ys ∧ ∀ l, H l = none → Q (.ref l) (upd H l (.tup ys))) ∨ (SqT K H p ys ∧ Q (.ref p) H))) [.raw (.ref p)] S Q := fun H Hd vs Qv st rr k => by
  obtain ⟨v, e1, f1⟩ := one_rp rr
  have f1 : v = V.ref p := f1
  subst e1 f1
  obtain ⟨_, xs, f2, f3⟩ := st.own.at g
  exact ⟨p, xs, rfl, .inl ⟨.of f2, fun p hp => k _ _ (new_tup st f3 hp q)⟩⟩
end

/-! ### repr -/
mutual
/-- data that is shown: ints of less than 1900 bits, plain texts, not too many things -/
def shoP : D → Prop
  | .int i => i.natAbs < 2 ^ 1900
  | .str x => (x.cps.toList.all fun c => decide (c < 16 ^ 8)) = true
  | .tup l => shoL l
  | .lst l => shoL l
  | .scr _ => False
  | .raw _ => False
  | .ext _ => False
  | .non => True
  | .bl _ => True
def shoL : List D → Prop
  | [] => True
  | d :: ds => shoP d ∧ shoL ds
end
theorem digits_le {i : Int} (h : i.natAbs < 2 ^ 1900) : ((PyData.shown (.int i)).length ≤ 1921) ∧ i.natAbs.log2 < 1920 := by
  have h2 : i.natAbs.log2 < 1920 := Nat.lt_of_lt_of_le (PySem.Flt.log2_lt_of (by decide) h) (by decide)
  exact ⟨int_text_len_1921 h2, h2⟩
mutual
/-- how many things -/
def bigD : D → Nat
  | .str x => x.cps.size
  | .tup l => bigL l
  | .lst l => bigL l
  | _ => 0
def bigL : List D → Nat
  | [] => 0
  | d :: ds => bigD d + 1 + bigL ds
end
section
variable {X : Cx}
end
end DL
namespace DL
open PySem PySem.Spec PyProof.Rows L2

/-! ### statements -/
structure Dn where
  nx : DEnv → Sto → Prop
  rt : D → Sto → Prop
  bk : DEnv → Sto → Prop := fun _ _ => False
  ct : DEnv → Sto → Prop := fun _ _ => False
structure Lift (K : PySem.W.Frag) (Hd : Hp) (Z : Dn) (De : Ends) : Prop where
  nx : ∀ en S σ H Hd', Same Hd Hd' → St0 K S Hd' H → RpE K Hd' en σ → Z.nx en S → De.nx σ H
  rt : ∀ d S v H Hd', Same Hd Hd' → St0 K S Hd' H → Rp K Hd' d v → Z.rt d S → De.rt v H
  bk : ∀ en S σ H Hd', Same Hd Hd' → St0 K S Hd' H → RpE K Hd' en σ → Z.bk en S → De.bk σ H
  ct : ∀ en S σ H Hd', Same Hd Hd' → St0 K S Hd' H → RpE K Hd' en σ → Z.ct en S → De.ct σ H
theorem Lift.up {K : PySem.W.Frag} {Hd Hd' : Hp} {Z : Dn} {De : Ends} (e : Same Hd Hd') (l : Lift K Hd Z De) : Lift K Hd' Z De :=
  ⟨fun en S σ H H2 k => l.nx en S σ H H2 (e.trans k), fun d S v H H2 k => l.rt d S v H H2 (e.trans k), fun en S σ H H2 k => l.bk en S σ H H2 (e.trans k), fun en S σ H H2 k => l.ct en S σ H H2 (e.trans k)⟩
structure DS1 (X : Cx) (st : Stmt) (en : DEnv) (S : Sto) (Z : Dn) : Prop where
  run : ∀ (σ : L2.St) (H Hd : Hp), St0 X.K S Hd H → RpE X.K Hd en σ → ∀ De : Ends, Lift X.K Hd Z De → wS X st De σ H
instance {X : Cx} {st : Stmt} {en : DEnv} {S : Sto} {Z : Dn} : CoeFun (DS1 X st en S Z) (fun _ => ∀ (σ : L2.St) (H Hd : Hp), St0 X.K S Hd H → RpE X.K Hd en σ → ∀ De : Ends, Lift X.K Hd Z De → wS X st De σ H) := ⟨fun h => h.run⟩
structure DS (X : Cx) (sts : List Stmt) (en : DEnv) (S : Sto) (Z : Dn) : Prop where
  run : ∀ (σ : L2.St) (H Hd : Hp), St0 X.K S Hd H → RpE X.K Hd en σ → ∀ De : Ends, Lift X.K Hd Z De → wSs X sts De σ H
instance {X : Cx} {sts : List Stmt} {en : DEnv} {S : Sto} {Z : Dn} : CoeFun (DS X sts en S Z) (fun _ => ∀ (σ : L2.St) (H Hd : Hp), St0 X.K S Hd H → RpE X.K Hd en σ → ∀ De : Ends, Lift X.K Hd Z De → wSs X sts De σ H) := ⟨fun h => h.run⟩
/-- a target takes data -/
structure DG (X : Cx) (tg : Expr) (d : D) (en : DEnv) (S : Sto) (N : DEnv → Sto → Prop) : Prop where
  run : ∀ (σ : L2.St) (H Hd : Hp) (v : V), St0 X.K S Hd H → RpE X.K Hd en σ → Rp X.K Hd d v →
  wG X tg v σ H fun σ' H' => ∃ en' S' Hd', Same Hd Hd' ∧ St0 X.K S' Hd' H' ∧ RpE X.K Hd' en' σ' ∧ N en' S'
instance {X : Cx} {tg : Expr} {d : D} {en : DEnv} {S : Sto} {N : DEnv → Sto → Prop} : CoeFun (DG X tg d en S N) (fun _ => ∀ (σ : L2.St) (H Hd : Hp) (v : V), St0 X.K S Hd H → RpE X.K Hd en σ → Rp X.K Hd d v →
  wG X tg v σ H fun σ' H' => ∃ en' S' Hd', Same Hd Hd' ∧ St0 X.K S' Hd' H' ∧ RpE X.K Hd' en' σ' ∧ N en' S') := ⟨fun h => h.run⟩
def wGs (X : Cx) (ts : List Expr) : TGs := fun vs σ H Q => ∀ pins s us, Inv X pins σ H s → Vals vs us →
  wpAny (model X.prog X.w) X.A (assignInOrder ((assignEach ts X.env).map (·.2)) us) (fun _ s' => ∃ σ' H', Inv X pins σ' H' s' ∧ Q σ' H') X.xe s
structure DGs (X : Cx) (ts : List Expr) (ds : List D) (en : DEnv) (S : Sto) (N : DEnv → Sto → Prop) : Prop where
  run : ∀ (σ : L2.St) (H Hd : Hp) (vs : List V), St0 X.K S Hd H → RpE X.K Hd en σ → RpL X.K Hd ds vs →
  wGs X ts vs σ H fun σ' H' => ∃ en' S' Hd', Same Hd Hd' ∧ St0 X.K S' Hd' H' ∧ RpE X.K Hd' en' σ' ∧ N en' S'
instance {X : Cx} {ts : List Expr} {ds : List D} {en : DEnv} {S : Sto} {N : DEnv → Sto → Prop} : CoeFun (DGs X ts ds en S N) (fun _ => ∀ (σ : L2.St) (H Hd : Hp) (vs : List V), St0 X.K S Hd H → RpE X.K Hd en σ → RpL X.K Hd ds vs →
  wGs X ts vs σ H fun σ' H' => ∃ en' S' Hd', Same Hd Hd' ∧ St0 X.K S' Hd' H' ∧ RpE X.K Hd' en' σ' ∧ N en' S') := ⟨fun h => h.run⟩
section
variable {X : Cx} {a b c e tg : Expr} {es ts : List Expr} {st : Stmt} {sts rest : List Stmt} {en en' : DEnv} {S : Sto} {Z : Dn} {N : DEnv → Sto → Prop} {pos pos' p2 : Pos} {x : Str} {d : D} {ds : List D}
theorem pgsW : PGs X ts (wGs X ts) := ⟨fun pins s _ _ vs us _ I r h => h pins s us I r⟩
theorem wGs_of {t : TGs} {vs : List V} {σ : L2.St} {H : Hp} {Q : L2.St → Hp → Prop} (h : PGs X ts t) (q : t vs σ H Q) : wGs X ts vs σ H Q := fun pins s us I r => h.run pins s σ H vs us Q I r q
theorem DG.mono {N' : DEnv → Sto → Prop} (h : DG X tg d en S N) (k : ∀ en' S', N en' S' → N' en' S') : DG X tg d en S N' := ⟨fun σ H Hd v st re r =>
  wG_mono (h σ H Hd v st re r) fun _ _ ⟨en', S', Hd', z1, z2, z3, q⟩ => ⟨en', S', Hd', z1, z2, z3, k _ _ q⟩⟩
theorem ds_nil (q : Z.nx en S) : DS X [] en S Z := ⟨fun σ H Hd st re De l => wSs_of pss_nil (l.nx en S σ H Hd (Same.refl _) st re q)⟩
theorem ds_cons (h : DS1 X st en S { Z with nx := fun en' S' => DS X rest en' S' Z }) : DS X (st :: rest) en S Z := ⟨fun σ H Hd s0 re De l => by
  refine wSs_of (pss_cons psW pssW) ?_
  exact h σ H Hd s0 re _ ⟨fun en' S' σ' H' Hd' z1 z2 z3 q => q σ' H' Hd' z2 z3 De (l.up z1), l.rt, l.bk, l.ct⟩⟩
/-- a changed list is changed no more -/
theorem ds_freeze (i : Nat) {p : Addr} {l : List D} {S' : Sto} (he : en[i]? = some (some (.raw (.ref p))) := by rfl) (h : DS X sts (en.set i (some (.lst l))) S' Z) (hS : S = (p, l) :: S' := by rfl) : DS X sts en S Z := ⟨fun σ H Hd st re De lf => by
  subst hS
  obtain ⟨xs, r, e1, st'⟩ := st.frozen
  obtain ⟨v, e2, rv⟩ := re.get he
  have rv : v = V.ref p := rv
  subst rv
  have re' : RpE X.K (upd Hd p (.lst xs)) (en.set i (some (.lst l))) (σ.set i (some (.ref p))) := (re.mono e1).set (d := .lst l) ⟨p, xs, rfl, upd_same, r.mono e1⟩ i
  have es : σ.set i (some (.ref p)) = σ := by
    have hi := List.getElem?_eq_some_iff.mp e2
    obtain ⟨h1, h2⟩ := hi
    rw [← h2]
    exact List.set_getElem_self h1
  rw [es] at re'
  exact h σ H _ st' re' De (lf.up e1)⟩
/-- a changed list is forgotten -/
theorem ds_forget {p : Addr} {l : List D} {S' : Sto} (h : DS X sts en S' Z) (hS : S = (p, l) :: S' := by rfl) : DS X sts en S Z := ⟨fun σ H Hd st re De lf => by
  subst hS
  exact h σ H Hd st.drop re De lf⟩
/-! ### targets -/
theorem dg_name (i : Nat) {en' : DEnv} (q : N en' S) (hN : X.N.Nodup) (hi : X.N[i]? = some x := by rfl) (hx : Loc X.env.scope x := by first | exact Or.inl rfl | exact Or.inr rfl)
    (hf : X.fn x = true ∨ X.env.scope.names.lookup x = some .local := by first | exact .inl rfl | exact .inr rfl) (he : en.set i (some d) = en' := by set_option simprocs false in dsimp only [List.set]) : DG X (.Name x pos) d en S N := ⟨fun σ H Hd v st re r =>
  wG_of (pg_name hN hi hx hf) ⟨_, S, Hd, Same.refl _, st, re.set r i, by rw [he]; exact q⟩⟩
/-- the slots written out -/
theorem ds_nrm {en' : DEnv} (h : DS X sts en' S Z) (he : en = en' := by set_option simprocs false in dsimp only [List.set]) : DS X sts en S Z := by
  rw [he]
  exact h
theorem dgs_nil (q : N en S) : DGs X [] [] en S N := ⟨fun σ H Hd vs st re r => wGs_of pgs_nil ⟨r, en, S, Hd, Same.refl _, st, re, q⟩⟩
theorem dgs_cons (h : DG X e d en S fun en1 S1 => DGs X es ds en1 S1 N) (hs : (assignEach (e :: es) X.env).map (·.2) = assign e X.env :: (assignEach es X.env).map (·.2) := by rfl) : DGs X (e :: es) (d :: ds) en S N := ⟨fun σ H Hd vs st re r => by
  obtain ⟨v, vr, e1, r1, r2⟩ := r
  subst e1
  refine wGs_of (pgs_cons pgW pgsW hs) ⟨v, vr, rfl, ?_⟩
  refine wG_mono (h σ H Hd v st re r1) fun σ1 H1 ⟨en1, S1, Hd1, z1, z2, z3, q⟩ => ?_
  intro pins s us I rr
  refine thn (q σ1 H1 Hd1 vr z2 z3 (r2.mono z1) pins s us I rr) fun _ s2 ⟨σ2, H2, I2, en2, S2, Hd2, y1, y2, y3, y4⟩ => ⟨σ2, H2, I2, en2, S2, Hd2, z1.trans y1, y2, y3, y4⟩⟩
theorem dg_tup {k : Nat} {n : Nat} (hc : X.calm = true) (hl : ds.length = n) (h : DGs X es ds en S N) (hn : (assignEach es X.env).length = n := by rfl) (hst : (assignEach es X.env).findIdx? (·.1) = none := by rfl) : DG X (.Tuple es k pos) (.tup ds) en S N := ⟨fun σ H Hd v st re r => by
  obtain ⟨a, xs, e1, e2, e3⟩ := r
  subst e1
  exact wG_of (pg_tup hc pgsW hn hst) ⟨a, xs, rfl, same_t st.sub e2, by rw [e3.length]; exact hl, h σ H Hd xs st re e3⟩⟩
theorem dg_tupL {k : Nat} {n : Nat} (hc : X.calm = true) (hl : ds.length = n) (h : DGs X es ds en S N) (pl : ∀ {t : TGs}, PGs X es t → PG X (.Tuple es k pos) (gLst X.K n t)) : DG X (.Tuple es k pos) (.lst ds) en S N := ⟨fun σ H Hd v st re r => by
  obtain ⟨a, xs, e1, e2, e3⟩ := r
  subst e1
  exact wG_of (pl pgsW) ⟨a, xs, rfl, .of (st.sub _ _ e2), by rw [e3.length]; exact hl, h σ H Hd xs st re e3⟩⟩
/-- xs[i] = .., a changed list -/
theorem dg_sub (h : DE X a en S fun o S1 => DE X b en S1 fun i S2 => ∃ (p : Addr) (k : Int) (l : List D) (j : Nat), o = .raw (.ref p) ∧ i = .int k ∧ getS p S2 = some l ∧ ixN l.length k = some j ∧ N en (setS p (l.set j d) S2))
    (ha : ∀ v, assign (.Subscript a b pos) X.env v = (do
      let ov ← holding [v] (eval a X.env)
      let iv ← holding [v, ov] (eval b X.env)
      standAt pos
      holding [v, ov, iv] (setItem ov iv v)
      release [v, ov, iv] []) := by intro _; rfl) : DG X (.Subscript a b pos) d en S N := ⟨fun σ H Hd v st re r => by
  refine wG_of (pg_sub peW peW set_list ha) ?_
  refine wE_mono (h σ H Hd st re) fun o H1 ⟨od, S1, Hd1, e1, st1, r1, q1⟩ => ?_
  refine wE_mono (q1 σ H1 Hd1 st1 (re.mono e1)) fun i H2 ⟨idd, S2, Hd2, e2, st2, r2, p, k, l, j, f1, f2, g, hj, q⟩ => ?_
  subst f1 f2
  have r1 : o = V.ref p := r1
  have r2 : i = V.int k := r2
  subst r1 r2
  obtain ⟨hd, xs, hx, rx⟩ := st2.own.at g
  have e12 := e1.trans e2
  refine ⟨p, xs, k, j, rfl, rfl, hx, by rw [rx.length]; exact hj, ?_⟩
  exact ⟨en, _, Hd2, e12, st2.written g (RpL.set (Rp.mono e12 d v r) j rx), re.mono e12, q⟩⟩
/-! ### assignments, return, if -/
theorem ds_asg (h : DE X e en S fun d S1 => DG X tg d en S1 Z.nx) (hs : swapsWithSole [tg] e pos.line X.env = pure false := by first | exact sws1 rfl | exact sw0 rfl | rfl) (hw : swappedStores [tg] e X.env = pure none := by first | exact sst rfl | rfl)
    (h1 : (assignEach [tg] X.env).map (·.2) = [assign tg X.env] := by rfl) : DS1 X (.Assign [tg] e pos) en S Z := ⟨fun σ H Hd st re De l => by
  refine wS_of (ps_asg peW pgW hs hw h1) ?_
  refine wE_mono (h σ H Hd st re) fun v H1 ⟨d, S1, Hd1, e1, st1, r1, q⟩ => ?_
  refine wG_mono (q σ H1 Hd1 v st1 (re.mono e1) r1) fun σ2 H2 ⟨en2, S2, Hd2, z1, z2, z3, z4⟩ => ?_
  exact l.nx en2 S2 σ2 H2 Hd2 (e1.trans z1) z2 z3 z4⟩
/-- a, b = x, y -/
theorem ds_par {i j : Nat} {y : Str} {px py pt : Pos} {kt k2 pt2} (hc : X.calm = true) (hN : X.N.Nodup) (hi : X.N[i]? = some x) (hj : X.N[j]? = some y) (hij : i ≠ j) (h : DA X [a, b] en S fun vs S1 => ∃ v w, vs = [v, w] ∧ Z.nx ((en.set i (some v)).set j (some w)) S1)
    (hx : X.env.scope.names.lookup x = some .local := by rfl) (hy : X.env.scope.names.lookup y = some .local := by rfl)
    (hw : swappedStores [.Tuple [.Name x px, .Name y py] kt pt] (.Tuple [a, b] k2 pt2) X.env = pure (some [x, y]) := by rfl)
    (hs : swapsWithSole [.Tuple [.Name x px, .Name y py] kt pt] (.Tuple [a, b] k2 pt2) pos.line X.env = pure false := by first | exact sws1 rfl | exact sw0 rfl | rfl) : DS1 X (.Assign [.Tuple [.Name x px, .Name y py] kt pt] (.Tuple [a, b] k2 pt2) pos) en S Z := ⟨fun σ H Hd st re De l => by
  refine wS_of (ps_par hc hN hi hj hij hx hy paW hw hs) ?_
  refine wA_mono (h σ H Hd st re) fun vs H1 ⟨ds, S1, Hd1, e1, st1, r1, v, w, e2, q⟩ => ?_
  subst e2
  obtain ⟨v1, w1, e3, rv, rw'⟩ := two_rp r1
  exact ⟨v1, w1, e3, l.nx _ S1 _ H1 Hd1 e1 st1 (((re.mono e1).set rv i).set rw' j) q⟩⟩
theorem ds_ret (h : DE X e en S Z.rt) : DS1 X (.Return (some e) pos) en S Z := ⟨fun σ H Hd st re De l =>
  wS_of (ps_ret peW) (wE_mono (h σ H Hd st re) fun v H1 ⟨d, S1, Hd1, e1, st1, r1, q⟩ => l.rt d S1 v H1 Hd1 e1 st1 r1 q)⟩
theorem ds_if {s1 s2 : List Stmt} (h : DT X c en S fun t S1 => (t = true → DS X s1 en S1 Z) ∧ (t = false → DS X s2 en S1 Z)) : DS1 X (.If c s1 s2 pos) en S Z := ⟨fun σ H Hd st re De l => by
  refine wS_of (ps_if ptW pssW pssW) ?_
  refine wT_mono (h σ H Hd st re) fun t H1 ⟨S1, Hd1, e1, st1, q1, q2⟩ => ?_
  cases t with
  | true =>
    rw [if_pos rfl]
    exact q1 rfl σ H1 Hd1 st1 (re.mono e1) De (l.up e1)
  | false =>
    rw [if_neg Bool.false_ne_true]
    exact q2 rfl σ H1 Hd1 st1 (re.mono e1) De (l.up e1)⟩
theorem ds_expr (h : DE X e en S fun _ S1 => Z.nx en S1) (hs : swapsWith e none pos.line X.env = pure false := by first | exact sws1 rfl | exact sw0 rfl | rfl) : DS1 X (.Expr e pos) en S Z := ⟨fun σ H Hd st re De l =>
  wS_of (ps_expr peW hs) (wE_mono (h σ H Hd st re) fun v H1 ⟨d, S1, Hd1, e1, st1, r1, q⟩ => l.nx en S1 σ H1 Hd1 e1 st1 (re.mono e1) q)⟩
/-- xs.append(e) -/
theorem de_append {o : Expr} {apos cpos : Pos} {Q : D → Sto → Prop} (h : DE X o en S fun d S1 => ∃ p l, d = .raw (.ref p) ∧ getS p S1 = some l ∧ DA X [e] en S1 fun vs S2 => ∃ v l, vs = [v] ∧ getS p S2 = some l ∧ l.length < 100000 ∧ Q .non (setS p (l ++ [v]) S2))
    (mk : ∀ {to : TE} {t : TA}, PE X o to → PA X [e] t → PE X (.Call (.Attribute o "append" apos) [e] [] cpos) (tBM X.K "list" rAppend to t) := by
      exact fun ho ha => pe_bm PySem.F.plainAttrs_list PySem.F.slot_list_append PySem.F.type_list_append mt_append ho ha) : DE X (.Call (.Attribute o "append" apos) [e] [] cpos) en S Q := ⟨fun σ H Hd st re => by
  refine wE_of (mk peW paW) ?_
  refine wE_mono (h σ H Hd st re) fun o' H1 ⟨d, S1, Hd1, e1, st1, r1, p, l, f1, g, q⟩ => ?_
  subst f1
  have r1 : o' = V.ref p := r1
  subst r1
  obtain ⟨_, xs, hx, _⟩ := st1.own.at g
  refine ⟨.inl ⟨rfl, xs, .of hx⟩, ?_⟩
  refine wA_mono (q σ H1 Hd1 st1 (re.mono e1)) fun vs H2 ⟨ds, S2, Hd2, e2, st2, r2, v, l2, f2, g2, n2, q2⟩ => ?_
  subst f2
  obtain ⟨v1, f3, rv⟩ := one_rp r2
  subst f3
  obtain ⟨_, ys, hy, ry⟩ := st2.own.at g2
  have ln : ys.length < sizeLine := by
    rw [ry.length]
    exact Nat.lt_of_lt_of_le n2 (by decide)
  refine ⟨p, ys, v1, rfl, rfl, hy, ln, ?_⟩
  exact ⟨.non, _, Hd2, e1.trans e2, st2.written g2 (ry.append (show RpL X.K Hd2 [v] [v1] from ⟨v1, [], rfl, rv, rfl⟩)), rfl, q2⟩⟩
end

/-! ### loops -/
/-- the iterator yields these data, one after another -/
structure ItOk (K : PySem.W.Frag) (Hd : Hp) (J : It) (ds : List D) : Prop where
  go : ∀ {Hd' H : Hp} {S : Sto} {i : Nat} {d : D}, Same Hd Hd' → St0 K S Hd' H → ds[i]? = some d → J.go i H ∧ ∀ x H', J.yld i H x H' → ∃ Hd2, Same Hd' Hd2 ∧ St0 K S Hd2 H' ∧ Rp K Hd2 d x
  stop : ∀ {Hd' H : Hp} {S : Sto}, Same Hd Hd' → St0 K S Hd' H → J.stop ds.length H
def wI (X : Cx) (tg iter : Expr) : TI := fun σ H R => ∀ pins s, Inv X pins σ H s →
  wpAny (model X.prog X.w) X.A (eval iter X.env) (fun v s1 => wpAny (model X.prog X.w) X.A (pyIter v) (PIE X pins σ tg R) X.xe s1) X.xe s
structure DI (X : Cx) (tg iter : Expr) (en : DEnv) (S : Sto) (R : List D → Sto → Prop) : Prop where
  run : ∀ (σ : L2.St) (H Hd : Hp), St0 X.K S Hd H → RpE X.K Hd en σ →
  wI X tg iter σ H fun J H' => ∃ ds S' Hd', Same Hd Hd' ∧ St0 X.K S' Hd' H' ∧ ItOk X.K Hd' J ds ∧ R ds S'
instance {X : Cx} {tg iter : Expr} {en : DEnv} {S : Sto} {R : List D → Sto → Prop} : CoeFun (DI X tg iter en S R) (fun _ => ∀ (σ : L2.St) (H Hd : Hp), St0 X.K S Hd H → RpE X.K Hd en σ →
  wI X tg iter σ H fun J H' => ∃ ds S' Hd', Same Hd Hd' ∧ St0 X.K S' Hd' H' ∧ ItOk X.K Hd' J ds ∧ R ds S') := ⟨fun h => h.run⟩
section
variable {X : Cx} {a b c e tg iter : Expr} {es ts : List Expr} {st : Stmt} {sts rest body : List Stmt} {en en' : DEnv} {S : Sto} {Z : Dn} {N : DEnv → Sto → Prop} {pos pos' p2 p : Pos} {x : Str} {d : D} {ds : List D} {R : List D → Sto → Prop}
theorem piW : PI X tg iter (wI X tg iter) := ⟨fun pins s _ _ _ I h => h pins s I⟩
theorem wI_of {t : TI} {σ : L2.St} {H : Hp} {Q : It → Hp → Prop} (h : PI X tg iter t) (q : t σ H Q) : wI X tg iter σ H Q := fun pins s I => h.run pins s σ H Q I q
theorem it_list {K : PySem.W.Frag} {Hd : Hp} {a : Addr} {xs : List V} (h : SqL K Hd a xs) (r : RpL K Hd ds xs) (inj : ∀ {H : Hp} {ys zs : List V}, SqL K H a ys → SqL K H a zs → True) : ItOk K Hd (Itl K a) ds where
  go := fun {Hd' H S i d} e st hi => by
    obtain ⟨v, hv, rv⟩ := r.get hi
    have hs := same_l (e.trans st.sub) h
    refine ⟨⟨xs, v, hs, hv⟩, fun x H' y => ?_⟩
    obtain ⟨e1, y⟩ := y
    subst e1
    have q := y xs hs
    rw [hv] at q
    cases q
    exact ⟨Hd', Same.refl _, st, Rp.mono e d v rv⟩
  stop := fun {Hd' H S} e st => ⟨xs, same_l (e.trans st.sub) h, by rw [r.length]; exact Nat.le_refl _⟩
theorem it_tup {K : PySem.W.Frag} {Hd : Hp} {a : Addr} {xs : List V} (h : SqT K Hd a xs) (r : RpL K Hd ds xs) : ItOk K Hd (Itt K a) ds where
  go := fun {Hd' H S i d} e st hi => by
    obtain ⟨v, hv, rv⟩ := r.get hi
    have hs := same_t (e.trans st.sub) h
    refine ⟨⟨xs, v, hs, hv⟩, fun x H' y => ?_⟩
    obtain ⟨e1, y⟩ := y
    subst e1
    have q := y xs hs
    rw [hv] at q
    cases q
    exact ⟨Hd', Same.refl _, st, Rp.mono e d v rv⟩
  stop := fun {Hd' H S} e st => ⟨xs, same_t (e.trans st.sub) h, by rw [r.length]; exact Nat.le_refl _⟩
def rngD (lo : Int) (n : Nat) : List D := (List.range n).map fun i => D.int (lo + (i : Nat))
theorem rngD_len {lo : Int} {n : Nat} : (rngD lo n).length = n := by unfold rngD; simp
theorem rngD_get {lo : Int} {n i : Nat} {d : D} (h : (rngD lo n)[i]? = some d) : i < n ∧ d = .int (lo + (i : Nat)) := by
  have hi : i < n := by
    have := (List.getElem?_eq_some_iff.mp h).1
    rw [rngD_len] at this
    exact this
  refine ⟨hi, ?_⟩
  unfold rngD at h
  rw [List.getElem?_map, List.getElem?_range hi] at h
  exact (Option.some.inj h).symm
theorem it_rng {K : PySem.W.Frag} {Hd : Hp} {lo : Int} {n : Nat} : ItOk K Hd (Itr lo n) (rngD lo n) where
  go := fun {Hd' H S i d} e st hi => by
    obtain ⟨h1, h2⟩ := rngD_get hi
    subst h2
    refine ⟨h1, fun x H' y => ?_⟩
    obtain ⟨e1, e2⟩ := y
    subst e1 e2
    exact ⟨Hd', Same.refl _, st, rfl⟩
  stop := fun {Hd' H S} e st => by
    show n ≤ (rngD lo n).length
    rw [rngD_len]
    exact Nat.le_refl _
def enuD (ds : List D) : List D := ds.mapIdx fun i d => D.tup [.int (i : Nat), d]
theorem enuD_get {i : Nat} {d : D} (h : (enuD ds)[i]? = some d) : ∃ x, ds[i]? = some x ∧ d = .tup [.int (i : Nat), x] := by
  unfold enuD at h
  rw [List.getElem?_mapIdx] at h
  cases q : ds[i]? with
  | none => rw [q] at h; cases h
  | some x =>
    rw [q] at h
    exact ⟨x, rfl, (Option.some.inj h).symm⟩
theorem it_enu {K : PySem.W.Frag} {Hd : Hp} {a : Addr} {xs : List V} (h : SqL K Hd a xs) (r : RpL K Hd ds xs) : ItOk K Hd (Ite K a) (enuD ds) where
  go := fun {Hd' H S i d} e st hi => by
    obtain ⟨z, hz, ez⟩ := enuD_get hi
    subst ez
    obtain ⟨v, hv, rv⟩ := r.get hz
    have hs := same_l (e.trans st.sub) h
    refine ⟨⟨xs, v, hs, hv⟩, fun x H' y => ?_⟩
    obtain ⟨T, w, e1, hT, e2, y⟩ := y
    subst e1 e2
    have q := y xs hs
    rw [hv] at q
    cases q
    obtain ⟨k1, k2⟩ := st.laid (o := .tup [.int (i : Nat), v]) hT
    exact ⟨_, k1, k2, T, _, rfl, SqT.of upd_same, ⟨_, _, rfl, rfl, _, _, rfl, Rp.mono (e.trans k1) z v rv, rfl⟩⟩
  stop := fun {Hd' H S} e st => by
    refine ⟨xs, same_l (e.trans st.sub) h, ?_⟩
    rw [r.length]
    unfold enuD
    simp
theorem di_lst (h : DE X iter en S fun d S1 => ∃ l, d = .lst l ∧ R l S1) : DI X tg iter en S R := ⟨fun σ H Hd st re => by
  refine wI_of (pi_list peW) ?_
  refine wE_mono (h σ H Hd st re) fun v H1 ⟨d, S1, Hd1, e1, st1, r1, l, e2, q⟩ => ?_
  subst e2
  obtain ⟨a, xs, f1, f2, f3⟩ := r1
  exact ⟨a, f1, ⟨xs, .of (st1.sub _ _ f2)⟩, l, S1, Hd1, e1, st1, it_list (.of f2) f3 (fun _ _ => trivial), q⟩⟩
theorem di_tup (h : DE X iter en S fun d S1 => ∃ l, d = .tup l ∧ R l S1) : DI X tg iter en S R := ⟨fun σ H Hd st re => by
  refine wI_of (pi_tup peW) ?_
  refine wE_mono (h σ H Hd st re) fun v H1 ⟨d, S1, Hd1, e1, st1, r1, l, e2, q⟩ => ?_
  subst e2
  obtain ⟨a, xs, f1, f2, f3⟩ := r1
  exact ⟨a, f1, ⟨xs, same_t st1.sub f2⟩, l, S1, Hd1, e1, st1, it_tup f2 f3, q⟩⟩
theorem di_rng1 (hm : X.mg "range" = none) (h : DA X [a] en S fun ds S1 => ∃ n : Int, ds = [.int n] ∧ (-(2 ^ 62) ≤ n ∧ n < 2 ^ 62) ∧ R (rngD 0 n.toNat) S1) (hg : Gl X "range" := by rfl) (hs : starEach [a] X.env = [(false, eval a X.env)] := by rfl) : DI X tg (.Call (.Name "range" p) [a] [] pos) en S R := ⟨fun σ H Hd st re => by
  refine wI_of (pi_range1 hg hm paW hs) ?_
  refine wA_mono (h σ H Hd st re) fun vs H1 ⟨ds, S1, Hd1, e1, st1, r1, n, e2, ⟨n1, n2⟩, q⟩ => ?_
  subst e2
  obtain ⟨v, f1, rv⟩ := one_rp r1
  have rv : v = V.int n := rv
  subst f1 rv
  exact ⟨n, rfl, n1, n2, _, S1, Hd1, e1, st1, it_rng, q⟩⟩
theorem di_enum {elts : List Expr} {kk : Nat} {tpos : Pos} (hm : X.mg "enumerate" = none) (h : DA X [e] en S fun ds S1 => ∃ l, ds = [.lst l] ∧ R (enuD l) S1) (hg : Gl X "enumerate" := by rfl) (hs : starEach [e] X.env = [(false, eval e X.env)] := by rfl) :
    DI X (.Tuple elts kk tpos) (.Call (.Name "enumerate" p) [e] [] pos) en S R := ⟨fun σ H Hd st re => by
  refine wI_of (pi_enum hg hm paW hs) ?_
  refine wA_mono (h σ H Hd st re) fun vs H1 ⟨ds, S1, Hd1, e1, st1, r1, l, e2, q⟩ => ?_
  subst e2
  obtain ⟨v, f1, a, xs, f2, f3, f4⟩ := one_rp r1
  subst f1 f2
  exact ⟨a, xs, rfl, .of (st1.sub _ _ f3), _, S1, Hd1, e1, st1, it_enu (.of f3) f4, q⟩⟩
/-- THE LOOP: E g, what is known of the slots; P i g, what holds ahead of turn i; g is yours -/
theorem ds_for {γ : Type} (hp : PassesOwn (model X.prog X.w) X.A X.env X.xe) (hc : X.calm = true)
    (h : DI X tg iter en S fun ds S1 => ∃ (E : γ → DEnv) (P : Nat → γ → Sto → Prop) (g0 : γ), Wk en (E g0) ∧ P 0 g0 S1 ∧
      (∀ i d g S', ds[i]? = some d → P i g S' → DG X tg d (E g) S' fun en2 S2 => DS X body en2 S2 { nx := fun en3 S3 => ∃ g', Wk en3 (E g') ∧ P (i + 1) g' S3, rt := Z.rt, ct := fun en3 S3 => ∃ g', Wk en3 (E g') ∧ P (i + 1) g' S3, bk := Z.nx }) ∧
      ∀ g S', P ds.length g S' → Z.nx (E g) S') (hs : ∀ x, foldedSetIterable iter X.env x = pure x := by first | exact fset rfl | (intro _; rfl)) : DS1 X (.For tg iter body [] pos) en S Z := ⟨fun σ H Hd st re De l => by
  refine wS_of (ps_for hp hc piW pgW pssW hs) ?_
  intro pins s I
  refine thn (h σ H Hd st re pins s I) fun v s1 h1 => thn h1 fun itv s2 h2 => ?_
  obtain ⟨it, fp, tn, J, H2, e, I2, T, st2, f2, ds, S1, Hd1, e1, s01, io, E, P, g0, wk, p0, turn, fin⟩ := h2
  refine ⟨it, fp, tn, J, H2, e, I2, T, st2, f2, ?_⟩
  refine ⟨fun i m σ H => m = ds.length - i ∧ i ≤ ds.length ∧ ∃ g S' Hd', Same Hd1 Hd' ∧ St0 X.K S' Hd' H ∧ RpE X.K Hd' (E g) σ ∧ P i g S', ⟨_, rfl, Nat.zero_le _, g0, S1, Hd1, Same.refl _, s01, wk.use (re.mono e1), p0⟩, ?_⟩
  rintro i m σ H ⟨rfl, hi, g, S', Hd', k1, k2, k3, k4⟩
  by_cases hlt : i < ds.length
  · obtain ⟨go, yl⟩ := io.go k1 k2 (List.getElem?_eq_getElem hlt)
    refine .inr ⟨go, fun σ' H' => ∃ g S' Hd', Same Hd1 Hd' ∧ St0 X.K S' Hd' H' ∧ RpE X.K Hd' (E g) σ' ∧ P (i + 1) g S', fun σ' H' q => ⟨ds.length - (i + 1), by omega, rfl, hlt, q⟩, fun x H' y => ?_⟩
    obtain ⟨Hd2, y1, y2, y3⟩ := yl x H' y
    refine wG_mono (turn i _ g S' (List.getElem?_eq_getElem hlt) k4 σ H' Hd2 x y2 (k3.mono y1) y3) fun σ4 H4 ⟨en4, S4, Hd4, z1, z2, z3, z4⟩ => ?_
    have up : Same Hd1 Hd4 := k1.trans (y1.trans z1)
    exact z4 σ4 H4 Hd4 z2 z3 _ ⟨fun en5 S5 σ5 H5 Hd5 w1 w2 w3 ⟨g', w4, w5⟩ => ⟨g', S5, Hd5, up.trans w1, w2, w4.use w3, w5⟩, fun d5 S5 v5 H5 Hd5 w1 => l.rt d5 S5 v5 H5 Hd5 (e1.trans (up.trans w1)),
      fun en5 S5 σ5 H5 Hd5 w1 => l.nx en5 S5 σ5 H5 Hd5 (e1.trans (up.trans w1)), fun en5 S5 σ5 H5 Hd5 w1 w2 w3 ⟨g', w4, w5⟩ => ⟨g', S5, Hd5, up.trans w1, w2, w4.use w3, w5⟩⟩
  · have e0 : i = ds.length := by omega
    subst e0
    exact .inl ⟨io.stop k1 k2, l.nx (E g) S' σ H Hd' (e1.trans k1) k2 k3 (fin g S' k4)⟩⟩
/-- a while: μ falls at each turn -/
theorem ds_while {γ : Type} (hp : PassesOwn (model X.prog X.w) X.A X.env X.xe) (E : γ → DEnv) (P : γ → Sto → Prop) (μ : γ → Nat) (g0 : γ) (w0 : Wk en (E g0)) (p0 : P g0 S)
    (h : ∀ g S', P g S' → DT X c (E g) S' fun t S1 => (t = true → DS X body (E g) S1 { nx := fun en3 S3 => ∃ g', Wk en3 (E g') ∧ P g' S3 ∧ μ g' < μ g, rt := Z.rt, ct := fun en3 S3 => ∃ g', Wk en3 (E g') ∧ P g' S3 ∧ μ g' < μ g, bk := Z.nx }) ∧ (t = false → Z.nx (E g) S1)) :
    DS1 X (.While c body [] pos) en S Z := ⟨fun σ H Hd st re De l => by
  refine wS_of (ps_while hp ptW pssW) ?_
  refine ⟨fun m σ H => ∃ g S' Hd', Same Hd Hd' ∧ St0 X.K S' Hd' H ∧ RpE X.K Hd' (E g) σ ∧ P g S' ∧ m = μ g, ⟨_, g0, S, Hd, Same.refl _, st, w0.use re, p0, rfl⟩, ?_⟩
  rintro m σ H ⟨g, S', Hd', k1, k2, k3, k4, rfl⟩
  refine wT_mono (h g S' k4 σ H Hd' k2 k3) fun t H1 ⟨S1, Hd1, e1, st1, q1, q2⟩ => ?_
  cases t with
  | false =>
    rw [if_neg Bool.false_ne_true]
    exact l.nx (E g) S1 σ H1 Hd1 (k1.trans e1) st1 (k3.mono e1) (q2 rfl)
  | true =>
    rw [if_pos rfl]
    refine ⟨fun σ' H' => ∃ g' S' Hd', Same Hd Hd' ∧ St0 X.K S' Hd' H' ∧ RpE X.K Hd' (E g') σ' ∧ P g' S' ∧ μ g' < μ g, fun σ' H' ⟨g', S', Hd', z1, z2, z3, z4, z5⟩ => ⟨μ g', z5, g', S', Hd', z1, z2, z3, z4, rfl⟩, ?_⟩
    have up := k1.trans e1
    exact q1 rfl σ H1 Hd1 st1 (k3.mono e1) _ ⟨fun en5 S5 σ5 H5 Hd5 w1 w2 w3 ⟨g', w4, w5, w6⟩ => ⟨g', S5, Hd5, up.trans w1, w2, w4.use w3, w5, w6⟩, fun d5 S5 v5 H5 Hd5 w1 => l.rt d5 S5 v5 H5 Hd5 (up.trans w1),
      fun en5 S5 σ5 H5 Hd5 w1 => l.nx en5 S5 σ5 H5 Hd5 (up.trans w1), fun en5 S5 σ5 H5 Hd5 w1 w2 w3 ⟨g', w4, w5, w6⟩ => ⟨g', S5, Hd5, up.trans w1, w2, w4.use w3, w5, w6⟩⟩⟩
end
end DL
namespace DL
open PySem PySem.Spec PyProof.Rows L2

/-! ### comprehensions -/
theorem RpE.reset {K : PySem.W.Frag} {H : Hp} {d : D} {v : V} {en : DEnv} {σ : L2.St} (i : Nat) (h : RpE K H en σ) (r : Rp K H d v) : RpE K H (en.set i (some d)) ((wipe σ [i]).set i (some v)) := by
  have e : (wipe σ [i]).set i (some v) = σ.set i (some v) := by
    show (σ.set i none).set i (some v) = _
    rw [List.set_set]
  rw [e]
  exact h.set r i
theorem wipe_back {σ : L2.St} {i : Nat} {v : V} : wipe ((wipe σ [i]).set i (some v)) [i] = wipe σ [i] := by
  show ((σ.set i none).set i (some v)).set i none = σ.set i none
  rw [List.set_set, List.set_set]
section
variable {X : Cx} {elt iter c : Expr} {en : DEnv} {S : Sto} {Q : D → Sto → Prop} {pos py : Pos} {y : Str} {scope : Scope}
/-- the block of a comprehension -/
abbrev bX (X : Cx) (scope : Scope) (s : Shared) (H : Hp) (C : Addr) (cl : List (Str × Addr)) (fp : List Addr) : Cx := X.blk s H scope (compEnvC scope cl C X.env) fp
/-- one turn's item: the element's data behind the items so far -/
def Turn1 (X : Cx) (scope : Scope) (elt : Expr) (en : DEnv) (S : Sto) (p : Addr) (acc : List D) (N : List D → Sto → Prop) : Prop :=
  ∀ s H C cl fp, DE (bX X scope s H C cl fp) elt en ((p, acc) :: S) fun d S2 => ∃ S3, S2 = (p, acc) :: S3 ∧ N (acc ++ [d]) S3
theorem pe_blk (te : TE) (h : te = fun σ H Q => ∀ s0 H0 C cl fp, wE (bX X scope s0 H0 C cl fp) elt σ H Q) : ∀ (s : Shared) (H : Hp) (C : Addr) (cl : List (Str × Addr)) (fp : List Addr), PE (bX X scope s H C cl fp) elt te := fun s0 H0 C cl fp => by
  subst h
  exact ⟨fun pins s _ _ _ I q => q s0 H0 C cl fp pins s I⟩
theorem pt_blk (tt : TT) (h : tt = fun σ H Q => ∀ s0 H0 C cl fp, wT (bX X scope s0 H0 C cl fp) c σ H Q) : ∀ (s : Shared) (H : Hp) (C : Addr) (cl : List (Str × Addr)) (fp : List Addr), PT (bX X scope s H C cl fp) c tt := fun s0 H0 C cl fp => by
  subst h
  exact ⟨fun pins s _ _ _ I q => q s0 H0 C cl fp pins s I⟩
variable {ifs : List Expr} {tt : TT}
/-- the comprehension's walk, whatever its tests -/
theorem lc_go (i : Nat) (te : TE) {own : List Nat} (ho : own = [i]) (mT : ∀ (σ : L2.St) (H : Hp) (A B : Bool → Hp → Prop), tt σ H A → (∀ b H', A b H' → B b H') → tt σ H B) (mE : ∀ (σ : L2.St) (H : Hp) (A B : VK), te σ H A → (∀ v H', A v H' → B v H') → te σ H B)
    (h : DI X (.Name y py) iter en S fun ds S1 => ∃ (P : Nat → List D → Sto → Prop), P 0 [] S1 ∧
      (∀ k d acc S' p, ds[k]? = some d → P k acc S' → getS p S' = none → acc.length ≤ k → ∀ (σ : L2.St) (H Hd : Hp), St0 X.K ((p, acc) :: S') Hd H → RpE X.K Hd (en.set i (some d)) σ →
        tt σ H fun b H3 => if b = true then te σ H3 fun v H4 => ∃ d2 S4 Hd4, Same Hd Hd4 ∧ St0 X.K ((p, acc) :: S4) Hd4 H4 ∧ Rp X.K Hd4 d2 v ∧ P (k + 1) (acc ++ [d2]) S4 else ∃ S4 Hd4, Same Hd Hd4 ∧ St0 X.K ((p, acc) :: S4) Hd4 H3 ∧ P (k + 1) acc S4) ∧
      ds.length ≤ 100000 ∧ ∀ acc S', acc.length ≤ ds.length → P ds.length acc S' → Q (.lst acc) S') {σ : L2.St} {H Hd : Hp} (st : St0 X.K S Hd H) (re : RpE X.K Hd en σ) (Qv : VK) (kq : ∀ v H', QD X.K Hd Q v H' → Qv v H') : tLc (wI X (.Name y py) iter) (gName i) tt te own σ H Qv := by
  subst ho
  intro pins s I
  refine thn (DI.run h σ H Hd st re pins s I) fun v s1 h1 => thn h1 fun itv s2 h2 => ?_
  obtain ⟨it, fp, tn, J, H2, e, I2, T, st2, f2, ds, S1, Hd1, e1, s01, io, P, p0, turn, lim, fin⟩ := h2
  refine ⟨it, fp, tn, J, H2, e, I2, T, st2, f2, fun p hp => ?_⟩
  obtain ⟨fr, s02⟩ := s01.laidO (l := []) (xs := []) hp rfl
  refine ⟨fun k m H => m = ds.length - k ∧ k ≤ ds.length ∧ ∃ acc S' Hd', acc.length ≤ k ∧ Same Hd1 Hd' ∧ St0 X.K ((p, acc) :: S') Hd' H ∧ P k acc S', ⟨_, rfl, Nat.zero_le _, [], S1, Hd1, Nat.le_refl _, Same.refl _, s02, p0⟩, ?_⟩
  rintro k m H ⟨rfl, hk, acc, S', Hd', ka, k1, k2, k3⟩
  by_cases hlt : k < ds.length
  · obtain ⟨go, yl⟩ := io.go k1 k2 (List.getElem?_eq_getElem hlt)
    refine .inr ⟨go, fun H' => ∃ acc S' Hd', acc.length ≤ k + 1 ∧ Same Hd1 Hd' ∧ St0 X.K ((p, acc) :: S') Hd' H' ∧ P (k + 1) acc S', fun H' q => ⟨ds.length - (k + 1), by omega, rfl, hlt, q⟩, fun x H' y => ?_⟩
    obtain ⟨Hd2, y1, y2, y3⟩ := yl x H' y
    refine ⟨wipe_back, ?_⟩
    have reB := RpE.reset i (re.mono (e1.trans (k1.trans y1))) y3
    have go2 := turn k _ acc S' p (List.getElem?_eq_getElem hlt) k3 k2.own.2.1 ka _ H' Hd2 y2 reB
    have en1 : ∀ (H4 : Hp) (v : V) (d2 : D) (S4 : Sto) (Hd4 : Hp), Same Hd2 Hd4 → St0 X.K ((p, acc) :: S4) Hd4 H4 → Rp X.K Hd4 d2 v → P (k + 1) (acc ++ [d2]) S4 →
        ∃ vs, H4 p = some (.lst vs) ∧ vs.length < sizeLine ∧ ∃ acc S' Hd', acc.length ≤ k + 1 ∧ Same Hd1 Hd' ∧ St0 X.K ((p, acc) :: S') Hd' (upd H4 p (.lst (vs ++ [v]))) ∧ P (k + 1) acc S' := by
      intro H4 v d2 S4 Hd4 z1 z2 z3 z4
      obtain ⟨_, xs, hx, rx⟩ := z2.own.at (l := acc) getS_hd
      refine ⟨xs, hx, by rw [rx.length]; exact Nat.lt_of_le_of_lt (Nat.le_trans ka hk) (Nat.lt_of_le_of_lt lim (by decide)), acc ++ [d2], S4, Hd4, by rw [List.length_append, List.length_singleton]; omega, k1.trans (y1.trans z1), ?_, z4⟩
      have w := z2.written (l' := acc ++ [d2]) (ys := xs ++ [v]) getS_hd (rx.append (show RpL X.K Hd4 [d2] [v] from ⟨v, [], rfl, z3, rfl⟩))
      rw [setS_hd] at w
      exact w
    refine mT _ _ _ _ go2 fun b H3 q => ?_
    cases b with
    | true =>
      rw [if_pos rfl] at q ⊢
      exact mE _ _ _ _ q fun v H4 ⟨d2, S4, Hd4, z1, z2, z3, z4⟩ => en1 H4 v d2 S4 Hd4 z1 z2 z3 z4
    | false =>
      rw [if_neg Bool.false_ne_true] at q ⊢
      obtain ⟨S4, Hd4, z1, z2, z3⟩ := q
      exact ⟨acc, S4, Hd4, Nat.le_succ_of_le ka, k1.trans (y1.trans z1), z2, z3⟩
  · have e0 : k = ds.length := by omega
    subst e0
    obtain ⟨xs, rx, ex, sx⟩ := k2.frozen
    exact .inl ⟨io.stop k1 k2, kq _ _ ⟨.lst acc, S', _, e1.trans (k1.trans ex), sx, ⟨p, xs, rfl, upd_same, rx.mono ex⟩, fin acc S' ka k3⟩⟩
abbrev teB (X : Cx) (scope : Scope) (elt : Expr) : TE := fun σ H Q => ∀ s0 H0 C cl fp, wE (bX X scope s0 H0 C cl fp) elt σ H Q
abbrev ttB (X : Cx) (scope : Scope) (c : Expr) : TT := fun σ H Q => ∀ s0 H0 C cl fp, wT (bX X scope s0 H0 C cl fp) c σ H Q
/-- what a comprehension without a test is asked -/
def Lc0 (X : Cx) (scope : Scope) (i : Nat) (y : Str) (py : Pos) (elt iter : Expr) (en : DEnv) (S : Sto) (Q : D → Sto → Prop) : Prop := DI X (.Name y py) iter en S fun ds S1 => ∃ (P : Nat → List D → Sto → Prop), P 0 [] S1 ∧
  (∀ k d acc S' p, ds[k]? = some d → P k acc S' → getS p S' = none → acc.length ≤ k → Turn1 X scope elt (en.set i (some d)) S' p acc (P (k + 1))) ∧ ds.length ≤ 100000 ∧ ∀ acc S', acc.length ≤ ds.length → P ds.length acc S' → Q (.lst acc) S'
/-- .. with a test -/
def Lc1 (X : Cx) (scope : Scope) (i : Nat) (y : Str) (py : Pos) (elt iter c : Expr) (en : DEnv) (S : Sto) (Q : D → Sto → Prop) : Prop := DI X (.Name y py) iter en S fun ds S1 => ∃ (P : Nat → List D → Sto → Prop), P 0 [] S1 ∧
  (∀ k d acc S' p, ds[k]? = some d → P k acc S' → getS p S' = none → acc.length ≤ k → ∀ s H C cl fp, DT (bX X scope s H C cl fp) c (en.set i (some d)) ((p, acc) :: S') fun b S2 => ∃ S3, S2 = (p, acc) :: S3 ∧ (b = true → Turn1 X scope elt (en.set i (some d)) S3 p acc (P (k + 1))) ∧ (b = false → P (k + 1) acc S3)) ∧
  ds.length ≤ 100000 ∧ ∀ acc S', acc.length ≤ ds.length → P ds.length acc S' → Q (.lst acc) S'
theorem lc0_read {i : Nat} (h : Lc0 X scope i y py elt iter en S Q) {σ : L2.St} {H Hd : Hp} (st : St0 X.K S Hd H) (re : RpE X.K Hd en σ) (Qv : VK) (kq : ∀ v H', QD X.K Hd Q v H' → Qv v H') : tLc (wI X (.Name y py) iter) (gName i) tYes (teB X scope elt) [i] σ H Qv := by
  refine lc_go (tt := tYes) i _ rfl (fun σ H A B q k => k _ _ q) (fun σ H A B q k s0 H0 C cl fp => wE_mono (q s0 H0 C cl fp) k) ?_ st re Qv kq
  refine ⟨fun σ H Hd st re => ?_⟩
  intro pins s I
  refine thn (DI.run h σ H Hd st re pins s I) fun v s1 h1 => thn h1 fun itv s2 h2 => ?_
  obtain ⟨it, fp, tn, J, H2, e, I2, T, st2, f2, ds, S1, Hd1, e1, s01, io, P, p0, turn, lim, fin⟩ := h2
  refine ⟨it, fp, tn, J, H2, e, I2, T, st2, f2, ds, S1, Hd1, e1, s01, io, P, p0, fun k d acc S' p hk hP hp hl σ H Hd st re => ?_, lim, fin⟩
  show tYes σ H _
  unfold tYes
  simp only [↓reduceIte]
  intro s0 H0 C cl fp
  exact wE_mono (turn k d acc S' p hk hP hp hl s0 H0 C cl fp σ H Hd st re) fun v H4 ⟨d2, S2, Hd4, z1, z2, z3, S3, z4, z5⟩ => by
    subst z4
    exact ⟨d2, S3, Hd4, z1, z2, z3, z5⟩
theorem lc1_read {i : Nat} (h : Lc1 X scope i y py elt iter c en S Q) {σ : L2.St} {H Hd : Hp} (st : St0 X.K S Hd H) (re : RpE X.K Hd en σ) (Qv : VK) (kq : ∀ v H', QD X.K Hd Q v H' → Qv v H') : tLc (wI X (.Name y py) iter) (gName i) (ttB X scope c) (teB X scope elt) [i] σ H Qv := by
  refine lc_go i _ rfl (fun σ H A B q k s0 H0 C cl fp => wT_mono (q s0 H0 C cl fp) k) (fun σ H A B q k s0 H0 C cl fp => wE_mono (q s0 H0 C cl fp) k) ?_ st re Qv kq
  refine ⟨fun σ H Hd st re => ?_⟩
  intro pins s I
  refine thn (DI.run h σ H Hd st re pins s I) fun v s1 h1 => thn h1 fun itv s2 h2 => ?_
  obtain ⟨it, fp, tn, J, H2, e, I2, T, st2, f2, ds, S1, Hd1, e1, s01, io, P, p0, turn, lim, fin⟩ := h2
  refine ⟨it, fp, tn, J, H2, e, I2, T, st2, f2, ds, S1, Hd1, e1, s01, io, P, p0, fun k d acc S' p hk hP hp hl σ H Hd st re => ?_, lim, fin⟩
  intro s0 H0 C cl fp
  refine wT_mono (turn k d acc S' p hk hP hp hl s0 H0 C cl fp σ H Hd st re) fun b H3 ⟨S2, Hd3, e3, st3, S3, z, q1, q2⟩ => ?_
  subst z
  cases b with
  | true =>
    rw [if_pos rfl]
    intro s5 H5 C5 cl5 fp5
    exact wE_mono (q1 rfl s5 H5 C5 cl5 fp5 σ H3 Hd3 st3 (re.mono e3)) fun v H4 ⟨d2, S5, Hd4, y1, y2, y3, S6, y4, y5⟩ => by
      subst y4
      exact ⟨d2, S6, Hd4, e3.trans y1, y2, y3, y5⟩
  | false =>
    rw [if_neg Bool.false_ne_true]
    exact ⟨S3, Hd3, e3, st3, q2 rfl⟩
/-- [elt for y in iter] -/
theorem de_lc (i : Nat) (hc : X.calm = true) (hN : X.N.Nodup) (ok : BlkOk X.N X.env.scope scope [(y, i)]) (h : Lc0 X scope i y py elt iter en S Q)
    (hg : ∀ (s : Shared) (H : Hp) (C : Addr) (cl : List (Str × Addr)) (fp : List Addr), PG (bX X scope s H C cl fp) (.Name y py) (gName i))
    (hs : ∀ x, foldedSetIterable iter X.env x = pure x := by first | exact fset rfl | (intro _; rfl)) : DE X (.ListComp elt [⟨.Name y py, iter, [], 0⟩] scope pos) en S Q := ⟨fun σ H Hd st re =>
  wE_of (pe_lc hc hN piW ok hg (fun _ _ _ _ _ => pts_nil) (pe_blk (te := teB X scope elt) rfl) hs) (lc0_read h st re _ fun _ _ z => z)⟩
/-- [elt for y in iter if c] -/
theorem de_lcIf (i : Nat) (hc : X.calm = true) (hN : X.N.Nodup) (ok : BlkOk X.N X.env.scope scope [(y, i)]) (h : Lc1 X scope i y py elt iter c en S Q)
    (hg : ∀ (s : Shared) (H : Hp) (C : Addr) (cl : List (Str × Addr)) (fp : List Addr), PG (bX X scope s H C cl fp) (.Name y py) (gName i))
    (hs : ∀ x, foldedSetIterable iter X.env x = pure x := by first | exact fset rfl | (intro _; rfl)) : DE X (.ListComp elt [⟨.Name y py, iter, [c], 0⟩] scope pos) en S Q := ⟨fun σ H Hd st re =>
  wE_of (pe_lc hc hN piW ok hg (fun s H C cl fp => pts_one (pt_blk (tt := ttB X scope c) rfl s H C cl fp)) (pe_blk (te := teB X scope elt) rfl) hs) (lc1_read h st re _ fun _ _ z => z)⟩
/-- x = [elt for y in iter], x a plain local on the same line -/
theorem ds_setLc {Z : Dn} {spos px : Pos} {x : Str} (j i : Nat) (hc : X.calm = true) (hN : X.N.Nodup) (hj : X.N[j]? = some x) (hx : X.env.scope.names.lookup x = some .local)
    (hsw : swapsWith (.ListComp elt [⟨.Name y py, iter, [], 0⟩] scope pos) (some (.Name x px)) spos.line X.env = pure true) (ok : BlkOk X.N X.env.scope scope [(y, i)])
    (h : Lc0 X scope i y py elt iter en S fun d S' => Z.nx (en.set j (some d)) S')
    (hg : ∀ (s : Shared) (H : Hp) (C : Addr) (cl : List (Str × Addr)) (fp : List Addr), PG (bX X scope s H C cl fp) (.Name y py) (gName i))
    (hs : ∀ x, foldedSetIterable iter X.env x = pure x := by first | exact fset rfl | (intro _; rfl)) : DS1 X (.Assign [.Name x px] (.ListComp elt [⟨.Name y py, iter, [], 0⟩] scope pos) spos) en S Z := ⟨fun σ H Hd st re De l =>
  wS_of (ps_setLc hc hN hj hx hsw piW ok hg (fun _ _ _ _ _ => pts_nil) (pe_blk (te := teB X scope elt) rfl) hs) (lc0_read h st re _ fun v H' ⟨d, S', Hd', e', st', r, q⟩ => l.nx _ S' _ H' Hd' e' st' ((re.mono e').set r j) q)⟩
end

/-! ### the law's end -/
/-- the promise of a law: it gives True of every such script -/
def conLaw (n : Nat) : Con := fun ds S Q => ∃ ns : List Int, ns.length ≤ n ∧ ds = [.scr ns] ∧ S = [] ∧ Q (.bl true) []
theorem law_end {l : PySem.W.OpenLaw} {n k : Nat} {q : Program} {loose : List Str} {XP : (Str → Option Value) → Heap → Prop} {YP : World → Heap → Prop} {d : DefRec} {K : Params → PySem.W.Frag} {x : Str}
    (hn : l.most = some n) (hn2 : n ≤ sizeLine) (hdf : d.params.defaults = []) (hr : Room k callerA) (hY : ∀ (w : World) (h : Heap), YP w h → (K w.params).In h)
    (F : ∀ (w : World) (mg : Str → Option Value) (fa : Addr) (h : Heap), (K w.params).In h → h.Ns mainGlobals mg → mg d.name = some (.ref fa) → ∃ fd : FuncData, (∀ (s : Shared) (u : Value), BindsTo s fd ⟨[u], []⟩ [(x, u)]) ∧
      ∀ base : Heap, (K w.params).In base → base.Ns mainGlobals mg → GOk l.prog w (K w.params) mg base k fa fd [x] (spD (K w.params) (conLaw n))) : PySem.W.WalkO q loose XP YP l.row.toRowW d [] (fun f vs => PySem.call f vs) := by
  refine Att.attach_call hn hdf fun w s0 s1 mg mb fa o pm cd doc a vs ns G Y ho hd hcd hmg hobj hints hlen hg => ?_
  have KX := hY w _ Y
  obtain ⟨fd, hb, hF⟩ := F w mg fa _ KX G.T.g hmg
  have rv := vals_ints hints
  -- the script is tracked, as known to its object, unless the module itself holds it
  generalize hH : (fun b => if b = a ∧ (K w.params).lookup a = none then some (HO.frz { cls := .type "list", data := .seq vs.toArray } (.lst (ns.map V.int))) else none : Hp) = H
  have none_of : ∀ b, ¬ (b = a ∧ (K w.params).lookup a = none) → H b = none := fun b z => by rw [← hH]; exact if_neg z
  have some_of : ∀ b u, H b = some u → b = a ∧ (K w.params).lookup a = none ∧ u = .frz { cls := .type "list", data := .seq vs.toArray } (.lst (ns.map V.int)) := fun b u z => by
    rw [← hH] at z
    by_cases c : b = a ∧ (K w.params).lookup a = none
    · have z2 := (if_pos c).symm.trans z
      exact ⟨c.1, c.2, (Option.some.inj z2).symm⟩
    · have z2 := (if_neg c).symm.trans z
      cases z2
  have scr : SqL (K w.params) H a (ns.map V.int) := by
    cases hk : (K w.params).lookup a with
    | none =>
      refine .inl (.inr ⟨{ cls := .type "list", data := .seq vs.toArray }, ?_⟩)
      rw [← hH]
      exact if_pos ⟨rfl, hk⟩
    | some ob =>
      have e := KX a ob hk
      rw [hobj] at e
      cases e
      exact .inr ⟨_, vs.toArray, _, hk, rfl, rfl, rfl, by rw [List.size_toArray, hints.length]; exact Nat.le_trans hlen hn2, by simpa using rv⟩
  have hok : HOk l.prog w H s1.heap := fun b u z => by
    obtain ⟨e1, _, e3⟩ := some_of b u z
    subst e1 e3
    exact ⟨hobj, by rw [List.length_map]; exact Nat.le_trans hlen hn2, vs, _, rv, hobj⟩
  have dictN : ∀ {b : Addr} {ob : Obj} {es : Array DictEntry} {ep : Nat}, s1.heap.get? b = some ob → ob.data = .dict es ep → H b = none := fun {b ob es ep} e dd => by
    refine none_of b fun z => ?_
    rw [z.1, hobj] at e
    cases e
    cases dd
  have nsB : ∀ {b : Addr} {m : Str → Option Value}, s1.heap.Ns b m → (hidT s1.heap H).Ns b m := fun ⟨ob, es, ep, e, dd, rr⟩ => ⟨ob, es, ep, hidT_get e (dictN e dd), dd, rr⟩
  have KB : (K w.params).In (hidT s1.heap H) := fun b ob e => hidT_get (KX b ob e) (none_of b fun z => by rw [z.1, z.2] at e; cases e)
  have M : Mod (K w.params) mg (hidT s1.heap H) := ⟨KB, nsB G.T.g, ⟨mb, nsB G.T.b, G.T.builtins⟩, let ⟨mc, z1, z2⟩ := G.T.nolimit; ⟨mc, nsB z1, z2⟩⟩
  have e0 : Env0 l.prog w (K w.params) mg (hidT s1.heap H) callerA [] s1 H := ⟨rfl, M, fun b ob e => of_hidT e, Nat.le_of_eq (hidT_size _ _), trivial, (fun b z => absurd (show b ∈ ([] : List Addr) from z) List.not_mem_nil), hok, .of_eq hg⟩
  have st : St0 (K w.params) [] H H := ⟨Same.refl _, trivial⟩
  have sp : spD (K w.params) (conLaw n) [V.ref a] H (fun v _ => v = V.bl true) fun _ _ _ => False := ⟨[.scr ns], [], H, fun d _ => d = .bl true, ⟨V.ref a, [], rfl, ⟨a, rfl, scr⟩, rfl⟩, st, ⟨ns, hlen, rfl, rfl, rfl⟩, fun d S' v H' Hd' z _ _ r => by
    subst z
    exact r⟩
  refine codeAny_mono ((hF _ KB (nsB G.T.g)).run callerA [] s1 H ⟨[.ref a], []⟩ [.ref a] [.ref a] _ _ rfl hr e0 (hb s1 (.ref a)) (.cons rfl .nil) sp) fun r s' h => ?_
  cases r with
  | error e => exact h.elim
  | ok fl =>
    cases fl with
    | next => exact False.elim h
    | brk => exact False.elim h
    | cont => exact False.elim h
    | ret u =>
      obtain ⟨v, H', os, bare, un, hok', r', q'⟩ := h
      have q' : v = V.bl true := q'
      subst q'
      have r' : u = Value.bool true := r'
      subst r'
      refine ⟨rfl, OldK.of_keep fun b ob e => ?_, os, bare⟩
      cases z : H b with
      | none => exact un.keep b ob e z (fun y => absurd (show b ∈ ([] : List Addr) from y) List.not_mem_nil) List.not_mem_nil
      | some u =>
        obtain ⟨_, _, e3⟩ := some_of b u z
        subst e3
        obtain ⟨k1, _⟩ := hok b _ z
        obtain ⟨k2, _⟩ := hok' b _ (un.frzs b _ _ z)
        rw [e] at k1
        cases k1
        exact k2
end DL
namespace DL
open PySem PySem.Spec PyProof.Rows L2

/-! ### sizes of ints -/
def Bd (n : Nat) (i : Int) : Prop := i.natAbs < 2 ^ n
section
variable {a b n : Nat} {i j : Int}
theorem Bd.up (h : Bd a i) (k : a ≤ b) : Bd b i := Nat.lt_of_lt_of_le h (Nat.pow_le_pow_right (by decide) k)
theorem Bd.mul (h : Bd a i) (k : Bd b j) : Bd (a + b) (i * j) := wide_lt h k
theorem Bd.neg (h : Bd a i) : Bd a (-i) := by
  unfold Bd at h ⊢
  rw [Int.natAbs_neg]
  exact h
theorem Bd.add (h : Bd a i) (k : Bd b j) : Bd (max a b + 1) (i + j) := by
  have h1 : i.natAbs < 2 ^ (max a b) := Bd.up h (Nat.le_max_left a b)
  have k1 : j.natAbs < 2 ^ (max a b) := Bd.up k (Nat.le_max_right a b)
  have := Int.natAbs_add_le i j
  unfold Bd
  rw [Nat.pow_succ]
  omega
theorem Bd.sub (h : Bd a i) (k : Bd b j) : Bd (max a b + 1) (i - j) := by
  rw [Int.sub_eq_add_neg]
  exact h.add k.neg
theorem Bd.div (h : Bd a i) : Bd a (i / j) := Nat.lt_of_le_of_lt (Int.natAbs_ediv_le_natAbs i j) h
theorem Bd.mod (h : Bd b j) (h0 : 0 < j) : Bd b (i % j) := by
  have h1 := Int.emod_nonneg i (by omega : j ≠ 0)
  have h2 := Int.emod_lt_of_pos i h0
  have h3 : j.natAbs < 2 ^ b := h
  unfold Bd
  omega
theorem Bd.abs (h : Bd a i) : Bd a (if i < 0 then -i else i) := by
  split
  · exact h.neg
  · exact h
theorem Bd.of_le (h0 : 0 ≤ i) (h1 : i ≤ j) (h : Bd a j) : Bd a i := by
  unfold Bd at h ⊢
  omega
theorem Bd.of_lt (h0 : 0 ≤ i) (h1 : i < j) (h : Bd a j) : Bd a i := Bd.of_le h0 (Int.le_of_lt h1) h
theorem Bd.of_abs (h0 : -j ≤ i) (h1 : i ≤ j) (h : Bd a j) : Bd a i := by
  unfold Bd at h ⊢
  omega
theorem Bd.lit (i : Int) : Bd (i.natAbs.log2 + 1) i := Nat.lt_log2_self
theorem Bd.pow (h : Bd a i) : ∀ k : Nat, Bd (a * k + 1) (i ^ k)
  | 0 => by
    rw [Int.pow_zero]
    show (1 : Int).natAbs < _
    rw [Nat.mul_zero]
    decide
  | k + 1 => by
    rw [Int.pow_succ]
    exact ((Bd.pow h k).mul h).up (by rw [Nat.mul_succ]; omega)
theorem cmw (h : Bd a i) (k : Bd b j) (z : a + b ≤ 900000) : CMulW i j := by
  have h1 := wide_lt h k
  unfold CMulW
  have x : ∀ (n : Nat) (m : Nat), m < 2 ^ n → m.log2 ≤ n := fun n m hm => by
    by_cases e : m = 0
    · subst e
      simp
    · exact Nat.le_of_lt ((Nat.log2_lt e).mpr hm)
  have := x a _ h
  have := x b _ k
  omega
theorem cdw (h : Bd b j) (h0 : 0 < j) (z : b ≤ 8000) : CDivW i j := ⟨h0, by
  have e : ¬ j.natAbs = 0 := by omega
  exact Nat.lt_of_lt_of_le ((Nat.log2_lt e).mpr h) (by omega)⟩
theorem cpw (h : Bd a i) (h0 : 0 ≤ j ∧ j ≤ 64) (z : a ≤ 900000) : CPowW i j := ⟨h0.1, h0.2, by
  by_cases e : i.natAbs = 0
  · rw [e]
    decide
  · exact Nat.lt_of_lt_of_le ((Nat.log2_lt e).mpr h) (by omega)⟩
theorem shw (h : Bd a i) (z : a ≤ 1900) : i.natAbs < 2 ^ 1900 := h.up z
end

/-! ### the built-ins by their names -/
theorem bt_abs : bootBuiltins "abs" = some (.builtin "abs") := by decide +kernel
theorem bt_max : bootBuiltins "max" = some (.builtin "max") := by decide +kernel
theorem bt_min : bootBuiltins "min" = some (.builtin "min") := by decide +kernel
theorem bt_len : bootBuiltins "len" = some (.builtin "len") := by decide +kernel
theorem bt_int : bootBuiltins "int" = some (.type "int") := by decide +kernel
theorem bt_tuple : bootBuiltins "tuple" = some (.type "tuple") := by decide +kernel
theorem bt_repr : bootBuiltins "repr" = some (.builtin "repr") := by decide +kernel
theorem bt_isinstance : bootBuiltins "isinstance" = some (.builtin "isinstance") := by decide +kernel
theorem bt_all : bootBuiltins "all" = some (.builtin "all") := by decide +kernel
/-! ### a def by its body, over data -/
theorem gok_ds {P : Program} {w : World} {K : PySem.W.Frag} {mg : Str → Option Value} {base : Heap} {k m : Nat} {x qual : Str} {st : Stmt} {f : Addr} {fd : FuncData} {N ps : List Str} {C : Con} (F : Fun K x qual st f fd) (S : FnScope N ps (defScope st))
    (hm : N.length - ps.length = m) (ln : ∀ ds S Q, C ds S Q → ds.length = ps.length)
    (body : ∀ (cdv : Value) (A : Around) (fr : List Env) (s : Shared) (H : Hp) (E : XK), (A.deeper (envOfC qual (defScope st) s.heap.objs.size f cdv)).guards = some [] → Room k (A.deeper (envOfC qual (defScope st) s.heap.objs.size f cdv)) → ∀ (ds : List D) (S0 : Sto) (Q : D → Sto → Prop), C ds S0 Q →
      DS (cxOf CX0 P w K mg base N qual (defScope st) f cdv A fr s H E).nox (defBody st) (ds.map some ++ List.replicate m none) S0 { nx := fun _ S' => Q .non S', rt := Q }) : GOk P w K mg base (k + 1) f fd ps (spD K C) := by
  refine gok_of F S (fun vs H Q E h => ?_) fun cdv A fr s H vs Q E gd hr h => ?_
  · obtain ⟨ds, S0, Hd, Qd, r, _, c, _⟩ := h
    rw [r.length]
    exact ln _ _ _ c
  · obtain ⟨ds, S0, Hd, Qd, r, st0, c, fin⟩ := h
    have e : L2.start N vs = vs.map some ++ List.replicate m none := by
      unfold L2.start
      rw [r.length, ln _ _ _ c, hm]
    rw [e]
    exact body cdv A fr s H E gd hr ds S0 Qd c _ H Hd st0 (RpE.start m r) _ ⟨fun en S' σ H' Hd' z1 z2 _ q => fin .non S' .non H' Hd' q z1 z2 rfl, fun d S' v H' Hd' z1 z2 z3 q => fin d S' v H' Hd' q z1 z2 z3, fun _ _ _ _ _ _ _ _ q => q.elim, fun _ _ _ _ _ _ _ _ q => q.elim⟩
/-- it stands in the module -/
theorem cal_of {P : Program} {w : World} {K : PySem.W.Frag} {mg : Str → Option Value} {base : Heap} {k : Nat} {x qual : Str} {st : Stmt} {f : Addr} {fd : FuncData} {ps : List Str} {kws : List (Nat × List Str)} {C : Con} (F : Fun K x qual st f fd)
    (G : GOk P w K mg base k f fd ps (spD K C)) (hm : mg x = some (.ref f)) (hb : ∀ us : List Value, us.length = ps.length → bindArgs fd ⟨us, []⟩ = pure (ps.zip us)) (hk : ∀ p ∈ kws, KwOk fd ps p) : Cal P w K mg base k x ps kws C := ⟨f, fd, G, hm, F.kp, hb, hk⟩
theorem bargs_of {K : PySem.W.Frag} {x qual : Str} {st : Stmt} {f : Addr} {fd : FuncData} {ps : List Str} (F : Fun K x qual st f fd)
    (h : ∀ (kV doc pm : Value) (an : Option Addr) (cdv ct : Value) (us : List Value), us.length = ps.length → bindArgs (PySem.W.fnOf x qual (defArgs st) (defBody st) (defScope st) .none kV doc pm an cdv ct) ⟨us, []⟩ = pure (ps.zip us)) : ∀ us : List Value, us.length = ps.length → bindArgs fd ⟨us, []⟩ = pure (ps.zip us) := by
  obtain ⟨oc, od, kV, doc, pm, an, cdv, ct, osl, rfl, _, _⟩ := F.ex
  exact h kV doc pm an cdv ct
end DL
namespace DL
open PySem PySem.Spec PyProof.Rows L2

/-! ### isinstance with a built-in type -/
def tyD : D → Option String
  | .non => some "NoneType"
  | .bl _ => some "bool"
  | .int _ => some "int"
  | .str _ => some "str"
  | .tup _ => some "tuple"
  | .lst _ => some "list"
  | .scr _ => some "list"
  | .raw _ => none
  | .ext _ => none
theorem tyX_of {K : PySem.W.Frag} {H : Hp} {d : D} {v : V} {t : String} (h : tyD d = some t) (r : Rp K H d v) (hs : ∀ l, d ≠ .scr l) : TyX K H v (.type t) := by
  cases d with
  | non => cases h; cases (show v = _ from r); exact .base .non
  | bl b => cases h; cases (show v = _ from r); exact .base (.bl b)
  | int i => cases h; cases (show v = _ from r); exact .base (.int i)
  | str x => cases h; cases (show v = _ from r); exact .base (.str x)
  | tup l =>
    cases h
    obtain ⟨a, xs, rfl, h1, _⟩ := r
    rcases h1 with (h1 | ⟨o, h1⟩) | ⟨o, its, n, h1, h2, _⟩
    · exact .base (.tup h1)
    · exact .fTuple h1
    · exact .kTuple h1 h2
  | lst l =>
    cases h
    obtain ⟨a, xs, rfl, h1, _⟩ := r
    exact .base (.lst h1)
  | raw u => cases h
  | ext u => cases h
  | scr l => exact absurd rfl (hs l)
section
variable {X : Cx} {K : PySem.W.Frag} {S : Sto} {Q : D → Sto → Prop} {d : D}
theorem drc_isi {t T : String} {b : Bool} (ht : tyD d = some t) (hk : kitB t T = some b) (q : Q (.bl b) S) (hs : ∀ l, d ≠ .scr l := by intro _ z; cases z) : DRC K (rIsi K) [d, .raw (.ty T)] S Q := fun H Hd vs Qv st rr k => by
  obtain ⟨v, w, e1, rv, rw'⟩ := two_rp rr
  have rw' : w = V.ty T := rw'
  subst e1 rw'
  exact ⟨v, .ty T, .type t, .type T, b, rfl, .ty T, tyX_of ht (Rp.mono st.sub d v rv) hs, kit_ty hk, k _ _ (.here (d := .bl b) st rfl q)⟩
theorem k_ii : kitB "int" "int" = some true := by decide +kernel
theorem k_ib : kitB "int" "bool" = some false := by decide +kernel
theorem k_bi : kitB "bool" "int" = some true := by decide +kernel
theorem k_bb : kitB "bool" "bool" = some true := by decide +kernel
theorem k_tt : kitB "tuple" "tuple" = some true := by decide +kernel
theorem k_si : kitB "str" "int" = some false := by decide +kernel
theorem k_ni : kitB "NoneType" "int" = some false := by decide +kernel
theorem k_ti : kitB "tuple" "int" = some false := by decide +kernel
theorem k_li : kitB "list" "int" = some false := by decide +kernel
theorem k_it : kitB "int" "tuple" = some false := by decide +kernel
theorem k_bt : kitB "bool" "tuple" = some false := by decide +kernel
theorem k_st : kitB "str" "tuple" = some false := by decide +kernel
theorem k_nt : kitB "NoneType" "tuple" = some false := by decide +kernel
theorem k_lt : kitB "list" "tuple" = some false := by decide +kernel
/-- a built-in type's name as a value -/
theorem de_ty {x : Str} {T : String} {en : DEnv} {pos : Pos} (hm : X.mg x = none) (hv : bootBuiltins x = some (.type T)) (q : Q (.raw (.ty T)) S) (hg : Gl X x := by rfl) (hn : x ≠ "__name__" := by decide) (hd : (x == ("__debug__" : Str)) = false := by decide) : DE X (.Name x pos) en S Q := ⟨fun _ _ _ st _ => wE_of (pe_bltn (v := .ty T) hg hm hv rfl hn hd) (.here (d := .raw (.ty T)) st rfl q)⟩
theorem bt_bool : bootBuiltins "bool" = some (.type "bool") := by decide +kernel
/-- all, any of a list of truths -/
theorem bls_of {H : Hp} : ∀ {bs : List Bool} {vs : List V}, RpL K H (bs.map D.bl) vs → vs = bs.map V.bl
  | [], _, h => h
  | b :: bs, _, h => by
    obtain ⟨x, xs, e1, e2, e3⟩ := h
    have e2 : x = V.bl b := e2
    rw [e1, e2, bls_of e3] <;> rfl
theorem drc_all {bs : List Bool} (q : Q (.bl (bs.all id)) S) : DRC K (rAll K) [.lst (bs.map D.bl)] S Q := fun H Hd vs Qv st rr k => by
  obtain ⟨v, e1, a, xs, f1, f2, f3⟩ := one_rp rr
  subst e1 f1
  exact ⟨a, bs, rfl, by rw [← bls_of f3]; exact .of (st.sub _ _ f2), k _ _ (.here (d := .bl _) st rfl q)⟩
/-! ### slices -/
variable {e : Expr} {en : DEnv} {R : Option Int → Prop}
theorem do_none (q : R none) : DO X none en S R := q
theorem do_some (h : DE X e en S fun x S' => S' = S ∧ ∃ i, x = .int i ∧ R (some i)) : DO X (some e) en S R := h
theorem sl_t2 {a b c : D} (q : Q (.tup [a, b]) S) : slP (.tup [a, b, c]) none (some 2) S Q := ⟨(show ¬ (HT.sIx 3 0 none = 0 ∧ HT.sIx 3 3 (some 2) = 3) by decide), q⟩
theorem sl_l {l : List D} {lo hi : Option Int} (q : Q (.lst (cutD l lo hi)) S) : slP (.lst l) lo hi S Q := q
theorem cut_to {l : List D} {n : Int} (h : 0 ≤ n) : cutD l none (some n) = l.take n.toNat := by
  unfold cutD HT.sIx
  simp only [Nat.sub_zero, List.drop_zero]
  have e1 : ¬ n < 0 := by omega
  simp only [e1, if_false]
  by_cases h2 : n.toNat ≤ l.length
  · congr 1
    omega
  · rw [List.take_of_length_le (by omega), List.take_of_length_le (by omega)]

/-! ### three targets at once -/
theorem ps_par3 {i j k : Nat} {x y z : Str} {a b c : Expr} {ta : TA} {px py pz pt pos : Pos} {kt k2 pt2} (hc : X.calm = true) (hN : X.N.Nodup) (hi : X.N[i]? = some x) (hj : X.N[j]? = some y) (hk : X.N[k]? = some z)
    (hx : X.env.scope.names.lookup x = some .local) (hy : X.env.scope.names.lookup y = some .local) (hz : X.env.scope.names.lookup z = some .local) (ha : PA X [a, b, c] ta)
    (hw : swappedStores [.Tuple [.Name x px, .Name y py, .Name z pz] kt pt] (.Tuple [a, b, c] k2 pt2) X.env = pure (some [x, y, z]))
    (hs : swapsWithSole [.Tuple [.Name x px, .Name y py, .Name z pz] kt pt] (.Tuple [a, b, c] k2 pt2) pos.line X.env = pure false := by first | exact sws1 rfl | exact sw0 rfl | rfl) :
    PS X (.Assign [.Tuple [.Name x px, .Name y py, .Name z pz] kt pt] (.Tuple [a, b, c] k2 pt2) pos) (fun D σ H => ta σ H fun vs H1 => ∃ u v w, vs = [u, v, w] ∧ D.nx (((σ.set k (some w)).set j (some v)).set i (some u)) H1) := by
  refine ⟨fun pins s σ H De I h => ?_⟩
  rw [exec_Assign_arm]
  refine wpAny_bind (wpAny_standAt ?_)
  rw [hs]
  refine wpAny_bind (wpAny_pure ?_)
  rw [if_neg Bool.false_ne_true]
  refine wpAny_bind (Tuple_ (thn (ha.run _ pins s σ H _ I h) fun us s1 ⟨vs, H1, I1, r1, u, v, w, e1, q1⟩ => ?_))
  subst e1
  obtain ⟨u1, u2, u3, e2, ru, rv, rw'⟩ : ∃ u1 u2 u3, us = [u1, u2, u3] ∧ RelV u u1 ∧ RelV v u2 ∧ RelV w u3 := by
    cases r1 with
    | cons p q => cases q with
      | cons p' q' => cases q' with
        | cons p2 q2 =>
          cases q2
          exact ⟨_, _, _, rfl, p, p', p2⟩
  subst e2
  refine wpAny_newObj_type ?_ (by show 3 ≤ sizeLine; decide)
  have I2 : Inv X pins σ H1 { s1 with heap := s1.heap.push { cls := .type "tuple", data := .seq [u1, u2, u3].toArray } } := I1.kept (t' := s1.toks) fun b o g => Heap.get?_push_of_some _ g
  rw [hw]
  refine wpAny_bind (wpAny_pure ?_)
  show wpAny (model X.prog X.w) X.A (do rule "assign.swapped-stores"; let items ← unpackItems (.ref s1.heap.objs.size) 3 none; assignInOrder [fun v => bindName X.env z v, fun v => bindName X.env y v, fun v => bindName X.env x v] items.reverse; pure Flow.next) _ _ _
  refine wpAny_bind (wpAny_rule (wpAny_bind (unpackItems_tuple (items := #[u1, u2, u3]) (I.ok.hd hc) (IsTup.new s1.heap _) fun h' hx' => ?_)))
  have I3 := I2.kept (h' := h') (t' := s1.toks) fun b o g => hx' b o (Nat.ne_of_lt (Heap.lt_size g)) g
  show wpAny _ _ (assignInOrder [fun v => bindName X.env z v, fun v => bindName X.env y v, fun v => bindName X.env x v] [u3, u2, u1] >>= fun _ => pure Flow.next) _ _ _
  refine wpAny_bind (assignInOrder_cons (wpAny_bindName (store_ok I3 hN hk (.inl hz) rw' (fun s2 I4 => ?_) (.inr hz))))
  refine assignInOrder_cons (wpAny_bindName (store_ok I4 hN hj (.inl hy) rv (fun s3 I5 => ?_) (.inr hy)))
  refine assignInOrder_cons (wpAny_bindName (store_ok I5 hN hi (.inl hx) ru (fun s4 I6 => assignInOrder_nil (wpAny_pure ?_)) (.inr hx)))
  exact ⟨_, _, I6, q1⟩
theorem ds_par3 {Z : Dn} {i j k : Nat} {x y z : Str} {a b c : Expr} {px py pz pt pos : Pos} {kt k2 pt2} (hc : X.calm = true) (hN : X.N.Nodup) (hi : X.N[i]? = some x) (hj : X.N[j]? = some y) (hk : X.N[k]? = some z)
    (h : DA X [a, b, c] en S fun vs S1 => ∃ u v w, vs = [u, v, w] ∧ Z.nx (((en.set k (some w)).set j (some v)).set i (some u)) S1)
    (hx : X.env.scope.names.lookup x = some .local := by rfl) (hy : X.env.scope.names.lookup y = some .local := by rfl) (hz : X.env.scope.names.lookup z = some .local := by rfl)
    (hw : swappedStores [.Tuple [.Name x px, .Name y py, .Name z pz] kt pt] (.Tuple [a, b, c] k2 pt2) X.env = pure (some [x, y, z]) := by rfl)
    (hs : swapsWithSole [.Tuple [.Name x px, .Name y py, .Name z pz] kt pt] (.Tuple [a, b, c] k2 pt2) pos.line X.env = pure false := by first | exact sws1 rfl | exact sw0 rfl | rfl) : DS1 X (.Assign [.Tuple [.Name x px, .Name y py, .Name z pz] kt pt] (.Tuple [a, b, c] k2 pt2) pos) en S Z := ⟨fun σ H Hd st re De l => by
  refine wS_of (ps_par3 hc hN hi hj hk hx hy hz paW hw hs) ?_
  refine wA_mono (h σ H Hd st re) fun vs H1 ⟨ds, S1, Hd1, e1, st1, r1, u, v, w, e2, q⟩ => ?_
  subst e2
  obtain ⟨u1, vs', f1, ru, r2⟩ := r1
  obtain ⟨v1, w1, f2, rv, rw'⟩ := two_rp r2
  subst f1 f2
  exact ⟨u1, v1, w1, rfl, l.nx _ S1 _ H1 Hd1 e1 st1 ((((re.mono e1).set rw' k).set rv j).set ru i) q⟩⟩
end

/-! ### the turns of a law over its script -/
theorem scr_turn {ns : List Int} {n : Int} (hn : 0 ≤ n ∧ n ≤ 64) {i : Nat} {d : D} (h : (enuD (cutD (ns.map D.int ++ [.int 0]) none (some n)))[i]? = some d) : i < 64 ∧ ∃ e : Int, d = .tup [.int (i : Nat), .int e] := by
  obtain ⟨x, h1, h2⟩ := enuD_get h
  rw [cut_to hn.1] at h1
  have hi := (List.getElem?_eq_some_iff.mp h1).1
  rw [List.length_take] at hi
  refine ⟨by omega, ?_⟩
  have m := List.mem_of_getElem? h1
  have m2 := List.mem_of_mem_take m
  rcases List.mem_append.mp m2 with z | z
  · obtain ⟨e, _, z2⟩ := List.mem_map.mp z
    exact ⟨e, by rw [h2, ← z2]⟩
  · have z2 : x = .int 0 := by simpa using z
    exact ⟨0, by rw [h2, z2]⟩

/-! ### the source of a law's numbers -/
def Src (m : Nat) (l : List D) : Prop := ∃ a b c : Int, l = [.int a, .int b, .int c] ∧ 0 ≤ a ∧ Bd 200 b ∧ (0 ≤ c ∧ c ≤ (m : Int)) ∧ 0 ≤ b
def con_source : Con := fun ds S Q => ∃ e k : Int, ds = [.int e, .int k] ∧ (0 ≤ k ∧ k ≤ 100) ∧ ∀ p l, getS p S = none → Src 0 l → Q (.raw (.ref p)) ((p, l) :: S)
def con_draw : Con := fun ds S Q => ∃ (p : Addr) (n : Int) (l : List D) (m : Nat), ds = [.raw (.ref p), .int n] ∧ getS p S = some l ∧ Src m l ∧ m ≤ 1000000 ∧ 0 < n ∧ Bd 400 n ∧ ∀ r l', 0 ≤ r → r < n → Src (m + 1) l' → Q (.int r) (setS p l' S)
/-- p, q, quarters are a turn -/
structure Tn (p q k : Int) : Prop where
  p1 : 1 ≤ p
  p2 : p ≤ 1000000000000000
  q1 : -p < q
  q2 : q < p
  g : Nat.gcd p.natAbs q.natAbs = 1
  o : (p + q) % 2 = 1
  k1 : 0 ≤ k
  k2 : k ≤ 3
theorem Tn.bp {p q k : Int} (h : Tn p q k) : Bd 50 p := by
  have := h.p1
  have := h.p2
  unfold Bd
  omega
theorem Tn.bq {p q k : Int} (h : Tn p q k) : Bd 50 q := by
  have := h.p2
  have := h.q1
  have := h.q2
  unfold Bd
  omega
def con_dot : Con := fun ds S Q => ∃ (p : Addr) (n : Int) (l : List D) (m : Nat), ds = [.raw (.ref p), .int n] ∧ getS p S = some l ∧ Src m l ∧ m ≤ 900000 ∧ 0 ≤ n ∧ Bd 300 n ∧ ∀ x y l', (-n ≤ x ∧ x ≤ n) → (-n ≤ y ∧ y ≤ n) → Src (m + 2) l' → Q (.tup [.int x, .int y]) (setS p l' S)
theorem Src.up {m n : Nat} {l : List D} (h : Src m l) (k : m ≤ n) : Src n l := by
  obtain ⟨a, b, c, e, h1, h2, h3, h4⟩ := h
  exact ⟨a, b, c, e, h1, h2, ⟨h3.1, by omega⟩, h4⟩
theorem getS_setS_same {p : Addr} {S : Sto} {l n : List D} (h : getS p S = some l) : getS p (setS p n S) = some n := by
  rw [getS_setS, if_pos rfl, h] <;> rfl
theorem setS_setS {p : Addr} {n m : List D} : ∀ {S : Sto}, setS p n (setS p m S) = setS p n S
  | [] => rfl
  | (q, l) :: S => by
    by_cases h : q = p
    · subst h
      rw [setS_hd, setS_hd, setS_hd]
    · rw [setS_tl h, setS_tl h, setS_tl h, setS_setS]
end DL
namespace DL
open PySem PySem.Spec PyProof.Rows L2
def rIsq : List V → Hp → VK → Prop := fun vs H Q => ∃ a : Int, vs = [.int a] ∧ 0 ≤ a ∧ a.natAbs < 2 ^ 3000 ∧ Q (.int ((Float64.isqrt a.toNat : Nat) : Int)) H
theorem cr_isqrt {X : Cx} : CallR X (.builtin "math.isqrt") rIsq := by
  intro pins s σ H vs us Q I r h
  obtain ⟨a, rfl, h0, h1, q⟩ := h
  obtain ⟨u, rfl, t, rfl⟩ := Vals.one r
  have hl : a.toNat.log2 < 3000 := by
    by_cases z : a.toNat = 0
    · rw [z]
      decide
    · exact (Nat.log2_lt z).mpr (by have : a.natAbs = a.toNat := by omega
                                    rw [← this]
                                    exact h1)
  exact call_function_meets PySem.W.MGF.kind_isqrt PySem.W.MGF.plain_isqrt PySem.W.MGF.entry_isqrt (PySem.W.MGF.args_isqrt _) (PySem.W.mg_run_isqrt a t (by omega) (by omega) (by omega)).meets ⟨.int _, H, I.tok _, ⟨_, rfl⟩, q⟩
section
variable {X : Cx} {a b : Expr} {en : DEnv} {S : Sto} {Q : D → Sto → Prop} {pos p : Pos}
/-- math.isqrt -/
theorem de_isqrt {gx : Str} (hm : X.mg gx = some (.builtin "math.isqrt")) (h : DA X [a] en S fun ds S1 => ∃ i : Int, ds = [.int i] ∧ (0 ≤ i ∧ i.natAbs < 2 ^ 3000) ∧ Q (.int ((Float64.isqrt i.toNat : Nat) : Int)) S1) (hg : Gl X gx := by rfl) (hn : gx ≠ "__name__" := by decide) (hdb : (gx == ("__debug__" : Str)) = false := by decide)
    (he : starEach (a :: []) X.env = (false, eval a X.env) :: starEach [] X.env := by rfl) (hpl : (backTo pos (starEach [] X.env)).any (·.1) = false := by rfl) : DE X (.Call (.Name gx p) [a] [] pos) en S Q := ⟨fun σ H Hd st re => by
  refine wE_of (pe_callBfun cr_isqrt hg hm paW (hdb := hdb) (he := he) (hpl := hpl)) ?_
  refine wA_mono (h σ H Hd st re) fun vs H1 ⟨ds, S1, Hd1, e1, st1, r1, i, e2, ⟨h0, h1⟩, q⟩ => ?_
  subst e2
  obtain ⟨v, vs', e3, rv, e5⟩ := r1
  have e5 : vs' = [] := e5
  subst e3 e5
  exact ⟨i, by rw [show v = V.int i from rv], h0, h1, .up e1 (.here (d := .int _) st1 rfl q)⟩⟩
/-- x += e, of whole numbers -/
theorem ds_augI {Z : Dn} {x : Str} {e : Expr} {i : Int} (k : Nat) (hN : X.N.Nodup) (hk : X.N[k]? = some x) (hx : X.env.scope.names.lookup x = some .local) (he : en[k]? = some (some (.int i)))
    (h : DE X e en S fun d S1 => ∃ j, d = .int j ∧ Z.nx (en.set k (some (.int (i + j)))) S1) : DS1 X (.AugAssign (.Name x p) .Add e pos) en S Z := ⟨fun σ H Hd st re De l => by
  refine wS_of (ps_aug hN hk (.inl hx) peW ip_add (.inr hx)) ?_
  obtain ⟨v, e1, rv⟩ := re.get he
  have rv : v = V.int i := rv
  subst rv
  refine ⟨_, e1, ?_⟩
  refine wE_mono (h σ H Hd st re) fun w H1 ⟨d, S1, Hd1, z1, st1, r1, j, e2, q⟩ => ?_
  subst e2
  have r1 : w = V.int j := r1
  subst r1
  exact ⟨i, j, rfl, rfl, l.nx _ S1 _ H1 Hd1 z1 st1 ((re.mono z1).set (d := .int (i + j)) rfl k) q⟩⟩
end
end DL
namespace Tp
open PySem DL
theorem isq_eq {p : Int} (h : 0 ≤ p) {i : Int} (e : i = p * p) : ((Float64.isqrt i.toNat : Nat) : Int) = p := by
  obtain ⟨n, rfl⟩ : ∃ n : Nat, p = (n : Int) := ⟨p.toNat, by omega⟩
  have e2 : i.toNat = n * n := by
    rw [e, ← Int.natCast_mul]
    rfl
  rw [e2]
  obtain ⟨h1, h2⟩ := Float64.isqrt_spec (n * n)
  generalize Float64.isqrt (n * n) = r at *
  have a1 : r ≤ n := Nat.mul_self_le_mul_self_iff.mp h1
  have a2 : n < r + 1 := Nat.mul_self_lt_mul_self_iff.mp h2
  have : r = n := by omega
  rw [this]
end Tp
namespace DL
open PySem PySem.Spec PyProof.Rows L2
end DL
namespace DL
open PySem PySem.Spec PyProof.Rows L2
/-- a number and a pair of numbers -/
def d3 (t : Int × Int × Int) : D := .tup [.int t.1, .tup [.int t.2.1, .int t.2.2]]
/-- the ends of a statement's ways, told by one form -/
theorem ds_join {X : Cx} {st : Stmt} {en : DEnv} {S : Sto} {Z : Dn} {γ : Type} (E : γ → DEnv) (P : γ → Sto → Prop)
    (h : DS1 X st en S { nx := fun en3 S3 => ∃ g, Wk en3 (E g) ∧ P g S3, rt := Z.rt, bk := Z.bk, ct := Z.ct }) (k : ∀ g S', P g S' → Z.nx (E g) S') : DS1 X st en S Z := ⟨fun σ H Hd st re De l =>
  h σ H Hd st re De ⟨fun _ S5 σ5 H5 Hd5 w1 w2 w3 ⟨g, w4, w5⟩ => l.nx (E g) S5 σ5 H5 Hd5 w1 w2 (w4.use w3) (k g S5 w5), l.rt, l.bk, l.ct⟩⟩
end DL
namespace DL
open PySem PySem.Spec PyProof.Rows L2
/-- slots forgotten; slots with values -/
def fgt : List Nat → DEnv → DEnv
  | [], en => en
  | k :: ks, en => fgt ks (en.set k none)
def putU : List (Nat × D) → DEnv → DEnv
  | [], en => en
  | (k, d) :: us, en => putU us (en.set k (some d))
section
variable {X : Cx} {c tg iter : Expr} {body : List Stmt} {en : DEnv} {S : Sto} {Z : Dn} {pos : Pos}
theorem ds_forG {γ : Type} (ks : List Nat) (hp : PassesOwn (model X.prog X.w) X.A X.env X.xe) (hc : X.calm = true)
    (h : DI X tg iter en S fun ds S1 => ∃ (U : γ → List (Nat × D)) (E : γ → DEnv) (_ : ∀ g, putU (U g) (fgt ks en) = E g) (P : Nat → γ → Sto → Prop) (g0 : γ), Wk en (E g0) ∧ P 0 g0 S1 ∧
      (∀ i d g S', ds[i]? = some d → P i g S' → DG X tg d (E g) S' fun en2 S2 => DS X body en2 S2 { nx := fun en3 S3 => ∃ g', Wk en3 (E g') ∧ P (i + 1) g' S3, rt := Z.rt, ct := fun en3 S3 => ∃ g', Wk en3 (E g') ∧ P (i + 1) g' S3, bk := Z.nx }) ∧
      ∀ g S', P ds.length g S' → Z.nx (E g) S') (hs : ∀ x, foldedSetIterable iter X.env x = pure x := by first | exact fset rfl | (intro _; rfl)) : DS1 X (.For tg iter body [] pos) en S Z := by
  refine ds_for (γ := γ) hp hc ⟨fun σ H Hd st re => ?_⟩ hs
  intro pins s I
  refine thn (DI.run h σ H Hd st re pins s I) fun v s1 h1 => thn h1 fun itv s2 h2 => ?_
  obtain ⟨it, fp, tn, J, H2, e, I2, T, st2, f2, ds, S1, Hd1, e1, s01, io, U, E, _, P, g0, wk, p0, turn, fin⟩ := h2
  exact ⟨it, fp, tn, J, H2, e, I2, T, st2, f2, ds, S1, Hd1, e1, s01, io, E, P, g0, wk, p0, turn, fin⟩
theorem ds_whileG {γ : Type} (ks : List Nat) (hp : PassesOwn (model X.prog X.w) X.A X.env X.xe) (U : γ → List (Nat × D)) (E : γ → DEnv) (_ : ∀ g, putU (U g) (fgt ks en) = E g) (P : γ → Sto → Prop) (μ : γ → Nat) (g0 : γ) (w0 : Wk en (E g0)) (p0 : P g0 S)
    (h : ∀ g S', P g S' → DT X c (E g) S' fun t S1 => (t = true → DS X body (E g) S1 { nx := fun en3 S3 => ∃ g', Wk en3 (E g') ∧ P g' S3 ∧ μ g' < μ g, rt := Z.rt, ct := fun en3 S3 => ∃ g', Wk en3 (E g') ∧ P g' S3 ∧ μ g' < μ g, bk := Z.nx }) ∧ (t = false → Z.nx (E g) S1)) :
    DS1 X (.While c body [] pos) en S Z := ds_while hp E P μ g0 w0 p0 h
end
end DL
namespace DL
open PySem PySem.Spec PyProof.Rows L2
section
variable {X : Cx} {K : PySem.W.Frag} {S : Sto} {Q : D → Sto → Prop}
end
end DL
namespace DL
open PySem PySem.Spec PyProof.Rows L2
/-! ### comprehensions with several targets -/
theorem RpE.drop {K : PySem.W.Frag} {H : Hp} : ∀ {en : DEnv} {σ : L2.St} (i : Nat), RpE K H en σ → RpE K H (en.set i none) (σ.set i none)
  | [], _, _, h => by
    have h : _ = [] := h
    subst h
    rfl
  | none :: es, _, 0, h => let ⟨o, σ', e1, e2⟩ := h; ⟨none, σ', by rw [e1] <;> rfl, e2⟩
  | some x :: es, _, 0, h => let ⟨o, σ', e1, _, e2⟩ := h; ⟨none, σ', by rw [e1] <;> rfl, e2⟩
  | none :: es, _, i + 1, h => let ⟨o, σ', e1, e2⟩ := h; ⟨o, σ'.set i none, by rw [e1] <;> rfl, e2.drop i⟩
  | some x :: es, _, i + 1, h => let ⟨o, σ', e1, e0, e2⟩ := h; ⟨o, σ'.set i none, by rw [e1] <;> rfl, e0, e2.drop i⟩
section
variable {X : Cx} {elt iter c tg : Expr} {en : DEnv} {S : Sto} {Q : D → Sto → Prop} {pos : Pos} {scope : Scope} {ifs : List Expr} {tt : TT}
variable {own : List (Str × Nat)} {n : Nat}
end
end DL
namespace DL
open PySem PySem.Spec PyProof.Rows L2
/-! ### in, not in over any data; is None; repr of plain values -/
theorem flat9l {l : List D} (h : flatOkL 8 l = true) : flatOk 9 (.lst l) = true := by simpa [flatOk] using h
section
variable {X : Cx} {a b c e : Expr} {en : DEnv} {S : Sto} {Q : D → Sto → Prop} {P : Bool → Sto → Prop} {pos p : Pos}
/-- x -= e, of whole numbers -/
theorem ds_augS {Z : Dn} {x : Str} {e : Expr} {i : Int} (k : Nat) (hN : X.N.Nodup) (hk : X.N[k]? = some x) (hx : X.env.scope.names.lookup x = some .local) (he : en[k]? = some (some (.int i)))
    (h : DE X e en S fun d S1 => ∃ j, d = .int j ∧ Z.nx (en.set k (some (.int (i - j)))) S1) : DS1 X (.AugAssign (.Name x p) .Sub e pos) en S Z := ⟨fun σ H Hd st re De l => by
  refine wS_of (ps_aug hN hk (.inl hx) peW ip_sub (.inr hx)) ?_
  obtain ⟨v, e1, rv⟩ := re.get he
  have rv : v = V.int i := rv
  subst rv
  refine ⟨_, e1, ?_⟩
  refine wE_mono (h σ H Hd st re) fun w H1 ⟨d, S1, Hd1, z1, st1, r1, j, e2, q⟩ => ?_
  subst e2
  have r1 : w = V.int j := r1
  subst r1
  exact ⟨i, j, rfl, rfl, l.nx _ S1 _ H1 Hd1 z1 st1 ((re.mono z1).set (d := .int (i - j)) rfl k) q⟩⟩
/-- xs[::-1] -/
theorem de_rev {k : Nat} {p1 p2 p3 : Pos} (h : DE X e en S fun d S1 => ∃ l, d = .lst l ∧ Q (.lst l.reverse) S1) : DE X (.Subscript e (.Slice none none (some (.UnaryOp .USub (.Constant (.int 1) k p1) p2)) p3) pos) en S Q := ⟨fun σ H Hd st re => by
  refine wE_of (pe_revL peW) ?_
  refine wE_mono (h σ H Hd st re) fun v H1 ⟨d, S1, Hd1, e1, st1, r1, l, e2, q⟩ => ?_
  subst e2
  obtain ⟨a, xs, f1, f2, f3⟩ := r1
  refine ⟨a, xs, f1, .of (st1.sub _ _ f2), fun p hp => .up e1 (new_lst st1 (l := l.reverse) (xs := xs.reverse) ?_ hp q)⟩
  clear q f2 f1 a hp
  revert xs
  induction l with
  | nil =>
    intro xs r
    have r : xs = [] := r
    subst r
    rfl
  | cons d l ih =>
    intro xs r
    obtain ⟨x, ys, rfl, r1, r2⟩ := r
    rw [List.reverse_cons, List.reverse_cons]
    exact (ih ys r2).append (show RpL X.K Hd1 [d] [x] from ⟨x, [], rfl, r1, rfl⟩)⟩
end
end DL
namespace DL
open PySem PySem.Spec PyProof.Rows L2
/-! ### sorted over data -/
end DL
namespace DL
open PySem PySem.Spec PyProof.Rows L2
/-! ### constants of the module -/
section
variable {X : Cx} {en : DEnv} {S : Sto} {Q : D → Sto → Prop} {pos : Pos}
theorem de_globI2 {x : Str} {i : Int} (h : ∃ u, X.mg x = some (.int i u)) (q : Q (.int i) S) (hg : Gl X x := by rfl) (hd : (x == ("__debug__" : Str)) = false := by decide) : DE X (.Name x pos) en S Q := by
  obtain ⟨u, hm⟩ := h
  exact de_globI hm q hg hd
theorem de_globT {x : Str} {d : D} (h : ∃ a, X.mg x = some (.ref a) ∧ Rp X.K (fun _ => none) d (.ref a)) (q : Q d S) (hg : Gl X x := by rfl) (hd : (x == ("__debug__" : Str)) = false := by decide) : DE X (.Name x pos) en S Q := ⟨fun σ H Hd st re => by
  obtain ⟨a, hm, r⟩ := h
  exact wE_of (pe_glob (v := .ref a) hg hm rfl hd) (.here (d := d) st (Rp.mono (fun _ _ z => by cases z) d _ r) q)⟩
end
section
variable {K : PySem.W.Frag} {H : Hp} {a : Addr} {od : Option Addr} {n : Nat} {sl : Array (Option Value)}
theorem rp_pairK {i j : Int} {t u : Tok} (l : K.lookup a = some ⟨.type "tuple", od, .seq #[.int i t, .int j u] n, sl⟩) : Rp K H (.tup [.int i, .int j]) (.ref a) :=
  ⟨a, [.int i, .int j], rfl, .inr ⟨_, #[.int i t, .int j u], n, l, rfl, rfl, (by show 2 ≤ sizeLine; decide), .cons ⟨t, rfl⟩ (.cons ⟨u, rfl⟩ .nil)⟩, ⟨_, _, rfl, rfl, _, _, rfl, rfl, rfl⟩⟩
theorem vals_refs : ∀ as : List Addr, Vals (as.map V.ref) (as.map Value.ref)
  | [] => .nil
  | a :: as => .cons rfl (vals_refs as)
theorem rp_tupsK {as : List Addr} {ds : List D} (l : K.lookup a = some ⟨.type "tuple", od, .seq (as.map Value.ref).toArray n, sl⟩) (hs : as.length ≤ 1000) (r : RpL K H ds (as.map V.ref)) : Rp K H (.tup ds) (.ref a) :=
  ⟨a, as.map V.ref, rfl, .inr ⟨_, (as.map Value.ref).toArray, n, l, rfl, rfl, by rw [List.size_toArray, List.length_map]; exact Nat.le_trans hs (by show 1000 ≤ sizeLine; decide), by simpa using vals_refs as⟩, r⟩
theorem rpl_cons {d : D} {ds : List D} {v : V} {vs : List V} (r : Rp K H d v) (k : RpL K H ds vs) : RpL K H (d :: ds) (v :: vs) := ⟨v, vs, rfl, r, k⟩
theorem rpl_nil : RpL K H [] [] := rfl
end
end DL
namespace DL
open PySem PySem.Spec PyProof.Rows L2
/-! ### comprehensions that give a list that may be changed -/
section
variable {X : Cx} {elt iter c : Expr} {en : DEnv} {S : Sto} {Q : D → Sto → Prop} {pos py : Pos} {y : Str} {scope : Scope}
variable {ifs : List Expr} {tt : TT}
end
section
variable {X : Cx} {elt iter c tg : Expr} {en : DEnv} {S : Sto} {Q : D → Sto → Prop} {pos : Pos} {scope : Scope} {ifs : List Expr} {tt : TT}
variable {own : List (Str × Nat)} {n : Nat}
end

/-! ### data with changed lists in it, as it stands -/
end DL
/-! An error class of the program whose __init__ says super().__init__(f"..{x}"), self.x = x: made, held, its field read. -/
namespace PySem
namespace LimX
open PySem.W PySem.Calls PyProof.Rows PySem.HandSPX
abbrev iA (fld : Str) (p1 p2 : Pos) : Arguments := { posonlyargs := [], args := [{ arg := "self", annotation := none, pos := p1 }, { arg := fld, annotation := none, pos := p2 }], vararg := none, kwonlyargs := [], kw_defaults := [], kwarg := none, defaults := [] }
abbrev iB (fld pre : Str) (q1 q2 q3 q4 q5 q6 q7 q8 q9 r1 r2 r3 r4 : Pos) : List Stmt :=
  [.Expr (.Call (.Attribute (.Call (.Name "super" q1) [] [] q2) "__init__" q3) [.JoinedStr [.Constant (.str pre) 0 q4, .FormattedValue (.Name fld q5) (-1) none q6] q7] [] q8) q9, .Assign [.Attribute (.Name "self" r1) fld r2] (.Name fld r3) r4]
abbrev iS (fld : Str) : Scope := { kind := .function, names := [(PySem.Str.ofString "self", .local), (fld, .local), (PySem.Str.ofString "__class__", .free), (PySem.Str.ofString "super", .globalImplicit)], isGenerator := false, isCoroutine := false, more := [] }
/-- what the written part says of the class x, at C -/
structure LimTxt (prog : Program) (K : Frag) (mg : Str → Option Value) (x qual fld pre : Str) (C fI : Addr) : Prop where
  gC : mg x = some (.ref C)
  cls : ∃ nm q N bs bm sn sub ab col dd k0 k1 k2 k3 k5, K.lookup C = some (excClassObj nm q C N bs bm true sn sub ab col dd k0 k1 k2 k3 k5 "ValueError.__new__") ∧ refsVE bm = true
  sa : findIn K (.ref C) "__setattr__" = some (some (.builtin "object.__setattr__"))
  ga : findIn K (.ref C) "__getattribute__" = some (some (.builtin "BaseException.__getattribute__"))
  gg : findIn K (.ref C) "__getattr__" = some none
  noN : findIn K (.ref C) fld = some none
  iC : findIn K (.ref C) "__init__" = some (some (.ref fI))
  tC : typeIn K (.ref fI) = some (.type "function")
  kC : keepIn K (.ref C) = true
  exC : subIn K (.ref C) (.type "BaseException") = some true
  veC : subIn K (.ref C) (.type "ValueError") = some true
  tyC : typeIn K (.ref C) = some (.type "type")
  hdC : hasDictIn K C = true
  sup : ks_superIn K C C "__init__" = some (some (.builtin "ValueError.__init__"))
  any : nsIn K cStatics "thirdparty.any" = some none
  sG : mg "super" = none
  top : (prog.main.scope.names.lookup ("super" : Str)).isSome = false
  fn : ∃ (oc : Value) (od : Option Addr) (kV doc pm : Value) (an : Option Addr) (ct : Value) (osl : Array (Option Value)) (cc cda : Addr) (p1 p2 q1 q2 q3 q4 q5 q6 q7 q8 q9 r1 r2 r3 r4 : Pos) (cl : Value) (cld : Option Addr) (csl : Array (Option Value)) (ccl : Value) (cdd : Option Addr) (ccs : Array (Option Value)) (vs : Array Value) (file : Str) (tf : Tok),
    K.lookup fI = some ⟨oc, od, .func (ksFn "__init__" qual (iA fld p1 p2) (iB fld pre q1 q2 q3 q4 q5 q6 q7 q8 q9 r1 r2 r3 r4) (iS fld) .none kV doc pm an (.ref cda) ct cc), osl⟩ ∧ codeIn K (.ref cda) qual = true ∧
    K.lookup cc = some ⟨cl, cld, .cell (some (.ref C)), csl⟩ ∧ K.lookup cda = some ⟨ccl, cdd, .fields vs, ccs⟩ ∧ vs[2]? = some (.str file tf) ∧ ((prog.main.file : Str) == file) = true ∧ (q3.endLine == q8.line) = true
/-- what __init__ leaves of a fresh exception at x -/
structure InitEnd (h h' : Heap) (fld : Str) (x C dx t1 : Addr) (v : Value) : Prop where
  keep : ∀ b o, b ≠ x → h.get? b = some o → h'.get? b = some o
  obj : h'.get? x = some { cls := .ref C, dict := some dx, data := .fields #[.ref t1, .none, .none, .none, .bool false, .none] }
  dbig : h.objs.size ≤ dx
  dne : dx ≠ x
  ns : h'.Ns1 dx (fun y => if y = fld then some v else none)
/-- a made error -/
structure OwnMade (h h' : Heap) (fld : Str) (e C d : Addr) (v : Value) : Prop where
  keep : ∀ b o, h.get? b = some o → h'.get? b = some o
  new : h.objs.size ≤ e
  obj : ∃ oe vs, h'.get? e = some oe ∧ oe.cls = .ref C ∧ oe.dict = some d ∧ oe.data = .fields vs ∧ vs[1]? = some .none
  dbig : h.objs.size ≤ d
  dne : d ≠ e
  ns : h'.Ns1 d (fun y => if y = fld then some v else none)
/-- the value is shown as this text in an f-string -/
def FmtOk (prog : Program) (w : World) (v : Value) (txt : Str) : Prop := ∀ (A : Around) (E : Value → Shared → Prop) (s : Shared) (Q : Value → Shared → Prop), (∀ t tk, Q (.str txt t) { s with toks := tk }) → wpAny (model prog w) A (formatField v Str.empty) Q E s
theorem fmt_int {prog : Program} {w : World} {i : Int} {t : Tok} (h : i.natAbs.log2 < 1920) : FmtOk prog w (.int i t) (toString i) := fun A E s Q q => wpAny_formatField_int h (q _ _)
theorem fmt_none {prog : Program} {w : World} : FmtOk prog w .none "None" := fun A E s Q q => wpAny_formatField_none (q _ _)
section
variable {prog : Program} {w : World} {A : Around} {E : Value → Shared → Prop} {R : Result → Shared → Prop} {s : Shared} {K : Frag} {mg : Str → Option Value} {C fI : Addr} {x qual fld pre : Str}
/-- o.name(a), all on one line -/
theorem wpAt_mc {c : Code} {o a : Expr} {name : Str} {apos pos : Pos} {env : Env} {Q : Value → Shared → Prop} (hline : (apos.endLine == pos.line) = true) (ha : starEach [a] env = [(false, eval a env)])
    (h : _root_.PySem.wpAt (model prog w) A c (attributeBase o name env (eval o env)) (fun ov s₁ => wpAny (model prog w) A (getMethod ov name (do return (← importBound o env).getD true)) (fun fx s₂ => wpAny (model prog w) A (callWith pos fx.1 fx.2 (backTo pos (starEach [a] env)) []) Q E s₂) E s₁) E s) :
    _root_.PySem.wpAt (model prog w) A c (eval (.Call (.Attribute o name apos) [a] [] pos) env) Q E s := by
  rw [arm_eval_Call]
  refine wpAt_bind (ks_wpAt_mono h (fun ov s₁ h₁ => wpAt_of_wpAny (wpAny_bind (wpAny_standAt ?_))) fun _ _ z => z)
  have hk : backToKw pos (keywordEach [] env) = [] := rfl
  have hform : methodCallForm (([a] : List Expr).length + ([] : List Keyword).length) (backTo pos (starEach [a] env)) (backToKw pos (keywordEach [] env)) = true := by rw [ha] <;> rfl
  have hpos : methodCallPos true o env apos pos = pure pos := by unfold methodCallPos; simp [hline]
  unfold methodCall
  rw [hform]
  refine wpAny_bind (wpAny_holding (wpAny_mono h₁ (fun fx s₂ h₂ => ?_) fun _ _ z => z))
  exact wpAny_bind (wpAny_of_eq hpos h₂)
theorem call_mw {h : Heap} {g : Array GenState} {d : Drawn} {t : Nat} {os : OsState} {nm q : Str} {N : Addr} {bs bm : List Value} {sn : List Str} {sub : List Value} {ab : Bool} {col : Option Bool} {dd : Option Addr} {k0 k1 k2 k3 k5 : Option Value} {u e t0 : Addr} {rest : List Value} {Q : Value → Shared → Prop}
    (hC : h.get? C = some (excClassObj nm q C N bs bm true sn sub ab col dd k0 k1 k2 k3 k5 "ValueError.__new__")) (he : h.get? e = some (excO C t0)) (hu : h.get? u = some (kxs_mw "ValueError.__init__" e)) (hrest : rest.length ≤ sizeLine)
    (hq : ∀ h' t1, (∀ b o, b ≠ e → h.get? b = some o → h'.get? b = some o) → h'.get? e = some (excO C t1) → Q .none ⟨h', g, d, t, os⟩) :
    wpAny (model prog w) A (call (.ref u) rest) Q E ⟨h, g, d, t, os⟩ := by
  refine wpAny_call (codeAny_of_tree ?_)
  show wpAny _ A.in1 (callAny (.ref u) ⟨rest, []⟩) _ _ _
  simp only [callAny]
  refine wpAny_bind (wpAny_load hu ?_)
  simp only [kxs_mw, show (Value.type "method-wrapper" == Value.type "method" || Value.type "method-wrapper" == Value.type "builtin_function_or_method" || Value.type "method-wrapper" == Value.type "method-wrapper") = true by decide, if_true]
  refine KFB.if_so (by decide) ?_
  refine wpAny_bind (check_bound_init F.excBase_ValueError.toExcCallFacts hC he rfl ?_)
  refine wpAny_bind (wpAny_pure (wpAny_pure ?_))
  refine ⟨plainId_quiet F.excBase_ValueError.init.plain _, codeAny_builtin F.excBase_ValueError.initEntry ?_⟩
  exact exc_init_tree (cls := .ref C) (t0 := t0) (dv := none) (c2 := .none) (c3 := .none) (b4 := .bool false) he hrest fun h' k e' _ => hq h' _ k e'
theorem kx1 {M : Model} {i : String} {u y : Addr} {pos : Pos} {env : Env} {a : Expr} {Q : Value → Shared → Prop}
    (h : wpAny M A (eval a env) (fun v s₁ => KxsAt i u y s₁.heap ∧ wpAny M A (call (.ref u) [v]) Q E s₁) E s)
    (he : starEach [a] env = (false, eval a env) :: starEach [] env) :
    wpAny M A (callWith pos (.ref u) [] (backTo pos (starEach [a] env)) []) Q E s := by
  rw [he]
  refine kxs_callWith (i := i) (x := y) (by first | rfl | with_unfolding_all rfl) ?_
  refine evalArgs_plain (spliced_cons (wpAny_mono h (fun v s₁ hh => ?_) fun _ _ z => z))
  exact spliced_nil hh
theorem ldC {M : Model} {s : Shared} {A : Around} {E : Value → Shared → Prop} {env : Env} {m : Str → Option Value} {y : Str} {pos : Pos} {v : Value} {Q : Value → Shared → Prop} (hn : s.heap.Ns env.locals m) (hv : m y = some v) (h : Q v s)
    (hk : env.scope.kind = .function) (hl : env.kindOf y = some .local) (hd : (y == ("__debug__" : Str)) = false) : wpAny M A (eval (.Name y pos) env) Q E s := wpAny_Name (wpAny_loadName_local hk hl hn hv h) hd
/-- what the field's name must be -/
structure FldOk (fld : Str) : Prop where
  f1 : (fld == ("self" : Str)) = false
  f2 : (("self" : Str) == fld) = false
  fs : (iS fld).names.lookup fld = some .local
  fd : (fld == ("__debug__" : Str)) = false
  sc : (iS fld).names.lookup ("super" : Str) = some .globalImplicit
  cl : (iS fld).names.lookup ("__class__" : Str) = some .free
  se : (iS fld).names.lookup ("self" : Str) = some .local
  bi : ∀ (qual : Str) (p1 p2 : Pos) (body : List Stmt) (kV doc pm : Value) (an : Option Addr) (cdv ct : Value) (cc : Addr) (e v : Value), bindArgs (ksFn "__init__" qual (iA fld p1 p2) body (iS fld) .none kV doc pm an cdv ct cc) ⟨[e, v], []⟩ = pure [(("self" : Str), e), (fld, v)]
theorem fld_limit : FldOk "limit" := ⟨by decide +kernel, by decide +kernel, by decide +kernel, by decide +kernel, by decide +kernel, by decide +kernel, by decide +kernel, fun _ _ _ _ _ _ _ _ _ _ _ _ _ => rfl⟩
theorem fld_index : FldOk "index" := ⟨by decide +kernel, by decide +kernel, by decide +kernel, by decide +kernel, by decide +kernel, by decide +kernel, by decide +kernel, fun _ _ _ _ _ _ _ _ _ _ _ _ _ => rfl⟩
theorem lim_init (T : LimTxt prog K mg x qual fld pre C fI) {e t0 : Addr} {v : Value} {txt : Str} (hv : FmtOk prog w v txt) (X : K.In s.heap) (hlim : s.heap.NoLimit) (hg : s.heap.Ns mainGlobals mg) {mb : Str → Option Value} (hb : s.heap.Ns builtinsNs mb) (hbs : mb "super" = some (.type "super"))
    (he : s.heap.get? e = some (excO C t0)) (hne : K.lookup e = none) (hroom : A.depth < recursionLimit) (hz : (Str.empty ++ pre ++ txt).length ≤ sizeLine) (hz1 : (Str.empty ++ pre).length ≤ sizeLine) (L : FldOk fld)
    (hq : ∀ h' tk dx t1, InitEnd s.heap h' fld e C dx t1 v → R (.ok (.ret .none)) { s with heap := h', toks := tk }) :
    codeAny (model prog w) A (.call (.ref fI) ⟨[.ref e, v], []⟩) R s := by
  obtain ⟨oc, od, kV, doc, pm, an, ct, osl, cc, cda, p1, p2, q1, q2, q3, q4, q5, q6, q7, q8, q9, r1, r2, r3, r4, cl, cld, csl, ccl, cdd, ccs, vs, file, tf, ho, hcd, hcell, hcode, hvs, hfile, hline⟩ := T.fn
  obtain ⟨nm, q, N, bs, bm, sn, sub, ab, col, dd, k0, k1, k2, k3, k5, hC, hbm⟩ := T.cls
  have hcls : clsIn K C = some { name := nm, bases := bs, mro := .ref C :: bm, ns := N, qualname := q, hasDict := true, slotNames := sn, subclasses := sub, abstract := ab, collection := col, hasDel := false } := by unfold clsIn; rw [hC] <;> rfl
  have hsup := T.sup
  unfold ks_superIn at hsup
  rw [hcls] at hsup
  refine ks_codeAny_call_defAt (fd := ksFn "__init__" qual (iA fld p1 p2) (iB fld pre q1 q2 q3 q4 q5 q6 q7 q8 q9 r1 r2 r3 r4) (iS fld) .none kV doc pm an (.ref cda) ct cc) (body := iB fld pre q1 q2 q3 q4 q5 q6 q7 q8 q9 r1 r2 r3 r4) (binds := [("self", .ref e), (fld, v)]) hroom (X _ _ ho) rfl hlim (codeRec_of X hcd) rfl (BindsTo.of_eq (L.bi ..)) ?_ ?_ (fun h₁ hns hk₁ => ?_) rfl rfl rfl
  · intro y hy
    simp only [ksFn, fnX, iS, List.mem_cons, List.not_mem_nil, or_false] at hy
    rcases hy with rfl | rfl | rfl | rfl <;> exact fun z => by cases z
  · intro y hy
    simp only [List.mem_cons, List.not_mem_nil, or_false] at hy
    rcases hy with rfl | rfl
    · exact L.se
    · exact L.fs
  have X₁ : K.In h₁ := X.keeps hk₁
  have he₁ := hk₁ _ _ he
  have heL : s.heap.objs.size ≠ e := Nat.ne_of_gt (Heap.lt_size he)
  have ms : (fun y => ([("self", Value.ref e), (fld, v)] : List (Str × Value)).reverse.lookup y) ("self" : Str) = some (.ref e) := by
    show List.lookup ("self" : Str) [(fld, v), ("self", Value.ref e)] = _
    rw [List.lookup_cons, L.f2]
    rfl
  have mf : (fun y => ([("self", Value.ref e), (fld, v)] : List (Str × Value)).reverse.lookup y) fld = some v := by
    show List.lookup fld [(fld, v), ("self", Value.ref e)] = _
    rw [List.lookup_cons, beq_self_eq_true]
  have hsub : mroIn K C (.ref C) = some true := by
    unfold mroIn
    rw [hcls, Option.bind_some, if_neg (show ¬ (List.isEmpty (Value.ref C :: bm) = true) from Bool.false_ne_true), List.contains_cons, beq_self_eq_true] <;> rfl
  -- super().__init__(f"..")
  refine ks_wpAt_execs_cons (ks_wpAt_Expr_any (wpAt_mc hline (by first | rfl | with_unfolding_all rfl) ?_))
  refine ks_wpAt_super_base (f := fI) (cc := cda) (ar := { arg := "self", annotation := none, pos := p1 }) L.sc L.cl rfl rfl (hk₁ _ _ (X _ _ ho)) rfl rfl rfl (hk₁ _ _ (X _ _ hcode)) rfl hvs hfile T.top ?_
  refine ks_loadName_global rfl L.sc (loadGlobal_builtin (hg.keeps hk₁) T.sG (hb.keeps hk₁) hbs ⟨rfl, ?_⟩)
  refine wpAny_loadName_free rfl L.cl rfl ⟨_, X₁ _ _ hcell, rfl⟩ ?_
  refine wpAny_loadName_local rfl L.se hns ms ?_
  refine ks_wpAny_isType_cls (X₁ _ _ hC) rfl ⟨rfl, ?_⟩
  refine ks_wpAny_call_super (X₁ _ _ hC) rfl he₁ rfl (fun c z => by cases z) (looks_mroIn X₁ hsub) (fun h₂ hso k₂ => ?_)
  have X₂ : K.In h₂ := X₁.keeps k₂
  have he₂ := k₂ _ _ he₁
  have I₂ : InstAt h₂ e (excO C t0) C none := ⟨he₂, rfl, rfl, trivial⟩
  have hsoe : h₁.objs.size ≠ e := Nat.ne_of_gt (Heap.lt_size he₁)
  refine kxs_getMethod kxs_ValueError hso (looks_opaque X₂ T.any) (l₀ := .ref C :: bm) (fun A Q E s k q => wpAny_bind ((looks_clsIn X₂ hcls) A _ E s k (wpAny_pure q))) rfl X₂ hsup (I₂.type.andThen (looks_subIn X₂ T.veC)) (ks_ne X₂ I₂ hcls) (by decide +kernel) ?_
  have kw : ∀ b o, h₂.get? b = some o → (h₂.push (kxs_mw "ValueError.__init__" e)).get? b = some o := fun b o z => Heap.get?_push_of_some _ z
  refine kx1 (i := "ValueError.__init__") (y := e) ?_ (by first | rfl | with_unfolding_all rfl)
  refine JoinedStr_many ?_
  refine joinParts_cons ?_
  refine Constant_str ⟨hz1, ?_⟩
  have hns₂ := hns.keeps (fun b o z => kw b o (k₂ b o z))
  refine joinParts_cons (FormattedValue_plain (ldC hns₂ mf (hv _ _ _ _ fun t tk => ⟨hz, joinParts_nil ?_ hz⟩) rfl L.fs L.fd))
  have hbm' : refsVE (.ref C :: bm) = true := hbm
  refine ⟨Heap.get?_push_at rfl rfl, call_mw (kw _ _ (k₂ _ _ (hk₁ _ _ (X _ _ hC)))) (kw _ _ he₂) (Heap.get?_push_at rfl rfl) (by show 1 ≤ sizeLine; rw [sizeLine_eq]; decide) fun h₃ t1 k₃ he₃ => ?_⟩
  have neE : ∀ {b : Addr} {o : Obj}, K.lookup b = some o → b ≠ e := fun {b o} z y => by
    rw [y, hne] at z
    cases z
  have X₃ : K.In h₃ := fun a o z => k₃ a o (neE z) (kw _ _ (k₂ _ _ (X₁ _ _ z)))
  obtain ⟨oL, esL, epL, hL, rL⟩ := hns₂
  have hns₃ : h₃.Ns s.heap.objs.size (fun y => ([("self", Value.ref e), (fld, v)] : List (Str × Value)).reverse.lookup y) := ⟨oL, esL, epL, k₃ _ _ heL hL, rL⟩
  -- self.fld = fld
  show _root_.PySem.wpAt _ _ _ (execs _ _) _ _ _
  refine wpAt_of_wpAny (wpAny_execs_cons (plainObj_wpAny_Assign_Attribute ?_ (by first | rfl | with_unfolding_all rfl)))
  refine ldC hns₃ mf (ldC hns₃ ms ?_ rfl L.se (by decide +kernel)) rfl L.fs L.fd
  refine set_plain X₃ (ox := excO C t1) (od := none) ⟨he₃, rfl, rfl, trivial⟩ T.sa ?_
  refine exc_osa X₃ he₃ hcls hbm' rfl T.noN (fun h₄ tk₄ dx k₄ dn dne he₄ hn₄ => ?_)
  have big : s.heap.objs.size ≤ dx := Nat.le_trans (Nat.le_of_lt (Heap.lt_size (k₃ _ _ heL hL))) dn
  exact wpAny_execs_nil (hq h₄ tk₄ dx t1 ⟨fun b o hb z => k₄ b o hb (k₃ b o hb (kw _ _ (k₂ _ _ (hk₁ _ _ z)))), he₄, big, dne, hn₄⟩)
theorem lim_made (T : LimTxt prog K mg x qual fld pre C fI) {v : Value} {txt : Str} (hv : FmtOk prog w v txt) (X : K.In s.heap) (hlim : s.heap.NoLimit) (hg : s.heap.Ns mainGlobals mg) {mb : Str → Option Value} (hb : s.heap.Ns builtinsNs mb) (hbs : mb "super" = some (.type "super"))
    (hz : (Str.empty ++ pre ++ txt).length ≤ sizeLine) (hz1 : (Str.empty ++ pre).length ≤ sizeLine) (L : FldOk fld) (hroom : A.depth + 1 < recursionLimit)
    (hq : ∀ h' tk e d, OwnMade s.heap h' fld e C d v → R (.ok (.ret (.ref e))) { s with heap := h', toks := tk }) :
    codeAny (model prog w) A (.call (.ref C) ⟨[v], []⟩) R s := by
  obtain ⟨nm, q, N, bs, bm, sn, sub, ab, col, dd, k0, k1, k2, k3, k5, hC, hbm⟩ := T.cls
  obtain ⟨hp, g, dr, tk, os⟩ := s
  have k : ∀ b o, hp.get? b = some o → ((hp.push (kdv_tup [v])).push (excO C hp.objs.size)).get? b = some o := fun b o e => Heap.get?_push_of_some _ (Heap.get?_push_of_some _ e)
  have hget : ((hp.push (kdv_tup [v])).push (excO C hp.objs.size)).get? (hp.objs.size + 1) = some (excO C hp.objs.size) := by heap_get
  have hnx : K.lookup (hp.objs.size + 1) = none := by
    cases e : K.lookup (hp.objs.size + 1) with
    | none => rfl
    | some o =>
      have z : hp.get? (hp.objs.size + 1) = some o := X _ _ e
      exact absurd (Nat.lt_of_succ_lt (Heap.lt_size z)) (Nat.lt_irrefl _)
  refine call_own F.excBase_ValueError (fun X => refsVE_contains X bm hbm) (X _ _ hC) (looks_findIn X T.iC) (fun self => bind_fn X self T.tC) (by show 1 ≤ sizeLine; rw [sizeLine_eq]; decide) ?_
  refine lim_init (s := ⟨(hp.push (kdv_tup [v])).push (excO C hp.objs.size), g, dr, tk, os⟩) T hv (X.keeps k) (hlim.keeps k) (hg.keeps k) (hb.keeps k) hbs hget hnx ?_ hz hz1 L fun h' tk' dx t1 ⟨k', hx, dn, dne, hns⟩ => ?_
  · show A.depth + 1 < recursionLimit
    exact hroom
  · have old : ∀ b o, hp.get? b = some o → h'.get? b = some o := fun b o e => k' b o (Nat.ne_of_lt (Nat.lt_succ_of_lt (Heap.lt_size e))) (k b o e)
    have z : hp.objs.size + 1 + 1 ≤ dx := by
      first
        | (simpa only [Heap.size_push] using dn)
        | exact dn
        | (have q := dn; rw [Heap.size_push, Heap.size_push] at q; exact q)
    exact ⟨rfl, hq h' tk' (hp.objs.size + 1) dx ⟨old, Nat.le_succ _, ⟨_, _, hx, rfl, rfl, rfl, rfl⟩, Nat.le_trans (Nat.le_trans (Nat.le_succ _) (Nat.le_succ _)) z, dne, hns⟩⟩
end
end LimX
end PySem
namespace L2
open PySem PySem.Spec PyProof.Rows
theorem relO_lim {v : V} {v' : Value} {fld : Str} (r : RelV v v') (f : Str) : RelO (List.lookup f [(fld, v)]) (if f = fld then some v' else none) := by
  by_cases hw : f = fld
  · subst hw
    rw [if_pos rfl]
    have q : List.lookup f [(f, v)] = some v := by simp [List.lookup]
    rw [q]
    exact r
  · rw [if_neg hw]
    have qw : (f == fld) = false := by simpa using hw
    have q2 : List.lookup f [(fld, v)] = none := by simp [List.lookup, qw]
    rw [q2]
    trivial
section
variable {X : Cx} {C fI : Addr} {x qual fld pre : Str}
/-- C(e): an error with a field; txt: how the field is shown -/
def tMkLim (X : Cx) (C : Addr) (fld pre : Str) (ta : TA) : St → Hp → XK → Prop := fun σ H Q => ta σ H fun vs H1 => ∃ v, vs = [v] ∧ (∀ u, RelV v u → ∃ txt, PySem.LimX.FmtOk X.prog X.w u txt ∧ (Str.empty ++ pre ++ txt).length ≤ sizeLine) ∧ ∀ d, H1 d = none → Q (.ref C) (some d) (upd H1 d (.xd [(fld, v)]))
theorem pmk_lim {a : Expr} {ta : TA} {p pos : Pos} {k : Nat} (T : PySem.LimX.LimTxt X.prog X.K X.mg x qual fld pre C fI) (L : PySem.LimX.FldOk fld) (hz1 : (Str.empty ++ pre).length ≤ sizeLine) (hr : Room k X.A) (ha : PA X [a] ta) (hg : Gl X x)
    (he : starEach (a :: []) X.env = (false, eval a X.env) :: starEach [] X.env := by rfl) (hpl : (backTo pos (starEach [] X.env)).any (·.1) = false := by rfl) (hdb : (x == ("__debug__" : Str)) = false := by decide) :
    PMk X (.Call (.Name x p) [a] [] pos) (tMkLim X C fld pre ta) := by
  intro pins s σ H Q I h
  refine wpAny_Call_Name_kw (ld_glob I hg T.gC ?_ hdb)
  refine PySem.W.callWith_K (h₀ := X.base) I.ok.mod.kin T.kC (thn (ha.run pos pins s σ H _ I h) fun us s1 hh => ?_) he hpl
  obtain ⟨vs, H1, I1, r1, v, ev, hf, q1⟩ := hh
  subst ev
  refine ⟨I1.kIn, ?_⟩
  cases r1 with
  | cons rv rn =>
    rename_i v' us'
    cases rn
    show wpAny _ _ (call (.ref C) [v']) _ _ _
    have hlim := I1.nolimit
    obtain ⟨txt, hfm, hz⟩ := hf v' rv
    obtain ⟨mb, hb1, hb2⟩ := I1.mod.blt
    obtain ⟨hp, g, dr, tk, os⟩ := s1
    refine wpAny_call (PySem.LimX.lim_made T hfm I1.kIn hlim (I1.mod.glob.keeps I1.bk) (hb1.keeps I1.bk) ((hb2 "super" (by decide +kernel)).trans (by decide +kernel)) hz hz1 L (by have := hr.dp; omega) fun h' tk' e d M => ?_)
    show MkP X pins σ Q (.ref e) ⟨h', g, dr, tk', os⟩
    obtain ⟨oe, fv, hoe, hc, hd, hdat, h1⟩ := M.obj
    have hns := M.ns
    obtain ⟨G', g1, g2⟩ := restrict h' fun b => decide (b ≠ e)
    have gk : ∀ b, b ≠ e → G'.get? b = h'.get? b := fun b hb => g1 b (decide_eq_true hb)
    have ge : G'.get? e = none := g2 e (by simp)
    have old : ∀ b o, hp.get? b = some o → G'.get? b = some o := fun b o q => (gk b (Nat.ne_of_lt (Nat.lt_of_lt_of_le (Heap.lt_size q) M.new))).trans (M.keep b o q)
    have ob : ObjOk X.prog X.w (upd H1 d (.xd [(fld, v)])) G' d (.xd [(fld, v)]) :=
      ⟨_, hns.at (fun o q => (gk d M.dne).trans q), fun f => relO_lim rv f⟩
    have J : Inv X pins σ (upd H1 d (.xd [(fld, v)])) ⟨G', g, dr, tk', os⟩ := I1.laid (t' := tk') old M.dbig ob
    refine ⟨e, oe, fv, ⟨G', g, dr, tk', os⟩, _, .ref C, some d, rfl, J, fun b o q => ?_, ge, hoe, ⟨hc, hd⟩, hdat, h1, ?_, rfl, I1.bare, raises_own T.exC T.tyC, q1 d (I1.hok.fresh M.dbig)⟩
    · by_cases hb : b = e
      · have q' : G'.get? b = some o := q
        rw [hb, ge] at q'; cases q'
      · exact (gk b hb).symm.trans q
    · rw [upd_ne (Ne.symm M.dne)]
      exact I1.hok.fresh M.new
end
end L2
namespace DL
open PySem PySem.Spec PyProof.Rows L2
/-! ### errors over data -/
structure XD where
  cls : Value
  fld : Option (Str × D)
/-- an error's class and dict, in the heap of data -/
def XR (K : PySem.W.Frag) (Hd : Hp) (x : XD) (cls : Value) (d : Option Addr) : Prop := cls = x.cls ∧ match x.fld with
  | none => d = none
  | some (f, dv) => ∃ dd v, d = some dd ∧ Hd dd = some (.xd [(f, v)]) ∧ Rp K Hd dv v
abbrev RX := XD → DEnv → Sto → Prop
/-- what is wanted of an error is taken -/
structure LiftX (X : Cx) (Hd : Hp) (R : RX) : Prop where
  ex : ∃ W : WX, Takes X W ∧ ∀ x en S cls d σ H Hd', Same Hd Hd' → St0 X.K S Hd' H → RpE X.K Hd' en σ → XR X.K Hd' x cls d → R x en S → W cls d σ H
theorem LiftX.up {X : Cx} {Hd Hd' : Hp} {R : RX} (e : Same Hd Hd') (l : LiftX X Hd R) : LiftX X Hd' R := by
  obtain ⟨W, tk, h⟩ := l.ex
  exact ⟨W, tk, fun x en S cls d σ H H2 k => h x en S cls d σ H H2 (e.trans k)⟩
structure DEX (X : Cx) (e : Expr) (en : DEnv) (S : Sto) (Q : D → Sto → Prop) (R : RX) : Prop where
  run : ∀ (σ : L2.St) (H Hd : Hp), St0 X.K S Hd H → RpE X.K Hd en σ → LiftX X Hd R → wE X e σ H (QD X.K Hd Q)
structure DAX (X : Cx) (es : List Expr) (en : DEnv) (S : Sto) (Q : List D → Sto → Prop) (R : RX) : Prop where
  run : ∀ (σ : L2.St) (H Hd : Hp), St0 X.K S Hd H → RpE X.K Hd en σ → LiftX X Hd R → wA X es σ H (QA X.K Hd Q)
structure DS1X (X : Cx) (st : Stmt) (en : DEnv) (S : Sto) (Z : Dn) (R : RX) : Prop where
  run : ∀ (σ : L2.St) (H Hd : Hp), St0 X.K S Hd H → RpE X.K Hd en σ → ∀ De : Ends, Lift X.K Hd Z De → LiftX X Hd R → wS X st De σ H
structure DSX (X : Cx) (sts : List Stmt) (en : DEnv) (S : Sto) (Z : Dn) (R : RX) : Prop where
  run : ∀ (σ : L2.St) (H Hd : Hp), St0 X.K S Hd H → RpE X.K Hd en σ → ∀ De : Ends, Lift X.K Hd Z De → LiftX X Hd R → wSs X sts De σ H
abbrev ConX := List D → Sto → (D → Sto → Prop) → (XD → Sto → Prop) → Prop
def spDX (K : PySem.W.Frag) (C : ConX) : Sp := fun vs H Q E => ∃ (ds : List D) (S : Sto) (Hd : Hp) (Qd : D → Sto → Prop) (Rd : XD → Sto → Prop), RpL K Hd ds vs ∧ St0 K S Hd H ∧ C ds S Qd Rd ∧
  (∀ d S' v H' Hd', Qd d S' → Same Hd Hd' → St0 K S' Hd' H' → Rp K Hd' d v → Q v H') ∧ ∀ x S' cls d H' Hd', Rd x S' → Same Hd Hd' → St0 K S' Hd' H' → XR K Hd' x cls d → E cls d H'
/-! ### a def that may raise keeps its promise, by its body -/
structure GOkX (P : Program) (w : World) (K : PySem.W.Frag) (mg : Str → Option Value) (base : Heap) (k : Nat) (f : Addr) (fd : FuncData) (ps : List Str) (sp : Sp) : Prop where
  len : ∀ vs H Q E, sp vs H Q E → vs.length = ps.length
  run : ∀ (A : Around) (fr : List Env) (s : Shared) (H : Hp) (ar : Args) (us : List Value) (vs : List V) (Q : VK) (E : XK), A.guards = some [] → Room k A →
    Env0 P w K mg base A fr s H → BindsTo s fd ar (ps.zip us) → Vals vs us → sp vs H Q E → codeAny (model P w) A (.call (.ref f) ar) (CR (L2.CX P w) fr P w H s Q E) s
section
variable {P : Program} {w : World} {K : PySem.W.Frag} {mg : Str → Option Value} {base : Heap}
theorem gokx_of {k : Nat} {x qual : Str} {st : Stmt} {f : Addr} {fd : FuncData} {N ps : List Str} {sp : Sp} (F : Fun K x qual st f fd) (S : FnScope N ps (defScope st)) (ln : ∀ vs H Q E, sp vs H Q E → vs.length = ps.length)
    (body : ∀ (cdv : Value) (A : Around) (fr : List Env) (s : Shared) (H : Hp) (vs : List V) (Q : VK) (E : XK), (A.deeper (envOfC qual (defScope st) s.heap.objs.size f cdv)).guards = some [] → Room k (A.deeper (envOfC qual (defScope st) s.heap.objs.size f cdv)) → sp vs H Q E →
      wSs (cxOf (L2.CX P w) P w K mg base N qual (defScope st) f cdv A fr s H E) (defBody st) { nx := fun _ H' => Q .non H', rt := Q } (start N vs) H) : GOkX P w K mg base (k + 1) f fd ps sp := by
  obtain ⟨oc, od, kV, doc, pm, an, cdv, ct, osl, rfl, lk, hcd⟩ := F.ex
  refine ⟨ln, fun A fr s H ar us vs Q E gd hr e0 hb r hsp => ?_⟩
  have long := ln _ _ _ _ hsp
  have KX : K.In s.heap := e0.mod.kin.keeps fun b o e => (e0.bs b o e).1
  have free : s.heap.NoLimit := e0.mod.nolimit.keeps fun b o e => (e0.bs b o e).1
  refine codeAny_call_function hr.depth (KX _ _ lk) rfl S.co S.gen rfl (PySem.W.codeRec_of KX hcd) (hb _ _ _ _ ?_)
  refine wpAny_newFunctionEnv_cells S.kind (fun y hy => ?_) fun env he s1 xx => ?_
  · obtain ⟨n, v⟩ := y
    rcases S.par n (List.of_mem_zip hy).1 with z | z
    · exact .inl z
    · exact .inr ⟨z, PySem.W.cellsFrom_some _ _ _ (.inl z)⟩
  subst he
  refine ⟨free.keeps xx.toInCall.keep, codeAny_func ?_⟩
  have J : Inv (cxOf (L2.CX P w) P w K mg base N qual (defScope st) f cdv A fr s H E) [] (start N vs) H s1 := inv_start S hr.hd e0 long r xx
  have run := (pssW (X := (cxOf (L2.CX P w) P w K mg base N qual (defScope st) f cdv A fr s H E)) (sts := defBody st)).run [] s1 (start N vs) H _ J (body cdv A fr s H vs Q E gd (hr.deeper _) hsp)
  refine wpAny_mono run (fun fl s' hs => ?_) fun e s' hs => hs
  have out : ∀ {σ' : L2.St} {H' : Hp} {v : V} {u : Value}, Inv (cxOf (L2.CX P w) P w K mg base N qual (defScope st) f cdv A fr s H E) [] σ' H' s' → RelV v u → Q v H' → CE fr P w H s Q u s' :=
    fun {σ' H' v u} I rv q => ⟨v, H', I.os, I.bare, I.base, I.hok, rv, q⟩
  cases fl with
  | ret u =>
    obtain ⟨v, σ', H', I, rv, q⟩ := hs
    exact out I rv q
  | next =>
    obtain ⟨σ', H', I, q⟩ := hs
    exact out (v := V.non) (u := Value.none) I rfl q
  | brk => exact hs.elim fun _ h => h.elim fun _ h => h.2.elim
  | cont => exact hs.elim fun _ h => h.elim fun _ h => h.2.elim
theorem gokx_ds {k m : Nat} {x qual : Str} {st : Stmt} {f : Addr} {fd : FuncData} {N ps : List Str} {C : ConX} (F : Fun K x qual st f fd) (S : FnScope N ps (defScope st))
    (hm : N.length - ps.length = m) (ln : ∀ ds S Q R, C ds S Q R → ds.length = ps.length)
    (body : ∀ (cdv : Value) (A : Around) (fr : List Env) (s : Shared) (H : Hp) (E : XK), (A.deeper (envOfC qual (defScope st) s.heap.objs.size f cdv)).guards = some [] → Room k (A.deeper (envOfC qual (defScope st) s.heap.objs.size f cdv)) → ∀ (ds : List D) (S0 : Sto) (Q : D → Sto → Prop) (R : XD → Sto → Prop), C ds S0 Q R →
      DSX (cxOf (L2.CX P w) P w K mg base N qual (defScope st) f cdv A fr s H E) (defBody st) (ds.map some ++ List.replicate m none) S0 { nx := fun _ S' => Q .non S', rt := Q } (fun x _ S' => R x S')) : GOkX P w K mg base (k + 1) f fd ps (spDX K C) := by
  refine gokx_of F S (fun vs H Q E h => ?_) fun cdv A fr s H vs Q E gd hr h => ?_
  · obtain ⟨ds, S0, Hd, Qd, Rd, r, _, c, _⟩ := h
    rw [r.length]
    exact ln _ _ _ _ c
  · obtain ⟨ds, S0, Hd, Qd, Rd, r, st0, c, fin, finx⟩ := h
    have e : L2.start N vs = vs.map some ++ List.replicate m none := by
      unfold L2.start
      rw [r.length, ln _ _ _ _ c, hm]
    rw [e]
    refine (body cdv A fr s H E gd hr ds S0 Qd Rd c).run _ H Hd st0 (RpE.start m r) _ ⟨fun en S' σ H' Hd' z1 z2 _ q => fin .non S' .non H' Hd' q z1 z2 rfl, fun d S' v H' Hd' z1 z2 z3 q => fin d S' v H' Hd' q z1 z2 z3, fun _ _ _ _ _ _ _ _ q => q.elim, fun _ _ _ _ _ _ _ _ q => q.elim⟩ ?_
    exact ⟨fun cls d _ H => E cls d H, takes_of rfl rfl rfl rfl, fun x en S cls d σ H' Hd' z1 z2 _ z3 q => finx x S cls d H' Hd' q z1 z2 z3⟩
end
/-- a def that may raise, in the module -/
structure CalX (P : Program) (w : World) (K : PySem.W.Frag) (mg : Str → Option Value) (base : Heap) (k : Nat) (x : Str) (ps : List Str) (kws : List (Nat × List Str)) (C : ConX) : Prop where
  ex : ∃ (f : Addr) (fd : FuncData), GOkX P w K mg base k f fd ps (spDX K C) ∧ mg x = some (.ref f) ∧ PySem.W.keepIn K (.ref f) = true ∧
    (∀ us : List Value, us.length = ps.length → bindArgs fd ⟨us, []⟩ = pure (ps.zip us)) ∧ ∀ p ∈ kws, KwOk fd ps p
theorem calx_of {P : Program} {w : World} {K : PySem.W.Frag} {mg : Str → Option Value} {base : Heap} {k : Nat} {x qual : Str} {st : Stmt} {f : Addr} {fd : FuncData} {ps : List Str} {kws : List (Nat × List Str)} {C : ConX} (F : Fun K x qual st f fd)
    (G : GOkX P w K mg base k f fd ps (spDX K C)) (hm : mg x = some (.ref f)) (hb : ∀ us : List Value, us.length = ps.length → bindArgs fd ⟨us, []⟩ = pure (ps.zip us)) (hk : ∀ p ∈ kws, KwOk fd ps p) : CalX P w K mg base k x ps kws C := ⟨f, fd, G, hm, F.kp, hb, hk⟩
section
variable {X : Cx} {a b c e tg : Expr} {es : List Expr} {kwl : List Keyword} {st : Stmt} {sts rest : List Stmt} {en : DEnv} {S : Sto} {Z : Dn} {Q : D → Sto → Prop} {R : RX} {QL : List D → Sto → Prop} {pos pos' p kpos : Pos} {k : Nat} {x : Str} {ps ks : List Str} {kws : List (Nat × List Str)} {C : ConX}
/-! ### what raises nothing -/
theorem dex_of (h : DE X e en S Q) : DEX X e en S Q R := ⟨fun σ H Hd st re _ => h σ H Hd st re⟩
theorem dax_of (h : DA X es en S QL) : DAX X es en S QL R := ⟨fun σ H Hd st re _ => h σ H Hd st re⟩
theorem ds1x_of (h : DS1 X st en S Z) : DS1X X st en S Z R := ⟨fun σ H Hd st re De l _ => h σ H Hd st re De l⟩
theorem dsx_of (h : DS X sts en S Z) : DSX X sts en S Z R := ⟨fun σ H Hd st re De l _ => h σ H Hd st re De l⟩
theorem dsx_nil (q : Z.nx en S) : DSX X [] en S Z R := dsx_of (ds_nil q)
theorem dsx_cons (h : DS1X X st en S { Z with nx := fun en' S' => DSX X rest en' S' Z R } R) : DSX X (st :: rest) en S Z R := ⟨fun σ H Hd s0 re De l lx => by
  refine wSs_of (pss_cons psW pssW) ?_
  exact h.run σ H Hd s0 re _ ⟨fun en' S' σ' H' Hd' z1 z2 z3 q => q.run σ' H' Hd' z2 z3 De (l.up z1) (lx.up z1), l.rt, l.bk, l.ct⟩ lx⟩
theorem dsx_nrm {en' : DEnv} (h : DSX X sts en' S Z R) (he : en = en' := by set_option simprocs false in dsimp only [List.set]) : DSX X sts en S Z R := by
  rw [he]
  exact h
theorem dsx_asg (h : DEX X e en S (fun d S1 => DG X tg d en S1 Z.nx) R) (hs : swapsWithSole [tg] e pos.line X.env = pure false := by first | exact sws1 rfl | exact sw0 rfl | rfl) (hw : swappedStores [tg] e X.env = pure none := by first | exact sst rfl | rfl)
    (h1 : (assignEach [tg] X.env).map (·.2) = [assign tg X.env] := by rfl) : DS1X X (.Assign [tg] e pos) en S Z R := ⟨fun σ H Hd st re De l lx => by
  refine wS_of (ps_asg peW pgW hs hw h1) ?_
  refine wE_mono (h.run σ H Hd st re lx) fun v H1 ⟨d, S1, Hd1, e1, st1, r1, q⟩ => ?_
  refine wG_mono (q σ H1 Hd1 v st1 (re.mono e1) r1) fun σ2 H2 ⟨en2, S2, Hd2, z1, z2, z3, z4⟩ => ?_
  exact l.nx en2 S2 σ2 H2 Hd2 (e1.trans z1) z2 z3 z4⟩
theorem dsx_ret (h : DEX X e en S Z.rt R) : DS1X X (.Return (some e) pos) en S Z R := ⟨fun σ H Hd st re De l lx =>
  wS_of (ps_ret peW) (wE_mono (h.run σ H Hd st re lx) fun v H1 ⟨d, S1, Hd1, e1, st1, r1, q⟩ => l.rt d S1 v H1 Hd1 e1 st1 r1 q)⟩
theorem dsx_expr (h : DEX X e en S (fun _ S1 => Z.nx en S1) R) (hs : swapsWith e none pos.line X.env = pure false := by first | exact sws1 rfl | exact sw0 rfl | rfl) : DS1X X (.Expr e pos) en S Z R := ⟨fun σ H Hd st re De l lx =>
  wS_of (ps_expr peW hs) (wE_mono (h.run σ H Hd st re lx) fun v H1 ⟨d, S1, Hd1, e1, st1, r1, q⟩ => l.nx en S1 σ H1 Hd1 e1 st1 (re.mono e1) q)⟩
theorem dsx_if {s1 s2 : List Stmt} (h : DT X c en S fun t S1 => (t = true → DSX X s1 en S1 Z R) ∧ (t = false → DSX X s2 en S1 Z R)) : DS1X X (.If c s1 s2 pos) en S Z R := ⟨fun σ H Hd st re De l lx => by
  refine wS_of (ps_if ptW pssW pssW) ?_
  refine wT_mono (h σ H Hd st re) fun t H1 ⟨S1, Hd1, e1, st1, q1, q2⟩ => ?_
  cases t with
  | true =>
    rw [if_pos rfl]
    exact (q1 rfl).run σ H1 Hd1 st1 (re.mono e1) De (l.up e1) (lx.up e1)
  | false =>
    rw [if_neg Bool.false_ne_true]
    exact (q2 rfl).run σ H1 Hd1 st1 (re.mono e1) De (l.up e1) (lx.up e1)⟩
/-! ### calls of what may raise -/
theorem run_calX (c : CalX X.prog X.w X.K X.mg X.base k x ps kws C) (gd : X.A.guards = some []) (hr : Room k X.A) : ∃ f : Addr, X.mg x = some (.ref f) ∧ PySem.W.keepIn X.K (.ref f) = true ∧
    (∀ {pins : List (Addr × Obj)} {σ : L2.St} {H Hd : Hp} {s : Shared} {us : List Value} {vs : List V} {ds : List D} {S : Sto} {en : DEnv} {Q : D → Sto → Prop} {Qv : VK}, Inv X pins σ H s → Vals vs us → RpL X.K Hd ds vs → St0 X.K S Hd H → RpE X.K Hd en σ → C ds S Q (fun x S' => R x en S') → LiftX X Hd R → (∀ v H', QD X.K Hd Q v H' → Qv v H') →
      wpAny (model X.prog X.w) X.A (call (.ref f) us) (EP X pins σ Qv) X.xe s) ∧
    ∀ (n : Nat) (ks : List Str), (n, ks) ∈ kws → ∀ {pins : List (Addr × Obj)} {σ : L2.St} {H Hd : Hp} {s : Shared} {us ws : List Value} {vs zs : List V} {ds fs : List D} {S : Sto} {en : DEnv} {Q : D → Sto → Prop} {Qv : VK}, Inv X pins σ H s → Vals vs us → Vals zs ws → us.length = n → ws.length = ks.length →
      RpL X.K Hd ds vs → RpL X.K Hd fs zs → St0 X.K S Hd H → RpE X.K Hd en σ → C (ds ++ ordV .non (ps.drop n) ks fs) S Q (fun x S' => R x en S') → LiftX X Hd R → (∀ v H', QD X.K Hd Q v H' → Qv v H') → wpAny (model X.prog X.w) X.A (call (.ref f) us (ks.zip ws)) (EP X pins σ Qv) X.xe s := by
  obtain ⟨f, fd, G, hm, hk, hb, hkw⟩ := c.ex
  refine ⟨f, hm, hk, fun {pins σ H Hd s us vs ds S en Q Qv} I r rd st re q lx kq => ?_, fun n ks hn {pins σ H Hd s us ws vs zs ds fs S en Q Qv} I r rz ln lw rd rf st re q lx kq => ?_⟩
  · obtain ⟨W, tk, hW⟩ := lx.ex
    have hs : spDX X.K C vs H Qv (fun cls d H' => ∃ x S' Hd', Same Hd Hd' ∧ St0 X.K S' Hd' H' ∧ XR X.K Hd' x cls d ∧ R x en S') := ⟨ds, S, Hd, Q, _, rd, st, q, fun d S' v H' Hd' z1 z2 z3 z4 => kq v H' ⟨d, S', Hd', z2, z3, z4, z1⟩, fun x S' cls d H' Hd' z1 z2 z3 z4 => ⟨x, S', Hd', z2, z3, z4, z1⟩⟩
    have hl : us.length = ps.length := by rw [← r.length]; exact G.len _ _ _ _ hs
    refine wpAny_call (codeAny_mono (G.run X.A X.stack s H ⟨us, []⟩ us vs Qv _ gd hr I.env0 (.of_eq (hb us hl)) r hs) fun res s' hq => ?_)
    cases res with
    | error e => exact tk e s' (XE.of_call I (fun cls d H' ⟨x, S', Hd', z1, z2, z3, z4⟩ => hW x en S' cls d σ H' Hd' z1 z2 (re.mono z1) z3 z4) hq)
    | ok fl =>
      cases fl with
      | ret u => exact I.after hq
      | next => exact hq.elim
      | brk => exact hq.elim
      | cont => exact hq.elim
  · obtain ⟨k1, k2, k3⟩ := hkw _ hn
    have lz : ks.length = zs.length := by rw [rz.length]; exact lw.symm
    have lf : ks.length = fs.length := by rw [lz, rf.length]
    obtain ⟨W, tk, hW⟩ := lx.ex
    have hs : spDX X.K C (vs ++ ordV .non (ps.drop n) ks zs) H Qv (fun cls d H' => ∃ x S' Hd', Same Hd Hd' ∧ St0 X.K S' Hd' H' ∧ XR X.K Hd' x cls d ∧ R x en S') := ⟨_, S, Hd, Q, _, rd.append (ord_rp rf lf k2), st, q, fun d S' v H' Hd' z1 z2 z3 z4 => kq v H' ⟨d, S', Hd', z2, z3, z4, z1⟩, fun x S' cls d H' Hd' z1 z2 z3 z4 => ⟨x, S', Hd', z2, z3, z4, z1⟩⟩
    refine wpAny_call (codeAny_mono (G.run X.A X.stack s H ⟨us, ks.zip ws⟩ (us ++ ordV .none (ps.drop n) ks ws) _ Qv _ gd hr I.env0 (.of_eq (k3 us ws ln lw)) (r.append (ord_vals rz lz k2)) hs) fun res s' hq => ?_)
    cases res with
    | error e => exact tk e s' (XE.of_call I (fun cls d H' ⟨x, S', Hd', z1, z2, z3, z4⟩ => hW x en S' cls d σ H' Hd' z1 z2 (re.mono z1) z3 z4) hq)
    | ok fl =>
      cases fl with
      | ret u => exact I.after hq
      | next => exact hq.elim
      | brk => exact hq.elim
      | cont => exact hq.elim
/-- f(e, ..) -/
theorem dex_call (c : CalX X.prog X.w X.K X.mg X.base k x ps kws C) (gd : X.A.guards = some []) (hr : Room k X.A) (h : DAX X (e :: es) en S (fun ds S1 => C ds S1 Q (fun x S' => R x en S')) R) (hg : Gl X x := by rfl)
    (hdb : (x == ("__debug__" : Str)) = false := by decide) (he : starEach (e :: es) X.env = (false, eval e X.env) :: starEach es X.env := by rfl) (hpl : (backTo pos (starEach es X.env)).any (·.1) = false := by rfl) : DEX X (.Call (.Name x p) (e :: es) [] pos) en S Q R := by
  refine ⟨fun σ H Hd st re lx => ?_⟩
  intro pins s I
  obtain ⟨f, hm, hk, run, _⟩ := run_calX (R := R) c gd hr
  refine wpAny_Call_Name_kw (ld_glob I hg hm ?_ hdb)
  refine PySem.W.callWith_K (h₀ := X.base) I.ok.mod.kin hk (thn (h.run σ H Hd st re lx pos pins s I) fun us s1 ⟨vs, H1, I1, r, ds, S1, Hd1, e1, st1, r1, q1⟩ => ⟨I1.kIn, ?_⟩) he hpl
  exact run I1 r r1 st1 (re.mono e1) q1 (lx.up e1) fun v H' z => .up e1 z
theorem DEX.mono {Q' : D → Sto → Prop} (h : DEX X e en S Q R) (k : ∀ d S', Q d S' → Q' d S') : DEX X e en S Q' R := ⟨fun σ H Hd st re lx =>
  wE_mono (h.run σ H Hd st re lx) fun _ _ ⟨d, S', Hd', e', st', r, q⟩ => ⟨d, S', Hd', e', st', r, k d S' q⟩⟩
end
end DL
/-! try with several clauses, some of which name the error -/
namespace DL
open PySem PySem.Spec PyProof.Rows L2
abbrev TCl := Addr → Value → Option Addr → TS
def dSet (i : Nat) (D : Ends) : Ends := { nx := fun σ' H' => D.nx (σ'.set i none) H', rt := D.rt, bk := fun σ' H' => D.bk (σ'.set i none) H', ct := fun σ' H' => D.ct (σ'.set i none) H' }
def wMix (K : PySem.W.Frag) (Wout : WX) (D : Ends) : List (Value × Option Nat × TCl) → WX
  | [] => Wout
  | (c, none, ts) :: r => fun cls d σ H => ∃ b, PySem.W.exmOne K cls c = some b ∧ (b = true → ∀ a, H a = none → ts a cls d D σ H) ∧ (b = false → wMix K Wout D r cls d σ H)
  | (c, some i, ts) :: r => fun cls d σ H => ∃ b, PySem.W.exmOne K cls c = some b ∧ (b = true → ∀ a, H a = none → ts a cls d (dSet i D) (σ.set i (some (.ref a))) H) ∧ (b = false → wMix K Wout D r cls d σ H)
inductive HdsMix (X : Cx) : List ExceptHandler → List (Value × Option Nat × TCl) → Prop
  | nil : HdsMix X [] []
  | cons {x : Str} {c : Value} {ts : TCl} {b₀ : Stmt} {suite : List Stmt} {np pos' : Pos} {hds : List ExceptHandler} {l : List (Value × Option Nat × TCl)} (hc : Names X x c)
      (hsu : ∀ (a : Addr) (oe : Obj) (cls : Value) (d : Option Addr) (pn : List (Addr × Obj)), Zc cls d oe → (∃ vs, oe.data = .fields vs) → PSs (X.suite a ((a, oe) :: pn)) (b₀ :: suite) (ts a cls d)) (r : HdsMix X hds l) :
      HdsMix X (.ExceptHandler (some (.Name x np)) none (b₀ :: suite) pos' :: hds) ((c, none, ts) :: l)
  | consA {x n : Str} {i : Nat} {c : Value} {ts : TCl} {b₀ : Stmt} {suite : List Stmt} {np pos' : Pos} {hds : List ExceptHandler} {l : List (Value × Option Nat × TCl)} (hc : Names X x c) (hN : X.N.Nodup) (hi : X.N[i]? = some n) (hln : X.env.kindOf n = some .local)
      (hsu : ∀ (a : Addr) (oe : Obj) (cls : Value) (d : Option Addr) (pn : List (Addr × Obj)), Zc cls d oe → (∃ vs, oe.data = .fields vs) → PSs (X.suite a ((a, oe) :: pn)) (b₀ :: suite) (ts a cls d)) (r : HdsMix X hds l) :
      HdsMix X (.ExceptHandler (some (.Name x np)) (some n) (b₀ :: suite) pos' :: hds) ((c, some i, ts) :: l)
section
variable {X : Cx} {body : List Stmt} {h₀ : ExceptHandler} {hds : List ExceptHandler} {l : List (Value × Option Nat × TCl)} {pos : Pos} {tb : WX → TS} {Wout : WX}
theorem ps_try_mix (hs : X.stack = X.env :: X.outer) (hf : X.env.frame = some X.env.locals) (tk : Takes X Wout)
    (hb : ∀ (W : WX) (pn : List (Addr × Obj)) (xe : Value → Shared → Prop), Takes (X.tr pn xe) W → PassesOwn (model X.prog X.w) X.A X.env xe → PSs (X.tr pn xe) body (tb W))
    (hh : HdsMix X (h₀ :: hds) l) : PS X (.Try body (h₀ :: hds) [] [] pos) (fun D σ H => tb (wMix X.K Wout D l) D σ H) := by
  refine ⟨fun pins s σ H D I h => ?_⟩
  have ok := I.ok
  have hfr : X.A.frames = some (X.env :: X.outer) := by rw [ok.frames, hs]
  refine wpAny_Try_except ?_
  refine wpAny_mono ((hb (wMix X.K Wout D l) (X.pn ++ pins) (fun e s₁ => wpAny (model X.prog X.w) X.A (noteFrame e X.env) (fun _ s₂ => wpAny (model X.prog X.w) X.A (setFlight e none) (fun _ s₃ =>
    wpAny (model X.prog X.w) X.A (handleBy e X.env (h₀ :: hds)) (SP X pins D) X.xe s₃) X.xe s₂) X.xe s₁) (fun u s' xx => ?_) PassesOwn.looking).run [] s σ H D (I.toTry _) h) (fun f s1 hsp => ?_) (fun e s1 he => he)
  · -- the catch
    obtain ⟨a, B, sI, pins', σ', H', cls, d, rfl, J', nb, up, sky, na, os, ag, w⟩ := xx
    have J : Inv X pins σ' H' sI := J'.ofTry ok
    have sky' : Sky B (X.env :: X.outer) a (Zc cls d) X.env.locals s'.heap := by rw [← hs]; exact sky
    show wpAny (model X.prog X.w) X.A (noteFrame (.ref a) X.env) _ _ _
    refine Sky.land Zc.steady hfr hf sky' fun h3 fl3 up3 => ?_
    have J3 : Inv X pins σ' H' { s' with heap := h3 } := J.landed nb fl3.1 (up.trans up3) os ag
    obtain ⟨oe3, vs3, he3, hz3, hd3⟩ := fl3.there
    have notFr : ∀ {h : Heap} {o : Obj} {vs : Array Value}, h.FunFrames B (X.env :: X.outer) → h.get? a = some o → o.data = .fields vs → a ∉ frs (X.env :: X.outer) := fun {h o vs} ff e dd hm => by
      obtain ⟨_, o', e', hnf⟩ := ff.mem hm
      rw [e] at e'; cases e'
      exact hnf _ dd
    have nfr := notFr fl3.2.2.1 he3 hd3
    have nL : a ≠ X.env.locals := fun z => nfr (List.mem_filterMap.mpr ⟨X.env, List.mem_cons_self, by rw [hf, z]⟩)
    have nF : a ∉ X.fs := fun hm => by
      obtain ⟨e, he, q⟩ := List.mem_filterMap.mp hm
      exact nfr (List.mem_filterMap.mpr ⟨e, List.mem_cons_of_mem _ he, q⟩)
    have S3 := J3.suite he3 hd3 na nL nF
    have go : ∀ {hds' : List ExceptHandler} {l' : List (Value × Option Nat × TCl)}, HdsMix X hds' l' → wMix X.K Wout D l' cls d σ' H' →
        wpAny (model X.prog X.w) X.A (handleBy (.ref a) X.env hds') (SP X pins D) X.xe { s' with heap := h3 } := by
      intro hds' l' hk
      induction hk with
      | nil =>
        intro w
        refine wpAny_handleBy_nil ?_
        obtain ⟨k1, k2, k3, oe, vs, T, oT, ts', he, hz, hd, h1, hr⟩ := id fl3
        unfold PySem.passOn
        refine wpAny_bind (wpAny_field he hd h1 ?_)
        rw [if_neg (show ¬ ((Value.ref T == Value.none) = true) from by simp)]
        have fin : wpAny (model X.prog X.w) X.A (setFlight (.ref a) X.env.frame) (fun _ s4 => wpAny (model X.prog X.w) X.A (throw (.ref a) : Sem Flow) (SP X pins D) X.xe s4) X.xe { s' with heap := h3 } := by
          rw [hf]
          refine HandSPX.setFlight_upZ fl3 fun h4 hh4 up4 => wpAny_throw (tk _ _ ?_)
          exact ⟨a, B, sI, pins, σ', H', cls, d, rfl, J, nb, (up.trans up3).trans up4, .inr (.inr (by rw [hs]; exact hh4)), na, os, ag, w⟩
        first
          | exact wpAny_bind (wpAny_pure (wpAny_bind fin))
          | exact wpAny_bind fin
      | @cons x c ts b₀ suite np pos' hds2 l2 hc hsu r ih =>
        intro w
        obtain ⟨b, hb1, hyes, hno⟩ := w
        refine wpAny_handleBy_cons (codeAny_handlers_test ?_) (by intro q; cases q)
        have LT : PySem.W.Looks (model X.prog X.w) h3 (typeOf (.ref a)) cls := fun A Q E s k q => wpAny_typeOf_ref (k _ _ he3) (by rw [hz3.1]; exact q)
        have LM := PySem.W.exm_one (M := model X.prog X.w) (J3.kIn) LT hb1
        have test : ∀ {Q : Value → Shared → Prop} {E : Value → Shared → Prop}, Q c { s' with heap := h3 } → wpAny (model X.prog X.w) (X.A.mark (some (.ref a))) (eval (.Name x np) X.env) Q E { s' with heap := h3 } := fun {Q E} q => by
          obtain ⟨hg, hdbg, hm | ⟨hm, hv, hnn⟩⟩ := hc
          · exact ld_glob (X := X.suite a ((a, oe3) :: (X.pn ++ pins))) S3 hg hm q hdbg
          · exact ld_blt (X := X.suite a ((a, oe3) :: (X.pn ++ pins))) S3 hg hm hv q hnn hdbg
        refine test (LM.here ?_)
        cases b with
        | true =>
          refine codeAny_handlers_suite ?_
          refine HandSPX.lands_againZ fl3 fun h4 fl4 up4 => ?_
          have J4 : Inv X pins σ' H' { s' with heap := h4 } := J.landed nb fl4.1 ((up.trans up3).trans up4) os ag
          obtain ⟨oe4, vs4, he4, hz4, hd4⟩ := fl4.there
          have S4 := J4.suite he4 hd4 na nL nF
          refine wpAny_mono ((hsu a oe4 cls d (X.pn ++ pins) hz4 ⟨_, hd4⟩).run [] _ _ H' _ S4 (hyes rfl a na)) (fun f s6 hsp => ?_) (fun _ _ z => False.elim z)
          cases f with
          | next =>
            obtain ⟨σ6, H6, S6, q6⟩ := hsp
            exact ⟨_, _, S6.unsuite ok, q6⟩
          | brk =>
            obtain ⟨σ6, H6, S6, q6⟩ := hsp
            exact ⟨_, _, S6.unsuite ok, q6⟩
          | cont =>
            obtain ⟨σ6, H6, S6, q6⟩ := hsp
            exact ⟨_, _, S6.unsuite ok, q6⟩
          | ret u =>
            obtain ⟨v6, σ6, H6, S6, r6, q6⟩ := hsp
            exact ⟨_, _, _, S6.unsuite ok, r6, q6⟩
        | false =>
          show wpAny _ X.A (handleBy (.ref a) X.env hds2) _ _ _
          exact ih (hno rfl)
      | @consA x n i c ts b₀ suite np pos' hds2 l2 hc hN hi hln hsu r ih =>
        intro w
        obtain ⟨b, hb1, hyes, hno⟩ := w
        refine wpAny_handleBy_cons (codeAny_handlers_test ?_) (by intro q; cases q)
        have LT : PySem.W.Looks (model X.prog X.w) h3 (typeOf (.ref a)) cls := fun A Q E s k q => wpAny_typeOf_ref (k _ _ he3) (by rw [hz3.1]; exact q)
        have LM := PySem.W.exm_one (M := model X.prog X.w) (J3.kIn) LT hb1
        have test : ∀ {Q : Value → Shared → Prop} {E : Value → Shared → Prop}, Q c { s' with heap := h3 } → wpAny (model X.prog X.w) (X.A.mark (some (.ref a))) (eval (.Name x np) X.env) Q E { s' with heap := h3 } := fun {Q E} q => by
          obtain ⟨hg, hdbg, hm | ⟨hm, hv, hnn⟩⟩ := hc
          · exact ld_glob (X := X.suite a ((a, oe3) :: (X.pn ++ pins))) S3 hg hm q hdbg
          · exact ld_blt (X := X.suite a ((a, oe3) :: (X.pn ++ pins))) S3 hg hm hv q hnn hdbg
        refine test (LM.here ?_)
        cases b with
        | true =>
          refine codeAny_handlers_suite_as ?_
          refine HandSPX.lands_againZ fl3 fun h4 fl4 up4 => ?_
          have J4 : Inv X pins σ' H' { s' with heap := h4 } := J.landed nb fl4.1 ((up.trans up3).trans up4) os ag
          obtain ⟨oe4, vs4, he4, hz4, hd4⟩ := fl4.there
          have S4 := J4.suite he4 hd4 na nL nF
          refine store_ok (X := X.suite a ((a, oe4) :: (X.pn ++ pins))) (v := .ref a) S4 hN hi (.inl hln) rfl (fun s5 S5 => ?_) (.inr hln)
          refine wpAny_mono ((hsu a oe4 cls d (X.pn ++ pins) hz4 ⟨_, hd4⟩).run [] s5 _ H' _ S5 (hyes rfl a na)) (fun f s6 hsp => ?_) (fun _ _ z => False.elim z)
          have end_ : ∀ {σ6 : L2.St} {H6 : Hp} {Q : Shared → Prop}, Inv (X.suite a ((a, oe4) :: (X.pn ++ pins))) [] σ6 H6 s6 → (∀ s7, Inv X pins (σ6.set i none) H6 s7 → Q s7) →
              wpAny (model X.prog X.w) X.A (do bindName X.env n .none; unbindBehindTheSuite X.env n pos') (fun _ s7 => Q s7) X.xe s6 := fun {σ6 H6 Q} S6 hq => gone_ok (S6.unsuite ok) hN hi hln hq
          cases f with
          | next =>
            obtain ⟨σ6, H6, S6, q6⟩ := hsp
            exact end_ S6 fun s7 J7 => ⟨_, _, J7, q6⟩
          | brk =>
            obtain ⟨σ6, H6, S6, q6⟩ := hsp
            exact end_ S6 fun s7 J7 => ⟨_, _, J7, q6⟩
          | cont =>
            obtain ⟨σ6, H6, S6, q6⟩ := hsp
            exact end_ S6 fun s7 J7 => ⟨_, _, J7, q6⟩
          | ret u =>
            obtain ⟨v6, σ6, H6, S6, r6, q6⟩ := hsp
            exact end_ S6 fun s7 J7 => ⟨_, _, _, J7, r6, q6⟩
        | false =>
          show wpAny _ X.A (handleBy (.ref a) X.env hds2) _ _ _
          exact ih (hno rfl)
    exact go hh w
  · cases f with
    | next =>
      obtain ⟨σ', H', J', q⟩ := hsp
      exact wpAny_execs_nil ⟨σ', H', J'.ofTry ok, q⟩
    | brk =>
      obtain ⟨σ', H', J', q⟩ := hsp
      exact ⟨σ', H', J'.ofTry ok, q⟩
    | cont =>
      obtain ⟨σ', H', J', q⟩ := hsp
      exact ⟨σ', H', J'.ofTry ok, q⟩
    | ret u =>
      obtain ⟨v, σ', H', J', r, q⟩ := hsp
      exact ⟨v, σ', H', J'.ofTry ok, r, q⟩
end
end DL
namespace DL
open PySem PySem.Spec PyProof.Rows L2
/-! ### errors raised -/
/-- an error class of the program without an own __init__ -/
structure OwnErr (K : PySem.W.Frag) (mg : Str → Option Value) (x : Str) (C : Addr) : Prop where
  gC : mg x = some (.ref C)
  kC : PySem.W.keepIn K (.ref C) = true
  q : PySem.W.excIn K C [.type "ValueError", .type "Exception", .type "BaseException", .type "object"] "ValueError.__new__" = true
  exC : PySem.W.subIn K (.ref C) (.type "BaseException") = some true
  tyC : PySem.W.typeIn K (.ref C) = some (.type "type")
def ShowX : D → Prop
  | .int i => i.natAbs < 2 ^ 1900
  | .non => True
  | _ => False
section
variable {X : Cx} {a e : Expr} {st : Stmt} {sts : List Stmt} {en : DEnv} {S : Sto} {Z : Dn} {Q : D → Sto → Prop} {R : RX} {pos pos' p p2 : Pos} {x qual fld pre : Str} {C fI : Addr} {j : Nat} {m : Str} {k : Nat}
theorem dsx_raise_own (T : OwnErr X.K X.mg x C) (hc : X.calm = true) (q : R ⟨.ref C, none⟩ en S) (hg : Gl X x := by rfl) (hdb : (x == ("__debug__" : Str)) = false := by decide) : DS1X X (.Raise (some (.Call (.Name x p) [.Constant (.str m) j p2] [] pos)) none pos') en S Z R := ⟨fun σ H Hd st re De l lx => by
  obtain ⟨W, tk, hW⟩ := lx.ex
  refine wS_of (ps_raise hc tk (pmk_own PySem.F.excBase_ValueError T.q T.gC T.kC (raises_own T.exC T.tyC) hg (hdb := hdb))) ?_
  exact hW ⟨.ref C, none⟩ en S _ none σ H Hd (Same.refl _) st re ⟨rfl, rfl⟩ q⟩
theorem show_fmt {K : PySem.W.Frag} {P : Program} {w : World} {Hd : Hp} {d : D} {v : V} (h : ShowX d) (r : Rp K Hd d v) (hp : pre.length ≤ 1000) : ∀ u, RelV v u → ∃ txt, PySem.LimX.FmtOk P w u txt ∧ (Str.empty ++ pre ++ txt).length ≤ sizeLine := fun u ru => by
  have e : sizeLine = 16777216 := by decide
  have e0 : (Str.empty ++ pre).length = pre.length := by rw [strLen_append]; show 0 + _ = _; omega
  cases d with
  | int i =>
    have r : v = .int i := r
    subst r
    obtain ⟨t, rfl⟩ := ru
    obtain ⟨h1, h2⟩ := digits_le h
    refine ⟨_, PySem.LimX.fmt_int h2, ?_⟩
    rw [strLen_append, e0, e]
    have : (Str.ofString (toString i)).length ≤ 1921 := h1
    first | omega | (have z := int_text_len_1921 h2; omega)
  | non =>
    have r : v = .non := r
    subst r
    have ru : u = .none := ru
    subst ru
    refine ⟨_, PySem.LimX.fmt_none, ?_⟩
    rw [strLen_append, e0, e]
    have : (Str.ofString "None").length = 4 := by decide
    omega
  | _ => exact h.elim
theorem dsx_raise_lim (T : PySem.LimX.LimTxt X.prog X.K X.mg x qual fld pre C fI) (L : PySem.LimX.FldOk fld) (hp : pre.length ≤ 1000) (hr : Room k X.A) (hc : X.calm = true) (h : DE X a en S fun v S1 => ShowX v ∧ R ⟨.ref C, some (fld, v)⟩ en S1) (hg : Gl X x := by rfl)
    (he : starEach (a :: []) X.env = (false, eval a X.env) :: starEach [] X.env := by rfl) (hpl : (backTo pos (starEach [] X.env)).any (·.1) = false := by rfl) (hdb : (x == ("__debug__" : Str)) = false := by decide) :
    DS1X X (.Raise (some (.Call (.Name x p) [a] [] pos)) none pos') en S Z R := ⟨fun σ H Hd st re De l lx => by
  obtain ⟨W, tk, hW⟩ := lx.ex
  have hz1 : (Str.empty ++ pre).length ≤ sizeLine := by
    rw [strLen_append, show sizeLine = 16777216 by decide]
    show 0 + _ ≤ _
    omega
  refine wS_of (ps_raise hc tk (pmk_lim T L hz1 hr (pa_cons peW pa_nil (hs := he)) hg he hpl hdb)) ?_
  refine wE_mono (h σ H Hd st re) fun v H1 ⟨d, S1, Hd1, e1, st1, r1, sx, q⟩ => ?_
  refine ⟨v, rfl, show_fmt sx r1 hp, fun dd hdd => ?_⟩
  obtain ⟨e2, st2⟩ := st1.laid (o := .xd [(fld, v)]) hdd
  exact hW ⟨.ref C, some (fld, d)⟩ en S1 _ (some dd) σ _ _ (e1.trans e2) st2 (re.mono (e1.trans e2)) ⟨rfl, dd, v, rfl, upd_same, Rp.mono e2 d v r1⟩ q⟩
/-! ### errors caught -/
def excD (K : PySem.W.Frag) (a : Addr) (d : Option Addr) (x : XD) : D := .ext fun H v => v = .ref a ∧ XR K H x x.cls d
/-- what an except suite does -/
def SuD (X : Cx) (o : Option Nat) (su : List Stmt) (x : XD) (en : DEnv) (S : Sto) (Z : Dn) : Prop := match o with
  | none => ∀ (a : Addr) (oe : Obj) (d : Option Addr) (pn : List (Addr × Obj)), Zc x.cls d oe → (∃ vs, oe.data = .fields vs) → DS (X.suite a ((a, oe) :: pn)) su en S Z
  | some i => ∀ (a : Addr) (oe : Obj) (d : Option Addr) (pn : List (Addr × Obj)), Zc x.cls d oe → (∃ vs, oe.data = .fields vs) →
      DS (X.suite a ((a, oe) :: pn)) su (en.set i (some (excD X.K a d x))) S { nx := fun en2 S2 => Z.nx (en2.set i none) S2, rt := Z.rt, bk := fun en2 S2 => Z.bk (en2.set i none) S2, ct := fun en2 S2 => Z.ct (en2.set i none) S2 }
def RMix (X : Cx) (Z : Dn) (R : RX) : List (Value × Option Nat × List Stmt) → RX
  | [] => R
  | (c, o, su) :: r => fun x en S => ∃ b, PySem.W.exmOne X.K x.cls c = some b ∧ (b = true → SuD X o su x en S Z) ∧ (b = false → RMix X Z R r x en S)
/-- the clauses, as they stand -/
inductive DHds (X : Cx) : List ExceptHandler → List (Value × Option Nat × List Stmt) → Prop
  | nil : DHds X [] []
  | cons {x : Str} {c : Value} {b₀ : Stmt} {suite : List Stmt} {np pos' : Pos} {hds : List ExceptHandler} {l : List (Value × Option Nat × List Stmt)} (hc : Names X x c) (r : DHds X hds l) :
      DHds X (.ExceptHandler (some (.Name x np)) none (b₀ :: suite) pos' :: hds) ((c, none, b₀ :: suite) :: l)
  | consA {x n : Str} {i : Nat} {c : Value} {b₀ : Stmt} {suite : List Stmt} {np pos' : Pos} {hds : List ExceptHandler} {l : List (Value × Option Nat × List Stmt)} (hc : Names X x c) (hN : X.N.Nodup) (hi : X.N[i]? = some n) (hln : X.env.kindOf n = some .local) (r : DHds X hds l) :
      DHds X (.ExceptHandler (some (.Name x np)) (some n) (b₀ :: suite) pos' :: hds) ((c, some i, b₀ :: suite) :: l)
def tSu (X : Cx) (su : List Stmt) : TCl := fun a cls d De σ H => ∀ (oe : Obj) (pn : List (Addr × Obj)), Zc cls d oe → (∃ vs, oe.data = .fields vs) → wSs (X.suite a ((a, oe) :: pn)) su De σ H
theorem mix_of : ∀ {hds : List ExceptHandler} {cl : List (Value × Option Nat × List Stmt)}, DHds X hds cl → HdsMix X hds (cl.map fun t => (t.1, t.2.1, tSu X t.2.2))
  | _, _, .nil => .nil
  | _, _, .cons hc r => .cons hc (fun a oe cls d pn hz hf => ⟨fun pins s _ _ _ I h => h oe pn hz hf pins s I⟩) (mix_of r)
  | _, _, .consA hc hN hi hln r => .consA hc hN hi hln (fun a oe cls d pn hz hf => ⟨fun pins s _ _ _ I h => h oe pn hz hf pins s I⟩) (mix_of r)
theorem rmix_w {Hd : Hp} {De : Ends} {Wout : WX} (l : Lift X.K Hd Z De) (hW : ∀ x en S cls d σ H Hd', Same Hd Hd' → St0 X.K S Hd' H → RpE X.K Hd' en σ → XR X.K Hd' x cls d → R x en S → Wout cls d σ H) : ∀ (cl : List (Value × Option Nat × List Stmt)) (x : XD) (en : DEnv) (S : Sto) (cls : Value) (d : Option Addr) (σ : L2.St) (H Hd' : Hp),
    Same Hd Hd' → St0 X.K S Hd' H → RpE X.K Hd' en σ → XR X.K Hd' x cls d → RMix X Z R cl x en S → wMix X.K Wout De (cl.map fun t => (t.1, t.2.1, tSu X t.2.2)) cls d σ H
  | [], x, en, S, cls, d, σ, H, Hd', z1, z2, z3, z4, q => hW x en S cls d σ H Hd' z1 z2 z3 z4 q
  | (c, none, su) :: r, x, en, S, cls, d, σ, H, Hd', z1, z2, z3, z4, q => by
    obtain ⟨b, hb, hy, hn⟩ := q
    refine ⟨b, by rw [z4.1]; exact hb, fun hbt a ha oe pn hz hf => ?_, fun hbf => rmix_w l hW r x en S cls d σ H Hd' z1 z2 z3 z4 (hn hbf)⟩
    exact (hy hbt a oe d pn (by rw [← z4.1]; exact hz) hf).run σ H Hd' z2 z3 De (l.up z1)
  | (c, some i, su) :: r, x, en, S, cls, d, σ, H, Hd', z1, z2, z3, z4, q => by
    obtain ⟨b, hb, hy, hn⟩ := q
    refine ⟨b, by rw [z4.1]; exact hb, fun hbt a ha oe pn hz hf => ?_, fun hbf => rmix_w l hW r x en S cls d σ H Hd' z1 z2 z3 z4 (hn hbf)⟩
    have l' := l.up z1
    refine (hy hbt a oe d pn (by rw [← z4.1]; exact hz) hf).run (σ.set i (some (.ref a))) H Hd' z2 (z3.set (d := excD X.K a d x) ⟨Hd', Same.refl _, rfl, by rw [← z4.1]; exact z4⟩ i) (dSet i De) ?_
    exact ⟨fun en2 S2 σ2 H2 Hd2 y1 y2 y3 q2 => l'.nx _ S2 _ H2 Hd2 y1 y2 (y3.drop i) q2, l'.rt, fun en2 S2 σ2 H2 Hd2 y1 y2 y3 q2 => l'.bk _ S2 _ H2 Hd2 y1 y2 (y3.drop i) q2, fun en2 S2 σ2 H2 Hd2 y1 y2 y3 q2 => l'.ct _ S2 _ H2 Hd2 y1 y2 (y3.drop i) q2⟩
/-- try: body / except C: .. / except D as e: .. -/
theorem dsx_try {body : List Stmt} {h₀ : ExceptHandler} {hds : List ExceptHandler} {cl : List (Value × Option Nat × List Stmt)} (hs : X.stack = X.env :: X.outer) (hf : X.env.frame = some X.env.locals) (hh : DHds X (h₀ :: hds) cl)
    (hb : ∀ (pn : List (Addr × Obj)) (xe : Value → Shared → Prop), DSX (X.tr pn xe) body en S Z (RMix X Z R cl)) : DS1X X (.Try body (h₀ :: hds) [] [] pos) en S Z R := ⟨fun σ H Hd st re De l lx => by
  obtain ⟨Wout, tk, hW⟩ := lx.ex
  refine wS_of (ps_try_mix (tb := fun W => fun De σ H => ∀ (pn : List (Addr × Obj)) (xe : Value → Shared → Prop), Takes (X.tr pn xe) W → PassesOwn (model X.prog X.w) X.A X.env xe → wSs (X.tr pn xe) body De σ H) hs hf tk (fun W pn xe t pa => ⟨fun pins s _ _ _ I h => h pn xe t pa pins s I⟩) (mix_of hh)) ?_
  intro pn xe t pa
  exact (hb pn xe).run σ H Hd st re De l ⟨_, t, fun x en S cls d σ H Hd' z1 z2 z3 z4 q => rmix_w l hW cl x en S cls d σ H Hd' z1 z2 z3 z4 q⟩⟩
/-- .. where all errors are caught: nothing leaves -/
theorem ds_try {body : List Stmt} {h₀ : ExceptHandler} {hds : List ExceptHandler} {cl : List (Value × Option Nat × List Stmt)} (hs : X.stack = X.env :: X.outer) (hf : X.env.frame = some X.env.locals) (hh : DHds X (h₀ :: hds) cl)
    (hb : ∀ (pn : List (Addr × Obj)) (xe : Value → Shared → Prop), DSX (X.tr pn xe) body en S Z (RMix X Z (fun _ _ _ => False) cl)) : DS1 X (.Try body (h₀ :: hds) [] [] pos) en S Z := ⟨fun σ H Hd st re De l =>
  (dsx_try (R := fun _ _ _ => False) hs hf hh hb).run σ H Hd st re De l ⟨_, takes_none5, fun _ _ _ _ _ _ _ _ _ _ _ _ q => q⟩⟩
end
end DL
namespace DL
open PySem PySem.Spec PyProof.Rows L2
theorem exm_two {K : PySem.W.Frag} {A B : Addr} {b : Bool} (h1 : PySem.W.subIn K (.ref B) (.type "BaseException") = some true) (h2 : PySem.W.isClsIn K B = true) (h3 : PySem.W.typeIn K (.ref B) = some (.type "type")) (h4 : PySem.W.subIn K (.ref A) (.ref B) = some b) :
    PySem.W.exmOne K (.ref A) (.ref B) = some b := by
  have e1 : (PySem.W.subIn K (.ref B) (.type "BaseException") == some true) = true := by rw [h1] <;> rfl
  have e2 : ((PySem.W.clsIn K B).isSome && PySem.W.typeIn K (.ref B) == some (.type "type")) = true := by
    have h2' : (PySem.W.clsIn K B).isSome = true := h2
    rw [h2', h3] <;> rfl
  show (if (PySem.W.subIn K (.ref B) (.type "BaseException") == some true) = true then (if ((PySem.W.clsIn K B).isSome && PySem.W.typeIn K (.ref B) == some (.type "type")) = true then PySem.W.subIn K (.ref A) (.ref B) else none) else none) = some b
  rw [if_pos e1, if_pos e2]
  exact h4
theorem xf_of {P : Program} {K : PySem.W.Frag} {mg : Str → Option Value} {x qual fld pre : Str} {C fI : Addr} (T : PySem.LimX.LimTxt P K mg x qual fld pre C fI) : XfC K C := ⟨T.ga, T.gg, T.exC, T.hdC⟩
section
variable {X : Cx} {sts : List Stmt} {en : DEnv} {S : Sto} {Z : Dn} {R : RX}
theorem dsx_forget {p : Addr} {l : List D} {S' : Sto} (h : DSX X sts en S' Z R) (hS : S = (p, l) :: S' := by rfl) : DSX X sts en S Z R := ⟨fun σ H Hd st re De lf lx => by
  subst hS
  exact h.run σ H Hd st.drop re De lf lx⟩
end
end DL
/-! l.count(x) over data; sum, zip -/
namespace DL
open PySem PySem.Spec PyProof.Rows L2
def rCountD (K : PySem.W.Frag) : V → List V → Hp → VK → Prop := fun x xs H Q => ∃ (a : Addr) (y : V) (d : PyData) (ds : List PyData), x = V.ref a ∧ xs = [y] ∧ Dp K H (V.ref a) (.list ds) ∧ Dp K H y d ∧ PyData.plainAll ds = true ∧ d.plain = true ∧ d.depth ≤ 9 ∧ Q (.int ((ds.countP fun z => PyData.eqv z d : Nat) : Int)) H
theorem mt_countD {X : Cx} (hu : X.A.units + 65 < cLine) : MtR X "list.count" (rCountD X.K) := by
  intro pins s σ H x xs v us Q I rx rxs h
  obtain ⟨a, y, d, ds, rfl, rfl, hl, hy, pl, pd, hdp, q⟩ := h
  cases rx
  obtain ⟨u, rfl, ru⟩ := rxs.one
  obtain ⟨bs, r1⟩ := Dp.reads I d y u hy ru
  cases hl with
  | lst hs ha =>
    obtain ⟨its, rv, hL, _⟩ := I.list hs
    obtain ⟨as, rr⟩ := Dp.readsAll I ds _ its ha rv
    exact PySem.SeqAt.count_list_data (vs := its.toArray) hL.isList rr r1 pl pd (by omega) ⟨.int _, H, I.tok _, ⟨_, rfl⟩, q⟩
theorem countP_toPy (x : D) : ∀ l : List D, (toPyL l).countP (fun z => PyData.eqv z (toPy x)) = l.countP fun z => eqB z x
  | [] => rfl
  | d :: l => by
    show (toPy d :: toPyL l).countP _ = _
    rw [List.countP_cons, List.countP_cons, countP_toPy x l] <;> rfl
section
variable {X : Cx} {e : Expr} {en : DEnv} {S : Sto}
theorem de_count {o : Expr} {apos cpos : Pos} {Q : D → Sto → Prop} (hu : X.A.units + 65 < cLine) (h : DE X o en S fun d S1 => ∃ l, d = .lst l ∧ flatOkL 8 l = true ∧ PyData.plainAll (toPyL l) = true ∧ DA X [e] en S1 fun vs S2 => ∃ x, vs = [x] ∧ flatOk 9 x = true ∧ (toPy x).plain = true ∧ Q (.int ((l.countP fun z => eqB z x : Nat) : Int)) S2)
    (mk : ∀ {to : TE} {t : TA}, MtR X "list.count" (rCountD X.K) → PE X o to → PA X [e] t → PE X (.Call (.Attribute o "count" apos) [e] [] cpos) (tBM X.K "list" (rCountD X.K) to t) := by
      exact fun hm ho ha => pe_bm PySem.F.plainAttrs_list PySem.F.slot_list_count PySem.F.type_list_count hm ho ha) : DE X (.Call (.Attribute o "count" apos) [e] [] cpos) en S Q := ⟨fun σ H Hd st re => by
  refine wE_of (mk (mt_countD hu) peW paW) ?_
  refine wE_mono (h σ H Hd st re) fun o' H1 ⟨d, S1, Hd1, e1, st1, r1, l, f1, hf, hp, q⟩ => ?_
  subst f1
  have r1' := Rp.mono st1.sub _ _ r1
  obtain ⟨a, xs, rfl, hx, _⟩ := r1'
  refine ⟨.inl ⟨rfl, xs, .of hx⟩, ?_⟩
  refine wA_mono (q σ H1 Hd1 st1 (re.mono e1)) fun vs H2 ⟨ds, S2, Hd2, e2, st2, r2, x, f2, fx, px, q2⟩ => ?_
  subst f2
  obtain ⟨v1, f3, rv⟩ := one_rp r2
  subst f3
  have r3 := Rp.mono st2.sub _ _ (Rp.mono e2 _ _ r1)
  have r4 := Rp.mono st2.sub _ _ rv
  have hl := dp_of 9 (.lst l) (.ref a) (flat9l hf) r3
  refine ⟨a, v1, toPy x, toPyL l, rfl, rfl, hl, dp_of 9 x v1 fx r4, hp, px, (lay_of 9 x fx).2, ?_⟩
  rw [countP_toPy]
  exact ⟨.int _, S2, Hd2, e1.trans e2, st2, rfl, q2⟩⟩
end
/-- whole numbers, truths -/
theorem flat_ints : ∀ l : List Int, flatOkL 8 (l.map D.int) = true
  | [] => rfl
  | i :: l => by
    show (flatOk 8 (.int i) && flatOkL 8 (l.map D.int)) = true
    rw [flat_ints l] <;> rfl
theorem flat_bls : ∀ l : List Bool, flatOkL 8 (l.map D.bl) = true
  | [] => rfl
  | i :: l => by
    show (flatOk 8 (.bl i) && flatOkL 8 (l.map D.bl)) = true
    rw [flat_bls l] <;> rfl
theorem plain_ints : ∀ l : List Int, PyData.plainAll (toPyL (l.map D.int)) = true
  | [] => rfl
  | i :: l => by
    show ((toPy (.int i)).plain && PyData.plainAll (toPyL (l.map D.int))) = true
    rw [plain_ints l] <;> rfl
theorem plain_bls : ∀ l : List Bool, PyData.plainAll (toPyL (l.map D.bl)) = true
  | [] => rfl
  | i :: l => by
    show ((toPy (.bl i)).plain && PyData.plainAll (toPyL (l.map D.bl))) = true
    rw [plain_bls l] <;> rfl
end DL
/-! sum and min of a tuple of whole numbers -/
namespace DL
open PySem PySem.Spec PyProof.Rows L2
end DL
/-! xs.extend(ys) -/
namespace DL
open PySem PySem.Spec PyProof.Rows L2
section
variable {X : Cx} {e : Expr} {en : DEnv} {S : Sto}
end
end DL
/-! zip of two lists -/
namespace DL
open PySem PySem.Spec PyProof.Rows L2
section
variable {X : Cx} {e e2 : Expr} {en : DEnv} {S : Sto} {R : List D → Sto → Prop} {p pos : Pos}
end
end DL
/-! repr of many small numbers -/
namespace DL
open PySem PySem.Spec PyProof.Rows L2
end DL
/-! max of three -/
namespace DL
open PySem PySem.Spec PyProof.Rows L2
end DL
namespace DL
open PySem PySem.Spec PyProof.Rows L2
/-! ### ranges whose ends are great -/
section
variable {X : Cx} {tg : Expr}
variable {a b : Expr} {en : DEnv} {S : Sto} {R : List D → Sto → Prop} {p pos : Pos}
end
end DL
namespace DL
open PySem PySem.Spec PyProof.Rows L2
/-! ### comprehensions over two walks -/
section
variable {X : Cx} {elt iter iter1 : Expr} {en : DEnv} {S : Sto} {Q : D → Sto → Prop} {pos py pz : Pos} {y z : Str} {scope : Scope}
end
end DL
namespace DL
open PySem PySem.Spec PyProof.Rows L2
/-! ### for x in a list that may be changed, but is not, within -/
section
variable {X : Cx} {tg iter : Expr} {body : List Stmt} {en : DEnv} {S : Sto} {Z : Dn} {pos : Pos}
end
end DL
namespace DL
open PySem PySem.Spec PyProof.Rows L2
/-! ### xs[i] += e, of whole numbers in a changed list -/
section
variable {X : Cx} {a b e : Expr} {en : DEnv} {S : Sto} {Z : Dn} {pos tpos : Pos}
end
end DL
namespace DL
open PySem PySem.Spec PyProof.Rows L2
/-! ### pairs of whole numbers in order -/
def lt2 (s t : Int × Int) : Bool := decide (s.1 < t.1 ∨ s.1 = t.1 ∧ s.2 < t.2)
section
variable {X : Cx} {a b : Expr} {en : DEnv} {S : Sto} {Q : D → Sto → Prop} {P : Bool → Sto → Prop} {pos : Pos}
end
end DL
/-! sorted of a tuple of ints -/
namespace DL
open PySem PySem.Spec PyProof.Rows L2
end DL
/-! repr of an own exception that was made with one text -/
namespace PySem
namespace ExR
open Sem (wp)
open Builtin Builtin.Str Builtin.BaseException Builtin.Exceptions
open PySem.W (Looks Frag findIn subIn clsIn looks_findIn looks_subIn looks_clsIn)
def nmOf (cd : PySem.ClassData) : Str := Str.ofString ((cd.name.toString.cutAt '.').getLastD "")
/-- how such an error is shown -/
def txtOf (cd : PySem.ClassData) (m : Str) : Str := nmOf cd ++ Str.ofString "(" ++ reprText m ++ Str.ofString ")"
section
variable {prog : Program} {w : World} {M : Model} {A : Around} {E : Value → Shared → Prop} {s : Shared} {K : Frag} {C e t0 : Addr} {cd : PySem.ClassData} {m : Str} {tk : Tok}
theorem tnw (hc : clsIn K C = some cd) (x : ExcC K C e t0 s.heap) {Q : String → Shared → Prop} (q : Q cd.name.toString s) : wpAny M A (typeNameOfWhole (.ref e)) Q E s := by
  unfold typeNameOfWhole shownTypeOf
  refine wpAny_bind (wpAny_bind (x.LT.here ?_))
  have e1 : ((Value.ref C == Value.type "builtin_function_or_method") = true) = False := by
    have z : (Value.ref C == Value.type "builtin_function_or_method") = false := rfl
    rw [z]
    simp
  simp only [e1, if_false]
  refine wpAny_pure ?_
  show wpAny M A (classData C >>= fun d => pure d.name.toString) Q E s
  exact wpAny_bind ((looks_clsIn x.1 hc).here (wpAny_pure q))
theorem reprAt (b : Nat) (hc : clsIn K C = some cd) (x : ExcC K C e t0 s.heap) (ht : s.heap.TupAt t0 [.str m tk]) {Q : Fin → Shared → Prop}
    (q : Q (.done (.ret (.str (txtOf cd m) (s.toks + 1)))) { s with toks := s.toks + 1 + 1 }) (hz : b + (txtOf cd m).length ≤ sizeLine) : wpAny (model prog w) A (bexcReprAt b ⟨[.ref e], []⟩) Q E s := by
  have z1 : b + (nmOf cd ++ Str.ofString "(" ++ reprText m ++ Str.ofString ")").length ≤ sizeLine := hz
  have z2 : (nmOf cd ++ Str.ofString "(" ++ reprText m ++ Str.ofString ")").length ≤ sizeLine := Nat.le_trans (Nat.le_add_left _ b) z1
  have z3 : (Str.ofString ((cd.name.toString.cutAt '.').getLastD "") ++ Str.ofString "(" ++ reprText m ++ Str.ofString ")").length ≤ sizeLine := z2
  have p1 : (Str.ofString "(").length = 1 := by rw [ofString_length] <;> rfl
  have z4 := z1
  rw [strLen_append, strLen_append, strLen_append, p1] at z4
  have hsz1 : (reprText m).length ≤ sizeLine := by omega
  have hp : b + ((Str.ofString ((cd.name.toString.cutAt '.').getLastD "")).length + 1) ≤ sizeLine := by
    have : (nmOf cd).length = (Str.ofString ((cd.name.toString.cutAt '.').getLastD "")).length := rfl
    omega
  unfold bexcReprAt
  repeat (first
    | with_reducible refine tnw hc x ?_
    | with_reducible refine bexcArgs_C x ht ?_
    | rw [pyReprUnder_leaf (v := .str m tk) hp (by intro a; nofun)]
    | with_reducible refine wpAny_pyRepr_str ?_
    | wp_step)
  exact q
/-- the slot, bound -/
theorem ifB {name : Str} {id : String} {Q : Option Value → Shared → Prop} (x : ExcC K C e t0 s.heap) (hf : findIn K (.ref C) name = some (some (.builtin id))) (hb : bindSpecial (.builtin id) (.ref e) = pure (.builtin id, [.ref e]))
    {last : Value → List Value → Sem Value} (h : wpAny M A (last (.builtin id) [.ref e]) (fun v => Q (some v)) E s) : wpAny M A (callSpecialIfBoundBy? last (.ref e) name) Q E s := by
  have sp : Looks M s.heap (specialOf (.ref e) name) (some (.builtin id)) := x.LT.andThen (looks_findIn x.1 hf)
  simp only [callSpecialIfBoundBy?, bindSpecialIfBound?]
  refine wpAny_holding (wpAny_bind (wpAny_bind (sp.here ?_)))
  refine wpAny_bind (wpAny_askSetting (wpAny_ite ?_))
  have k : wpAny M A (last (.builtin id) [.ref e] >>= fun v => pure (some v)) Q E s := wpAny_bind (wpAny_mono h (fun v s' z => wpAny_pure z) fun _ _ z => z)
  split
  · exact wpAny_bind (wpAny_of_eq hb (wpAny_pure (by exact k)))
  · exact wpAny_tryCatch (wpAny_bind (wpAny_of_eq hb (wpAny_pure (by exact k))))
theorem ifB0 {name : Str} {id : String} {Q : Option Value → Shared → Prop} (x : ExcC K C e t0 s.heap) (hf : findIn K (.ref C) name = some (some (.builtin id))) (hb : bindSpecial (.builtin id) (.ref e) = pure (.builtin id, [.ref e]))
    (h : wpAny M A (call (.builtin id) [.ref e]) (fun v => Q (some v)) E s) : wpAny M A (callSpecialIfBound? (.ref e) name) Q E s := by
  have sp : Looks M s.heap (specialOf (.ref e) name) (some (.builtin id)) := x.LT.andThen (looks_findIn x.1 hf)
  simp only [callSpecialIfBound?, bindSpecialIfBound?]
  refine wpAny_holding (wpAny_bind (wpAny_bind (sp.here ?_)))
  refine wpAny_bind (wpAny_askSetting (wpAny_ite ?_))
  have k : wpAny M A (call (.builtin id) ([.ref e] ++ []) >>= fun v => pure (some v)) Q E s := wpAny_bind (wpAny_mono h (fun v s' z => wpAny_pure z) fun _ _ z => z)
  split
  · exact wpAny_bind (wpAny_of_eq hb (wpAny_pure (by exact k)))
  · exact wpAny_tryCatch (wpAny_bind (wpAny_of_eq hb (wpAny_pure (by exact k))))
theorem bexc_sub {x : ExcC K C e t0 s.heap} (hB : subIn K (.ref C) (.type "BaseException") = some true) {Q : Unit → Shared → Prop} (q : Q () s) : wpAny (model prog w) A (checkBuiltinCall "BaseException.__repr__" ⟨[.ref e], []⟩) Q E s :=
  @PySem.W.check_slot _ _ _ _ "BaseException.__repr__" "BaseException" "__repr__" (.ref e) [] [] _ (by decide +kernel) (by decide +kernel) (x.LI hB) (F.args_bexc_repr _) q
theorem bexc_bind : bindSpecial (.builtin "BaseException.__repr__") (.ref e) = pure (.builtin "BaseException.__repr__", [.ref e]) := F.excStr_Exception.repr.bind _
theorem under (b : Nat) (hc : clsIn K C = some cd) (x : ExcC K C e t0 s.heap) (ht : s.heap.TupAt t0 [.str m tk]) (hB : subIn K (.ref C) (.type "BaseException") = some true) (hf : findIn K (.ref C) "__repr__" = some (some (.builtin "BaseException.__repr__"))) (hu : A.units < cLine)
    {Q : Value → Shared → Prop} (q : Q (.str (txtOf cd m) (s.toks + 1)) { s with toks := s.toks + 1 + 1 }) (hz : b + (txtOf cd m).length ≤ sizeLine) : wpAny (model prog w) A (pyReprObjUnder b (.ref e)) Q E s := by
  unfold pyReprObjUnder pyReprObjBy
  refine wpAny_bind (wpAny_cRoomFor hu ?_)
  have sp : Looks (model prog w) s.heap (specialOf (.ref e) (Str.ofString "__repr__")) (some (.builtin "BaseException.__repr__")) := x.LT.andThen (looks_findIn x.1 hf)
  refine wpAny_bind (sp.here ?_)
  refine wpAny_bind (ifB (name := Str.ofString "__repr__") x hf bexc_bind ?_)
  show wpAny (model prog w) A (call (.builtin "BaseException.__repr__.under") [.ref e, rawInt b]) _ _ _
  refine wpAny_call (codeAny_call_builtin F.plain_bexc_repr_under F.entry_bexc_repr_under ?_)
  rw [F.check_bexc_repr_under]
  refine wpAny_pure ?_
  rw [show Builtin.«BaseException.__repr__.under» = reprTwin "BaseException.__repr__" bexcReprAt from rfl, reprTwin_eq]
  refine wpAny_bind (bexc_sub (x := x) hB ?_)
  refine reprAt b hc x ht ?_ hz
  show wpAny _ _ (isInstance (.str (txtOf cd m) (s.toks + 1)) (.type "str") >>= _) _ _ _
  refine wpAny_bind (wpAny_isInstance (T := "str") (b := true) rfl isSubtype_str_str ?_)
  exact wpAny_pure q
/-- repr(e) -/
theorem call_repr (hc : clsIn K C = some cd) (x : ExcC K C e t0 s.heap) (ht : s.heap.TupAt t0 [.str m tk]) (hB : subIn K (.ref C) (.type "BaseException") = some true) (hf : findIn K (.ref C) "__repr__" = some (some (.builtin "BaseException.__repr__"))) (hu : A.units + 1 < cLine)
    {Q : Value → Shared → Prop} (q : Q (.str (txtOf cd m) (s.toks + 1)) { s with toks := s.toks + 1 + 1 }) (hz : (txtOf cd m).length ≤ sizeLine) : wpAny (model prog w) A (call (.builtin "repr") [.ref e]) Q E s := by
  refine Calls.call_function_entry F.kind_repr F.plain_repr F.entry_repr (F.args_repr1 _) ?_
  unfold Builtin.«repr»
  refine wpAny_bind (m := oneArg "repr" _) (wpAny_pure ?_)
  refine wpAny_bind (wpAny_cRoomFor (show A.in1.units < cLine from hu) ?_)
  have sp : Looks (model prog w) s.heap (specialOf (.ref e) (Str.ofString "__repr__")) (some (.builtin "BaseException.__repr__")) := x.LT.andThen (looks_findIn x.1 hf)
  refine wpAny_bind (sp.here ?_)
  refine wpAny_bind (ifB0 (name := Str.ofString "__repr__") x hf bexc_bind ?_)
  refine wpAny_call (codeAny_call_builtin F.excStr_Exception.repr.plain F.entry_bexc_repr (bexc_sub (x := x) hB ?_))
  show wpAny _ _ (bexcReprAt 0 ⟨[.ref e], []⟩) _ _ _
  refine reprAt 0 hc x ht ?_ (by rw [Nat.zero_add]; exact hz)
  show wpAny _ _ (isInstance (.str (txtOf cd m) (s.toks + 1)) (.type "str") >>= _) _ _ _
  refine wpAny_bind (wpAny_isInstance (T := "str") (b := true) (typeIs_str _ _ _) isSubtype_str_str ?_)
  exact wpAny_pure ⟨_, rfl, q⟩
end
end ExR
end PySem
/-! what any value is shown as: plain data, dicts, own errors, lists and tuples of them -/
namespace DL
open PySem PySem.Spec PyProof.Rows L2
/-! ### how deep a value is -/
mutual
inductive Dpt (h : Heap) : Value → Nat → Prop
  | leaf {v : Value} : (∀ a, v ≠ .ref a) → Dpt h v 0
  | obj {a : Addr} {o : Obj} : h.get? a = some o → (∀ xs n, o.data ≠ .seq xs n) → Dpt h (.ref a) 1
  | seq {a : Addr} {o : Obj} {items : List Value} {n k : Nat} : h.get? a = some o → o.data = .seq items.toArray n → DptL h items k → Dpt h (.ref a) (k + 1)
inductive DptL (h : Heap) : List Value → Nat → Prop
  | nil : DptL h [] 0
  | cons {v : Value} {vs : List Value} {j k : Nat} : Dpt h v j → DptL h vs k → DptL h (v :: vs) (max j k)
end
mutual
theorem Dpt.det {h : Heap} : ∀ {v : Value} {n m : Nat}, Dpt h v n → Dpt h v m → n = m
  | _, _, _, .leaf e, .leaf _ => rfl
  | _, _, _, .leaf e, .obj _ _ => absurd rfl (e _)
  | _, _, _, .leaf e, .seq _ _ _ => absurd rfl (e _)
  | _, _, _, .obj _ _, .leaf e => absurd rfl (e _)
  | _, _, _, .obj _ _, .obj _ _ => rfl
  | _, _, _, .obj e f, .seq e2 f2 _ => by
    rw [e] at e2
    cases e2
    exact absurd f2 (f _ _)
  | _, _, _, .seq _ _ _, .leaf e => absurd rfl (e _)
  | _, _, _, .seq e f _, .obj e2 f2 => by
    rw [e] at e2
    cases e2
    exact absurd f (f2 _ _)
  | _, _, _, .seq (items := i1) e f g, .seq (items := i2) e2 f2 g2 => by
    rw [e] at e2
    cases e2
    rw [f] at f2
    have z : i1 = i2 := by
      have w := congrArg (fun d => match d with | Data.seq xs _ => xs.toList | _ => []) f2
      simpa using w
    subst z
    rw [DptL.det g g2]
theorem DptL.det {h : Heap} : ∀ {vs : List Value} {n m : Nat}, DptL h vs n → DptL h vs m → n = m
  | _, _, _, .nil, .nil => rfl
  | _, _, _, .cons a b, .cons c d => by rw [Dpt.det a c, DptL.det b d]
end
def AsB (h : Heap) (n : Nat) (as : List Addr) : Prop := ∀ b ∈ as, ∃ m, m ≤ n ∧ Dpt h (.ref b) m
theorem AsB.nil {h : Heap} {n : Nat} : AsB h n [] := fun _ z => nomatch z
theorem AsB.up {h : Heap} {n m : Nat} {as : List Addr} (x : AsB h n as) (k : n ≤ m) : AsB h m as := fun b hb => let ⟨j, h1, h2⟩ := x b hb; ⟨j, Nat.le_trans h1 k, h2⟩
theorem AsB.app {h : Heap} {n : Nat} {as bs : List Addr} (x : AsB h n as) (y : AsB h n bs) : AsB h n (as ++ bs) := fun b hb => (List.mem_append.mp hb).elim (x b) (y b)
theorem AsB.notIn {h : Heap} {n : Nat} {as : List Addr} {a : Addr} (x : AsB h n as) (d : Dpt h (.ref a) (n + 1)) : a ∉ as := fun hm => by
  obtain ⟨m, h1, h2⟩ := x a hm
  have := Dpt.det d h2
  omega
/-- u is shown as t -/
def Sh (P : Program) (w : World) (h : Heap) (u : Value) (t : Str) (n : Nat) : Prop := ∃ as, Dpt h u n ∧ AsB h n as ∧ ReprK P w as h n u t
def ShL (P : Program) (w : World) (h : Heap) (us : List Value) (ts : List Str) (n : Nat) : Prop := ∃ as, DptL h us n ∧ AsB h n as ∧ ReprAllK P w as h n us ts
section
variable {P : Program} {w : World} {h : Heap} {u : Value} {us : List Value} {t : Str} {ts : List Str} {n j k : Nat} {a : Addr} {o : Obj} {na : Nat}
theorem Sh.leaf (e : ∀ a, u ≠ .ref a) (r : ReprIs P w u t) : Sh P w h u t 0 := ⟨[], .leaf e, .nil, .of_is r _ _ _⟩
theorem ShL.nil : ShL P w h [] [] 0 := ⟨[], .nil, .nil, .nil⟩
theorem ShL.cons (x : Sh P w h u t j) (y : ShL P w h us ts k) : ShL P w h (u :: us) (t :: ts) (max j k) := by
  obtain ⟨as, d1, b1, r1⟩ := x
  obtain ⟨bs, d2, b2, r2⟩ := y
  exact ⟨as ++ bs, .cons d1 d2, (b1.up (Nat.le_max_left _ _)).app (b2.up (Nat.le_max_right _ _)),
    .cons ((r1.more fun b hb => List.mem_append_left _ hb).level_le (Nat.le_max_left _ _)) (r2.more_le (fun b hb => List.mem_append_right _ hb) (Nat.le_max_right _ _))⟩
theorem Sh.lst (x : ShL P w h us ts n) (ho : h.get? a = some o) (hc : o.cls = .type "list") (hd : o.data = .seq us.toArray na) : Sh P w h (.ref a) (listText ts) (n + 1) := by
  obtain ⟨as, d, b, r⟩ := x
  have D : Dpt h (.ref a) (n + 1) := .seq ho hd d
  refine ⟨a :: as, D, fun c hc2 => ?_, ?_⟩
  · rcases List.mem_cons.mp hc2 with e | e
    · rw [e]
      exact ⟨_, Nat.le_refl _, D⟩
    · exact (b.up (Nat.le_succ _)) c e
  · cases us with
    | nil =>
      cases r
      rw [listText_nil]
      exact ReprK.listEmpty ho hc hd
    | cons x l => exact ReprK.list ho hc hd (b.notIn D) (by simpa using r.length_eq) (fun i y e => r.item i y (by simpa using e))
theorem Sh.tup (x : ShL P w h us ts n) (ho : h.get? a = some o) (hc : o.cls = .type "tuple") (hd : o.data = .seq us.toArray na) : Sh P w h (.ref a) (tupleText ts) (n + 1) := by
  obtain ⟨as, d, b, r⟩ := x
  have D : Dpt h (.ref a) (n + 1) := .seq ho hd d
  refine ⟨a :: as, D, fun c hc2 => ?_, ReprK.tuple ho hc hd (b.notIn D) r⟩
  rcases List.mem_cons.mp hc2 with e | e
  · rw [e]
    exact ⟨_, Nat.le_refl _, D⟩
  · exact (b.up (Nat.le_succ _)) c e
end

/-! ### data that is shown -/
/-- what stands behind an ext is shown as t -/
structure ShX (P : Program) (w : World) (K : PySem.W.Frag) (Q : Hp → V → Prop) (t : Str) (n : Nat) : Prop where
  sh : ∀ {X : Cx} {pins : List (Addr × Obj)} {σ : L2.St} {H Hd : Hp} {s : Shared} {v : V} {u : Value}, X.prog = P → X.w = w → X.K = K → Inv X pins σ H s → Same Hd H → Q Hd v → RelV v u → Sh P w s.heap u t n
  top : ∀ {X : Cx} {pins : List (Addr × Obj)} {σ : L2.St} {H Hd : Hp} {s : Shared} {v : V} {u : Value} {R : Value → Shared → Prop} {E : Value → Shared → Prop}, X.prog = P → X.w = w → X.K = K → X.A.guards = some [] → X.A.units + 64 < cLine → t.length ≤ sizeLine → Inv X pins σ H s → Same Hd H → Q Hd v → RelV v u →
    (∀ h' x tk, (∀ b o, s.heap.get? b = some o → h'.get? b = some o) → R (.str t x) { s with heap := h', toks := tk }) → wpAny (model X.prog X.w) X.A (call (.builtin "repr") [u]) R E s
mutual
/-- d is shown as t, of depth n; t has at most m signs -/
def ShD (P : Program) (w : World) (K : PySem.W.Frag) : D → Str → Nat → Nat → Prop
  | .non, t, n, m => t = "None" ∧ n = 0 ∧ 8 ≤ m
  | .bl b, t, n, m => t = (if b then Str.ofString "True" else Str.ofString "False") ∧ n = 0 ∧ 8 ≤ m
  | .int i, t, n, m => t = toString i ∧ i.natAbs < 2 ^ 1900 ∧ n = 0 ∧ 1930 ≤ m
  | .str x, t, n, m => t = reprText x ∧ (reprText x).length ≤ m ∧ n = 0 ∧ m ≤ 100000
  | .tup l, t, n, m => ∃ ts k j, ShDL P w K l ts k j ∧ t = tupleText ts ∧ n = k + 1 ∧ j + 3 ≤ m
  | .lst l, t, n, m => ∃ ts k j, ShDL P w K l ts k j ∧ t = listText ts ∧ n = k + 1 ∧ j + 3 ≤ m
  | .ext Q, t, n, m => ShX P w K Q t n ∧ t.length ≤ m
  | .raw _, _, _, _ => False
  | .scr _, _, _, _ => False
def ShDL (P : Program) (w : World) (K : PySem.W.Frag) : List D → List Str → Nat → Nat → Prop
  | [], ts, n, _ => ts = [] ∧ n = 0
  | d :: ds, ts, n, m => ∃ t ts' j k p q, ts = t :: ts' ∧ ShD P w K d t j p ∧ ShDL P w K ds ts' k q ∧ n = max j k ∧ p + 2 + q ≤ m
end
section
variable {P : Program} {w : World} {K : PySem.W.Frag}
mutual
theorem sh_len : ∀ (d : D) (t : Str) (n m : Nat), ShD P w K d t n m → t.length ≤ m
  | .non, t, n, m, h => by
    obtain ⟨rfl, _, h⟩ := h
    exact Nat.le_trans (by decide) h
  | .bl b, t, n, m, h => by
    obtain ⟨rfl, _, h⟩ := h
    refine Nat.le_trans ?_ h
    cases b <;> decide
  | .int i, t, n, m, h => by
    obtain ⟨rfl, hi, _, h⟩ := h
    obtain ⟨h1, h2⟩ := digits_le hi
    refine Nat.le_trans ?_ h
    have : (Str.ofString (toString i)).length ≤ 1921 := h1
    exact Nat.le_trans this (by decide)
  | .str x, t, n, m, h => by
    obtain ⟨rfl, h, _⟩ := h
    exact h
  | .tup l, t, n, m, h => by
    obtain ⟨ts, k, j, hl, rfl, _, hj⟩ := h
    have e := sh_lens l ts k j hl
    have := tupleText_len_le ts
    omega
  | .lst l, t, n, m, h => by
    obtain ⟨ts, k, j, hl, rfl, _, hj⟩ := h
    have e := sh_lens l ts k j hl
    have := listText_len_le ts
    omega
  | .ext Q, t, n, m, h => h.2
  | .raw _, _, _, _, h => h.elim
  | .scr _, _, _, _, h => h.elim
theorem sh_lens : ∀ (l : List D) (ts : List Str) (n m : Nat), ShDL P w K l ts n m → (ts.map (·.length)).sum + 2 * ts.length ≤ m
  | [], ts, n, m, h => by
    obtain ⟨rfl, _⟩ := h
    simp
  | d :: ds, ts, n, m, h => by
    obtain ⟨t, ts', j, k, p, q, rfl, h1, h2, _, h3⟩ := h
    have e1 := sh_len d t j p h1
    have e2 := sh_lens ds ts' k q h2
    simp only [List.map_cons, List.sum_cons, List.length_cons]
    omega
end
end
section
variable {X : Cx} {pins : List (Addr × Obj)} {σ : L2.St} {H Hd : Hp} {s : Shared}
mutual
theorem sh_of (I : Inv X pins σ H s) (e : Same Hd H) : ∀ (d : D) (t : Str) (n m : Nat) (v : V) (u : Value), ShD X.prog X.w X.K d t n m → t.length ≤ sizeLine → Rp X.K Hd d v → RelV v u → Sh X.prog X.w s.heap u t n
  | .non, t, n, m, v, u, h, _, r, q => by
    obtain ⟨rfl, rfl, _⟩ := h
    have r : v = .non := r
    subst r
    have q : u = .none := q
    subst q
    exact .leaf (fun _ z => nomatch z) ReprIs.none
  | .bl b, t, n, m, v, u, h, _, r, q => by
    obtain ⟨rfl, rfl, _⟩ := h
    have r : v = .bl b := r
    subst r
    have q : u = .bool b := q
    subst q
    exact .leaf (fun _ z => nomatch z) (ReprIs.bool b)
  | .int i, t, n, m, v, u, h, _, r, q => by
    obtain ⟨rfl, hi, rfl, _⟩ := h
    have r : v = .int i := r
    subst r
    obtain ⟨tk, rfl⟩ := q
    exact .leaf (fun _ z => nomatch z) (ReprIs.int tk (digits_le hi).2)
  | .str x, t, n, m, v, u, h, z, r, q => by
    obtain ⟨rfl, hz, rfl, _⟩ := h
    have r : v = .str x := r
    subst r
    obtain ⟨tk, rfl⟩ := q
    exact .leaf (fun _ z => nomatch z) (ReprIs.str x tk z)
  | .tup l, t, n, m, v, u, h, z, r, q => by
    obtain ⟨ts, k, j, hl, rfl, rfl, _⟩ := h
    obtain ⟨a, xs, rfl, h1, h2⟩ := r
    have q : u = .ref a := q
    subst q
    obtain ⟨its, rv, ⟨o, ho, hc, na, hd⟩, _⟩ := I.tuple (same_t e h1)
    exact Sh.tup (shs_of I e l ts k j xs its hl (fun t ht => Nat.le_trans (tupleText_mem_le ht) z) h2 rv) ho hc hd
  | .lst l, t, n, m, v, u, h, z, r, q => by
    obtain ⟨ts, k, j, hl, rfl, rfl, _⟩ := h
    obtain ⟨a, xs, rfl, h1, h2⟩ := r
    have q : u = .ref a := q
    subst q
    obtain ⟨its, rv, ⟨o, na, ho, hc, _, hd⟩, _⟩ := I.list (.of (e _ _ h1))
    exact Sh.lst (shs_of I e l ts k j xs its hl (fun t ht => Nat.le_trans (listText_mem_le ht) z) h2 rv) ho hc hd
  | .ext Q, t, n, m, v, u, h, z, r, q => by
    obtain ⟨H0, e0, r⟩ := r
    exact h.1.sh rfl rfl rfl I (e0.trans e) r q
  | .raw _, _, _, _, _, _, h, _, _, _ => h.elim
  | .scr _, _, _, _, _, _, h, _, _, _ => h.elim
theorem shs_of (I : Inv X pins σ H s) (e : Same Hd H) : ∀ (l : List D) (ts : List Str) (n m : Nat) (vs : List V) (us : List Value), ShDL X.prog X.w X.K l ts n m → (∀ t ∈ ts, t.length ≤ sizeLine) → RpL X.K Hd l vs → Vals vs us → ShL X.prog X.w s.heap us ts n
  | [], ts, n, m, vs, us, h, _, r, q => by
    obtain ⟨rfl, rfl⟩ := h
    have r : vs = [] := r
    subst r
    cases q
    exact .nil
  | d :: ds, ts, n, m, vs, us, h, z, r, q => by
    obtain ⟨t, ts', j, k, p, q', rfl, h1, h2, rfl, _⟩ := h
    obtain ⟨v, vs', rfl, r1, r2⟩ := r
    cases q with
    | cons q1 q2 => exact .cons (sh_of I e d t j p v _ h1 (z t List.mem_cons_self) r1 q1) (shs_of I e ds ts' k q' vs' _ h2 (fun t ht => z t (List.mem_cons_of_mem _ ht)) r2 q2)
end
end
end DL
/-! dicts of ints, own errors as values: their text, their kind; repr and isinstance of any value -/
namespace DL
open PySem PySem.Spec PyProof.Rows L2
/-- a dict of ints -/
def dicD (kvs : List (Key × Int)) : D := .ext fun H v => ∃ a, v = .ref a ∧ H a = some (.dK (kvs.map fun p => (p.1, V.int p.2)))
def keyTx : Key → Str
  | .inl i => toString i
  | .inr x => reprText x
def keyOk : Key → Prop
  | .inl i => i.natAbs < 2 ^ 1900
  | .inr x => (reprText x).length ≤ 100000
def dicTx (kvs : List (Key × Int)) : Str := dictText (kvs.map fun p => keyTx p.1 ++ Str.ofString ": " ++ Str.ofString (toString p.2))
section
variable {P : Program} {w : World} {h : Heap}
theorem ents_sh : ∀ {kvs : List (Key × Int)} {es : List DictEntry} {vs : List (Key × Value)}, (∀ p ∈ kvs, keyOk p.1 ∧ p.2.natAbs < 2 ^ 1900) → KV (kvs.map fun p => (p.1, V.int p.2)) vs → Pairs (mixKind P w) es vs →
    ReprEntriesK P w [] h 0 es (kvs.map fun p => keyTx p.1 ++ Str.ofString ": " ++ Str.ofString (toString p.2))
  | [], es, vs, ok, kv, ps => by
    cases kv
    cases ps
    exact .nil
  | (k, i) :: kvs, es, vs, ok, kv, ps => by
    cases kv with
    | cons z rest =>
      cases ps with
      | cons z1 z2 ps =>
        obtain ⟨e1, e2⟩ := z
        obtain ⟨o1, o2⟩ := ok (k, i) List.mem_cons_self
        obtain ⟨tk, e3⟩ := e2
        refine .cons (d := 0) ?_ ?_ (ents_sh (fun p hp => ok p (List.mem_cons_of_mem _ hp)) rest ps)
        · dsimp only at e1 z1
          rw [← e1] at z1
          rcases keyIs_shape z1 with ⟨j, t, rfl, ev⟩ | ⟨x, t, rfl, ev⟩
          · rw [ev]
            exact .of_is (ReprIs.int t (digits_le o1).2) _ _ _
          · rw [ev]
            exact .of_is (ReprIs.str x t (Nat.le_trans o1 (by decide))) _ _ _
        · rw [z2, e3]
          exact .of_is (ReprIs.int tk (digits_le o2).2) _ _ _
end
theorem dic_at {X : Cx} {pins : List (Addr × Obj)} {σ : L2.St} {H Hd : Hp} {s : Shared} {kvs : List (Key × Int)} {v : V} {u : Value} (I : Inv X pins σ H s) (e : Same Hd H) (q : ∃ a, v = .ref a ∧ Hd a = some (.dK (kvs.map fun p => (p.1, V.int p.2)))) (r : RelV v u) :
    ∃ (a : Addr) (o : Obj) (es : Array DictEntry) (ep : Nat) (vs : List (Key × Value)), u = .ref a ∧ s.heap.get? a = some o ∧ o.cls = .type "dict" ∧ o.data = .dict es ep ∧ (a == sysModules) = false ∧ KV (kvs.map fun p => (p.1, V.int p.2)) vs ∧ Pairs (mixKind X.prog X.w) es.toList vs := by
  obtain ⟨a, rfl, ha⟩ := q
  have r : u = .ref a := r
  subst r
  obtain ⟨_, sy, vs, kv, o, es, ep, ho, hx, hd, _, hp, _⟩ := I.hok a _ (e _ _ ha)
  exact ⟨a, o, es, ep, vs, rfl, ho, hx.1, hd, sy, kv, hp⟩
theorem shx_dic {P : Program} {w : World} {K : PySem.W.Frag} {kvs : List (Key × Int)} (ok : ∀ p ∈ kvs, keyOk p.1 ∧ p.2.natAbs < 2 ^ 1900) : ShX P w K (fun H v => ∃ a, v = .ref a ∧ H a = some (.dK (kvs.map fun p => (p.1, V.int p.2)))) (dicTx kvs) 1 where
  sh := fun {X pins σ H Hd s v u} e1 e2 e3 I e q r => by
    subst e1 e2 e3
    obtain ⟨a, o, es, ep, vs, rfl, ho, hc, hd, sy, kv, hp⟩ := dic_at I e q r
    have D : Dpt s.heap (.ref a) 1 := .obj ho fun xs n z => by rw [hd] at z; cases z
    refine ⟨[a], D, fun b hb => ?_, ReprK.dict ho hc hd sy (fun z => nomatch z) (ents_sh ok kv hp)⟩
    rw [List.mem_singleton.mp hb]
    exact ⟨1, Nat.le_refl _, D⟩
  top := fun {X pins σ H Hd s v u R E} e1 e2 e3 gd hu hz I e q r k => by
    subst e1 e2 e3
    obtain ⟨a, o, es, ep, vs, rfl, ho, hc, hd, sy, kv, hp⟩ := dic_at I e q r
    refine call_repr_slot (by omega) ⟨o, ho, hc⟩ F.slot_dict_repr (call_dict_reprK (as := []) (d := 0) ho hc hd sy (fun z => nomatch z) (ents_sh ok kv hp) (A := X.A.in1) gd (fun b _ => Clear.nil b) (by show X.A.units + 1 + (0 + 1) < cLine; omega) (fun _ _ z => z) (fun h' x tk kp => ⟨_, _, rfl, k h' x tk kp⟩) hz)

/-! ### own errors as values -/
/-- an exception object of the class cls, made with the arguments at t0, not raised yet, at a -/
def ExT (cls : Value) (a t0 : Addr) : HO := .ext fun h => ∃ (oe : Obj) (vs : Array Value), h.get? a = some oe ∧ oe.cls = cls ∧ oe.dict = none ∧ oe.data = .fields vs ∧ vs[0]? = some (.ref t0)
/-- an error of the class at C, made with the text m -/
def excV (C : Addr) (m : Str) : D := .ext fun H v => ∃ a t0, v = .ref a ∧ H a = some (ExT (.ref C) a t0) ∧ H t0 = some (.tup [.str m])
theorem exc_at {X : Cx} {pins : List (Addr × Obj)} {σ : L2.St} {H Hd : Hp} {s : Shared} {C : Addr} {m : Str} {v : V} {u : Value} (I : Inv X pins σ H s) (e : Same Hd H) (q : ∃ a t0, v = .ref a ∧ Hd a = some (ExT (.ref C) a t0) ∧ Hd t0 = some (.tup [.str m])) (r : RelV v u) :
    ∃ (a t0 : Addr) (tk : Tok) (oe : Obj) (vs : Array Value), u = .ref a ∧ ExcC X.K C a t0 s.heap ∧ s.heap.TupAt t0 [.str m tk] ∧ s.heap.get? a = some oe ∧ oe.cls = .ref C ∧ oe.dict = none ∧ oe.data = .fields vs := by
  obtain ⟨a, t0, rfl, ha, ht⟩ := q
  have r : u = .ref a := r
  subst r
  obtain ⟨⟨oe, vs, g, c, d, dt, h0⟩, _, _⟩ := I.hok a _ (e _ _ ha)
  obtain ⟨_, its, rv, o, h1, h2, n, h3⟩ := I.hok t0 _ (e _ _ ht)
  obtain ⟨u, rfl, tk, rfl⟩ : ∃ u, its = [u] ∧ RelV (.str m) u := by
    cases rv with
    | cons p q => cases q; exact ⟨_, rfl, p⟩
  exact ⟨a, t0, tk, oe, vs, rfl, ⟨I.kIn, oe, vs, g, c, dt, h0⟩, ⟨o, n, h1, h2, h3⟩, g, c, d, dt⟩
/-- what is asked of the class -/
structure ExcK (K : PySem.W.Frag) (C : Addr) (cd : PySem.ClassData) : Prop where
  cls : PySem.W.clsIn K C = some cd
  exC : PySem.W.subIn K (.ref C) (.type "BaseException") = some true
  rp : PySem.W.findIn K (.ref C) "__repr__" = some (some (.builtin "BaseException.__repr__"))
  nm : (PySem.ExR.nmOf cd).length ≤ 100
theorem ExcK.len {K : PySem.W.Frag} {C : Addr} {cd : PySem.ClassData} (T : ExcK K C cd) (m : Str) : (PySem.ExR.txtOf cd m).length ≤ (reprText m).length + 102 := by
  unfold PySem.ExR.txtOf
  have p1 : (Str.ofString "(").length = 1 := by rw [PySem.ofString_length] <;> rfl
  have p2 : (Str.ofString ")").length = 1 := by rw [PySem.ofString_length] <;> rfl
  rw [strLen_append, strLen_append, strLen_append, p1, p2]
  have := T.nm
  omega
theorem shx_exc {P : Program} {w : World} {K : PySem.W.Frag} {C : Addr} {cd : PySem.ClassData} {m : Str} (T : ExcK K C cd) : ShX P w K (fun H v => ∃ a t0, v = .ref a ∧ H a = some (ExT (.ref C) a t0) ∧ H t0 = some (.tup [.str m])) (PySem.ExR.txtOf cd m) 1 where
  sh := fun {X pins σ H Hd s v u} e1 e2 e3 I e q r => by
    subst e1 e2 e3
    obtain ⟨a, t0, tk, oe, vs, rfl, x, ht, g, c, d, dt⟩ := exc_at I e q r
    refine ⟨[], .obj g fun xs n z => by (rw [dt] at z; cases z), .nil, ?_⟩
    intro base hb A g' E s' Q _ _ hu hk hQ
    have k0 : ∀ b o, s.heap.get? b = some o → s'.heap.get? b = some o := hk
    have x' : ExcC X.K C a t0 s'.heap := ⟨x.1.keeps k0, by obtain ⟨_, o, ws, z1, z2⟩ := x; exact ⟨o, ws, k0 _ _ z1, z2⟩⟩
    have ht' : s'.heap.TupAt t0 [.str m tk] := by obtain ⟨o, n, z1, z2⟩ := ht; exact ⟨o, n, k0 _ _ z1, z2⟩
    exact wpAny_pyReprUnder_ref (by omega) (PySem.ExR.under base T.cls x' ht' T.exC T.rp (by omega) ⟨_, _, rfl, hQ s'.heap _ fun _ _ z => z⟩ hb)
  top := fun {X pins σ H Hd s v u R E} e1 e2 e3 gd hu hz I e q r k => by
    subst e1 e2 e3
    obtain ⟨a, t0, tk, oe, vs, rfl, x, ht, g, c, d, dt⟩ := exc_at I e q r
    exact PySem.ExR.call_repr T.cls x ht T.exC T.rp (by omega) (k s.heap _ _ fun _ _ z => z) hz

/-! ### repr of any value that is shown -/
/-- the value stands in an object -/
def isObj : D → Bool
  | .tup _ => true
  | .lst _ => true
  | .ext _ => true
  | _ => false
def rRepS (P : Program) (w : World) (K : PySem.W.Frag) : List V → Hp → VK → Prop := fun vs H Q => ∃ (v : V) (d : D) (t : Str) (n m : Nat) (Hd : Hp), vs = [v] ∧ Same Hd H ∧ Rp K Hd d v ∧ ShD P w K d t n m ∧ n ≤ 20 ∧ m ≤ 10000000 ∧ isObj d = true ∧ Q (.str t) H
theorem call_repr_S {X : Cx} (gd : X.A.guards = some []) (hu : X.A.units + 64 < cLine) : CallR X (.builtin "repr") (rRepS X.prog X.w X.K) := by
  intro pins s σ H vs us Q I r h
  obtain ⟨v, d, t, n, m, Hd, rfl, e, rd, hs, hn, hm, ob, q⟩ := h
  obtain ⟨u, rfl, ru⟩ := r.one
  have hz : t.length ≤ sizeLine := Nat.le_trans (sh_len d t n m hs) (Nat.le_trans hm (by decide))
  have fin : ∀ h' x tk, (∀ b o, s.heap.get? b = some o → h'.get? b = some o) → EP X pins σ Q (.str t x) { s with heap := h', toks := tk } := fun h' x tk k => ⟨.str t, H, I.kept k, ⟨x, rfl⟩, q⟩
  cases d with
  | non => cases ob
  | bl b => cases ob
  | int i => cases ob
  | str x => cases ob
  | raw x => cases ob
  | scr x => cases ob
  | ext Qd =>
    obtain ⟨H0, e0, rd⟩ := rd
    exact hs.1.top rfl rfl rfl gd hu hz I (e0.trans e) rd ru fin
  | tup l =>
    obtain ⟨ts, k, j, hl, rfl, rfl, _⟩ := hs
    obtain ⟨a, xs, rfl, h1, h2⟩ := rd
    have ru : u = .ref a := ru
    subst ru
    obtain ⟨its, rv, ⟨o, ho, hc, na, hd⟩, _⟩ := I.tuple (same_t e h1)
    obtain ⟨as, dp, b, rp⟩ := shs_of I e l ts k j xs its hl (fun t ht => Nat.le_trans (tupleText_mem_le ht) hz) h2 rv
    have D : Dpt s.heap (.ref a) (k + 1) := .seq ho hd dp
    exact call_repr_slot (by omega) ⟨o, ho, hc⟩ F.slot_tuple_repr (call_tuple_reprK ho hc hd (b.notIn D) rp (A := X.A.in1) gd (fun b _ => Clear.nil b) (by show X.A.units + 1 + (k + 1) < cLine; omega) (fun _ _ z => z) (fun h' x tk kp => ⟨_, _, rfl, fin h' x tk kp⟩) hz)
  | lst l =>
    obtain ⟨ts, k, j, hl, rfl, rfl, _⟩ := hs
    obtain ⟨a, xs, rfl, h1, h2⟩ := rd
    have ru : u = .ref a := ru
    subst ru
    obtain ⟨its, rv, ⟨o, na, ho, hc, _, hd⟩, _⟩ := I.list (.of (e _ _ h1))
    obtain ⟨as, dp, b, rp⟩ := shs_of I e l ts k j xs its hl (fun t ht => Nat.le_trans (listText_mem_le ht) hz) h2 rv
    have D : Dpt s.heap (.ref a) (k + 1) := .seq ho hd dp
    refine call_repr_slot (by omega) ⟨o, ho, hc⟩ F.slot_list_repr.toG ?_
    cases its with
    | nil =>
      cases rp
      have z := fin
      rw [listText_nil] at z
      exact call_list_repr_empty ⟨o, ho, hc⟩ ho hd ⟨_, _, rfl, z s.heap _ _ fun _ _ e => e⟩
    | cons x l' =>
      exact call_list_reprK ho hc hd (b.notIn D) (by simpa using rp.length_eq) (fun i y e => rp.item i y (by simpa using e)) (A := X.A.in1) gd (fun b _ => Clear.nil b) (by show X.A.units + 1 + (k + 1) < cLine; omega) (fun _ _ z => z) (fun h' x tk kp => ⟨_, _, rfl, fin h' x tk kp⟩) hz
/-! ### isinstance of any value -/
/-- what stands behind an ext is of the kind t -/
def KTy (K : PySem.W.Frag) (Q : Hp → V → Prop) (t : Value) : Prop := ∀ {X : Cx} {pins : List (Addr × Obj)} {σ : L2.St} {H Hd : Hp} {s : Shared} {v : V} {u : Value}, X.K = K → Inv X pins σ H s → Same Hd H → Q Hd v → RelV v u →
  ∃ Pp : Heap → Prop, PySem.W.KitX K u t Pp ∧ Pp s.heap ∧ u ≠ .builtin "__main__.__loader__#opaque"
def TyV (K : PySem.W.Frag) : D → Value → Prop
  | .ext Q, t => KTy K Q t
  | .scr _, _ => False
  | d, t => ∃ n, tyD d = some n ∧ t = .type n
theorem kit_v {X : Cx} {pins : List (Addr × Obj)} {σ : L2.St} {H Hd : Hp} {s : Shared} {d : D} {t : Value} {v : V} {u : Value} (I : Inv X pins σ H s) (e : Same Hd H) (T : TyV X.K d t) (r : Rp X.K Hd d v) (q : RelV v u) :
    ∃ Pp : Heap → Prop, PySem.W.KitX X.K u t Pp ∧ Pp s.heap ∧ u ≠ .builtin "__main__.__loader__#opaque" := by
  have pl : ∀ n, tyD d = some n → t = .type n → (∀ l, d ≠ .scr l) → ∃ Pp : Heap → Prop, PySem.W.KitX X.K u t Pp ∧ Pp s.heap ∧ u ≠ .builtin "__main__.__loader__#opaque" := fun n h1 h2 h3 => by
    subst h2
    exact kit_of I q (tyX_of h1 (Rp.mono e d v r) h3)
  cases d with
  | ext Q =>
    obtain ⟨H0, e0, r⟩ := r
    exact T rfl I (e0.trans e) r q
  | scr l => exact T.elim
  | raw x => obtain ⟨n, h1, h2⟩ := T; cases h1
  | non => obtain ⟨n, h1, h2⟩ := T; exact pl n h1 h2 (fun _ z => nomatch z)
  | bl b => obtain ⟨n, h1, h2⟩ := T; exact pl n h1 h2 (fun _ z => nomatch z)
  | int b => obtain ⟨n, h1, h2⟩ := T; exact pl n h1 h2 (fun _ z => nomatch z)
  | str b => obtain ⟨n, h1, h2⟩ := T; exact pl n h1 h2 (fun _ z => nomatch z)
  | tup b => obtain ⟨n, h1, h2⟩ := T; exact pl n h1 h2 (fun _ z => nomatch z)
  | lst b => obtain ⟨n, h1, h2⟩ := T; exact pl n h1 h2 (fun _ z => nomatch z)
def rIsiD (K : PySem.W.Frag) : List V → Hp → VK → Prop := fun vs H Q => ∃ (v c : V) (d : D) (t u : Value) (b : Bool) (Hd : Hp), vs = [v, c] ∧ Same Hd H ∧ Rp K Hd d v ∧ TyV K d t ∧ ClsV c u ∧ PySem.W.kitOne K t u = some b ∧ Q (.bl b) H
theorem call_isi_D {X : Cx} : CallR X (.builtin "isinstance") (rIsiD X.K) := by
  intro pins s σ H vs us Q I r h
  obtain ⟨v, c, d, t, u, b, Hd, rfl, e, rd, T, k, kb, q⟩ := h
  obtain ⟨u1, u2, rfl, r1, r2⟩ := vals2 r
  have e2 := k.eq r2
  subst e2
  obtain ⟨Pp, Z, p, hx⟩ := kit_v I e T rd r1
  exact PySem.W.kia_one Z I.kIn p kb hx fun tk => ⟨.bl b, H, I.tok tk, rfl, q⟩
theorem drc_isiD {K : PySem.W.Frag} {d : D} {t : Value} {T : String} {b : Bool} {S : Sto} {Q : D → Sto → Prop} (ht : TyV K d t) (hk : PySem.W.kitOne K t (.type T) = some b) (q : Q (.bl b) S) : DRC K (rIsiD K) [d, .raw (.ty T)] S Q := fun H Hd vs Qv st rr k => by
  obtain ⟨v, w', e1, rv, rw'⟩ := two_rp rr
  have rw' : w' = V.ty T := rw'
  subst e1 rw'
  exact ⟨v, .ty T, d, t, .type T, b, Hd, rfl, st.sub, rv, ht, .ty T, hk, k _ _ (.here (d := .bl b) st rfl q)⟩
theorem kty_dic {K : PySem.W.Frag} {kvs : List (Key × Int)} : KTy K (fun H v => ∃ a, v = .ref a ∧ H a = some (.dK (kvs.map fun p => (p.1, V.int p.2)))) (.type "dict") := fun {X pins σ H Hd s v u} eK I e q r => by
  subst eK
  obtain ⟨a, o, es, ep, vs, rfl, ho, hc, _⟩ := dic_at I e q r
  exact ⟨_, PySem.W.kitx_dict, ⟨o, ho, hc⟩, fun z => nomatch z⟩
theorem kty_exc {K : PySem.W.Frag} {C : Addr} {m : Str} (T : L2.ExcC K C) : KTy K (fun H v => ∃ a t0, v = .ref a ∧ H a = some (ExT (.ref C) a t0) ∧ H t0 = some (.tup [.str m])) (.ref C) := fun {X pins σ H Hd s v u} eK I e q r => by
  subst eK
  obtain ⟨a, t0, tk, oe, vs, rfl, x, ht, g, c, d, dt⟩ := exc_at I e q r
  exact ⟨_, PySem.W.handS_kitx_exc (x := a) (D := C) (ox := oe) T.hg T.hk T.hs T.hd T.ha T.hn T.ht T.hm, ⟨g, c, by unfold PySem.W.notCls; rw [dt], by rw [d]; trivial⟩, fun z => nomatch z⟩
end DL
/-! dicts and own errors made; defs as values, called -/
namespace DL
open PySem PySem.Spec PyProof.Rows L2
section
variable {X : Cx} {a b c e fe : Expr} {es : List Expr} {en : DEnv} {S : Sto} {Q : D → Sto → Prop} {R : RX} {pos p p2 p3 : Pos} {j j2 : Nat}
theorem de_dic0 (q : Q (dicD []) S) : DE X (.Dict [] [] pos) en S Q := ⟨fun σ H Hd st re => by
  refine wE_of pe_dnewK ?_
  intro p hp
  obtain ⟨e1, st1⟩ := st.laid (o := .dK []) hp
  exact ⟨dicD [], S, _, e1, st1, ⟨_, Same.refl _, p, rfl, upd_same⟩, q⟩⟩
/-! ### an own error made, held as a value -/
theorem made_two {pins : List (Addr × Obj)} {σ : L2.St} {H : Hp} {s : Shared} {C a : Addr} {m : Str} {tk : Tok} {h' : Heap} {t' : Nat} (I : Inv X pins σ H s) (hm : Heap.MadeExcOf s.heap h' a (.ref C) [.str m tk]) :
    ∃ t0, H a = none ∧ H t0 = none ∧ a ≠ t0 ∧ Inv X pins σ (upd (upd H t0 (.tup [.str m])) a (ExT (.ref C) a t0)) { s with heap := h', toks := t' } := by
  obtain ⟨t0, h1, h2, h3⟩ := hm.there
  have na : H a = none := I.hok.gone hm.new
  have nt : H t0 = none := I.hok.gone h2
  have ne : a ≠ t0 := fun z => by
    rw [z, h3] at h1
    cases h1
  obtain ⟨G, g1, g2⟩ := L2.restrict h' fun b => decide (b ≠ a)
  have gk : ∀ b, b ≠ a → G.get? b = h'.get? b := fun b hb => g1 b (decide_eq_true hb)
  have ga : G.get? a = none := g2 a (by simp)
  have k1 : ∀ b o, s.heap.get? b = some o → G.get? b = some o := fun b o z => by
    rw [gk b (fun y => by rw [y, hm.new] at z; cases z)]
    exact hm.keeps b o z
  have I1 : Inv X pins σ (upd H t0 (.tup [.str m])) { s with heap := G, toks := t' } := I.laidN k1 h2 nt ⟨(by rw [sizeLine_eq]; exact Nat.succ_le_succ (Nat.zero_le _)), [.str m tk], .cons ⟨tk, rfl⟩ .nil, _, by rw [gk t0 (Ne.symm ne)]; exact h3, rfl, 0, rfl⟩
  have k2 : ∀ b o, G.get? b = some o → h'.get? b = some o := fun b o z => by
    rw [← gk b (fun y => by rw [y, ga] at z; cases z)]
    exact z
  refine ⟨t0, na, nt, ne, I1.laidN k2 ga (by rw [upd_ne ne]; exact na) ⟨⟨_, _, h1, rfl, rfl, rfl, rfl⟩, ⟨_, h1⟩, fun h5 h6 ⟨oe, vs, z1, z2⟩ z3 => ⟨oe, vs, z3 _ z1, z2⟩⟩⟩
theorem de_excV {C : Addr} {x m : Str} (T : OwnErr X.K X.mg x C) (q : Q (excV C m) S) (hg : Gl X x := by rfl) (hdb : (x == ("__debug__" : Str)) = false := by decide)
    (hs : starEach [.Constant (.str m) j p2] X.env = (false, eval (.Constant (.str m) j p2) X.env) :: starEach [] X.env := by rfl) : DE X (.Call (.Name x p) [.Constant (.str m) j p2] [] pos) en S Q := ⟨fun σ H Hd st re => by
  intro pins s I
  refine wpAny_Call_Name_kw (ld_glob I hg T.gC ?_ hdb)
  refine PySem.W.callWith_K (h₀ := X.base) I.ok.mod.kin T.kC ?_ hs (by rfl)
  rw [hs]
  show wpAny _ _ (spliced ((false, eval (.Constant (.str m) j p2) X.env) :: backTo pos (starEach [] X.env))) _ _ s
  refine Calls.spliced_cons (thn ((pe_str (X := X)).run pins s σ H (fun v H' => v = .str m ∧ H' = H) I ⟨rfl, rfl⟩) fun u s1 ⟨v, H1, I1, r1, ev, eH⟩ => ?_)
  subst ev eH
  obtain ⟨tk, rfl⟩ := r1
  refine Calls.spliced_nil ⟨I1.kIn, ?_⟩
  show wpAny _ _ (call (.ref C) [.str m tk]) _ _ _
  obtain ⟨bm, N, nm, qn, bs, hdct, sn, sub, ab, col, dd, k0, k1, k2, k3, k5, mN, hC, hN, hni, T2⟩ := exc_obj I1.kIn T.q
  refine wpAny_call_exc_subT PySem.F.excBase_ValueError T2 hC hN hni (fun h' a hm => ?_) (by show 1 ≤ sizeLine; rw [sizeLine_eq]; omega)
  obtain ⟨t0, na, nt, ne, I2⟩ := made_two (t' := s1.toks) I1 hm
  obtain ⟨e1, st1⟩ := st.laid (o := .tup [.str m]) nt
  obtain ⟨e2, st2⟩ := st1.laid (o := ExT (.ref C) a t0) (by rw [upd_ne ne]; exact na)
  refine ⟨.ref a, _, I2, rfl, excV C m, S, _, e1.trans e2, st2, ⟨_, Same.refl _, a, t0, rfl, upd_same, ?_⟩, q⟩
  rw [upd_ne (Ne.symm ne)]
  exact upd_same⟩
/-! ### defs as values -/
/-- d is a def of n parameters that keeps C -/
structure FnV (P : Program) (w : World) (K : PySem.W.Frag) (mg : Str → Option Value) (base : Heap) (k : Nat) (d : D) (n : Nat) (C : ConX) : Prop where
  ex : ∃ (f : Addr) (fd : FuncData) (ps : List Str), d = .raw (.ref f) ∧ ps.length = n ∧ GOkX P w K mg base k f fd ps (spDX K C) ∧ PySem.W.keepIn K (.ref f) = true ∧ ∀ us : List Value, us.length = ps.length → bindArgs fd ⟨us, []⟩ = pure (ps.zip us)
theorem GOkX.mono {P : Program} {w : World} {K : PySem.W.Frag} {mg : Str → Option Value} {base : Heap} {k k2 : Nat} {f : Addr} {fd : FuncData} {ps : List Str} {C C2 : ConX} (G : GOkX P w K mg base k f fd ps (spDX K C)) (hk : k ≤ k2) (wk : ∀ ds S Q R, C2 ds S Q R → C ds S Q R) : GOkX P w K mg base k2 f fd ps (spDX K C2) :=
  ⟨fun vs H Q E ⟨ds, S, Hd, Qd, Rd, z1, z2, z3, z4⟩ => G.len vs H Q E ⟨ds, S, Hd, Qd, Rd, z1, z2, wk _ _ _ _ z3, z4⟩,
   fun A fr s H ar us vs Q E gd hr e0 hb r ⟨ds, S, Hd, Qd, Rd, z1, z2, z3, z4⟩ => G.run A fr s H ar us vs Q E gd (hr.mono hk) e0 hb r ⟨ds, S, Hd, Qd, Rd, z1, z2, wk _ _ _ _ z3, z4⟩⟩
/-- a def that raises nothing, as one that may -/
theorem GOk.x {P : Program} {w : World} {K : PySem.W.Frag} {mg : Str → Option Value} {base : Heap} {k : Nat} {f : Addr} {fd : FuncData} {ps : List Str} {C : Con} (G : GOk P w K mg base k f fd ps (spD K C)) : GOkX P w K mg base k f fd ps (spDX K fun ds S Q _ => C ds S Q) :=
  ⟨fun vs H Q E ⟨ds, S, Hd, Qd, Rd, z1, z2, z3, z4⟩ => G.len vs H Q E ⟨ds, S, Hd, Qd, z1, z2, z3, z4.1⟩,
   fun A fr s H ar us vs Q E gd hr e0 hb r ⟨ds, S, Hd, Qd, Rd, z1, z2, z3, z4⟩ => codeAny_mono (G.run A fr s H ar us vs Q E gd hr e0 hb r ⟨ds, S, Hd, Qd, z1, z2, z3, z4.1⟩) fun res s' q => by
     cases res with
     | error e => exact q.elim
     | ok fl =>
       cases fl with
       | ret u => exact q
       | next => exact q
       | brk => exact q
       | cont => exact q⟩
theorem Cal.x {P : Program} {w : World} {K : PySem.W.Frag} {mg : Str → Option Value} {base : Heap} {k : Nat} {x : Str} {ps : List Str} {kws : List (Nat × List Str)} {C : Con} (c : Cal P w K mg base k x ps kws C) : CalX P w K mg base k x ps kws (fun ds S Q _ => C ds S Q) := by
  obtain ⟨f, fd, G, h⟩ := c.ex
  exact ⟨f, fd, G.x, h⟩
theorem CalX.fn {P : Program} {w : World} {K : PySem.W.Frag} {mg : Str → Option Value} {base : Heap} {k k2 : Nat} {x : Str} {ps : List Str} {kws : List (Nat × List Str)} {C C2 : ConX} (c : CalX P w K mg base k x ps kws C) (hk : k ≤ k2) (wk : ∀ ds S Q R, C2 ds S Q R → C ds S Q R) : ∃ f, mg x = some (.ref f) ∧ FnV P w K mg base k2 (.raw (.ref f)) ps.length C2 := by
  obtain ⟨f, fd, G, h1, h2, h3, _⟩ := c.ex
  exact ⟨f, h1, f, fd, ps, rfl, rfl, G.mono hk wk, h2, h3⟩
theorem de_fn {k k2 n : Nat} {x : Str} {ps : List Str} {kws : List (Nat × List Str)} {C C2 : ConX} (c : CalX X.prog X.w X.K X.mg X.base k x ps kws C) (hk : k ≤ k2) (hn : ps.length = n) (wk : ∀ ds S Q R, C2 ds S Q R → C ds S Q R) (q : ∀ d, FnV X.prog X.w X.K X.mg X.base k2 d n C2 → Q d S)
    (hg : Gl X x := by rfl) (hd : (x == ("__debug__" : Str)) = false := by decide) : DE X (.Name x pos) en S Q := by
  obtain ⟨f, h1, h2⟩ := c.fn hk wk
  subst hn
  exact de_glob (v := .ref f) h1 rfl (q _ h2) hg hd
/-- g(e, ..), g any expression whose value is a def -/
theorem dex_callV {k n : Nat} {C : ConX} (gd : X.A.guards = some []) (hr : Room k X.A) (hev : eval (.Call fe (e :: es) [] pos) X.env = (do callWith pos (← eval fe X.env) [] (backTo pos (starEach (e :: es) X.env)) (backToKw pos (keywordEach [] X.env))))
    (h : DE X fe en S fun d S0 => FnV X.prog X.w X.K X.mg X.base k d n C ∧ DAX X (e :: es) en S0 (fun ds S1 => C ds S1 Q (fun x S' => R x en S')) R)
    (he : starEach (e :: es) X.env = (false, eval e X.env) :: starEach es X.env := by rfl) (hpl : (backTo pos (starEach es X.env)).any (·.1) = false := by rfl) : DEX X (.Call fe (e :: es) [] pos) en S Q R := by
  refine ⟨fun σ H Hd st re lx => ?_⟩
  intro pins s I
  rw [hev]
  refine wpAny_bind (thn (h σ H Hd st re pins s I) fun u s0 ⟨v, H0, I0, r0, d, S0, Hd0, e0, st0, rd, F, ha⟩ => ?_)
  obtain ⟨f, fd, ps, rfl, hps, G, hk, hb⟩ := F.ex
  have rd : v = V.ref f := rd
  subst rd
  have r0 : u = Value.ref f := r0
  subst r0
  refine PySem.W.callWith_K (h₀ := X.base) I0.ok.mod.kin hk (thn (ha.run σ H0 Hd0 st0 (re.mono e0) (lx.up e0) pos pins s0 I0) fun us s1 ⟨vs, H1, I1, r, ds, S1, Hd1, e1, st1, r1, q1⟩ => ⟨I1.kIn, ?_⟩) he hpl
  have lx1 := (lx.up e0).up e1
  have re1 := (re.mono e0).mono e1
  obtain ⟨W, tk, hW⟩ := lx1.ex
  have hs : spDX X.K C vs H1 (QD X.K Hd Q) (fun cls d H' => ∃ x S' Hd', Same Hd1 Hd' ∧ St0 X.K S' Hd' H' ∧ XR X.K Hd' x cls d ∧ R x en S') := ⟨ds, S1, Hd1, Q, _, r1, st1, q1, fun d S' v H' Hd' z1 z2 z3 z4 => ⟨d, S', Hd', (e0.trans e1).trans z2, z3, z4, z1⟩, fun x S' cls d H' Hd' z1 z2 z3 z4 => ⟨x, S', Hd', z2, z3, z4, z1⟩⟩
  have hl : us.length = ps.length := by rw [← r.length]; exact G.len _ _ _ _ hs
  show wpAny _ _ (call (.ref f) us) _ _ _
  refine wpAny_call (codeAny_mono (G.run X.A X.stack s1 H1 ⟨us, []⟩ us vs _ _ gd hr I1.env0 (.of_eq (hb us hl)) r hs) fun res s' hq => ?_)
  cases res with
  | error e => exact tk e s' (XE.of_call I1 (fun cls d H' ⟨x, S', Hd', z1, z2, z3, z4⟩ => hW x en S' cls d σ H' Hd' z1 z2 (re1.mono z1) z3 z4) hq)
  | ok fl =>
    cases fl with
    | ret u => exact I1.after hq
    | next => exact hq.elim
    | brk => exact hq.elim
    | cont => exact hq.elim
end
end DL
/-! defs that a caught error is handed to, within the except suite -/
namespace L2H
open PySem PySem.Spec PyProof.Rows L2 HotX
theorem RoomH.units {k : Nat} {A : Around} (r : RoomH k A) : A.units + 64 < cLine := by have := r.un; omega
end L2H
namespace DL
open PySem PySem.Spec PyProof.Rows L2
theorem hu65H {A : Around} {k : Nat} (hr : L2H.RoomH k A) : A.units + 65 < cLine := by have := hr.un; omega
/-- a def's promise where p's object is the caught error -/
structure GOkE (P : Program) (w : World) (K : PySem.W.Frag) (mg : Str → Option Value) (base : Heap) (k : Nat) (f : Addr) (fd : FuncData) (ps : List Str) (sp : Addr × Obj → Sp) : Prop where
  len : ∀ p vs H Q E, sp p vs H Q E → vs.length = ps.length
  run : ∀ (A : Around) (fr : List Env) (s : Shared) (H : Hp) (ar : Args) (us : List Value) (vs : List V) (Q : VK) (E : XK) (p : Addr × Obj), L2H.RoomH k A → L2H.PinOk fr H s p →
    Env0 P w K mg base A fr s H → BindsTo s fd ar (ps.zip us) → Vals vs us → sp p vs H Q E → codeAny (model P w) A (.call (.ref f) ar) (CR CX0 fr P w H s Q E) s
section
variable {P : Program} {w : World} {K : PySem.W.Frag} {mg : Str → Option Value} {base : Heap}
theorem gokE_of {k : Nat} {x qual : Str} {st : Stmt} {f : Addr} {fd : FuncData} {N ps : List Str} {sp : Addr × Obj → Sp} (F : Fun K x qual st f fd) (S : FnScope N ps (defScope st)) (ln : ∀ p vs H Q E, sp p vs H Q E → vs.length = ps.length)
    (body : ∀ (cdv : Value) (A : Around) (fr : List Env) (s : Shared) (H : Hp) (vs : List V) (Q : VK) (E : XK) (p : Addr × Obj), L2H.RoomH k (A.deeper (envOfC qual (defScope st) s.heap.objs.size f cdv)) → sp p vs H Q E →
      wSs (L2H.cxH CX0 P w K mg base N qual (defScope st) f cdv A fr s H E p).nox (defBody st) { nx := fun _ H' => Q .non H', rt := Q } (start N vs) H) : GOkE P w K mg base (k + 1) f fd ps sp := by
  obtain ⟨oc, od, kV, doc, pm, an, cdv, ct, osl, rfl, lk, hcd⟩ := F.ex
  refine ⟨ln, fun A fr s H ar us vs Q E p hr hpin e0 hb r hsp => ?_⟩
  have long := ln _ _ _ _ _ hsp
  have KX : K.In s.heap := e0.mod.kin.keeps fun b o e => (e0.bs b o e).1
  have free : s.heap.NoLimit := e0.mod.nolimit.keeps fun b o e => (e0.bs b o e).1
  refine codeAny_call_function hr.depth (KX _ _ lk) rfl S.co S.gen rfl (PySem.W.codeRec_of KX hcd) (hb _ _ _ _ ?_)
  refine wpAny_newFunctionEnv_cells S.kind (fun y hy => ?_) fun env he s1 xx => ?_
  · obtain ⟨n, v⟩ := y
    rcases S.par n (List.of_mem_zip hy).1 with z | z
    · exact .inl z
    · exact .inr ⟨z, PySem.W.cellsFrom_some _ _ _ (.inl z)⟩
  subst he
  refine ⟨free.keeps xx.toInCall.keep, codeAny_func ?_⟩
  have J : Inv (L2H.cxH CX0 P w K mg base N qual (defScope st) f cdv A fr s H E p) [] (start N vs) H s1 := L2H.inv_startH S hpin e0 long r xx
  have run := (pssW (X := (L2H.cxH CX0 P w K mg base N qual (defScope st) f cdv A fr s H E p).nox) (sts := defBody st)).nox.run [] s1 (start N vs) H _ J (body cdv A fr s H vs Q E p (hr.deeper _) hsp)
  refine wpAny_mono run (fun fl s' hs => ?_) fun e s' hs => hs
  have out : ∀ {σ' : L2.St} {H' : Hp} {v : V} {u : Value}, Inv (L2H.cxH CX0 P w K mg base N qual (defScope st) f cdv A fr s H E p) [] σ' H' s' → RelV v u → Q v H' → CE fr P w H s Q u s' :=
    fun {σ' H' v u} I rv q => ⟨v, H', I.os, I.bare, I.base, I.hok, rv, q⟩
  cases fl with
  | ret u =>
    obtain ⟨v, σ', H', I, rv, q⟩ := hs
    exact out I rv q
  | next =>
    obtain ⟨σ', H', I, q⟩ := hs
    exact out (v := V.non) (u := Value.none) I rfl q
  | brk => exact hs.elim fun _ h => h.elim fun _ h => h.2.elim
  | cont => exact hs.elim fun _ h => h.elim fun _ h => h.2.elim
abbrev ConE := Addr × Obj → Con
def spE (K : PySem.W.Frag) (C : ConE) : Addr × Obj → Sp := fun p => spD K (C p)
theorem gokE_ds {k m : Nat} {x qual : Str} {st : Stmt} {f : Addr} {fd : FuncData} {N ps : List Str} {C : ConE} (F : Fun K x qual st f fd) (S : FnScope N ps (defScope st))
    (hm : N.length - ps.length = m) (ln : ∀ p ds S Q, C p ds S Q → ds.length = ps.length)
    (body : ∀ (cdv : Value) (A : Around) (fr : List Env) (s : Shared) (H : Hp) (E : XK) (p : Addr × Obj), L2H.RoomH k (A.deeper (envOfC qual (defScope st) s.heap.objs.size f cdv)) → ∀ (ds : List D) (S0 : Sto) (Q : D → Sto → Prop), C p ds S0 Q →
      DS (L2H.cxH CX0 P w K mg base N qual (defScope st) f cdv A fr s H E p).nox (defBody st) (ds.map some ++ List.replicate m none) S0 { nx := fun _ S' => Q .non S', rt := Q }) : GOkE P w K mg base (k + 1) f fd ps (spE K C) := by
  refine gokE_of F S (fun p vs H Q E h => ?_) fun cdv A fr s H vs Q E p hr h => ?_
  · obtain ⟨ds, S0, Hd, Qd, r, _, c, _⟩ := h
    rw [r.length]
    exact ln _ _ _ _ c
  · obtain ⟨ds, S0, Hd, Qd, r, st0, c, fin⟩ := h
    have e : L2.start N vs = vs.map some ++ List.replicate m none := by
      unfold L2.start
      rw [r.length, ln _ _ _ _ c, hm]
    rw [e]
    exact body cdv A fr s H E p hr ds S0 Qd c _ H Hd st0 (RpE.start m r) _ ⟨fun en S' σ H' Hd' z1 z2 _ q => fin .non S' .non H' Hd' q z1 z2 rfl, fun d S' v H' Hd' z1 z2 z3 q => fin d S' v H' Hd' q z1 z2 z3, fun _ _ _ _ _ _ _ _ q => q.elim, fun _ _ _ _ _ _ _ _ q => q.elim⟩
end
structure CalE (P : Program) (w : World) (K : PySem.W.Frag) (mg : Str → Option Value) (base : Heap) (k : Nat) (x : Str) (ps : List Str) (C : ConE) : Prop where
  ex : ∃ (f : Addr) (fd : FuncData), GOkE P w K mg base k f fd ps (spE K C) ∧ mg x = some (.ref f) ∧ PySem.W.keepIn K (.ref f) = true ∧ ∀ us : List Value, us.length = ps.length → bindArgs fd ⟨us, []⟩ = pure (ps.zip us)
theorem calE_of {P : Program} {w : World} {K : PySem.W.Frag} {mg : Str → Option Value} {base : Heap} {k : Nat} {x qual : Str} {st : Stmt} {f : Addr} {fd : FuncData} {ps : List Str} {C : ConE} (F : Fun K x qual st f fd)
    (G : GOkE P w K mg base k f fd ps (spE K C)) (hm : mg x = some (.ref f)) (hb : ∀ us : List Value, us.length = ps.length → bindArgs fd ⟨us, []⟩ = pure (ps.zip us)) : CalE P w K mg base k x ps C := ⟨f, fd, G, hm, F.kp, hb⟩
section
variable {X : Cx} {a : Addr} {oe : Obj} {pn : List (Addr × Obj)} {e : Expr} {es : List Expr} {en : DEnv} {S : Sto} {Q : D → Sto → Prop} {pos p p2 : Pos} {k : Nat} {x : Str} {ps : List Str} {C : ConE}
/-- f(e, ..) within an except suite; the caught error stands at a -/
theorem de_callE (c : CalE X.prog X.w X.K X.mg X.base k x ps C) (hr : Room k X.A) (h : DA (X.suite a ((a, oe) :: pn)) (e :: es) en S fun ds S1 => C (a, oe) ds S1 Q) (hg : Gl X x := by rfl)
    (hdb : (x == ("__debug__" : Str)) = false := by decide) (he : starEach (e :: es) X.env = (false, eval e X.env) :: starEach es X.env := by rfl) (hpl : (backTo pos (starEach es X.env)).any (·.1) = false := by rfl) : DE (X.suite a ((a, oe) :: pn)) (.Call (.Name x p) (e :: es) [] pos) en S Q := by
  refine ⟨fun σ H Hd st re => ?_⟩
  intro pins s I
  obtain ⟨f, fd, G, hm, hk, hb⟩ := c.ex
  refine wpAny_Call_Name_kw (ld_glob I hg hm ?_ hdb)
  refine PySem.W.callWith_K (h₀ := X.base) I.ok.mod.kin hk (thn (h σ H Hd st re pos pins s I) fun us s1 ⟨vs, H1, I1, r, ds, S1, Hd1, e1, st1, r1, q1⟩ => ⟨I1.kIn, ?_⟩) he hpl
  have hs : spE X.K C (a, oe) vs H1 (QD X.K Hd Q) E0 := ⟨ds, S1, Hd1, Q, r1, st1, q1, fun d S' v H' Hd' z1 z2 z3 z4 => ⟨d, S', Hd', e1.trans z2, z3, z4, z1⟩⟩
  have hl : us.length = ps.length := by rw [← r.length]; exact G.len _ _ _ _ _ hs
  have P1 := I1.pin (a, oe) (List.mem_append_left _ List.mem_cons_self)
  have hpin : L2H.PinOk X.stack H1 s1 (a, oe) := ⟨P1.1, P1.2.1, fun hm => (List.mem_cons.mp (I1.stkSub a hm)).elim P1.2.2.1 P1.2.2.2.1, P1.2.2.2.2⟩
  have hrm : L2H.RoomH k (X.suite a ((a, oe) :: pn)).A := ⟨hr.dp, hr.un⟩
  show wpAny _ _ (call (.ref f) us) _ _ _
  refine wpAny_call (codeAny_mono (G.run _ X.stack s1 H1 ⟨us, []⟩ us vs (QD X.K Hd Q) E0 (a, oe) hrm hpin I1.env0 (.of_eq (hb us hl)) r hs) fun res s' hq => ?_)
  cases res with
  | error e => exact hq.elim
  | ok fl =>
    cases fl with
    | ret u => exact I1.after hq
    | next => exact hq.elim
    | brk => exact hq.elim
    | cont => exact hq.elim
/-! ### what such a def asks of the error -/
theorem exc_dict {K : PySem.W.Frag} {H : Hp} {x : XD} {cls : Value} {d : Option Addr} (r : XR K H x cls d) : ∀ d0, d = some d0 → ∃ fs, H d0 = some (.xd fs) := fun d0 e => by
  obtain ⟨_, r⟩ := r
  obtain ⟨c, fl⟩ := x
  cases fl with
  | none =>
    have r : d = none := r
    rw [r] at e
    cases e
  | some t =>
    obtain ⟨dd, v, e1, e2, _⟩ := r
    rw [e1] at e
    cases e
    exact ⟨_, e2⟩
theorem inst_pin {K : PySem.W.Frag} {prog : Program} {w : World} {H : Hp} {h : Heap} {C : Addr} {d : Option Addr} (ha : h.get? a = some oe) (hz : Zc (.ref C) d oe) (hf : ∃ vs, oe.data = .fields vs) (hk : HOk prog w H h) (hd : ∀ d0, d = some d0 → ∃ fs, H d0 = some (.xd fs)) :
    ∃ od, PySem.W.InstAt h a oe C od := by
  obtain ⟨vs, hf⟩ := hf
  have no : PySem.W.notCls oe = true := by unfold PySem.W.notCls; rw [hf]
  cases d with
  | none => exact ⟨none, ha, hz.1, no, by rw [hz.2]; trivial⟩
  | some d0 =>
    obtain ⟨fs, e⟩ := hd d0 rfl
    obtain ⟨mA, ⟨od, es, ep, ho, _⟩, _⟩ := hk d0 _ e
    exact ⟨some od, ha, hz.1, no, by rw [hz.2]; exact ho⟩
def rIsP (K : PySem.W.Frag) (C a : Addr) (d : Option Addr) : List V → Hp → VK → Prop := fun vs H Q => ∃ (c : V) (u : Value) (b : Bool), vs = [.ref a, c] ∧ (∀ d0, d = some d0 → ∃ fs, H d0 = some (.xd fs)) ∧ ClsV c u ∧ PySem.W.kitOne K (.ref C) u = some b ∧ Q (.bl b) H
theorem exc_kit {K : PySem.W.Frag} {C : Addr} (T : L2.ExcC K C) {od : Option Obj} : PySem.W.KitX K (.ref a) (.ref C) (fun h => PySem.W.InstAt h a oe C od) := by
  refine PySem.W.kitx_exc ?_ T.hg T.hk T.hs T.ha T.hn T.ht T.hm
  obtain ⟨cd, hc, _⟩ := PySem.W.any_some T.hd
  rw [hc] <;> rfl
theorem call_isP {C : Addr} {d : Option Addr} (T : L2.ExcC X.K C) (hp : (a, oe) ∈ X.pn) (hz : Zc (.ref C) d oe) (hf : ∃ vs, oe.data = .fields vs) : CallR X (.builtin "isinstance") (rIsP X.K C a d) := by
  intro pins s σ H vs us Q I r h
  obtain ⟨c, u, b, rfl, hd, k, kb, q⟩ := h
  obtain ⟨u1, u2, rfl, r1, r2⟩ := vals2 r
  have r1 : u1 = .ref a := r1
  subst r1
  have e2 := k.eq r2
  subst e2
  obtain ⟨od, J⟩ := inst_pin (K := X.K) (I.pin (a, oe) (List.mem_append_left _ hp)).1 hz hf I.hok hd
  exact PySem.W.kia_one (exc_kit T) I.kIn J kb (fun z => nomatch z) fun tk => ⟨.bl b, H, I.tok tk, rfl, q⟩
theorem drc_isP {K : PySem.W.Frag} {C : Addr} {d : Option Addr} {y : XD} {c : V} {u : Value} {b : Bool} (k : ClsV c u) (hk : PySem.W.kitOne K (.ref C) u = some b) (q : Q (.bl b) S) : DRC K (rIsP K C a d) [excD K a d y, .raw c] S Q := fun H Hd vs Qv st rr kq => by
  obtain ⟨v, w', e1, ⟨H0, s0, ev, xr⟩, rw'⟩ := two_rp rr
  have rw' : w' = c := rw'
  subst e1 rw' ev
  exact ⟨_, u, b, rfl, fun d0 z => (exc_dict xr d0 z).imp fun fs hfs => st.sub _ _ (s0 _ _ hfs), k, hk, kq _ _ (.here (d := .bl b) st rfl q)⟩
/-- e.f of the error that was handed on -/
theorem de_exfP {C : Addr} {fld : Str} {d : Option Addr} {dv : D} (T : XfC X.K C) (hno : PySem.W.findIn X.K (.ref C) fld = some none) (hp : (a, oe) ∈ X.pn) (hz : Zc (.ref C) d oe) (hf : ∃ vs, oe.data = .fields vs)
    (h : DE X e en S fun y S1 => y = excD X.K a d ⟨.ref C, some (fld, dv)⟩ ∧ Q dv S1) (hb : attributeBase e fld X.env (eval e X.env) = eval e X.env := by rfl) : DE X (.Attribute e fld pos) en S Q := ⟨fun σ H Hd st re => by
  intro pins s I
  refine attr_of hb (thn (h σ H Hd st re pins s I) fun u s1 ⟨v, H1, I1, ru, y, S1, Hd1, e1, st1, r1, ey, q⟩ => ?_)
  subst ey
  obtain ⟨H0, s0, ev, _, dd, v1, ed, eu, ru1⟩ := r1
  subst ev ed
  have ru : u = .ref a := ru
  subst ru
  obtain ⟨vs, hf⟩ := hf
  obtain ⟨mA, hns, hr⟩ := I1.hok dd _ (st1.sub _ _ (s0 _ _ eu))
  obtain ⟨od, ho, hl⟩ := lookIn_ns hns
  obtain ⟨u2, hu2, ru2⟩ := RelO.some_of (v := v1) (o := mA fld) (by have z := hr fld; rw [show List.lookup fld [(fld, v1)] = some v1 by simp [List.lookup]] at z; exact z)
  have J : PySem.W.InstAt s1.heap a oe C (some od) := ⟨(I1.pin (a, oe) (List.mem_append_left _ hp)).1, hz.1, by unfold PySem.W.notCls; rw [hf], by rw [hz.2]; exact ho⟩
  exact HandSPX.exc_get I1.kIn J T.ga T.gg T.exC (PySem.W.findObj_own T.hdC hno rfl (by rw [hl, hu2])) (handed_of ru2) ⟨v1, H1, I1.tok _, ru2, .up e1 (.here (d := dv) st1 (Rp.mono s0 dv v1 ru1) q)⟩⟩
end
/-! ### xs.index(e) -/
theorem toPyL_get : ∀ {l : List D} {j : Nat}, (toPyL l)[j]? = l[j]?.map toPy
  | [], j => by simp [toPyL]
  | d :: ds, 0 => by simp [toPyL]
  | d :: ds, j + 1 => by
    have := toPyL_get (l := ds) (j := j)
    simpa [toPyL] using this
section
variable {X : Cx} {e : Expr} {en : DEnv} {S : Sto}
theorem de_index {o : Expr} {apos cpos : Pos} {Q : D → Sto → Prop} (hu : X.A.units + 65 < cLine) (h : DE X o en S fun d S1 => ∃ l, d = .lst l ∧ flatOkL 8 l = true ∧ DA X [e] en S1 fun vs S2 => ∃ x j, vs = [x] ∧ flatOk 9 x = true ∧ ((∃ z, l[j]? = some z ∧ eqB z x = true) ∧ ∀ (m : Nat) (z : D), m < j → l[m]? = some z → eqB z x = false) ∧ Q (.int ((j : Nat) : Int)) S2)
    (mk : ∀ {to : TE} {t : TA}, MtR X "list.index" (rIndexD X.K) → PE X o to → PA X [e] t → PE X (.Call (.Attribute o "index" apos) [e] [] cpos) (tBM X.K "list" (rIndexD X.K) to t) := by
      exact fun hm ho ha => pe_bm PySem.F.plainAttrs_list PySem.F.slot_list_index PySem.F.type_list_index hm ho ha) : DE X (.Call (.Attribute o "index" apos) [e] [] cpos) en S Q := ⟨fun σ H Hd st re => by
  refine wE_of (mk (mt_indexD hu) peW paW) ?_
  refine wE_mono (h σ H Hd st re) fun o' H1 ⟨d, S1, Hd1, e1, st1, r1, l, f1, hf, q⟩ => ?_
  subst f1
  have r1' := Rp.mono st1.sub _ _ r1
  obtain ⟨a, xs, rfl, hx, _⟩ := r1'
  refine ⟨.inl ⟨rfl, xs, .of hx⟩, ?_⟩
  refine wA_mono (q σ H1 Hd1 st1 (re.mono e1)) fun vs H2 ⟨ds, S2, Hd2, e2, st2, r2, x, j, f2, fx, ⟨⟨z, hz, hzx⟩, hno⟩, q2⟩ => ?_
  subst f2
  obtain ⟨v1, f3, rv⟩ := one_rp r2
  subst f3
  have r3 := Rp.mono st2.sub _ _ (Rp.mono e2 _ _ r1)
  have r4 := Rp.mono st2.sub _ _ rv
  refine ⟨a, v1, toPy x, toPyL l, j, toPy z, rfl, rfl, dp_of 9 (.lst l) (.ref a) (flat9l hf) r3, dp_of 9 x v1 fx r4, shaped_of (n := 9) (d := .lst l) (flat9l hf) (by decide), shaped_of fx (by decide), by rw [toPyL_get, hz]; rfl, hzx, fun m z' hm hz' => ?_, ?_⟩
  · rw [toPyL_get] at hz'
    cases hm2 : l[m]? with
    | none => rw [hm2] at hz'; cases hz'
    | some y =>
      rw [hm2] at hz'
      have e9 : toPy y = z' := Option.some.inj hz'
      rw [← e9]
      exact hno m y hm hm2
  · exact ⟨.int _, S2, Hd2, e1.trans e2, st2, rfl, q2⟩⟩
end
end DL
/-! what may raise, within expressions -/
namespace DL
open PySem PySem.Spec PyProof.Rows L2
section
variable {X : Cx} {a b c e tg : Expr} {es : List Expr} {st : Stmt} {sts rest : List Stmt} {en : DEnv} {S : Sto} {Z : Dn} {Q : D → Sto → Prop} {R : RX} {QL : List D → Sto → Prop} {pos p cpos : Pos} {k : Nat} {x : Str} {ps : List Str} {kws : List (Nat × List Str)} {C : Con} {j2 : Nat}
end
/-! ### repr of any value that is shown -/
def rRepW (P : Program) (w : World) (K : PySem.W.Frag) : List V → Hp → VK → Prop := fun vs H Q => ∃ (v : V) (d : D) (t : Str) (n m : Nat) (Hd : Hp), vs = [v] ∧ Same Hd H ∧ Rp K Hd d v ∧ ShD P w K d t n m ∧ n ≤ 20 ∧ m ≤ 10000000 ∧ Q (.str t) H
theorem call_reprW {X : Cx} (gd : X.A.guards = some []) (hu : X.A.units + 64 < cLine) : CallR X (.builtin "repr") (rRepW X.prog X.w X.K) := by
  intro pins s σ H vs us Q I r h
  obtain ⟨v, d, t, n, m, Hd, rfl, e, rd, hs, hn, hm, q⟩ := h
  have go : isObj d = true → wpAny (model X.prog X.w) X.A (call (.builtin "repr") us) (fun u s' => EP X pins σ Q u s') (X.xe) s := fun ob =>
    call_repr_S gd hu pins s σ H [v] us Q I r ⟨v, d, t, n, m, Hd, rfl, e, rd, hs, hn, hm, ob, q⟩
  obtain ⟨u, rfl, ru⟩ := r.one
  cases d with
  | non =>
    obtain ⟨rfl, _⟩ := hs
    have rd : v = V.non := rd
    subst rd
    cases ru
    exact PySem.P.repr_of_none ⟨.str _, H, I.tok _, ⟨_, rfl⟩, q⟩
  | bl b =>
    obtain ⟨rfl, _⟩ := hs
    have rd : v = V.bl b := rd
    subst rd
    cases ru
    refine PySem.P.repr_of_bool ⟨.str _, H, I.tok _, ⟨_, rfl⟩, ?_⟩
    cases b <;> exact q
  | int i =>
    obtain ⟨rfl, hi, _⟩ := hs
    have rd : v = V.int i := rd
    subst rd
    obtain ⟨tk, rfl⟩ := ru
    exact PySem.P.repr_of_int (digits_le hi).2 ⟨.str _, H, I.tok _, ⟨_, rfl⟩, q⟩
  | str x =>
    obtain ⟨rfl, hx, _, hm⟩ := hs
    have rd : v = V.str x := rd
    subst rd
    obtain ⟨tk, rfl⟩ := ru
    exact PySem.P.repr_of_str ⟨.str _, H, I.tok _, ⟨_, rfl⟩, q⟩ (Nat.le_trans hx (Nat.le_trans hm (by decide)))
  | tup l => exact go rfl
  | lst l => exact go rfl
  | ext Qd => exact go rfl
  | raw x => exact hs.elim
  | scr x => exact hs.elim
theorem drc_reprW {P : Program} {w : World} {K : PySem.W.Frag} {d : D} {t : Str} {n m : Nat} {S : Sto} {Q : D → Sto → Prop} (h : ShD P w K d t n m) (q : Q (.str t) S) (hn : n ≤ 20) (hm : m ≤ 10000000) : DRC K (rRepW P w K) [d] S Q := fun H Hd vs Qv st rr k => by
  obtain ⟨v, e1, rv⟩ := one_rp rr
  subst e1
  exact ⟨v, d, t, n, m, Hd, rfl, st.sub, rv, h, hn, hm, k _ _ (.here (d := .str _) st rfl q)⟩
/-! ### parts that may raise -/
section
variable {X : Cx} {a b c e tg iter : Expr} {es : List Expr} {st : Stmt} {sts rest body : List Stmt} {en : DEnv} {S : Sto} {Z : Dn} {Q : D → Sto → Prop} {R : RX} {QL : List D → Sto → Prop} {pos p cpos p2 : Pos} {k : Nat} {x : Str} {ps : List Str} {kws : List (Nat × List Str)} {C : Con} {j2 : Nat} {P : Bool → Sto → Prop}
/-! ### tests -/
/-! ### loops -/
structure DIX (X : Cx) (tg iter : Expr) (en : DEnv) (S : Sto) (RI : List D → Sto → Prop) (R : RX) : Prop where
  run : ∀ (σ : L2.St) (H Hd : Hp), St0 X.K S Hd H → RpE X.K Hd en σ → LiftX X Hd R →
  wI X tg iter σ H fun J H' => ∃ ds S' Hd', Same Hd Hd' ∧ St0 X.K S' Hd' H' ∧ ItOk X.K Hd' J ds ∧ RI ds S'
variable {RI : List D → Sto → Prop}
theorem dix_of (h : DI X tg iter en S RI) : DIX X tg iter en S RI R := ⟨fun σ H Hd st re _ => h.run σ H Hd st re⟩
/-- a loop whose turns may raise -/
theorem dsx_for {γ : Type} (hp : PassesOwn (model X.prog X.w) X.A X.env X.xe) (hc : X.calm = true)
    (h : DIX X tg iter en S (fun ds S1 => ∃ (E : γ → DEnv) (P : Nat → γ → Sto → Prop) (g0 : γ), Wk en (E g0) ∧ P 0 g0 S1 ∧
      (∀ i d g S', ds[i]? = some d → P i g S' → DG X tg d (E g) S' fun en2 S2 => DSX X body en2 S2 { nx := fun en3 S3 => ∃ g', Wk en3 (E g') ∧ P (i + 1) g' S3, rt := Z.rt, ct := fun en3 S3 => ∃ g', Wk en3 (E g') ∧ P (i + 1) g' S3, bk := Z.nx } R) ∧
      ∀ g S', P ds.length g S' → Z.nx (E g) S') R) (hs : ∀ x, foldedSetIterable iter X.env x = pure x := by first | exact fset rfl | (intro _; rfl)) : DS1X X (.For tg iter body [] pos) en S Z R := ⟨fun σ H Hd st re De l lx => by
  refine wS_of (ps_for hp hc piW pgW pssW hs) ?_
  intro pins s I
  refine thn (h.run σ H Hd st re lx pins s I) fun v s1 h1 => thn h1 fun itv s2 h2 => ?_
  obtain ⟨it, fp, tn, J, H2, e, I2, T, st2, f2, ds, S1, Hd1, e1, s01, io, E, P, g0, wk, p0, turn, fin⟩ := h2
  refine ⟨it, fp, tn, J, H2, e, I2, T, st2, f2, ?_⟩
  refine ⟨fun i m σ H => m = ds.length - i ∧ i ≤ ds.length ∧ ∃ g S' Hd', Same Hd1 Hd' ∧ St0 X.K S' Hd' H ∧ RpE X.K Hd' (E g) σ ∧ P i g S', ⟨_, rfl, Nat.zero_le _, g0, S1, Hd1, Same.refl _, s01, wk.use (re.mono e1), p0⟩, ?_⟩
  rintro i m σ H ⟨rfl, hi, g, S', Hd', k1, k2, k3, k4⟩
  by_cases hlt : i < ds.length
  · obtain ⟨go, yl⟩ := io.go k1 k2 (List.getElem?_eq_getElem hlt)
    refine .inr ⟨go, fun σ' H' => ∃ g S' Hd', Same Hd1 Hd' ∧ St0 X.K S' Hd' H' ∧ RpE X.K Hd' (E g) σ' ∧ P (i + 1) g S', fun σ' H' q => ⟨ds.length - (i + 1), by omega, rfl, hlt, q⟩, fun x H' y => ?_⟩
    obtain ⟨Hd2, y1, y2, y3⟩ := yl x H' y
    refine wG_mono (turn i _ g S' (List.getElem?_eq_getElem hlt) k4 σ H' Hd2 x y2 (k3.mono y1) y3) fun σ4 H4 ⟨en4, S4, Hd4, z1, z2, z3, z4⟩ => ?_
    have up : Same Hd1 Hd4 := k1.trans (y1.trans z1)
    exact z4.run σ4 H4 Hd4 z2 z3 _ ⟨fun en5 S5 σ5 H5 Hd5 w1 w2 w3 ⟨g', w4, w5⟩ => ⟨g', S5, Hd5, up.trans w1, w2, w4.use w3, w5⟩, fun d5 S5 v5 H5 Hd5 w1 => l.rt d5 S5 v5 H5 Hd5 (e1.trans (up.trans w1)),
      fun en5 S5 σ5 H5 Hd5 w1 => l.nx en5 S5 σ5 H5 Hd5 (e1.trans (up.trans w1)), fun en5 S5 σ5 H5 Hd5 w1 w2 w3 ⟨g', w4, w5⟩ => ⟨g', S5, Hd5, up.trans w1, w2, w4.use w3, w5⟩⟩ (lx.up (e1.trans up))
  · have e0 : i = ds.length := by omega
    subst e0
    exact .inl ⟨io.stop k1 k2, l.nx (E g) S' σ H Hd' (e1.trans k1) k2 k3 (fin g S' k4)⟩⟩
theorem dsx_forG {γ : Type} (ks : List Nat) (hp : PassesOwn (model X.prog X.w) X.A X.env X.xe) (hc : X.calm = true)
    (h : DIX X tg iter en S (fun ds S1 => ∃ (U : γ → List (Nat × D)) (E : γ → DEnv) (_ : ∀ g, putU (U g) (fgt ks en) = E g) (P : Nat → γ → Sto → Prop) (g0 : γ), Wk en (E g0) ∧ P 0 g0 S1 ∧
      (∀ i d g S', ds[i]? = some d → P i g S' → DG X tg d (E g) S' fun en2 S2 => DSX X body en2 S2 { nx := fun en3 S3 => ∃ g', Wk en3 (E g') ∧ P (i + 1) g' S3, rt := Z.rt, ct := fun en3 S3 => ∃ g', Wk en3 (E g') ∧ P (i + 1) g' S3, bk := Z.nx } R) ∧
      ∀ g S', P ds.length g S' → Z.nx (E g) S') R) (hs : ∀ x, foldedSetIterable iter X.env x = pure x := by first | exact fset rfl | (intro _; rfl)) : DS1X X (.For tg iter body [] pos) en S Z R := by
  refine dsx_for (γ := γ) hp hc ⟨fun σ H Hd st re lx => ?_⟩ hs
  intro pins s I
  refine thn (h.run σ H Hd st re lx pins s I) fun v s1 h1 => thn h1 fun itv s2 h2 => ?_
  obtain ⟨it, fp, tn, J, H2, e, I2, T, st2, f2, ds, S1, Hd1, e1, s01, io, U, E, _, P, g0, wk, p0, turn, fin⟩ := h2
  exact ⟨it, fp, tn, J, H2, e, I2, T, st2, f2, ds, S1, Hd1, e1, s01, io, E, P, g0, wk, p0, turn, fin⟩
end
end DL
/-! texts repeated; a text read as a number, a number written as a text -/
namespace DL
open PySem PySem.Spec PyProof.Rows L2
section
variable {X : Cx} {a b : Expr} {en : DEnv} {S : Sto} {Q : D → Sto → Prop} {pos : Pos} {K : PySem.W.Frag}
end
end DL
/-! a list that may be changed, lent to a call that reads it; shifts -/
namespace DL
open PySem PySem.Spec PyProof.Rows L2
/-! ### data without lists -/
mutual
def noL : D → Bool
  | .non => true
  | .bl _ => true
  | .int _ => true
  | .str _ => true
  | .raw _ => true
  | .tup l => noLL l
  | .lst _ => false
  | .ext _ => false
  | .scr _ => false
def noLL : List D → Bool
  | [] => true
  | d :: ds => noL d && noLL ds
end
def noS (S : Sto) : Prop := ∀ p l, getS p S = some l → noLL l = true
section
variable {K : PySem.W.Frag} {H : Hp} {p : Addr} {xs : List V}
end
section
variable {X : Cx} {a b e : Expr} {en : DEnv} {S : Sto} {Q : D → Sto → Prop} {pos : Pos}
end
theorem noS_nil : noS [] := fun _ _ h => nomatch h
theorem noS_cons {p : Addr} {l : List D} {S : Sto} (h : noLL l = true) (k : noS S) : noS ((p, l) :: S) := fun q m hq => by
  by_cases e : p = q
  · subst e
    rw [getS_hd] at hq
    cases hq
    exact h
  · rw [getS_tl e] at hq
    exact k q m hq
end DL
namespace DL
open PySem PySem.Spec PyProof.Rows L2
section
variable {X : Cx} {a b : Expr} {en : DEnv} {S : Sto} {Q : D → Sto → Prop} {P : Bool → Sto → Prop} {pos : Pos}
end
end DL
namespace Tp
open PySem PySem.Spec PyProof.Rows L2 DL
/-! ### the mathematics of turns -/
theorem sq_nn (q : Int) : 0 ≤ q * q := by
  rcases Int.le_total 0 q with h | h
  · exact Int.mul_nonneg h h
  · exact Int.mul_nonneg_of_nonpos_of_nonpos h h
def rtX (k : Nat) (x y : Int) : Int := match k with | 0 => x | 1 => -y | 2 => -x | _ => y
def rtY (k : Nat) (x y : Int) : Int := match k with | 0 => y | 1 => x | 2 => -y | _ => -x
def cc (p q : Int) : Int := p * p + q * q
@[irreducible] def lgA (p q k : Int) : Int := rtX k.toNat (p * p - q * q) (p * q + q * p)
@[irreducible] def lgB (p q k : Int) : Int := rtY k.toNat (p * p - q * q) (p * q + q * p)
@[irreducible] def exX (p q k x y : Int) : Int := lgA p q k * x - lgB p q k * y
@[irreducible] def exY (p q k x y : Int) : Int := lgA p q k * y + lgB p q k * x
@[irreducible] def nrr (n d : Int) : Int := (2 * n + d) / (2 * d)
@[irreducible] def imX (p q k x y : Int) : Int := nrr (exX p q k x y) (cc p q)
@[irreducible] def imY (p q k x y : Int) : Int := nrr (exY p q k x y) (cc p q)
theorem rt_step (k : Nat) (hk : k < 3) (x y : Int) : rtX (k + 1) x y = -rtY k x y ∧ rtY (k + 1) x y = rtX k x y := by
  rcases (by omega : k = 0 ∨ k = 1 ∨ k = 2) with h | h | h <;> subst h <;> simp [rtX, rtY]
theorem Bd.rtX {a b : Nat} {x y : Int} (k : Nat) (h : Bd a x) (g : Bd b y) : Bd (max a b) (rtX k x y) := by
  have h1 := h.up (Nat.le_max_left a b)
  have g1 := g.up (Nat.le_max_right a b)
  unfold Tp.rtX
  split
  · exact h1
  · exact g1.neg
  · exact h1.neg
  · exact g1
theorem Bd.rtY {a b : Nat} {x y : Int} (k : Nat) (h : Bd a x) (g : Bd b y) : Bd (max a b) (rtY k x y) := by
  have h1 := h.up (Nat.le_max_left a b)
  have g1 := g.up (Nat.le_max_right a b)
  unfold Tp.rtY
  split
  · exact g1
  · exact h1
  · exact g1.neg
  · exact h1.neg
theorem Bd.cc {p q : Int} (h : Bd 50 p) (g : Bd 50 q) : Bd 101 (cc p q) := (h.mul h).add (g.mul g)
theorem Bd.lgA {p q : Int} (k : Int) (h : Bd 50 p) (g : Bd 50 q) : Bd 101 (lgA p q k) := by unfold Tp.lgA; exact (Bd.rtX _ ((h.mul h).sub (g.mul g)) ((h.mul g).add (g.mul h))).up (by decide)
theorem Bd.lgB {p q : Int} (k : Int) (h : Bd 50 p) (g : Bd 50 q) : Bd 101 (lgB p q k) := by unfold Tp.lgB; exact (Bd.rtY _ ((h.mul h).sub (g.mul g)) ((h.mul g).add (g.mul h))).up (by decide)
theorem Bd.exX {p q x y : Int} {n : Nat} (k : Int) (h : Bd 50 p) (g : Bd 50 q) (hx : Bd n x) (hy : Bd n y) : Bd (102 + n) (exX p q k x y) := by unfold Tp.exX; exact (((Bd.lgA k h g).mul hx).sub ((Bd.lgB k h g).mul hy)).up (by omega)
theorem Bd.exY {p q x y : Int} {n : Nat} (k : Int) (h : Bd 50 p) (g : Bd 50 q) (hx : Bd n x) (hy : Bd n y) : Bd (102 + n) (exY p q k x y) := by unfold Tp.exY; exact (((Bd.lgA k h g).mul hy).add ((Bd.lgB k h g).mul hx)).up (by omega)
theorem Bd.nrr {n d : Int} {a b : Nat} (h : Bd a n) (g : Bd b d) : Bd (max (2 + a) b + 1) (nrr n d) := by unfold Tp.nrr; exact (((Bd.lit 2).mul h).add g).div
theorem Bd.imX {p q x y : Int} {n : Nat} (k : Int) (h : Bd 50 p) (g : Bd 50 q) (hx : Bd n x) (hy : Bd n y) : Bd (105 + n) (imX p q k x y) := by unfold Tp.imX; exact (Bd.nrr (Bd.exX k h g hx hy) (Bd.cc h g)).up (by omega)
theorem Bd.imY {p q x y : Int} {n : Nat} (k : Int) (h : Bd 50 p) (g : Bd 50 q) (hx : Bd n x) (hy : Bd n y) : Bd (105 + n) (imY p q k x y) := by unfold Tp.imY; exact (Bd.nrr (Bd.exY k h g hx hy) (Bd.cc h g)).up (by omega)
theorem cc_pos {p q k : Int} (h : Tn p q k) : 0 < cc p q := by
  have h1 := h.p1
  have h2 : 0 < p * p := Int.mul_pos (by omega) (by omega)
  have h3 : 0 ≤ q * q := sq_nn q
  unfold cc
  omega
theorem cc_one {p q k : Int} (h : Tn p q k) : 1 ≤ cc p q := cc_pos h
/-! ### what the program's defs promise of turns, pixels -/
def con_check_pixel : Con := fun ds S Q => ∃ x y : Int, ds = [.tup [.int x, .int y]] ∧ Q .non S
def con_check_turn : Con := fun ds S Q => ∃ p q k : Int, ds = [.tup [.int p, .int q, .int k]] ∧ Tn p q k ∧ Q .non S
def con_nearest : Con := fun ds S Q => ∃ n d, ds = [.int n, .int d] ∧ (Bd 3000 n ∧ Bd 500 d ∧ 0 < d) ∧ Q (.int (nrr n d)) S
def con_legs_of : Con := fun ds S Q => ∃ p q k : Int, ds = [.tup [.int p, .int q, .int k]] ∧ Tn p q k ∧ Q (.tup [.int (lgA p q k), .int (lgB p q k), .int (cc p q)]) S
def con_back : Con := fun ds S Q => ∃ p q k : Int, ds = [.tup [.int p, .int q, .int k]] ∧ Tn p q k ∧ Q (.tup [.int p, .int (-q), .int (-k % 4)]) S

/-! ### what the laws' helpers do -/
theorem src_mk {a b : Int} (h : 0 ≤ a) (hb : 0 ≤ b ∧ Bd 200 b) : Src 0 [.int a, .int b, .int 0] := ⟨a, b, 0, rfl, h, hb.2, ⟨Int.le_refl 0, Int.le_refl 0⟩, hb.1⟩
theorem src_a (g m : Int) : 0 ≤ (if g - m > 0 then g - m else 0) := by split <;> omega
theorem src_b (g k : Int) (c : Bool) (hk : 0 ≤ k ∧ k ≤ 100) : 0 ≤ g % (10 ^ (Int.toNat 44) + 31) * 97 + 2 * k + (if c = true then 1 else 0) ∧ Bd 200 (g % (10 ^ (Int.toNat 44) + 31) * 97 + 2 * k + (if c = true then 1 else 0)) := by
  have e : (10 : Int) ^ (Int.toNat 44) + 31 = 100000000000000000000000000000000000000000031 := by decide +kernel
  rw [e]
  have h1 := Int.emod_nonneg g (show (100000000000000000000000000000000000000000031 : Int) ≠ 0 by decide)
  have h2 := Int.emod_lt_of_pos g (show (0 : Int) < 100000000000000000000000000000000000000000031 by decide)
  generalize g % 100000000000000000000000000000000000000000031 = r at *
  unfold Bd
  split <;> omega
theorem src_div {a b c n : Int} {m : Nat} (ha : 0 ≤ a) (hb : Bd 200 b) (hc : 0 ≤ c ∧ c ≤ (m : Int)) (hb0 : 0 ≤ b) (hn : 0 < n) : Src (m + 1) [.int (a / n), .int b, .int c] :=
  ⟨_, _, _, rfl, Int.ediv_nonneg ha (by omega), hb, ⟨hc.1, by omega⟩, hb0⟩
theorem src_next {a b c : Int} {m : Nat} (ha : 0 ≤ a) (hb : Bd 200 b) (hc : 0 ≤ c ∧ c ≤ (m : Int)) (hb0 : 0 ≤ b) : Src (m + 1) [.int a, .int b, .int (c + 1)] :=
  ⟨_, _, _, rfl, ha, hb, ⟨by omega, by omega⟩, hb0⟩
/-- the numbers that a law tries for q, from q on: some end is reached -/
theorem spin_end {p : Int} (h : 1 ≤ p) : Nat.gcd p.natAbs (p - 1).natAbs = 1 ∧ (p + (p - 1)) % 2 = 1 := by
  refine ⟨?_, by omega⟩
  obtain ⟨n, rfl⟩ : ∃ n : Nat, p = (n : Int) + 1 := ⟨(p - 1).toNat, by omega⟩
  have e1 : ((n : Int) + 1).natAbs = n + 1 := by omega
  have e2 : ((n : Int) + 1 - 1).natAbs = n := by omega
  rw [e1, e2, Nat.gcd_comm, Nat.gcd_rec]
  by_cases hn : n = 0
  · subst hn
    rfl
  · have e3 : (n + 1) % n = 1 % n := by rw [Nat.add_mod_left]
    rw [e3]
    by_cases h1 : n = 1
    · subst h1
      rfl
    · rw [Nat.mod_eq_of_lt (by omega)]
      exact Nat.gcd_one_left n
theorem tn_mk {p q k : Int} (h1 : 1 ≤ p) (h2 : p ≤ 1000000000000000) (h3 : 0 ≤ q) (h4 : q < p) (g : Nat.gcd p.natAbs q.natAbs = 1) (o : (p + q) % 2 = 1) (hk : 0 ≤ k ∧ k < 4) : Tn p q k ∧ Tn p (-q) k :=
  ⟨⟨h1, h2, by omega, h4, g, o, hk.1, by omega⟩, ⟨h1, h2, by omega, by omega, by rw [Int.natAbs_neg]; exact g, by omega, hk.1, by omega⟩⟩

theorem pickL {l : List D} {i : Int} {P : D → Prop} (h : ∀ x ∈ l, P x) (h0 : 0 ≤ i) (h1 : i < (l.length : Int)) : ∃ x, atI l i = some x ∧ P x := by
  obtain ⟨j, rfl⟩ : ∃ j : Nat, i = (j : Int) := ⟨i.toNat, by omega⟩
  have hj : j < l.length := by omega
  exact ⟨l[j], atI_nat (List.getElem?_eq_getElem hj), h _ (List.getElem_mem hj)⟩
theorem ix_pick {l : List D} {i : Int} {S : Sto} {Q : D → Sto → Prop} (P : D → Prop) (h : ∀ x ∈ l, P x) (h0 : 0 ≤ i) (h1 : i < (l.length : Int)) (k : ∀ x, P x → Q x S) : ixP (.lst l) (.int i) S Q := by
  obtain ⟨x, e, px⟩ := pickL h h0 h1
  exact ⟨x, e, k x px⟩
theorem fa_nil {P : D → Prop} : ∀ x ∈ ([] : List D), P x := fun _ h => nomatch h
theorem fa_cons {P : D → Prop} {a : D} {l : List D} (h : P a) (k : ∀ x ∈ l, P x) : ∀ x ∈ a :: l, P x := fun x hx => by
  rcases List.mem_cons.mp hx with e | e
  · rw [e]
    exact h
  · exact k x e
theorem Bd.ite {a b : Nat} {c : Prop} [Decidable c] {x y : Int} (h : Bd a x) (k : Bd b y) : Bd (max a b) (if c then x else y) := by
  split
  · exact h.up (Nat.le_max_left _ _)
  · exact k.up (Nat.le_max_right _ _)
theorem setS_self {p : Addr} {l : List D} : ∀ {S : Sto}, getS p S = some l → setS p l S = S
  | [], h => by cases h
  | (q, m) :: S, h => by
    by_cases e : q = p
    · subst e
      rw [getS_hd] at h
      cases h
      rw [setS_hd]
    · rw [getS_tl e] at h
      rw [setS_tl e, setS_self h]

theorem eq_strT {i j : Str} {S : Sto} {Q : Bool → Sto → Prop} (e : i = j) (q : Q true S) : eqP (.str i) (.str j) S Q := by
  refine eq_str ?_
  rw [decide_eq_true e]
  exact q
/-! ### further helpers of the laws -/
theorem ex_raw (p q k x y : Int) : exX p q k x y = rtX k.toNat ((p * p - q * q) * x - 2 * p * q * y) ((p * p - q * q) * y + 2 * p * q * x) ∧ exY p q k x y = rtY k.toNat ((p * p - q * q) * x - 2 * p * q * y) ((p * p - q * q) * y + 2 * p * q * x) := by
  unfold exX exY lgA lgB
  generalize k.toNat = j
  match j with
  | 0 => simp only [rtX, rtY]; constructor <;> grind
  | 1 => simp only [rtX, rtY]; constructor <;> grind
  | 2 => simp only [rtX, rtY]; constructor <;> grind
  | _ + 3 => simp only [rtX, rtY]; constructor <;> grind
def rat (x c : Int) : D := .tup [.int (x / ((Nat.gcd x.natAbs c.natAbs : Nat) : Int)), .int (c / ((Nat.gcd x.natAbs c.natAbs : Nat) : Int))]
theorem Bd.isq {n : Nat} {i : Int} (h : Bd n i) : Bd n ((Float64.isqrt i.toNat : Nat) : Int) := by
  obtain ⟨s1, _⟩ := Float64.isqrt_spec i.toNat
  generalize Float64.isqrt i.toNat = r at *
  unfold Bd at h ⊢
  have h1 : r ≤ r * r := by
    rcases Nat.eq_zero_or_pos r with z | z
    · subst z; decide
    · exact Nat.le_mul_of_pos_left r z
  have : (r : Int).natAbs = r := by omega
  omega

end Tp
namespace Tp
open PySem PySem.Spec PyProof.Rows L2 DL
/-! ### turns by quarters, and back -/
theorem cc_odd {p q k : Int} (h : Tn p q k) : cc p q % 2 = 1 := by
  obtain ⟨t, ht⟩ : ∃ t, p + q = 2 * t + 1 := ⟨(p + q) / 2, by have := h.o; omega⟩
  have e : cc p q = 2 * (2 * t * t + 2 * t - 2 * t * q - q + q * q) + 1 := by
    have : p = 2 * t + 1 - q := by omega
    subst this
    unfold cc
    grind
  omega
theorem four {k : Int} (h : 0 ≤ k ∧ k < 4) : k = 0 ∨ k = 1 ∨ k = 2 ∨ k = 3 := by omega
theorem tn_bk {p q k : Int} (h : Tn p q k) : Tn p (-q) ((4 - k) % 4) := by
  have := h.q1
  have := h.q2
  have := h.o
  exact ⟨h.p1, h.p2, by omega, by omega, by rw [Int.natAbs_neg]; exact h.g, by omega, by omega, by omega⟩
theorem bk_1 {p q k : Int} (h : Tn p q k) : -k % 4 = (4 - k) % 4 := by omega
theorem cc_neg (p q : Int) : cc p (-q) = cc p q := by unfold cc; grind
theorem nrr_near {n c : Int} (h : c % 2 = 1) (h0 : 0 < c) : -c < 2 * (n - c * nrr n c) ∧ 2 * (n - c * nrr n c) < c := by
  unfold nrr
  have e := Int.emod_add_mul_ediv (2 * n + c) (2 * c)
  have r0 := Int.emod_nonneg (2 * n + c) (show 2 * c ≠ 0 by omega)
  have r1 := Int.emod_lt_of_pos (2 * n + c) (show 0 < 2 * c by omega)
  generalize (2 * n + c) % (2 * c) = r at *
  generalize (2 * n + c) / (2 * c) = m at *
  have e2 : 2 * c * m = 2 * (c * m) := by rw [Int.mul_assoc]
  have rn : r ≠ 0 := by omega
  omega
theorem im_near {p q k : Int} (h : Tn p q k) (x y : Int) : (-(cc p q) < 2 * (exX p q k x y - cc p q * imX p q k x y) ∧ 2 * (exX p q k x y - cc p q * imX p q k x y) < cc p q) ∧ -(cc p q) < 2 * (exY p q k x y - cc p q * imY p q k x y) ∧ 2 * (exY p q k x y - cc p q * imY p q k x y) < cc p q :=
  by unfold imX imY; exact ⟨nrr_near (cc_odd h) (cc_pos h), nrr_near (cc_odd h) (cc_pos h)⟩

/-- a pixel within a bound -/
def DotB (n : Nat) (d : D) : Prop := ∃ x y : Int, d = .tup [.int x, .int y] ∧ Bd n x ∧ Bd n y
theorem DotB.up {n m : Nat} {d : D} (h : DotB n d) (k : n ≤ m) : DotB m d := by
  obtain ⟨x, y, e, a, b⟩ := h
  exact ⟨x, y, e, a.up k, b.up k⟩
theorem fa_app {P : D → Prop} {l m : List D} (h : ∀ x ∈ l, P x) (g : ∀ x ∈ m, P x) : ∀ x ∈ l ++ m, P x := fun x z => by
  rcases List.mem_append.mp z with z | z
  · exact h x z
  · exact g x z
end Tp
namespace Tp
open PySem PySem.Spec PyProof.Rows L2 DL
/-! ### rests -/
def reX (p q x y : Int) : Int := p * x - q * y - (p * imX p q 0 x y - -q * imY p q 0 x y)
def reY (p q x y : Int) : Int := p * y + q * x - (p * imY p q 0 x y + -q * imX p q 0 x y)
def isR (p q m n : Int) : Prop := (-(cc p q) < 2 * (p * m - q * n) ∧ 2 * (p * m - q * n) < cc p q) ∧ -(cc p q) < 2 * (p * n + q * m) ∧ 2 * (p * n + q * m) < cc p q
theorem bez_nat (m n : Nat) : ∃ s t : Int, s * (m : Int) + t * (n : Int) = (Nat.gcd m n : Int) := by
  induction m, n using Nat.gcd.induction with
  | H0 n => exact ⟨0, 1, by simp⟩
  | H1 m n hm ih =>
    obtain ⟨s, t, e⟩ := ih
    rw [← Nat.gcd_rec] at e
    have d : ((n % m : Nat) : Int) = (n : Int) - (m : Int) * ((n / m : Nat) : Int) := by
      have := Nat.mod_add_div n m
      omega
    refine ⟨t - s * ((n / m : Nat) : Int), s, ?_⟩
    rw [← e, d]
    grind
theorem bez {p q : Int} (g : Nat.gcd p.natAbs q.natAbs = 1) : ∃ s t : Int, s * p + t * q = 1 := by
  obtain ⟨s, t, e⟩ := bez_nat p.natAbs q.natAbs
  rw [g] at e
  rcases Int.natAbs_eq p with h | h <;> rcases Int.natAbs_eq q with h' | h'
  · exact ⟨s, t, by rw [h, h']; exact e⟩
  · exact ⟨s, -t, by rw [h, h', Int.neg_mul_neg]; exact e⟩
  · exact ⟨-s, t, by rw [h, h', Int.neg_mul_neg]; exact e⟩
  · exact ⟨-s, -t, by rw [h, h', Int.neg_mul_neg, Int.neg_mul_neg]; exact e⟩
theorem ex0 (p q x y : Int) : exX p q 0 x y = (p * p - q * q) * x - 2 * p * q * y ∧ exY p q 0 x y = (p * p - q * q) * y + 2 * p * q * x := by have h := ex_raw p q 0 x y; simpa [rtX, rtY] using h
/-- u times the rest is what the exact place has over c times the image -/
theorem u_re (p q x y : Int) : p * reX p q x y - q * reY p q x y = exX p q 0 x y - cc p q * imX p q 0 x y ∧ p * reY p q x y + q * reX p q x y = exY p q 0 x y - cc p q * imY p q 0 x y := by
  unfold reX reY
  rw [(ex0 p q x y).1, (ex0 p q x y).2]
  unfold cc
  generalize imX p q 0 x y = X
  generalize imY p q 0 x y = Y
  constructor <;> grind
theorem re_is {p q k : Int} (h : Tn p q k) (x y : Int) : isR p q (reX p q x y) (reY p q x y) := by
  unfold isR
  rw [(u_re p q x y).1, (u_re p q x y).2]
  have h0 : Tn p q 0 := ⟨h.p1, h.p2, h.q1, h.q2, h.g, h.o, by decide, by decide⟩
  exact im_near h0 x y
/-- a and c have no common divisor -/
theorem co_ac {p q k : Int} (h : Tn p q k) : ∃ s t : Int, s * (p * p - q * q) + t * cc p q = 1 := by
  obtain ⟨s, t, b⟩ := bez h.g
  obtain ⟨j, hj⟩ : ∃ j, cc p q = 2 * j + 1 := ⟨cc p q / 2, by have := cc_odd h; omega⟩
  obtain ⟨α, hα⟩ : ∃ α, α = s * s * s * p + 3 * s * s * t * q := ⟨_, rfl⟩
  obtain ⟨β, hβ⟩ : ∃ β, β = 3 * s * t * t * p + t * t * t * q := ⟨_, rfl⟩
  have e : p * p * α + q * q * β = 1 := by
    have : p * p * α + q * q * β = (s * p + t * q) * (s * p + t * q) * (s * p + t * q) := by rw [hα, hβ]; grind
    rw [this, b] <;> rfl
  refine ⟨-j * (α - β), 1 - j * (α + β), ?_⟩
  have e2 : -j * (α - β) * (p * p - q * q) + (1 - j * (α + β)) * cc p q = cc p q - 2 * j * (p * p * α + q * q * β) := by unfold cc; grind
  rw [e2, e, hj]
  omega
def con_inverse : Con := fun ds S Q => ∃ n m : Int, ds = [.int n, .int m] ∧ (Bd 300 n ∧ Bd 110 m ∧ 0 < m ∧ ∃ s t, s * n + t * m = 1) ∧ ∀ v, 0 ≤ v → v < m → (v * n - 1) % m = 0 → Q (.int v) S
theorem Bd.reX {p q x y : Int} {n : Nat} (h : Bd 50 p) (g : Bd 50 q) (hx : Bd n x) (hy : Bd n y) : Bd (160 + n) (reX p q x y) :=
  (((h.mul hx).sub (g.mul hy)).sub ((h.mul (Bd.imX 0 h g hx hy)).sub (g.neg.mul (Bd.imY 0 h g hx hy)))).up (by omega)
theorem Bd.reY {p q x y : Int} {n : Nat} (h : Bd 50 p) (g : Bd 50 q) (hx : Bd n x) (hy : Bd n y) : Bd (160 + n) (reY p q x y) :=
  (((h.mul hy).add (g.mul hx)).sub ((h.mul (Bd.imY 0 h g hx hy)).add (g.neg.mul (Bd.imX 0 h g hx hy)))).up (by omega)
/-- the rounds that find an inverse -/
structure InvI (n m h l a b : Int) : Prop where
  h0 : 0 < h
  l0 : 0 ≤ l
  az : ∃ z, a * n - h = m * z
  bz : ∃ z, b * n - l = m * z
  co : ∀ d, d ∣ h → d ∣ l → d ∣ 1
  sg : (0 ≤ a ∧ b ≤ 0 ∧ a * l - b * h = m) ∨ (a ≤ 0 ∧ 0 ≤ b ∧ b * h - a * l = m)
  hm : h ≤ m
  lm : l ≤ m
  ab : -m ≤ a ∧ a ≤ m
theorem InvI.start {n m s t : Int} (hm : 0 < m) (e : s * n + t * m = 1) : InvI n m m (n % m) 0 1 := by
  have r0 := Int.emod_nonneg n (show m ≠ 0 by omega)
  have r1 := Int.emod_lt_of_pos n hm
  have r2 := Int.emod_add_mul_ediv n m
  refine ⟨hm, r0, ⟨-1, by omega⟩, ⟨n / m, by omega⟩, fun d h1 h2 => ?_, .inr ⟨by omega, by omega, by omega⟩, by omega, by omega, by omega⟩
  have h3 : d ∣ n := by rw [← r2]; exact Int.dvd_add h2 (Int.dvd_trans h1 (Int.dvd_mul_right _ _))
  rw [← e]
  exact Int.dvd_add (Int.dvd_trans h3 (Int.dvd_mul_left _ _)) (Int.dvd_trans h1 (Int.dvd_mul_left _ _))
theorem InvI.b_le {n m h l a b : Int} (I : InvI n m h l a b) : -m ≤ b ∧ b ≤ m := by
  have h0 := I.h0
  have l0 := I.l0
  rcases I.sg with ⟨a0, b0, e⟩ | ⟨a0, b0, e⟩
  · have x1 : 0 ≤ a * l := Int.mul_nonneg a0 l0
    have x2 : (-b) * 1 ≤ (-b) * h := Int.mul_le_mul_of_nonneg_left (by omega) (by omega)
    have x3 : (-b) * h = -(b * h) := Int.neg_mul _ _
    omega
  · have x1 : 0 ≤ (-a) * l := Int.mul_nonneg (by omega) l0
    have x2 : b * 1 ≤ b * h := Int.mul_le_mul_of_nonneg_left (by omega) (by omega)
    have x3 : (-a) * l = -(a * l) := Int.neg_mul _ _
    omega
theorem InvI.less {h l : Int} (h0 : 0 < l) : 0 ≤ h - h / l * l ∧ h - h / l * l < l := by
  have r0 := Int.emod_nonneg h (show l ≠ 0 by omega)
  have r1 := Int.emod_lt_of_pos h h0
  have r2 := Int.emod_add_mul_ediv h l
  have r3 : h / l * l = l * (h / l) := Int.mul_comm _ _
  omega
theorem InvI.step {n m h l a b : Int} (I : InvI n m h l a b) (hl : 0 < l) : InvI n m l (h - h / l * l) b (a - h / l * b) := by
  obtain ⟨l1, l2⟩ := InvI.less (h := h) hl
  have q0 : 0 ≤ h / l := Int.ediv_nonneg (by have := I.h0; omega) (by omega)
  have hlm := I.lm
  obtain ⟨z, hz⟩ := I.az
  obtain ⟨w, hw⟩ := I.bz
  refine ⟨hl, l1, I.bz, ⟨z - h / l * w, ?_⟩, fun d h1 h2 => I.co d ?_ h1, ?_, hlm, by omega, I.b_le⟩
  · have : (a - h / l * b) * n - (h - h / l * l) = (a * n - h) - h / l * (b * n - l) := by grind
    rw [this, hz, hw]
    grind
  · have : h = (h - h / l * l) + h / l * l := by omega
    rw [this]
    exact Int.dvd_add h2 (Int.dvd_trans h1 (Int.dvd_mul_left _ _))
  · generalize h / l = k at *
    rcases I.sg with ⟨a0, b0, e⟩ | ⟨a0, b0, e⟩
    · have x : 0 ≤ k * (-b) := Int.mul_nonneg q0 (by omega)
      have x2 : k * (-b) = -(k * b) := Int.mul_neg _ _
      exact .inr ⟨b0, by omega, by rw [← e]; grind⟩
    · have x : 0 ≤ k * b := Int.mul_nonneg q0 b0
      exact .inl ⟨b0, by omega, by rw [← e]; grind⟩
theorem InvI.fin {n m h a b : Int} (I : InvI n m h 0 a b) (hm : 0 < m) : (a % m * n - 1) % m = 0 := by
  have h1 : h ∣ 1 := I.co h (Int.dvd_refl h) (Int.dvd_zero h)
  have h2 : h = 1 := by
    have := Int.le_of_dvd (by decide) h1
    have := I.h0
    omega
  obtain ⟨z, hz⟩ := I.az
  rw [h2] at hz
  have r2 := Int.emod_add_mul_ediv a m
  have : a % m * n - 1 = m * (z - a / m * n) := by
    have e : a % m = a - m * (a / m) := by omega
    rw [e]
    have : (a - m * (a / m)) * n - 1 = (a * n - 1) - m * (a / m * n) := by grind
    rw [this, hz]
    grind
  rw [this]
  exact Int.mul_emod_right _ _
theorem Tn.zero {p q k : Int} (h : Tn p q k) : Tn p q 0 := ⟨h.p1, h.p2, h.q1, h.q2, h.g, h.o, by decide, by decide⟩
theorem Bd.of_le' {n : Nat} {m h : Int} (b : Bd n m) (h0 : 0 < h) (h1 : h ≤ m) : Bd n h := Bd.of_le (by omega) h1 b
theorem Bd.of_le'' {n : Nat} {m h : Int} (b : Bd n m) (h0 : 0 ≤ h) (h1 : h ≤ m) : Bd n h := Bd.of_le h0 h1 b
theorem Bd.of_ab {n : Nat} {m h : Int} (b : Bd n m) (h0 : -m ≤ h ∧ h ≤ m) : Bd n h := by
  have := (show 0 ≤ m by omega)
  unfold Bd at *
  omega

theorem bd_cc {p q : Int} (h : Bd 101 (cc p q)) : Bd 101 (cc p q) := h

end Tp
namespace Tp
open PySem PySem.Spec PyProof.Rows L2 DL

/-! ### pixels with one rest -/
end Tp
namespace Tp
open PySem PySem.Spec PyProof.Rows L2 DL
/-! ### the nearest pixel with a rest -/
theorem three {i : Nat} {d : D} (h : [D.int (-1), D.int 0, D.int 1][i]? = some d) : i < 3 ∧ d = .int ((i : Int) - 1) := by
  have hi : i < 3 := (List.getElem?_eq_some_iff.mp h).1
  refine ⟨hi, ?_⟩
  rcases (by omega : i = 0 ∨ i = 1 ∨ i = 2) with e | e | e <;> subst e <;> exact (Option.some.inj h).symm
end Tp
namespace Tp
open PySem PySem.Spec PyProof.Rows L2 DL
/-! ### turns of legs, and joined turns -/
theorem sum_sq_odd {x y : Int} (h : (x * x + y * y) % 2 = 1) : (x + y) % 2 = 1 := by
  have e : (x + y) * (x + y) = x * x + y * y + 2 * (x * y) := by grind
  rcases Int.emod_two_eq (x + y) with z | z
  · obtain ⟨t, ht⟩ : ∃ t, x + y = 2 * t := ⟨(x + y) / 2, by omega⟩
    rw [ht] at e
    have : 2 * t * (2 * t) = 2 * (2 * t * t) := by grind
    omega
  · exact z
theorem co_ab {p q k : Int} (h : Tn p q k) : ∃ s t : Int, s * (p * p - q * q) + t * (p * q + q * p) = 1 := by
  obtain ⟨s, t, e⟩ := co_ac h
  refine ⟨s * s * (p * p - q * q) + 2 * s * t * cc p q + t * t * (p * p - q * q), t * t * (p * q + q * p), ?_⟩
  have c2 : cc p q * cc p q = (p * p - q * q) * (p * p - q * q) + (p * q + q * p) * (p * q + q * p) := by unfold cc; grind
  generalize p * p - q * q = a at *
  generalize p * q + q * p = b at *
  generalize cc p q = c at *
  have : (s * s * a + 2 * s * t * c + t * t * a) * a + t * t * b * b = (s * a + t * c) * (s * a + t * c) + t * t * (a * a + b * b - c * c) := by grind
  rw [this, e, c2]
  grind
theorem gcd_of {a b s t : Int} (e : s * a + t * b = 1) : Nat.gcd a.natAbs b.natAbs = 1 := by
  have h1 : ((Nat.gcd a.natAbs b.natAbs : Nat) : Int) ∣ a := PySem.W.mg_dvd_left a b
  have h2 : ((Nat.gcd a.natAbs b.natAbs : Nat) : Int) ∣ b := PySem.W.mg_dvd_right a b
  have h3 : ((Nat.gcd a.natAbs b.natAbs : Nat) : Int) ∣ 1 := by
    rw [← e]
    exact Int.dvd_add (Int.dvd_trans h1 (Int.dvd_mul_left _ _)) (Int.dvd_trans h2 (Int.dvd_mul_left _ _))
  have h4 := Int.le_of_dvd (by decide) h3
  have h5 : Nat.gcd a.natAbs b.natAbs ≠ 0 := fun z => by
    rw [z] at h3
    obtain ⟨w, hw⟩ := h3
    omega
  omega
theorem gcd_lg {p q k : Int} (h : Tn p q k) : Nat.gcd (lgA p q k).natAbs (lgB p q k).natAbs = 1 := by
  obtain ⟨s, t, e⟩ := co_ab h
  unfold lgA lgB
  generalize p * p - q * q = a at *
  generalize p * q + q * p = b at *
  generalize k.toNat = j
  match j with
  | 0 => exact gcd_of (s := s) (t := t) e
  | 1 => exact gcd_of (s := -t) (t := s) (by show -t * -b + s * a = 1; grind)
  | 2 => exact gcd_of (s := -s) (t := -t) (by show -s * -a + -t * -b = 1; grind)
  | _ + 3 => exact gcd_of (s := t) (t := -s) (by show t * b + -s * -a = 1; grind)
theorem gcd_mlg {p q k m : Int} (h : Tn p q k) (hm : 0 ≤ m) : ((Nat.gcd (m * lgA p q k).natAbs (m * lgB p q k).natAbs : Nat) : Int) = m := by
  rw [Int.natAbs_mul, Int.natAbs_mul, Nat.gcd_mul_left, gcd_lg h, Nat.mul_one]
  omega
theorem ediv_l {m a : Int} (h : 1 ≤ m) : m * a / m = a := Int.mul_ediv_cancel_left a (by omega)
/-- the last step of what finds a turn of legs -/
theorem root_p (p q : Int) : (cc p q + (p * p - q * q)) / 2 = p * p := by unfold cc; omega
theorem root_q (p q : Int) : (cc p q - (p * p - q * q)) / 2 = q * q := by unfold cc; omega
theorem abs_sq (q : Int) : q * q = (q.natAbs : Int) * (q.natAbs : Int) := by
  rcases Int.natAbs_eq q with h | h
  · rw [← h]
  · have : q * q = -q * -q := by rw [Int.neg_mul_neg]
    rw [this]
    have : -q = (q.natAbs : Int) := by omega
    rw [this]
/-- with what is the turn told: the loop goes on exactly while quarters are left -/
theorem go_on {p q : Int} (h : Tn p q 0) (j : Nat) (hj : j < 4) : (rtY j (p * p - q * q) (p * q + q * p) % 2 = 1 ∨ rtX j (p * p - q * q) (p * q + q * p) < 0) ↔ j ≠ 0 := by
  have hp := h.p1
  have a1 := h.q1
  have a2 := h.q2
  have a0 : 0 < p * p - q * q := by
    have : p * p - q * q = (p - q) * (p + q) := by grind
    rw [this]
    exact Int.mul_pos (by omega) (by omega)
  have ao : (p * p - q * q) % 2 = 1 := by
    have := cc_odd h
    unfold cc at this
    have e : p * p - q * q = p * p + q * q - 2 * (q * q) := by omega
    omega
  have bo : (p * q + q * p) % 2 = 0 := by
    have : p * q + q * p = 2 * (p * q) := by grind
    omega
  generalize p * p - q * q = a at *
  generalize p * q + q * p = b at *
  rcases (by omega : j = 0 ∨ j = 1 ∨ j = 2 ∨ j = 3) with e | e | e | e <;> subst e <;> simp only [rtX, rtY] <;> omega
theorem rt_back (j : Nat) (hj : j < 3) (x y : Int) : rtY (j + 1) x y = rtX j x y ∧ -rtX (j + 1) x y = rtY j x y := by
  rcases (by omega : j = 0 ∨ j = 1 ∨ j = 2) with h | h | h <;> subst h <;> simp [rtX, rtY]
/-- the turn that two turns make: what is over is a whole number and quarters -/
structure Jn (p q k r s l a b m : Int) : Prop where
  t : Tn a b m
  ex : ∃ (g : Int) (j : Nat), 1 ≤ g ∧ j < 4 ∧ p * r - q * s = g * rtX j a b ∧ p * s + q * r = g * rtY j a b ∧ m = (k + l + 2 * (j : Int)) % 4
theorem rt_mul {k l : Int} (hk : 0 ≤ k ∧ k < 4) (hl : 0 ≤ l ∧ l < 4) (A B C D : Int) : rtX k.toNat A B * rtX l.toNat C D - rtY k.toNat A B * rtY l.toNat C D = rtX ((k + l) % 4).toNat (A * C - B * D) (A * D + B * C) ∧ rtX k.toNat A B * rtY l.toNat C D + rtY k.toNat A B * rtX l.toNat C D = rtY ((k + l) % 4).toNat (A * C - B * D) (A * D + B * C) := by
  rcases four hk with h | h | h | h <;> rcases four hl with g | g | g | g <;> subst h <;> subst g <;> simp [rtX, rtY] <;> grind
theorem rt_two {n : Int} (hn : 0 ≤ n ∧ n < 4) (j : Nat) (hj : j < 4) (g a b : Int) : rtX n.toNat ((g * rtX j a b) * (g * rtX j a b) - (g * rtY j a b) * (g * rtY j a b)) ((g * rtX j a b) * (g * rtY j a b) + (g * rtY j a b) * (g * rtX j a b)) = g * g * rtX ((n + 2 * (j : Int)) % 4).toNat (a * a - b * b) (a * b + b * a) ∧ rtY n.toNat ((g * rtX j a b) * (g * rtX j a b) - (g * rtY j a b) * (g * rtY j a b)) ((g * rtX j a b) * (g * rtY j a b) + (g * rtY j a b) * (g * rtX j a b)) = g * g * rtY ((n + 2 * (j : Int)) % 4).toNat (a * a - b * b) (a * b + b * a) := by
  rcases four hn with h | h | h | h <;> rcases (by omega : j = 0 ∨ j = 1 ∨ j = 2 ∨ j = 3) with e | e | e | e <;> subst h <;> subst e <;> simp [rtX, rtY] <;> grind
/-- the legs of what two turns make -/
theorem jn_legs {p q k r s l a b m : Int} (h : Tn p q k) (h' : Tn r s l) (J : Jn p q k r s l a b m) : ∃ g : Int, 1 ≤ g ∧ lgA p q k * lgA r s l - lgB p q k * lgB r s l = g * lgA a b m ∧ lgA p q k * lgB r s l + lgB p q k * lgA r s l = g * lgB a b m ∧ cc p q * cc r s = g * cc a b := by
  obtain ⟨g, j, g1, hj, e1, e2, e3⟩ := J.ex
  have gg : 1 * 1 ≤ g * g := Int.mul_le_mul g1 g1 (by decide) (by omega)
  have k1 := h.k1
  have k2 := h.k2
  have l1 := h'.k1
  have l2 := h'.k2
  refine ⟨g * g, by omega, ?_, ?_, ?_⟩
  · unfold lgA lgB
    rw [(rt_mul ⟨k1, by omega⟩ ⟨l1, by omega⟩ _ _ _ _).1]
    have x1 : (p * p - q * q) * (r * r - s * s) - (p * q + q * p) * (r * s + s * r) = (p * r - q * s) * (p * r - q * s) - (p * s + q * r) * (p * s + q * r) := by grind
    have x2 : (p * p - q * q) * (r * s + s * r) + (p * q + q * p) * (r * r - s * s) = (p * r - q * s) * (p * s + q * r) + (p * s + q * r) * (p * r - q * s) := by grind
    rw [x1, x2, e1, e2, (rt_two ⟨by omega, by omega⟩ j hj g a b).1, e3, show ((k + l) % 4 + 2 * (j : Int)) % 4 = (k + l + 2 * (j : Int)) % 4 by omega]
  · unfold lgA lgB
    rw [(rt_mul ⟨k1, by omega⟩ ⟨l1, by omega⟩ _ _ _ _).2]
    have x1 : (p * p - q * q) * (r * r - s * s) - (p * q + q * p) * (r * s + s * r) = (p * r - q * s) * (p * r - q * s) - (p * s + q * r) * (p * s + q * r) := by grind
    have x2 : (p * p - q * q) * (r * s + s * r) + (p * q + q * p) * (r * r - s * s) = (p * r - q * s) * (p * s + q * r) + (p * s + q * r) * (p * r - q * s) := by grind
    rw [x1, x2, e1, e2, (rt_two ⟨by omega, by omega⟩ j hj g a b).2, e3, show ((k + l) % 4 + 2 * (j : Int)) % 4 = (k + l + 2 * (j : Int)) % 4 by omega]
  · have : cc p q * cc r s = (p * r - q * s) * (p * r - q * s) + (p * s + q * r) * (p * s + q * r) := by unfold cc; grind
    rw [this, e1, e2]
    unfold cc
    rcases (by omega : j = 0 ∨ j = 1 ∨ j = 2 ∨ j = 3) with e | e | e | e <;> subst e <;> simp only [rtX, rtY] <;> grind

/-- one turn alone makes u up to a number and quarters -/
theorem one_of {a b m c d n g h : Int} {i j : Nat} (ha : Tn a b m) (hc : Tn c d n) (hg : 1 ≤ g) (hh : 1 ≤ h) (hi : i < 4) (hj : j < 4) (e1 : g * rtX i a b = h * rtX j c d) (e2 : g * rtY i a b = h * rtY j c d) : i = j ∧ a = c ∧ b = d := by
  have ga := ha.p1
  have gb := ha.q1
  have gb' := ha.q2
  have gc := hc.p1
  have gd := hc.q1
  have gd' := hc.q2
  -- first the same quarters
  have lt1 : -(g * a) < g * b ∧ g * b < g * a := by
    have x : g * (-a) < g * b := Int.mul_lt_mul_of_pos_left (by omega) (by omega)
    have y : g * b < g * a := Int.mul_lt_mul_of_pos_left gb' (by omega)
    rw [Int.mul_neg] at x
    exact ⟨x, y⟩
  have lt2 : -(h * c) < h * d ∧ h * d < h * c := by
    have x : h * (-c) < h * d := Int.mul_lt_mul_of_pos_left (by omega) (by omega)
    have y : h * d < h * c := Int.mul_lt_mul_of_pos_left gd' (by omega)
    rw [Int.mul_neg] at x
    exact ⟨x, y⟩
  have p1 : 0 < g * a := Int.mul_pos (by omega) (by omega)
  have p2 : 0 < h * c := Int.mul_pos (by omega) (by omega)
  have same : i = j ∧ g * a = h * c ∧ g * b = h * d := by
    rcases (by omega : i = 0 ∨ i = 1 ∨ i = 2 ∨ i = 3) with e | e | e | e <;> rcases (by omega : j = 0 ∨ j = 1 ∨ j = 2 ∨ j = 3) with f | f | f | f <;> subst e <;> subst f <;> simp only [rtX, rtY, Int.mul_neg] at e1 e2 <;> first | (refine ⟨rfl, ?_, ?_⟩ <;> omega) | (exfalso; omega)
  obtain ⟨s1, s2, s3⟩ := same
  -- then the same numbers
  have key : ∀ {u v w x y z : Int}, 1 ≤ u → 1 ≤ v → Nat.gcd w.natAbs x.natAbs = 1 → Nat.gcd y.natAbs z.natAbs = 1 → u * w = v * y → u * x = v * z → u = v := fun {u v w x y z} hu hv c1 c2 f1 f2 => by
    have n1 : Nat.gcd (u * w).natAbs (u * x).natAbs = u.natAbs := by rw [Int.natAbs_mul, Int.natAbs_mul, Nat.gcd_mul_left, c1, Nat.mul_one]
    have n2 : Nat.gcd (v * y).natAbs (v * z).natAbs = v.natAbs := by rw [Int.natAbs_mul, Int.natAbs_mul, Nat.gcd_mul_left, c2, Nat.mul_one]
    rw [f1, f2, n2] at n1
    omega
  have gh := key hg hh ha.g hc.g s2 s3
  subst gh
  exact ⟨s1, Int.eq_of_mul_eq_mul_left (by omega) s2, Int.eq_of_mul_eq_mul_left (by omega) s3⟩
theorem lg_sq (p q k : Int) : lgA p q k * lgA p q k + lgB p q k * lgB p q k = cc p q * cc p q := by
  unfold lgA lgB cc
  generalize k.toNat = j
  match j with
  | 0 => simp only [rtX, rtY]; grind
  | 1 => simp only [rtX, rtY]; grind
  | 2 => simp only [rtX, rtY]; grind
  | _ + 3 => simp only [rtX, rtY]; grind
theorem g_bd {g p q r s a b k l m : Int} (h : Tn p q k) (h' : Tn r s l) (t : Tn a b m) (g1 : 1 ≤ g) (e : cc p q * cc r s = g * cc a b) : Bd 210 g := by
  have c1 := cc_one t
  have : g * 1 ≤ g * cc a b := Int.mul_le_mul_of_nonneg_left c1 (by omega)
  exact (Bd.of_le (by omega) (by omega) ((Bd.cc h.bp h.bq).mul (Bd.cc h'.bp h'.bq))).up (by decide)
theorem tn_bk2 {p q k : Int} (h : Tn p q k) : Tn p (-q) (-k % 4) := by
  have := tn_bk h
  have e := bk_1 h
  rw [e]
  exact this
theorem isq_ok {i p : Int} (e : i = p * p) (b : Bd 100 (p * p)) : 0 ≤ i ∧ i.natAbs < 2 ^ 3000 := by
  subst e
  exact ⟨sq_nn p, b.up (by decide)⟩
theorem q_sign {p : Int} (h : 1 ≤ p) (q : Int) : (0 < p * q + q * p → (q.natAbs : Int) = q) ∧ (¬ 0 < p * q + q * p → -(q.natAbs : Int) = q) := by
  have e : p * q + q * p = p * q + p * q := by rw [Int.mul_comm q p]
  rw [e]
  rcases Int.lt_trichotomy q 0 with z | z | z
  · have : p * q < 0 := Int.mul_neg_of_pos_of_neg (by omega) z
    omega
  · subst z
    omega
  · have : 0 < p * q := Int.mul_pos (by omega) z
    omega
theorem gcd_pos' (x : Int) {c : Int} (h : 0 < c) : 0 < ((Nat.gcd x.natAbs c.natAbs : Nat) : Int) := by
  have : 0 < Nat.gcd x.natAbs c.natAbs := Nat.gcd_pos_of_pos_right _ (by omega)
  omega
def con_turn_by : Con := fun ds S Q => ∃ a b c p q k m : Int, ds = [.tup [.int a, .int b, .int c]] ∧ (a = m * lgA p q k ∧ b = m * lgB p q k ∧ c = m * cc p q) ∧ Tn p q k ∧ 1 ≤ m ∧ Bd 300 m ∧ Q (.tup [.int p, .int q, .int k]) S
theorem sq_bd {p : Int} (h : Bd 50 p) : Bd 100 (p * p) := h.mul h
theorem gcd_bd (x : Int) {c : Int} {n : Nat} (hc : 0 < c) (h : Bd n c) : Bd n ((Nat.gcd x.natAbs c.natAbs : Nat) : Int) := by
  refine Bd.of_le (by omega) ?_ h
  have := Nat.gcd_le_right (n := c.natAbs) x.natAbs (by omega)
  omega

end Tp
namespace Tp
open PySem PySem.Spec PyProof.Rows L2 DL
/-! ### misses -/
def absI (v : Int) : Int := if v < 0 then -v else v
theorem take_step {α β : Type} (f : α → β) {os : List α} {k : Nat} {v : α} (h : os[k]? = some v) : (os.map f).take (k + 1) = (os.map f).take k ++ [f v] := by
  rw [List.take_add_one, List.getElem?_map, h] <;> rfl
end Tp
namespace Tp
open PySem PySem.Spec PyProof.Rows L2 DL
/-! ### how many turns keep all -/
def con_keeps : Con := fun ds S Q => ∃ p q k : Int, ds = [.tup [.int p, .int q, .int k]] ∧ Tn p q k ∧ Q (.bl (decide (p = (if q < 0 then -q else q) + 1))) S
end Tp
namespace Tp
open PySem PySem.Spec PyProof.Rows L2 DL
/-! ### pixels with one image; bare pixels -/
/-- a rest of a pixel that comes back -/
def isC (p q m n : Int) : Prop := (-(cc p q) < 2 * (p * m + q * n) ∧ 2 * (p * m + q * n) < cc p q) ∧ -(cc p q) < 2 * (p * n - q * m) ∧ 2 * (p * n - q * m) < cc p q
/-! ### turns that keep all -/
/-! ### a bare pixel of each turn that does not keep all -/
/-! ### where some are bare, some meet -/
end Tp
namespace Tp
open PySem PySem.Spec PyProof.Rows L2 DL
/-! ### where a pixel comes from -/
theorem lg_back {p q k : Int} (h : Tn p q k) (x y : Int) : exX p (-q) (-k % 4) x y = lgA p q k * x + lgB p q k * y ∧ exY p (-q) (-k % 4) x y = lgA p q k * y - lgB p q k * x := by
  have hk : 0 ≤ k ∧ k < 4 := ⟨h.k1, by have := h.k2; omega⟩
  obtain ⟨a1, a2⟩ := ex_raw p (-q) (-k % 4) x y
  rw [a1, a2]
  unfold lgA lgB
  rcases four hk with g | g | g | g <;> subst g
  · show rtX 0 _ _ = _ ∧ rtY 0 _ _ = _
    simp only [rtX, rtY]
    constructor <;> grind
  · show rtX 3 _ _ = rtX 1 _ _ * _ + rtY 1 _ _ * _ ∧ rtY 3 _ _ = rtX 1 _ _ * _ - rtY 1 _ _ * _
    simp only [rtX, rtY]
    constructor <;> grind
  · show rtX 2 _ _ = rtX 2 _ _ * _ + rtY 2 _ _ * _ ∧ rtY 2 _ _ = rtX 2 _ _ * _ - rtY 2 _ _ * _
    simp only [rtX, rtY]
    constructor <;> grind
  · show rtX 1 _ _ = rtX 3 _ _ * _ + rtY 3 _ _ * _ ∧ rtY 1 _ _ = rtX 3 _ _ * _ - rtY 3 _ _ * _
    simp only [rtX, rtY]
    constructor <;> grind
end Tp
namespace Tp
open PySem PySem.Spec PyProof.Rows L2 DL
/-! ### the gaps between the exact places -/
/-- the four ways a point lies out of the gap -/
def Hit (a b c D E : Int) : Prop := ∃ m n : Int, (m = 1 ∨ m = -1) ∧ (n = 1 ∨ n = -1) ∧ (-c < D - (a * m - b * n) ∧ D - (a * m - b * n) < c) ∧ -c < E - (b * m + a * n) ∧ E - (b * m + a * n) < c
theorem Hit.turn {a b c D E : Int} (h : Hit b (-a) c D E) : Hit a b c D E := by
  obtain ⟨m, n, hm, hn, h1, h2⟩ := h
  refine ⟨n, -m, hn, by omega, ?_⟩
  have e1 : D - (a * n - b * -m) = D - (b * m - -a * n) := by grind
  have e2 : E - (b * n + a * -m) = E - (-a * m + b * n) := by grind
  rw [e1, e2]; omega
/-! ### the law's own lists of pixels around a place -/
/-! ### pixels that meet a pixel, of those around -/
end Tp
namespace Tp
open PySem PySem.Spec PyProof.Rows L2 DL
/-! ### sources, with lists that may be changed -/
end Tp
namespace Tp
open PySem PySem.Spec PyProof.Rows L2 DL
/-! ### sums over rows of pixels -/
def sumN : Nat → (Nat → Int) → Int
  | 0, _ => 0
  | n + 1, f => sumN n f + f n
theorem sumN_congr {f g : Nat → Int} : ∀ {n : Nat}, (∀ i, i < n → f i = g i) → sumN n f = sumN n g
  | 0, _ => rfl
  | n + 1, h => by
    show sumN n f + f n = sumN n g + g n
    rw [sumN_congr fun i hi => h i (by omega), h n (by omega)]
theorem sumN_add (f g : Nat → Int) : ∀ n : Nat, sumN n (fun i => f i + g i) = sumN n f + sumN n g
  | 0 => rfl
  | n + 1 => by
    show sumN n _ + (f n + g n) = sumN n f + f n + (sumN n g + g n)
    rw [sumN_add f g n]
    omega
theorem sumN_mul (k : Int) (f : Nat → Int) : ∀ n : Nat, sumN n (fun i => k * f i) = k * sumN n f
  | 0 => (Int.mul_zero k).symm
  | n + 1 => by
    show sumN n _ + k * f n = k * (sumN n f + f n)
    rw [sumN_mul k f n, Int.mul_add]
theorem sumN_const (k : Int) : ∀ n : Nat, sumN n (fun _ => k) = n * k
  | 0 => by show (0 : Int) = ((0 : Nat) : Int) * k; simp
  | n + 1 => by
    show sumN n _ + k = _
    rw [sumN_const k n]
    have : (((n + 1 : Nat) : Int)) = (n : Int) + 1 := by omega
    rw [this, Int.add_mul, Int.one_mul]
end Tp
namespace Tp
open PySem PySem.Spec PyProof.Rows L2 DL
/-! ### bare pixels in a row -/
def keepsP (p q : Int) : Prop := p = (if q < 0 then -q else q) + 1
instance (p q : Int) : Decidable (keepsP p q) := by unfold keepsP; infer_instance
end Tp
namespace Tp
open PySem PySem.Spec PyProof.Rows L2 DL
/-! ### sums of floors -/
theorem sumN_head (f : Nat → Int) : ∀ n : Nat, sumN (n + 1) f = f 0 + sumN n fun i => f (i + 1)
  | 0 => by show (0 : Int) + f 0 = f 0 + 0; omega
  | n + 1 => by
    show sumN (n + 1) f + f (n + 1) = f 0 + (sumN n (fun i => f (i + 1)) + f (n + 1))
    rw [sumN_head f n]
    omega
theorem sumN_rev : ∀ (n : Nat) (f : Nat → Int), sumN n f = sumN n fun j => f (n - 1 - j)
  | 0, _ => rfl
  | n + 1, f => by
    rw [sumN_head f n, sumN_rev n fun i => f (i + 1)]
    show f 0 + _ = sumN n (fun j => f (n + 1 - 1 - j)) + f (n + 1 - 1 - n)
    rw [show n + 1 - 1 - n = 0 by omega, Int.add_comm]
    congr 1
    refine sumN_congr fun i hi => ?_
    rw [show n - 1 - i + 1 = n + 1 - 1 - i by omega]
theorem sumN_split (f : Nat → Int) (n : Nat) : ∀ m : Nat, sumN (n + m) f = sumN n f + sumN m fun i => f (n + i)
  | 0 => by show sumN n f = sumN n f + 0; omega
  | m + 1 => by
    show sumN (n + m) f + f (n + m) = sumN n f + (sumN m (fun i => f (n + i)) + f (n + m))
    rw [sumN_split f n m]
    omega
theorem sumN_zero {f : Nat → Int} {n : Nat} (h : ∀ i, i < n → f i = 0) : sumN n f = 0 := by
  rw [sumN_congr h, sumN_const, Int.mul_zero]
/-- what is nought from n on -/
theorem sumN_cut {f : Nat → Int} {n m : Nat} (hn : n ≤ m) (h : ∀ i, n ≤ i → i < m → f i = 0) : sumN m f = sumN n f := by
  obtain ⟨k, rfl⟩ : ∃ k, m = n + k := ⟨m - n, by omega⟩
  rw [sumN_split, sumN_zero (f := fun i => f (n + i)) fun i hi => h _ (by omega) (by omega)]
  omega
theorem sumN_id : ∀ n : Nat, sumN n (fun k => (k : Int)) = (n : Int) * ((n : Int) - 1) / 2
  | 0 => rfl
  | n + 1 => by
    show sumN n (fun k => (k : Int)) + (n : Int) = _
    rw [sumN_id n]
    have e1 : (((n + 1 : Nat) : Int)) = (n : Int) + 1 := by omega
    rw [e1, show ((n : Int) + 1) * ((n : Int) + 1 - 1) = (n : Int) * ((n : Int) - 1) + n * 2 by grind, Int.add_mul_ediv_right _ _ (by decide)]
def fs (n : Nat) (d s b : Int) : Int := sumN n fun k => (s * (k : Int) + b) / d
theorem fs_red (n : Nat) {d : Int} (s b : Int) (hd : 0 < d) : fs n d s b = (n : Int) * ((n : Int) - 1) / 2 * (s / d) + (n : Int) * (b / d) + fs n d (s % d) (b % d) := by
  unfold fs
  rw [sumN_congr (g := fun k => ((s / d) * (k : Int) + b / d) + (s % d * (k : Int) + b % d) / d) fun k _ => ?_]
  · rw [sumN_add, sumN_add, sumN_mul, sumN_const, sumN_id, Int.mul_comm (s / d)]
  · have e : s * (k : Int) + b = (s % d * (k : Int) + b % d) + d * ((s / d) * (k : Int) + b / d) := by
      have h1 := Int.emod_add_mul_ediv s d
      have h2 := Int.emod_add_mul_ediv b d
      generalize s % d = s1 at *
      generalize b % d = b1 at *
      generalize s / d = s2 at *
      generalize b / d = b2 at *
      subst h1 h2
      grind
    rw [e, Int.add_mul_ediv_left _ _ (by omega)]
    omega
def fsH (d s b : Int) (n m : Nat) : Int := sumN m fun j => (n : Int) + (b - ((j : Int) + 1) * d) / s
theorem fsH_succ (d s b : Int) (n m : Nat) : fsH d s b (n + 1) m = fsH d s b n m + (m : Int) := by
  unfold fsH
  rw [sumN_congr (g := fun j : Nat => ((n : Int) + (b - ((j : Int) + 1) * d) / s) + 1) fun j _ => by
    have e1 : (((n + 1 : Nat) : Int)) = (n : Int) + 1 := by omega
    rw [e1]
    omega]
  rw [sumN_add, sumN_const, Int.mul_one]
theorem fs_H {d s b : Int} (hd : 0 < d) (hs : 0 < s) (hb : 0 ≤ b ∧ b < d) : ∀ n : Nat, fsH d s b n ((s * (n : Int) + b) / d).toNat = fs n d s b
  | 0 => by
    have e : (s * ((0 : Nat) : Int) + b) / d = 0 := by
      rw [show s * ((0 : Nat) : Int) + b = b by simp]
      exact Int.ediv_eq_zero_of_lt hb.1 hb.2
    rw [e]
    rfl
  | n + 1 => by
    have e1 : (((n + 1 : Nat) : Int)) = (n : Int) + 1 := by omega
    have hm0 : 0 ≤ (s * (n : Int) + b) / d := Int.ediv_nonneg (Int.add_nonneg (Int.mul_nonneg (by omega) (by omega)) hb.1) (by omega)
    have hle : (s * (n : Int) + b) / d ≤ (s * (((n + 1 : Nat) : Int)) + b) / d := Int.ediv_le_ediv hd (by rw [e1]; grind)
    rw [show fs (n + 1) d s b = fs n d s b + (s * (n : Int) + b) / d from rfl, ← fs_H hd hs hb n]
    have e2 : fsH d s b (n + 1) ((s * (((n + 1 : Nat) : Int)) + b) / d).toNat = fsH d s b (n + 1) ((s * (n : Int) + b) / d).toNat := by
      unfold fsH
      refine sumN_cut (by omega) fun j h1 h2 => ?_
      have q1 : (s * (n : Int) + b) / d < (j : Int) + 1 := by omega
      have q2 : (j : Int) + 1 ≤ (s * (((n + 1 : Nat) : Int)) + b) / d := by omega
      have q3 := (Int.ediv_lt_iff_lt_mul hd).mp q1
      have q4 := (Int.le_ediv_iff_mul_le hd).mp q2
      rw [e1] at q4
      rw [e1]
      have : (b - ((j : Int) + 1) * d) / s = -((n : Int) + 1) := by
        have r1 : -((n : Int) + 1) ≤ (b - ((j : Int) + 1) * d) / s := (Int.le_ediv_iff_mul_le hs).mpr (by grind)
        have r2 : (b - ((j : Int) + 1) * d) / s < -((n : Int) + 1) + 1 := (Int.ediv_lt_iff_lt_mul hs).mpr (by grind)
        omega
      omega
    rw [e2, fsH_succ]
    omega
/-- the points under a line, counted from the other side -/
theorem fs_flip {d s b : Int} {n : Nat} (hd : 0 < d) (hs : 0 < s) (hb : 0 ≤ b ∧ b < d) : fs n d s b = fs ((s * (n : Int) + b) / d).toNat s d ((s * (n : Int) + b) % d) := by
  rw [← fs_H hd hs hb n]
  unfold fsH fs
  rw [sumN_rev]
  refine sumN_congr fun j hj => ?_
  have h1 := Int.emod_add_mul_ediv (s * (n : Int) + b) d
  generalize (s * (n : Int) + b) % d = r at *
  generalize (s * (n : Int) + b) / d = m at *
  have e : (((m.toNat - 1 - j : Nat) : Int)) = m - 1 - (j : Int) := by omega
  rw [e, show d * (j : Int) + r = (b - (m - 1 - (j : Int) + 1) * d) + s * (n : Int) by grind, Int.add_mul_ediv_left _ _ (by omega)]
  omega
theorem fs_zero {d s b : Int} {n : Nat} (hs : 0 ≤ s) (hb : 0 ≤ b) (h : s * (n : Int) + b < d) : fs n d s b = 0 := by
  refine sumN_zero fun k hk => Int.ediv_eq_zero_of_lt (Int.add_nonneg (Int.mul_nonneg hs (by omega)) hb) ?_
  have := Int.mul_le_mul_of_nonneg_left (show (k : Int) ≤ (n : Int) by omega) hs
  omega
theorem fs_stepI {n d : Int} (s b : Int) (hn : 0 ≤ n) (hd : 0 < d) : fs n.toNat d s b = n * (n - 1) / 2 * (s / d) + n * (b / d) + fs n.toNat d (s % d) (b % d) := by
  have e : ((n.toNat : Nat) : Int) = n := by omega
  have := fs_red n.toNat s b hd
  rw [e] at this
  exact this
theorem fs_flipI {n d s b : Int} (hn : 0 ≤ n) (hd : 0 < d) (hs : 0 < s) (hb : 0 ≤ b ∧ b < d) : fs n.toNat d s b = fs ((s * n + b) / d).toNat s d ((s * n + b) % d) := by
  have e : ((n.toNat : Nat) : Int) = n := by omega
  have := fs_flip (n := n.toNat) hd hs hb
  rw [e] at this
  exact this
theorem fs_zeroI {n d s b : Int} (hn : 0 ≤ n) (hs : 0 ≤ s) (hb : 0 ≤ b) (h : s * n + b < d) : fs n.toNat d s b = 0 := fs_zero hs hb (by rw [show ((n.toNat : Nat) : Int) = n by omega]; exact h)
theorem abs_sumN {f : Nat → Int} {M : Nat} : ∀ {n : Nat}, (∀ i, i < n → (f i).natAbs ≤ M) → (sumN n f).natAbs ≤ n * M
  | 0, _ => by show (0 : Int).natAbs ≤ _; simp
  | n + 1, h => by
    have h1 := abs_sumN (n := n) fun i hi => h i (by omega)
    have h2 := h n (by omega)
    have h3 := Int.natAbs_add_le (sumN n f) (f n)
    rw [Nat.add_mul, Nat.one_mul]
    show (sumN n f + f n).natAbs ≤ _
    omega
theorem bd_sumN {f : Nat → Int} {n m k : Nat} (h : ∀ i, i < n → Bd m (f i)) (hn : n ≤ 2 ^ k) : Bd (m + k) (sumN n f) := by
  have h1 := abs_sumN (f := f) (M := 2 ^ m - 1) (n := n) fun i hi => by
    have := h i hi
    unfold Bd at this
    omega
  have p : 0 < 2 ^ m := Nat.pow_pos (by decide)
  have p2 : 0 < 2 ^ k := Nat.pow_pos (by decide)
  have h2 : n * (2 ^ m - 1) ≤ 2 ^ k * (2 ^ m - 1) := Nat.mul_le_mul_right _ hn
  have h3 : 2 ^ k * (2 ^ m - 1) < 2 ^ k * 2 ^ m := (Nat.mul_lt_mul_left p2).mpr (by omega)
  unfold Bd
  rw [Nat.pow_add, Nat.mul_comm]
  omega
theorem bd_fs {n d s b : Int} {k m : Nat} (hn : 0 ≤ n) (bn : Bd k n) (bs : Bd m s) (bb : Bd (k + m) b) : Bd (m + k + k + 1) (fs n.toNat d s b) := by
  refine (bd_sumN (m := m + k + 1) (k := k) (fun i hi => ?_) (by unfold Bd at bn; omega)).up (by omega)
  have bi : Bd k (i : Int) := by unfold Bd at *; omega
  exact ((bs.mul bi).add bb).div.up (by omega)
structure FsI (T t n d s b : Int) : Prop where
  e : t + fs n.toNat d s b = T
  n0 : 0 ≤ n
  d0 : 0 < d
  bt : Bd 320 t
  bn : Bd 102 n
  bd : Bd 102 d
  bs : Bd 102 s
  bb : Bd 204 b
theorem FsI.start {n d s b : Int} (n0 : 0 ≤ n) (d0 : 0 < d) (h : Bd 102 n ∧ Bd 102 d ∧ Bd 102 s ∧ Bd 204 b) : FsI (fs n.toNat d s b) 0 n d s b :=
  ⟨Int.zero_add _, n0, d0, by unfold Bd; decide +kernel, h.1, h.2.1, h.2.2.1, h.2.2.2⟩
theorem FsI.fin {T t n d s b : Int} (h : FsI T t n d s b) (g : s % d * n + b % d < d) : t + (n * (n - 1) / 2 * (s / d) + n * (b / d)) = T := by
  have e := h.e
  rw [fs_stepI s b h.n0 h.d0, fs_zeroI h.n0 (Int.emod_nonneg _ (by have := h.d0; omega)) (Int.emod_nonneg _ (by have := h.d0; omega)) g] at e
  omega
theorem FsI.pos {T t n d s b : Int} (h : FsI T t n d s b) (g : ¬ s % d * n + b % d < d) : 0 < s % d := by
  have d0 := h.d0
  have n0 := Int.emod_nonneg s (show d ≠ 0 by omega)
  have n1 := Int.emod_lt_of_pos b d0
  rcases Int.lt_or_eq_of_le n0 with z | z
  · exact z
  · rw [← z, Int.zero_mul] at g; omega
theorem FsI.step {T t n d s b : Int} (bT : Bd 315 T) (h : FsI T t n d s b) (g : ¬ s % d * n + b % d < d) : FsI T (t + (n * (n - 1) / 2 * (s / d) + n * (b / d))) ((s % d * n + b % d) / d) (s % d) d ((s % d * n + b % d) % d) ∧ s % d < d := by
  have d0 := h.d0
  have n0 := h.n0
  have hp := h.pos g
  have h1 := Int.emod_lt_of_pos s d0
  have h2 := Int.emod_nonneg b (show d ≠ 0 by omega)
  have h3 := Int.emod_lt_of_pos b d0
  have e := h.e
  rw [fs_stepI s b n0 d0] at e
  have e2 := fs_flipI n0 d0 hp ⟨h2, h3⟩
  have m0 : 0 ≤ s % d * n := Int.mul_nonneg (by omega) n0
  have t0 : 0 ≤ (s % d * n + b % d) / d := Int.ediv_nonneg (by omega) (by omega)
  have t1 : (s % d * n + b % d) / d ≤ n := by
    refine Int.lt_add_one_iff.mp ((Int.ediv_lt_iff_lt_mul d0).mpr ?_)
    have := Int.mul_le_mul_of_nonneg_right (show s % d ≤ d - 1 by omega) n0
    rw [Int.add_mul, Int.one_mul, Int.mul_comm n d]
    rw [Int.sub_mul, Int.one_mul] at this
    omega
  have bs1 : Bd 102 (s % d) := Bd.mod h.bd d0
  have bb1 : Bd 204 (b % d) := (Bd.mod h.bd d0).up (by decide)
  have bf : Bd 310 (fs n.toNat d (s % d) (b % d)) := (bd_fs n0 h.bn bs1 bb1).up (by decide)
  refine ⟨⟨by rw [← e2]; omega, t0, hp, ?_, Bd.of_le t0 t1 h.bn, bs1, h.bd, (Bd.mod h.bd d0).up (by decide)⟩, h1⟩
  have : t + (n * (n - 1) / 2 * (s / d) + n * (b / d)) = T - fs n.toNat d (s % d) (b % d) := by omega
  rw [this]
  exact (bT.sub bf).up (by decide)

end Tp
namespace Tp
open PySem PySem.Spec PyProof.Rows L2 DL
/-! ### rests of a row -/
instance (p q m n : Int) : Decidable (isR p q m n) := by unfold isR; infer_instance
instance (p q m n : Int) : Decidable (isC p q m n) := by unfold isC; infer_instance
end Tp
namespace Tp
open PySem PySem.Spec PyProof.Rows L2 DL
/-! ### counting rests -/
def octP (p Q h m n : Int) : Prop := p * absI m + Q * absI n ≤ h ∧ Q * absI m + p * absI n ≤ h
instance (p Q h m n : Int) : Decidable (octP p Q h m n) := by unfold octP; infer_instance
theorem tn_abs {p q k : Int} (h : Tn p q k) : 0 ≤ absI q ∧ absI q < p := by
  have := h.q1
  have := h.q2
  unfold absI
  split <;> omega
end Tp
namespace Tp
open PySem PySem.Spec PyProof.Rows L2 DL
end Tp
namespace Tp
open PySem PySem.Spec PyProof.Rows L2 DL
/-! ### pairs of a row -/
def isH (c v : Int) : Prop := -c < 2 * v ∧ 2 * v < c
instance (c v : Int) : Decidable (isH c v) := by unfold isH; infer_instance
/-- the condition that a pixel and the one beside it have one image -/
def meetO (p q dx dy X Y : Int) : Prop := isH (cc p q) (X + ((p * p - q * q) * dx - 2 * p * q * dy)) ∧ isH (cc p q) (Y + ((p * p - q * q) * dy + 2 * p * q * dx))
instance (p q dx dy X Y : Int) : Decidable (meetO p q dx dy X Y) := by unfold meetO; infer_instance
end Tp
namespace Tp
open PySem PySem.Spec PyProof.Rows L2 DL
/-! ### places of a row and what comes to them -/
end Tp
namespace Tp
open PySem PySem.Spec PyProof.Rows L2 DL
/-! ### k13 -/
end Tp
namespace Tp
open PySem PySem.Spec PyProof.Rows L2 DL
/-! ### kinds of pixels -/
def metR (p q : Int) (t : Int × Int) : Prop := meetO p q 1 0 (p * t.1 - q * t.2) (p * t.2 + q * t.1) ∨ meetO p q (-1) 0 (p * t.1 - q * t.2) (p * t.2 + q * t.1) ∨ meetO p q 0 1 (p * t.1 - q * t.2) (p * t.2 + q * t.1) ∨ meetO p q 0 (-1) (p * t.1 - q * t.2) (p * t.2 + q * t.1)
instance (p q : Int) (t : Int × Int) : Decidable (metR p q t) := by unfold metR; infer_instance
end Tp
namespace Tp
open PySem PySem.Spec PyProof.Rows L2 DL
/-! ### mirrored and turned by a quarter -/
end Tp
namespace Tp
open PySem PySem.Spec PyProof.Rows L2 DL
/-! ### all rests, row by row -/
end Tp
namespace Tp
open PySem PySem.Spec PyProof.Rows L2 DL
end Tp
namespace Tp
open PySem PySem.Spec PyProof.Rows L2 DL
/-! ### a row as a whole -/
end Tp
namespace Tp
open PySem PySem.Spec PyProof.Rows L2 DL
/-! ### k10 -/
end Tp
namespace Tp
open PySem PySem.Spec PyProof.Rows L2 DL
/-! ### greatest misses -/
/-- the ends of a row, as the law takes them -/
def lawLo (p q m : Int) : Int × Int := (0 - ((p * p + q * q) / 2 + q * m) / p, if 0 < q then 0 - ((p * p + q * q) / 2 - p * m) / q else 0 - p)
def lawHi (p q m : Int) : Int × Int := (((p * p + q * q) / 2 - q * m) / p, if 0 < q then ((p * p + q * q) / 2 + p * m) / q else p)
end Tp
namespace Tp
open PySem PySem.Spec PyProof.Rows L2 DL
/-! ### greatest misses: the program's list, the law's rows -/
/-- the law's rows -/
def loI (p q m : Int) : Int := max (lawLo p q m).1 (lawLo p q m).2
def hiI (p q m : Int) : Int := min (lawHi p q m).1 (lawHi p q m).2
def rowC (p q m : Int) : Prop := loI p q m ≤ hiI p q m ∧ (0 < q ∨ absI (p * m) ≤ (p * p + q * q) / 2)
instance (p q m : Int) : Decidable (rowC p q m) := by unfold rowC; infer_instance
theorem absI_sq27 (q : Int) : absI q * absI q = q * q := by
  unfold absI
  split
  · exact Int.neg_mul_neg q q
  · rfl
end Tp
namespace Tp
open PySem PySem.Spec PyProof.Rows L2 DL
/-! ### misses by rests -/
end Tp
namespace Tp
open PySem PySem.Spec PyProof.Rows L2 DL
/-! ### a loss told; numbers of no loss -/
theorem eqB_t3 (a b c d e f : Int) : eqB (.tup [.int a, .int b, .int c]) (.tup [.int d, .int e, .int f]) = (decide (a = d) && (decide (b = e) && decide (c = f))) := by
  unfold eqB
  simp [toPy, toPyL, PyData.eqv, PyData.eqvAll] <;> rfl
theorem eq_t3 {a b c d e f : Int} {S : Sto} {Q : Bool → Sto → Prop} (q : ∀ v : Bool, (v = true ↔ a = d ∧ b = e ∧ c = f) → Q v S) : eqP (.tup [.int a, .int b, .int c]) (.tup [.int d, .int e, .int f]) S Q := by
  refine eq_tup ?_
  exact q _ (by rw [eqB_t3, Bool.and_eq_true, Bool.and_eq_true, decide_eq_true_eq, decide_eq_true_eq, decide_eq_true_eq])
end Tp
namespace Tp
open PySem PySem.Spec PyProof.Rows L2 DL
/-! ### turns whose p may be a little too great -/
structure Tw (p q k : Int) : Prop where
  p1 : 1 ≤ p
  p2 : p ≤ 1100000000000000
  q1 : -p < q
  q2 : q < p
  g : Nat.gcd p.natAbs q.natAbs = 1
  o : (p + q) % 2 = 1
  k1 : 0 ≤ k
  k2 : k ≤ 3
theorem Tw.bp {p q k : Int} (h : Tw p q k) : Bd 50 p := by
  have := h.p1
  have := h.p2
  unfold Bd
  omega
theorem Tw.bq {p q k : Int} (h : Tw p q k) : Bd 50 q := by
  have := h.p1
  have := h.p2
  have := h.q1
  have := h.q2
  unfold Bd
  omega
theorem Tw.zero {p q k : Int} (h : Tw p q k) : Tw p q 0 := ⟨h.p1, h.p2, h.q1, h.q2, h.g, h.o, by decide, by decide⟩
theorem Tn.w {p q k : Int} (h : Tn p q k) : Tw p q k := ⟨h.p1, by have := h.p2; omega, h.q1, h.q2, h.g, h.o, h.k1, h.k2⟩
theorem Tw.n {p q k : Int} (h : Tw p q k) (hp : p ≤ 1000000000000000) : Tn p q k := ⟨h.p1, hp, h.q1, h.q2, h.g, h.o, h.k1, h.k2⟩
end Tp
namespace Tp
open PySem PySem.Spec PyProof.Rows L2 DL
/-! ### joined turns -/
structure Tv (p q k : Int) : Prop where
  p1 : 1 ≤ p
  p2 : p ≤ 2535301200456458802993406410752
  q1 : -p < q
  q2 : q < p
  g : Nat.gcd p.natAbs q.natAbs = 1
  o : (p + q) % 2 = 1
  k1 : 0 ≤ k
  k2 : k ≤ 3
theorem Tv.bp {p q k : Int} (h : Tv p q k) : Bd 102 p := by
  have := h.p1
  have := h.p2
  unfold Bd
  omega
theorem Tv.bq {p q k : Int} (h : Tv p q k) : Bd 102 q := by
  have := h.p1
  have := h.p2
  have := h.q1
  have := h.q2
  unfold Bd
  omega
theorem Tv.zero {p q k : Int} (h : Tv p q k) : Tv p q 0 := ⟨h.p1, h.p2, h.q1, h.q2, h.g, h.o, by decide, by decide⟩
theorem cc_oddV {p q k : Int} (h : Tv p q k) : cc p q % 2 = 1 := by
  obtain ⟨t, ht⟩ : ∃ t, p + q = 2 * t + 1 := ⟨(p + q) / 2, by have := h.o; omega⟩
  have e : cc p q = 2 * (2 * t * t + 2 * t - 2 * t * q - q + q * q) + 1 := by
    have : p = 2 * t + 1 - q := by omega
    subst this
    unfold cc
    grind
  omega
theorem co_acV {p q k : Int} (h : Tv p q k) : ∃ s t : Int, s * (p * p - q * q) + t * cc p q = 1 := by
  obtain ⟨s, t, b⟩ := bez h.g
  obtain ⟨j, hj⟩ : ∃ j, cc p q = 2 * j + 1 := ⟨cc p q / 2, by have := cc_oddV h; omega⟩
  obtain ⟨α, hα⟩ : ∃ α, α = s * s * s * p + 3 * s * s * t * q := ⟨_, rfl⟩
  obtain ⟨β, hβ⟩ : ∃ β, β = 3 * s * t * t * p + t * t * t * q := ⟨_, rfl⟩
  have e : p * p * α + q * q * β = 1 := by
    have : p * p * α + q * q * β = (s * p + t * q) * (s * p + t * q) * (s * p + t * q) := by rw [hα, hβ]; grind
    rw [this, b] <;> rfl
  refine ⟨-j * (α - β), 1 - j * (α + β), ?_⟩
  have e2 : -j * (α - β) * (p * p - q * q) + (1 - j * (α + β)) * cc p q = cc p q - 2 * j * (p * p * α + q * q * β) := by unfold cc; grind
  rw [e2, e, hj]
  omega
theorem co_abV {p q k : Int} (h : Tv p q k) : ∃ s t : Int, s * (p * p - q * q) + t * (p * q + q * p) = 1 := by
  obtain ⟨s, t, e⟩ := co_acV h
  refine ⟨s * s * (p * p - q * q) + 2 * s * t * cc p q + t * t * (p * p - q * q), t * t * (p * q + q * p), ?_⟩
  have c2 : cc p q * cc p q = (p * p - q * q) * (p * p - q * q) + (p * q + q * p) * (p * q + q * p) := by unfold cc; grind
  generalize p * p - q * q = a at *
  generalize p * q + q * p = b at *
  generalize cc p q = c at *
  have : (s * s * a + 2 * s * t * c + t * t * a) * a + t * t * b * b = (s * a + t * c) * (s * a + t * c) + t * t * (a * a + b * b - c * c) := by grind
  rw [this, e, c2]
  grind
theorem gcd_lgV {p q k : Int} (h : Tv p q k) : Nat.gcd (lgA p q k).natAbs (lgB p q k).natAbs = 1 := by
  obtain ⟨s, t, e⟩ := co_abV h
  unfold lgA lgB
  generalize p * p - q * q = a at *
  generalize p * q + q * p = b at *
  generalize k.toNat = j
  match j with
  | 0 => exact gcd_of (s := s) (t := t) e
  | 1 => exact gcd_of (s := -t) (t := s) (by show -t * -b + s * a = 1; grind)
  | 2 => exact gcd_of (s := -s) (t := -t) (by show -s * -a + -t * -b = 1; grind)
  | _ + 3 => exact gcd_of (s := t) (t := -s) (by show t * b + -s * -a = 1; grind)
theorem gcd_mlgV {p q k m : Int} (h : Tv p q k) (hm : 0 ≤ m) : ((Nat.gcd (m * lgA p q k).natAbs (m * lgB p q k).natAbs : Nat) : Int) = m := by
  rw [Int.natAbs_mul, Int.natAbs_mul, Nat.gcd_mul_left, gcd_lgV h, Nat.mul_one]
  omega
theorem go_onV {p q : Int} (h : Tv p q 0) (j : Nat) (hj : j < 4) : (rtY j (p * p - q * q) (p * q + q * p) % 2 = 1 ∨ rtX j (p * p - q * q) (p * q + q * p) < 0) ↔ j ≠ 0 := by
  have hp := h.p1
  have a1 := h.q1
  have a2 := h.q2
  have a0 : 0 < p * p - q * q := by
    have : p * p - q * q = (p - q) * (p + q) := by grind
    rw [this]
    exact Int.mul_pos (by omega) (by omega)
  have ao : (p * p - q * q) % 2 = 1 := by
    have := cc_oddV h
    unfold cc at this
    have e : p * p - q * q = p * p + q * q - 2 * (q * q) := by omega
    omega
  have bo : (p * q + q * p) % 2 = 0 := by
    have : p * q + q * p = 2 * (p * q) := by grind
    omega
  generalize p * p - q * q = a at *
  generalize p * q + q * p = b at *
  rcases (by omega : j = 0 ∨ j = 1 ∨ j = 2 ∨ j = 3) with e | e | e | e <;> subst e <;> simp only [rtX, rtY] <;> omega
theorem sq_root {x n : Int} (h : x * x ≤ n * n) (hn : 0 ≤ n := by decide) : x.natAbs ≤ n.natAbs := by
  rcases Nat.lt_or_ge n.natAbs x.natAbs with z | z
  · have m := Nat.mul_lt_mul_of_lt_of_lt z z
    rw [← Int.natAbs_mul, ← Int.natAbs_mul] at m
    have a := sq_nn x
    have b := sq_nn n
    omega
  · exact z
theorem jn_exC {p q k r s l : Int} (h : Tn p q k) (h' : Tn r s l) (hb : cc p q * cc r s ≤ 1000000000000000 * 1000000000000000) : ∃ a b m, Jn p q k r s l a b m := by
  obtain ⟨P, hP⟩ : ∃ P, P = p * r - q * s := ⟨_, rfl⟩
  obtain ⟨R, hR⟩ : ∃ R, R = p * s + q * r := ⟨_, rfl⟩
  have hcc : P * P + R * R = cc p q * cc r s := by rw [hP, hR]; unfold cc; grind
  have odd : (P * P + R * R) % 2 = 1 := by
    rw [hcc, Int.mul_emod, cc_odd h, cc_odd h'] <;> rfl
  obtain ⟨g, hg⟩ : ∃ g : Nat, g = Nat.gcd P.natAbs R.natAbs := ⟨_, rfl⟩
  have d1 : (g : Int) ∣ P := by rw [hg]; exact PySem.W.mg_dvd_left P R
  have d2 : (g : Int) ∣ R := by rw [hg]; exact PySem.W.mg_dvd_right P R
  obtain ⟨x, hx⟩ := d1
  obtain ⟨y, hy⟩ := d2
  have g0 : 0 < g := by
    rcases Nat.eq_zero_or_pos g with z | z
    · rw [z] at hx hy
      have z1 : P = 0 := by rw [hx]; exact Int.zero_mul _
      have z2 : R = 0 := by rw [hy]; exact Int.zero_mul _
      rw [z1, z2] at odd
      exact absurd odd (by decide)
    · exact z
  have co : Nat.gcd x.natAbs y.natAbs = 1 := by
    have : g * Nat.gcd x.natAbs y.natAbs = g := by
      rw [← Nat.gcd_mul_left]
      have e1 : g * x.natAbs = P.natAbs := by rw [hx, Int.natAbs_mul, Int.natAbs_natCast]
      have e2 : g * y.natAbs = R.natAbs := by rw [hy, Int.natAbs_mul, Int.natAbs_natCast]
      rw [e1, e2, ← hg]
    exact Nat.eq_of_mul_eq_mul_left g0 (by omega)
  have oxy : (x + y) % 2 = 1 := by
    refine sum_sq_odd ?_
    have e : P * P + R * R = (g : Int) * g * (x * x + y * y) := by rw [hx, hy]; grind
    rw [e] at odd
    rcases Int.emod_two_eq (x * x + y * y) with z | z
    · rw [Int.mul_emod, z, Int.mul_zero] at odd
      exact absurd odd (by decide)
    · exact z
  have bP := sq_root (show P * P ≤ 1000000000000000 * 1000000000000000 by have := sq_nn R; omega)
  have bR := sq_root (show R * R ≤ 1000000000000000 * 1000000000000000 by have := sq_nn P; omega)
  have xb : x.natAbs ≤ P.natAbs := by rw [hx, Int.natAbs_mul, Int.natAbs_natCast]; exact Nat.le_mul_of_pos_left _ g0
  have yb : y.natAbs ≤ R.natAbs := by rw [hy, Int.natAbs_mul, Int.natAbs_natCast]; exact Nat.le_mul_of_pos_left _ g0
  have ne : x.natAbs ≠ y.natAbs := fun z => by
    rw [z, Nat.gcd_self] at co
    rcases Int.natAbs_eq x with e1 | e1 <;> rcases Int.natAbs_eq y with e2 | e2 <;> omega
  have cy : Nat.gcd y.natAbs x.natAbs = 1 := by rw [Nat.gcd_comm]; exact co
  have mk : ∀ j : Nat, j < 4 → ∀ a b : Int, 1 ≤ a → a ≤ 1000000000000000 → -a < b → b < a → Nat.gcd a.natAbs b.natAbs = 1 → (a + b) % 2 = 1 → x = rtX j a b → y = rtY j a b → ∃ a b m, Jn p q k r s l a b m := fun j hj a b c1 c2 c3 c4 c5 c6 ex ey =>
    ⟨a, b, (k + l + 2 * (j : Int)) % 4, ⟨c1, c2, c3, c4, c5, c6, by omega, by omega⟩, g, j, by omega, hj, by rw [← hP, hx, ex], by rw [← hR, hy, ey], rfl⟩
  rcases Nat.lt_or_ge y.natAbs x.natAbs with z | z
  · rcases Int.le_total 0 x with e | e
    · exact mk 0 (by decide) x y (by omega) (by omega) (by omega) (by omega) co oxy rfl rfl
    · exact mk 2 (by decide) (-x) (-y) (by omega) (by omega) (by omega) (by omega) (by rw [Int.natAbs_neg, Int.natAbs_neg]; exact co) (by omega) (by show x = - -x; omega) (by show y = - -y; omega)
  · rcases Int.le_total 0 y with e | e
    · exact mk 1 (by decide) y (-x) (by omega) (by omega) (by omega) (by omega) (by rw [Int.natAbs_neg]; exact cy) (by omega) (by show x = - -x; omega) rfl
    · exact mk 3 (by decide) (-y) x (by omega) (by omega) (by omega) (by omega) (by rw [Int.natAbs_neg]; exact cy) (by omega) rfl (by show y = - -y; omega)
def Pj (P R K a b m : Int) : Prop := Tn a b m ∧ ∃ (g : Int) (j : Nat), 1 ≤ g ∧ j < 4 ∧ P = g * rtX j a b ∧ R = g * rtY j a b ∧ m = (K + 2 * (j : Int)) % 4
theorem jn_pj {p q k r s l a b m : Int} (J : Jn p q k r s l a b m) : Pj (p * r - q * s) (p * s + q * r) (k + l) a b m := ⟨J.t, J.ex⟩
theorem pj_uniq {P R K K' a b m c d n : Int} (h : Pj P R K a b m) (h' : Pj P R K' c d n) (e : K % 4 = K' % 4) : a = c ∧ b = d ∧ m = n := by
  obtain ⟨t, g, j, g1, hj, e1, e2, e3⟩ := h
  obtain ⟨t', f, i, f1, hi, o1, o2, o3⟩ := h'
  obtain ⟨w1, w2, w3⟩ := one_of t t' g1 f1 hj hi (e1.symm.trans o1) (e2.symm.trans o2)
  exact ⟨w2, w3, by omega⟩
theorem jn_cc {p q k r s l a b m : Int} (h : Tn p q k) (h' : Tn r s l) (J : Jn p q k r s l a b m) : cc a b ≤ cc p q * cc r s := by
  obtain ⟨g, g1, _, _, e⟩ := jn_legs h h' J
  have := Int.mul_le_mul_of_nonneg_right g1 (show 0 ≤ cc a b by have := cc_pos J.t; omega)
  omega
theorem cc_le {p q k N : Int} (h : Tn p q k) (hp : p ≤ N) : cc p q ≤ 2 * (N * N) := by
  have h1 := h.p1
  obtain ⟨hq0, hqp⟩ := tn_abs h
  have m1 : p * p ≤ N * N := Int.mul_le_mul hp hp (by omega) (by omega)
  have m2 : absI q * absI q ≤ N * N := Int.mul_le_mul (by omega) (by omega) hq0 (by omega)
  rw [absI_sq27] at m2
  unfold cc
  omega
def con_joinG : Con := fun ds S Q => ∃ p q k r s l a b m : Int, ds = [.tup [.int p, .int q, .int k], .tup [.int r, .int s, .int l]] ∧ Tn p q k ∧ Tn r s l ∧ Jn p q k r s l a b m ∧ Q (.tup [.int a, .int b, .int m]) S
def con_turnR (CT : Addr) : ConX := fun ds S Q R => ∃ a b c p q k m : Int, ds = [.tup [.int a, .int b, .int c]] ∧ (a = m * lgA p q k ∧ b = m * lgB p q k ∧ c = m * cc p q) ∧ Tv p q k ∧ 1 ≤ m ∧ Bd 60 m ∧ 1000000000000000 < p ∧ R ⟨.ref CT, some ("limit", .int 1000000000000000)⟩ S
theorem bd_lgA2 {p q : Int} {n : Nat} (k : Int) (h : Bd n p) (g : Bd n q) : Bd (n + n + 1) (lgA p q k) ∧ Bd (n + n + 1) (lgB p q k) := by
  unfold Tp.lgA Tp.lgB
  constructor
  · exact (Bd.rtX _ ((h.mul h).sub (g.mul g)) ((h.mul g).add (g.mul h))).up (by omega)
  · exact (Bd.rtY _ ((h.mul h).sub (g.mul g)) ((h.mul g).add (g.mul h))).up (by omega)
theorem isq_okV {i p : Int} (e : i = p * p) (b : Bd 210 (p * p)) : 0 ≤ i ∧ i.natAbs < 2 ^ 3000 := by
  rw [e]
  exact ⟨sq_nn p, Nat.lt_trans b (Nat.pow_lt_pow_right (by decide) (by decide))⟩
end Tp
namespace Tp
open PySem PySem.Spec PyProof.Rows L2 DL
/-! ### chains -/
abbrev Stp := Bool × Int × Int
def OkS (t : Stp) : Prop := 1 ≤ t.2.2 ∧ Bd 150 t.2.1 ∧ Bd 150 t.2.2
def led1 (t : Stp) (v : Int × Int) : Int × Int := if t.1 then (v.1 + nrr (t.2.1 * v.2) t.2.2, v.2) else (v.1, v.2 + nrr (t.2.1 * v.1) t.2.2)
def unl1 (t : Stp) (v : Int × Int) : Int × Int := if t.1 then (v.1 - nrr (t.2.1 * v.2) t.2.2, v.2) else (v.1, v.2 - nrr (t.2.1 * v.1) t.2.2)
def ledN (l : List Stp) (v : Int × Int) : Int × Int := l.foldl (fun v t => led1 t v) v
def unlN (l : List Stp) (v : Int × Int) : Int × Int := l.reverse.foldl (fun v t => unl1 t v) v
def BdP (n : Nat) (v : Int × Int) : Prop := Bd n v.1 ∧ Bd n v.2
theorem BdP.up {n m : Nat} {v : Int × Int} (h : BdP n v) (k : n ≤ m) : BdP m v := ⟨h.1.up k, h.2.up k⟩
/-! the chains that are drawn -/
def OkT (t : Stp) : Prop := 1 ≤ t.2.2 ∧ Bd 145 t.2.1 ∧ Bd 145 t.2.2
theorem OkT.s {t : Stp} (h : OkT t) : OkS t := ⟨h.1, h.2.1.up (by decide), h.2.2.up (by decide)⟩
/-! steps in lowest terms -/
def nz (t : Stp) : Bool := decide (t.2.1 ≠ 0)
theorem enuD_at {l : List D} {i : Nat} {d : D} (h : (enuD l)[i]? = some d) : ∃ x, l[i]? = some x ∧ d = .tup [.int (i : Int), x] := enuD_get h
theorem bt_list : bootBuiltins "list" = some (.type "list") := by rfl
theorem k_ll : kitB "list" "list" = some true := by decide +kernel
theorem sl_t31 {a b c : D} {S : Sto} {Q : D → Sto → Prop} (q : Q (.tup [b, c]) S) : slP (.tup [a, b, c]) (some 1) none S Q := ⟨by show ¬ ((1 : Nat) = 0 ∧ _); omega, q⟩
end Tp
namespace Tp
open PySem PySem.Spec PyProof.Rows L2 DL
/-! ### where chains part -/
theorem cut_from {l : List D} {n : Int} (h : 0 ≤ n) (h2 : n ≤ l.length) : DL.cutD l (some n) none = l.drop n.toNat := by
  unfold DL.cutD HT.sIx
  have e1 : ¬ n < 0 := by omega
  simp only [e1, if_false]
  rw [show min n.toNat l.length = n.toNat by omega]
  exact List.take_of_length_le (by rw [List.length_drop]; omega)
theorem de_addO {X : Cx} {a b : Expr} {en : DEnv} {S : Sto} {Q : D → Sto → Prop} {pos : Pos} (h : DE X a en S fun x S1 => DE X b en S1 fun y S2 => ∃ l m, x = .lst l ∧ y = .lst m ∧ l.length + m.length ≤ 100000 ∧ ∀ p, getS p S2 = none → Q (.raw (.ref p)) ((p, l ++ m) :: S2)) : DE X (.BinOp a .Add b pos) en S Q := by
  refine de_op op_catL (h.mono fun x S1 h1 => h1.mono fun y S2 h2 => ?_)
  intro H Hd vx vy Qv st rx ry k
  obtain ⟨l, m, rfl, rfl, hz, q⟩ := h2
  obtain ⟨p, xs, e1, e2, e3⟩ := rx
  obtain ⟨p', ys, f1, f2, f3⟩ := ry
  refine ⟨p, p', xs, ys, e1, f1, .of (st.sub _ _ e2), .of (st.sub _ _ f2), by rw [e3.length, f3.length]; exact sz5 hz, fun w hw => k _ _ ?_⟩
  obtain ⟨g, st'⟩ := st.laidO hw (e3.append f3)
  exact ⟨.raw (.ref w), (w, l ++ m) :: S2, Hd, Same.refl _, st', rfl, q w g⟩
instance (t : Stp) : Decidable (OkS t) := by unfold OkS Bd; infer_instance
end Tp
namespace Tp
open PySem PySem.Spec PyProof.Rows L2 DL
/-! ### how many unlike tuples -/
section
variable {X : Cx}
end
/-! ### chains done and undone -/
end Tp
namespace Tp
open PySem PySem.Spec PyProof.Rows L2 DL
/-! ### matrices of chains -/
abbrev Mt := Int × Int × Int × Int × Int
def ml (m : Mt) : List Int := [m.1, m.2.1, m.2.2.1, m.2.2.2.1, m.2.2.2.2]
def detM (m : Mt) : Int := m.1 * m.2.2.2.1 - m.2.1 * m.2.2.1
/-! common divisors -/
def foldG (ns : List Int) : Nat := ns.foldl (fun g n => Nat.gcd g n.natAbs) 0
def IsM (m : Mt) : Prop := 1 ≤ m.2.2.2.2 ∧ detM m = m.2.2.2.2 * m.2.2.2.2 ∧ foldG (ml m) = 1
/-! the way back, scaled, crossed -/
/-! pixels that are led without rounding -/
end Tp
namespace Tp
open PySem PySem.Spec PyProof.Rows L2 DL
def BdM (n : Nat) (m : Mt) : Prop := Bd n m.1 ∧ Bd n m.2.1 ∧ Bd n m.2.2.1 ∧ Bd n m.2.2.2.1 ∧ Bd n m.2.2.2.2
theorem BdM.up {n k : Nat} {m : Mt} (b : BdM n m) (h : n ≤ k) : BdM k m := ⟨b.1.up h, b.2.1.up h, b.2.2.1.up h, b.2.2.2.1.up h, b.2.2.2.2.up h⟩
end Tp
namespace Tp
open PySem PySem.Spec PyProof.Rows L2 DL
/-! ### fewest shears -/
instance (m : Mt) : Decidable (IsM m) := by unfold IsM; infer_instance
instance (n : Nat) (m : Mt) : Decidable (BdM n m) := by unfold BdM Bd; infer_instance
end Tp
namespace Tp
open PySem PySem.Spec PyProof.Rows L2 DL
/-! ### scales: each pixel to the nearest place -/
structure Sc (a b n : Int) : Prop where
  n1 : 1 ≤ n
  n2 : n ≤ 1000000000000000000000000000000
  a1 : -1000000000000000000000000000000 ≤ a
  a2 : a ≤ 1000000000000000000000000000000
  b1 : -1000000000000000000000000000000 ≤ b
  b2 : b ≤ 1000000000000000000000000000000
  s : n * n ≤ a * a + b * b
theorem bd_30 {x : Int} (h : -1000000000000000000000000000000 ≤ x ∧ x ≤ 1000000000000000000000000000000) : Bd 100 x := by unfold Bd; omega
theorem Sc.ba {a b n : Int} (h : Sc a b n) : Bd 100 a := bd_30 ⟨h.a1, h.a2⟩
theorem Sc.bb {a b n : Int} (h : Sc a b n) : Bd 100 b := bd_30 ⟨h.b1, h.b2⟩
theorem Sc.bn {a b n : Int} (h : Sc a b n) : Bd 100 n := bd_30 ⟨by have := h.n1; omega, h.n2⟩
theorem Sc.np {a b n : Int} (h : Sc a b n) : 0 < n := by have := h.n1; omega
def con_ledL : Con := fun ds S Q => ∃ a b c x y : Int, ds = [.tup [.int a, .int b, .int c], .tup [.int x, .int y]] ∧ (Bd 600 a ∧ Bd 600 b ∧ Bd 400 c ∧ 0 < c ∧ Bd 1400 x ∧ Bd 1400 y) ∧ Q (.tup [.int (nrr (a * x - b * y) c), .int (nrr (a * y + b * x) c)]) S
theorem sc_great {a b r : Int} (h1 : 0 ≤ a ∧ a < 10 ^ (Int.toNat 30)) (h2 : 0 ≤ b ∧ b < 10 ^ (Int.toNat 29)) (h3 : 0 ≤ r ∧ r < 9) : Sc (10 ^ (Int.toNat 30) - a) (10 ^ (Int.toNat 29) + b) (1 + r) := by
  have e1 : (10 : Int) ^ (Int.toNat 30) = 1000000000000000000000000000000 := by decide +kernel
  have e2 : (10 : Int) ^ (Int.toNat 29) = 100000000000000000000000000000 := by decide +kernel
  rw [e1] at h1 ⊢
  rw [e2] at h2 ⊢
  refine ⟨by omega, by omega, by omega, by omega, by omega, by omega, ?_⟩
  have s1 := sq_nn (1000000000000000000000000000000 - a)
  have s2 : 100000000000000000000000000000 * 100000000000000000000000000000 ≤ (100000000000000000000000000000 + b) * (100000000000000000000000000000 + b) := Int.mul_le_mul (by omega) (by omega) (by omega) (by omega)
  have s3 : (1 + r) * (1 + r) ≤ 9 * 9 := Int.mul_le_mul (by omega) (by omega) (by omega) (by omega)
  omega
end Tp
namespace Tp
open PySem PySem.Spec PyProof.Rows L2 DL
/-! ### three shears -/
def shC (p q : Int) (o : Bool) : List Stp := if o then [(true, -q, p), (false, 2 * p * q, p * p + q * q), (true, -q, p)] else [(false, q, p), (true, -(2 * p * q), p * p + q * q), (false, q, p)]
theorem shC_len (p q : Int) (o : Bool) : (shC p q o).length = 3 := by cases o <;> rfl
def rt2 (j : Nat) (v : Int × Int) : Int × Int := (rtX j v.1 v.2, rtY j v.1 v.2)
@[irreducible] def shV (p q k : Int) (o : Bool) (x y : Int) : Int × Int := rt2 k.toNat (ledN (shC p q o) (x, y))
@[irreducible] def usV (p q k : Int) (o : Bool) (x y : Int) : Int × Int := unlN (shC p q o) (rt2 (-k % 4).toNat (x, y))
theorem ix_qu {k : Int} {S : Sto} {Q : D → Sto → Prop} (h : 0 ≤ k ∧ k < 4) (q : Q (.tup [.int (rtX k.toNat 1 0), .int (rtY k.toNat 1 0)]) S) : ixP (.tup [.tup [.int 1, .int 0], .tup [.int 0, .int 1], .tup [.int (-1), .int 0], .tup [.int 0, .int (-1)]]) (.int k) S Q := by
  rcases four h with e | e | e | e <;> subst e <;> exact ix_t q rfl
theorem tn_one {r : Int} (h0 : 0 ≤ r) (h1 : r < 4) : Tn 1 0 r := ⟨by decide, by decide, by decide, by decide, by decide, by decide, h0, by omega⟩
end Tp
namespace Tp
open PySem PySem.Spec PyProof.Rows L2 DL
/-! ### ways -/
abbrev Trn := Int × Int × Int
def trD (t : Trn) : D := .tup [.int t.1, .int t.2.1, .int t.2.2]
def TnT (t : Trn) : Prop := Tn t.1 t.2.1 t.2.2
def KW (t : Trn) : Prop := TnT t ∧ keepsP t.1 t.2.1
def bkT (t : Trn) : Trn := (t.1, -t.2.1, -t.2.2 % 4)
def lgD (t : Trn) : D := .tup [.int (lgA t.1 t.2.1 t.2.2), .int (lgB t.1 t.2.1 t.2.2), .int (cc t.1 t.2.1)]
def im1 (t : Trn) (v : Int × Int) : Int × Int := (imX t.1 t.2.1 t.2.2 v.1 v.2, imY t.1 t.2.1 t.2.2 v.1 v.2)
def wkN (l : List Trn) (v : Int × Int) : Int × Int := l.foldl (fun v t => im1 t v) v
def wbN (l : List Trn) (v : Int × Int) : Int × Int := wkN (l.reverse.map bkT) v
theorem wkN_take {l : List Trn} {i : Nat} {t : Trn} (h : l[i]? = some t) (v : Int × Int) : wkN (l.take (i + 1)) v = im1 t (wkN (l.take i) v) := by
  unfold wkN
  rw [List.take_add_one, h, List.foldl_append]
  rfl
theorem wkN_all (l : List Trn) (v : Int × Int) {n : Nat} (h : n = l.length) : wkN (l.take n) v = wkN l v := by
  subst h
  rw [List.take_of_length_le (Nat.le_refl _)]
theorem tnT_bk {t : Trn} (h : TnT t) : TnT (bkT t) := tn_bk2 h
theorem kw_bk {t : Trn} (h : KW t) : KW (bkT t) := by
  refine ⟨tnT_bk h.1, ?_⟩
  have h2 : t.1 = (if t.2.1 < 0 then -t.2.1 else t.2.1) + 1 := h.2
  show t.1 = (if -t.2.1 < 0 then - -t.2.1 else -t.2.1) + 1
  split at h2 <;> split <;> omega
/-! how far an image may lie -/
theorem mul_abs_le {a x c : Int} {M : Int} (h : -c ≤ a ∧ a ≤ c) (hx : -M ≤ x ∧ x ≤ M) (hc : 0 ≤ c) (hM : 0 ≤ M) : -(c * M) ≤ a * x ∧ a * x ≤ c * M := by
  have h1 := Int.mul_le_mul_of_nonneg_left hx.2 (show 0 ≤ c - a by omega)
  have h2 := Int.mul_le_mul_of_nonneg_left hx.1 (show 0 ≤ c - a by omega)
  have h3 := Int.mul_le_mul_of_nonneg_left hx.2 (show 0 ≤ c + a by omega)
  have h4 := Int.mul_le_mul_of_nonneg_left hx.1 (show 0 ≤ c + a by omega)
  have e1 : (c - a) * x = c * x - a * x := Int.sub_mul _ _ _
  have e2 : (c - a) * M = c * M - a * M := Int.sub_mul _ _ _
  have e3 : (c - a) * -M = -(c * M) + a * M := by grind
  have e4 : (c + a) * x = c * x + a * x := Int.add_mul _ _ _
  have e5 : (c + a) * M = c * M + a * M := Int.add_mul _ _ _
  have e6 : (c + a) * -M = -(c * M) - a * M := by grind
  omega
theorem lg_le {p q k : Int} (h : Tn p q k) : (-(cc p q) ≤ lgA p q k ∧ lgA p q k ≤ cc p q) ∧ -(cc p q) ≤ lgB p q k ∧ lgB p q k ≤ cc p q := by
  have s1 := sq_nn p
  have s2 := sq_nn q
  have s3 : 0 ≤ (p - q) * (p - q) := sq_nn _
  have s4 : 0 ≤ (p + q) * (p + q) := sq_nn _
  have e3 : (p - q) * (p - q) = p * p + q * q - (p * q + q * p) := by grind
  have e4 : (p + q) * (p + q) = p * p + q * q + (p * q + q * p) := by grind
  have hk : 0 ≤ k ∧ k < 4 := ⟨h.k1, by have := h.k2; omega⟩
  unfold lgA lgB cc
  rcases four hk with e | e | e | e <;> subst e <;> simp only [rtX, rtY, Int.toNat] <;> omega
theorem im_le {p q k : Int} (h : Tn p q k) {x y M : Int} (hx : -M ≤ x ∧ x ≤ M) (hy : -M ≤ y ∧ y ≤ M) (hM : 0 ≤ M) : (-(2 * M) ≤ imX p q k x y ∧ imX p q k x y ≤ 2 * M) ∧ -(2 * M) ≤ imY p q k x y ∧ imY p q k x y ≤ 2 * M := by
  obtain ⟨⟨n1, n2⟩, n3, n4⟩ := im_near h x y
  have hc := cc_pos h
  obtain ⟨a, b⟩ := lg_le h
  have m1 := mul_abs_le a hx (by omega) hM
  have m2 := mul_abs_le b hy (by omega) hM
  have m3 := mul_abs_le a hy (by omega) hM
  have m4 := mul_abs_le b hx (by omega) hM
  have eX : exX p q k x y = lgA p q k * x - lgB p q k * y := by unfold exX; rfl
  have eY : exY p q k x y = lgA p q k * y + lgB p q k * x := by unfold exY; rfl
  rw [eX] at n1 n2
  rw [eY] at n3 n4
  generalize imX p q k x y = r at *
  generalize imY p q k x y = s at *
  generalize cc p q = c at *
  have key : ∀ r : Int, -(c * (2 * (2 * M) + 1)) < 2 * (c * r) → 2 * (c * r) < c * (2 * (2 * M) + 1) → -(2 * M) ≤ r ∧ r ≤ 2 * M := fun r h1 h2 => by
    constructor
    · rcases Int.lt_or_le r (-(2 * M)) with z | z
      · have := Int.mul_le_mul_of_nonneg_left (show r ≤ -(2 * M) - 1 by omega) (show 0 ≤ c by omega)
        have e1 : c * (-(2 * M) - 1) = -(2 * (c * M)) - c := by grind
        have e2 : c * (2 * (2 * M) + 1) = 4 * (c * M) + c := by grind
        omega
      · exact z
    · rcases Int.lt_or_le (2 * M) r with z | z
      · have := Int.mul_le_mul_of_nonneg_left (show 2 * M + 1 ≤ r by omega) (show 0 ≤ c by omega)
        have e1 : c * (2 * M + 1) = 2 * (c * M) + c := by grind
        have e2 : c * (2 * (2 * M) + 1) = 4 * (c * M) + c := by grind
        omega
      · exact z
  have e2 : c * (2 * (2 * M) + 1) = 4 * (c * M) + c := by grind
  exact ⟨key r (by omega) (by omega), key s (by omega) (by omega)⟩
theorem im_bd1 {t : Trn} (h : TnT t) {n : Nat} {v : Int × Int} (b : BdP n v) : BdP (n + 1) (im1 t v) := by
  obtain ⟨b1, b2⟩ := b
  have e : (2 : Nat) ^ (n + 1) = 2 * 2 ^ n := by rw [Nat.pow_succ, Nat.mul_comm]
  have hp : 0 < (2 : Nat) ^ n := Nat.pow_pos (by decide)
  unfold Bd at b1 b2
  obtain ⟨M, hM⟩ : ∃ M : Int, M = ((2 ^ n : Nat) : Int) - 1 := ⟨_, rfl⟩
  obtain ⟨r, s⟩ := im_le h (x := v.1) (y := v.2) (M := M) (by omega) (by omega) (by omega)
  unfold BdP Bd
  rw [e]
  constructor
  · show (imX t.1 t.2.1 t.2.2 v.1 v.2).natAbs < _
    omega
  · show (imY t.1 t.2.1 t.2.2 v.1 v.2).natAbs < _
    omega
theorem wk_bd {n : Nat} : ∀ {l : List Trn} {v : Int × Int}, (∀ t ∈ l, TnT t) → BdP n v → BdP (n + l.length) (wkN l v)
  | [], v, _, b => b
  | t :: l, v, h, b => by
    have := wk_bd (n := n + 1) (l := l) (fun s hs => h s (List.mem_cons_of_mem _ hs)) (im_bd1 (h t List.mem_cons_self) b)
    exact this.up (by rw [List.length_cons]; omega)
theorem wk_bdT {n m : Nat} {l : List Trn} {v : Int × Int} (h : ∀ t ∈ l, TnT t) (b : BdP n v) (i : Nat) (hl : l.length ≤ m) : BdP (n + m) (wkN (l.take i) v) :=
  (wk_bd (fun t ht => h t (List.mem_of_mem_take ht)) b).up (by rw [List.length_take]; omega)
theorem kw_tn {l : List Trn} (h : ∀ t ∈ l, KW t) : ∀ t ∈ l, TnT t := fun t ht => (h t ht).1
theorem kw_rev {l : List Trn} (h : ∀ t ∈ l, KW t) : ∀ t ∈ l.reverse.map bkT, KW t := fun t ht => by
  obtain ⟨s, hs, rfl⟩ := List.mem_map.mp ht
  exact kw_bk (h s (List.mem_reverse.mp hs))
theorem im_led (p q k x y : Int) : nrr (lgA p q k * x - lgB p q k * y) (cc p q) = imX p q k x y ∧ nrr (lgA p q k * y + lgB p q k * x) (cc p q) = imY p q k x y := by
  unfold imX imY exX exY
  exact ⟨rfl, rfl⟩
theorem tr_at {os : List Trn} {k : Nat} {d : D} (h : (os.map trD)[k]? = some d) : ∃ t, os[k]? = some t ∧ d = .tup [.int t.1, .int t.2.1, .int t.2.2] := by
  rw [List.getElem?_map] at h
  cases e : os[k]? with
  | none => rw [e] at h; cases h
  | some t => rw [e] at h; exact ⟨t, rfl, (Option.some.inj h).symm⟩
theorem lg_at {os : List Trn} {k : Nat} {d : D} (h : (os.map lgD)[k]? = some d) : ∃ t, os[k]? = some t ∧ d = .tup [.int (lgA t.1 t.2.1 t.2.2), .int (lgB t.1 t.2.1 t.2.2), .int (cc t.1 t.2.1)] := by
  rw [List.getElem?_map] at h
  cases e : os[k]? with
  | none => rw [e] at h; cases h
  | some t => rw [e] at h; exact ⟨t, rfl, (Option.some.inj h).symm⟩
def con_ledal : Con := fun ds S Q => ∃ (l : List Trn) (x y : Int), ds = [.lst (l.map lgD), .tup [.int x, .int y]] ∧ (∀ t ∈ l, TnT t) ∧ l.length ≤ 130 ∧ (Bd 400 x ∧ Bd 400 y) ∧ Q (.tup [.int (wkN l (x, y)).1, .int (wkN l (x, y)).2]) S
def con_walked : Con := fun ds S Q => ∃ (l : List Trn) (x y : Int), ds = [.lst (l.map trD), .tup [.int x, .int y]] ∧ (∀ t ∈ l, KW t) ∧ l.length ≤ 120 ∧ (Bd 400 x ∧ Bd 400 y) ∧ Q (.tup [.int (wkN l (x, y)).1, .int (wkN l (x, y)).2]) S
def con_walkedb : Con := fun ds S Q => ∃ (l : List Trn) (x y : Int), ds = [.lst (l.map trD), .tup [.int x, .int y]] ∧ (∀ t ∈ l, KW t) ∧ l.length ≤ 120 ∧ (Bd 400 x ∧ Bd 400 y) ∧ Q (.tup [.int (wbN l (x, y)).1, .int (wbN l (x, y)).2]) S
theorem keep_mk {r k : Int} (h0 : 0 ≤ r) (h1 : r < 1000000000000000) (hk : 0 ≤ k ∧ k < 4) : KW (r + 1, r, k) ∧ KW (r + 1, 0 - r, k) := by
  have e := spin_end (p := r + 1) (by omega)
  rw [show r + 1 - 1 = r by omega] at e
  obtain ⟨t1, t2⟩ := tn_mk (p := r + 1) (q := r) (by omega) (by omega) h0 (by omega) e.1 e.2 hk
  refine ⟨⟨t1, ?_⟩, ⟨?_, ?_⟩⟩
  · show r + 1 = (if r < 0 then -r else r) + 1
    split <;> omega
  · show Tn (r + 1) (0 - r) k
    rw [Int.zero_sub]
    exact t2
  · show r + 1 = (if 0 - r < 0 then -(0 - r) else 0 - r) + 1
    split <;> omega
end Tp
namespace Tp
open PySem PySem.Spec PyProof.Rows L2 DL
/-! ### six-cornered turns -/
structure Sx (p q k : Int) : Prop where
  p1 : -1000000000000000 ≤ p
  p2 : p ≤ 1000000000000000
  q1 : -1000000000000000 ≤ q
  q2 : q ≤ 1000000000000000
  d1 : -1000000000000000 ≤ p - q
  d2 : p - q ≤ 1000000000000000
  o : (p + q) % 3 ≠ 0
  g : Nat.gcd p.natAbs q.natAbs = 1
  k1 : 0 ≤ k
  k2 : k ≤ 5
theorem Sx.bp {p q k : Int} (h : Sx p q k) : Bd 50 p := by have := h.p1; have := h.p2; unfold Bd; omega
theorem Sx.bq {p q k : Int} (h : Sx p q k) : Bd 50 q := by have := h.q1; have := h.q2; unfold Bd; omega
theorem Sx.b3 {p q k : Int} (h : Sx p q k) : Bd 3 k := by have := h.k1; have := h.k2; unfold Bd; omega
def r6X (k : Nat) (x y : Int) : Int := match k with | 0 => x | 1 => x - y | 2 => -y | 3 => -x | 4 => y - x | _ => y
def r6Y (k : Nat) (x y : Int) : Int := match k with | 0 => y | 1 => x | 2 => x - y | 3 => -y | 4 => -x | _ => y - x
theorem six {k : Int} (h : 0 ≤ k ∧ k ≤ 5) : k = 0 ∨ k = 1 ∨ k = 2 ∨ k = 3 ∨ k = 4 ∨ k = 5 := by omega
@[irreducible] def sz (p q : Int) : Int := p * p - p * q + q * q
theorem sz_eq (p q : Int) : sz p q = p * p - p * q + q * q := by unfold sz; rfl
def sqA (p q : Int) : Int := p * p - q * q
def sqB (p q : Int) : Int := p * q + q * p - q * q
@[irreducible] def spX (p q k x y : Int) : Int := r6X k.toNat (sqA p q * x - sqB p q * y) (sqA p q * y + sqB p q * x - sqB p q * y)
@[irreducible] def spY (p q k x y : Int) : Int := r6Y k.toNat (sqA p q * x - sqB p q * y) (sqA p q * y + sqB p q * x - sqB p q * y)
/-! the hexagon about (0, 0) -/
def HexC (c x y : Int) : Prop := (-c ≤ 2 * x - y ∧ 2 * x - y ≤ c) ∧ (-c ≤ 2 * y - x ∧ 2 * y - x ≤ c) ∧ -c ≤ x + y ∧ x + y ≤ c
def HexS (c x y : Int) : Prop := (-c < 2 * x - y ∧ 2 * x - y < c) ∧ (-c < 2 * y - x ∧ 2 * y - x < c) ∧ -c < x + y ∧ x + y < c
theorem HexC.r1 {c x y : Int} (h : HexC c x y) : HexC c (x - y) x := by unfold HexC at *; omega
theorem HexS.r1 {c x y : Int} (h : HexS c x y) : HexS c (x - y) x := by unfold HexS at *; omega
theorem HexS.neg {c x y : Int} (h : HexS c x y) : HexS c (-x) (-y) := by unfold HexS at *; omega
def mxI (f h : Int) : Int := if h > f then h else f
def mnI (f h : Int) : Int := if h < f then h else f
@[irreducible] def hexI (c X Y : Int) : Int × Int :=
  if 2 * mxI (X - c * (X / c)) (Y - c * (Y / c)) - mnI (X - c * (X / c)) (Y - c * (Y / c)) < c ∧ X - c * (X / c) + (Y - c * (Y / c)) < c then (X / c, Y / c)
  else if 2 * mnI (X - c * (X / c)) (Y - c * (Y / c)) > mxI (X - c * (X / c)) (Y - c * (Y / c)) then (X / c + 1, Y / c + 1)
  else if X - c * (X / c) > Y - c * (Y / c) then (X / c + 1, Y / c) else (X / c, Y / c + 1)
end Tp
namespace Tp
open PySem PySem.Spec PyProof.Rows L2 DL
/-! ### six-cornered images -/
theorem gcd_bez {p q s t : Int} (h : s * p + t * q = 1) : Nat.gcd p.natAbs q.natAbs = 1 := by
  have d1 : ((Nat.gcd p.natAbs q.natAbs : Nat) : Int) ∣ p := Int.ofNat_dvd_left.mpr (Nat.gcd_dvd_left _ _)
  have d2 : ((Nat.gcd p.natAbs q.natAbs : Nat) : Int) ∣ q := Int.ofNat_dvd_left.mpr (Nat.gcd_dvd_right _ _)
  have d3 : ((Nat.gcd p.natAbs q.natAbs : Nat) : Int) ∣ 1 := by
    rw [← h]
    exact Int.dvd_add (Int.dvd_mul_of_dvd_right d1) (Int.dvd_mul_of_dvd_right d2)
  have := Int.le_of_dvd (by decide) d3
  have g0 : Nat.gcd p.natAbs q.natAbs ≠ 0 := fun z => by
    rw [z] at d3
    have := Int.zero_dvd.mp d3
    cases this
  omega
@[irreducible] def siX (p q k x y : Int) : Int := (hexI (sz p q) (spX p q k x y) (spY p q k x y)).1
@[irreducible] def siY (p q k x y : Int) : Int := (hexI (sz p q) (spX p q k x y) (spY p q k x y)).2
/-! the sixths -/
theorem sx_rot {p q k : Int} (h : Sx p q k) (j : Int) : Sx p q ((k + j) % 6) := ⟨h.p1, h.p2, h.q1, h.q2, h.d1, h.d2, h.o, h.g, by omega, by omega⟩
/-! back -/
theorem sx_bk {p q k : Int} (h : Sx p q k) : Sx (p - q) (-q) (-k % 6) := by
  have := h.o
  have := h.p1
  have := h.p2
  have := h.q1
  have := h.q2
  have := h.d1
  have := h.d2
  obtain ⟨s, t, b⟩ := bez h.g
  exact ⟨by omega, by omega, by omega, by omega, by omega, by omega, by omega, gcd_bez (s := s) (t := -(s + t)) (by rw [← b]; grind), by omega, by omega⟩
/-! kin: u times a sixth -/
theorem sx_kin {p q k : Int} (h : Sx p q k) (j : Nat) (l : Int) (hl : 0 ≤ l ∧ l ≤ 5) : Sx (r6X j p q) (r6Y j p q) l := by
  have := h.o
  have := h.p1
  have := h.p2
  have := h.q1
  have := h.q2
  have := h.d1
  have := h.d2
  obtain ⟨s, t, b⟩ := bez h.g
  match j with
  | 0 => show Sx p q l; exact ⟨h.p1, h.p2, h.q1, h.q2, h.d1, h.d2, h.o, h.g, hl.1, hl.2⟩
  | 1 => exact ⟨by show _ ≤ p - q; omega, by show p - q ≤ _; omega, by show _ ≤ p; omega, by show p ≤ _; omega, by show _ ≤ p - q - p; omega, by show p - q - p ≤ _; omega, by show (p - q + p) % 3 ≠ 0; omega, gcd_bez (p := p - q) (q := p) (s := -t) (t := s + t) (by rw [← b]; grind), hl.1, hl.2⟩
  | 2 => exact ⟨by show _ ≤ -q; omega, by show -q ≤ _; omega, by show _ ≤ p - q; omega, by show p - q ≤ _; omega, by show _ ≤ -q - (p - q); omega, by show -q - (p - q) ≤ _; omega, by show (-q + (p - q)) % 3 ≠ 0; omega, gcd_bez (p := -q) (q := p - q) (s := -(s + t)) (t := s) (by rw [← b]; grind), hl.1, hl.2⟩
  | 3 => exact ⟨by show _ ≤ -p; omega, by show -p ≤ _; omega, by show _ ≤ -q; omega, by show -q ≤ _; omega, by show _ ≤ -p - -q; omega, by show -p - -q ≤ _; omega, by show (-p + -q) % 3 ≠ 0; omega, gcd_bez (p := -p) (q := -q) (s := -s) (t := -t) (by rw [← b]; grind), hl.1, hl.2⟩
  | 4 => exact ⟨by show _ ≤ q - p; omega, by show q - p ≤ _; omega, by show _ ≤ -p; omega, by show -p ≤ _; omega, by show _ ≤ q - p - -p; omega, by show q - p - -p ≤ _; omega, by show (q - p + -p) % 3 ≠ 0; omega, gcd_bez (p := q - p) (q := -p) (s := t) (t := -(s + t)) (by rw [← b]; grind), hl.1, hl.2⟩
  | _ + 5 => exact ⟨by show _ ≤ q; omega, by show q ≤ _; omega, by show _ ≤ q - p; omega, by show q - p ≤ _; omega, by show _ ≤ q - (q - p); omega, by show q - (q - p) ≤ _; omega, by show (q + (q - p)) % 3 ≠ 0; omega, gcd_bez (p := q) (q := q - p) (s := s + t) (t := -s) (by rw [← b]; grind), hl.1, hl.2⟩
end Tp
namespace Tp
open PySem PySem.Spec PyProof.Rows L2 DL
/-! ### a number without a common divisor is never far -/
/-! what the defs of six-cornered turns and the laws' helpers promise -/
theorem Sx.bA {p q k : Int} (h : Sx p q k) : Bd 110 (sqA p q) := by unfold sqA; exact ((h.bp.mul h.bp).sub (h.bq.mul h.bq)).up (by decide)
theorem Sx.bB {p q k : Int} (h : Sx p q k) : Bd 110 (sqB p q) := by unfold sqB; exact (((h.bp.mul h.bq).add (h.bq.mul h.bp)).sub (h.bq.mul h.bq)).up (by decide)
theorem Sx.bc {p q k : Int} (h : Sx p q k) : Bd 110 (sz p q) := by rw [sz_eq]; exact (((h.bp.mul h.bp).sub (h.bp.mul h.bq)).add (h.bq.mul h.bq)).up (by decide)
end Tp
namespace Tp
open PySem PySem.Spec PyProof.Rows L2 DL
/-! ### six-cornered turns: what is near -/
/-! moved pixels -/
end Tp
namespace Tp
open PySem PySem.Spec PyProof.Rows L2 DL
/-! ### six-cornered: the laws' own words -/
/-! nearest -/
end Tp
namespace Tp
open PySem PySem.Spec PyProof.Rows L2 DL
/-! ### scales: which classes meet -/
def cmT (a b n : Int) : Int := ((Nat.gcd ((Nat.gcd a.natAbs b.natAbs : Nat) : Int).natAbs n.natAbs : Nat) : Int)
def cmN (a b n : Int) : Int := ((Nat.gcd (n / cmT a b n).natAbs (a / cmT a b n * (a / cmT a b n) + b / cmT a b n * (b / cmT a b n)).natAbs : Nat) : Int)
theorem cmT_dvd (a b n : Int) : cmT a b n ∣ a ∧ cmT a b n ∣ b ∧ cmT a b n ∣ n := by
  unfold cmT
  have h1 : Nat.gcd ((Nat.gcd a.natAbs b.natAbs : Nat) : Int).natAbs n.natAbs ∣ Nat.gcd a.natAbs b.natAbs := Nat.gcd_dvd_left _ _
  refine ⟨Int.ofNat_dvd_left.mpr (Nat.dvd_trans h1 (Nat.gcd_dvd_left _ _)), Int.ofNat_dvd_left.mpr (Nat.dvd_trans h1 (Nat.gcd_dvd_right _ _)), Int.ofNat_dvd_left.mpr (Nat.gcd_dvd_right _ _)⟩
theorem cmT_pos {a b n : Int} (h : 1 ≤ n) : 1 ≤ cmT a b n := by
  unfold cmT
  have := Nat.gcd_pos_of_pos_right ((Nat.gcd a.natAbs b.natAbs : Nat) : Int).natAbs (show 0 < n.natAbs by omega)
  omega
/-- k: Y is k X, modulo N, for the multiples of a + b i -/
def IsK (a b n k : Int) : Prop := 0 ≤ k ∧ k < cmN a b n ∧ (b / cmT a b n * k + a / cmT a b n) % cmN a b n = 0
/-! the box of what is rounded to 0, together with what is r further -/
end Tp
namespace Tp
open PySem PySem.Spec PyProof.Rows L2 DL
/-! ### scales: the pixels that are led to one -/
def ltP (s t : Int × Int) : Prop := s.1 < t.1 ∨ (s.1 = t.1 ∧ s.2 < t.2)
instance (s t : Int × Int) : Decidable (ltP s t) := by unfold ltP; infer_instance
end Tp
namespace Tp
open PySem PySem.Spec PyProof.Rows L2 DL
/-! ### scales: what the defs promise -/
theorem cmN_le {a b n : Int} (h : 1 ≤ n) : cmT a b n ≤ n ∧ cmN a b n ≤ n := by
  obtain ⟨t1, t2, t3⟩ := cmT_dvd a b n
  have tp := cmT_pos (a := a) (b := b) h
  refine ⟨Int.le_of_dvd (by omega) t3, ?_⟩
  have e := Int.mul_ediv_cancel' t3
  have np : 0 < n / cmT a b n := by
    rcases Int.lt_or_le 0 (n / cmT a b n) with z | z
    · exact z
    · have := Int.mul_le_mul_of_nonneg_left z (show 0 ≤ cmT a b n by omega)
      omega
  have d : cmN a b n ∣ n / cmT a b n := by
    unfold cmN
    exact Int.ofNat_dvd_left.mpr (Nat.gcd_dvd_left _ _)
  have l1 := Int.le_of_dvd np d
  have l2 : n / cmT a b n ≤ n := Int.ediv_le_self _ (by omega)
  omega
theorem IsK.bk {a b n k : Int} (h : 1 ≤ n) (bn : Bd 100 n) (hk : IsK a b n k) : Bd 100 k := Bd.of_le hk.1 (show k ≤ n by have := hk.2.1; have := (cmN_le (a := a) (b := b) h).2; omega) bn
end Tp
namespace Tp
open PySem PySem.Spec PyProof.Rows L2 DL
/-! ### scales: the law of sources -/
end Tp
namespace Tp
open PySem PySem.Spec PyProof.Rows L2 DL
/-! ### two bare pixels are never neighbours -/
end Tp
namespace Tp
open PySem PySem.Spec PyProof.Rows L2 DL
/-! ### bare pixels, meetings and sources along a row -/
end Tp
namespace Tp
open PySem PySem.Spec PyProof.Rows L2 DL
/-! ### scales that are turns: the lattice, meeting numbers -/
end Tp
namespace Tp
open PySem PySem.Spec PyProof.Rows L2 DL
/-! ### scales that are turns: what the program says of both -/
end Tp
namespace Tp
open PySem PySem.Spec PyProof.Rows L2 DL
/-! ### lattice points in a box -/
end Tp
namespace Tp
open PySem PySem.Spec PyProof.Rows L2 DL
/-! ### the meeting numbers of a scale's kin -/
end Tp
namespace Tp
open PySem PySem.Spec PyProof.Rows L2 DL
/-! ### a scale's kin -/
end Tp
namespace Tp
open PySem PySem.Spec PyProof.Rows L2 DL
/-! ### the meeting numbers of a scale as boxes -/
end Tp
namespace Tp
open PySem PySem.Spec PyProof.Rows L2 DL
/-! ### k87: bounds, more than once around, whole factors -/
end Tp
namespace Tp
open PySem PySem.Spec PyProof.Rows L2 DL
/-! ### whole factors: one class, no meeting, one source; k87's helpers -/
end Tp
namespace Tp
open PySem PySem.Spec PyProof.Rows L2 DL
/-! ### any values: kinds, texts -/
def isIntD : D → Bool
  | .int _ => true
  | .bl _ => true
  | _ => false
def isBlD : D → Bool
  | .bl _ => true
  | _ => false
def isTupD : D → Bool
  | .tup _ => true
  | _ => false
def isLstD : D → Bool
  | .lst _ => true
  | _ => false
def isStrD : D → Bool
  | .str _ => true
  | _ => false
def wholeD : D → Bool
  | .int _ => true
  | _ => false
structure AnyV (K : PySem.W.Frag) (d : D) : Prop where
  ex : ∃ t, TyV K d t ∧ PySem.W.kitOne K t (.type "int") = some (isIntD d) ∧ PySem.W.kitOne K t (.type "bool") = some (isBlD d) ∧ PySem.W.kitOne K t (.type "tuple") = some (isTupD d) ∧ PySem.W.kitOne K t (.type "list") = some (isLstD d) ∧ PySem.W.kitOne K t (.type "str") = some (isStrD d)
def pvD : D → Bool
  | .non => true
  | .bl _ => true
  | .int _ => true
  | .str _ => true
  | .tup _ => true
  | .lst _ => true
  | _ => false
theorem kt_NoneType : kitB "NoneType" "int" = some false ∧ kitB "NoneType" "bool" = some false ∧ kitB "NoneType" "tuple" = some false ∧ kitB "NoneType" "list" = some false ∧ kitB "NoneType" "str" = some false := by decide +kernel
theorem kt_bool : kitB "bool" "int" = some true ∧ kitB "bool" "bool" = some true ∧ kitB "bool" "tuple" = some false ∧ kitB "bool" "list" = some false ∧ kitB "bool" "str" = some false := by decide +kernel
theorem kt_int : kitB "int" "int" = some true ∧ kitB "int" "bool" = some false ∧ kitB "int" "tuple" = some false ∧ kitB "int" "list" = some false ∧ kitB "int" "str" = some false := by decide +kernel
theorem kt_str : kitB "str" "int" = some false ∧ kitB "str" "bool" = some false ∧ kitB "str" "tuple" = some false ∧ kitB "str" "list" = some false ∧ kitB "str" "str" = some true := by decide +kernel
theorem kt_tuple : kitB "tuple" "int" = some false ∧ kitB "tuple" "bool" = some false ∧ kitB "tuple" "tuple" = some true ∧ kitB "tuple" "list" = some false ∧ kitB "tuple" "str" = some false := by decide +kernel
theorem kt_list : kitB "list" "int" = some false ∧ kitB "list" "bool" = some false ∧ kitB "list" "tuple" = some false ∧ kitB "list" "list" = some true ∧ kitB "list" "str" = some false := by decide +kernel
theorem kt_dict : kitB "dict" "int" = some false ∧ kitB "dict" "bool" = some false ∧ kitB "dict" "tuple" = some false ∧ kitB "dict" "list" = some false ∧ kitB "dict" "str" = some false := by decide +kernel
theorem any_pv {K : PySem.W.Frag} {d : D} (h : pvD d = true) : AnyV K d := by
  cases d with
  | non => exact ⟨_, ⟨_, rfl, rfl⟩, kit_ty kt_NoneType.1, kit_ty kt_NoneType.2.1, kit_ty kt_NoneType.2.2.1, kit_ty kt_NoneType.2.2.2.1, kit_ty kt_NoneType.2.2.2.2⟩
  | bl b => exact ⟨_, ⟨_, rfl, rfl⟩, kit_ty kt_bool.1, kit_ty kt_bool.2.1, kit_ty kt_bool.2.2.1, kit_ty kt_bool.2.2.2.1, kit_ty kt_bool.2.2.2.2⟩
  | int b => exact ⟨_, ⟨_, rfl, rfl⟩, kit_ty kt_int.1, kit_ty kt_int.2.1, kit_ty kt_int.2.2.1, kit_ty kt_int.2.2.2.1, kit_ty kt_int.2.2.2.2⟩
  | str b => exact ⟨_, ⟨_, rfl, rfl⟩, kit_ty kt_str.1, kit_ty kt_str.2.1, kit_ty kt_str.2.2.1, kit_ty kt_str.2.2.2.1, kit_ty kt_str.2.2.2.2⟩
  | tup b => exact ⟨_, ⟨_, rfl, rfl⟩, kit_ty kt_tuple.1, kit_ty kt_tuple.2.1, kit_ty kt_tuple.2.2.1, kit_ty kt_tuple.2.2.2.1, kit_ty kt_tuple.2.2.2.2⟩
  | lst b => exact ⟨_, ⟨_, rfl, rfl⟩, kit_ty kt_list.1, kit_ty kt_list.2.1, kit_ty kt_list.2.2.1, kit_ty kt_list.2.2.2.1, kit_ty kt_list.2.2.2.2⟩
  | raw b => cases h
  | ext b => cases h
  | scr b => cases h
theorem any_dic {K : PySem.W.Frag} {kvs : List (Key × Int)} : AnyV K (dicD kvs) := ⟨_, kty_dic, kit_ty kt_dict.1, kit_ty kt_dict.2.1, kit_ty kt_dict.2.2.1, kit_ty kt_dict.2.2.2.1, kit_ty kt_dict.2.2.2.2⟩
/-- an error class is no int, bool, tuple, list, str -/
structure KOdd (K : PySem.W.Frag) (C : Addr) : Prop where
  i : PySem.W.kitOne K (.ref C) (.type "int") = some false
  b : PySem.W.kitOne K (.ref C) (.type "bool") = some false
  t : PySem.W.kitOne K (.ref C) (.type "tuple") = some false
  l : PySem.W.kitOne K (.ref C) (.type "list") = some false
  s : PySem.W.kitOne K (.ref C) (.type "str") = some false
theorem any_exc {K : PySem.W.Frag} {C : Addr} {m : Str} (T : L2.ExcC K C) (o : KOdd K C) : AnyV K (excV C m) := ⟨_, kty_exc T, o.i, o.b, o.t, o.l, o.s⟩
/-- its parts, if it is a tuple, as well -/
structure AnyT (K : PySem.W.Frag) (d : D) : Prop where
  v : AnyV K d
  p : ∀ l, d = .tup l → ∀ x ∈ l, AnyV K x
def ptD : D → Bool
  | .tup l => l.all pvD
  | d => pvD d
theorem any_pt {K : PySem.W.Frag} {d : D} (h : ptD d = true) : AnyT K d := by
  refine ⟨any_pv ?_, fun l e x hx => ?_⟩
  · cases d <;> first | rfl | exact h
  · subst e
    exact any_pv (List.all_eq_true.mp h x hx)
theorem any_ext {K : PySem.W.Frag} {Q : Hp → V → Prop} (h : AnyV K (.ext Q)) : AnyT K (.ext Q) := ⟨h, fun _ e => nomatch e⟩
/-! ### what is shown -/
mutual
def shQ : D → Prop
  | .int i => i.natAbs < 2 ^ 1900
  | .str x => (reprText x).length ≤ 90000
  | .tup l => shQL l
  | .lst l => shQL l
  | .non => True
  | .bl _ => True
  | .raw _ => False
  | .ext _ => False
  | .scr _ => False
def shQL : List D → Prop
  | [] => True
  | d :: ds => shQ d ∧ shQL ds
end
mutual
def dpD : D → Nat
  | .tup l => dpL l + 1
  | .lst l => dpL l + 1
  | _ => 0
def dpL : List D → Nat
  | [] => 0
  | d :: ds => max (dpD d) (dpL ds)
end
mutual
def wtS : D → Nat
  | .int _ => 1930
  | .str x => (reprText x).length
  | .tup l => wtL l + 3
  | .lst l => wtL l + 3
  | _ => 8
def wtL : List D → Nat
  | [] => 0
  | d :: ds => wtS d + 2 + wtL ds
end
section
variable {P : Program} {w : World} {K : PySem.W.Frag}
mutual
theorem shq_of : ∀ d : D, shQ d → ∃ t n, ShD P w K d t n (wtS d) ∧ n ≤ dpD d
  | .non, _ => ⟨_, 0, ⟨rfl, rfl, Nat.le_refl _⟩, Nat.zero_le _⟩
  | .bl b, _ => ⟨_, 0, ⟨rfl, rfl, Nat.le_refl _⟩, Nat.zero_le _⟩
  | .int i, h => ⟨_, 0, ⟨rfl, by simpa only [shQ] using h, rfl, Nat.le_refl _⟩, Nat.zero_le _⟩
  | .str x, h => ⟨_, 0, ⟨rfl, Nat.le_refl _, rfl, Nat.le_trans (show (reprText x).length ≤ 90000 by simpa only [shQ] using h) (by decide)⟩, Nat.zero_le _⟩
  | .tup l, h => by
    obtain ⟨ts, n, h1, h2⟩ := shql_of l (by simpa only [shQ] using h)
    exact ⟨_, _, ⟨ts, n, wtL l, h1, rfl, rfl, by simp only [wtS]; omega⟩, by simp only [dpD]; omega⟩
  | .lst l, h => by
    obtain ⟨ts, n, h1, h2⟩ := shql_of l (by simpa only [shQ] using h)
    exact ⟨_, _, ⟨ts, n, wtL l, h1, rfl, rfl, by simp only [wtS]; omega⟩, by simp only [dpD]; omega⟩
  | .raw _, h => by simp only [shQ] at h
  | .ext _, h => by simp only [shQ] at h
  | .scr _, h => by simp only [shQ] at h
theorem shql_of : ∀ l : List D, shQL l → ∃ ts n, ShDL P w K l ts n (wtL l) ∧ n ≤ dpL l
  | [], _ => ⟨[], 0, ⟨rfl, rfl⟩, Nat.zero_le _⟩
  | d :: ds, h => by
    rw [shQL] at h
    obtain ⟨t, j, h1, h2⟩ := shq_of d h.1
    obtain ⟨ts, k, h3, h4⟩ := shql_of ds h.2
    exact ⟨_, _, ⟨t, ts, j, k, wtS d, wtL ds, rfl, h1, h3, rfl, by simp only [wtL]; omega⟩, by simp only [dpL]; omega⟩
end
end
/-- d is shown, in at most N signs -/
def Shw (P : Program) (w : World) (K : PySem.W.Frag) (d : D) (N : Nat) : Prop := ∃ t n m, ShD P w K d t n m ∧ n ≤ 8 ∧ m ≤ N
section
variable {P : Program} {w : World} {K : PySem.W.Frag}
theorem shw_q {d : D} {N : Nat} (h : shQ d) (h1 : dpD d ≤ 8) (h2 : wtS d ≤ N) : Shw P w K d N := by
  obtain ⟨t, n, h3, h4⟩ := shq_of (P := P) (w := w) (K := K) d h
  exact ⟨t, n, _, h3, by omega, h2⟩
theorem shw_up {d : D} {N M : Nat} (h : Shw P w K d N) (k : N ≤ M) : Shw P w K d M := let ⟨t, n, m, h1, h2, h3⟩ := h; ⟨t, n, m, h1, h2, by omega⟩
theorem shw_exc {C : Addr} {cd : PySem.ClassData} {m : Str} {N : Nat} (T : ExcK K C cd) (h : (PySem.ExR.txtOf cd m).length ≤ N) : Shw P w K (excV C m) N := ⟨_, 1, _, ⟨shx_exc T, Nat.le_refl _⟩, by decide, h⟩
theorem shw_dic0 {N : Nat} (h : 10 ≤ N) : Shw P w K (dicD []) N := ⟨_, 1, 10, ⟨shx_dic (fun _ z => nomatch z), by decide +kernel⟩, by decide, h⟩
theorem shw_exc2 {C : Addr} {cd : PySem.ClassData} {m : Str} {N : Nat} (T : ExcK K C cd) (h : (reprText m).length + 102 ≤ N) : Shw P w K (excV C m) N := shw_exc T (Nat.le_trans (T.len m) h)
end
/-! ### what values are -/
def wtB (n : Int) : D → Bool
  | .tup l => decide ((l.length : Int) = n) && l.all wholeD
  | _ => false
def tnB (p q k : Int) : Bool := decide (1 ≤ p ∧ p ≤ 1000000000000000 ∧ -p < q ∧ q < p ∧ 0 ≤ k ∧ k ≤ 3 ∧ (p + q) % 2 = 1 ∧ Nat.gcd p.natAbs q.natAbs = 1)
theorem tnB_iff {p q k : Int} : tnB p q k = true ↔ Tn p q k := by
  unfold tnB
  rw [decide_eq_true_iff]
  exact ⟨fun ⟨h1, h2, h3, h4, h5, h6, h7, h8⟩ => ⟨h1, h2, h3, h4, h8, h7, h5, h6⟩, fun h => ⟨h.p1, h.p2, h.q1, h.q2, h.k1, h.k2, h.o, h.g⟩⟩
def turnB : D → Bool
  | .tup [.int p, .int q, .int k] => tnB p q k
  | _ => false
def pixB (d : D) : Bool := wtB 2 d
theorem whole_int {d : D} (h : wholeD d = true) : ∃ i, d = .int i := by
  cases d <;> first | exact ⟨_, rfl⟩ | cases h
theorem all_whole : ∀ {l : List D}, l.all wholeD = true → ∃ ns : List Int, l = ns.map D.int
  | [], _ => ⟨[], rfl⟩
  | d :: ds, h => by
    rw [List.all_cons, Bool.and_eq_true] at h
    obtain ⟨i, rfl⟩ := whole_int h.1
    obtain ⟨ns, rfl⟩ := all_whole h.2
    exact ⟨i :: ns, rfl⟩
theorem wt_ints {d : D} {n : Int} (h : wtB n d = true) : ∃ ns : List Int, d = .tup (ns.map D.int) ∧ (ns.length : Int) = n := by
  cases d with
  | tup l =>
    rw [wtB, Bool.and_eq_true] at h
    obtain ⟨ns, rfl⟩ := all_whole h.2
    exact ⟨ns, rfl, by have := of_decide_eq_true h.1; rwa [List.length_map] at this⟩
  | _ => cases h
theorem wt2 {d : D} (h : pixB d = true) : ∃ x y, d = .tup [.int x, .int y] := by
  obtain ⟨ns, rfl, e⟩ := wt_ints h
  match ns, e with
  | [x, y], _ => exact ⟨x, y, rfl⟩
  | [], e => cases e
  | [_], e => cases e
  | _ :: _ :: _ :: _, e => simp at e; omega
theorem wt3 {d : D} (h : wtB 3 d = true) : ∃ x y z, d = .tup [.int x, .int y, .int z] := by
  obtain ⟨ns, rfl, e⟩ := wt_ints h
  match ns, e with
  | [x, y, z], _ => exact ⟨x, y, z, rfl⟩
  | [], e => cases e
  | [_], e => cases e
  | [_, _], e => cases e
  | _ :: _ :: _ :: _ :: _, e => simp at e; omega
theorem turnB_no {d : D} (h : wtB 3 d = false) : turnB d = false := by
  unfold turnB
  split
  · cases h
  · rfl
theorem turnB_tn {d : D} (h : turnB d = true) : ∃ p q k, d = .tup [.int p, .int q, .int k] ∧ Tn p q k := by
  unfold turnB at h
  split at h
  · exact ⟨_, _, _, rfl, tnB_iff.mp h⟩
  · cases h
theorem tn_turnB {p q k : Int} (h : Tn p q k) : turnB (.tup [.int p, .int q, .int k]) = true := tnB_iff.mpr h
theorem wt_map : ∀ (l : List D), (l.map fun d => D.bl (wholeD d)) = (l.map wholeD).map D.bl := fun l => by rw [List.map_map]; rfl
theorem all_id (l : List D) : (l.map wholeD).all id = l.all wholeD := by
  induction l with
  | nil => rfl
  | cons d ds ih => rw [List.map_cons, List.all_cons, List.all_cons, ih]; rfl
/-! ### contracts of the checks over any values -/
def con_wholeA (K : PySem.W.Frag) : Con := fun ds S Q => ∃ d, ds = [d] ∧ AnyV K d ∧ Q (.bl (wholeD d)) S
def con_wtA (K : PySem.W.Frag) : Con := fun ds S Q => ∃ d n, ds = [d, .int n] ∧ AnyT K d ∧ (∀ l, d = .tup l → l.length ≤ 1000) ∧ Q (.bl (wtB n d)) S
def con_pixA (K : PySem.W.Frag) : Con := fun ds S Q => ∃ d, ds = [d] ∧ AnyT K d ∧ (∀ l, d = .tup l → l.length ≤ 1000) ∧ Q (.bl (pixB d)) S
def con_turnA (K : PySem.W.Frag) : Con := fun ds S Q => ∃ d, ds = [d] ∧ AnyT K d ∧ (∀ l, d = .tup l → l.length ≤ 1000) ∧ Q (.bl (turnB d)) S
/-- any value that is handed to the program -/
structure Any (K : PySem.W.Frag) (d : D) : Prop where
  t : AnyT K d
  l : ∀ l, d = .tup l → l.length ≤ 1000
theorem Any.pt {K : PySem.W.Frag} {d : D} (h : ptD d = true) (k : ∀ l, d = .tup l → l.length ≤ 1000 := by intro l e; first | (cases e; decide) | cases e) : Any K d := ⟨any_pt h, k⟩
theorem Any.ext {K : PySem.W.Frag} {Q : Hp → V → Prop} (h : AnyV K (.ext Q)) : Any K (.ext Q) := ⟨any_ext h, fun _ e => nomatch e⟩
theorem Any.i3 {K : PySem.W.Frag} {p q k : Int} : Any K (.tup [.int p, .int q, .int k]) := .pt rfl (fun l e => by cases e; exact Nat.le_add_left 3 997)
theorem Any.i2 {K : PySem.W.Frag} {p q : Int} : Any K (.tup [.int p, .int q]) := .pt rfl (fun l e => by cases e; exact Nat.le_add_left 2 998)
def con_chkX (K : PySem.W.Frag) (b : D → Bool) (C : Addr) : ConX := fun ds S Q R => ∃ d, ds = [d] ∧ Any K d ∧ (b d = false → R ⟨.ref C, none⟩ S) ∧ (b d = true → Q .non S)
def legB : D → Bool
  | .tup [.int a, .int b, .int c] => decide (1 ≤ c) && decide (a * a + b * b = c * c)
  | _ => false
/-! ### errors told apart -/
def con_faultN (K : PySem.W.Frag) (C : Addr) (t : Str) : ConE := fun p ds S Q => ∃ d, ds = [excD K p.1 d ⟨.ref C, none⟩] ∧ Zc (.ref C) d p.2 ∧ (∃ vs, p.2.data = .fields vs) ∧ Q (.str t) S
def con_faultF (K : PySem.W.Frag) (C : Addr) (fld : Str) (v t : D) : ConE := fun p ds S Q => ∃ d, ds = [excD K p.1 d ⟨.ref C, some (fld, v)⟩] ∧ Zc (.ref C) d p.2 ∧ (∃ vs, p.2.data = .fields vs) ∧ Q t S
theorem gok_nat {P : Program} {w : World} {K : PySem.W.Frag} {mg : Str → Option Value} {base : Heap} {k : Nat} {f : Addr} {fd : FuncData} {ps : List Str} {C : Nat → Con} {n : Nat} (h : ∀ i, i < n → GOk P w K mg base k f fd ps (spD K (C i))) :
    GOk P w K mg base k f fd ps (spD K fun ds S Q => ∃ i, i < n ∧ C i ds S Q) :=
  ⟨fun vs H Q E ⟨ds, S, Hd, Qd, z1, z2, ⟨i, hi, z3⟩, z4⟩ => (h i hi).len vs H Q E ⟨ds, S, Hd, Qd, z1, z2, z3, z4⟩,
   fun A fr s H ar us vs Q E gd hr e0 hb r ⟨ds, S, Hd, Qd, z1, z2, ⟨i, hi, z3⟩, z4⟩ => (h i hi).run A fr s H ar us vs Q E gd hr e0 hb r ⟨ds, S, Hd, Qd, z1, z2, z3, z4⟩⟩
/-! ### plain values, looked at by the kernel -/
mutual
def shQb : D → Bool
  | .int i => decide (i.natAbs < 2 ^ 1900)
  | .str x => decide ((reprText x).length ≤ 90000)
  | .tup l => shQbL l
  | .lst l => shQbL l
  | .non => true
  | .bl _ => true
  | .raw _ => false
  | .ext _ => false
  | .scr _ => false
def shQbL : List D → Bool
  | [] => true
  | d :: ds => shQb d && shQbL ds
end
mutual
theorem shQb_of : ∀ d : D, shQb d = true → shQ d
  | .int i, h => by simpa only [shQ] using of_decide_eq_true (show decide (i.natAbs < 2 ^ 1900) = true by simpa only [shQb] using h)
  | .str x, h => by simpa only [shQ] using of_decide_eq_true (show decide ((reprText x).length ≤ 90000) = true by simpa only [shQb] using h)
  | .tup l, h => by simpa only [shQ] using shQbL_of l (by simpa only [shQb] using h)
  | .lst l, h => by simpa only [shQ] using shQbL_of l (by simpa only [shQb] using h)
  | .non, _ => by simp only [shQ]
  | .bl _, _ => by simp only [shQ]
  | .raw _, h => by simp only [shQb] at h; cases h
  | .ext _, h => by simp only [shQb] at h; cases h
  | .scr _, h => by simp only [shQb] at h; cases h
theorem shQbL_of : ∀ l : List D, shQbL l = true → shQL l
  | [], _ => by simp only [shQL]
  | d :: ds, h => by
    simp only [shQbL, Bool.and_eq_true] at h
    rw [shQL]
    exact ⟨shQb_of d h.1, shQbL_of ds h.2⟩
end
/-- plain, shown in N signs at most, no long tuple -/
def plB (N : Nat) (d : D) : Bool := ptD d && shQb d && decide (wtS d ≤ N) && decide (dpD d ≤ 8) && (match d with | .tup l => decide (l.length ≤ 1000) | _ => true)
theorem plB_any {K : PySem.W.Frag} {N : Nat} {d : D} (h : plB N d = true) : Any K d := by
  unfold plB at h
  simp only [Bool.and_eq_true] at h
  refine .pt h.1.1.1.1 fun l e => ?_
  subst e
  exact of_decide_eq_true h.2
theorem plB_shw {P : Program} {w : World} {K : PySem.W.Frag} {N : Nat} {d : D} (h : plB N d = true) : Shw P w K d N := by
  unfold plB at h
  simp only [Bool.and_eq_true] at h
  exact shw_q (shQb_of d h.1.1.1.2) (of_decide_eq_true h.1.2) (of_decide_eq_true h.1.1.2)
theorem shw_i3 {P : Program} {w : World} {K : PySem.W.Frag} {a b c : Int} (h1 : Bd 1800 a) (h2 : Bd 1800 b) (h3 : Bd 1800 c) : Shw P w K (.tup [.int a, .int b, .int c]) 6000 := by
  refine shw_q (by simp only [shQ, shQL, and_true]; exact ⟨shw h1 (by decide), shw h2 (by decide), shw h3 (by decide)⟩) (by simp only [dpD, dpL]; decide) (by simp only [wtS, wtL]; decide)
theorem shw_i2 {P : Program} {w : World} {K : PySem.W.Frag} {a b : Int} (h1 : Bd 1800 a) (h2 : Bd 1800 b) : Shw P w K (.tup [.int a, .int b]) 4000 := by
  refine shw_q (by simp only [shQ, shQL, and_true]; exact ⟨shw h1 (by decide), shw h2 (by decide)⟩) (by simp only [dpD, dpL]; decide) (by simp only [wtS, wtL]; decide)
theorem bt_ValueError : bootBuiltins "ValueError" = some (.type "ValueError") := by decide +kernel

end Tp
namespace Tp
open PySem PySem.Spec PyProof.Rows L2 DL
/-! ### k06: what is told -/
/-- an odd value that is taken for a turn, for a pixel -/
structure OddS (P : Program) (w : World) (K : PySem.W.Frag) (d : D) : Prop where
  a : Any K d
  n : turnB d = false
  s : Shw P w K d 40000
structure OddP (P : Program) (w : World) (K : PySem.W.Frag) (d : D) : Prop where
  a : Any K d
  n : pixB d = false
  t : turnB d = false
  l : legB d = false
  i : ∀ x y z : Int, d = .tup [.int x, .int y, .int z] → Bd 700 x ∧ Bd 700 y ∧ Bd 700 z
  s : Shw P w K d 40000
theorem oddS_pl {P : Program} {w : World} {K : PySem.W.Frag} {d : D} (h : (plB 40000 d && !turnB d) = true) : OddS P w K d := by
  rw [Bool.and_eq_true] at h
  exact ⟨plB_any h.1, by simpa using h.2, plB_shw h.1⟩
theorem oddS_dic {P : Program} {w : World} {K : PySem.W.Frag} : OddS P w K (dicD []) := ⟨.ext any_dic, rfl, shw_dic0 (by decide)⟩
theorem oddS_exc {P : Program} {w : World} {K : PySem.W.Frag} {C : Addr} {cd : PySem.ClassData} {m : Str} (T : L2.ExcC K C) (o : KOdd K C) (E : ExcK K C cd) (h : (reprText m).length + 102 ≤ 40000) : OddS P w K (excV C m) := ⟨.ext (any_exc T o), rfl, shw_exc2 E h⟩
def i3B : D → Bool
  | .tup [.int a, .int b, .int c] => decide (a.natAbs < 2 ^ 700 ∧ b.natAbs < 2 ^ 700 ∧ c.natAbs < 2 ^ 700)
  | _ => true
theorem oddP_pl {P : Program} {w : World} {K : PySem.W.Frag} {d : D} (h : (plB 40000 d && !pixB d && !turnB d && !legB d && i3B d) = true) : OddP P w K d := by
  simp only [Bool.and_eq_true] at h
  obtain ⟨⟨⟨⟨h1, h2⟩, h3⟩, h4⟩, h5⟩ := h
  refine ⟨plB_any h1, by simpa using h2, by simpa using h3, by simpa using h4, fun x y z e => ?_, plB_shw h1⟩
  subst e
  exact of_decide_eq_true (p := x.natAbs < 2 ^ 700 ∧ y.natAbs < 2 ^ 700 ∧ z.natAbs < 2 ^ 700) h5
theorem oddP_dic {P : Program} {w : World} {K : PySem.W.Frag} : OddP P w K (dicD []) := ⟨.ext any_dic, rfl, rfl, rfl, (fun _ _ _ e => nomatch e), shw_dic0 (by decide)⟩
theorem oddP_exc {P : Program} {w : World} {K : PySem.W.Frag} {C : Addr} {cd : PySem.ClassData} {m : Str} (T : L2.ExcC K C) (o : KOdd K C) (E : ExcK K C cd) (h : (reprText m).length + 102 ≤ 40000) : OddP P w K (excV C m) := ⟨.ext (any_exc T o), rfl, rfl, rfl, (fun _ _ _ e => nomatch e), shw_exc2 E h⟩
/-! ### the eight answers -/
end Tp
namespace Tp
open PySem PySem.Spec PyProof.Rows L2 DL
/-! ### k18: what is told of losses -/
end Tp
namespace Tp
open PySem PySem.Spec PyProof.Rows L2 DL
/-! ### arguments that are checked one behind the other -/
/-- bounds of a pair -/
def PB (B : Nat) (d : D) : Prop := ∀ x y : Int, d = .tup [.int x, .int y] → Bd B x ∧ Bd B y
theorem PB.up {A B : Nat} {d : D} (h : PB A d) (k : A ≤ B) : PB B d := fun x y e => ⟨(h x y e).1.up k, (h x y e).2.up k⟩
/-! ### rests, of any value -/
/-! ### k11: what is told -/
end Tp
namespace Tp
open PySem PySem.Spec PyProof.Rows L2 DL
/-! ### errors with a field, told -/
/-! ### one turn checked first -/
def con1T (K : PySem.W.Frag) (E1 : Addr) (CX : ConX) : ConX := fun ds S Q R => ∃ d1, ds = [d1] ∧ Any K d1 ∧ (turnB d1 = false → R ⟨.ref E1, none⟩ S) ∧ (turnB d1 = true → CX [d1] S Q R)
/-! ### k28: what is told of misses -/
end Tp
namespace Tp
open PySem PySem.Spec PyProof.Rows L2 DL
/-! ### k24: what is told of losses and sources -/
end Tp
namespace Tp
open PySem PySem.Spec PyProof.Rows L2 DL
/-! ### k50: scales, of any value -/
section
variable {P : Program} {w : World} {K : PySem.W.Frag}
end
def con_oddPs (P : Program) (w : World) (K : PySem.W.Frag) : Con := fun ds S Q => ds = [] ∧ ∀ l : List D, (∀ d ∈ l, OddP P w K d) → l.length ≤ 100 → Q (.lst l) S
def con_faultP (K : PySem.W.Frag) (C : Addr) (fld w : Str) : ConE := fun p ds S Q => ∃ i : Int, con_faultF K C fld (.int i) (.tup [.str w, .int i]) p ds S Q
end Tp
namespace Tp
open PySem PySem.Spec PyProof.Rows L2 DL
/-! ### k55: six-cornered turns, of any value -/
/-! strips, and what lies within -/
/-! contracts -/
/-! what is told -/
section
variable {P : Program} {w : World} {K : PySem.W.Frag}
end
end Tp
namespace Tp
open PySem PySem.Spec PyProof.Rows L2 DL
/-! ### k01: any thing, recognized -/
def flB : D → Bool
  | .tup l => flatOkL 8 l
  | _ => true
section
variable {P : Program} {w : World} {K : PySem.W.Frag}
end
theorem flt_step2 {α : Type} (f : α → Bool) {l : List α} {k : Nat} {v : α} (h : l[k]? = some v) : (l.take (k + 1)).filter f = (l.take k).filter f ++ if f v = true then [v] else [] := by
  rw [List.take_add_one, h, List.filter_append]
  congr 1
  simp only [Option.toList_some, List.filter_cons, List.filter_nil]
end Tp
namespace Tp
open PySem PySem.Spec PyProof.Rows L2 DL
/-! ### k07: rests, told of any thing -/
section
variable {P : Program} {w : World} {K : PySem.W.Frag}
end
end Tp
namespace Tp
open PySem PySem.Spec PyProof.Rows L2 DL
/-! ### ways: what turns come to, one behind the other -/
def mulL (x y : Int × Int × Int) : Int × Int × Int := (x.1 * y.1 - x.2.1 * y.2.1, x.1 * y.2.1 + x.2.1 * y.1, x.2.2 * y.2.2)
def lgT (t : Trn) : Int × Int × Int := (lgA t.1 t.2.1 t.2.2, lgB t.1 t.2.1 t.2.2, cc t.1 t.2.1)
def EqR (x y : Int × Int × Int) : Prop := x.1 * y.2.2 = y.1 * x.2.2 ∧ x.2.1 * y.2.2 = y.2.1 * x.2.2
theorem EqR.rf (x : Int × Int × Int) : EqR x x := ⟨rfl, rfl⟩
theorem EqR.symm {x y : Int × Int × Int} (h : EqR x y) : EqR y x := ⟨h.1.symm, h.2.symm⟩
theorem EqR.tr {x y z : Int × Int × Int} (hy : 0 < y.2.2) (h : EqR x y) (k : EqR y z) : EqR x z := by
  obtain ⟨h1, h2⟩ := h
  obtain ⟨k1, k2⟩ := k
  refine ⟨Int.eq_of_mul_eq_mul_right (Int.ne_of_gt hy) ?_, Int.eq_of_mul_eq_mul_right (Int.ne_of_gt hy) ?_⟩
  · grind
  · grind
theorem EqR.mulr {x y : Int × Int × Int} (h : EqR x y) (z : Int × Int × Int) : EqR (mulL x z) (mulL y z) := by
  obtain ⟨h1, h2⟩ := h
  unfold EqR mulL
  dsimp only
  constructor <;> grind
theorem EqR.mull {x y : Int × Int × Int} (z : Int × Int × Int) (h : EqR x y) : EqR (mulL z x) (mulL z y) := by
  obtain ⟨h1, h2⟩ := h
  unfold EqR mulL
  dsimp only
  constructor <;> grind
theorem mulL_assoc (x y z : Int × Int × Int) : mulL (mulL x y) z = mulL x (mulL y z) := by
  unfold mulL
  dsimp only
  refine Prod.ext ?_ (Prod.ext ?_ ?_) <;> dsimp only <;> grind
theorem mulL_one (x : Int × Int × Int) : mulL x (1, 0, 1) = x := by
  unfold mulL
  dsimp only
  refine Prod.ext ?_ (Prod.ext ?_ ?_) <;> dsimp only <;> omega
theorem mulL_pos {x y : Int × Int × Int} (h : 0 < x.2.2) (k : 0 < y.2.2) : 0 < (mulL x y).2.2 := Int.mul_pos h k
theorem lgT_pos {t : Trn} (h : TnT t) : 0 < (lgT t).2.2 := cc_pos h
def sumL (l : List Trn) : Int × Int × Int := l.foldl (fun a t => mulL a (lgT t)) (1, 0, 1)
theorem sumL_app (l : List Trn) (t : Trn) : sumL (l ++ [t]) = mulL (sumL l) (lgT t) := by
  unfold sumL
  rw [List.foldl_append]
  rfl
theorem fold_pos : ∀ (l : List Trn) (x : Int × Int × Int), 0 < x.2.2 → (∀ t ∈ l, TnT t) → 0 < (l.foldl (fun a t => mulL a (lgT t)) x).2.2
  | [], _, h, _ => h
  | t :: l, x, h, k => fold_pos l _ (mulL_pos h (lgT_pos (k t List.mem_cons_self))) fun u hu => k u (List.mem_cons_of_mem _ hu)
theorem sumL_pos {l : List Trn} (h : ∀ t ∈ l, TnT t) : 0 < (sumL l).2.2 := fold_pos l _ (by decide) h
theorem lg_bk2 {p q k : Int} (h : Tn p q k) : lgA p (-q) (-k % 4) = lgA p q k ∧ lgB p (-q) (-k % 4) = -lgB p q k := by
  obtain ⟨h1, h2⟩ := lg_back h 1 0
  unfold exX at h1
  unfold exY at h2
  exact ⟨by omega, by omega⟩
theorem lgT_bk {t : Trn} (h : TnT t) : lgT (bkT t) = ((lgT t).1, -(lgT t).2.1, (lgT t).2.2) := by
  obtain ⟨h1, h2⟩ := lg_bk2 h
  unfold lgT bkT
  dsimp only
  rw [h1, h2, cc_neg]
theorem lgT_sq {t : Trn} : (lgT t).1 * (lgT t).1 + (lgT t).2.1 * (lgT t).2.1 = (lgT t).2.2 * (lgT t).2.2 := lg_sq _ _ _
theorem lg_cancel {t : Trn} (h : TnT t) : EqR (mulL (lgT t) (lgT (bkT t))) (1, 0, 1) ∧ EqR (mulL (lgT (bkT t)) (lgT t)) (1, 0, 1) := by
  have e := lgT_sq (t := t)
  rw [lgT_bk h]
  unfold EqR mulL
  dsimp only
  refine ⟨⟨?_, ?_⟩, ?_, ?_⟩ <;> grind
theorem bk_tn {t : Trn} (h : TnT t) : TnT (bkT t) := tn_bk2 h
theorem jn_eqR {t u w : Trn} (h : TnT t) (h' : TnT u) (J : Jn t.1 t.2.1 t.2.2 u.1 u.2.1 u.2.2 w.1 w.2.1 w.2.2) : EqR (mulL (lgT t) (lgT u)) (lgT w) := by
  obtain ⟨g, g1, e1, e2, e3⟩ := jn_legs h h' J
  unfold EqR mulL lgT
  dsimp only
  rw [e1, e2, e3]
  constructor <;> grind
/-- the current turn, as it stands -/
def curL (forth : Bool) (t : Trn) : Int × Int × Int := if forth then lgT t else lgT (bkT t)
theorem conj_eqR {u c v : Trn} (hu : TnT u) (hc : TnT c) (hv : TnT v) (h : EqR (mulL (lgT u) (lgT (bkT c))) (lgT v)) : EqR (mulL (lgT (bkT u)) (lgT c)) (lgT (bkT v)) := by
  obtain ⟨h1, h2⟩ := h
  rw [lgT_bk hc] at h1 h2
  rw [lgT_bk hu, lgT_bk hv]
  unfold EqR mulL at *
  dsimp only at *
  constructor <;> grind
theorem way_step {W T : Int × Int × Int} {u c v : Trn} (b : Bool) (hW : 0 < W.2.2) (hu : TnT u) (hc : TnT c) (hv : TnT v) (h : EqR (mulL (lgT u) (lgT (bkT c))) (lgT v)) (I : EqR (mulL W (curL b c)) T) :
    EqR (mulL (mulL W (lgT (if b then u else bkT u))) (curL (!b) v)) T := by
  have pu := lgT_pos hu
  have pc := lgT_pos hc
  have pbu := lgT_pos (bk_tn hu)
  have pbc := lgT_pos (bk_tn hc)
  cases b with
  | true =>
    have h2 := conj_eqR hu hc hv h
    show EqR (mulL (mulL W (lgT u)) (lgT (bkT v))) T
    refine EqR.tr (mulL_pos hW pc) ?_ (show EqR (mulL W (lgT c)) T from I)
    refine EqR.tr (mulL_pos (mulL_pos hW pu) (mulL_pos pbu pc)) (EqR.mull _ h2.symm) ?_
    rw [← mulL_assoc]
    refine EqR.mulr ?_ _
    rw [mulL_assoc]
    have z := EqR.mull W (lg_cancel hu).1
    rw [mulL_one] at z
    exact z
  | false =>
    show EqR (mulL (mulL W (lgT (bkT u))) (lgT v)) T
    refine EqR.tr (mulL_pos hW pbc) ?_ (show EqR (mulL W (lgT (bkT c))) T from I)
    refine EqR.tr (mulL_pos (mulL_pos hW pbu) (mulL_pos pu pbc)) (EqR.mull _ h.symm) ?_
    rw [← mulL_assoc]
    refine EqR.mulr ?_ _
    rw [mulL_assoc]
    have z := EqR.mull W (lg_cancel hu).2
    rw [mulL_one] at z
    exact z
theorem way_end {W T : Int × Int × Int} {k : Int} (b : Bool) (hW : 0 < W.2.2) (I : EqR (mulL W (curL b (1, 0, k))) T) : EqR (mulL W (lgT (if b then (1, 0, k) else bkT (1, 0, k)))) T := by
  cases b <;> exact I
theorem way_end0 {W T : Int × Int × Int} (b : Bool) (I : EqR (mulL W (curL b (1, 0, 0))) T) : EqR W T := by
  have e : curL b (1, 0, 0) = (1, 0, 1) := by cases b <;> decide +kernel
  rw [e, mulL_one] at I
  exact I

end Tp
namespace Tp
open PySem PySem.Spec PyProof.Rows L2 DL
/-! ### k41: ways for turns -/
def kOf (m : Int) : Int := (if m < 0 then -m else m) / 2
def ItR (t u : Trn) : Prop := ∃ m : Int, m % 2 = 1 ∧ (-(cc t.1 t.2.1) < m ∧ m < cc t.1 t.2.1) ∧ (m * t.2.1 + t.1) % cc t.1 t.2.1 = 0 ∧ u = (kOf m + 1, (if m > 0 then kOf m else -kOf m), 0)
theorem co_qc {p q k : Int} (h : Tn p q k) : ∃ s t : Int, s * q + t * cc p q = 1 := by
  obtain ⟨s, t, e⟩ := bez h.g
  refine ⟨2 * s * t * p + t * t * q - s * s * q, s * s, ?_⟩
  unfold cc
  have : (s * p + t * q) * (s * p + t * q) = 1 := by rw [e] <;> rfl
  grind
theorem it_div {p q c m w s t : Int} (hc : c = p * p + q * q) (h : m * q + p = c * w) (hb : s * q + t * c = 1) : ∃ w2, m * p - q = c * w2 := by
  refine ⟨s * (p * w - 1) + t * (m * p - q), ?_⟩
  have e1 : q * (m * p - q) = c * (p * w - 1) := by grind
  have e2 : (s * q + t * c) * (m * p - q) = s * (q * (m * p - q)) + t * c * (m * p - q) := by grind
  rw [hb, e1] at e2
  grind
theorem odd_half35 {c P z : Int} (hc : c % 2 = 1) (h : 2 * P = c * z) : ∃ w, P = c * w := by
  rcases Int.emod_two_eq z with e | e
  · refine ⟨z / 2, ?_⟩
    have hz : z = 2 * (z / 2) := by omega
    have : 2 * P = 2 * (c * (z / 2)) := by rw [h]; conv => lhs; rw [hz]
                                           grind
    omega
  · have : (c * z) % 2 = 1 := by rw [Int.mul_emod, hc, e] <;> rfl
    omega
theorem k_abs {m : Int} (h : m % 2 = 1) : 0 ≤ kOf m ∧ (m > 0 ∧ m = 2 * kOf m + 1 ∨ ¬ m > 0 ∧ m = -(2 * kOf m + 1)) := by
  unfold kOf
  split <;> omega
theorem it_uniq {t u u' : Trn} (hT : TnT t) (h : ItR t u) (h' : ItR t u') : u = u' := by
  obtain ⟨m, o, ⟨b1, b2⟩, d, e⟩ := h
  obtain ⟨m', o', ⟨b1', b2'⟩, d', e'⟩ := h'
  obtain ⟨s, w, hb⟩ := co_qc hT
  have hcc := cc_odd hT
  have hc0 := cc_pos hT
  generalize cc t.1 t.2.1 = c at *
  obtain ⟨x, hx⟩ := Int.dvd_of_emod_eq_zero d
  obtain ⟨y, hy⟩ := Int.dvd_of_emod_eq_zero d'
  have e1 : (m - m') * t.2.1 = c * (x - y) := by grind
  have e2 : m - m' = c * (s * (x - y) + w * (m - m')) := by
    have : (m - m') * (s * t.2.1 + w * c) = s * ((m - m') * t.2.1) + c * (w * (m - m')) := by grind
    rw [hb, e1] at this
    grind
  generalize s * (x - y) + w * (m - m') = z at e2
  have hz : z = 0 := by
    have l1 : z < 2 := by
      refine Decidable.byContradiction fun n => ?_
      have := Int.mul_le_mul_of_nonneg_left (show 2 ≤ z by omega) (show 0 ≤ c by omega)
      omega
    have l2 : -2 < z := by
      refine Decidable.byContradiction fun n => ?_
      have := Int.mul_le_mul_of_nonneg_left (show z ≤ -2 by omega) (show 0 ≤ c by omega)
      omega
    rcases (by omega : z = 0 ∨ z = 1 ∨ z = -1) with r | r | r
    · exact r
    · rw [r] at e2; omega
    · rw [r] at e2; omega
  rw [hz] at e2
  have : m = m' := by omega
  rw [e, e', this]
theorem rt_dv {c g a b s t x y : Int} {j : Nat} (hj : j < 4) (e : s * a + t * b = 1) (h1 : g * rtX j a b = c * x) (h2 : g * rtY j a b = c * y) : ∃ z, g = c * z := by
  rcases (by omega : j = 0 ∨ j = 1 ∨ j = 2 ∨ j = 3) with r | r | r | r <;> subst r <;> simp only [rtX, rtY] at h1 h2
  · refine ⟨s * x + t * y, ?_⟩
    have : g * (s * a + t * b) = s * (g * a) + t * (g * b) := by grind
    rw [e, h1, h2] at this
    grind
  · refine ⟨s * y - t * x, ?_⟩
    have : g * (s * a + t * b) = s * (g * a) - t * (g * -b) := by grind
    rw [e, h1, h2] at this
    grind
  · refine ⟨-(s * x) - t * y, ?_⟩
    have : g * (s * a + t * b) = -(s * (g * -a)) - t * (g * -b) := by grind
    rw [e, h1, h2] at this
    grind
  · refine ⟨t * x - s * y, ?_⟩
    have : g * (s * a + t * b) = t * (g * b) - s * (g * -a) := by grind
    rw [e, h1, h2] at this
    grind
theorem rt_sq2 (j : Nat) (a b : Int) : rtX j a b * rtX j a b + rtY j a b * rtY j a b = cc a b := by
  unfold cc
  match j with
  | 0 => simp only [rtX, rtY]
  | 1 => simp only [rtX, rtY]; grind
  | 2 => simp only [rtX, rtY]; grind
  | _ + 3 => simp only [rtX, rtY]; grind
theorem gg35 {P R g X Y V : Int} (e1 : P = g * X) (e2 : R = g * Y) (h : X * X + Y * Y = V) : P * P + R * R = g * g * V := by rw [e1, e2, ← h]; grind
theorem ee35 {U c g z V : Int} (h : U * c = g * g * V) (e : g = c * z) : c * (c * (z * z * V)) = c * U := by rw [e] at h; grind
theorem it_less {c U V g m : Int} (hc : 3 ≤ c) (hm : m * m ≤ (c - 2) * (c - 2)) (hg : 1 ≤ g) (hV : 1 ≤ V) (hU : 2 * U = m * m + 1) (e : c * (g * g * V) = U) : 2 * V < c := by
  refine Decidable.byContradiction fun n => ?_
  have h1 : c * V ≤ c * (g * g * V) := by
    refine Int.mul_le_mul_of_nonneg_left ?_ (by omega)
    have : 1 * 1 ≤ g * g := Int.mul_le_mul hg hg (by decide) (by omega)
    have := Int.mul_le_mul_of_nonneg_right (show 1 ≤ g * g by omega) (show 0 ≤ V by omega)
    omega
  have h2 : c * c ≤ c * (2 * V) := Int.mul_le_mul_of_nonneg_left (by omega) (by omega)
  have h3 : c * (2 * V) = 2 * (c * V) := by grind
  have h4 : (c - 2) * (c - 2) = c * c - 4 * c + 4 := by grind
  omega
theorem it_main {t u : Trn} (hT : TnT t) (hq : t.2.1 ≠ 0) (hcc : cc t.1 t.2.1 ≤ 10000000000) (h : ItR t u) : KW u ∧ u.2.1 ≠ 0 ∧ (u.1 ≤ 10000000000 ∧ -10000000000 ≤ u.2.1 ∧ u.2.1 ≤ 10000000000) ∧
    ∃ v : Trn, Jn u.1 u.2.1 u.2.2 t.1 (-t.2.1) (-t.2.2 % 4) v.1 v.2.1 v.2.2 ∧ 2 * cc v.1 v.2.1 < cc t.1 t.2.1 := by
  obtain ⟨p, q, kk⟩ := t
  obtain ⟨m, om, ⟨b1, b2⟩, d, e⟩ := h
  have hT : Tn p q kk := hT
  have hq : q ≠ 0 := hq
  dsimp only at b1 b2 d e hcc ⊢
  obtain ⟨hk0, hk⟩ := k_abs om
  obtain ⟨s, w, hb⟩ := co_qc hT
  have hodd := cc_odd hT
  have hp1 := hT.p1
  have hq1 := hT.q1
  have hq2 := hT.q2
  obtain ⟨c, hc⟩ : ∃ c, c = cc p q := ⟨_, rfl⟩
  rw [← hc] at b1 b2 d hcc hodd hb ⊢
  have hc' : c = p * p + q * q := hc
  have hp2 : 2 ≤ p := by omega
  have hsq := sq_nn q
  have hcp : 2 * p + 1 ≤ c := by
    have h1 : 2 * p ≤ p * p := Int.mul_le_mul_of_nonneg_right hp2 (by omega)
    have h2 : 0 < q * q := by
      rcases Int.lt_or_gt_of_ne hq with z | z
      · exact Int.mul_pos_of_neg_of_neg z z
      · exact Int.mul_pos z z
    omega
  obtain ⟨x, hx⟩ := Int.dvd_of_emod_eq_zero d
  obtain ⟨y, hy⟩ := it_div hc' hx hb
  obtain ⟨k, hkk⟩ : ∃ k, k = kOf m := ⟨_, rfl⟩
  rw [← hkk] at hk0 hk e
  -- k is not 0
  have hk1 : 1 ≤ k := by
    refine Decidable.byContradiction fun n => ?_
    have kz : k = 0 := by omega
    have key : ∀ r : Int, 0 < r → r < c → r = c * x → False := fun r r1 r2 r3 => by
      rcases Decidable.em (x < 1) with z | z
      · have := Int.mul_le_mul_of_nonneg_left (show x ≤ 0 by omega) (show 0 ≤ c by omega)
        omega
      · have := Int.mul_le_mul_of_nonneg_left (show 1 ≤ x by omega) (show 0 ≤ c by omega)
        omega
    rcases hk with ⟨_, z⟩ | ⟨_, z⟩
    · rw [show m = 1 by omega] at hx
      exact key (1 * q + p) (by omega) (by omega) hx
    · rw [show m = -1 by omega] at hx
      exact key (-1 * q + p) (by omega) (by omega) hx
  -- what it is
  obtain ⟨j, hj⟩ : ∃ j, j = (if m > 0 then k else -k) := ⟨_, rfl⟩
  rw [← hj] at e
  have hjk : j = k ∧ m = 2 * k + 1 ∨ j = -k ∧ m = -(2 * k + 1) := by
    rcases hk with ⟨z1, z2⟩ | ⟨z1, z2⟩
    · rw [if_pos z1] at hj; exact .inl ⟨hj, z2⟩
    · rw [if_neg z1] at hj; exact .inr ⟨hj, z2⟩
  have hkb : 2 * k + 1 < c := by omega
  have hg1 : Nat.gcd (k + 1).natAbs k.natAbs = 1 := by
    have := (spin_end (p := k + 1) (by omega)).1
    rwa [show k + 1 - 1 = k by omega] at this
  have hgj : Nat.gcd (k + 1).natAbs j.natAbs = 1 := by
    rcases hjk with ⟨z, _⟩ | ⟨z, _⟩ <;> rw [z]
    · exact hg1
    · rw [Int.natAbs_neg]; exact hg1
  have tu : Tn (k + 1) j 0 := ⟨by omega, by omega, by omega, by omega, hgj, by omega, by decide, by decide⟩
  have ej : j * j = k * k := by rcases hjk with ⟨z, _⟩ | ⟨z, _⟩ <;> rw [z] <;> grind
  have em : m * m = (2 * k + 1) * (2 * k + 1) := by rcases hjk with ⟨_, z⟩ | ⟨_, z⟩ <;> rw [z] <;> grind
  obtain ⟨U, hU⟩ : ∃ U, U = cc (k + 1) j := ⟨_, rfl⟩
  have h2U : 2 * U = m * m + 1 := by rw [hU, em]; unfold cc; rw [ej]; grind
  -- the product is a multiple of c
  obtain ⟨P, hP⟩ : ∃ P, P = (k + 1) * p - j * -q := ⟨_, rfl⟩
  obtain ⟨R, hR⟩ : ∃ R, R = (k + 1) * -q + j * p := ⟨_, rfl⟩
  obtain ⟨zP, hzP⟩ : ∃ z, P = c * z := by
    refine odd_half35 hodd (z := if m > 0 then x + y else x - y) ?_
    rcases hjk with ⟨z, z2⟩ | ⟨z, z2⟩
    · rw [if_pos (by omega), hP, z]
      have : 2 * ((k + 1) * p - k * -q) = ((2 * k + 1) * q + p) + ((2 * k + 1) * p - q) := by grind
      rw [this, ← z2, hx, hy]; grind
    · rw [if_neg (by omega), hP, z]
      have : 2 * ((k + 1) * p - -k * -q) = (-(2 * k + 1) * q + p) - (-(2 * k + 1) * p - q) := by grind
      rw [this, ← z2, hx, hy]; grind
  obtain ⟨zR, hzR⟩ : ∃ z, R = c * z := by
    refine odd_half35 hodd (z := if m > 0 then y - x else y + x) ?_
    rcases hjk with ⟨z, z2⟩ | ⟨z, z2⟩
    · rw [if_pos (by omega), hR, z]
      have : 2 * ((k + 1) * -q + k * p) = ((2 * k + 1) * p - q) - ((2 * k + 1) * q + p) := by grind
      rw [this, ← z2, hx, hy]; grind
    · rw [if_neg (by omega), hR, z]
      have : 2 * ((k + 1) * -q + -k * p) = (-(2 * k + 1) * p - q) + (-(2 * k + 1) * q + p) := by grind
      rw [this, ← z2, hx, hy]; grind
  have tb := tn_bk2 hT
  have ecb : cc p (-q) = c := by rw [hc]; unfold cc; grind
  have hbig : U * c ≤ 1000000000000000 * 1000000000000000 := by
    have h1 : m * m ≤ 10000000000 * 10000000000 := by
      have hn : m.natAbs ≤ 10000000000 := by omega
      have := Nat.mul_le_mul hn hn
      have e9 : m * m = ((m.natAbs * m.natAbs : Nat) : Int) := by rw [Int.natAbs_mul_self]
      rw [e9]; omega
    have h2 : U ≤ 10000000000 * 10000000000 := by omega
    have := Int.mul_le_mul h2 hcc (by omega) (by decide)
    omega
  obtain ⟨a, b, mm, J⟩ := jn_exC tu tb (by rw [ecb, ← hU]; exact hbig)
  have hv := J.t
  have J2 := J
  obtain ⟨⟨_, _, _, _, gv, _, _, _⟩, g, jj, g1, hjj, e1, e2, _⟩ := J
  rw [← hP] at e1
  rw [← hR] at e2
  obtain ⟨s2, t2, hb2⟩ := bez gv
  obtain ⟨z, hz⟩ := rt_dv hjj hb2 (e1.symm.trans hzP) (e2.symm.trans hzR)
  have hc3 : 3 ≤ c := by omega
  have hPR : P * P + R * R = U * c := by rw [hP, hR, hU, hc']; unfold cc; grind
  have hgg : P * P + R * R = g * g * cc a b := gg35 e1 e2 (rt_sq2 jj a b)
  have hz1 : 1 ≤ z := by
    rcases Decidable.em (z < 1) with n | n
    · have := Int.mul_le_mul_of_nonneg_left (show z ≤ 0 by omega) (show 0 ≤ c by omega)
      omega
    · omega
  have hE : c * (z * z * cc a b) = U := by
    have : c * (c * (z * z * cc a b)) = c * U := by
      exact ee35 (hPR.symm.trans hgg) hz
    exact Int.eq_of_mul_eq_mul_left (by omega) this
  have hlm : m * m ≤ (c - 2) * (c - 2) := by
    rw [em]
    exact Int.mul_le_mul (by omega) (by omega) (by omega) (by omega)
  rw [e]
  refine ⟨⟨tu, ?_⟩, ?_, ⟨?_, ?_, ?_⟩, (a, b, mm), J2, it_less hc3 hlm hz1 (cc_one hv) h2U hE⟩
  · show keepsP (k + 1) j
    unfold keepsP
    rcases hjk with ⟨z, _⟩ | ⟨z, _⟩ <;> rw [z] <;> split <;> omega
  · show j ≠ 0; omega
  · show k + 1 ≤ _; omega
  · show _ ≤ j; omega
  · show j ≤ _; omega

end Tp
namespace Tp
open PySem PySem.Spec PyProof.Rows L2 DL
/-! ### k41: the way, item by item -/
open Classical in
noncomputable def nxT (t : Trn) : Trn × Trn := if h : ∃ uv : Trn × Trn, ItR t uv.1 ∧ Jn uv.1.1 uv.1.2.1 uv.1.2.2 t.1 (-t.2.1) (-t.2.2 % 4) uv.2.1 uv.2.2.1 uv.2.2.2 then Classical.choose h else (t, t)
theorem nxT_eq {t u v : Trn} (hT : TnT t) (hI : ItR t u) (J : Jn u.1 u.2.1 u.2.2 t.1 (-t.2.1) (-t.2.2 % 4) v.1 v.2.1 v.2.2) : nxT t = (u, v) := by
  have h : ∃ uv : Trn × Trn, ItR t uv.1 ∧ Jn uv.1.1 uv.1.2.1 uv.1.2.2 t.1 (-t.2.1) (-t.2.2 % 4) uv.2.1 uv.2.2.1 uv.2.2.2 := ⟨(u, v), hI, J⟩
  unfold nxT
  rw [dif_pos h]
  have sp := Classical.choose_spec h
  generalize Classical.choose h = c at sp
  obtain ⟨u', v'⟩ := c
  obtain ⟨h1, h2⟩ := sp
  have eu : u = u' := it_uniq hT hI h1
  subst eu
  obtain ⟨e1, e2, e3⟩ := pj_uniq (jn_pj J) (jn_pj h2) rfl
  exact Prod.ext rfl (Prod.ext e1.symm (Prod.ext e2.symm e3.symm))
noncomputable def tN (t : Trn) : Nat → Trn
  | 0 => t
  | n + 1 => (nxT (tN t n)).2
noncomputable def uN (t : Trn) (n : Nat) : Trn := (nxT (tN t n)).1
def fwB (n : Nat) : Bool := n % 2 == 0
theorem fwB_succ (n : Nat) : fwB (n + 1) = !fwB n := by
  unfold fwB
  rcases Nat.mod_two_eq_zero_or_one n with h | h
  · rw [show (n + 1) % 2 = 1 by omega, h] <;> rfl
  · rw [show (n + 1) % 2 = 0 by omega, h] <;> rfl
noncomputable def iN (t : Trn) (n : Nat) : Trn := if fwB n then uN t n else bkT (uN t n)
noncomputable def wN (t : Trn) (n : Nat) : List Trn := (List.range n).map (iN t)
theorem wN_succ (t : Trn) (n : Nat) : wN t (n + 1) = wN t n ++ [iN t n] := by
  unfold wN
  rw [List.range_succ, List.map_append]
  rfl
theorem wN_len (t : Trn) (n : Nat) : (wN t n).length = n := by unfold wN; rw [List.length_map, List.length_range]
def SmT (u : Trn) : Prop := u.1 ≤ 10000000000 ∧ -10000000000 ≤ u.2.1 ∧ u.2.1 ≤ 10000000000
structure WSt (t : Trn) (n : Nat) : Prop where
  tn : TnT (tN t n)
  sz : ((2 ^ n : Nat) : Int) * cc (tN t n).1 (tN t n).2.1 ≤ cc t.1 t.2.1
  its : ∀ u ∈ wN t n, KW u ∧ u.2.1 ≠ 0 ∧ SmT u
  eq : EqR (mulL (sumL (wN t n)) (curL (fwB n) (tN t n))) (lgT t)
  nz : ∀ i, i < n → (tN t i).2.1 ≠ 0
theorem wst0 {t : Trn} (h : TnT t) : WSt t 0 := ⟨h, by show ((1 : Nat) : Int) * _ ≤ _; exact Int.le_of_eq (Int.one_mul _), (fun _ z => nomatch z), by
  show EqR (mulL (1, 0, 1) (lgT t)) (lgT t)
  have : mulL (1, 0, 1) (lgT t) = lgT t := by
    unfold mulL
    dsimp only
    refine Prod.ext ?_ (Prod.ext ?_ ?_) <;> dsimp only <;> omega
  rw [this]
  exact EqR.rf _, fun _ z => absurd z (Nat.not_lt_zero _)⟩
theorem cc_pT {t : Trn} (h : TnT t) : 1 ≤ cc t.1 t.2.1 := cc_one h
theorem WSt.le {t : Trn} {n : Nat} (h : WSt t n) : cc (tN t n).1 (tN t n).2.1 ≤ cc t.1 t.2.1 := by
  have h1 := h.sz
  have h2 := cc_pT h.tn
  have h3 : (1 : Int) ≤ ((2 ^ n : Nat) : Int) := by have := Nat.one_le_two_pow (n := n); omega
  have := Int.mul_le_mul_of_nonneg_right h3 (show 0 ≤ cc (tN t n).1 (tN t n).2.1 by omega)
  omega
theorem WSt.few {t : Trn} {n : Nat} (h : WSt t n) (hc : cc t.1 t.2.1 ≤ 10000000000) : n ≤ 33 ∧ ((2 ^ n : Nat) : Int) ≤ cc t.1 t.2.1 := by
  have h1 := h.sz
  have h2 := cc_pT h.tn
  have := Int.mul_le_mul_of_nonneg_left h2 (Int.natCast_nonneg (2 ^ n))
  have hn : ((2 ^ n : Nat) : Int) ≤ cc t.1 t.2.1 := by omega
  refine ⟨Decidable.byContradiction fun z => ?_, hn⟩
  have := Nat.pow_le_pow_right (show 1 ≤ 2 by decide) (show 34 ≤ n by omega)
  have e : (2 : Nat) ^ 34 = 17179869184 := by decide
  omega
theorem it_sm {u : Trn} (h : SmT u) : SmT (bkT u) := ⟨h.1, by have := h.2.2; show _ ≤ -u.2.1; omega, by have := h.2.1; show -u.2.1 ≤ _; omega⟩
theorem WSt.step {t u : Trn} {n : Nat} (h : WSt t n) (hc : cc t.1 t.2.1 ≤ 10000000000) (hq : (tN t n).2.1 ≠ 0) (hI : ItR (tN t n) u) :
    ∃ v : Trn, uN t n = u ∧ KW u ∧ Jn u.1 u.2.1 u.2.2 (tN t n).1 (-(tN t n).2.1) (-(tN t n).2.2 % 4) v.1 v.2.1 v.2.2 ∧ tN t (n + 1) = v ∧ WSt t (n + 1) ∧ cc v.1 v.2.1 < cc (tN t n).1 (tN t n).2.1 := by
  have hle := h.le
  obtain ⟨kw, nz, sm, v, J, less⟩ := it_main h.tn hq (by omega) hI
  have hnx := nxT_eq h.tn hI J
  have e1 : uN t n = u := congrArg Prod.fst hnx
  have e2 : tN t (n + 1) = v := congrArg Prod.snd hnx
  have hv : TnT v := J.t
  have h1 := cc_pT hv
  refine ⟨v, e1, kw, J, e2, ⟨by rw [e2]; exact hv, ?_, ?_, ?_, fun i hi => ?_⟩, by omega⟩
  · have hs := h.sz
    rw [e2, Nat.pow_succ, Int.natCast_mul, Int.mul_assoc]
    have := Int.mul_le_mul_of_nonneg_left (show ((2 : Nat) : Int) * cc v.1 v.2.1 ≤ cc (tN t n).1 (tN t n).2.1 by omega) (Int.natCast_nonneg (2 ^ n))
    omega
  · intro w hw
    rw [wN_succ] at hw
    rcases List.mem_append.mp hw with z | z
    · exact h.its w z
    · have z := List.mem_singleton.mp z
      subst z
      unfold iN
      rw [e1]
      split
      · exact ⟨kw, nz, sm⟩
      · exact ⟨kw_bk kw, by show -u.2.1 ≠ 0; omega, it_sm sm⟩
  · rw [wN_succ, sumL_app, fwB_succ, e2]
    unfold iN
    rw [e1]
    exact way_step (fwB n) (sumL_pos fun w hw => (h.its w hw).1.1) kw.1 h.tn hv (jn_eqR kw.1 (bk_tn h.tn) J) h.eq
  · rcases Nat.lt_or_ge i n with z | z
    · exact h.nz i z
    · rw [show i = n by omega]; exact hq
def Fin41 (t : Trn) (n : Nat) : Prop := WSt t n ∧ (tN t n).2.1 = 0
theorem fin_uniq {t : Trn} {n m : Nat} (h : Fin41 t n) (k : Fin41 t m) : n = m := by
  rcases Nat.lt_trichotomy n m with z | z | z
  · exact absurd h.2 (k.1.nz n z)
  · exact z
  · exact absurd k.2 (h.1.nz m z)
noncomputable def wF (t : Trn) (n : Nat) : List Trn := if (tN t n).2.2 ≠ 0 then wN t n ++ [if fwB n then tN t n else bkT (tN t n)] else wN t n
open Classical in
noncomputable def wayOf (t : Trn) : List Trn := if h : ∃ n, Fin41 t n then wF t (Classical.choose h) else []
theorem wayOf_eq {t : Trn} {n : Nat} (h : Fin41 t n) : wayOf t = wF t n := by
  have hx : ∃ n, Fin41 t n := ⟨n, h⟩
  unfold wayOf
  rw [dif_pos hx, fin_uniq (Classical.choose_spec hx) h]
structure WayOk (t : Trn) (W : List Trn) : Prop where
  kw : ∀ u ∈ W, KW u
  sm : ∀ u ∈ W, SmT u
  len : W.length ≤ 34
  eq : EqR (sumL W) (lgT t)
  cnt : ((2 ^ (W.filter fun u => !decide (u.2.1 = 0)).length : Nat) : Int) ≤ cc t.1 t.2.1
theorem q_zero {t : Trn} (h : TnT t) (z : t.2.1 = 0) : t.1 = 1 := by
  have g : Nat.gcd t.1.natAbs t.2.1.natAbs = 1 := h.g
  have := h.p1
  rw [z] at g
  have g : t.1.natAbs = 1 := by simpa using g
  omega
theorem flt_all {α : Type} {f : α → Bool} : ∀ {l : List α}, (∀ x ∈ l, f x = true) → l.filter f = l
  | [], _ => rfl
  | a :: l, h => by rw [List.filter_cons, if_pos (h a List.mem_cons_self), flt_all fun x hx => h x (List.mem_cons_of_mem _ hx)]
theorem way_ok {t : Trn} {n : Nat} (h : Fin41 t n) (hc : cc t.1 t.2.1 ≤ 10000000000) : WayOk t (wF t n) := by
  obtain ⟨h, z⟩ := h
  obtain ⟨hn, h2⟩ := h.few hc
  have p1 := q_zero h.tn z
  have hfl : (wN t n).filter (fun u : Trn => !decide (u.2.1 = 0)) = wN t n := flt_all fun u hu => by have := (h.its u hu).2.1; simpa using this
  have htk : tN t n = (1, 0, (tN t n).2.2) := Prod.ext p1 (Prod.ext z rfl)
  have hkw : KW (tN t n) := ⟨h.tn, by rw [p1, z]; decide⟩
  have heq := h.eq
  unfold wF
  split
  · have hl : KW (if fwB n then tN t n else bkT (tN t n)) ∧ SmT (if fwB n then tN t n else bkT (tN t n)) ∧ (if fwB n then tN t n else bkT (tN t n)).2.1 = 0 := by
      have s : SmT (tN t n) := ⟨by omega, by omega, by omega⟩
      split
      · exact ⟨hkw, s, z⟩
      · exact ⟨kw_bk hkw, it_sm s, by show -(tN t n).2.1 = 0; omega⟩
    refine ⟨fun u hu => ?_, fun u hu => ?_, ?_, ?_, ?_⟩
    · rcases List.mem_append.mp hu with y | y
      · exact (h.its u y).1
      · rw [List.mem_singleton.mp y]; exact hl.1
    · rcases List.mem_append.mp hu with y | y
      · exact (h.its u y).2.2
      · rw [List.mem_singleton.mp y]; exact hl.2.1
    · rw [List.length_append, wN_len]
      show n + 1 ≤ 34
      omega
    · rw [sumL_app]
      rw [htk] at heq ⊢
      exact way_end (fwB n) (sumL_pos fun w hw => (h.its w hw).1.1) heq
    · rw [List.filter_append, hfl]
      have : List.filter (fun u : Trn => !decide (u.2.1 = 0)) [if fwB n then tN t n else bkT (tN t n)] = [] := by
        rw [List.filter_cons, if_neg (by rw [hl.2.2]; decide)]
        rfl
      rw [this, List.append_nil, wN_len]
      exact h2
  · rename_i y
    have y : (tN t n).2.2 = 0 := Decidable.not_not.mp y
    refine ⟨fun u hu => (h.its u hu).1, fun u hu => (h.its u hu).2.2, by rw [wN_len]; omega, ?_, by rw [hfl, wN_len]; exact h2⟩
    rw [htk, y] at heq
    exact way_end0 (fwB n) heq
/-! ### the legs that a way comes to -/
def gst (v : Int × Int) (t : Trn) : Int × Int := (v.1 * t.1 - v.2 * t.2.1, v.1 * t.2.1 + v.2 * t.1)
def gpr (l : List Trn) : Int × Int := l.foldl gst (1, 0)
def qsm (l : List Trn) : Int := l.foldl (fun a t => a + t.2.2) 0
theorem gpr_take {l : List Trn} {i : Nat} {t : Trn} (h : l[i]? = some t) : gpr (l.take (i + 1)) = gst (gpr (l.take i)) t ∧ qsm (l.take (i + 1)) = qsm (l.take i) + t.2.2 := by
  unfold gpr qsm
  rw [List.take_add_one, h, List.foldl_append, List.foldl_append]
  exact ⟨rfl, rfl⟩
def legP (x y K : Int) : Int × Int × Int := (rtX (K % 4).toNat (x * x - y * y) (x * y + y * x), rtY (K % 4).toNat (x * x - y * y) (x * y + y * x), x * x + y * y)
theorem legP_mul {x y K : Int} {t : Trn} (h : TnT t) : mulL (legP x y K) (lgT t) = legP (gst (x, y) t).1 (gst (x, y) t).2 (K + t.2.2) := by
  obtain ⟨p, q, k⟩ := t
  have k1 := h.k1
  have k2 := h.k2
  have k1 : 0 ≤ k := k1
  have k2 : k ≤ 3 := k2
  obtain ⟨e1, e2⟩ := rt_mul (k := K % 4) (l := k) ⟨by omega, by omega⟩ ⟨k1, by omega⟩ (x * x - y * y) (x * y + y * x) (p * p - q * q) (p * q + q * p)
  unfold mulL legP lgT lgA lgB gst
  dsimp only
  have em : (K % 4 + k) % 4 = (K + k) % 4 := by omega
  refine Prod.ext ?_ (Prod.ext ?_ ?_) <;> dsimp only
  · rw [e1, em]
    congr 1 <;> grind
  · rw [e2, em]
    congr 1 <;> grind
  · unfold cc
    grind
theorem sum_leg (l : List Trn) (h : ∀ t ∈ l, TnT t) : sumL l = legP (gpr l).1 (gpr l).2 (qsm l) := by
  have key : ∀ (l : List Trn) (v : Int × Int) (K : Int), (∀ t ∈ l, TnT t) → l.foldl (fun a t => mulL a (lgT t)) (legP v.1 v.2 K) = legP (l.foldl gst v).1 (l.foldl gst v).2 (l.foldl (fun a t => a + t.2.2) K) := by
    intro l
    induction l with
    | nil => intro v K _; rfl
    | cons t l ih =>
      intro v K h
      rw [List.foldl_cons, List.foldl_cons, List.foldl_cons, legP_mul (h t List.mem_cons_self)]
      exact ih (gst v t) _ fun u hu => h u (List.mem_cons_of_mem _ hu)
  have := key l (1, 0) 0 h
  unfold sumL gpr qsm
  rw [← this]
  rfl
theorem cc_gst (v : Int × Int) (t : Trn) : cc (gst v t).1 (gst v t).2 = cc v.1 v.2 * cc t.1 t.2.1 := by unfold gst cc; grind
theorem gpr_odd {l : List Trn} (h : ∀ t ∈ l, TnT t) : cc (gpr l).1 (gpr l).2 % 2 = 1 ∧ 0 < cc (gpr l).1 (gpr l).2 := by
  have key : ∀ (l : List Trn) (v : Int × Int), cc v.1 v.2 % 2 = 1 ∧ 0 < cc v.1 v.2 → (∀ t ∈ l, TnT t) → cc (l.foldl gst v).1 (l.foldl gst v).2 % 2 = 1 ∧ 0 < cc (l.foldl gst v).1 (l.foldl gst v).2 := by
    intro l
    induction l with
    | nil => intro v hv _; exact hv
    | cons t l ih =>
      intro v hv h
      refine ih (gst v t) ?_ fun u hu => h u (List.mem_cons_of_mem _ hu)
      have ht : TnT t := h t List.mem_cons_self
      have h1 := cc_odd ht
      have h2 := cc_pos ht
      rw [cc_gst, Int.mul_emod, hv.1, h1]
      exact ⟨rfl, Int.mul_pos hv.2 h2⟩
  exact key l (1, 0) ⟨by decide, by decide⟩ h
theorem gst_bd {n k : Nat} {v : Int × Int} {t : Trn} (h : BdP n v) (h1 : Bd k t.1) (h2 : Bd k t.2.1) : BdP (n + k + 1) (gst v t) := ⟨((h.1.mul h1).sub (h.2.mul h2)).up (by omega), ((h.1.mul h2).add (h.2.mul h1)).up (by omega)⟩
theorem gpr_bd {k : Nat} {l : List Trn} (h : ∀ t ∈ l, Bd k t.1 ∧ Bd k t.2.1) (i : Nat) : BdP (1 + (k + 1) * i) (gpr (l.take i)) := by
  induction i with
  | zero => rw [List.take_zero]; exact ⟨by rw [Nat.mul_zero]; show Bd 1 (1 : Int); unfold Bd; decide, by rw [Nat.mul_zero]; show Bd 1 (0 : Int); unfold Bd; decide⟩
  | succ i ih =>
    rcases Nat.lt_or_ge i l.length with z | z
    · obtain ⟨t, ht⟩ : ∃ t, l[i]? = some t := ⟨l[i], List.getElem?_eq_getElem z⟩
      rw [(gpr_take ht).1]
      obtain ⟨b1, b2⟩ := h t (List.mem_of_getElem? ht)
      have := gst_bd ih b1 b2
      refine ⟨this.1.up ?_, this.2.up ?_⟩ <;> rw [Nat.mul_succ] <;> omega
    · rw [show l.take (i + 1) = l.take i by rw [List.take_of_length_le (by omega), List.take_of_length_le z]]
      refine ⟨ih.1.up ?_, ih.2.up ?_⟩ <;> rw [Nat.mul_succ] <;> omega
theorem qsm_bd {l : List Trn} (h : ∀ t ∈ l, TnT t) (i : Nat) : 0 ≤ qsm (l.take i) ∧ qsm (l.take i) ≤ 3 * (i : Int) := by
  induction i with
  | zero => rw [List.take_zero]; exact ⟨Int.le_refl _, Int.le_refl _⟩
  | succ i ih =>
    rcases Nat.lt_or_ge i l.length with z | z
    · obtain ⟨t, ht⟩ : ∃ t, l[i]? = some t := ⟨l[i], List.getElem?_eq_getElem z⟩
      have ht' : TnT t := h t (List.mem_of_getElem? ht)
      have := ht'.k1
      have := ht'.k2
      rw [(gpr_take ht).2]
      omega
    · rw [show l.take (i + 1) = l.take i by rw [List.take_of_length_le (by omega), List.take_of_length_le z]]
      omega
/-- legs without a common divisor -/
theorem co_sq {x y : Int} (g : Nat.gcd x.natAbs y.natAbs = 1) (o : cc x y % 2 = 1) : ∃ s t : Int, s * (x * x - y * y) + t * (x * y + y * x) = 1 := by
  obtain ⟨s, t, b⟩ := bez g
  obtain ⟨j, hj⟩ : ∃ j, cc x y = 2 * j + 1 := ⟨cc x y / 2, by omega⟩
  obtain ⟨s2, t2, e2⟩ : ∃ s t : Int, s * (x * x - y * y) + t * cc x y = 1 := by
    obtain ⟨α, hα⟩ : ∃ α, α = s * s * s * x + 3 * s * s * t * y := ⟨_, rfl⟩
    obtain ⟨β, hβ⟩ : ∃ β, β = 3 * s * t * t * x + t * t * t * y := ⟨_, rfl⟩
    have e : x * x * α + y * y * β = 1 := by
      have : x * x * α + y * y * β = (s * x + t * y) * (s * x + t * y) * (s * x + t * y) := by rw [hα, hβ]; grind
      rw [this, b] <;> rfl
    refine ⟨-j * (α - β), 1 - j * (α + β), ?_⟩
    have e2 : -j * (α - β) * (x * x - y * y) + (1 - j * (α + β)) * cc x y = cc x y - 2 * j * (x * x * α + y * y * β) := by unfold cc; grind
    rw [e2, e, hj]
    omega
  refine ⟨s2 * s2 * (x * x - y * y) + 2 * s2 * t2 * cc x y + t2 * t2 * (x * x - y * y), t2 * t2 * (x * y + y * x), ?_⟩
  have c2 : cc x y * cc x y = (x * x - y * y) * (x * x - y * y) + (x * y + y * x) * (x * y + y * x) := by unfold cc; grind
  generalize x * x - y * y = a at *
  generalize x * y + y * x = b at *
  generalize cc x y = c at *
  have : (s2 * s2 * a + 2 * s2 * t2 * c + t2 * t2 * a) * a + t2 * t2 * b * b = (s2 * a + t2 * c) * (s2 * a + t2 * c) + t2 * t2 * (a * a + b * b - c * c) := by grind
  rw [this, e2, c2]
  grind
structure Prm (z : Int × Int × Int) : Prop where
  p : 0 < z.2.2
  co : ∃ s t : Int, s * z.1 + t * z.2.1 = 1
theorem prm_legP {x y : Int} (K : Int) (g : Nat.gcd x.natAbs y.natAbs = 1) (o : cc x y % 2 = 1) : Prm (legP x y K) := by
  obtain ⟨s, t, e⟩ := co_sq g o
  have hp : 0 < x * x + y * y := by
    have h1 := sq_nn x
    have h2 := sq_nn y
    have o : (x * x + y * y) % 2 = 1 := o
    omega
  refine ⟨hp, ?_⟩
  show ∃ s t : Int, s * rtX (K % 4).toNat (x * x - y * y) (x * y + y * x) + t * rtY (K % 4).toNat (x * x - y * y) (x * y + y * x) = 1
  generalize (K % 4).toNat = j
  generalize x * x - y * y = a at *
  generalize x * y + y * x = b at *
  match j with
  | 0 => exact ⟨s, t, e⟩
  | 1 => exact ⟨-t, s, by show -t * -b + s * a = 1; grind⟩
  | 2 => exact ⟨-s, -t, by show -s * -a + -t * -b = 1; grind⟩
  | _ + 3 => exact ⟨t, -s, by show t * b + -s * -a = 1; grind⟩
theorem prm_lg {t : Trn} (h : TnT t) : Prm (lgT t) := ⟨cc_pos h, bez (gcd_lg h)⟩
theorem pos_r {a b : Int} (h : 0 < a * b) (ha : 0 < a) : 0 < b := by
  refine Decidable.byContradiction fun n => ?_
  have := Int.mul_le_mul_of_nonneg_left (show b ≤ 0 by omega) (show 0 ≤ a by omega)
  omega
theorem prm_uniq {z w : Int × Int × Int} (hz : Prm z) (hw : Prm w) (h : EqR z w) : z = w := by
  obtain ⟨A, B, C⟩ := z
  obtain ⟨a, b, c⟩ := w
  obtain ⟨hC, s, t, e⟩ := hz
  obtain ⟨hc, s', t', e'⟩ := hw
  obtain ⟨h1, h2⟩ := h
  dsimp only at *
  have k1 : c = C * (s * a + t * b) := by
    have : c * (s * A + t * B) = s * (A * c) + t * (B * c) := by grind
    rw [e, h1, h2] at this
    grind
  have k2 : C = c * (s' * A + t' * B) := by
    have : C * (s' * a + t' * b) = s' * (a * C) + t' * (b * C) := by grind
    rw [e', ← h1, ← h2] at this
    grind
  have ec : C = c := by
    have p1 : 0 < s * a + t * b := pos_r (by rw [← k1]; exact hc) hC
    have p2 : 0 < s' * A + t' * B := pos_r (by rw [← k2]; exact hC) hc
    have l1 : C ≤ c := by
      have := Int.mul_le_mul_of_nonneg_left (show 1 ≤ s * a + t * b by omega) (show 0 ≤ C by omega)
      omega
    have l2 : c ≤ C := by
      have := Int.mul_le_mul_of_nonneg_left (show 1 ≤ s' * A + t' * B by omega) (show 0 ≤ c by omega)
      omega
    omega
  subst ec
  have ha : A = a := Int.eq_of_mul_eq_mul_right (by omega) h1
  have hb : B = b := Int.eq_of_mul_eq_mul_right (by omega) h2
  rw [ha, hb]
/-- what a way comes to, in lowest terms -/
def prmL (l : List Trn) : Int × Int × Int := legP ((gpr l).1 / ((Nat.gcd (gpr l).1.natAbs (gpr l).2.natAbs : Nat) : Int)) ((gpr l).2 / ((Nat.gcd (gpr l).1.natAbs (gpr l).2.natAbs : Nat) : Int)) (qsm l)
theorem gcd_div {x y : Int} (h : 0 < Nat.gcd x.natAbs y.natAbs) : ∃ g u v : Int, g = ((Nat.gcd x.natAbs y.natAbs : Nat) : Int) ∧ 0 < g ∧ x = g * u ∧ y = g * v ∧ x / g = u ∧ y / g = v ∧ Nat.gcd u.natAbs v.natAbs = 1 := by
  obtain ⟨u, hu⟩ := PySem.W.mg_dvd_left x y
  obtain ⟨v, hv⟩ := PySem.W.mg_dvd_right x y
  obtain ⟨g, hg⟩ : ∃ g, g = Nat.gcd x.natAbs y.natAbs := ⟨_, rfl⟩
  rw [← hg] at hu hv h
  refine ⟨(g : Int), u, v, by rw [hg], by omega, hu, hv, by rw [hu]; exact Int.mul_ediv_cancel_left _ (by omega), by rw [hv]; exact Int.mul_ediv_cancel_left _ (by omega), ?_⟩
  have : g * Nat.gcd u.natAbs v.natAbs = g := by
    rw [← Nat.gcd_mul_left]
    have e1 : g * u.natAbs = x.natAbs := by rw [hu, Int.natAbs_mul, Int.natAbs_natCast]
    have e2 : g * v.natAbs = y.natAbs := by rw [hv, Int.natAbs_mul, Int.natAbs_natCast]
    rw [e1, e2, ← hg]
  exact Nat.eq_of_mul_eq_mul_left h (by omega)
theorem prm_sum {l : List Trn} (h : ∀ t ∈ l, TnT t) : Prm (prmL l) ∧ EqR (prmL l) (sumL l) := by
  obtain ⟨o, pos⟩ := gpr_odd h
  rw [sum_leg l h]
  unfold prmL
  generalize gpr l = v at *
  obtain ⟨x, y⟩ := v
  dsimp only at *
  have hg : 0 < Nat.gcd x.natAbs y.natAbs := by
    rcases Nat.eq_zero_or_pos (Nat.gcd x.natAbs y.natAbs) with z | z
    · have h1 : x = 0 := by have := Nat.eq_zero_of_gcd_eq_zero_left z; omega
      have h2 : y = 0 := by have := Nat.eq_zero_of_gcd_eq_zero_right z; omega
      rw [h1, h2] at o
      exact absurd o (by decide)
    · exact z
  obtain ⟨g, u, v, e0, g0, e1, e2, e3, e4, e5⟩ := gcd_div hg
  rw [← e0, e3, e4]
  have o2 : cc u v % 2 = 1 := by
    rcases Int.emod_two_eq (cc u v) with z | z
    · have : cc x y = g * g * cc u v := by rw [e1, e2]; unfold cc; grind
      rw [this, Int.mul_emod, z, Int.mul_zero] at o
      exact absurd o (by decide)
    · exact z
  refine ⟨prm_legP _ e5 o2, ?_⟩
  rw [e1, e2]
  unfold EqR legP
  dsimp only
  generalize (qsm l % 4).toNat = j
  match j with
  | 0 => exact ⟨by simp only [rtX, rtY]; grind, by simp only [rtX, rtY]; grind⟩
  | 1 => exact ⟨by simp only [rtX, rtY]; grind, by simp only [rtX, rtY]; grind⟩
  | 2 => exact ⟨by simp only [rtX, rtY]; grind, by simp only [rtX, rtY]; grind⟩
  | _ + 3 => exact ⟨by simp only [rtX, rtY]; grind, by simp only [rtX, rtY]; grind⟩
theorem prm_way {t : Trn} {l : List Trn} (hT : TnT t) (h : ∀ u ∈ l, TnT u) (e : EqR (sumL l) (lgT t)) : prmL l = lgT t := by
  obtain ⟨h1, h2⟩ := prm_sum h
  exact prm_uniq h1 (prm_lg hT) (EqR.tr (sumL_pos h) h2 e)

end Tp
namespace Tp
open PySem PySem.Spec PyProof.Rows L2 DL
/-! ### k41: what is promised -/
def con_timesG : Con := fun ds S Q => ∃ x y r s, ds = [.tup [.int x, .int y], .tup [.int r, .int s]] ∧ (Bd 14000 x ∧ Bd 14000 y ∧ Bd 14000 r ∧ Bd 14000 s) ∧ Q (.tup [.int (x * r - y * s), .int (x * s + y * r)]) S
def con_mult41 : Con := fun ds S Q => ∃ t : Trn, ds = [.tup [.int t.1, .int t.2.1, .int t.2.2]] ∧ TnT t ∧ t.2.1 ≠ 0 ∧ cc t.1 t.2.1 ≤ 10000000000 ∧ ∀ u, ItR t u → Q (.tup [.int u.1, .int u.2.1, .int u.2.2]) S
def con_wayfX (CT : Addr) : ConX := fun ds S Q R => ∃ t : Trn, ds = [.tup [.int t.1, .int t.2.1, .int t.2.2]] ∧ TnT t ∧ (10000000000 < cc t.1 t.2.1 → R ⟨.ref CT, some ("limit", .int 10000000000)⟩ S) ∧ (cc t.1 t.2.1 ≤ 10000000000 → ∀ a, getS a S = none → WayOk t (wayOf t) → Q (.raw (.ref a)) ((a, (wayOf t).map trD) :: S))
structure BdW (k : Nat) (l : List Trn) : Prop where
  tn : ∀ t ∈ l, TnT t
  bd : ∀ t ∈ l, Bd k t.1 ∧ Bd k t.2.1
  len : l.length ≤ 1000
  all : (k + 1) * l.length ≤ 6000
def con_legal : Con := fun ds S Q => ∃ (l : List Trn) (k : Nat), ds = [.lst (l.map trD)] ∧ BdW k l ∧ Q (.tup [.int (prmL l).1, .int (prmL l).2.1, .int (prmL l).2.2]) S
theorem noS_src1 {p : Addr} {l : List D} {m : Nat} (h : Src m l) : noS [(p, l)] := by
  obtain ⟨a, b, c, e, _⟩ := h
  exact noS_cons (by rw [e] <;> rfl) noS_nil
theorem sm_bd {u : Trn} (h : SmT u) (hT : TnT u) : Bd 34 u.1 ∧ Bd 34 u.2.1 := by
  have := h.1
  have := h.2.1
  have := h.2.2
  have := hT.p1
  constructor <;> unfold Bd <;> omega
theorem WayOk.bw {t : Trn} {W : List Trn} (h : WayOk t W) : BdW 34 W := ⟨fun u hu => (h.kw u hu).1, fun u hu => sm_bd (h.sm u hu) (h.kw u hu).1, by have := h.len; omega, by have := h.len; omega⟩
theorem rt_q41 (k X Y : Int) (h : 0 ≤ k ∧ k < 4) : X * rtX k.toNat 1 0 - Y * rtY k.toNat 1 0 = rtX k.toNat X Y ∧ X * rtY k.toNat 1 0 + Y * rtX k.toNat 1 0 = rtY k.toNat X Y := by
  rcases four h with e | e | e | e <;> subst e <;> simp [rtX, rtY]
theorem rt_q1 (k : Nat) : Bd 1 (rtX k 1 0) ∧ Bd 1 (rtY k 1 0) := by
  match k with
  | 0 => exact ⟨by unfold Bd; decide, by unfold Bd; decide⟩
  | 1 => exact ⟨by unfold Bd; decide, by unfold Bd; decide⟩
  | 2 => exact ⟨by unfold Bd; decide, by unfold Bd; decide⟩
  | _ + 3 => exact ⟨by show Bd 1 (0 : Int); unfold Bd; decide, by show Bd 1 (-1 : Int); unfold Bd; decide⟩
theorem cc_sq2 (p q : Int) : p * p + q * q = cc p q := rfl
/-- the multiple: m as the program finds it -/
theorem it_v0 {p q c v m : Int} (hp : 0 < p ∧ p < c) (hc : 0 < c) (ho : c % 2 = 1) (hv : (v * q - 1) % c = 0) (hm : m = -p * v % c ∧ m % 2 ≠ 0 ∨ m = -p * v % c - c ∧ (-p * v % c) % 2 = 0) : m % 2 = 1 ∧ (-c < m ∧ m < c) ∧ (m * q + p) % c = 0 := by
  have r0 := Int.emod_nonneg (-p * v) (show c ≠ 0 by omega)
  have r1 := Int.emod_lt_of_pos (-p * v) hc
  have e0 := Int.mul_ediv_add_emod (-p * v) c
  obtain ⟨x, hx⟩ := Int.dvd_of_emod_eq_zero hv
  generalize -p * v / c = y at e0
  generalize hr : -p * v % c = r at *
  have key : ∀ m z : Int, m = r - c * z → (m * q + p) % c = 0 := fun m z hz => by
    have : m * q + p = c * (-(y * q) - z * q - p * x) := by
      have h1 : v * q = c * x + 1 := by omega
      have h2 : r = -p * v - c * y := by omega
      have h3 : m = -p * v - c * y - c * z := by omega
      have h4 : m * q = -p * (v * q) - c * (y * q) - c * (z * q) := by rw [h3]; grind
      rw [h4, h1]
      grind
    rw [this]
    exact Int.mul_emod_right _ _
  rcases hm with ⟨z1, z2⟩ | ⟨z1, z2⟩
  · exact ⟨by omega, ⟨by omega, by omega⟩, key m 0 (by omega)⟩
  · have hr0 : r ≠ 0 := fun z => by
      have := key 0 0 (by omega)
      rw [Int.zero_mul, Int.zero_add, Int.emod_eq_of_lt (by omega) hp.2] at this
      omega
    exact ⟨by omega, ⟨by omega, by omega⟩, key m 1 (by omega)⟩
theorem p_lt {t : Trn} (hT : TnT t) (hq : t.2.1 ≠ 0) : t.1 < cc t.1 t.2.1 := by
  have h1 : 1 ≤ t.1 := hT.p1
  have h2 : t.1 * 1 ≤ t.1 * t.1 := Int.mul_le_mul_of_nonneg_left h1 (by omega)
  have h3 : 0 < t.2.1 * t.2.1 := by
    rcases Int.lt_or_gt_of_ne hq with z | z
    · exact Int.mul_pos_of_neg_of_neg z z
    · exact Int.mul_pos z z
  unfold cc
  omega
theorem it_v {t : Trn} (hT : TnT t) (hq : t.2.1 ≠ 0) {v m : Int} (hv : (v * t.2.1 - 1) % cc t.1 t.2.1 = 0) (hm : m = -t.1 * v % cc t.1 t.2.1 ∧ m % 2 ≠ 0 ∨ m = -t.1 * v % cc t.1 t.2.1 - cc t.1 t.2.1 ∧ (-t.1 * v % cc t.1 t.2.1) % 2 = 0) (u : Trn) (hu : u = (kOf m + 1, (if m > 0 then kOf m else -kOf m), 0)) : ItR t u := by
  obtain ⟨h1, h2, h3⟩ := it_v0 ⟨by have := hT.p1; omega, p_lt hT hq⟩ (cc_pos hT) (cc_odd hT) hv hm
  exact ⟨m, h1, h2, h3, hu⟩
theorem gcd_p41 {x y g : Int} (h : 0 < cc x y) (e : g = ((Nat.gcd x.natAbs y.natAbs : Nat) : Int)) : 0 < g := by
  rcases Nat.eq_zero_or_pos (Nat.gcd x.natAbs y.natAbs) with z | z
  · have h1 : x = 0 := by have := Nat.eq_zero_of_gcd_eq_zero_left z; omega
    have h2 : y = 0 := by have := Nat.eq_zero_of_gcd_eq_zero_right z; omega
    rw [h1, h2] at h
    exact absurd h (by decide)
  · omega
theorem gcd_b41 {x y g : Int} {n : Nat} (h : 0 < cc x y) (e : g = ((Nat.gcd x.natAbs y.natAbs : Nat) : Int)) (bx : Bd n x) (by' : Bd n y) : Bd n g := by
  by_cases z : x = 0
  · have hy : y ≠ 0 := fun w => by rw [z, w] at h; exact absurd h (by decide)
    have := Nat.gcd_le_right (n := y.natAbs) x.natAbs (by omega)
    unfold Bd at *
    omega
  · have := Nat.gcd_le_left (m := x.natAbs) y.natAbs (by omega)
    unfold Bd at *
    omega
theorem wF_a {t : Trn} {n : Nat} (h : (tN t n).2.2 ≠ 0) : (wN t n).map trD ++ [trD (if fwB n then tN t n else bkT (tN t n))] = (wF t n).map trD := by unfold wF; rw [if_pos h, List.map_append] <;> rfl
theorem wF_b {t : Trn} {n : Nat} (h : (tN t n).2.2 = 0) : (wN t n).map trD = (wF t n).map trD := by unfold wF; rw [if_neg (fun z => z h)]
end Tp
namespace Tp
open PySem PySem.Spec PyProof.Rows L2 DL
/-! ### k80: products of ways -/
theorem mulL_comm (x y : Int × Int × Int) : mulL x y = mulL y x := by
  unfold mulL
  refine Prod.ext ?_ (Prod.ext ?_ ?_) <;> dsimp only <;> grind
theorem one_mulL (x : Int × Int × Int) : mulL (1, 0, 1) x = x := by rw [mulL_comm, mulL_one]
theorem fold_mul : ∀ (m : List Trn) (x : Int × Int × Int), m.foldl (fun a t => mulL a (lgT t)) x = mulL x (sumL m)
  | [], x => (mulL_one x).symm
  | t :: m, x => by
    unfold sumL
    rw [List.foldl_cons, List.foldl_cons, fold_mul m, fold_mul m, one_mulL, mulL_assoc]
theorem sumL_append (l m : List Trn) : sumL (l ++ m) = mulL (sumL l) (sumL m) := by
  unfold sumL
  rw [List.foldl_append]
  exact fold_mul m _
theorem sumL_cons (t : Trn) (l : List Trn) : sumL (t :: l) = mulL (lgT t) (sumL l) := by
  have := fold_mul l (mulL (1, 0, 1) (lgT t))
  rw [one_mulL] at this
  unfold sumL
  rw [List.foldl_cons, one_mulL]
  exact this
def conjL (z : Int × Int × Int) : Int × Int × Int := (z.1, -z.2.1, z.2.2)
theorem conj_mul (x y : Int × Int × Int) : conjL (mulL x y) = mulL (conjL x) (conjL y) := by
  unfold conjL mulL
  refine Prod.ext ?_ (Prod.ext ?_ ?_) <;> dsimp only <;> grind
theorem sumL_away : ∀ (l : List Trn), (∀ t ∈ l, TnT t) → sumL (l.reverse.map bkT) = conjL (sumL l)
  | [], _ => by decide
  | t :: l, h => by
    rw [List.reverse_cons, List.map_append, sumL_append, sumL_away l fun u hu => h u (List.mem_cons_of_mem _ hu), sumL_cons, conj_mul, mulL_comm]
    congr 1
    show sumL [bkT t] = _
    rw [sumL_cons, show sumL [] = (1, 0, 1) from rfl, mulL_one, lgT_bk (h t List.mem_cons_self)]
    rfl
theorem leg_sq (x y K : Int) : (legP x y K).1 * (legP x y K).1 + (legP x y K).2.1 * (legP x y K).2.1 = (legP x y K).2.2 * (legP x y K).2.2 := by
  unfold legP
  dsimp only
  rw [rt_sq2]
  unfold cc
  grind
theorem sum_unit {l : List Trn} (h : ∀ t ∈ l, TnT t) : EqR (mulL (sumL l) (conjL (sumL l))) (1, 0, 1) := by
  rw [sum_leg l h]
  have e := leg_sq (gpr l).1 (gpr l).2 (qsm l)
  generalize legP (gpr l).1 (gpr l).2 (qsm l) = z at e
  unfold EqR mulL conjL
  dsimp only
  constructor <;> grind
structure RdOk (n : Nat) (t : Trn) (l : List Trn) : Prop where
  tn : TnT t
  kw : ∀ u ∈ l, KW u
  sm : ∀ u ∈ l, SmT u
  len : l.length ≤ n
  eq : EqR (sumL l) (lgT t)
theorem RdOk.bw {n : Nat} {t : Trn} {l : List Trn} (h : RdOk n t l) (hn : n ≤ 120) : BdW 34 l := ⟨fun u hu => (h.kw u hu).1, fun u hu => sm_bd (h.sm u hu) (h.kw u hu).1, by have := h.len; omega, by have := h.len; omega⟩
theorem RdOk.le {n : Nat} {t : Trn} {l : List Trn} (h : RdOk n t l) (hn : n ≤ 120) : l.length ≤ 120 := Nat.le_trans h.len hn
theorem RdOk.of {t : Trn} {W : List Trn} (hT : TnT t) (h : WayOk t W) : RdOk 34 t W := ⟨hT, h.kw, h.sm, h.len, h.eq⟩
theorem mem_app {α : Type} {P : α → Prop} {l m : List α} (h : ∀ x ∈ l, P x) (k : ∀ x ∈ m, P x) : ∀ x ∈ l ++ m, P x := fun x hx => (List.mem_append.mp hx).elim (h x) (k x)
theorem RdOk.app {n m : Nat} {t u w : Trn} {l k : List Trn} (h : RdOk n t l) (h' : RdOk m u k) (J : Jn t.1 t.2.1 t.2.2 u.1 u.2.1 u.2.2 w.1 w.2.1 w.2.2) : RdOk (n + m) w (l ++ k) := by
  refine ⟨J.t, mem_app h.kw h'.kw, mem_app h.sm h'.sm, by rw [List.length_append]; have := h.len; have := h'.len; omega, ?_⟩
  rw [sumL_append]
  have pl := sumL_pos fun u hu => (h.kw u hu).1
  have pk := sumL_pos fun u hu => (h'.kw u hu).1
  refine EqR.tr (mulL_pos (lgT_pos h.tn) pk) (EqR.mulr h.eq _) ?_
  refine EqR.tr (mulL_pos (lgT_pos h.tn) (lgT_pos h'.tn)) (EqR.mull _ h'.eq) ?_
  exact jn_eqR h.tn h'.tn J
theorem RdOk.away {n : Nat} {t : Trn} {l : List Trn} (h : RdOk n t l) : RdOk n (bkT t) (l.reverse.map bkT) := by
  refine ⟨bk_tn h.tn, kw_rev h.kw, fun u hu => ?_, by rw [List.length_map, List.length_reverse]; exact h.len, ?_⟩
  · obtain ⟨v, hv, rfl⟩ := List.mem_map.mp hu
    exact it_sm (h.sm v (List.mem_reverse.mp hv))
  · rw [sumL_away l fun u hu => (h.kw u hu).1, lgT_bk h.tn]
    obtain ⟨e1, e2⟩ := h.eq
    unfold EqR conjL
    dsimp only
    exact ⟨e1, by rw [Int.neg_mul, Int.neg_mul, e2]⟩
theorem tn_unit : TnT (1, 0, 0) := ⟨by decide, by decide, by decide, by decide, by decide, by decide, by decide, by decide⟩
theorem lg_unit80 : lgT (1, 0, 0) = (1, 0, 1) := by decide +kernel
theorem RdOk.none {n : Nat} {t : Trn} {l : List Trn} (h : RdOk n t l) : RdOk (n + n) (1, 0, 0) (l ++ l.reverse.map bkT) := by
  have k := h.away
  refine ⟨tn_unit, mem_app h.kw k.kw, mem_app h.sm k.sm, by rw [List.length_append]; have := h.len; have := k.len; omega, ?_⟩
  rw [sumL_append, sumL_away l fun u hu => (h.kw u hu).1, lg_unit80]
  exact sum_unit fun u hu => (h.kw u hu).1
theorem tn_q {k : Int} (h : 0 ≤ k ∧ k ≤ 3) : TnT (1, 0, k) := show Tn 1 0 k from ⟨by decide, by decide, by decide, by decide, by decide, by decide, h.1, h.2⟩
end Tp
namespace Tp
open PySem PySem.Spec PyProof.Rows L2 DL
/-! ### k54: balls -/
/-! the image of the image by the back turn, where the hexagons are alike -/
/-! rows of strips, reckoned -/
end Tp
namespace Tp
open PySem PySem.Spec PyProof.Rows L2 DL
/-! ### k54: what is promised -/
end Tp
namespace Tp
open PySem PySem.Spec PyProof.Rows L2 DL
/-! ### k23: losses, of any value -/
structure LsE (x : D) : Prop where
  pt : ptD x = true
  fl : flatOk 8 x = true
  f9 : flatOk 9 x = true
  fb : flB x = true
  ln : ∀ l, x = .tup l → l.length ≤ 1000
  bd : PB 280 x
  sh : shQ x
  dp : dpD x ≤ 3
  wt : wtS x ≤ 9000
theorem LsE.any {K : PySem.W.Frag} {x : D} (h : LsE x) : Any K x := .pt h.pt h.ln
theorem cut_1 {v : D} {r : List D} : DL.cutD (v :: r) (some 1) none = r := by
  rw [cut_from (by decide) (by rw [List.length_cons]; omega)]
  rfl
theorem sl_1 {v : D} {r : List D} {S : Sto} {Q : D → Sto → Prop} (q : Q (.tup r) S) : slP (.tup (v :: r)) (some 1) none S Q := by
  refine ⟨fun h => ?_, by rw [cut_1]; exact q⟩
  have h1 := h.1
  unfold HT.sIx at h1
  simp at h1
/-! things -/
section
variable {P : Program} {w : World} {K : PySem.W.Frag}
end
theorem sl_m2 {a b : D} {S : Sto} {Q : D → Sto → Prop} (q : Q (.tup [a]) S) : slP (.tup [a, b]) none (some (-1)) S Q := ⟨(show ¬ (HT.sIx 2 0 none = 0 ∧ HT.sIx 2 2 (some (-1)) = 2) by decide), q⟩
theorem sl_m3 {a b c : D} {S : Sto} {Q : D → Sto → Prop} (q : Q (.tup [a, b]) S) : slP (.tup [a, b, c]) none (some (-1)) S Q := ⟨(show ¬ (HT.sIx 3 0 none = 0 ∧ HT.sIx 3 3 (some (-1)) = 3) by decide), q⟩
end Tp
namespace Tp
open PySem PySem.Spec PyProof.Rows L2 DL
/-! ### k44: ways, of any value -/
def kwB : D → Bool
  | .tup [.int p, .int q, .int k] => tnB p q k && decide (p = (if q < 0 then -q else q) + 1)
  | _ => false
theorem kwB_kw {d : D} (h : kwB d = true) : ∃ t : Trn, d = trD t ∧ KW t := by
  unfold kwB at h
  split at h
  · rename_i p q k
    rw [Bool.and_eq_true] at h
    exact ⟨(p, q, k), rfl, tnB_iff.mp h.1, of_decide_eq_true h.2⟩
  · cases h
theorem kw_kwB {t : Trn} (h : KW t) : kwB (trD t) = true := by
  show (tnB t.1 t.2.1 t.2.2 && decide _) = true
  rw [tnB_iff.mpr h.1, Bool.true_and]
  exact decide_eq_true h.2
theorem kwB_no {d : D} (h : turnB d = false) : kwB d = false := by
  unfold kwB
  split
  · rw [show tnB _ _ _ = false from h]; rfl
  · rfl
theorem kwB_tn {p q k : Int} (h : Tn p q k) : kwB (.tup [.int p, .int q, .int k]) = decide (p = (if q < 0 then -q else q) + 1) := by
  show (tnB p q k && _) = _
  rw [tnB_iff.mpr h, Bool.true_and]
structure AnyW (K : PySem.W.Frag) (d : D) : Prop where
  v : AnyV K d
  p : ∀ l, d = .lst l → (∀ x ∈ l, Any K x) ∧ l.length ≤ 1000
def wayB : D → Bool
  | .lst l => decide ((l.length : Int) ≤ 120) && l.all kwB
  | _ => false
def firstB : List D → Nat → Option Nat
  | [], _ => none
  | x :: l, n => if kwB x then firstB l (n + 1) else some n
def wayE : D → Option D
  | .lst l => if (l.length : Int) > 120 then some .non else (firstB l 0).map fun i => .int (i : Nat)
  | _ => some .non
theorem fb_at {y : D} (hy : kwB y = false) : ∀ (l : List D) (i n : Nat), (∀ j x, j < i → l[j]? = some x → kwB x = true) → l[i]? = some y → firstB l n = some (n + i)
  | [], i, n, _, h => by simp at h
  | x :: l, 0, n, _, h => by
    have h : x = y := by simpa using h
    subst h
    show (if kwB x then _ else _) = _
    rw [hy]; rfl
  | x :: l, i + 1, n, hl, h => by
    show (if kwB x then firstB l (n + 1) else _) = _
    rw [if_pos (hl 0 x (by omega) rfl), fb_at hy l i (n + 1) (fun j z hj hz => hl (j + 1) z (by omega) (by simpa using hz)) (by simpa using h)]
    congr 1
    omega
theorem fb_none : ∀ (l : List D) (n : Nat), (∀ x ∈ l, kwB x = true) → firstB l n = none
  | [], _, _ => rfl
  | x :: l, n, h => by
    show (if kwB x then firstB l (n + 1) else _) = _
    rw [if_pos (h x List.mem_cons_self), fb_none l _ fun z hz => h z (List.mem_cons_of_mem _ hz)]
theorem fb_all : ∀ (l : List D) (n : Nat), firstB l n = none → ∀ x ∈ l, kwB x = true
  | [], _, _, _, hx => nomatch hx
  | x :: l, n, h, z, hz => by
    unfold firstB at h
    split at h
    · rename_i hk
      rcases List.mem_cons.mp hz with e | e
      · rw [e]; exact hk
      · exact fb_all l _ h z e
    · cases h
theorem kws_of : ∀ {l : List D}, (∀ x ∈ l, kwB x = true) → ∃ ks : List Trn, l = ks.map trD ∧ ∀ t ∈ ks, KW t
  | [], _ => ⟨[], rfl, fun _ z => nomatch z⟩
  | x :: l, h => by
    obtain ⟨t, rfl, ht⟩ := kwB_kw (h x List.mem_cons_self)
    obtain ⟨ks, rfl, hk⟩ := kws_of fun z hz => h z (List.mem_cons_of_mem _ hz)
    exact ⟨t :: ks, rfl, fun u hu => (List.mem_cons.mp hu).elim (fun e => e ▸ ht) (hk u)⟩
theorem wayE_none {d : D} (h : wayE d = none) : ∃ ks : List Trn, d = .lst (ks.map trD) ∧ (∀ t ∈ ks, KW t) ∧ ks.length ≤ 120 := by
  unfold wayE at h
  split at h
  · rename_i l
    split at h
    · cases h
    · rename_i hl
      obtain ⟨ks, rfl, hk⟩ := kws_of (fb_all l 0 (by simpa using h))
      exact ⟨ks, rfl, hk, by rw [List.length_map] at hl; omega⟩
  · cases h
theorem wayE_way {ks : List Trn} (h : ∀ t ∈ ks, KW t) (hl : ks.length ≤ 120) : wayE (.lst (ks.map trD)) = none := by
  show (if ((ks.map trD).length : Int) > 120 then some D.non else (firstB (ks.map trD) 0).map fun i => .int (i : Nat)) = none
  rw [if_neg (by rw [List.length_map]; omega), fb_none]
  · rfl
  · intro x hx
    obtain ⟨t, ht, rfl⟩ := List.mem_map.mp hx
    exact kw_kwB (h t ht)
theorem wayE_len {l : List D} (h : (l.length : Int) > 120) : wayE (.lst l) = some .non := if_pos h
theorem wayE_at {l : List D} {i : Nat} {y : D} (hl : ¬ (l.length : Int) > 120) (h : ∀ j x, j < i → l[j]? = some x → kwB x = true) (hi : l[i]? = some y) (hy : kwB y = false) : wayE (.lst l) = some (.int (i : Nat)) := by
  show (if (l.length : Int) > 120 then some D.non else (firstB l 0).map fun i => .int (i : Nat)) = _
  rw [if_neg hl, fb_at hy l i 0 h hi, Nat.zero_add]
  rfl
theorem wayE_no {d : D} (h : isLstD d = false) : wayE d = some .non := by cases d <;> first | rfl | cases h
theorem wayB_E {d : D} : wayB d = true ↔ wayE d = none := by
  constructor
  · intro h
    unfold wayB at h
    split at h
    · rename_i l
      rw [Bool.and_eq_true] at h
      obtain ⟨ks, rfl, hk⟩ := kws_of (List.all_eq_true.mp h.2)
      exact wayE_way hk (by have := of_decide_eq_true h.1; rw [List.length_map] at this; omega)
    · cases h
  · intro h
    obtain ⟨ks, rfl, hk, hl⟩ := wayE_none h
    show (decide _ && _) = true
    rw [decide_eq_true (by rw [List.length_map]; omega), Bool.true_and]
    refine List.all_eq_true.mpr fun x hx => ?_
    obtain ⟨t, ht, rfl⟩ := List.mem_map.mp hx
    exact kw_kwB (hk t ht)
theorem wayB_no {d : D} (h : isLstD d = false) : wayB d = false := by cases d <;> first | rfl | cases h
/-! contracts -/
def con_ikA (K : PySem.W.Frag) : Con := fun ds S Q => ∃ d, ds = [d] ∧ Any K d ∧ Q (.bl (kwB d)) S
def con_iswA (K : PySem.W.Frag) : Con := fun ds S Q => ∃ d, ds = [d] ∧ AnyW K d ∧ Q (.bl (wayB d)) S
def con_chkwX (K : PySem.W.Frag) (C : Addr) : ConX := fun ds S Q R => ∃ d, ds = [d] ∧ AnyW K d ∧ (∀ v, wayE d = some v → R ⟨.ref C, some ("index", v)⟩ S) ∧ (wayE d = none → Q .non S)
def con1W (K : PySem.W.Frag) (C : Addr) (CX : ConX) : ConX := fun ds S Q R => ∃ d, ds = [d] ∧ AnyW K d ∧ (∀ v, wayE d = some v → R ⟨.ref C, some ("index", v)⟩ S) ∧ (wayE d = none → CX [d] S Q R)
def con2W (K : PySem.W.Frag) (C C2 : Addr) (CX : ConX) : ConX := fun ds S Q R => ∃ d e, ds = [d, e] ∧ (AnyW K d ∧ Any K e) ∧ (∀ v, wayE d = some v → R ⟨.ref C, some ("index", v)⟩ S) ∧ (wayE d = none → pixB e = false → R ⟨.ref C2, none⟩ S) ∧ (wayE d = none → pixB e = true → CX [d, e] S Q R)
theorem gokx_two {P : Program} {w : World} {K : PySem.W.Frag} {mg : Str → Option Value} {base : Heap} {k : Nat} {f : Addr} {fd : FuncData} {ps : List Str} {C A B : ConX} (a : GOkX P w K mg base k f fd ps (spDX K A)) (b : GOkX P w K mg base k f fd ps (spDX K B)) (h : ∀ ds S Q R, C ds S Q R → A ds S Q R ∨ B ds S Q R) :
    GOkX P w K mg base k f fd ps (spDX K C) :=
  ⟨fun vs H Q E ⟨ds, S, Hd, Qd, Rd, z1, z2, z3, z4⟩ => (h ds S Qd Rd z3).elim (fun z => a.len vs H Q E ⟨ds, S, Hd, Qd, Rd, z1, z2, z, z4⟩) (fun z => b.len vs H Q E ⟨ds, S, Hd, Qd, Rd, z1, z2, z, z4⟩),
   fun A9 fr s H ar us vs Q E gd hr e0 hb r ⟨ds, S, Hd, Qd, Rd, z1, z2, z3, z4⟩ => (h ds S Qd Rd z3).elim (fun z => a.run A9 fr s H ar us vs Q E gd hr e0 hb r ⟨ds, S, Hd, Qd, Rd, z1, z2, z, z4⟩) (fun z => b.run A9 fr s H ar us vs Q E gd hr e0 hb r ⟨ds, S, Hd, Qd, Rd, z1, z2, z, z4⟩)⟩

end Tp
namespace Tp
open PySem PySem.Spec PyProof.Rows L2 DL
/-! ### k44: what is asked, what is told -/
theorem few_bw {l : List Trn} (h : ∀ u ∈ l, KW u) (hl : l.length ≤ 8) : BdW 50 l := ⟨kw_tn h, fun u hu => ⟨(show Tn u.1 u.2.1 u.2.2 from (h u hu).1).bp, (show Tn u.1 u.2.1 u.2.2 from (h u hu).1).bq⟩, by omega, by omega⟩
def FineW (l : List Trn) (t : Trn) : Prop := TnT t ∧ EqR (sumL l) (lgT t)
def BigW (l : List Trn) (t : Trn) : Prop := Tv t.1 t.2.1 t.2.2 ∧ prmL l = lgT t ∧ 1000000000000000 < t.1
def con_prodA : ConX := fun ds S Q _ => ∃ (l : List Trn) (t : Trn), ds = [.lst (l.map trD)] ∧ (∀ u ∈ l, KW u) ∧ l.length ≤ 8 ∧ FineW l t ∧ Q (.tup [.int t.1, .int t.2.1, .int t.2.2]) S
def con_prodB (CT : Addr) : ConX := fun ds S _ R => ∃ (l : List Trn) (t : Trn), ds = [.lst (l.map trD)] ∧ (∀ u ∈ l, KW u) ∧ l.length ≤ 8 ∧ BigW l t ∧ R ⟨.ref CT, some ("limit", .int 1000000000000000)⟩ S
def con_prodX (CT : Addr) : ConX := fun ds S Q R => ∃ (l : List Trn) (t : Trn), ds = [.lst (l.map trD)] ∧ (∀ u ∈ l, KW u) ∧ l.length ≤ 8 ∧ (FineW l t ∨ BigW l t) ∧ (BigW l t → R ⟨.ref CT, some ("limit", .int 1000000000000000)⟩ S) ∧ (FineW l t → Q (.tup [.int t.1, .int t.2.1, .int t.2.2]) S)
theorem con1W_or {K : PySem.W.Frag} {C CT : Addr} (ds : List D) (S : Sto) (Q : D → Sto → Prop) (R : XD → Sto → Prop) (h : con1W K C (con_prodX CT) ds S Q R) : con1W K C con_prodA ds S Q R ∨ con1W K C (con_prodB CT) ds S Q R := by
  obtain ⟨d, rfl, hA, q1, q2⟩ := h
  by_cases hw : wayE d = none
  · obtain ⟨l, t, e, hK, hl, hFB, hB, hF⟩ := q2 hw
    rcases hFB with z | z
    · exact .inl ⟨d, rfl, hA, q1, fun _ => ⟨l, t, e, hK, hl, z, hF z⟩⟩
    · exact .inr ⟨d, rfl, hA, q1, fun _ => ⟨l, t, e, hK, hl, z, hB z⟩⟩
  · exact .inl ⟨d, rfl, hA, q1, fun z => (hw z).elim⟩
def con_missA : ConX := fun ds S Q _ => ∃ (l : List Trn) (x y : Int), ds = [.lst (l.map trD), .tup [.int x, .int y]] ∧ (∀ u ∈ l, KW u) ∧ l.length ≤ 8 ∧ (Bd 400 x ∧ Bd 400 y) ∧ ∀ d, Q d S
def con_boundA : ConX := fun ds S Q _ => ∃ l : List Trn, ds = [.lst (l.map trD)] ∧ (∀ u ∈ l, KW u) ∧ l.length ≤ 120 ∧ ∀ d, Q d S
def con_walkA : ConX := fun ds S Q _ => con_walked ds S Q
def con_walkbA : ConX := fun ds S Q _ => con_walkedb ds S Q
def FewW (d : D) : Prop := wayE d = none → ∃ l : List Trn, d = .lst (l.map trD) ∧ (∀ u ∈ l, KW u) ∧ l.length ≤ 8
def con_showX (K : PySem.W.Frag) (C : Addr) : ConX := fun ds S Q R => ∃ d e, ds = [d, e] ∧ (Any K d ∧ AnyW K e) ∧ FewW e ∧ (turnB d = false → R ⟨.ref C, none⟩ S) ∧ (turnB d = true → ∀ b, Q (.bl b) S)
def con_faultV (K : PySem.W.Frag) (C : Addr) (fld w : Str) : ConE := fun p ds S Q => ∃ v : D, con_faultF K C fld v (.tup [.str w, v]) p ds S Q
/-- the product's answer -/
def rB (t : Trn) : D := if 1000000000000000 < t.1 then .tup [.str "large", .int 1000000000000000] else .str "fine"
def rW (t : Trn) : D := if 10000000000 < cc t.1 t.2.1 then .tup [.str "large", .int 10000000000] else .str "fine"
def roadT : Option D → D → D
  | some v, _ => .tup [.str "road", v]
  | none, r => r
def told44 : Nat → D → D → D → D
  | 0, _, _, r => r
  | 1, a, _, r => roadT (wayE a) r
  | 2, a, _, r => roadT (wayE a) r
  | 3, a, _, r => if turnB a then r else .str "spin"
  | 7, a, _, r => if turnB a then r else .str "spin"
  | _, a, b, r => roadT (wayE a) (if pixB b then r else .str "dot")
def As44 (K : PySem.W.Frag) : Nat → D → D → D → Prop
  | 0, a, _, r => AnyW K a ∧ r = .str "fine"
  | 1, a, _, r => AnyW K a ∧ (wayE a = none → ∃ (l : List Trn) (t : Trn), a = .lst (l.map trD) ∧ (∀ u ∈ l, KW u) ∧ l.length ≤ 8 ∧ (FineW l t ∨ BigW l t) ∧ r = rB t)
  | 2, a, _, r => AnyW K a ∧ r = .str "fine"
  | 3, a, _, r => Any K a ∧ (turnB a = true → ∃ t : Trn, a = trD t ∧ TnT t ∧ r = rW t)
  | 7, a, b, r => Any K a ∧ AnyW K b ∧ FewW b ∧ r = .str "fine"
  | _, a, b, r => AnyW K a ∧ Any K b ∧ FewW a ∧ PB 400 b ∧ r = .str "fine"
def conT44 (P : Program) (w : World) (K : PySem.W.Frag) (k : Nat) : Con := fun ds S Q => ∃ a b r, ds = [.int (k : Nat), a, b] ∧ As44 K k a b r ∧ (∃ t n m, ShD P w K (.lst [a, b]) t n m ∧ n ≤ 15 ∧ m ≤ 9000000) ∧ Q (told44 k a b r) S
def con_told44 (P : Program) (w : World) (K : PySem.W.Frag) : Con := fun ds S Q => ∃ k, k < 8 ∧ conT44 P w K k ds S Q
theorem rB_big {t : Trn} (h : 1000000000000000 < t.1) : rB t = .tup [.str "large", .int 1000000000000000] := if_pos h
theorem rB_fine {t : Trn} (h : TnT t) : rB t = .str "fine" := if_neg (by have := h.p2; omega)
theorem rW_big {t : Trn} (h : 10000000000 < cc t.1 t.2.1) : rW t = .tup [.str "large", .int 10000000000] := if_pos h
theorem rW_fine {t : Trn} (h : cc t.1 t.2.1 ≤ 10000000000) : rW t = .str "fine" := if_neg (by omega)
theorem kw_map : ∀ (l : List D), (l.map fun d => D.bl (kwB d)) = (l.map kwB).map D.bl := fun l => by rw [List.map_map]; rfl
theorem kw_all (l : List D) : (l.map kwB).all id = l.all kwB := by
  induction l with
  | nil => rfl
  | cons d ds ih => rw [List.map_cons, List.all_cons, List.all_cons, ih]; rfl
theorem wayE_ok {l : List D} {n : Nat} (hl : ¬ (l.length : Int) > 120) (hn : l.length ≤ n) (h : ∀ j x, j < n → l[j]? = some x → kwB x = true) : wayE (.lst l) = none := by
  show (if (l.length : Int) > 120 then some D.non else (firstB l 0).map fun i => .int (i : Nat)) = _
  rw [if_neg hl, fb_none]
  · rfl
  · intro x hx
    obtain ⟨j, hj, e⟩ := List.mem_iff_getElem.mp hx
    exact h j x (by omega) (by rw [← e]; exact List.getElem?_eq_getElem hj)
theorem enu_len (l : List D) : (enuD l).length = l.length := by unfold enuD; rw [List.length_mapIdx]
theorem isLst_ex {d : D} (h : isLstD d = true) : ∃ l, d = .lst l := by cases d <;> first | exact ⟨_, rfl⟩ | cases h
theorem kway_step {l : List D} {i : Nat} {y : D} (h : ∀ j x, j < i → l[j]? = some x → kwB x = true) (hi : l[i]? = some y) (hy : kwB y = true) : ∀ j x, j < i + 1 → l[j]? = some x → kwB x = true := fun j x hj hx => by
  rcases Nat.lt_or_ge j i with z | z
  · exact h j x z hx
  · have : j = i := by omega
    subst this
    rw [hi] at hx
    cases hx
    exact hy

end Tp
namespace Tp
open PySem PySem.Spec PyProof.Rows L2 DL
/-! ### k44: how great -/
def con_lowestG : Con := fun ds S Q => ∃ n d : Int, ds = [.int n, .int d] ∧ 0 < d ∧ (Bd 6000 n ∧ Bd 6000 d) ∧ Q (rat n d) S
theorem prmL_bd {l : List Trn} (h : ∀ u ∈ l, KW u) (hl : l.length ≤ 8) : Bd 840 (prmL l).1 ∧ Bd 840 (prmL l).2.1 ∧ Bd 840 (prmL l).2.2 := by
  obtain ⟨bg1, bg2⟩ := gpr_bd (few_bw h hl).bd l.length
  rw [List.take_of_length_le (Nat.le_refl _)] at bg1 bg2
  have bg1 : Bd 412 (gpr l).1 := bg1.up (by omega)
  have bg2 : Bd 412 (gpr l).2 := bg2.up (by omega)
  unfold prmL legP
  have bX : Bd 412 ((gpr l).1 / ((Nat.gcd (gpr l).1.natAbs (gpr l).2.natAbs : Nat) : Int)) := bg1.div
  have bY : Bd 412 ((gpr l).2 / ((Nat.gcd (gpr l).1.natAbs (gpr l).2.natAbs : Nat) : Int)) := bg2.div
  exact ⟨(Bd.rtX _ ((bX.mul bX).sub (bY.mul bY)) ((bX.mul bY).add (bY.mul bX))).up (by decide), (Bd.rtY _ ((bX.mul bX).sub (bY.mul bY)) ((bX.mul bY).add (bY.mul bX))).up (by decide), ((bX.mul bX).add (bY.mul bY)).up (by decide)⟩
theorem prmL_pos {l : List Trn} (h : ∀ u ∈ l, KW u) : 0 < (prmL l).2.2 := (prm_sum (kw_tn h)).1.p

end Tp
namespace Tp
open PySem PySem.Spec PyProof.Rows L2 DL
/-! ### k44: what is asked of the law's own defs -/
def Sh9 (P : Program) (w : World) (K : PySem.W.Frag) (d : D) (N : Nat) : Prop := ∃ t n m, ShD P w K d t n m ∧ n ≤ 9 ∧ m ≤ N
section
variable {P : Program} {w : World} {K : PySem.W.Frag}
theorem sh9_up {d : D} {N M : Nat} (h : Sh9 P w K d N) (k : N ≤ M) : Sh9 P w K d M := let ⟨t, n, m, h1, h2, h3⟩ := h; ⟨t, n, m, h1, h2, by omega⟩
theorem sh9_of {d : D} {N : Nat} (h : Shw P w K d N) : Sh9 P w K d N := let ⟨t, n, m, h1, h2, h3⟩ := h; ⟨t, n, m, h1, by omega, h3⟩
theorem sh9_all {N : Nat} : ∀ (l : List D), (∀ x ∈ l, Shw P w K x N) → ∃ ts k j, ShDL P w K l ts k j ∧ k ≤ 8 ∧ j ≤ l.length * (N + 2)
  | [], _ => ⟨[], 0, 0, ⟨rfl, rfl⟩, by decide, Nat.zero_le _⟩
  | d :: ds, h => by
    obtain ⟨t, n, m, h1, h2, h3⟩ := h d List.mem_cons_self
    obtain ⟨ts, k, j, k1, k2, k3⟩ := sh9_all ds fun x hx => h x (List.mem_cons_of_mem _ hx)
    refine ⟨t :: ts, max n k, m + 2 + j, ⟨t, ts, n, k, m, j, rfl, h1, k1, rfl, Nat.le_refl _⟩, by omega, ?_⟩
    rw [List.length_cons, Nat.succ_mul]
    omega
theorem sh9_lst {l : List D} {N M : Nat} (h : ∀ x ∈ l, Shw P w K x N) (hM : l.length * (N + 2) + 3 ≤ M) : Sh9 P w K (.lst l) M := by
  obtain ⟨ts, k, j, k1, k2, k3⟩ := sh9_all l h
  exact ⟨_, k + 1, j + 3, ⟨ts, k, j, k1, rfl, rfl, Nat.le_refl _⟩, by omega, by omega⟩
theorem sh9_tup {l : List D} {N M : Nat} (h : ∀ x ∈ l, Shw P w K x N) (hM : l.length * (N + 2) + 3 ≤ M) : Sh9 P w K (.tup l) M := by
  obtain ⟨ts, k, j, k1, k2, k3⟩ := sh9_all l h
  exact ⟨_, k + 1, j + 3, ⟨ts, k, j, k1, rfl, rfl, Nat.le_refl _⟩, by omega, by omega⟩
theorem sh9_l2 {a b : D} {N M : Nat} (h1 : Sh9 P w K a N) (h2 : Sh9 P w K b M) : ∃ t n m, ShD P w K (.lst [a, b]) t n m ∧ n ≤ 10 ∧ m ≤ N + M + 10 := by
  obtain ⟨t1, n1, m1, a1, a2, a3⟩ := h1
  obtain ⟨t2, n2, m2, b1, b2, b3⟩ := h2
  exact ⟨_, _, m1 + m2 + 10, ⟨_, _, m1 + m2 + 7, ⟨t1, [t2], n1, _, m1, m2 + 5, rfl, a1, ⟨t2, [], n2, _, m2, 0, rfl, b1, ⟨rfl, rfl⟩, rfl, by omega⟩, rfl, by omega⟩, rfl, rfl, by omega⟩, by omega, by omega⟩
/-- what is shown, of the two that are asked -/
theorem sh44 {a b : D} (h1 : Sh9 P w K a 2000000) (h2 : Sh9 P w K b 2000000) : ∃ t n m, ShD P w K (.lst [a, b]) t n m ∧ n ≤ 15 ∧ m ≤ 9000000 := let ⟨t, n, m, h, hn, hm⟩ := sh9_l2 h1 h2; ⟨t, n, m, h, by omega, by omega⟩
theorem sh9_non : Sh9 P w K .non 2000000 := sh9_of (plB_shw (by decide +kernel))
theorem shw_kw {u : Trn} (h : TnT u) (k : Bd 2 u.2.2) : Shw P w K (trD u) 6000 := shw_i3 ((show Tn u.1 u.2.1 u.2.2 from h).bp.up (by decide)) ((show Tn u.1 u.2.1 u.2.2 from h).bq.up (by decide)) (k.up (by decide))
theorem shw_kw2 {u : Trn} (h : TnT u) : Shw P w K (trD u) 6000 := shw_kw h (by have := h.k1; have := h.k2; unfold Bd; omega)
/-- odd values that are taken for an item of a way -/
structure OddI (P : Program) (w : World) (K : PySem.W.Frag) (d : D) : Prop where
  a : Any K d
  n : kwB d = false
  s : Shw P w K d 40000
theorem oddI_pl {d : D} (h : (plB 40000 d && !kwB d) = true) : OddI P w K d := by
  rw [Bool.and_eq_true] at h
  exact ⟨plB_any h.1, by simpa using h.2, plB_shw h.1⟩
theorem oddI_dic : OddI P w K (dicD []) := ⟨.ext any_dic, rfl, shw_dic0 (by decide)⟩
theorem oddI_exc {C : Addr} {cd : PySem.ClassData} {m : Str} (T : L2.ExcC K C) (o : KOdd K C) (E : ExcK K C cd) (h : (reprText m).length + 102 ≤ 40000) : OddI P w K (excV C m) := ⟨.ext (any_exc T o), rfl, shw_exc2 E h⟩
/-- what is no way, and what is told of it -/
structure WrD (P : Program) (w : World) (K : PySem.W.Frag) (d v : D) : Prop where
  a : AnyW K d
  e : wayE d = some v
  s : Sh9 P w K d 2000000
  v : v = .non ∨ ∃ i : Int, v = .int i
def WrP (P : Program) (w : World) (K : PySem.W.Frag) (x : D) : Prop := ∃ d v, x = .tup [d, v] ∧ WrD P w K d v
theorem anyW_no {d : D} (h : Any K d) (k : isLstD d = false) : AnyW K d := ⟨h.t.v, fun l e => by rw [e] at k; cases k⟩
theorem anyW_l {l : List D} (h : ∀ x ∈ l, Any K x) (hl : l.length ≤ 1000) : AnyW K (.lst l) := ⟨any_pv rfl, fun m e => by cases e; exact ⟨h, hl⟩⟩
theorem wrD_no {d : D} (h : Any K d) (k : isLstD d = false) (s : Shw P w K d 40000) : WrD P w K d .non := ⟨anyW_no h k, wayE_no k, sh9_up (sh9_of s) (by decide), .inl rfl⟩
theorem wrD_pl {d : D} (h : (plB 40000 d && !isLstD d) = true) : WrD P w K d .non := by
  rw [Bool.and_eq_true] at h
  exact wrD_no (plB_any h.1) (by simpa using h.2) (plB_shw h.1)
theorem wrD_dic : WrD P w K (dicD []) .non := wrD_no (.ext any_dic) rfl (shw_dic0 (by decide))
theorem wrD_exc {C : Addr} {cd : PySem.ClassData} {m : Str} (T : L2.ExcC K C) (o : KOdd K C) (E : ExcK K C cd) (h : (reprText m).length + 102 ≤ 40000) : WrD P w K (excV C m) .non := wrD_no (.ext (any_exc T o)) rfl (shw_exc2 E h)
theorem wrD_many {x : D} {n : Nat} (hn : 120 < n ∧ n ≤ 300) (ha : Any K x) (hs : Shw P w K x 6000) : WrD P w K (.lst (List.replicate n x)) .non :=
  ⟨anyW_l (fun y hy => by rw [List.eq_of_mem_replicate hy]; exact ha) (by rw [List.length_replicate]; omega), wayE_len (by rw [List.length_replicate]; omega), sh9_lst (N := 6000) (fun y hy => by rw [List.eq_of_mem_replicate hy]; exact hs) (by rw [List.length_replicate]; omega), .inl rfl⟩
theorem wrD_tup {ks : List Trn} (h : ∀ u ∈ ks, KW u) (hl : ks.length ≤ 8) : WrD P w K (.tup (ks.map trD)) .non :=
  ⟨⟨any_pv rfl, fun l e => nomatch e⟩, rfl, sh9_tup (N := 6000) (fun x hx => by obtain ⟨u, hu, rfl⟩ := List.mem_map.mp hx; exact shw_kw2 (h u hu).1) (by rw [List.length_map]; omega), .inl rfl⟩
/-- a road with an odd item in it, and what comes behind -/
theorem wrD_mix {ks : List Trn} (h : ∀ u ∈ ks, KW u) (hl : ks.length ≤ 8) {i : Nat} (hi : i ≤ ks.length) {y : D} (hy : OddI P w K y) {r : List D} (hr : ∀ x ∈ r, Any K x ∧ Shw P w K x 40000) (hr2 : r.length ≤ 20) :
    WrD P w K (.lst ((ks.map trD).take i ++ y :: r)) (.int (i : Nat)) := by
  have hlt : ((ks.map trD).take i).length = i := by rw [List.length_take, List.length_map]; omega
  have hm : ∀ x ∈ (ks.map trD).take i, ∃ u ∈ ks, x = trD u := fun x hx => by
    obtain ⟨u, hu, rfl⟩ := List.mem_map.mp (List.mem_of_mem_take hx)
    exact ⟨u, hu, rfl⟩
  have hall : ∀ x ∈ (ks.map trD).take i ++ y :: r, Any K x ∧ Shw P w K x 40000 := fun x hx => by
    rcases List.mem_append.mp hx with z | z
    · obtain ⟨u, hu, rfl⟩ := hm x z
      exact ⟨Any.i3, shw_up (shw_kw2 (h u hu).1) (by decide)⟩
    · rcases List.mem_cons.mp z with e | e
      · rw [e]; exact ⟨hy.a, hy.s⟩
      · exact hr x e
  have hlen : ((ks.map trD).take i ++ y :: r).length ≤ 29 := by rw [List.length_append, hlt, List.length_cons]; omega
  refine ⟨anyW_l (fun x hx => (hall x hx).1) (by omega), ?_, sh9_lst (N := 40000) (fun x hx => (hall x hx).2) (by have := Nat.mul_le_mul_right 40002 hlen; omega), .inr ⟨_, rfl⟩⟩
  refine wayE_at (by omega) (fun j x hj hx => ?_) (y := y) ?_ hy.n
  · rw [List.getElem?_append_left (by omega)] at hx
    obtain ⟨u, hu, rfl⟩ := hm x (List.mem_of_getElem? hx)
    exact kw_kwB (h u hu)
  · rw [List.getElem?_append_right (by omega), hlt, Nat.sub_self]
    rfl
end
theorem fewW_no {d v : D} (h : wayE d = some v) : FewW d := fun z => by rw [h] at z; cases z
theorem fewW_l {l : List Trn} (h : ∀ u ∈ l, KW u) (hl : l.length ≤ 8) : FewW (.lst (l.map trD)) := fun _ => ⟨l, rfl, h, hl⟩
/-- the law's roads -/
structure Rd44 (ks : List Trn) : Prop where
  kw : ∀ u ∈ ks, KW u
  sm : ∀ u ∈ ks, u.1 ≤ 99
  len : ks.length ≤ 5
theorem sumL_one (u : Trn) : sumL [u] = lgT u := one_mulL (lgT u)
theorem rd_prod : ∀ (ks : List Trn), (∀ u ∈ ks, KW u) → (∀ u ∈ ks, u.1 ≤ 99) → ks.length ≤ 5 → ∃ t, RdOk ks.length t ks ∧ cc t.1 t.2.1 ≤ ((20000 ^ ks.length : Nat) : Int)
  | [], _, _, _ => ⟨(1, 0, 0), ⟨tn_unit, (fun _ z => nomatch z), (fun _ z => nomatch z), Nat.le_refl _, by rw [lg_unit80]; exact EqR.rf _⟩, by decide +kernel⟩
  | u :: ks, h, hs, hl => by
    rw [List.length_cons] at hl
    obtain ⟨t, hR, hc⟩ := rd_prod ks (fun v hv => h v (List.mem_cons_of_mem _ hv)) (fun v hv => hs v (List.mem_cons_of_mem _ hv)) (by omega)
    have hu := h u List.mem_cons_self
    have hu1 := hs u List.mem_cons_self
    have hcu : cc u.1 u.2.1 ≤ 20000 := by have := cc_le (N := 99) hu.1 hu1; omega
    have hc0 : 0 < cc u.1 u.2.1 := cc_pos hu.1
    have ht0 : 0 < cc t.1 t.2.1 := cc_pos hR.tn
    have hm : cc u.1 u.2.1 * cc t.1 t.2.1 ≤ 20000 * ((20000 ^ ks.length : Nat) : Int) := Int.mul_le_mul hcu hc (by omega) (by decide)
    have hpw : (20000 ^ ks.length : Nat) ≤ 20000 ^ 4 := Nat.pow_le_pow_right (by decide) (by omega)
    obtain ⟨a, b, m, J⟩ := jn_exC hu.1 hR.tn (Int.le_trans hm (by have : ((20000 ^ 4 : Nat) : Int) = 160000000000000000 := by decide +kernel
                                                                  have h4 : ((20000 ^ ks.length : Nat) : Int) ≤ ((20000 ^ 4 : Nat) : Int) := by exact_mod_cast hpw
                                                                  omega))
    have hO : RdOk 1 u [u] := ⟨hu.1, fun v hv => by rw [List.mem_singleton.mp hv]; exact hu, fun v hv => by
      rw [List.mem_singleton.mp hv]
      have q1 := (show Tn u.1 u.2.1 u.2.2 from hu.1).q1
      have q2 := (show Tn u.1 u.2.1 u.2.2 from hu.1).q2
      exact ⟨by omega, by omega, by omega⟩, Nat.le_refl _, by rw [sumL_one]; exact EqR.rf _⟩
    have hA := hO.app (w := (a, b, m)) hR J
    refine ⟨(a, b, m), ⟨hA.tn, hA.kw, hA.sm, by rw [List.length_cons]; omega, hA.eq⟩, ?_⟩
    have := jn_cc hu.1 hR.tn J
    rw [List.length_cons, Nat.pow_succ, Int.natCast_mul, Int.mul_comm]
    exact Int.le_trans this hm
theorem Rd44.fine {ks : List Trn} (h : Rd44 ks) : ∃ t, FineW ks t := let ⟨t, hR, _⟩ := rd_prod ks h.kw h.sm h.len; ⟨t, hR.tn, hR.eq⟩
def con_road44 : Con := fun ds S Q => ∃ (pp : Addr) (n w9 : Int) (l : List D) (m : Nat), ds = [.raw (.ref pp), .int n, .int w9] ∧ getS pp S = some l ∧ Src m l ∧ m ≤ 800000 ∧ (0 ≤ n ∧ n ≤ 5) ∧ w9 = 99 ∧ ∀ ks l', Rd44 ks → Src (m + 20) l' → Q (.lst (ks.map trD)) (setS pp l' S)
def con_oddIs (P : Program) (w : World) (K : PySem.W.Frag) : Con := fun ds S Q => ds = [] ∧ ∀ l : List D, (∀ d ∈ l, OddI P w K d) → l.length ≤ 100 → Q (.lst l) S
def con_oddSs (P : Program) (w : World) (K : PySem.W.Frag) : Con := fun ds S Q => ds = [] ∧ ∀ l : List D, (∀ d ∈ l, OddS P w K d) → l.length ≤ 100 → Q (.lst l) S
def con_r44 : Con := fun ds S Q => ∃ (pp : Addr) (l : List D) (m : Nat) (ks : List Trn) (x y : Int), ds = [.raw (.ref pp), .lst (ks.map trD), .tup [.int x, .int y]] ∧ getS pp S = some l ∧ Src m l ∧ m ≤ 800000 ∧ Rd44 ks ∧ (Bd 200 x ∧ Bd 200 y) ∧ ∀ l', Src (m + 200) l' → Q (.bl true) (setS pp l' S)
/-! answers -/
theorem told44_0 {a b r : D} : told44 0 a b r = r := rfl
theorem told44_12 {k : Nat} {a b r : D} (hk : k = 1 ∨ k = 2) (h : wayE a = none) : told44 k a b r = r := by
  rcases hk with z | z <;> subst z <;> simp [told44, roadT, h]
theorem told44_456 {k : Nat} {a b r : D} (hk : k = 4 ∨ k = 5 ∨ k = 6) (h : wayE a = none) (h2 : pixB b = true) : told44 k a b r = r := by
  rcases hk with z | z | z <;> subst z <;> simp [told44, roadT, h, h2]
theorem told44_dot {k : Nat} {a b r : D} (hk : k = 4 ∨ k = 5 ∨ k = 6) (h : wayE a = none) (h2 : pixB b = false) : told44 k a b r = .str "dot" := by
  rcases hk with z | z | z <;> subst z <;> simp [told44, roadT, h, h2]
theorem told44_road {k : Nat} {a b r v : D} (hk : k = 1 ∨ k = 2 ∨ k = 4 ∨ k = 5 ∨ k = 6) (h : wayE a = some v) : told44 k a b r = .tup [.str "road", v] := by
  rcases hk with z | z | z | z | z <;> subst z <;> simp [told44, roadT, h]
theorem told44_spin {k : Nat} {a b r : D} (hk : k = 3 ∨ k = 7) (h : turnB a = false) : told44 k a b r = .str "spin" := by
  rcases hk with z | z <;> subst z <;> simp [told44, h]
theorem told44_37 {k : Nat} {a b r : D} (hk : k = 3 ∨ k = 7) (h : turnB a = true) : told44 k a b r = r := by
  rcases hk with z | z <;> subst z <;> simp [told44, h]

end Tp
namespace Tp
open PySem PySem.Spec PyProof.Rows L2 DL
/-! ### k44: doors, mixed roads, the great ones -/
def Dr44 (K : PySem.W.Frag) (a b v d : D) : Prop := ∃ j : Nat, d = .int (j : Nat) ∧ j < 8 ∧ As44 K j a b (.str "fine") ∧ told44 j a b (.str "fine") = v
section
variable {P : Program} {w : World} {K : PySem.W.Frag}
theorem anyW_kw {ks : List Trn} (hl : ks.length ≤ 8) : AnyW K (.lst (ks.map trD)) := anyW_l (fun x hx => by obtain ⟨u, _, rfl⟩ := List.mem_map.mp hx; exact Any.i3) (by rw [List.length_map]; omega)
theorem sh9_kw {ks : List Trn} (h : ∀ u ∈ ks, KW u) (hl : ks.length ≤ 8) : Sh9 P w K (.lst (ks.map trD)) 2000000 := sh9_lst (N := 6000) (fun x hx => by obtain ⟨u, hu, rfl⟩ := List.mem_map.mp hx; exact shw_kw2 (h u hu).1) (by rw [List.length_map]; omega)
theorem drs_road1 {ks : List Trn} (h : Rd44 ks) : ∀ x ∈ [D.int 0, D.int 1, D.int 2], Dr44 K (.lst (ks.map trD)) .non (.str "fine") x := by
  have hl := h.len
  have hw := wayE_way h.kw (show ks.length ≤ 120 by omega)
  obtain ⟨t, hF⟩ := h.fine
  have hA := anyW_kw (K := K) (ks := ks) (by omega)
  exact fa_cons ⟨0, rfl, by decide, ⟨hA, rfl⟩, rfl⟩ (fa_cons ⟨1, rfl, by decide, ⟨hA, fun _ => ⟨ks, t, rfl, h.kw, by omega, .inl hF, (rB_fine hF.1).symm⟩⟩, told44_12 (.inl rfl) hw⟩ (fa_cons ⟨2, rfl, by decide, ⟨hA, rfl⟩, told44_12 (.inr rfl) hw⟩ fa_nil))
theorem drs_road2 {ks : List Trn} (h : Rd44 ks) {b v : D} (hb : Any K b) (bb : PB 400 b) (hv : ∀ k, k = 4 ∨ k = 5 ∨ k = 6 → told44 k (.lst (ks.map trD)) b (.str "fine") = v) : ∀ x ∈ [D.int 4, D.int 5, D.int 6], Dr44 K (.lst (ks.map trD)) b v x := by
  have hl := h.len
  have hA := anyW_kw (K := K) (ks := ks) (by omega)
  have hF : FewW (.lst (ks.map trD)) := fewW_l h.kw (by omega)
  exact fa_cons ⟨4, rfl, by decide, ⟨hA, hb, hF, bb, rfl⟩, hv 4 (.inl rfl)⟩ (fa_cons ⟨5, rfl, by decide, ⟨hA, hb, hF, bb, rfl⟩, hv 5 (.inr (.inl rfl))⟩ (fa_cons ⟨6, rfl, by decide, ⟨hA, hb, hF, bb, rfl⟩, hv 6 (.inr (.inr rfl))⟩ fa_nil))
theorem drs_fine {ks : List Trn} (h : Rd44 ks) {b : D} (hb : Any K b) (bb : PB 400 b) (k : pixB b = true) : ∀ x ∈ [D.int 4, D.int 5, D.int 6], Dr44 K (.lst (ks.map trD)) b (.str "fine") x :=
  drs_road2 h hb bb fun _ hj => told44_456 hj (wayE_way h.kw (by have := h.len; omega)) k
theorem drs_dot {ks : List Trn} (h : Rd44 ks) {b : D} (hb : Any K b) (bb : PB 400 b) (k : pixB b = false) : ∀ x ∈ [D.int 4, D.int 5, D.int 6], Dr44 K (.lst (ks.map trD)) b (.str "dot") x :=
  drs_road2 h hb bb fun _ hj => told44_dot hj (wayE_way h.kw (by have := h.len; omega)) k
theorem drs_wr1 {d v b : D} (h : WrD P w K d v) (hb : Any K b) (bb : PB 400 b) : ∀ x ∈ [D.int 4, D.int 5, D.int 6], Dr44 K d b (.tup [.str "road", v]) x := by
  have hF := fewW_no h.e
  exact fa_cons ⟨4, rfl, by decide, ⟨h.a, hb, hF, bb, rfl⟩, told44_road (.inr (.inr (.inl rfl))) h.e⟩ (fa_cons ⟨5, rfl, by decide, ⟨h.a, hb, hF, bb, rfl⟩, told44_road (.inr (.inr (.inr (.inl rfl)))) h.e⟩ (fa_cons ⟨6, rfl, by decide, ⟨h.a, hb, hF, bb, rfl⟩, told44_road (.inr (.inr (.inr (.inr rfl)))) h.e⟩ fa_nil))
theorem drs_wr2 {d v b : D} (h : WrD P w K d v) (hb : Any K b) (bb : PB 400 b) : ∀ x ∈ [D.int 1, D.int 2, D.int 4, D.int 5, D.int 6], Dr44 K d b (.tup [.str "road", v]) x :=
  fa_cons ⟨1, rfl, by decide, ⟨h.a, fun z => by rw [h.e] at z; cases z⟩, told44_road (.inl rfl) h.e⟩ (fa_cons ⟨2, rfl, by decide, ⟨h.a, rfl⟩, told44_road (.inr (.inl rfl)) h.e⟩ (drs_wr1 h hb bb))
theorem wrD_manyF {x : D} {n : Nat} (hn : 120 < n ∧ n ≤ 300) (ha : Any K x) (hs : Shw P w K x 6000) : WrD P w K (.lst (List.replicate n [x]).flatten) .non := by
  rw [List.flatten_replicate_singleton]
  exact wrD_many hn ha hs
theorem wrP_mix {ks : List Trn} (h : Rd44 ks) {s : Int} (h0 : 0 ≤ s) (h1 : s < ((ks.map trD).length : Int) + 1) {y : D} (hy : OddI P w K y) {r : List D} (hr : ∀ x ∈ r, Any K x ∧ Shw P w K x 40000) (hr2 : r.length ≤ 5) :
    WrP P w K (.tup [.lst (DL.cutD (ks.map trD) none (some s) ++ (y :: r) ++ DL.cutD (ks.map trD) (some s) none), .int s]) := by
  have hl := h.len
  have hlm : (ks.map trD).length = ks.length := List.length_map ..
  rw [hlm] at h1
  refine ⟨_, _, rfl, ?_⟩
  rw [DL.cut_to h0, cut_from h0 (by rw [hlm]; omega), List.append_assoc, List.cons_append]
  have e : s = ((s.toNat : Nat) : Int) := by omega
  have z := wrD_mix h.kw (by omega) (i := s.toNat) (by omega) hy (r := r ++ (ks.map trD).drop s.toNat) (fun x hx => by
    rcases List.mem_append.mp hx with z | z
    · exact hr x z
    · obtain ⟨u, hu, rfl⟩ := List.mem_map.mp (List.mem_of_mem_drop z)
      exact ⟨Any.i3, shw_up (shw_kw2 (h.kw u hu).1) (by decide)⟩) (by rw [List.length_append, List.length_drop, hlm]; omega)
  rw [← e] at z
  exact z
end
theorem flat_rd {v : D} (h : v = .non ∨ ∃ i : Int, v = .int i) : flatOk 9 (.lst (List.replicate 3 (.tup [.str "road", v]) ++ List.replicate 5 (.tup [.str "road", v]))) = true := by
  rcases h with rfl | ⟨i, rfl⟩
  · decide +kernel
  · exact (show flatOk 9 (.lst (List.replicate 3 (.tup [.str "road", .int 0]) ++ List.replicate 5 (.tup [.str "road", .int 0]))) = true by decide +kernel)
/-! the last ones -/
theorem tn_g15 : TnT (1000000000000000, 999999999999999, 0) := show Tn 1000000000000000 999999999999999 0 from ⟨by decide, by decide, by decide, by decide, by decide +kernel, by decide, by decide, by decide⟩
theorem kw_g15 : KW (1000000000000000, 999999999999999, 0) := ⟨tn_g15, by decide⟩
theorem kw_h15 : KW (1000000000000000, -999999999999999, 1) := ⟨show Tn 1000000000000000 (-999999999999999) 1 from ⟨by decide, by decide, by decide, by decide, by decide +kernel, by decide, by decide, by decide⟩, by decide⟩
theorem fine_g1 : FineW [(1000000000000000, 999999999999999, 0)] (1000000000000000, 999999999999999, 0) := ⟨tn_g15, by rw [sumL_one]; exact EqR.rf _⟩
theorem big_g2 : BigW [(1000000000000000, 999999999999999, 0), (1000000000000000, 999999999999999, 0)] (1999999999999998000000000000000, -1999999999999999, 2) :=
  ⟨show Tv 1999999999999998000000000000000 (-1999999999999999) 2 from ⟨by decide +kernel, by decide +kernel, by decide +kernel, by decide +kernel, by decide +kernel, by decide +kernel, by decide, by decide⟩, by decide +kernel, by decide +kernel⟩
theorem fine_g3 : FineW [(1000000000000000, 999999999999999, 0), (1000000000000000, -999999999999999, 1)] (1, 0, 1) := ⟨tn_q ⟨by decide, by decide⟩, ⟨by decide +kernel, by decide +kernel⟩⟩
theorem tn_of44 {t : Trn} (h : tnB t.1 t.2.1 t.2.2 = true) : TnT t := tnB_iff.mp h
theorem cut44 {ks : List Trn} (h : ks.length ≤ 8) {s : Int} (h0 : 0 ≤ s) (h1 : s < ((ks.map trD).length : Int) + 1) : (DL.cutD (ks.map trD) none (some s)).length ≤ 8 ∧ (DL.cutD (ks.map trD) (some s) none).length ≤ 8 := by
  have hlm : (ks.map trD).length = ks.length := List.length_map ..
  rw [DL.cut_to h0, cut_from h0 (by omega), List.length_take, List.length_drop, hlm]
  omega
def vals44 : List D := [.tup [.str "large", .int 10000000000], .tup [.str "large", .int 10000000000], .str "fine", .str "fine"]
theorem sp44_at {k : Nat} {d : D} (h : [D.tup [.int ((10 : Int) ^ (Int.toNat 5)), .int 1, .int 0], D.tup [.int ((10 : Int) ^ (Int.toNat 15)), .int 1, .int 3], D.tup [.int 99999, .int 2, .int 0], D.tup [.int 1, .int 0, .int 3]][k]? = some d) : ∃ t : Trn, d = trD t ∧ TnT t ∧ vals44[k]? = some (rW t) := by
  match k, h with
  | 0, h => exact ⟨((10 : Int) ^ (Int.toNat 5), 1, 0), (Option.some.inj h).symm, tn_of44 (by decide +kernel), congrArg some (rW_big (by decide +kernel)).symm⟩
  | 1, h => exact ⟨((10 : Int) ^ (Int.toNat 15), 1, 3), (Option.some.inj h).symm, tn_of44 (by decide +kernel), congrArg some (rW_big (by decide +kernel)).symm⟩
  | 2, h => exact ⟨(99999, 2, 0), (Option.some.inj h).symm, tn_of44 (by decide +kernel), congrArg some (rW_fine (by decide +kernel)).symm⟩
  | 3, h => exact ⟨(1, 0, 3), (Option.some.inj h).symm, tn_of44 (by decide +kernel), congrArg some (rW_fine (by decide +kernel)).symm⟩
def vals44b : List D := [.str "fine", .tup [.str "large", .int 1000000000000000], .str "fine"]
abbrev g44 : Trn := (1000000000000000, 999999999999999, 0)
abbrev h44 : Trn := (1000000000000000, -999999999999999, 1)
theorem e15_44 : (10 : Int) ^ (Int.toNat 15) = 1000000000000000 := by decide +kernel
theorem g1_44 : D.lst [.tup [.int ((10 : Int) ^ (Int.toNat 15)), .int ((10 : Int) ^ (Int.toNat 15) - 1), .int 0]] = .lst ([g44].map trD) := by
  rw [e15_44]
  rfl
theorem g2_44 : D.lst (List.replicate (Int.toNat 2) [D.tup [.int ((10 : Int) ^ (Int.toNat 15)), .int ((10 : Int) ^ (Int.toNat 15) - 1), .int 0]]).flatten = .lst ([g44, g44].map trD) := by
  rw [e15_44]
  rfl
theorem g3_44 : D.lst ([D.tup [.int ((10 : Int) ^ (Int.toNat 15)), .int ((10 : Int) ^ (Int.toNat 15) - 1), .int 0]] ++ [D.tup [.int ((10 : Int) ^ (Int.toNat 15)), .int (1 - (10 : Int) ^ (Int.toNat 15)), .int 1]]) = .lst ([g44, h44].map trD) := by
  rw [e15_44]
  rfl
theorem kw_g1 : ∀ u ∈ [g44], KW u := List.forall_mem_cons.mpr ⟨kw_g15, fun _ z => nomatch z⟩
theorem kw_g2 : ∀ u ∈ [g44, g44], KW u := List.forall_mem_cons.mpr ⟨kw_g15, kw_g1⟩
theorem kw_g3 : ∀ u ∈ [g44, h44], KW u := List.forall_mem_cons.mpr ⟨kw_g15, List.forall_mem_cons.mpr ⟨kw_h15, fun _ z => nomatch z⟩⟩
theorem gr44_at {k : Nat} {d : D} (h : [D.lst [.tup [.int ((10 : Int) ^ (Int.toNat 15)), .int ((10 : Int) ^ (Int.toNat 15) - 1), .int 0]], D.lst (List.replicate (Int.toNat 2) [D.tup [.int ((10 : Int) ^ (Int.toNat 15)), .int ((10 : Int) ^ (Int.toNat 15) - 1), .int 0]]).flatten, D.lst ([D.tup [.int ((10 : Int) ^ (Int.toNat 15)), .int ((10 : Int) ^ (Int.toNat 15) - 1), .int 0]] ++ [D.tup [.int ((10 : Int) ^ (Int.toNat 15)), .int (1 - (10 : Int) ^ (Int.toNat 15)), .int 1]])][k]? = some d) :
    ∃ (ks : List Trn) (t : Trn), d = .lst (ks.map trD) ∧ (∀ u ∈ ks, KW u) ∧ ks.length ≤ 8 ∧ (FineW ks t ∨ BigW ks t) ∧ vals44b[k]? = some (rB t) := by
  match k, h with
  | 0, h => exact ⟨[g44], g44, (Option.some.inj h).symm.trans g1_44, kw_g1, by decide, .inl fine_g1, congrArg some (rB_fine tn_g15).symm⟩
  | 1, h => exact ⟨[g44, g44], _, (Option.some.inj h).symm.trans g2_44, kw_g2, by decide, .inr big_g2, congrArg some (rB_big big_g2.2.2).symm⟩
  | 2, h => exact ⟨[g44, h44], _, (Option.some.inj h).symm.trans g3_44, kw_g3, by decide, .inl fine_g3, congrArg some (rB_fine fine_g3.1).symm⟩
theorem anyW_nil {K : PySem.W.Frag} : AnyW K (.lst []) := anyW_l (fun _ z => nomatch z) (by decide)
theorem anyW_non {K : PySem.W.Frag} : AnyW K .non := ⟨any_pv rfl, fun _ e => nomatch e⟩
theorem fewW_nil : FewW (.lst []) := fun _ => ⟨[], rfl, (fun _ z => nomatch z), by decide⟩
theorem fewW_non : FewW .non := fewW_no rfl
theorem sh9_pl {P : Program} {w : World} {K : PySem.W.Frag} {d : D} (h : plB 40000 d = true) : Sh9 P w K d 2000000 := sh9_up (sh9_of (plB_shw h)) (by decide)

end Tp
namespace Tp
open PySem PySem.Spec PyProof.Rows L2 DL
def top (i : Nat) : Stmt := PySem.Challenge.pw_turnedpixels_k44_errors_of_ways.main.body.getD i (.Pass ⟨0, 0, 0, 0⟩)
local macro_rules | `(tactic| walk_at "bd") => `(tactic| first
  | assumption
  | (with_reducible refine' Bd.exX _ (by assumption) (by assumption) ?a1 ?a2; (case a1 => walk_at "bd"); (case a2 => walk_at "bd"))
  | (with_reducible refine' Bd.exY _ (by assumption) (by assumption) ?a1 ?a2; (case a1 => walk_at "bd"); (case a2 => walk_at "bd"))
  | (with_reducible refine' Bd.imX _ (by assumption) (by assumption) ?a1 ?a2; (case a1 => walk_at "bd"); (case a2 => walk_at "bd"))
  | (with_reducible refine' Bd.imY _ (by assumption) (by assumption) ?a1 ?a2; (case a1 => walk_at "bd"); (case a2 => walk_at "bd"))
  | (with_reducible refine' Bd.reX (by assumption) (by assumption) ?a1 ?a2; (case a1 => walk_at "bd"); (case a2 => walk_at "bd"))
  | (with_reducible refine' Bd.reY (by assumption) (by assumption) ?a1 ?a2; (case a1 => walk_at "bd"); (case a2 => walk_at "bd"))
  | (with_reducible refine' Bd.rtX _ ?a1 ?a2; (case a1 => walk_at "bd"); (case a2 => walk_at "bd"))
  | (with_reducible refine' Bd.rtY _ ?a1 ?a2; (case a1 => walk_at "bd"); (case a2 => walk_at "bd"))
  | (with_reducible refine' Bd.nrr ?a1 ?a2; (case a1 => walk_at "bd"); (case a2 => walk_at "bd"))
  | with_reducible exact Bd.lgA _ (by assumption) (by assumption)
  | with_reducible exact Bd.lgB _ (by assumption) (by assumption)
  | with_reducible exact Bd.cc (by assumption) (by assumption)
  | with_reducible exact bd_cc (by unfold Bd; decide)
  | with_reducible exact Bd.lit (OfNat.ofNat _)
  | (with_reducible refine' Bd.isq ?a1; (case a1 => walk_at "bd"))
  | with_reducible exact Bd.lit ((OfNat.ofNat _) ^ _)
  | (with_reducible refine' Bd.abs ?a1; (case a1 => walk_at "bd"))
  | (with_reducible refine' Bd.neg ?a1; (case a1 => walk_at "bd"))
  | (with_reducible refine' Bd.mul ?a1 ?a2; (case a1 => walk_at "bd"); (case a2 => walk_at "bd"))
  | (with_reducible refine' Bd.add ?a1 ?a2; (case a1 => walk_at "bd"); (case a2 => walk_at "bd"))
  | (with_reducible refine' Bd.sub ?a1 ?a2; (case a1 => walk_at "bd"); (case a2 => walk_at "bd"))
  | (with_reducible refine' Bd.pow ?a1 _; (case a1 => walk_at "bd"))
  | (with_reducible refine' Bd.ite ?a1 ?a2; (case a1 => walk_at "bd"); (case a2 => walk_at "bd"))
  | (with_reducible refine' Bd.of_lt ?z1 ?z2 ?z3; (case z1 => assumption); (case z2 => assumption); (case z3 => walk_at "bd"))
  | (with_reducible refine' Bd.of_le ?z1 ?z2 ?z3; (case z1 => assumption); (case z2 => assumption); (case z3 => walk_at "bd"))
  | (with_reducible refine' Bd.div ?a1; (case a1 => walk_at "bd"))
  | (with_reducible refine' Bd.mod ?a1 ?a2; (case a1 => walk_at "bd"); (case a2 => walk_at "pos")))
local macro_rules | `(tactic| walk_at "bdu") => `(tactic| (refine' Bd.up ?u1 ?u2; (case u1 => walk_at "bd"); (case u2 => decide +kernel)))
local macro_rules | `(tactic| walk_at "tn") => `(tactic| first | assumption | exact tn_bk2 (by assumption) | exact Tn.zero (by assumption) | exact tn_one (by assumption) (by assumption) | exact ⟨by decide, by decide, by decide, by decide, by decide, by decide, by decide, by decide⟩)
local macro_rules | `(tactic| walk_at "m") => `(tactic| first | assumption | omega)
local macro_rules | `(tactic| walk_at "isi") => `(tactic| first | refine drc_isi rfl k_ii ?_ | refine drc_isi rfl k_ib ?_ | refine drc_isi rfl k_tt ?_ | refine drc_isi rfl k_bi ?_ | refine drc_isi rfl k_bb ?_ | refine drc_isi rfl k_it ?_ | refine drc_isi rfl k_st ?_ | refine drc_isi rfl k_nt ?_ | refine drc_isi rfl k_lt ?_ | refine drc_isi rfl k_bt ?_ | refine drc_isi rfl k_si ?_ | refine drc_isi rfl k_ni ?_ | refine drc_isi rfl k_ti ?_ | refine drc_isi rfl k_li ?_ | refine drc_isi rfl k_ll ?_)
local macro_rules | `(tactic| walk_at "no") => `(tactic| exact absurd hc (by simp))
local macro_rules | `(tactic| walk_at "cmw") => `(tactic| (refine' cmw ?h1 ?h2 ?h3; (case h1 => walk_at "bd"); (case h2 => walk_at "bd"); (case h3 => decide +kernel)))
local macro_rules | `(tactic| walk_at "cdw") => `(tactic| (refine' cdw ?h1 ?h2 ?h3; (case h1 => walk_at "bd"); (case h2 => walk_at "pos"); (case h3 => decide +kernel)))
local macro_rules | `(tactic| walk_at "cpw") => `(tactic| (refine' cpw ?h1 ?h2 ?h3; (case h1 => walk_at "bd"); (case h2 => exact ⟨by decide, by decide⟩); (case h3 => decide +kernel)))
local macro_rules | `(tactic| walk_at "pos") => `(tactic| first | assumption | exact of_decide_eq_true (by assumption) | exact cc_pos (by assumption) | exact Int.mul_pos (cc_pos (by assumption)) (cc_pos (by assumption)) | omega | (split <;> omega) | decide +kernel)
local macro_rules | `(tactic| walk_at "len") => `(tactic| first | decide | omega | (simp; done) | (simp; omega) | (simp only [List.length_map, shC_len]; decide) | (show 3 + 3 ≤ 100000; decide))
local macro_rules | `(tactic| walk_at "len3") => `(tactic| first | decide | exact ⟨by simp, by simp, by simp⟩)
local macro_rules | `(tactic| walk_at "slice") => `(tactic| first | refine sl_1 ?_ | refine sl_m2 ?_ | refine sl_m3 ?_ | refine sl_t31 ?_ | refine sl_t2 ?_ | refine sl_l ?_)
local macro_rules | `(tactic| walk_at "ix") => `(tactic| first | refine ix_t ?_ | refine ix_t ?_ (by assumption) | refine ix_l ?_ | refine ix_o getS_hd ?_ | (refine ix_o (by walk_at "gets") ?_))
local macro_rules | `(tactic| walk_at "gets") => `(tactic| first | exact getS_hd | assumption | (rw [getS_tl (by assumption)]; first | exact getS_hd | assumption | exact getS_setS_same (by assumption)) | exact getS_setS_same (by assumption))
local macro_rules | `(tactic| walk_at "sets") => `(tactic| first | rw [setS_hd] | rw [setS_setS] | rw [setS_tl (by assumption)] | skip)
local macro_rules | `(tactic| walk_at "eq") => `(tactic| first | refine eq_int ?_ | refine eq_tup ?_ | refine eq_lst ?_ | refine eq_scr ?_ | refine eq_str ?_)
local macro_rules | `(tactic| walk_at "flat") => `(tactic| first | rfl | decide)
local macro_rules | `(tactic| walk_at "sho") => `(tactic| (simp only [rat, shoP, shoL, List.cons_append, List.nil_append, true_and, and_true] <;> walk_at "shos"))
local macro_rules | `(tactic| walk_at "shos") => `(tactic| first | trivial | (refine ⟨?_, ?_⟩ <;> walk_at "shos") | (refine' shw ?h1 ?h2; (case h1 => walk_at "bd"); (case h2 => decide +kernel)))
local macro_rules | `(tactic| walk_at "big") => `(tactic| (simp only [rat, bigD, bigL, List.cons_append, List.nil_append]; decide))
local macro_rules | `(tactic| walk_at "obj") => `(tactic| first | exact .inl ⟨_, rfl⟩ | exact .inr ⟨_, rfl⟩)
local macro_rules | `(tactic| walk_at "lenP") => `(tactic| first | refine (show lenP (.tup _) _ _ from ?_) | refine (show lenP (.lst _) _ _ from ?_) | refine (show lenP (.scr _) _ _ from ?_) | skip)
local macro_rules | `(tactic| walk_at "rng") => `(tactic| first | decide | omega)
local macro_rules | `(tactic| walk_at "ord") => `(tactic| skip)
local macro_rules | `(tactic| walk_at "wk") => `(tactic| (repeat (first | refine ⟨rfl, ?_⟩ | exact trivial)))
local macro_rules | `(tactic| walk_at "spx") => `(tactic| first | exact ⟨by assumption, by assumption⟩ | (refine ⟨?_, ?_⟩ <;> first | omega | (split <;> omega)))
local macro_rules | `(tactic| walk_at "at") => `(tactic| first | rfl | assumption)
local macro_rules | `(tactic| walk_at "isr") => `(tactic| first | assumption | exact re_is (by assumption) _ _ | exact ⟨⟨by decide, by decide⟩, by decide, by decide⟩)
local macro_rules | `(tactic| walk_at "isq") => `(tactic| first | exact isq_ok (root_p _ _) (sq_bd (by assumption)) | exact isq_ok (root_q _ _) (sq_bd (by assumption)) | exact isq_okV (root_p _ _) (by assumption) | exact isq_okV (root_q _ _) (by assumption) | exact ⟨by omega, (show Bd 3000 _ by walk_at "bdu")⟩)
local macro_rules | `(tactic| walk_at "n0") => `(tactic| first | assumption | omega | decide)
local macro_rules | `(tactic| walk_at "cfl") => `(tactic| first | exact flat_ints _ | exact flat_bls _ | rfl)
local macro_rules | `(tactic| walk_at "cpl") => `(tactic| first | exact plain_ints _ | exact plain_bls _ | rfl)
local macro_rules | `(tactic| walk_at "zl") => `(tactic| first | (rw [List.length_map, List.length_map]; assumption) | (simp only [List.length_map, List.length_range]; done) | (simp; done))
local macro_rules | `(tactic| walk_at "sets2") => `(tactic| first | rw [setS_hd] | (rw [setS_tl (by assumption)]; first | rw [setS_hd] | rw [setS_setS] | skip) | rw [setS_setS] | skip)
local macro_rules | `(tactic| walk_at "sc") => `(tactic| first | assumption | exact sc_great ⟨by assumption, by assumption⟩ ⟨by assumption, by assumption⟩ ⟨by assumption, by assumption⟩ | exact ⟨by decide, by decide, by decide, by decide, by decide, by decide, by decide⟩ | exact ⟨by decide +kernel, by decide +kernel, by decide +kernel, by decide +kernel, by decide +kernel, by decide +kernel, by decide +kernel⟩)
local macro_rules | `(tactic| walk_at "gi") => `(tactic| first | exact ⟨by assumption, by assumption⟩ | exact ⟨by omega, by omega⟩ | (refine ⟨?_, ?_⟩ <;> (try dsimp only) <;> split <;> omega) | (dsimp only; omega) | (refine ⟨?_, ?_⟩ <;> dsimp only <;> omega))
local macro_rules | `(tactic| walk_at "kw1") => `(tactic| first | assumption | exact ⟨by assumption, by assumption⟩)
local macro_rules | `(tactic| walk_at "kw") => `(tactic| first | assumption)
local macro_rules | `(tactic| walk_at "kwt") => `(tactic| first | assumption | exact kw_tn (by assumption))
local macro_rules | `(tactic| walk_at "kwl") => `(tactic| first | assumption | omega | (simp only [List.length_map, List.length_reverse]; omega))
local macro_rules | `(tactic| walk_at "rd") => `(tactic| first | (refine ⟨?_, ?_⟩ <;> first | assumption | omega | decide +kernel))
local macro_rules | `(tactic| walk_at "sx") => `(tactic| first | assumption | exact sx_bk (by assumption) | exact sx_rot (by assumption) _ | exact sx_kin (by assumption) _ _ ⟨by omega, by omega⟩ | exact ⟨by decide, by decide, by decide, by decide, by decide, by decide, by decide, by decide, by decide, by decide⟩)
local macro_rules | `(tactic| walk_at "k6") => `(tactic| first | exact ⟨by assumption, by assumption⟩ | exact ⟨by omega, by omega⟩)
local macro_rules | `(tactic| walk_at "shl") => `(tactic| first | omega | (simp only [List.length_map]; omega) | (rw [List.length_replicate]; omega))
local macro_rules | `(tactic| walk_at "nos") => `(tactic| first | assumption | exact noS_nil | exact noS_cons rfl noS_nil | exact noS_src1 (by assumption))
local macro_rules | `(tactic| walk_at "mlen") => `(tactic| (rw [List.length_map]; show _ * 2 ≤ _; omega))
section
variable {P : Program} {w : World} {K : PySem.W.Frag} {mg : Str → Option Value} {base : Heap}
abbrev s_times : Stmt := top 16
theorem sc_times : FnScope ["one", "other", "x", "y", "r", "s"] ["one", "other"] (defScope s_times) := ⟨rfl, rfl, rfl, by decide +kernel, rfl, by decide +kernel, by decide +kernel⟩
set_option maxHeartbeats 40000000 in
theorem ok_times {f : Addr} {fd : FuncData} (F : Fun K "times" "times" s_times f fd)  : GOk P w K mg base 1 f fd ["one", "other"] (spD K con_timesG) := by
  refine gok_ds F sc_times (m := 4) rfl (fun ds S0 Q h => ?_) fun cdv A fr s0 H0 E0' gd hr ds S0 Q h => ?_
  · obtain ⟨_, _, _, _, rfl, _⟩ := h
    rfl
  obtain ⟨x, y, r, s, rfl, ⟨b1, b2, b3, b4⟩, q⟩ := h
  refine ds_nrm ?_ (by set_option simprocs false in dsimp only [List.map, List.replicate, List.cons_append, List.nil_append])
  refine ds_cons ?_
  refine ds_asg (h := ?_)
  refine de_name 0 ?_
  first | refine dg_tup rfl rfl ?_ | refine dg_tupL rfl rfl ?_ (fun h => pg_lst rfl h)
  refine dgs_cons (h := ?_)
  refine dg_name 2 ?_ sc_times.nd
  refine dgs_cons (h := ?_)
  refine dg_name 3 ?_ sc_times.nd
  refine dgs_nil ?_
  refine ds_cons ?_
  refine ds_asg (h := ?_)
  refine de_name 1 ?_
  first | refine dg_tup rfl rfl ?_ | refine dg_tupL rfl rfl ?_ (fun h => pg_lst rfl h)
  refine dgs_cons (h := ?_)
  refine dg_name 4 ?_ sc_times.nd
  refine dgs_cons (h := ?_)
  refine dg_name 5 ?_ sc_times.nd
  refine dgs_nil ?_
  refine ds_cons ?_
  refine ds_ret ?_
  refine de_tup ?_
  refine da_cons ?_
  refine de_sub ?_
  refine de_mul ?_
  refine de_name 2 ?_
  refine de_name 4 ?_
  first | refine mul_i ?_ (by walk_at "cmw") | refine mul_l ?_ ⟨by decide, by decide, by first | decide | exact Nat.le_of_ble_eq_true rfl | walk_at "mlen"⟩
  refine de_mul ?_
  refine de_name 3 ?_
  refine de_name 5 ?_
  first | refine mul_i ?_ (by walk_at "cmw") | refine mul_l ?_ ⟨by decide, by decide, by first | decide | exact Nat.le_of_ble_eq_true rfl | walk_at "mlen"⟩
  refine ⟨_, _, rfl, rfl, ?_⟩
  refine da_cons ?_
  refine de_add ?_
  refine de_mul ?_
  refine de_name 2 ?_
  refine de_name 5 ?_
  first | refine mul_i ?_ (by walk_at "cmw") | refine mul_l ?_ ⟨by decide, by decide, by first | decide | exact Nat.le_of_ble_eq_true rfl | walk_at "mlen"⟩
  refine de_mul ?_
  refine de_name 3 ?_
  refine de_name 4 ?_
  first | refine mul_i ?_ (by walk_at "cmw") | refine mul_l ?_ ⟨by decide, by decide, by first | decide | exact Nat.le_of_ble_eq_true rfl | walk_at "mlen"⟩
  first | refine add_int ?_ | refine add_lst ?_ (by walk_at "len") | refine add_tup ?_ (by walk_at "len3") | refine add_scr ?_ (by walk_at "len") | refine (show addP (.str _) (.str _) _ _ from ⟨by decide +kernel, ?_⟩)
  refine da_nil ?_
  refine ⟨by walk_at "len", ?_⟩
  exact q
abbrev s_is_whole : Stmt := top 13
theorem sc_is_whole : FnScope ["value"] ["value"] (defScope s_is_whole) := ⟨rfl, rfl, rfl, by decide +kernel, rfl, by decide +kernel, by decide +kernel⟩
set_option maxHeartbeats 40000000 in
theorem ok_is_whole {f : Addr} {fd : FuncData} (F : Fun K "is_whole" "is_whole" s_is_whole f fd) (n_bool : mg "bool" = none) (n_int : mg "int" = none) (n_isinstance : mg "isinstance" = none) : GOk P w K mg base 1 f fd ["value"] (spD K (con_wholeA K)) := by
  refine gok_ds F sc_is_whole (m := 0) rfl (fun ds S0 Q h => ?_) fun cdv A fr s0 H0 E0' gd hr ds S0 Q h => ?_
  · obtain ⟨_, rfl, _⟩ := h
    rfl
  obtain ⟨d, rfl, ⟨t9, hty, hi9, hb9, htu, hls, hst⟩, q⟩ := h
  refine ds_nrm ?_ (by set_option simprocs false in dsimp only [List.map, List.replicate, List.cons_append, List.nil_append])
  refine ds_cons ?_
  refine ds_ret ?_
  refine de_and ?_
  refine de_B call_isi_D n_isinstance bt_isinstance ?_
  refine da_cons ?_
  refine de_name 0 ?_
  refine da_cons ?_
  refine de_ty n_int bt_int ?_
  refine da_nil ?_
  refine drc_isiD hty hi9 ?_
  refine ⟨_, rfl, fun hb => ?_, fun hb => ?_⟩
  · rw [show wholeD d = false by cases d <;> first | rfl | cases hb] at q; exact q
  refine de_one ?_
  refine de_not ?_
  refine de_B call_isi_D n_isinstance bt_isinstance ?_
  refine da_cons ?_
  refine de_name 0 ?_
  refine da_cons ?_
  refine de_ty n_bool bt_bool ?_
  refine da_nil ?_
  refine drc_isiD hty hb9 ?_
  refine ⟨_, rfl, ?_⟩
  rw [show (!isBlD d) = wholeD d by cases d <;> first | rfl | cases hb]
  exact q
abbrev s_is_whole_tuple : Stmt := top 14
theorem sc_is_whole_tuple : FnScope ["value", "size", "part"] ["value", "size"] (defScope s_is_whole_tuple) := ⟨rfl, rfl, rfl, by decide +kernel, rfl, by decide +kernel, by decide +kernel⟩
set_option maxHeartbeats 40000000 in
theorem ok_is_whole_tuple {f : Addr} {fd : FuncData} (F : Fun K "is_whole_tuple" "is_whole_tuple" s_is_whole_tuple f fd) (c_is_whole : Cal P w K mg base 1 "is_whole" ["value"] [] (con_wholeA K)) (n_all : mg "all" = none) (n_isinstance : mg "isinstance" = none) (n_len : mg "len" = none) (n_tuple : mg "tuple" = none) : GOk P w K mg base 2 f fd ["value", "size"] (spD K (con_wtA K)) := by
  refine gok_ds F sc_is_whole_tuple (m := 1) rfl (fun ds S0 Q h => ?_) fun cdv A fr s0 H0 E0' gd hr ds S0 Q h => ?_
  · obtain ⟨_, _, rfl, _⟩ := h
    rfl
  obtain ⟨d, n, rfl, hA, hl9, q⟩ := h
  obtain ⟨t9, hty, hi9, hb9, htu, hls, hst⟩ := hA.v
  refine ds_nrm ?_ (by set_option simprocs false in dsimp only [List.map, List.replicate, List.cons_append, List.nil_append])
  refine ds_cons ?_
  refine ds_ret ?_
  refine de_and ?_
  refine de_B call_isi_D n_isinstance bt_isinstance ?_
  refine da_cons ?_
  refine de_name 0 ?_
  refine da_cons ?_
  refine de_ty n_tuple bt_tuple ?_
  refine da_nil ?_
  refine drc_isiD hty htu ?_
  refine ⟨_, rfl, fun hb => ?_, fun hb => ?_⟩
  · rw [show wtB n d = false by cases d <;> first | rfl | cases hb] at q; exact q
  obtain ⟨l9, rfl⟩ : ∃ l, d = .tup l := by cases d <;> first | exact ⟨_, rfl⟩ | cases hb
  refine de_and ?_
  refine de_eq (hr.units) ?_
  refine de_B call_len_seq n_len bt_len ?_
  refine da_cons ?_
  refine de_name 0 ?_
  refine da_nil ?_
  refine drc_len ?_
  walk_at "lenP"
  refine de_name 1 ?_
  refine eq_int ?_
  refine ⟨_, rfl, fun hb => ?_, fun hb => ?_⟩
  · rw [show wtB n (.tup l9) = false by rw [wtB, hb]; rfl] at q; exact q
  refine de_one ?_
  refine de_B (cr_all rfl) n_all bt_all ?_
  refine da_cons ?_
  refine de_lc 2 rfl sc_is_whole_tuple.nd (blkOk_by (N := ["value", "size", "part"]) (sc := defScope s_is_whole_tuple) (by decide +kernel)) ?_ (fun _ _ _ _ _ => pg_name sc_is_whole_tuple.nd rfl (Or.inl rfl))
  refine di_tup ?_
  refine de_name 0 ?_
  refine ⟨_, rfl, ?_⟩
  refine ⟨fun k acc S' => S' = S0 ∧ acc = (l9.map (fun z => D.bl (wholeD z))).take k, ⟨rfl, rfl⟩, fun k d9 acc S' p hk hP hp hl s H C cl fp => ?_, by have := hl9 l9 rfl; omega, fun acc S' hl hP => ?_⟩
  · obtain ⟨rfl, rfl⟩ := hP
    refine de_call c_is_whole gd (hr.mono (by decide)) ?_
    refine da_cons ?_
    refine de_name 2 ?_
    refine da_nil ?_
    refine ⟨_, rfl, hA.p _ rfl _ (List.mem_of_getElem? hk), ?_⟩
    exact ⟨_, rfl, rfl, by rw [take_step (fun z => D.bl (wholeD z)) hk]⟩
  obtain ⟨rfl, rfl⟩ := hP
  rw [List.take_of_length_le (by rw [List.length_map]; exact Nat.le_refl _), wt_map]
  refine da_nil ?_
  refine drc_all ?_
  rw [all_id]
  have q9 := q
  rw [wtB, hb, Bool.true_and] at q9
  exact q9
abbrev s_is_pixel : Stmt := top 22
theorem sc_is_pixel : FnScope ["value"] ["value"] (defScope s_is_pixel) := ⟨rfl, rfl, rfl, by decide +kernel, rfl, by decide +kernel, by decide +kernel⟩
set_option maxHeartbeats 40000000 in
theorem ok_is_pixel {f : Addr} {fd : FuncData} (F : Fun K "is_pixel" "is_pixel" s_is_pixel f fd) (c_is_whole_tuple : Cal P w K mg base 2 "is_whole_tuple" ["value", "size"] [] (con_wtA K)) : GOk P w K mg base 3 f fd ["value"] (spD K (con_pixA K)) := by
  refine gok_ds F sc_is_pixel (m := 0) rfl (fun ds S0 Q h => ?_) fun cdv A fr s0 H0 E0' gd hr ds S0 Q h => ?_
  · obtain ⟨_, rfl, _⟩ := h
    rfl
  obtain ⟨d, rfl, hA, hl9, q⟩ := h
  refine ds_nrm ?_ (by set_option simprocs false in dsimp only [List.map, List.replicate, List.cons_append, List.nil_append])
  refine ds_cons ?_
  refine ds_ret ?_
  refine de_call c_is_whole_tuple gd (hr.mono (by decide)) ?_
  refine da_cons ?_
  refine de_name 0 ?_
  refine da_cons ?_
  refine de_int ?_
  refine da_nil ?_
  refine ⟨_, _, rfl, hA, hl9, ?_⟩
  exact q
abbrev s_is_turn : Stmt := top 23
theorem sc_is_turn : FnScope ["value", "p", "q", "quarters"] ["value"] (defScope s_is_turn) := ⟨rfl, rfl, rfl, by decide +kernel, rfl, by decide +kernel, by decide +kernel⟩
set_option maxHeartbeats 40000000 in
theorem ok_is_turn {f : Addr} {fd : FuncData} (F : Fun K "is_turn" "is_turn" s_is_turn f fd) (b_gcd : mg "gcd" = some (.builtin "math.gcd")) (c_is_whole_tuple : Cal P w K mg base 2 "is_whole_tuple" ["value", "size"] [] (con_wtA K)) (g_GREATEST_P : ∃ u, mg "GREATEST_P" = some (.int (1000000000000000) u)) (n_abs : mg "abs" = none) : GOk P w K mg base 3 f fd ["value"] (spD K (con_turnA K)) := by
  refine gok_ds F sc_is_turn (m := 3) rfl (fun ds S0 Q h => ?_) fun cdv A fr s0 H0 E0' gd hr ds S0 Q h => ?_
  · obtain ⟨_, rfl, _⟩ := h
    rfl
  obtain ⟨d, rfl, hA, hl9, q⟩ := h
  obtain ⟨u0, gP⟩ := g_GREATEST_P
  refine ds_nrm ?_ (by set_option simprocs false in dsimp only [List.map, List.replicate, List.cons_append, List.nil_append])
  refine ds_cons ?_
  refine ds_if ?_
  refine dt_not ?_
  refine dt_val (h := ?_)
  refine de_call c_is_whole_tuple gd (hr.mono (by decide)) ?_
  refine da_cons ?_
  refine de_name 0 ?_
  refine da_cons ?_
  refine de_int ?_
  refine da_nil ?_
  refine ⟨_, _, rfl, hA, hl9, ?_⟩
  refine ⟨_, rfl, ?_⟩
  refine ⟨fun ht => ?_, fun ht => ?_⟩
  · rw [turnB_no (by simpa using ht)] at q
    refine ds_cons ?_
    refine ds_ret ?_
    refine de_bl ?_
    exact q
  obtain ⟨p, q', k, rfl⟩ := wt3 (d := d) (by simpa using ht)
  refine ds_nil ?_
  refine ds_cons ?_
  refine ds_asg (h := ?_)
  refine de_name 0 ?_
  first | refine dg_tup rfl rfl ?_ | refine dg_tupL rfl rfl ?_ (fun h => pg_lst rfl h)
  refine dgs_cons (h := ?_)
  refine dg_name 1 ?_ sc_is_turn.nd
  refine dgs_cons (h := ?_)
  refine dg_name 2 ?_ sc_is_turn.nd
  refine dgs_cons (h := ?_)
  refine dg_name 3 ?_ sc_is_turn.nd
  refine dgs_nil ?_
  refine ds_cons ?_
  refine ds_if ?_
  refine DT.mono (Q := fun b' S' => S0 = S' ∧ (b' = true → turnB (.tup [.int p, .int q', .int k]) = false) ∧ (b' = false → 1 ≤ p ∧ p ≤ 1000000000000000 ∧ -p < q' ∧ q' < p ∧ 0 ≤ k ∧ k ≤ 3)) ?_ ?_
  · refine dt_w ?_
    refine dw_or ?_
    refine dt_lt ?_
    refine de_name 1 ?_
    refine de_int ?_
    refine ⟨_, _, rfl, rfl, ?_⟩
    refine ⟨fun hb => ?_, fun hc1 => ?_⟩
    · exact ⟨rfl, fun _ => by have z := of_decide_eq_true hb; unfold turnB tnB; exact decide_eq_false (by (try split at z) <;> omega), fun z => nomatch z⟩
    refine dw_or ?_
    refine dt_gt ?_
    refine de_name 1 ?_
    refine de_globI gP ?_
    refine ⟨_, _, rfl, rfl, ?_⟩
    refine ⟨fun hb => ?_, fun hc2 => ?_⟩
    · exact ⟨rfl, fun _ => by have z := of_decide_eq_true hb; unfold turnB tnB; exact decide_eq_false (by (try split at z) <;> omega), fun z => nomatch z⟩
    refine dw_or ?_
    refine dt_ge ?_
    refine de_B call_abs n_abs bt_abs ?_
    refine da_cons ?_
    refine de_name 2 ?_
    refine da_nil ?_
    refine drc_abs ?_
    refine de_name 1 ?_
    refine ⟨_, _, rfl, rfl, ?_⟩
    refine ⟨fun hb => ?_, fun hc3 => ?_⟩
    · exact ⟨rfl, fun _ => by have z := of_decide_eq_true hb; unfold turnB tnB; exact decide_eq_false (by (try split at z) <;> omega), fun z => nomatch z⟩
    refine dw_or ?_
    refine dt_lt ?_
    refine de_name 3 ?_
    refine de_int ?_
    refine ⟨_, _, rfl, rfl, ?_⟩
    refine ⟨fun hb => ?_, fun hc4 => ?_⟩
    · exact ⟨rfl, fun _ => by have z := of_decide_eq_true hb; unfold turnB tnB; exact decide_eq_false (by (try split at z) <;> omega), fun z => nomatch z⟩
    refine dw_or1 ?_
    refine dt_gt ?_
    refine de_name 3 ?_
    refine de_int ?_
    refine ⟨_, _, rfl, rfl, ?_⟩
    refine ⟨rfl, fun z => ?_, fun z => ?_⟩
    · have z := of_decide_eq_true z
      unfold turnB tnB
      exact decide_eq_false (by omega)
    · have c1 := of_decide_eq_false hc1; have c2 := of_decide_eq_false hc2; have c3 := of_decide_eq_false hc3; have c4 := of_decide_eq_false hc4; have c5 := of_decide_eq_false z; split at c3 <;> omega
  rintro b' _ ⟨rfl, hbt, hbf⟩
  refine ⟨fun ht => ?_, fun ht => ?_⟩
  · rw [hbt ht] at q
    refine ds_cons ?_
    refine ds_ret ?_
    refine de_bl ?_
    exact q
  obtain ⟨h1, h2, h3, h4, h5, h6⟩ := hbf ht
  refine ds_nil ?_
  refine ds_cons ?_
  refine ds_ret ?_
  refine de_and ?_
  refine de_eq (hr.units) ?_
  refine de_mod ?_
  refine de_add ?_
  refine de_name 1 ?_
  refine de_name 2 ?_
  first | refine add_int ?_ | refine add_lst ?_ (by walk_at "len") | refine add_tup ?_ (by walk_at "len3") | refine add_scr ?_ (by walk_at "len") | refine (show addP (.str _) (.str _) _ _ from ⟨by decide +kernel, ?_⟩)
  refine de_int ?_
  refine ⟨_, _, rfl, rfl, (by walk_at "pos"), ?_⟩
  refine de_int ?_
  refine eq_int ?_
  refine ⟨_, rfl, fun hb => ?_, fun hb => ?_⟩
  · rw [show turnB (.tup [.int p, .int q', .int k]) = false by unfold turnB tnB; exact decide_eq_false (fun z => (of_decide_eq_false hb) z.2.2.2.2.2.2.1)] at q; exact q
  refine de_one ?_
  refine de_eq (hr.units) ?_
  refine de_gcd b_gcd ?_
  refine da_cons ?_
  refine de_name 1 ?_
  refine da_cons ?_
  refine de_name 2 ?_
  refine da_nil ?_
  refine ⟨_, _, rfl, ?_⟩
  refine de_int ?_
  refine eq_int ?_
  rw [show decide (((Nat.gcd p.natAbs q'.natAbs : Nat) : Int) = 1) = turnB (.tup [.int p, .int q', .int k]) by unfold turnB tnB; exact decide_eq_decide.mpr ⟨fun z => ⟨h1, h2, h3, h4, h5, h6, of_decide_eq_true hb, by omega⟩, fun z => by have := z.2.2.2.2.2.2.2; omega⟩]
  exact q
abbrev s_check_pixel : Stmt := top 24
theorem sc_check_pixel : FnScope ["pixel"] ["pixel"] (defScope s_check_pixel) := ⟨rfl, rfl, rfl, by decide +kernel, rfl, by decide +kernel, by decide +kernel⟩
set_option maxHeartbeats 40000000 in
theorem ok_check_pixel {f : Addr} {fd : FuncData} (F : Fun K "check_pixel" "check_pixel" s_check_pixel f fd) (c_is_pixel : Cal P w K mg base 3 "is_pixel" ["value"] [] (con_pixA K)) : GOk P w K mg base 4 f fd ["pixel"] (spD K con_check_pixel) := by
  refine gok_ds F sc_check_pixel (m := 0) rfl (fun ds S0 Q h => ?_) fun cdv A fr s0 H0 E0' gd hr ds S0 Q h => ?_
  · obtain ⟨_, _, rfl, _⟩ := h
    rfl
  obtain ⟨x, y, rfl, q⟩ := h
  refine ds_nrm ?_ (by set_option simprocs false in dsimp only [List.map, List.replicate, List.cons_append, List.nil_append])
  refine ds_cons ?_
  refine ds_if ?_
  refine dt_not ?_
  refine dt_val (h := ?_)
  refine de_call c_is_pixel gd (hr.mono (by decide)) ?_
  refine da_cons ?_
  refine de_name 0 ?_
  refine da_nil ?_
  refine ⟨_, rfl, any_pt rfl, (fun l e => by cases e; exact Nat.le_add_left 2 998), ?_⟩
  refine ⟨_, rfl, ?_⟩
  refine ⟨fun ht => ?_, fun ht => ?_⟩
  · cases ht
  refine ds_nil ?_
  refine ds_nil ?_
  exact q
abbrev s_check_turn : Stmt := top 25
theorem sc_check_turn : FnScope ["turn"] ["turn"] (defScope s_check_turn) := ⟨rfl, rfl, rfl, by decide +kernel, rfl, by decide +kernel, by decide +kernel⟩
set_option maxHeartbeats 40000000 in
theorem ok_check_turn {f : Addr} {fd : FuncData} (F : Fun K "check_turn" "check_turn" s_check_turn f fd) (c_is_turn : Cal P w K mg base 3 "is_turn" ["value"] [] (con_turnA K)) : GOk P w K mg base 4 f fd ["turn"] (spD K con_check_turn) := by
  refine gok_ds F sc_check_turn (m := 0) rfl (fun ds S0 Q h => ?_) fun cdv A fr s0 H0 E0' gd hr ds S0 Q h => ?_
  · obtain ⟨_, _, _, rfl, _⟩ := h
    rfl
  obtain ⟨p, q, k, rfl, hT, qq⟩ := h
  refine ds_nrm ?_ (by set_option simprocs false in dsimp only [List.map, List.replicate, List.cons_append, List.nil_append])
  refine ds_cons ?_
  refine ds_if ?_
  refine dt_not ?_
  refine dt_val (h := ?_)
  refine de_call c_is_turn gd (hr.mono (by decide)) ?_
  refine da_cons ?_
  refine de_name 0 ?_
  refine da_nil ?_
  refine ⟨_, rfl, any_pt rfl, (fun l e => by cases e; exact Nat.le_add_left 3 997), ?_⟩
  rw [tn_turnB hT]
  refine ⟨_, rfl, ?_⟩
  refine ⟨fun ht => ?_, fun ht => ?_⟩
  · cases ht
  refine ds_nil ?_
  refine ds_nil ?_
  exact qq
set_option maxHeartbeats 40000000 in
theorem okx_check_pixel {f : Addr} {fd : FuncData} (F : Fun K "check_pixel" "check_pixel" s_check_pixel f fd) {C_InvalidPixel : Addr} (c_is_pixel : Cal P w K mg base 3 "is_pixel" ["value"] [] (con_pixA K)) (o_InvalidPixel : OwnErr K mg "InvalidPixel" C_InvalidPixel) : GOkX P w K mg base 4 f fd ["pixel"] (spDX K (con_chkX K pixB C_InvalidPixel)) := by
  refine gokx_ds F sc_check_pixel (m := 0) rfl (fun ds S0 Q R h => ?_) fun cdv A fr s0 H0 E0' gd hr ds S0 Q R h => ?_
  · obtain ⟨_, rfl, _⟩ := h
    rfl
  obtain ⟨d, rfl, hA, q1, q2⟩ := h
  refine dsx_nrm ?_ (by set_option simprocs false in dsimp only [List.map, List.replicate, List.cons_append, List.nil_append])
  refine dsx_cons ?_
  refine dsx_if ?_
  refine dt_not ?_
  refine dt_val (h := ?_)
  refine de_call c_is_pixel gd (hr.mono (by decide)) ?_
  refine da_cons ?_
  refine de_name 0 ?_
  refine da_nil ?_
  refine ⟨_, rfl, hA.t, hA.l, ?_⟩
  refine ⟨_, rfl, ?_⟩
  refine ⟨fun ht => ?_, fun ht => ?_⟩
  · refine dsx_cons ?_
    refine dsx_raise_own o_InvalidPixel rfl ?_
    exact q1 (by simpa using ht)
  refine dsx_nil ?_
  refine dsx_nil ?_
  exact q2 (by simpa using ht)
set_option maxHeartbeats 40000000 in
theorem okx_check_turn {f : Addr} {fd : FuncData} (F : Fun K "check_turn" "check_turn" s_check_turn f fd) {C_InvalidTurn : Addr} (c_is_turn : Cal P w K mg base 3 "is_turn" ["value"] [] (con_turnA K)) (o_InvalidTurn : OwnErr K mg "InvalidTurn" C_InvalidTurn) : GOkX P w K mg base 4 f fd ["turn"] (spDX K (con_chkX K turnB C_InvalidTurn)) := by
  refine gokx_ds F sc_check_turn (m := 0) rfl (fun ds S0 Q R h => ?_) fun cdv A fr s0 H0 E0' gd hr ds S0 Q R h => ?_
  · obtain ⟨_, rfl, _⟩ := h
    rfl
  obtain ⟨d, rfl, hA, q1, q2⟩ := h
  refine dsx_nrm ?_ (by set_option simprocs false in dsimp only [List.map, List.replicate, List.cons_append, List.nil_append])
  refine dsx_cons ?_
  refine dsx_if ?_
  refine dt_not ?_
  refine dt_val (h := ?_)
  refine de_call c_is_turn gd (hr.mono (by decide)) ?_
  refine da_cons ?_
  refine de_name 0 ?_
  refine da_nil ?_
  refine ⟨_, rfl, hA.t, hA.l, ?_⟩
  refine ⟨_, rfl, ?_⟩
  refine ⟨fun ht => ?_, fun ht => ?_⟩
  · refine dsx_cons ?_
    refine dsx_raise_own o_InvalidTurn rfl ?_
    exact q1 (by simpa using ht)
  refine dsx_nil ?_
  refine dsx_nil ?_
  exact q2 (by simpa using ht)
abbrev s_nearest : Stmt := top 15
theorem sc_nearest : FnScope ["number", "divisor"] ["number", "divisor"] (defScope s_nearest) := ⟨rfl, rfl, rfl, by decide +kernel, rfl, by decide +kernel, by decide +kernel⟩
set_option maxHeartbeats 40000000 in
theorem ok_nearest {f : Addr} {fd : FuncData} (F : Fun K "nearest" "nearest" s_nearest f fd)  : GOk P w K mg base 1 f fd ["number", "divisor"] (spD K con_nearest) := by
  refine gok_ds F sc_nearest (m := 0) rfl (fun ds S0 Q h => ?_) fun cdv A fr s0 H0 E0' gd hr ds S0 Q h => ?_
  · obtain ⟨_, _, rfl, _⟩ := h
    rfl
  obtain ⟨n, d, rfl, ⟨b1, b2, b3⟩, q⟩ := h
  refine ds_nrm ?_ (by set_option simprocs false in dsimp only [List.map, List.replicate, List.cons_append, List.nil_append])
  refine ds_cons ?_
  refine ds_ret ?_
  refine de_fdiv ?_
  refine de_add ?_
  refine de_mul ?_
  refine de_int ?_
  refine de_name 0 ?_
  first | refine mul_i ?_ (by walk_at "cmw") | refine mul_l ?_ ⟨by decide, by decide, by first | decide | exact Nat.le_of_ble_eq_true rfl | walk_at "mlen"⟩
  refine de_name 1 ?_
  first | refine add_int ?_ | refine add_lst ?_ (by walk_at "len") | refine add_tup ?_ (by walk_at "len3") | refine add_scr ?_ (by walk_at "len") | refine (show addP (.str _) (.str _) _ _ from ⟨by decide +kernel, ?_⟩)
  refine de_mul ?_
  refine de_int ?_
  refine de_name 1 ?_
  first | refine mul_i ?_ (by walk_at "cmw") | refine mul_l ?_ ⟨by decide, by decide, by first | decide | exact Nat.le_of_ble_eq_true rfl | walk_at "mlen"⟩
  refine ⟨_, _, rfl, rfl, (by walk_at "cdw"), ?_⟩
  unfold nrr at q
  exact q
abbrev s_legs_of : Stmt := top 26
theorem sc_legs_of : FnScope ["turn", "p", "q", "quarters", "a", "b", "_"] ["turn"] (defScope s_legs_of) := ⟨rfl, rfl, rfl, by decide +kernel, rfl, by decide +kernel, by decide +kernel⟩
set_option maxHeartbeats 40000000 in
theorem ok_legs_of {f : Addr} {fd : FuncData} (F : Fun K "legs_of" "legs_of" s_legs_of f fd) (c_check_turn : Cal P w K mg base 4 "check_turn" ["turn"] [] con_check_turn) (c_times : Cal P w K mg base 1 "times" ["one", "other"] [] con_timesG) (n_range : mg "range" = none) : GOk P w K mg base 5 f fd ["turn"] (spD K con_legs_of) := by
  refine gok_ds F sc_legs_of (m := 6) rfl (fun ds S0 Q h => ?_) fun cdv A fr s0 H0 E0' gd hr ds S0 Q h => ?_
  · obtain ⟨_, _, _, rfl, _⟩ := h
    rfl
  obtain ⟨p, q, k, rfl, hT, qq⟩ := h
  have h5 := hT.k1
  have h6 := hT.k2
  have b1 := hT.bp
  have b2 := hT.bq
  refine ds_nrm ?_ (by set_option simprocs false in dsimp only [List.map, List.replicate, List.cons_append, List.nil_append])
  refine ds_cons ?_
  refine ds_expr (h := ?_)
  refine de_call c_check_turn gd (hr.mono (by decide)) ?_
  refine da_cons ?_
  refine de_name 0 ?_
  refine da_nil ?_
  refine ⟨_, _, _, rfl, by walk_at "tn", ?_⟩
  refine ds_cons ?_
  refine ds_asg (h := ?_)
  refine de_name 0 ?_
  first | refine dg_tup rfl rfl ?_ | refine dg_tupL rfl rfl ?_ (fun h => pg_lst rfl h)
  refine dgs_cons (h := ?_)
  refine dg_name 1 ?_ sc_legs_of.nd
  refine dgs_cons (h := ?_)
  refine dg_name 2 ?_ sc_legs_of.nd
  refine dgs_cons (h := ?_)
  refine dg_name 3 ?_ sc_legs_of.nd
  refine dgs_nil ?_
  refine ds_cons ?_
  refine ds_asg (h := ?_)
  refine de_call c_times gd (hr.mono (by decide)) ?_
  refine da_cons ?_
  refine de_tup ?_
  refine da_cons ?_
  refine de_name 1 ?_
  refine da_cons ?_
  refine de_name 2 ?_
  refine da_nil ?_
  refine ⟨by walk_at "len", ?_⟩
  refine da_cons ?_
  refine de_tup ?_
  refine da_cons ?_
  refine de_name 1 ?_
  refine da_cons ?_
  refine de_name 2 ?_
  refine da_nil ?_
  refine ⟨by walk_at "len", ?_⟩
  refine da_nil ?_
  refine ⟨_, _, _, _, rfl, ⟨by walk_at "bdu", by walk_at "bdu", by walk_at "bdu", by walk_at "bdu"⟩, ?_⟩
  first | refine dg_tup rfl rfl ?_ | refine dg_tupL rfl rfl ?_ (fun h => pg_lst rfl h)
  refine dgs_cons (h := ?_)
  refine dg_name 4 ?_ sc_legs_of.nd
  refine dgs_cons (h := ?_)
  refine dg_name 5 ?_ sc_legs_of.nd
  refine dgs_nil ?_
  refine ds_cons ?_
  refine ds_for (γ := Nat) PassesOwn.never rfl ?_
  refine di_rng1 n_range ?_
  refine da_cons ?_
  refine de_name 3 ?_
  refine da_nil ?_
  refine ⟨_, rfl, (by walk_at "rng"), ?_⟩
  refine ⟨fun j : Nat => [some (.tup [.int p, .int q, .int k]), some (.int p), some (.int q), some (.int k), some (.int (rtX j (p * p - q * q) (p * q + q * p))), some (.int (rtY j (p * p - q * q) (p * q + q * p))), none], fun i j S' => j = i ∧ S' = S0, 0, ⟨rfl, rfl, rfl, rfl, rfl, rfl, trivial⟩, ⟨rfl, rfl⟩, fun i d j S' hi hP => ?_, fun j S' hP => ?_⟩
  · obtain ⟨rfl, rfl⟩ := hP
    obtain ⟨hlt, rfl⟩ := rngD_get hi
    have hj : j < 3 := by omega
    refine dg_name 6 ?_ sc_legs_of.nd
    refine ds_cons ?_
    refine ds_par (i := 4) (j := 5) rfl sc_legs_of.nd rfl rfl (by decide) ?_
    refine da_cons ?_
    refine de_neg ?_
    refine de_name 5 ?_
    refine ⟨_, rfl, ?_⟩
    refine da_cons ?_
    refine de_name 4 ?_
    refine da_nil ?_
    refine ⟨_, _, rfl, ?_⟩
    refine ds_nrm ?_
    refine ds_nil ?_
    exact ⟨j + 1, ⟨rfl, rfl, rfl, rfl, by rw [(rt_step j hj _ _).1] <;> rfl, by rw [(rt_step j hj _ _).2] <;> rfl, trivial⟩, rfl, rfl⟩
  obtain ⟨rfl, rfl⟩ := hP
  rw [rngD_len]
  refine ds_cons ?_
  refine ds_ret ?_
  refine de_tup ?_
  refine da_cons ?_
  refine de_name 4 ?_
  refine da_cons ?_
  refine de_name 5 ?_
  refine da_cons ?_
  refine de_add ?_
  refine de_mul ?_
  refine de_name 1 ?_
  refine de_name 1 ?_
  first | refine mul_i ?_ (by walk_at "cmw") | refine mul_l ?_ ⟨by decide, by decide, by first | decide | exact Nat.le_of_ble_eq_true rfl | walk_at "mlen"⟩
  refine de_mul ?_
  refine de_name 2 ?_
  refine de_name 2 ?_
  first | refine mul_i ?_ (by walk_at "cmw") | refine mul_l ?_ ⟨by decide, by decide, by first | decide | exact Nat.le_of_ble_eq_true rfl | walk_at "mlen"⟩
  first | refine add_int ?_ | refine add_lst ?_ (by walk_at "len") | refine add_tup ?_ (by walk_at "len3") | refine add_scr ?_ (by walk_at "len") | refine (show addP (.str _) (.str _) _ _ from ⟨by decide +kernel, ?_⟩)
  refine da_nil ?_
  refine ⟨by walk_at "len", ?_⟩
  unfold lgA lgB at qq
  exact qq
abbrev s_back : Stmt := top 27
theorem sc_back : FnScope ["turn", "p", "q", "quarters"] ["turn"] (defScope s_back) := ⟨rfl, rfl, rfl, by decide +kernel, rfl, by decide +kernel, by decide +kernel⟩
set_option maxHeartbeats 40000000 in
theorem ok_back {f : Addr} {fd : FuncData} (F : Fun K "back" "back" s_back f fd) (c_check_turn : Cal P w K mg base 4 "check_turn" ["turn"] [] con_check_turn) : GOk P w K mg base 5 f fd ["turn"] (spD K con_back) := by
  refine gok_ds F sc_back (m := 3) rfl (fun ds S0 Q h => ?_) fun cdv A fr s0 H0 E0' gd hr ds S0 Q h => ?_
  · obtain ⟨_, _, _, rfl, _⟩ := h
    rfl
  obtain ⟨p, q, k, rfl, hT, qq⟩ := h
  refine ds_nrm ?_ (by set_option simprocs false in dsimp only [List.map, List.replicate, List.cons_append, List.nil_append])
  refine ds_cons ?_
  refine ds_expr (h := ?_)
  refine de_call c_check_turn gd (hr.mono (by decide)) ?_
  refine da_cons ?_
  refine de_name 0 ?_
  refine da_nil ?_
  refine ⟨_, _, _, rfl, by walk_at "tn", ?_⟩
  refine ds_cons ?_
  refine ds_asg (h := ?_)
  refine de_name 0 ?_
  first | refine dg_tup rfl rfl ?_ | refine dg_tupL rfl rfl ?_ (fun h => pg_lst rfl h)
  refine dgs_cons (h := ?_)
  refine dg_name 1 ?_ sc_back.nd
  refine dgs_cons (h := ?_)
  refine dg_name 2 ?_ sc_back.nd
  refine dgs_cons (h := ?_)
  refine dg_name 3 ?_ sc_back.nd
  refine dgs_nil ?_
  refine ds_cons ?_
  refine ds_ret ?_
  refine de_tup ?_
  refine da_cons ?_
  refine de_name 1 ?_
  refine da_cons ?_
  refine de_neg ?_
  refine de_name 2 ?_
  refine ⟨_, rfl, ?_⟩
  refine da_cons ?_
  refine de_mod ?_
  refine de_neg ?_
  refine de_name 3 ?_
  refine ⟨_, rfl, ?_⟩
  refine de_int ?_
  refine ⟨_, _, rfl, rfl, (by walk_at "pos"), ?_⟩
  refine da_nil ?_
  refine ⟨by walk_at "len", ?_⟩
  exact qq
abbrev s__law_source : Stmt := top 50
theorem sc__law_source : FnScope ["_law_entry", "_law_k", "_law_great"] ["_law_entry", "_law_k"] (defScope s__law_source) := ⟨rfl, rfl, rfl, by decide +kernel, rfl, by decide +kernel, by decide +kernel⟩
set_option maxHeartbeats 40000000 in
theorem ok__law_source {f : Addr} {fd : FuncData} (F : Fun K "_law_source" "_law_source" s__law_source f fd) (n_abs : mg "abs" = none) (n_int : mg "int" = none) (n_max : mg "max" = none) : GOk P w K mg base 1 f fd ["_law_entry", "_law_k"] (spD K con_source) := by
  refine gok_ds F sc__law_source (m := 1) rfl (fun ds S0 Q h => ?_) fun cdv A fr s0 H0 E0' gd hr ds S0 Q h => ?_
  · obtain ⟨_, _, rfl, _⟩ := h
    rfl
  obtain ⟨e, k, rfl, ⟨k1, k2⟩, q⟩ := h
  have bk : Bd 7 k := by unfold Bd; omega
  refine ds_nrm ?_ (by set_option simprocs false in dsimp only [List.map, List.replicate, List.cons_append, List.nil_append])
  refine ds_cons ?_
  refine ds_asg (h := ?_)
  refine de_B call_abs n_abs bt_abs ?_
  refine da_cons ?_
  refine de_name 0 ?_
  refine da_nil ?_
  refine drc_abs ?_
  refine dg_name 2 ?_ sc__law_source.nd
  refine ds_cons ?_
  refine ds_ret ?_
  refine de_lstO ?_
  refine da_cons ?_
  refine de_B (call_max2 rfl) n_max bt_max ?_
  refine da_cons ?_
  refine de_int ?_
  refine da_cons ?_
  refine de_sub ?_
  refine de_name 2 ?_
  refine de_pow ?_
  refine de_int ?_
  refine de_int ?_
  refine ⟨_, _, rfl, rfl, (by walk_at "cpw"), ?_⟩
  refine ⟨_, _, rfl, rfl, ?_⟩
  refine da_nil ?_
  refine drc_max ?_
  refine da_cons ?_
  refine de_add ?_
  refine de_add ?_
  refine de_mul ?_
  refine de_mod ?_
  refine de_T call_int1 n_int bt_int ?_
  refine da_cons ?_
  refine de_name 2 ?_
  refine da_nil ?_
  first | refine drc_int ?_ | refine drc_intb ?_
  refine de_add ?_
  refine de_pow ?_
  refine de_int ?_
  refine de_int ?_
  refine ⟨_, _, rfl, rfl, (by walk_at "cpw"), ?_⟩
  refine de_int ?_
  first | refine add_int ?_ | refine add_lst ?_ (by walk_at "len") | refine add_tup ?_ (by walk_at "len3") | refine add_scr ?_ (by walk_at "len") | refine (show addP (.str _) (.str _) _ _ from ⟨by decide +kernel, ?_⟩)
  refine ⟨_, _, rfl, rfl, (by walk_at "pos"), ?_⟩
  refine de_int ?_
  first | refine mul_i ?_ (by walk_at "cmw") | refine mul_l ?_ ⟨by decide, by decide, by first | decide | exact Nat.le_of_ble_eq_true rfl | walk_at "mlen"⟩
  refine de_mul ?_
  refine de_int ?_
  refine de_name 1 ?_
  first | refine mul_i ?_ (by walk_at "cmw") | refine mul_l ?_ ⟨by decide, by decide, by first | decide | exact Nat.le_of_ble_eq_true rfl | walk_at "mlen"⟩
  first | refine add_int ?_ | refine add_lst ?_ (by walk_at "len") | refine add_tup ?_ (by walk_at "len3") | refine add_scr ?_ (by walk_at "len") | refine (show addP (.str _) (.str _) _ _ from ⟨by decide +kernel, ?_⟩)
  refine de_T call_int1 n_int bt_int ?_
  refine da_cons ?_
  refine de_lt ?_
  refine de_name 0 ?_
  refine de_int ?_
  refine ⟨_, _, rfl, rfl, ?_⟩
  refine da_nil ?_
  first | refine drc_int ?_ | refine drc_intb ?_
  first | refine add_int ?_ | refine add_lst ?_ (by walk_at "len") | refine add_tup ?_ (by walk_at "len3") | refine add_scr ?_ (by walk_at "len") | refine (show addP (.str _) (.str _) _ _ from ⟨by decide +kernel, ?_⟩)
  refine da_cons ?_
  refine de_int ?_
  refine da_nil ?_
  refine ⟨by walk_at "len", fun p1 hp1 => ?_⟩
  exact q _ _ (by assumption) (src_mk (src_a _ _) (src_b _ _ _ ⟨k1, k2⟩))
abbrev s__law_draw : Stmt := top 51
theorem sc__law_draw : FnScope ["_law_source_here", "_law_count", "_law_digit", "_law_mixed"] ["_law_source_here", "_law_count"] (defScope s__law_draw) := ⟨rfl, rfl, rfl, by decide +kernel, rfl, by decide +kernel, by decide +kernel⟩
set_option maxHeartbeats 40000000 in
theorem ok__law_draw {f : Addr} {fd : FuncData} (F : Fun K "_law_draw" "_law_draw" s__law_draw f fd) (n_int : mg "int" = none) : GOk P w K mg base 1 f fd ["_law_source_here", "_law_count"] (spD K con_draw) := by
  refine gok_ds F sc__law_draw (m := 2) rfl (fun ds S0 Q h => ?_) fun cdv A fr s0 H0 E0' gd hr ds S0 Q h => ?_
  · obtain ⟨_, _, _, _, rfl, _⟩ := h
    rfl
  obtain ⟨p, n, l, m, rfl, hg, ⟨a, b, c, rfl, ha, hb, hc, hb0⟩, hm, hn, bn, qq⟩ := h
  have bc : Bd 30 c := by unfold Bd; omega
  have bc1 : Bd 30 (c + 1) := by unfold Bd; omega
  refine ds_nrm ?_ (by set_option simprocs false in dsimp only [List.map, List.replicate, List.cons_append, List.nil_append])
  refine ds_cons ?_
  refine ds_if ?_
  refine dt_gt ?_
  refine de_ix (h := ?_)
  refine de_name 0 ?_
  refine de_int ?_
  walk_at "ix"
  refine de_int ?_
  refine ⟨_, _, rfl, rfl, ?_⟩
  refine ⟨fun ht => ?_, fun ht => ?_⟩
  · refine ds_cons ?_
    refine ds_asg (h := ?_)
    refine de_mod ?_
    refine de_T call_int1 n_int bt_int ?_
    refine da_cons ?_
    refine de_ix (h := ?_)
    refine de_name 0 ?_
    refine de_int ?_
    walk_at "ix"
    refine da_nil ?_
    first | refine drc_int ?_ | refine drc_intb ?_
    refine de_name 1 ?_
    refine ⟨_, _, rfl, rfl, (by walk_at "pos"), ?_⟩
    refine dg_name 2 ?_ sc__law_draw.nd
    refine ds_cons ?_
    refine ds_asg (h := ?_)
    refine de_fdiv ?_
    refine de_ix (h := ?_)
    refine de_name 0 ?_
    refine de_int ?_
    walk_at "ix"
    refine de_name 1 ?_
    refine ⟨_, _, rfl, rfl, (by walk_at "cdw"), ?_⟩
    refine dg_sub ?_
    refine de_name 0 ?_
    refine de_int ?_
    refine ⟨_, _, _, _, rfl, rfl, (by walk_at "gets"), rfl, ?_⟩
    walk_at "sets"
    refine ds_cons ?_
    refine ds_ret ?_
    refine de_name 2 ?_
    exact qq _ _ (Int.emod_nonneg _ (by omega)) (Int.emod_lt_of_pos _ hn) (src_div ha hb hc hb0 hn)
  refine ds_nil ?_
  refine ds_cons ?_
  refine ds_asg (h := ?_)
  refine de_add ?_
  refine de_ix (h := ?_)
  refine de_name 0 ?_
  refine de_int ?_
  walk_at "ix"
  refine de_int ?_
  first | refine add_int ?_ | refine add_lst ?_ (by walk_at "len") | refine add_tup ?_ (by walk_at "len3") | refine add_scr ?_ (by walk_at "len") | refine (show addP (.str _) (.str _) _ _ from ⟨by decide +kernel, ?_⟩)
  refine dg_sub ?_
  refine de_name 0 ?_
  refine de_int ?_
  refine ⟨_, _, _, _, rfl, rfl, (by walk_at "gets"), rfl, ?_⟩
  walk_at "sets"
  refine ds_cons ?_
  refine ds_asg (h := ?_)
  refine de_mod ?_
  refine de_T call_int1 n_int bt_int ?_
  refine da_cons ?_
  refine de_pow ?_
  refine de_add ?_
  refine de_ix (h := ?_)
  refine de_name 0 ?_
  refine de_int ?_
  walk_at "ix"
  refine de_mul ?_
  refine de_int ?_
  refine de_ix (h := ?_)
  refine de_name 0 ?_
  refine de_int ?_
  walk_at "ix"
  first | refine mul_i ?_ (by walk_at "cmw") | refine mul_l ?_ ⟨by decide, by decide, by first | decide | exact Nat.le_of_ble_eq_true rfl | walk_at "mlen"⟩
  first | refine add_int ?_ | refine add_lst ?_ (by walk_at "len") | refine add_tup ?_ (by walk_at "len3") | refine add_scr ?_ (by walk_at "len") | refine (show addP (.str _) (.str _) _ _ from ⟨by decide +kernel, ?_⟩)
  refine de_int ?_
  refine ⟨_, _, rfl, rfl, (by walk_at "cpw"), ?_⟩
  refine da_nil ?_
  first | refine drc_int ?_ | refine drc_intb ?_
  refine de_add ?_
  refine de_pow ?_
  refine de_int ?_
  refine de_int ?_
  refine ⟨_, _, rfl, rfl, (by walk_at "cpw"), ?_⟩
  refine de_int ?_
  first | refine add_int ?_ | refine add_lst ?_ (by walk_at "len") | refine add_tup ?_ (by walk_at "len3") | refine add_scr ?_ (by walk_at "len") | refine (show addP (.str _) (.str _) _ _ from ⟨by decide +kernel, ?_⟩)
  refine ⟨_, _, rfl, rfl, (by walk_at "pos"), ?_⟩
  refine dg_name 3 ?_ sc__law_draw.nd
  refine ds_cons ?_
  refine ds_asg (h := ?_)
  refine de_mod ?_
  refine de_T call_int1 n_int bt_int ?_
  refine da_cons ?_
  refine de_pow ?_
  refine de_add ?_
  refine de_mul ?_
  refine de_name 3 ?_
  refine de_ix (h := ?_)
  refine de_name 0 ?_
  refine de_int ?_
  walk_at "ix"
  first | refine mul_i ?_ (by walk_at "cmw") | refine mul_l ?_ ⟨by decide, by decide, by first | decide | exact Nat.le_of_ble_eq_true rfl | walk_at "mlen"⟩
  refine de_int ?_
  first | refine add_int ?_ | refine add_lst ?_ (by walk_at "len") | refine add_tup ?_ (by walk_at "len3") | refine add_scr ?_ (by walk_at "len") | refine (show addP (.str _) (.str _) _ _ from ⟨by decide +kernel, ?_⟩)
  refine de_int ?_
  refine ⟨_, _, rfl, rfl, (by walk_at "cpw"), ?_⟩
  refine da_nil ?_
  first | refine drc_int ?_ | refine drc_intb ?_
  refine de_add ?_
  refine de_pow ?_
  refine de_int ?_
  refine de_int ?_
  refine ⟨_, _, rfl, rfl, (by walk_at "cpw"), ?_⟩
  refine de_int ?_
  first | refine add_int ?_ | refine add_lst ?_ (by walk_at "len") | refine add_tup ?_ (by walk_at "len3") | refine add_scr ?_ (by walk_at "len") | refine (show addP (.str _) (.str _) _ _ from ⟨by decide +kernel, ?_⟩)
  refine ⟨_, _, rfl, rfl, (by walk_at "pos"), ?_⟩
  refine dg_name 3 ?_ sc__law_draw.nd
  refine ds_cons ?_
  refine ds_ret ?_
  refine de_mod ?_
  refine de_T call_int1 n_int bt_int ?_
  refine da_cons ?_
  refine de_fdiv ?_
  refine de_name 3 ?_
  refine de_int ?_
  refine ⟨_, _, rfl, rfl, (by walk_at "cdw"), ?_⟩
  refine da_nil ?_
  first | refine drc_int ?_ | refine drc_intb ?_
  refine de_name 1 ?_
  refine ⟨_, _, rfl, rfl, (by walk_at "pos"), ?_⟩
  exact qq _ _ (Int.emod_nonneg _ (by omega)) (Int.emod_lt_of_pos _ hn) (src_next ha hb hc hb0)
abbrev s__law_dot : Stmt := top 52
theorem sc__law_dot : FnScope ["_law_source_here", "_law_wide", "_law_spots", "_law_k"] ["_law_source_here", "_law_wide"] (defScope s__law_dot) := ⟨rfl, rfl, rfl, by decide +kernel, rfl, by decide +kernel, by decide +kernel⟩
set_option maxHeartbeats 40000000 in
theorem ok__law_dot {f : Addr} {fd : FuncData} (F : Fun K "_law_dot" "_law_dot" s__law_dot f fd) (c__law_draw : Cal P w K mg base 1 "_law_draw" ["_law_source_here", "_law_count"] [] con_draw) (n_range : mg "range" = none) (n_tuple : mg "tuple" = none) : GOk P w K mg base 2 f fd ["_law_source_here", "_law_wide"] (spD K con_dot) := by
  refine gok_ds F sc__law_dot (m := 2) rfl (fun ds S0 Q h => ?_) fun cdv A fr s0 H0 E0' gd hr ds S0 Q h => ?_
  · obtain ⟨_, _, _, _, rfl, _⟩ := h
    rfl
  obtain ⟨pp, n, l, m, rfl, hg, hS, hm, hn, bn, qq⟩ := h
  refine ds_nrm ?_ (by set_option simprocs false in dsimp only [List.map, List.replicate, List.cons_append, List.nil_append])
  refine ds_cons ?_
  refine ds_asg (h := ?_)
  refine de_lstO ?_
  refine da_nil ?_
  refine ⟨by walk_at "len", fun p1 hp1 => ?_⟩
  refine dg_name 2 ?_ sc__law_dot.nd
  refine ds_cons ?_
  refine ds_for (γ := Unit) PassesOwn.never rfl ?_
  refine di_rng1 n_range ?_
  refine da_cons ?_
  refine de_int ?_
  refine da_nil ?_
  refine ⟨_, rfl, (by walk_at "rng"), ?_⟩
  have hne : p1 ≠ pp := fun z => by rw [z, hg] at hp1; cases hp1
  refine ⟨fun _ => [some (.raw (.ref pp)), some (.int n), some (.raw (.ref p1)), none], fun i _ S' => ∃ (xs : List Int) (l' : List D), S' = (p1, xs.map D.int) :: setS pp l' S0 ∧ xs.length = i ∧ (∀ x ∈ xs, -n ≤ x ∧ x ≤ n) ∧ Src (m + i) l' ∧ getS pp (setS pp l' S0) = some l', (), ⟨rfl, rfl, rfl, trivial⟩, ⟨[], l, by rw [setS_self hg] <;> rfl, rfl, (fun _ h => nomatch h), hS, getS_setS_same hg⟩, fun i d _ S' hi hP => ?_, fun _ S' hP => ?_⟩
  · obtain ⟨xs, l', rfl, hl, hx, hS', hg'⟩ := hP
    obtain ⟨hi2, rfl⟩ := rngD_get hi
    have hi3 : i < 2 := hi2
    refine dg_name 3 ?_ sc__law_dot.nd
    refine ds_cons ?_
    refine ds_expr (h := ?_)
    refine de_append ?_
    refine de_name 2 ?_
    refine ⟨_, _, rfl, (by walk_at "gets"), ?_⟩
    refine da_cons ?_
    refine de_sub ?_
    refine de_call c__law_draw gd (hr.mono (by decide)) ?_
    refine da_cons ?_
    refine de_name 0 ?_
    refine da_cons ?_
    refine de_add ?_
    refine de_mul ?_
    refine de_int ?_
    refine de_name 1 ?_
    first | refine mul_i ?_ (by walk_at "cmw") | refine mul_l ?_ ⟨by decide, by decide, by first | decide | exact Nat.le_of_ble_eq_true rfl | walk_at "mlen"⟩
    refine de_int ?_
    first | refine add_int ?_ | refine add_lst ?_ (by walk_at "len") | refine add_tup ?_ (by walk_at "len3") | refine add_scr ?_ (by walk_at "len") | refine (show addP (.str _) (.str _) _ _ from ⟨by decide +kernel, ?_⟩)
    refine da_nil ?_
    refine ⟨_, _, _, _, rfl, (by walk_at "gets"), (by assumption), (by walk_at "m"), (by walk_at "pos"), (by walk_at "bdu"), fun r2 l2 hr2 hn2 hs2 => ?_⟩
    walk_at "sets"
    refine de_name 1 ?_
    refine ⟨_, _, rfl, rfl, ?_⟩
    refine da_nil ?_
    refine ⟨_, _, rfl, (by walk_at "gets"), (by walk_at "len"), ?_⟩
    walk_at "sets"
    refine ds_nil ?_
    rw [setS_setS]
    refine ⟨(), ⟨rfl, rfl, rfl, trivial⟩, xs ++ [r2 - n], l2, by rw [List.map_append] <;> rfl, by rw [List.length_append, hl] <;> rfl, fun x hx' => ?_, (by assumption : Src _ _).up (by omega), getS_setS_same hg⟩
    rcases List.mem_append.mp hx' with z | z
    · exact hx x z
    · have z : x = r2 - n := by simpa using z
      omega
  obtain ⟨xs, l', rfl, hl, hx, hS', hg'⟩ := hP
  have hl : xs.length = 2 := hl
  obtain ⟨x, y, rfl⟩ : ∃ x y, xs = [x, y] := by
    match xs, hl with
    | [x, y], _ => exact ⟨x, y, rfl⟩
  refine ds_freeze 2 rfl (ds_nrm ?_) rfl
  refine ds_cons ?_
  refine ds_ret ?_
  refine de_T call_tuple_of n_tuple bt_tuple ?_
  refine da_cons ?_
  refine de_name 2 ?_
  refine da_nil ?_
  first | refine drc_tuple ?_ | refine drc_tupleO getS_hd ?_
  exact qq x y l' (hx x (by simp)) (hx y (by simp)) hS'
abbrev s_lowest : Stmt := top 18
theorem sc_lowest : FnScope ["number", "divisor", "common"] ["number", "divisor"] (defScope s_lowest) := ⟨rfl, rfl, rfl, by decide +kernel, rfl, by decide +kernel, by decide +kernel⟩
set_option maxHeartbeats 40000000 in
theorem ok_lowest {f : Addr} {fd : FuncData} (F : Fun K "lowest" "lowest" s_lowest f fd) (b_gcd : mg "gcd" = some (.builtin "math.gcd")) : GOk P w K mg base 1 f fd ["number", "divisor"] (spD K con_lowestG) := by
  refine gok_ds F sc_lowest (m := 1) rfl (fun ds S0 Q h => ?_) fun cdv A fr s0 H0 E0' gd hr ds S0 Q h => ?_
  · obtain ⟨_, _, rfl, _⟩ := h
    rfl
  obtain ⟨n, d, rfl, hd, ⟨b1, b2⟩, qq⟩ := h
  have g1 := gcd_pos' n hd
  have bg := gcd_bd n hd b2
  refine ds_nrm ?_ (by set_option simprocs false in dsimp only [List.map, List.replicate, List.cons_append, List.nil_append])
  refine ds_cons ?_
  refine ds_asg (h := ?_)
  refine de_gcd b_gcd ?_
  refine da_cons ?_
  refine de_name 0 ?_
  refine da_cons ?_
  refine de_name 1 ?_
  refine da_nil ?_
  refine ⟨_, _, rfl, ?_⟩
  refine dg_name 2 ?_ sc_lowest.nd
  refine ds_cons ?_
  refine ds_if ?_
  refine dt_lt ?_
  refine de_name 1 ?_
  refine de_int ?_
  refine ⟨_, _, rfl, rfl, ?_⟩
  refine ⟨fun ht => ?_, fun ht => ?_⟩
  · exact absurd (of_decide_eq_true ht) (by omega)
  refine ds_nil ?_
  refine ds_cons ?_
  refine ds_ret ?_
  refine de_tup ?_
  refine da_cons ?_
  refine de_fdiv ?_
  refine de_name 0 ?_
  refine de_name 2 ?_
  refine ⟨_, _, rfl, rfl, (by walk_at "cdw"), ?_⟩
  refine da_cons ?_
  refine de_fdiv ?_
  refine de_name 1 ?_
  refine de_name 2 ?_
  refine ⟨_, _, rfl, rfl, (by walk_at "cdw"), ?_⟩
  refine da_nil ?_
  refine ⟨by walk_at "len", ?_⟩
  exact qq
abbrev s_inverse : Stmt := top 17
theorem sc_inverse : FnScope ["number", "modulus", "high", "low", "past", "now", "part"] ["number", "modulus"] (defScope s_inverse) := ⟨rfl, rfl, rfl, by decide +kernel, rfl, by decide +kernel, by decide +kernel⟩
set_option maxHeartbeats 40000000 in
theorem ok_inverse {f : Addr} {fd : FuncData} (F : Fun K "inverse" "inverse" s_inverse f fd)  : GOk P w K mg base 1 f fd ["number", "modulus"] (spD K con_inverse) := by
  refine gok_ds F sc_inverse (m := 5) rfl (fun ds S0 Q h => ?_) fun cdv A fr s0 H0 E0' gd hr ds S0 Q h => ?_
  · obtain ⟨_, _, rfl, _⟩ := h
    rfl
  obtain ⟨n, m, rfl, ⟨bn, bm, hm, s, t, hst⟩, qq⟩ := h
  refine ds_nrm ?_ (by set_option simprocs false in dsimp only [List.map, List.replicate, List.cons_append, List.nil_append])
  refine ds_cons ?_
  refine ds_par (i := 2) (j := 3) rfl sc_inverse.nd rfl rfl (by decide) ?_
  refine da_cons ?_
  refine de_name 1 ?_
  refine da_cons ?_
  refine de_mod ?_
  refine de_name 0 ?_
  refine de_name 1 ?_
  refine ⟨_, _, rfl, rfl, (by walk_at "pos"), ?_⟩
  refine da_nil ?_
  refine ⟨_, _, rfl, ?_⟩
  refine ds_nrm ?_
  refine ds_cons ?_
  refine ds_asg (h := ?_)
  refine de_tup ?_
  refine da_cons ?_
  refine de_int ?_
  refine da_cons ?_
  refine de_int ?_
  refine da_nil ?_
  refine ⟨by walk_at "len", ?_⟩
  first | refine dg_tup rfl rfl ?_ | refine dg_tupL rfl rfl ?_ (fun h => pg_lst rfl h)
  refine dgs_cons (h := ?_)
  refine dg_name 4 ?_ sc_inverse.nd
  refine dgs_cons (h := ?_)
  refine dg_name 5 ?_ sc_inverse.nd
  refine dgs_nil ?_
  refine ds_cons ?_
  refine ds_while (γ := Int × Int × Int × Int) PassesOwn.never (fun g => [some (.int n), some (.int m), some (.int g.1), some (.int g.2.1), some (.int g.2.2.1), some (.int g.2.2.2), none]) (fun g S' => S' = S0 ∧ InvI n m g.1 g.2.1 g.2.2.1 g.2.2.2) (fun g => g.2.1.toNat) (m, n % m, 0, 1) ⟨rfl, rfl, rfl, rfl, rfl, rfl, trivial⟩ ⟨rfl, InvI.start hm hst⟩ (fun g S' hP => ?_)
  obtain ⟨rfl, I⟩ := hP
  obtain ⟨hh, l, a, b⟩ := g
  have I : InvI n m hh l a b := I
  have bh : Bd 110 hh := Bd.of_le' bm I.h0 I.hm
  have bl : Bd 110 l := Bd.of_le'' bm I.l0 I.lm
  have ba : Bd 110 a := Bd.of_ab bm I.ab
  have bb : Bd 110 b := Bd.of_ab bm I.b_le
  refine dt_gt ?_
  refine de_name 3 ?_
  refine de_int ?_
  refine ⟨_, _, rfl, rfl, ?_⟩
  refine ⟨fun ht => ?_, fun ht => ?_⟩
  · have hl : 0 < l := of_decide_eq_true ht
    refine ds_cons ?_
    refine ds_asg (h := ?_)
    refine de_fdiv ?_
    refine de_name 2 ?_
    refine de_name 3 ?_
    refine ⟨_, _, rfl, rfl, (by walk_at "cdw"), ?_⟩
    refine dg_name 6 ?_ sc_inverse.nd
    refine ds_cons ?_
    refine ds_par (i := 2) (j := 3) rfl sc_inverse.nd rfl rfl (by decide) ?_
    refine da_cons ?_
    refine de_name 3 ?_
    refine da_cons ?_
    refine de_sub ?_
    refine de_name 2 ?_
    refine de_mul ?_
    refine de_name 6 ?_
    refine de_name 3 ?_
    first | refine mul_i ?_ (by walk_at "cmw") | refine mul_l ?_ ⟨by decide, by decide, by first | decide | exact Nat.le_of_ble_eq_true rfl | walk_at "mlen"⟩
    refine ⟨_, _, rfl, rfl, ?_⟩
    refine da_nil ?_
    refine ⟨_, _, rfl, ?_⟩
    refine ds_nrm ?_
    refine ds_cons ?_
    refine ds_par (i := 4) (j := 5) rfl sc_inverse.nd rfl rfl (by decide) ?_
    refine da_cons ?_
    refine de_name 5 ?_
    refine da_cons ?_
    refine de_sub ?_
    refine de_name 4 ?_
    refine de_mul ?_
    refine de_name 6 ?_
    refine de_name 5 ?_
    first | refine mul_i ?_ (by walk_at "cmw") | refine mul_l ?_ ⟨by decide, by decide, by first | decide | exact Nat.le_of_ble_eq_true rfl | walk_at "mlen"⟩
    refine ⟨_, _, rfl, rfl, ?_⟩
    refine da_nil ?_
    refine ⟨_, _, rfl, ?_⟩
    refine ds_nrm ?_
    refine ds_nil ?_
    exact ⟨(l, hh - hh / l * l, b, a - hh / l * b), ⟨rfl, rfl, rfl, rfl, rfl, rfl, trivial⟩, ⟨rfl, I.step hl⟩, by have := InvI.less (h := hh) hl; show (hh - hh / l * l).toNat < l.toNat; omega⟩
  have hl : l = 0 := by have z : ¬ l > 0 := of_decide_eq_false ht; have := I.l0; omega
  subst hl
  refine ds_cons ?_
  refine ds_ret ?_
  refine de_mod ?_
  refine de_name 4 ?_
  refine de_name 1 ?_
  refine ⟨_, _, rfl, rfl, (by walk_at "pos"), ?_⟩
  exact qq _ (Int.emod_nonneg _ (by omega)) (Int.emod_lt_of_pos _ hm) (I.fin hm)
abbrev s_turn_by : Stmt := top 30
theorem sc_turn_by : FnScope ["legs", "a", "b", "c", "common", "quarters", "p", "q"] ["legs"] (defScope s_turn_by) := ⟨rfl, rfl, rfl, by decide +kernel, rfl, by decide +kernel, by decide +kernel⟩
set_option maxHeartbeats 40000000 in
theorem ok_turn_by {f : Addr} {fd : FuncData} (F : Fun K "turn_by" "turn_by" s_turn_by f fd) (b_gcd : mg "gcd" = some (.builtin "math.gcd")) (b_isqrt : mg "isqrt" = some (.builtin "math.isqrt")) (g_GREATEST_P : ∃ u, mg "GREATEST_P" = some (.int (1000000000000000) u)) : GOk P w K mg base 1 f fd ["legs"] (spD K con_turn_by) := by
  refine gok_ds F sc_turn_by (m := 7) rfl (fun ds S0 Q h => ?_) fun cdv A fr s0 H0 E0' gd hr ds S0 Q h => ?_
  · obtain ⟨_, _, _, _, _, _, _, rfl, _⟩ := h
    rfl
  obtain ⟨a, b, c, p, q, k, m, rfl, ⟨ea, eb, ec⟩, hT, hm, bm, qq⟩ := h
  subst ea
  subst eb
  subst ec
  have b1 := hT.bp
  have b2 := hT.bq
  have hm0 : 0 < m := by omega
  have hT0 := Tn.zero hT
  have hp0 := hT.p1
  have hp2 := hT.p2
  have hk1 := hT.k1
  have hk2 := hT.k2
  obtain ⟨u0, gP⟩ := g_GREATEST_P
  refine ds_nrm ?_ (by set_option simprocs false in dsimp only [List.map, List.replicate, List.cons_append, List.nil_append])
  refine ds_cons ?_
  refine ds_asg (h := ?_)
  refine de_name 0 ?_
  first | refine dg_tup rfl rfl ?_ | refine dg_tupL rfl rfl ?_ (fun h => pg_lst rfl h)
  refine dgs_cons (h := ?_)
  refine dg_name 1 ?_ sc_turn_by.nd
  refine dgs_cons (h := ?_)
  refine dg_name 2 ?_ sc_turn_by.nd
  refine dgs_cons (h := ?_)
  refine dg_name 3 ?_ sc_turn_by.nd
  refine dgs_nil ?_
  refine ds_cons ?_
  refine ds_asg (h := ?_)
  refine de_gcd b_gcd ?_
  refine da_cons ?_
  refine de_name 1 ?_
  refine da_cons ?_
  refine de_name 2 ?_
  refine da_nil ?_
  refine ⟨_, _, rfl, ?_⟩
  refine dg_name 4 ?_ sc_turn_by.nd
  rw [gcd_mlg hT (by omega)]
  refine ds_cons ?_
  refine ds_par3 (i := 1) (j := 2) (k := 3) rfl sc_turn_by.nd rfl rfl rfl ?_
  refine da_cons ?_
  refine de_fdiv ?_
  refine de_name 1 ?_
  refine de_name 4 ?_
  refine ⟨_, _, rfl, rfl, (by walk_at "cdw"), ?_⟩
  refine da_cons ?_
  refine de_fdiv ?_
  refine de_name 2 ?_
  refine de_name 4 ?_
  refine ⟨_, _, rfl, rfl, (by walk_at "cdw"), ?_⟩
  refine da_cons ?_
  refine de_fdiv ?_
  refine de_name 3 ?_
  refine de_name 4 ?_
  refine ⟨_, _, rfl, rfl, (by walk_at "cdw"), ?_⟩
  refine da_nil ?_
  refine ⟨_, _, _, rfl, ?_⟩
  refine ds_nrm ?_
  rw [ediv_l hm, ediv_l hm, ediv_l hm]
  refine ds_cons ?_
  refine ds_asg (h := ?_)
  refine de_int ?_
  refine dg_name 5 ?_ sc_turn_by.nd
  refine ds_cons ?_
  refine ds_while (γ := Nat) PassesOwn.never (fun j => [some (.tup [.int (m * lgA p q k), .int (m * lgB p q k), .int (m * cc p q)]), some (.int (rtX j (p * p - q * q) (p * q + q * p))), some (.int (rtY j (p * p - q * q) (p * q + q * p))), some (.int (cc p q)), some (.int m), some (.int (k - (j : Int))), none, none]) (fun j S' => S' = S0 ∧ j ≤ k.toNat) (fun j => j) k.toNat ⟨rfl, by unfold lgA; rfl, by unfold lgB; rfl, rfl, rfl, congrArg (fun z => some (D.int z)) (by omega), trivial⟩ ⟨rfl, Nat.le_refl _⟩ (fun j S' hP => ?_)
  obtain ⟨rfl, hjk⟩ := hP
  have hj4 : j < 4 := by omega
  refine dt_w ?_
  refine dw_or ?_
  refine dt_eq (hr.units) ?_
  refine de_mod ?_
  refine de_name 2 ?_
  refine de_int ?_
  refine ⟨_, _, rfl, rfl, (by walk_at "pos"), ?_⟩
  refine de_int ?_
  refine eq_int ?_
  refine ⟨fun hb => ?_, fun hb => ?_⟩
  · refine ⟨fun _ => ?_, fun h => absurd h (by simp)⟩
    refine ds_cons ?_
    refine ds_par (i := 1) (j := 2) rfl sc_turn_by.nd rfl rfl (by decide) ?_
    refine da_cons ?_
    refine de_name 2 ?_
    refine da_cons ?_
    refine de_neg ?_
    refine de_name 1 ?_
    refine ⟨_, rfl, ?_⟩
    refine da_nil ?_
    refine ⟨_, _, rfl, ?_⟩
    refine ds_nrm ?_
    refine ds_cons ?_
    refine ds_augI 5 sc_turn_by.nd rfl rfl rfl ?_
    refine de_int ?_
    refine ⟨_, rfl, ?_⟩
    refine ds_nrm ?_
    refine ds_nil ?_
    have hz : j ≠ 0 := (go_on hT0 j hj4).mp (.inl (of_decide_eq_true hb))
    obtain ⟨i, rfl⟩ : ∃ i, j = i + 1 := ⟨j - 1, by omega⟩
    exact ⟨i, ⟨rfl, congrArg (fun z => some (D.int z)) (rt_back i (by omega) _ _).1, congrArg (fun z => some (D.int z)) (rt_back i (by omega) _ _).2, rfl, rfl, congrArg (fun z => some (D.int z)) (by omega), trivial⟩, ⟨rfl, by omega⟩, by omega⟩
  refine dw_or1 ?_
  refine dt_lt ?_
  refine de_name 1 ?_
  refine de_int ?_
  refine ⟨_, _, rfl, rfl, ?_⟩
  refine ⟨fun ht => ?_, fun ht => ?_⟩
  · refine ds_cons ?_
    refine ds_par (i := 1) (j := 2) rfl sc_turn_by.nd rfl rfl (by decide) ?_
    refine da_cons ?_
    refine de_name 2 ?_
    refine da_cons ?_
    refine de_neg ?_
    refine de_name 1 ?_
    refine ⟨_, rfl, ?_⟩
    refine da_nil ?_
    refine ⟨_, _, rfl, ?_⟩
    refine ds_nrm ?_
    refine ds_cons ?_
    refine ds_augI 5 sc_turn_by.nd rfl rfl rfl ?_
    refine de_int ?_
    refine ⟨_, rfl, ?_⟩
    refine ds_nrm ?_
    refine ds_nil ?_
    have hz : j ≠ 0 := (go_on hT0 j hj4).mp (.inr (of_decide_eq_true ht))
    obtain ⟨i, rfl⟩ : ∃ i, j = i + 1 := ⟨j - 1, by omega⟩
    exact ⟨i, ⟨rfl, congrArg (fun z => some (D.int z)) (rt_back i (by omega) _ _).1, congrArg (fun z => some (D.int z)) (rt_back i (by omega) _ _).2, rfl, rfl, congrArg (fun z => some (D.int z)) (by omega), trivial⟩, ⟨rfl, by omega⟩, by omega⟩
  have hz : j = 0 := Decidable.byContradiction fun z => ((go_on hT0 j hj4).mpr z).elim (of_decide_eq_false hb) (of_decide_eq_false ht)
  subst hz
  refine ds_cons ?_
  refine ds_asg (h := ?_)
  refine de_isqrt b_isqrt ?_
  refine da_cons ?_
  refine de_fdiv ?_
  refine de_add ?_
  refine de_name 3 ?_
  refine de_name 1 ?_
  first | refine add_int ?_ | refine add_lst ?_ (by walk_at "len") | refine add_tup ?_ (by walk_at "len3") | refine add_scr ?_ (by walk_at "len") | refine (show addP (.str _) (.str _) _ _ from ⟨by decide +kernel, ?_⟩)
  refine de_int ?_
  refine ⟨_, _, rfl, rfl, (by walk_at "cdw"), ?_⟩
  refine da_nil ?_
  refine ⟨_, rfl, (by walk_at "isq"), ?_⟩
  first | rw [isq_eq (show (0 : Int) ≤ p by omega) (show (cc p q + rtX 0 (p * p - q * q) (p * q + q * p)) / 2 = p * p from root_p p q)] | rw [isq_eq (Int.natCast_nonneg q.natAbs) (show (cc p q - rtX 0 (p * p - q * q) (p * q + q * p)) / 2 = _ from (root_q p q).trans (abs_sq q))]
  refine dg_name 6 ?_ sc_turn_by.nd
  refine ds_cons ?_
  refine ds_asg (h := ?_)
  refine de_isqrt b_isqrt ?_
  refine da_cons ?_
  refine de_fdiv ?_
  refine de_sub ?_
  refine de_name 3 ?_
  refine de_name 1 ?_
  refine ⟨_, _, rfl, rfl, ?_⟩
  refine de_int ?_
  refine ⟨_, _, rfl, rfl, (by walk_at "cdw"), ?_⟩
  refine da_nil ?_
  refine ⟨_, rfl, (by walk_at "isq"), ?_⟩
  first | rw [isq_eq (show (0 : Int) ≤ p by omega) (show (cc p q + rtX 0 (p * p - q * q) (p * q + q * p)) / 2 = p * p from root_p p q)] | rw [isq_eq (Int.natCast_nonneg q.natAbs) (show (cc p q - rtX 0 (p * p - q * q) (p * q + q * p)) / 2 = _ from (root_q p q).trans (abs_sq q))]
  refine dg_name 7 ?_ sc_turn_by.nd
  refine ds_cons ?_
  refine ds_if ?_
  refine dt_gt ?_
  refine de_name 6 ?_
  refine de_globI gP ?_
  refine ⟨_, _, rfl, rfl, ?_⟩
  refine ⟨fun ht => ?_, fun ht => ?_⟩
  · exact absurd (of_decide_eq_true ht) (by omega)
  refine ds_nil ?_
  refine ds_cons ?_
  refine ds_ret ?_
  refine de_tup ?_
  refine da_cons ?_
  refine de_name 6 ?_
  refine da_cons ?_
  refine de_ifE ?_
  refine dt_gt ?_
  refine de_name 2 ?_
  refine de_int ?_
  refine ⟨_, _, rfl, rfl, ?_⟩
  refine ⟨fun ht => ?_, fun ht => ?_⟩
  · refine de_name 7 ?_
    refine da_cons ?_
    refine de_name 5 ?_
    refine da_nil ?_
    refine ⟨by walk_at "len", ?_⟩
    rw [(q_sign hp0 q).1 (of_decide_eq_true ht), show k - ((0 : Nat) : Int) = k by omega]
    exact qq
  refine de_neg ?_
  refine de_name 7 ?_
  refine ⟨_, rfl, ?_⟩
  refine da_cons ?_
  refine de_name 5 ?_
  refine da_nil ?_
  refine ⟨by walk_at "len", ?_⟩
  rw [(q_sign hp0 q).2 (of_decide_eq_false ht), show k - ((0 : Nat) : Int) = k by omega]
  exact qq
abbrev s_joined : Stmt := top 28
theorem sc_joined : FnScope ["turn", "other", "a", "b", "c", "r", "s", "d", "x", "y"] ["turn", "other"] (defScope s_joined) := ⟨rfl, rfl, rfl, by decide +kernel, rfl, by decide +kernel, by decide +kernel⟩
set_option maxHeartbeats 40000000 in
theorem ok_joined {f : Addr} {fd : FuncData} (F : Fun K "joined" "joined" s_joined f fd) (c_check_turn : Cal P w K mg base 4 "check_turn" ["turn"] [] con_check_turn) (c_legs_of : Cal P w K mg base 5 "legs_of" ["turn"] [] con_legs_of) (c_times : Cal P w K mg base 1 "times" ["one", "other"] [] con_timesG) (c_turn_by : Cal P w K mg base 1 "turn_by" ["legs"] [] con_turn_by) : GOk P w K mg base 6 f fd ["turn", "other"] (spD K con_joinG) := by
  refine gok_ds F sc_joined (m := 8) rfl (fun ds S0 Q h => ?_) fun cdv A fr s0 H0 E0' gd hr ds S0 Q h => ?_
  · obtain ⟨_, _, _, _, _, _, _, _, _, rfl, _⟩ := h
    rfl
  obtain ⟨p, q, k, r, s, l, a, b, m, rfl, hT, hU, J, qq⟩ := h
  have b1 := hT.bp
  have b2 := hT.bq
  have b3 := hU.bp
  have b4 := hU.bq
  obtain ⟨g, g1, e1, e2, e3⟩ := jn_legs hT hU J
  have bg : Bd 300 g := (g_bd hT hU J.t g1 e3).up (by decide)
  refine ds_nrm ?_ (by set_option simprocs false in dsimp only [List.map, List.replicate, List.cons_append, List.nil_append])
  refine ds_cons ?_
  refine ds_expr (h := ?_)
  refine de_call c_check_turn gd (hr.mono (by decide)) ?_
  refine da_cons ?_
  refine de_name 0 ?_
  refine da_nil ?_
  refine ⟨_, _, _, rfl, by walk_at "tn", ?_⟩
  refine ds_cons ?_
  refine ds_expr (h := ?_)
  refine de_call c_check_turn gd (hr.mono (by decide)) ?_
  refine da_cons ?_
  refine de_name 1 ?_
  refine da_nil ?_
  refine ⟨_, _, _, rfl, by walk_at "tn", ?_⟩
  refine ds_cons ?_
  refine ds_asg (h := ?_)
  refine de_call c_legs_of gd (hr.mono (by decide)) ?_
  refine da_cons ?_
  refine de_name 0 ?_
  refine da_nil ?_
  refine ⟨_, _, _, rfl, by walk_at "tn", ?_⟩
  first | refine dg_tup rfl rfl ?_ | refine dg_tupL rfl rfl ?_ (fun h => pg_lst rfl h)
  refine dgs_cons (h := ?_)
  refine dg_name 2 ?_ sc_joined.nd
  refine dgs_cons (h := ?_)
  refine dg_name 3 ?_ sc_joined.nd
  refine dgs_cons (h := ?_)
  refine dg_name 4 ?_ sc_joined.nd
  refine dgs_nil ?_
  refine ds_cons ?_
  refine ds_asg (h := ?_)
  refine de_call c_legs_of gd (hr.mono (by decide)) ?_
  refine da_cons ?_
  refine de_name 1 ?_
  refine da_nil ?_
  refine ⟨_, _, _, rfl, by walk_at "tn", ?_⟩
  first | refine dg_tup rfl rfl ?_ | refine dg_tupL rfl rfl ?_ (fun h => pg_lst rfl h)
  refine dgs_cons (h := ?_)
  refine dg_name 5 ?_ sc_joined.nd
  refine dgs_cons (h := ?_)
  refine dg_name 6 ?_ sc_joined.nd
  refine dgs_cons (h := ?_)
  refine dg_name 7 ?_ sc_joined.nd
  refine dgs_nil ?_
  refine ds_cons ?_
  refine ds_asg (h := ?_)
  refine de_call c_times gd (hr.mono (by decide)) ?_
  refine da_cons ?_
  refine de_tup ?_
  refine da_cons ?_
  refine de_name 2 ?_
  refine da_cons ?_
  refine de_name 3 ?_
  refine da_nil ?_
  refine ⟨by walk_at "len", ?_⟩
  refine da_cons ?_
  refine de_tup ?_
  refine da_cons ?_
  refine de_name 5 ?_
  refine da_cons ?_
  refine de_name 6 ?_
  refine da_nil ?_
  refine ⟨by walk_at "len", ?_⟩
  refine da_nil ?_
  refine ⟨_, _, _, _, rfl, ⟨by walk_at "bdu", by walk_at "bdu", by walk_at "bdu", by walk_at "bdu"⟩, ?_⟩
  first | refine dg_tup rfl rfl ?_ | refine dg_tupL rfl rfl ?_ (fun h => pg_lst rfl h)
  refine dgs_cons (h := ?_)
  refine dg_name 8 ?_ sc_joined.nd
  refine dgs_cons (h := ?_)
  refine dg_name 9 ?_ sc_joined.nd
  refine dgs_nil ?_
  refine ds_cons ?_
  refine ds_ret ?_
  refine de_call c_turn_by gd (hr.mono (by decide)) ?_
  refine da_cons ?_
  refine de_tup ?_
  refine da_cons ?_
  refine de_name 8 ?_
  refine da_cons ?_
  refine de_name 9 ?_
  refine da_cons ?_
  refine de_mul ?_
  refine de_name 4 ?_
  refine de_name 7 ?_
  first | refine mul_i ?_ (by walk_at "cmw") | refine mul_l ?_ ⟨by decide, by decide, by first | decide | exact Nat.le_of_ble_eq_true rfl | walk_at "mlen"⟩
  refine da_nil ?_
  refine ⟨by walk_at "len", ?_⟩
  refine da_nil ?_
  refine ⟨_, _, _, a, b, m, g, rfl, ⟨e1, e2, e3⟩, J.t, g1, bg, ?_⟩
  exact qq
abbrev s_led : Stmt := top 29
theorem sc_led : FnScope ["legs", "pixel", "a", "b", "c", "x", "y"] ["legs", "pixel"] (defScope s_led) := ⟨rfl, rfl, rfl, by decide +kernel, rfl, by decide +kernel, by decide +kernel⟩
set_option maxHeartbeats 40000000 in
theorem ok_led {f : Addr} {fd : FuncData} (F : Fun K "led" "led" s_led f fd) (c_nearest : Cal P w K mg base 1 "nearest" ["number", "divisor"] [] con_nearest) (c_times : Cal P w K mg base 1 "times" ["one", "other"] [] con_timesG) : GOk P w K mg base 2 f fd ["legs", "pixel"] (spD K con_ledL) := by
  refine gok_ds F sc_led (m := 5) rfl (fun ds S0 Q h => ?_) fun cdv A fr s0 H0 E0' gd hr ds S0 Q h => ?_
  · obtain ⟨_, _, _, _, _, rfl, _⟩ := h
    rfl
  obtain ⟨a, b, c, x, y, rfl, ⟨ba, bb, bc, hc, bx, by'⟩, qq⟩ := h
  refine ds_nrm ?_ (by set_option simprocs false in dsimp only [List.map, List.replicate, List.cons_append, List.nil_append])
  refine ds_cons ?_
  refine ds_asg (h := ?_)
  refine de_name 0 ?_
  first | refine dg_tup rfl rfl ?_ | refine dg_tupL rfl rfl ?_ (fun h => pg_lst rfl h)
  refine dgs_cons (h := ?_)
  refine dg_name 2 ?_ sc_led.nd
  refine dgs_cons (h := ?_)
  refine dg_name 3 ?_ sc_led.nd
  refine dgs_cons (h := ?_)
  refine dg_name 4 ?_ sc_led.nd
  refine dgs_nil ?_
  refine ds_cons ?_
  refine ds_asg (h := ?_)
  refine de_call c_times gd (hr.mono (by decide)) ?_
  refine da_cons ?_
  refine de_tup ?_
  refine da_cons ?_
  refine de_name 2 ?_
  refine da_cons ?_
  refine de_name 3 ?_
  refine da_nil ?_
  refine ⟨by walk_at "len", ?_⟩
  refine da_cons ?_
  refine de_name 1 ?_
  refine da_nil ?_
  refine ⟨_, _, _, _, rfl, ⟨by walk_at "bdu", by walk_at "bdu", by walk_at "bdu", by walk_at "bdu"⟩, ?_⟩
  first | refine dg_tup rfl rfl ?_ | refine dg_tupL rfl rfl ?_ (fun h => pg_lst rfl h)
  refine dgs_cons (h := ?_)
  refine dg_name 5 ?_ sc_led.nd
  refine dgs_cons (h := ?_)
  refine dg_name 6 ?_ sc_led.nd
  refine dgs_nil ?_
  refine ds_cons ?_
  refine ds_ret ?_
  refine de_tup ?_
  refine da_cons ?_
  refine de_call c_nearest gd (hr.mono (by decide)) ?_
  refine da_cons ?_
  refine de_name 5 ?_
  refine da_cons ?_
  refine de_name 4 ?_
  refine da_nil ?_
  refine ⟨_, _, rfl, ⟨by walk_at "bdu", by walk_at "bdu", by walk_at "pos"⟩, ?_⟩
  refine da_cons ?_
  refine de_call c_nearest gd (hr.mono (by decide)) ?_
  refine da_cons ?_
  refine de_name 6 ?_
  refine da_cons ?_
  refine de_name 4 ?_
  refine da_nil ?_
  refine ⟨_, _, rfl, ⟨by walk_at "bdu", by walk_at "bdu", by walk_at "pos"⟩, ?_⟩
  refine da_nil ?_
  refine ⟨by walk_at "len", ?_⟩
  exact qq
abbrev s_keeps_all : Stmt := top 32
theorem sc_keeps_all : FnScope ["turn", "p", "q", "_"] ["turn"] (defScope s_keeps_all) := ⟨rfl, rfl, rfl, by decide +kernel, rfl, by decide +kernel, by decide +kernel⟩
set_option maxHeartbeats 40000000 in
theorem ok_keeps_all {f : Addr} {fd : FuncData} (F : Fun K "keeps_all" "keeps_all" s_keeps_all f fd) (c_check_turn : Cal P w K mg base 4 "check_turn" ["turn"] [] con_check_turn) (n_abs : mg "abs" = none) : GOk P w K mg base 5 f fd ["turn"] (spD K con_keeps) := by
  refine gok_ds F sc_keeps_all (m := 3) rfl (fun ds S0 Q h => ?_) fun cdv A fr s0 H0 E0' gd hr ds S0 Q h => ?_
  · obtain ⟨_, _, _, rfl, _⟩ := h
    rfl
  obtain ⟨p, q, k, rfl, hT, qq⟩ := h
  refine ds_nrm ?_ (by set_option simprocs false in dsimp only [List.map, List.replicate, List.cons_append, List.nil_append])
  refine ds_cons ?_
  refine ds_expr (h := ?_)
  refine de_call c_check_turn gd (hr.mono (by decide)) ?_
  refine da_cons ?_
  refine de_name 0 ?_
  refine da_nil ?_
  refine ⟨_, _, _, rfl, by walk_at "tn", ?_⟩
  refine ds_cons ?_
  refine ds_asg (h := ?_)
  refine de_name 0 ?_
  first | refine dg_tup rfl rfl ?_ | refine dg_tupL rfl rfl ?_ (fun h => pg_lst rfl h)
  refine dgs_cons (h := ?_)
  refine dg_name 1 ?_ sc_keeps_all.nd
  refine dgs_cons (h := ?_)
  refine dg_name 2 ?_ sc_keeps_all.nd
  refine dgs_cons (h := ?_)
  refine dg_name 3 ?_ sc_keeps_all.nd
  refine dgs_nil ?_
  refine ds_cons ?_
  refine ds_ret ?_
  refine de_eq (hr.units) ?_
  refine de_name 1 ?_
  refine de_add ?_
  refine de_B call_abs n_abs bt_abs ?_
  refine da_cons ?_
  refine de_name 2 ?_
  refine da_nil ?_
  refine drc_abs ?_
  refine de_int ?_
  first | refine add_int ?_ | refine add_lst ?_ (by walk_at "len") | refine add_tup ?_ (by walk_at "len3") | refine add_scr ?_ (by walk_at "len") | refine (show addP (.str _) (.str _) _ _ from ⟨by decide +kernel, ?_⟩)
  refine eq_int ?_
  exact qq
abbrev s_led_along : Stmt := top 43
theorem sc_led_along : FnScope ["stages", "pixel", "legs"] ["stages", "pixel"] (defScope s_led_along) := ⟨rfl, rfl, rfl, by decide +kernel, rfl, by decide +kernel, by decide +kernel⟩
set_option maxHeartbeats 40000000 in
theorem ok_led_along {f : Addr} {fd : FuncData} (F : Fun K "led_along" "led_along" s_led_along f fd) (c_led : Cal P w K mg base 2 "led" ["legs", "pixel"] [] con_ledL) : GOk P w K mg base 3 f fd ["stages", "pixel"] (spD K con_ledal) := by
  refine gok_ds F sc_led_along (m := 1) rfl (fun ds S0 Q h => ?_) fun cdv A fr s0 H0 E0' gd hr ds S0 Q h => ?_
  · obtain ⟨_, _, _, rfl, _⟩ := h
    rfl
  obtain ⟨l, x, y, rfl, hK, hl, ⟨bx, by'⟩, qq⟩ := h
  refine ds_nrm ?_ (by set_option simprocs false in dsimp only [List.map, List.replicate, List.cons_append, List.nil_append])
  refine ds_cons ?_
  refine ds_forG (γ := Int × Int) [1, 2] PassesOwn.never rfl ?_
  refine di_lst ?_
  refine de_name 0 ?_
  refine ⟨_, rfl, ?_⟩
  refine ⟨fun v => [(1, .tup [.int v.1, .int v.2])], _, fun _ => (by dsimp only [putU, fgt, List.set]), fun i v S' => v = wkN (l.take i) (x, y) ∧ S0 = S', (x, y), by walk_at "wk", ⟨rfl, rfl⟩, fun i1 d1 g1 S1 hi1 hP1 => ?_, fun g1 S1 hP1 => ?_⟩
  · obtain ⟨rfl, rfl⟩ := hP1
    obtain ⟨t, ht1, rfl⟩ := lg_at hi1
    have hT : Tn t.1 t.2.1 t.2.2 := hK t (List.mem_of_getElem? ht1)
    have b1 := hT.bp
    have b2 := hT.bq
    have hc := cc_pos hT
    have bv := wk_bdT hK (show BdP 400 (x, y) from ⟨bx, by'⟩) i1 hl
    have e1 := wkN_take ht1 (x, y)
    obtain ⟨v, hv⟩ : ∃ v, v = wkN (l.take i1) (x, y) := ⟨_, rfl⟩
    rw [← hv] at bv e1 ⊢
    obtain ⟨v1, v2⟩ := v
    obtain ⟨bv1, bv2⟩ := bv
    have bv1 : Bd 530 v1 := bv1
    have bv2 : Bd 530 v2 := bv2
    obtain ⟨eX, eY⟩ := im_led t.1 t.2.1 t.2.2 v1 v2
    refine dg_name 2 ?_ sc_led_along.nd
    refine ds_cons ?_
    refine ds_asg (h := ?_)
    refine de_call c_led gd (hr.mono (by decide)) ?_
    refine da_cons ?_
    refine de_name 2 ?_
    refine da_cons ?_
    refine de_name 1 ?_
    refine da_nil ?_
    refine ⟨_, _, _, _, _, rfl, ⟨by walk_at "bdu", by walk_at "bdu", by walk_at "bdu", by walk_at "pos", by walk_at "bdu", by walk_at "bdu"⟩, ?_⟩
    refine dg_name 1 ?_ sc_led_along.nd
    refine ds_nil ?_
    rw [eX, eY]
    exact ⟨im1 t (v1, v2), by (repeat (first | refine ⟨rfl, ?_⟩ | exact trivial)), e1.symm, rfl⟩
  obtain ⟨rfl, rfl⟩ := hP1
  rw [List.length_map, wkN_all l _ rfl]
  refine ds_cons ?_
  refine ds_ret ?_
  refine de_name 1 ?_
  exact qq
abbrev s__multiple : Stmt := top 47
theorem sc__multiple : FnScope ["turn", "p", "q", "_", "c", "m", "k"] ["turn"] (defScope s__multiple) := ⟨rfl, rfl, rfl, by decide +kernel, rfl, by decide +kernel, by decide +kernel⟩
set_option maxHeartbeats 40000000 in
theorem ok__multiple {f : Addr} {fd : FuncData} (F : Fun K "_multiple" "_multiple" s__multiple f fd) (c_inverse : Cal P w K mg base 1 "inverse" ["number", "modulus"] [] con_inverse) (n_abs : mg "abs" = none) : GOk P w K mg base 2 f fd ["turn"] (spD K con_mult41) := by
  refine gok_ds F sc__multiple (m := 6) rfl (fun ds S0 Q h => ?_) fun cdv A fr s0 H0 E0' gd hr ds S0 Q h => ?_
  · obtain ⟨_, rfl, _⟩ := h
    rfl
  obtain ⟨t, rfl, hTT, hq9, hcc9, qq⟩ := h
  have hT : Tn t.1 t.2.1 t.2.2 := hTT
  have b1 := hT.bp
  have b2 := hT.bq
  have hc0 := cc_pos hT
  have bcc := Bd.cc b1 b2
  refine ds_nrm ?_ (by set_option simprocs false in dsimp only [List.map, List.replicate, List.cons_append, List.nil_append])
  refine ds_cons ?_
  refine ds_asg (h := ?_)
  refine de_name 0 ?_
  first | refine dg_tup rfl rfl ?_ | refine dg_tupL rfl rfl ?_ (fun h => pg_lst rfl h)
  refine dgs_cons (h := ?_)
  refine dg_name 1 ?_ sc__multiple.nd
  refine dgs_cons (h := ?_)
  refine dg_name 2 ?_ sc__multiple.nd
  refine dgs_cons (h := ?_)
  refine dg_name 3 ?_ sc__multiple.nd
  refine dgs_nil ?_
  refine ds_cons ?_
  refine ds_asg (h := ?_)
  refine de_add ?_
  refine de_mul ?_
  refine de_name 1 ?_
  refine de_name 1 ?_
  first | refine mul_i ?_ (by walk_at "cmw") | refine mul_l ?_ ⟨by decide, by decide, by first | decide | exact Nat.le_of_ble_eq_true rfl | walk_at "mlen"⟩
  refine de_mul ?_
  refine de_name 2 ?_
  refine de_name 2 ?_
  first | refine mul_i ?_ (by walk_at "cmw") | refine mul_l ?_ ⟨by decide, by decide, by first | decide | exact Nat.le_of_ble_eq_true rfl | walk_at "mlen"⟩
  first | refine add_int ?_ | refine add_lst ?_ (by walk_at "len") | refine add_tup ?_ (by walk_at "len3") | refine add_scr ?_ (by walk_at "len") | refine (show addP (.str _) (.str _) _ _ from ⟨by decide +kernel, ?_⟩)
  refine dg_name 4 ?_ sc__multiple.nd
  rw [cc_sq2]
  refine ds_cons ?_
  refine ds_asg (h := ?_)
  refine de_mod ?_
  refine de_mul ?_
  refine de_neg ?_
  refine de_name 1 ?_
  refine ⟨_, rfl, ?_⟩
  refine de_call c_inverse gd (hr.mono (by decide)) ?_
  refine da_cons ?_
  refine de_name 2 ?_
  refine da_cons ?_
  refine de_name 4 ?_
  refine da_nil ?_
  refine ⟨_, _, rfl, ⟨by walk_at "bdu", by walk_at "bdu", hc0, co_qc hT⟩, fun v1 v01 v11 hv1 => ?_⟩
  have bv1 : Bd 110 v1 := Bd.of_lt v01 v11 (by walk_at "bdu")
  first | refine mul_i ?_ (by walk_at "cmw") | refine mul_l ?_ ⟨by decide, by decide, by first | decide | exact Nat.le_of_ble_eq_true rfl | walk_at "mlen"⟩
  refine de_name 4 ?_
  refine ⟨_, _, rfl, rfl, (by walk_at "pos"), ?_⟩
  refine dg_name 5 ?_ sc__multiple.nd
  refine ds_cons ?_
  refine ds_join (γ := Int) (fun m9 => [some (.tup [.int t.1, .int t.2.1, .int t.2.2]), some (.int t.1), some (.int t.2.1), none, none, some (.int m9), none]) (fun m9 S' => S0 = S' ∧ Bd 110 m9 ∧ ∀ u, u = (kOf m9 + 1, (if m9 > 0 then kOf m9 else -kOf m9), 0) → ItR t u) ?_ ?_
  · refine ds_if ?_
    refine dt_eq (hr.units) ?_
    refine de_mod ?_
    refine de_name 5 ?_
    refine de_int ?_
    refine ⟨_, _, rfl, rfl, (by walk_at "pos"), ?_⟩
    refine de_int ?_
    refine eq_int ?_
    refine ⟨fun ht => ?_, fun ht => ?_⟩
    · refine ds_cons ?_
      refine ds_augS 5 sc__multiple.nd rfl rfl rfl ?_
      refine de_name 4 ?_
      refine ⟨_, rfl, ?_⟩
      refine ds_nrm ?_
      refine ds_nil ?_
      exact ⟨_, by walk_at "wk", rfl, by walk_at "bdu", it_v hTT hq9 hv1 (.inr ⟨rfl, of_decide_eq_true ht⟩)⟩
    refine ds_nil ?_
    exact ⟨_, by walk_at "wk", rfl, by walk_at "bdu", it_v hTT hq9 hv1 (.inl ⟨rfl, of_decide_eq_false ht⟩)⟩
  rintro m9 _ ⟨rfl, bm9, hit⟩
  refine ds_cons ?_
  refine ds_asg (h := ?_)
  refine de_fdiv ?_
  refine de_B call_abs n_abs bt_abs ?_
  refine da_cons ?_
  refine de_name 5 ?_
  refine da_nil ?_
  refine drc_abs ?_
  refine de_int ?_
  refine ⟨_, _, rfl, rfl, (by walk_at "cdw"), ?_⟩
  refine dg_name 6 ?_ sc__multiple.nd
  refine ds_cons ?_
  refine ds_ret ?_
  refine de_tup ?_
  refine da_cons ?_
  refine de_add ?_
  refine de_name 6 ?_
  refine de_int ?_
  first | refine add_int ?_ | refine add_lst ?_ (by walk_at "len") | refine add_tup ?_ (by walk_at "len3") | refine add_scr ?_ (by walk_at "len") | refine (show addP (.str _) (.str _) _ _ from ⟨by decide +kernel, ?_⟩)
  refine da_cons ?_
  refine de_ifE ?_
  refine dt_gt ?_
  refine de_name 5 ?_
  refine de_int ?_
  refine ⟨_, _, rfl, rfl, ?_⟩
  refine ⟨fun ht => ?_, fun ht => ?_⟩
  · refine de_name 6 ?_
    refine da_cons ?_
    refine de_int ?_
    refine da_nil ?_
    refine ⟨by walk_at "len", ?_⟩
    exact qq _ (hit _ (by rw [if_pos (of_decide_eq_true ht)] <;> rfl))
  refine de_neg ?_
  refine de_name 6 ?_
  refine ⟨_, rfl, ?_⟩
  refine da_cons ?_
  refine de_int ?_
  refine da_nil ?_
  refine ⟨by walk_at "len", ?_⟩
  exact qq _ (hit _ (by rw [if_neg (of_decide_eq_false ht)] <;> rfl))
abbrev s_way_for : Stmt := top 38
theorem sc_way_for : FnScope ["turn", "p", "q", "_", "way", "forth", "item"] ["turn"] (defScope s_way_for) := ⟨rfl, rfl, rfl, by decide +kernel, rfl, by decide +kernel, by decide +kernel⟩
set_option maxHeartbeats 40000000 in
theorem ok_way_for {f : Addr} {fd : FuncData} (F : Fun K "way_for" "way_for" s_way_for f fd) {C_InvalidTurn C_TooLarge fI_TooLarge : Addr} (c__multiple : Cal P w K mg base 2 "_multiple" ["turn"] [] con_mult41) (c_back : Cal P w K mg base 5 "back" ["turn"] [] con_back) (c_joined : Cal P w K mg base 6 "joined" ["turn", "other"] [] con_joinG) (g_GREATEST_SIZE : ∃ u, mg "GREATEST_SIZE" = some (.int (10000000000) u)) (l_TooLarge : PySem.LimX.LimTxt P K mg "TooLarge" "TooLarge.__init__" "limit" "greater than " C_TooLarge fI_TooLarge) (r_check_turn : CalX P w K mg base 4 "check_turn" ["turn"] [] (con_chkX K turnB C_InvalidTurn)) : GOkX P w K mg base 7 f fd ["turn"] (spDX K (con1T K C_InvalidTurn (con_wayfX C_TooLarge))) := by
  refine gokx_ds F sc_way_for (m := 6) rfl (fun ds S0 Q R h => ?_) fun cdv A fr s0 H0 E0' gd hr ds S0 Q R h => ?_
  · obtain ⟨_, rfl, _⟩ := h
    rfl
  obtain ⟨d, rfl, hA, u1', u2'⟩ := h
  refine dsx_nrm ?_ (by set_option simprocs false in dsimp only [List.map, List.replicate, List.cons_append, List.nil_append])
  refine dsx_cons ?_
  refine dsx_expr ?_
  refine dex_call r_check_turn gd (hr.mono (by decide)) ?_
  refine dax_of ?_
  refine da_cons ?_
  refine de_name 0 ?_
  refine da_nil ?_
  refine ⟨_, rfl, (by assumption), fun hn1 => ?_, fun hq1 => ?_⟩
  · exact u1' (by assumption)
  obtain ⟨t, e9, hTT, q1, q2⟩ := u2' (by assumption)
  cases e9
  have hT : Tn t.1 t.2.1 t.2.2 := hTT
  have b1 := hT.bp
  have b2 := hT.bq
  refine dsx_cons ?_
  refine ds1x_of ?_
  refine ds_asg (h := ?_)
  refine de_name 0 ?_
  first | refine dg_tup rfl rfl ?_ | refine dg_tupL rfl rfl ?_ (fun h => pg_lst rfl h)
  refine dgs_cons (h := ?_)
  refine dg_name 1 ?_ sc_way_for.nd
  refine dgs_cons (h := ?_)
  refine dg_name 2 ?_ sc_way_for.nd
  refine dgs_cons (h := ?_)
  refine dg_name 3 ?_ sc_way_for.nd
  refine dgs_nil ?_
  refine dsx_cons ?_
  refine dsx_if ?_
  refine dt_gt ?_
  refine de_add ?_
  refine de_mul ?_
  refine de_name 1 ?_
  refine de_name 1 ?_
  first | refine mul_i ?_ (by walk_at "cmw") | refine mul_l ?_ ⟨by decide, by decide, by first | decide | exact Nat.le_of_ble_eq_true rfl | walk_at "mlen"⟩
  refine de_mul ?_
  refine de_name 2 ?_
  refine de_name 2 ?_
  first | refine mul_i ?_ (by walk_at "cmw") | refine mul_l ?_ ⟨by decide, by decide, by first | decide | exact Nat.le_of_ble_eq_true rfl | walk_at "mlen"⟩
  first | refine add_int ?_ | refine add_lst ?_ (by walk_at "len") | refine add_tup ?_ (by walk_at "len3") | refine add_scr ?_ (by walk_at "len") | refine (show addP (.str _) (.str _) _ _ from ⟨by decide +kernel, ?_⟩)
  refine de_globI2 g_GREATEST_SIZE ?_
  refine ⟨_, _, rfl, rfl, ?_⟩
  refine ⟨fun ht => ?_, fun ht => ?_⟩
  · refine dsx_cons ?_
    refine dsx_raise_lim l_TooLarge PySem.LimX.fld_limit (by decide) hr rfl ?_
    refine de_globI2 g_GREATEST_SIZE ?_
    exact ⟨by show (10000000000 : Int).natAbs < 2 ^ 1900; decide +kernel, q1 (of_decide_eq_true ht)⟩
  have hcc9 : cc t.1 t.2.1 ≤ 10000000000 := by have := of_decide_eq_false ht; unfold cc; omega
  refine dsx_nil ?_
  refine dsx_cons ?_
  refine ds1x_of ?_
  refine ds_par (i := 4) (j := 5) rfl sc_way_for.nd rfl rfl (by decide) ?_
  refine da_cons ?_
  refine de_lstO ?_
  refine da_nil ?_
  refine ⟨by walk_at "len", fun p2 hp2 => ?_⟩
  refine da_cons ?_
  refine de_bl ?_
  refine da_nil ?_
  refine ⟨_, _, rfl, ?_⟩
  first | refine dsx_nrm ?_ | refine ds_nrm ?_
  refine dsx_cons ?_
  refine ds1x_of ?_
  refine ds_whileG (γ := Nat) [0, 6, 5] (passes_of rfl) (fun n => [(0, .tup [.int (tN t n).1, .int (tN t n).2.1, .int (tN t n).2.2]), (5, .bl (fwB n))]) _ (fun _ => (by dsimp only [putU, fgt, List.set])) (fun n S' => S' = (p2, (wN t n).map trD) :: S0 ∧ WSt t n) (fun n => (cc (tN t n).1 (tN t n).2.1).toNat) 0 (by walk_at "wk") ⟨rfl, wst0 hTT⟩ (fun n S' hP => ?_)
  obtain ⟨rfl, hW⟩ := hP
  have hTn : Tn (tN t n).1 (tN t n).2.1 (tN t n).2.2 := hW.tn
  have bn1 := hTn.bp
  have bn2 := hTn.bq
  have hle := hW.le
  have hn33 := (hW.few hcc9).1
  have hln : ((wN t n).map trD).length = n := by rw [List.length_map, wN_len]
  refine dt_ne (hr.units) ?_
  refine de_ix (h := ?_)
  refine de_name 0 ?_
  refine de_int ?_
  walk_at "ix"
  refine de_int ?_
  refine eq_int ?_
  refine ⟨fun ht => ?_, fun ht => ?_⟩
  · have hq9 : (tN t n).2.1 ≠ 0 := by simpa using ht
    refine ds_cons ?_
    refine ds_asg (h := ?_)
    refine de_call c__multiple gd (hr.mono (by decide)) ?_
    refine da_cons ?_
    refine de_name 0 ?_
    refine da_nil ?_
    refine ⟨_, rfl, hTn, hq9, by omega, fun u3 hI3 => ?_⟩
    refine dg_name 6 ?_ sc_way_for.nd
    obtain ⟨v9, eu9, kwu, J9, ev9, W9, less9⟩ := hW.step hcc9 hq9 hI3
    have hTu : Tn u3.1 u3.2.1 u3.2.2 := kwu.1
    have bu1 := hTu.bp
    have bu2 := hTu.bq
    have pos9 := cc_pT W9.tn
    refine ds_cons ?_
    refine ds_expr (h := ?_)
    refine de_append ?_
    refine de_name 4 ?_
    refine ⟨_, _, rfl, (by walk_at "gets"), ?_⟩
    refine da_cons ?_
    refine DE.mono (Q := fun d S' => S' = (p2, (wN t n).map trD) :: S0 ∧ d = trD (iN t n)) ?_ ?_
    · refine de_ifE ?_
      refine dt_val (h := ?_)
      refine de_name 5 ?_
      refine ⟨_, rfl, ?_⟩
      refine ⟨fun ht => ?_, fun ht => ?_⟩
      · refine de_name 6 ?_
        exact ⟨rfl, by unfold iN; rw [if_pos (show fwB n = true from ht), eu9] <;> rfl⟩
      refine de_call c_back gd (hr.mono (by decide)) ?_
      refine da_cons ?_
      refine de_name 6 ?_
      refine da_nil ?_
      refine ⟨_, _, _, rfl, by walk_at "tn", ?_⟩
      exact ⟨rfl, by unfold iN; rw [if_neg (by rw [show fwB n = false from ht] <;> decide), eu9] <;> rfl⟩
    rintro _ _ ⟨rfl, rfl⟩
    refine da_nil ?_
    refine ⟨_, _, rfl, (by walk_at "gets"), (by walk_at "len"), ?_⟩
    walk_at "sets"
    refine ds_cons ?_
    refine ds_asg (h := ?_)
    refine de_call c_joined gd (hr.mono (by decide)) ?_
    refine da_cons ?_
    refine de_name 6 ?_
    refine da_cons ?_
    refine de_call c_back gd (hr.mono (by decide)) ?_
    refine da_cons ?_
    refine de_name 0 ?_
    refine da_nil ?_
    refine ⟨_, _, _, rfl, by walk_at "tn", ?_⟩
    refine da_nil ?_
    refine ⟨_, _, _, _, _, _, _, _, _, rfl, hTu, tn_bk2 hTn, J9, ?_⟩
    refine dg_name 0 ?_ sc_way_for.nd
    refine ds_cons ?_
    refine ds_asg (h := ?_)
    refine de_not ?_
    refine de_name 5 ?_
    refine ⟨_, rfl, ?_⟩
    refine dg_name 5 ?_ sc_way_for.nd
    refine ds_nil ?_
    exact ⟨n + 1, by (repeat (first | refine ⟨rfl, ?_⟩ | refine ⟨by rw [ev9], ?_⟩ | refine ⟨by rw [fwB_succ], ?_⟩ | exact trivial)), ⟨by rw [wN_succ, List.map_append] <;> rfl, W9⟩, by rw [ev9] at pos9 ⊢; omega⟩
  have hq9 : (tN t n).2.1 = 0 := by simpa using ht
  have hF : Fin41 t n := ⟨hW, hq9⟩
  refine dsx_cons ?_
  refine ds1x_of ?_
  refine ds_join (γ := Unit) (fun _ => [none, none, none, none, some (.raw (.ref p2)), none, none]) (fun _ S' => S' = (p2, (wF t n).map trD) :: S0) ?_ ?_
  · refine ds_if ?_
    refine dt_ne (hr.units) ?_
    refine de_ix (h := ?_)
    refine de_name 0 ?_
    refine de_int ?_
    walk_at "ix"
    refine de_int ?_
    refine eq_int ?_
    refine ⟨fun ht => ?_, fun ht => ?_⟩
    · refine ds_cons ?_
      refine ds_expr (h := ?_)
      refine de_append ?_
      refine de_name 4 ?_
      refine ⟨_, _, rfl, (by walk_at "gets"), ?_⟩
      refine da_cons ?_
      refine DE.mono (Q := fun d S' => S' = (p2, (wN t n).map trD) :: S0 ∧ d = trD (if fwB n then tN t n else bkT (tN t n))) ?_ ?_
      · refine de_ifE ?_
        refine dt_val (h := ?_)
        refine de_name 5 ?_
        refine ⟨_, rfl, ?_⟩
        refine ⟨fun ht => ?_, fun ht => ?_⟩
        · refine de_name 0 ?_
          exact ⟨rfl, by rw [if_pos (show fwB n = true from ht)] <;> rfl⟩
        refine de_call c_back gd (hr.mono (by decide)) ?_
        refine da_cons ?_
        refine de_name 0 ?_
        refine da_nil ?_
        refine ⟨_, _, _, rfl, by walk_at "tn", ?_⟩
        exact ⟨rfl, by rw [if_neg (by rw [show fwB n = false from ht] <;> decide)] <;> rfl⟩
      rintro _ _ ⟨rfl, rfl⟩
      refine da_nil ?_
      refine ⟨_, _, rfl, (by walk_at "gets"), (by walk_at "len"), ?_⟩
      walk_at "sets"
      refine ds_nil ?_
      exact ⟨(), by walk_at "wk", by rw [← wF_a (by simpa using ht)] <;> rfl⟩
    refine ds_nil ?_
    exact ⟨(), by walk_at "wk", by rw [← wF_b (by simpa using ht)]⟩
  rintro _ _ rfl
  refine dsx_cons ?_
  refine dsx_ret ?_
  refine dex_of ?_
  refine de_name 4 ?_
  rw [← wayOf_eq hF]
  exact q2 hcc9 _ hp2 (by rw [wayOf_eq hF]; exact way_ok hF hcc9)
abbrev s__legs_along : Stmt := top 48
theorem sc__legs_along : FnScope ["way", "u", "quarters", "p", "q", "more", "x", "y", "common", "a", "b"] ["way"] (defScope s__legs_along) := ⟨rfl, rfl, rfl, by decide +kernel, rfl, by decide +kernel, by decide +kernel⟩
set_option maxHeartbeats 40000000 in
theorem ok__legs_along {f : Addr} {fd : FuncData} (F : Fun K "_legs_along" "_legs_along" s__legs_along f fd) (b_gcd : mg "gcd" = some (.builtin "math.gcd")) (c_times : Cal P w K mg base 1 "times" ["one", "other"] [] con_timesG) (g_QUARTERS : ∃ a, mg "QUARTERS" = some (.ref a) ∧ Rp K (fun _ => none) (.tup [.tup [.int (1), .int (0)], .tup [.int (0), .int (1)], .tup [.int (-1), .int (0)], .tup [.int (0), .int (-1)]]) (.ref a)) : GOk P w K mg base 2 f fd ["way"] (spD K con_legal) := by
  refine gok_ds F sc__legs_along (m := 10) rfl (fun ds S0 Q h => ?_) fun cdv A fr s0 H0 E0' gd hr ds S0 Q h => ?_
  · obtain ⟨_, _, rfl, _⟩ := h
    rfl
  obtain ⟨l, k, rfl, hW, qq⟩ := h
  refine ds_nrm ?_ (by set_option simprocs false in dsimp only [List.map, List.replicate, List.cons_append, List.nil_append])
  refine ds_cons ?_
  refine ds_asg (h := ?_)
  refine de_tup ?_
  refine da_cons ?_
  refine de_tup ?_
  refine da_cons ?_
  refine de_int ?_
  refine da_cons ?_
  refine de_int ?_
  refine da_nil ?_
  refine ⟨by walk_at "len", ?_⟩
  refine da_cons ?_
  refine de_int ?_
  refine da_nil ?_
  refine ⟨by walk_at "len", ?_⟩
  first | refine dg_tup rfl rfl ?_ | refine dg_tupL rfl rfl ?_ (fun h => pg_lst rfl h)
  refine dgs_cons (h := ?_)
  refine dg_name 1 ?_ sc__legs_along.nd
  refine dgs_cons (h := ?_)
  refine dg_name 2 ?_ sc__legs_along.nd
  refine dgs_nil ?_
  refine ds_cons ?_
  refine ds_forG (γ := Nat) [1, 2, 3, 4, 5] PassesOwn.never rfl ?_
  refine di_lst ?_
  refine de_name 0 ?_
  refine ⟨_, rfl, ?_⟩
  refine ⟨fun j => [(1, .tup [.int (gpr (l.take j)).1, .int (gpr (l.take j)).2]), (2, .int (qsm (l.take j)))], _, fun _ => (by dsimp only [putU, fgt, List.set]), fun i j S' => i = j ∧ S0 = S', 0, by walk_at "wk", ⟨rfl, rfl⟩, fun i1 d1 g1 S1 hi1 hP1 => ?_, fun g1 S1 hP1 => ?_⟩
  · obtain ⟨rfl, rfl⟩ := hP1
    obtain ⟨t, ht1, rfl⟩ := tr_at hi1
    have hil : i1 < l.length := (List.getElem?_eq_some_iff.mp ht1).1
    have bt := hW.bd t (List.mem_of_getElem? ht1)
    have bk9 : (k + 1) * (i1 + 1) ≤ 6000 := Nat.le_trans (Nat.mul_le_mul_left _ hil) hW.all
    rw [Nat.mul_succ] at bk9
    obtain ⟨bg1, bg2⟩ := gpr_bd hW.bd i1
    have bg1 : Bd 6001 (gpr (l.take i1)).1 := bg1.up (by omega)
    have bg2 : Bd 6001 (gpr (l.take i1)).2 := bg2.up (by omega)
    have bt1 : Bd 6001 t.1 := bt.1.up (by omega)
    have bt2 : Bd 6001 t.2.1 := bt.2.up (by omega)
    obtain ⟨eg1, eg2⟩ := gpr_take ht1
    first | refine dg_tup rfl rfl ?_ | refine dg_tupL rfl rfl ?_ (fun h => pg_lst rfl h)
    refine dgs_cons (h := ?_)
    refine dg_name 3 ?_ sc__legs_along.nd
    refine dgs_cons (h := ?_)
    refine dg_name 4 ?_ sc__legs_along.nd
    refine dgs_cons (h := ?_)
    refine dg_name 5 ?_ sc__legs_along.nd
    refine dgs_nil ?_
    refine ds_cons ?_
    refine ds_asg (h := ?_)
    refine de_call c_times gd (hr.mono (by decide)) ?_
    refine da_cons ?_
    refine de_name 1 ?_
    refine da_cons ?_
    refine de_tup ?_
    refine da_cons ?_
    refine de_name 3 ?_
    refine da_cons ?_
    refine de_name 4 ?_
    refine da_nil ?_
    refine ⟨by walk_at "len", ?_⟩
    refine da_nil ?_
    refine ⟨_, _, _, _, rfl, ⟨by walk_at "bdu", by walk_at "bdu", by walk_at "bdu", by walk_at "bdu"⟩, ?_⟩
    refine dg_name 1 ?_ sc__legs_along.nd
    refine ds_cons ?_
    refine ds_augI 2 sc__legs_along.nd rfl rfl rfl ?_
    refine de_name 5 ?_
    refine ⟨_, rfl, ?_⟩
    refine ds_nrm ?_
    refine ds_nil ?_
    exact ⟨i1 + 1, by (repeat (first | refine ⟨rfl, ?_⟩ | refine ⟨by rw [eg1] <;> rfl, ?_⟩ | refine ⟨by rw [eg2], ?_⟩ | exact trivial)), rfl, rfl⟩
  obtain ⟨rfl, rfl⟩ := hP1
  rw [List.length_map, List.take_of_length_le (Nat.le_refl _)]
  have bq9 := qsm_bd hW.tn l.length
  rw [List.take_of_length_le (Nat.le_refl _)] at bq9
  obtain ⟨bg1, bg2⟩ := gpr_bd hW.bd l.length
  rw [List.take_of_length_le (Nat.le_refl _)] at bg1 bg2
  have ball := hW.all
  have bg1 : Bd 6001 (gpr l).1 := bg1.up (by omega)
  have bg2 : Bd 6001 (gpr l).2 := bg2.up (by omega)
  obtain ⟨hodd, hpos⟩ := gpr_odd hW.tn
  refine ds_cons ?_
  refine ds_asg (h := ?_)
  refine de_name 1 ?_
  first | refine dg_tup rfl rfl ?_ | refine dg_tupL rfl rfl ?_ (fun h => pg_lst rfl h)
  refine dgs_cons (h := ?_)
  refine dg_name 6 ?_ sc__legs_along.nd
  refine dgs_cons (h := ?_)
  refine dg_name 7 ?_ sc__legs_along.nd
  refine dgs_nil ?_
  refine ds_cons ?_
  refine ds_asg (h := ?_)
  refine de_gcd b_gcd ?_
  refine da_cons ?_
  refine de_name 6 ?_
  refine da_cons ?_
  refine de_name 7 ?_
  refine da_nil ?_
  refine ⟨_, _, rfl, ?_⟩
  refine dg_name 8 ?_ sc__legs_along.nd
  obtain ⟨gc, hgc⟩ : ∃ gc, gc = ((Nat.gcd (gpr l).1.natAbs (gpr l).2.natAbs : Nat) : Int) := ⟨_, rfl⟩
  rw [← hgc]
  have hgp := gcd_p41 hpos hgc
  have bgc : Bd 6001 gc := gcd_b41 hpos hgc bg1 bg2
  refine ds_cons ?_
  refine ds_par (i := 6) (j := 7) rfl sc__legs_along.nd rfl rfl (by decide) ?_
  refine da_cons ?_
  refine de_fdiv ?_
  refine de_name 6 ?_
  refine de_name 8 ?_
  refine ⟨_, _, rfl, rfl, (by walk_at "cdw"), ?_⟩
  refine da_cons ?_
  refine de_fdiv ?_
  refine de_name 7 ?_
  refine de_name 8 ?_
  refine ⟨_, _, rfl, rfl, (by walk_at "cdw"), ?_⟩
  refine da_nil ?_
  refine ⟨_, _, rfl, ?_⟩
  refine ds_nrm ?_
  obtain ⟨X, hX⟩ : ∃ X, X = (gpr l).1 / gc := ⟨_, rfl⟩
  obtain ⟨Y, hY⟩ : ∃ Y, Y = (gpr l).2 / gc := ⟨_, rfl⟩
  rw [← hX, ← hY]
  have bX : Bd 6001 X := by rw [hX]; exact bg1.div
  have bY : Bd 6001 Y := by rw [hY]; exact bg2.div
  have hk4 : 0 ≤ qsm l % 4 ∧ qsm l % 4 < 4 := by omega
  obtain ⟨bu1, bu2⟩ := rt_q1 (qsm l % 4).toNat
  refine ds_cons ?_
  refine ds_asg (h := ?_)
  refine de_call c_times gd (hr.mono (by decide)) ?_
  refine da_cons ?_
  refine de_call c_times gd (hr.mono (by decide)) ?_
  refine da_cons ?_
  refine de_tup ?_
  refine da_cons ?_
  refine de_name 6 ?_
  refine da_cons ?_
  refine de_name 7 ?_
  refine da_nil ?_
  refine ⟨by walk_at "len", ?_⟩
  refine da_cons ?_
  refine de_tup ?_
  refine da_cons ?_
  refine de_name 6 ?_
  refine da_cons ?_
  refine de_name 7 ?_
  refine da_nil ?_
  refine ⟨by walk_at "len", ?_⟩
  refine da_nil ?_
  refine ⟨_, _, _, _, rfl, ⟨by walk_at "bdu", by walk_at "bdu", by walk_at "bdu", by walk_at "bdu"⟩, ?_⟩
  refine da_cons ?_
  refine de_ix (h := ?_)
  refine de_globT g_QUARTERS ?_
  refine de_mod ?_
  refine de_name 2 ?_
  refine de_int ?_
  refine ⟨_, _, rfl, rfl, (by walk_at "pos"), ?_⟩
  refine ix_qu hk4 ?_
  refine da_nil ?_
  refine ⟨_, _, _, _, rfl, ⟨by walk_at "bdu", by walk_at "bdu", by walk_at "bdu", by walk_at "bdu"⟩, ?_⟩
  first | refine dg_tup rfl rfl ?_ | refine dg_tupL rfl rfl ?_ (fun h => pg_lst rfl h)
  refine dgs_cons (h := ?_)
  refine dg_name 9 ?_ sc__legs_along.nd
  refine dgs_cons (h := ?_)
  refine dg_name 10 ?_ sc__legs_along.nd
  refine dgs_nil ?_
  refine ds_cons ?_
  refine ds_ret ?_
  refine de_tup ?_
  refine da_cons ?_
  refine de_name 9 ?_
  refine da_cons ?_
  refine de_name 10 ?_
  refine da_cons ?_
  refine de_add ?_
  refine de_mul ?_
  refine de_name 6 ?_
  refine de_name 6 ?_
  first | refine mul_i ?_ (by walk_at "cmw") | refine mul_l ?_ ⟨by decide, by decide, by first | decide | exact Nat.le_of_ble_eq_true rfl | walk_at "mlen"⟩
  refine de_mul ?_
  refine de_name 7 ?_
  refine de_name 7 ?_
  first | refine mul_i ?_ (by walk_at "cmw") | refine mul_l ?_ ⟨by decide, by decide, by first | decide | exact Nat.le_of_ble_eq_true rfl | walk_at "mlen"⟩
  first | refine add_int ?_ | refine add_lst ?_ (by walk_at "len") | refine add_tup ?_ (by walk_at "len3") | refine add_scr ?_ (by walk_at "len") | refine (show addP (.str _) (.str _) _ _ from ⟨by decide +kernel, ?_⟩)
  refine da_nil ?_
  refine ⟨by walk_at "len", ?_⟩
  obtain ⟨er1, er2⟩ := rt_q41 (qsm l % 4) (X * X - Y * Y) (X * Y + Y * X) hk4
  rw [er1, er2]
  unfold prmL at qq
  rw [← hgc, ← hX, ← hY] at qq
  exact qq
abbrev s__is_keeping : Stmt := top 46
theorem sc__is_keeping : FnScope ["value"] ["value"] (defScope s__is_keeping) := ⟨rfl, rfl, rfl, by decide +kernel, rfl, by decide +kernel, by decide +kernel⟩
set_option maxHeartbeats 40000000 in
theorem ok__is_keeping {f : Addr} {fd : FuncData} (F : Fun K "_is_keeping" "_is_keeping" s__is_keeping f fd) (c_is_turn : Cal P w K mg base 3 "is_turn" ["value"] [] (con_turnA K)) (c_keeps_all : Cal P w K mg base 5 "keeps_all" ["turn"] [] con_keeps) : GOk P w K mg base 6 f fd ["value"] (spD K (con_ikA K)) := by
  refine gok_ds F sc__is_keeping (m := 0) rfl (fun ds S0 Q h => ?_) fun cdv A fr s0 H0 E0' gd hr ds S0 Q h => ?_
  · obtain ⟨_, rfl, _⟩ := h
    rfl
  obtain ⟨d, rfl, hA, q⟩ := h
  refine ds_nrm ?_ (by set_option simprocs false in dsimp only [List.map, List.replicate, List.cons_append, List.nil_append])
  refine ds_cons ?_
  refine ds_ret ?_
  refine de_and ?_
  refine de_call c_is_turn gd (hr.mono (by decide)) ?_
  refine da_cons ?_
  refine de_name 0 ?_
  refine da_nil ?_
  refine ⟨_, rfl, hA.t, hA.l, ?_⟩
  refine ⟨_, rfl, fun hb => ?_, fun hb => ?_⟩
  · rw [kwB_no hb] at q
    exact q
  obtain ⟨p, q', k, rfl, hT⟩ := turnB_tn hb
  refine de_one ?_
  refine de_call c_keeps_all gd (hr.mono (by decide)) ?_
  refine da_cons ?_
  refine de_name 0 ?_
  refine da_nil ?_
  refine ⟨_, _, _, rfl, by walk_at "tn", ?_⟩
  rw [kwB_tn hT] at q
  exact q
abbrev s_is_way : Stmt := top 36
theorem sc_is_way : FnScope ["value", "item"] ["value"] (defScope s_is_way) := ⟨rfl, rfl, rfl, by decide +kernel, rfl, by decide +kernel, by decide +kernel⟩
set_option maxHeartbeats 40000000 in
theorem ok_is_way {f : Addr} {fd : FuncData} (F : Fun K "is_way" "is_way" s_is_way f fd) (c__is_keeping : Cal P w K mg base 6 "_is_keeping" ["value"] [] (con_ikA K)) (g_MOST_ITEMS : ∃ u, mg "MOST_ITEMS" = some (.int (120) u)) (n_all : mg "all" = none) (n_isinstance : mg "isinstance" = none) (n_len : mg "len" = none) (n_list : mg "list" = none) : GOk P w K mg base 7 f fd ["value"] (spD K (con_iswA K)) := by
  refine gok_ds F sc_is_way (m := 1) rfl (fun ds S0 Q h => ?_) fun cdv A fr s0 H0 E0' gd hr ds S0 Q h => ?_
  · obtain ⟨_, rfl, _⟩ := h
    rfl
  obtain ⟨d, rfl, hA, q⟩ := h
  obtain ⟨t9, hty, hi9, hb9, htu, hls, hst⟩ := hA.v
  refine ds_nrm ?_ (by set_option simprocs false in dsimp only [List.map, List.replicate, List.cons_append, List.nil_append])
  refine ds_cons ?_
  refine ds_ret ?_
  refine de_and ?_
  refine de_B call_isi_D n_isinstance bt_isinstance ?_
  refine da_cons ?_
  refine de_name 0 ?_
  refine da_cons ?_
  refine de_ty n_list bt_list ?_
  refine da_nil ?_
  refine drc_isiD hty hls ?_
  refine ⟨_, rfl, fun hb => ?_, fun hb => ?_⟩
  · rw [wayB_no hb] at q
    exact q
  obtain ⟨l9, rfl⟩ := isLst_ex hb
  have hl9 := (hA.p _ rfl).2
  refine de_and ?_
  refine de_le ?_
  refine de_B call_len_seq n_len bt_len ?_
  refine da_cons ?_
  refine de_name 0 ?_
  refine da_nil ?_
  refine drc_len ?_
  walk_at "lenP"
  refine de_globI2 g_MOST_ITEMS ?_
  refine ⟨_, _, rfl, rfl, ?_⟩
  refine ⟨_, rfl, fun hb => ?_, fun hb => ?_⟩
  · rw [show wayB (.lst l9) = false by show (decide _ && _) = _; rw [hb]; rfl] at q
    exact q
  refine de_one ?_
  refine de_B (cr_all rfl) n_all bt_all ?_
  refine da_cons ?_
  refine de_lc 1 rfl sc_is_way.nd (blkOk_by (N := ["value", "item"]) (sc := defScope s_is_way) (by decide +kernel)) ?_ (fun _ _ _ _ _ => pg_name sc_is_way.nd rfl (Or.inl rfl))
  refine di_lst ?_
  refine de_name 0 ?_
  refine ⟨_, rfl, ?_⟩
  refine ⟨fun k acc S' => S' = S0 ∧ acc = (l9.map (fun z => D.bl (kwB z))).take k, ⟨rfl, rfl⟩, fun k9 d9 acc S' p hk hP hp hl s H C cl fp => ?_, by omega, fun acc S' hl hP => ?_⟩
  · obtain ⟨rfl, rfl⟩ := hP
    have hA9 := (hA.p _ rfl).1 _ (List.mem_of_getElem? hk)
    refine de_call c__is_keeping gd (hr.mono (by decide)) ?_
    refine da_cons ?_
    refine de_name 1 ?_
    refine da_nil ?_
    refine ⟨_, rfl, (by assumption), ?_⟩
    exact ⟨_, rfl, rfl, by rw [take_step (fun z => D.bl (kwB z)) hk]⟩
  obtain ⟨rfl, rfl⟩ := hP
  rw [List.take_of_length_le (by rw [List.length_map]; exact Nat.le_refl _), kw_map]
  refine da_nil ?_
  refine drc_all ?_
  rw [kw_all]
  have q9 := q
  rw [show wayB (.lst l9) = (decide _ && l9.all kwB) from rfl, hb, Bool.true_and] at q9
  exact q9
abbrev s_check_way : Stmt := top 37
theorem sc_check_way : FnScope ["way", "at", "item"] ["way"] (defScope s_check_way) := ⟨rfl, rfl, rfl, by decide +kernel, rfl, by decide +kernel, by decide +kernel⟩
set_option maxHeartbeats 40000000 in
theorem ok_check_way {f : Addr} {fd : FuncData} (F : Fun K "check_way" "check_way" s_check_way f fd) {C_InvalidWay fI_InvalidWay : Addr} (c__is_keeping : Cal P w K mg base 6 "_is_keeping" ["value"] [] (con_ikA K)) (g_MOST_ITEMS : ∃ u, mg "MOST_ITEMS" = some (.int (120) u)) (l_InvalidWay : PySem.LimX.LimTxt P K mg "InvalidWay" "InvalidWay.__init__" "index" "no way, wrong at " C_InvalidWay fI_InvalidWay) (n_enumerate : mg "enumerate" = none) (n_isinstance : mg "isinstance" = none) (n_len : mg "len" = none) (n_list : mg "list" = none) : GOkX P w K mg base 7 f fd ["way"] (spDX K (con_chkwX K C_InvalidWay)) := by
  refine gokx_ds F sc_check_way (m := 2) rfl (fun ds S0 Q R h => ?_) fun cdv A fr s0 H0 E0' gd hr ds S0 Q R h => ?_
  · obtain ⟨_, rfl, _⟩ := h
    rfl
  obtain ⟨d, rfl, hA, q1, q2⟩ := h
  obtain ⟨t9, hty, hi9, hb9, htu, hls, hst⟩ := hA.v
  refine dsx_nrm ?_ (by set_option simprocs false in dsimp only [List.map, List.replicate, List.cons_append, List.nil_append])
  refine dsx_cons ?_
  refine dsx_if ?_
  refine DT.mono (Q := fun b' S' => S0 = S' ∧ (b' = true → wayE d = some .non) ∧ (b' = false → ∃ l, d = .lst l ∧ ¬ (l.length : Int) > 120)) ?_ ?_
  · refine dt_w ?_
    refine dw_or ?_
    refine dt_not ?_
    refine dt_val (h := ?_)
    refine de_B call_isi_D n_isinstance bt_isinstance ?_
    refine da_cons ?_
    refine de_name 0 ?_
    refine da_cons ?_
    refine de_ty n_list bt_list ?_
    refine da_nil ?_
    refine drc_isiD hty hls ?_
    refine ⟨_, rfl, ?_⟩
    refine ⟨fun hb => ?_, fun hb => ?_⟩
    · exact ⟨rfl, fun _ => wayE_no (by simpa using hb), fun z => nomatch z⟩
    obtain ⟨l9, rfl⟩ := isLst_ex (d := d) (by simpa using hb)
    have hl9 := (hA.p _ rfl).2
    refine dw_or1 ?_
    refine dt_gt ?_
    refine de_B call_len_seq n_len bt_len ?_
    refine da_cons ?_
    refine de_name 0 ?_
    refine da_nil ?_
    refine drc_len ?_
    walk_at "lenP"
    refine de_globI2 g_MOST_ITEMS ?_
    refine ⟨_, _, rfl, rfl, ?_⟩
    exact ⟨rfl, fun z => wayE_len (of_decide_eq_true z), fun z => ⟨_, rfl, of_decide_eq_false z⟩⟩
  rintro b' _ ⟨rfl, hbt, hbf⟩
  refine ⟨fun ht => ?_, fun ht => ?_⟩
  · refine dsx_cons ?_
    refine dsx_raise_lim l_InvalidWay PySem.LimX.fld_index (by decide) hr rfl ?_
    refine de_non ?_
    exact ⟨trivial, q1 _ (hbt ht)⟩
  obtain ⟨l9, rfl, hl9⟩ := hbf ht
  have hl8 := (hA.p _ rfl).2
  refine dsx_nil ?_
  refine dsx_cons ?_
  refine dsx_forG (γ := Unit) [1, 2] (passes_of rfl) rfl ?_
  refine dix_of ?_
  refine di_enum n_enumerate ?_
  refine da_cons ?_
  refine de_name 0 ?_
  refine da_nil ?_
  refine ⟨_, rfl, ?_⟩
  refine ⟨fun _ => [], _, fun _ => (by dsimp only [putU, fgt, List.set]), fun i _ S' => S0 = S' ∧ ∀ (j : Nat) x, j < i → l9[j]? = some x → kwB x = true, (), by walk_at "wk", ⟨rfl, fun j x z => absurd z (by omega)⟩, fun i1 d1 g1 S1 hi1 hP1 => ?_, fun g1 S1 hP1 => ?_⟩
  · obtain ⟨rfl, hbe⟩ := hP1
    obtain ⟨d9, hd9, rfl⟩ := enuD_at hi1
    have hA9 := (hA.p _ rfl).1 _ (List.mem_of_getElem? hd9)
    have hi9 : i1 < l9.length := (List.getElem?_eq_some_iff.mp hd9).1
    first | refine dg_tup rfl rfl ?_ | refine dg_tupL rfl rfl ?_ (fun h => pg_lst rfl h)
    refine dgs_cons (h := ?_)
    refine dg_name 1 ?_ sc_check_way.nd
    refine dgs_cons (h := ?_)
    refine dg_name 2 ?_ sc_check_way.nd
    refine dgs_nil ?_
    refine dsx_cons ?_
    refine dsx_if ?_
    refine dt_not ?_
    refine dt_val (h := ?_)
    refine de_call c__is_keeping gd (hr.mono (by decide)) ?_
    refine da_cons ?_
    refine de_name 2 ?_
    refine da_nil ?_
    refine ⟨_, rfl, (by assumption), ?_⟩
    refine ⟨_, rfl, ?_⟩
    refine ⟨fun ht => ?_, fun ht => ?_⟩
    · refine dsx_cons ?_
      refine dsx_raise_lim l_InvalidWay PySem.LimX.fld_index (by decide) hr rfl ?_
      refine de_name 1 ?_
      exact ⟨by show (_ : Int).natAbs < 2 ^ 1900; exact Nat.lt_of_le_of_lt (show _ ≤ 1000 by omega) (by decide +kernel), q1 _ (wayE_at hl9 hbe hd9 (by simpa using ht))⟩
    refine dsx_nil ?_
    refine dsx_nil ?_
    exact ⟨(), by walk_at "wk", rfl, kway_step hbe hd9 (by simpa using ht)⟩
  obtain ⟨rfl, hbe⟩ := hP1
  refine dsx_nil ?_
  exact q2 (wayE_ok hl9 (by rw [enu_len]; exact Nat.le_refl _) hbe)
abbrev s_walked : Stmt := top 41
theorem sc_walked : FnScope ["way", "pixel", "item"] ["way", "pixel"] (defScope s_walked) := ⟨rfl, rfl, rfl, by decide +kernel, rfl, by decide +kernel, by decide +kernel⟩
set_option maxHeartbeats 40000000 in
theorem ok_walked {f : Addr} {fd : FuncData} (F : Fun K "walked" "walked" s_walked f fd) {C_InvalidPixel C_InvalidWay : Addr} (c_led_along : Cal P w K mg base 3 "led_along" ["stages", "pixel"] [] con_ledal) (c_legs_of : Cal P w K mg base 5 "legs_of" ["turn"] [] con_legs_of) (r_check_pixel : CalX P w K mg base 4 "check_pixel" ["pixel"] [] (con_chkX K pixB C_InvalidPixel)) (r_check_way : CalX P w K mg base 7 "check_way" ["way"] [] (con_chkwX K C_InvalidWay)) : GOkX P w K mg base 8 f fd ["way", "pixel"] (spDX K (con2W K C_InvalidWay C_InvalidPixel con_walkA)) := by
  refine gokx_ds F sc_walked (m := 1) rfl (fun ds S0 Q R h => ?_) fun cdv A fr s0 H0 E0' gd hr ds S0 Q R h => ?_
  · obtain ⟨_, _, rfl, _⟩ := h
    rfl
  obtain ⟨d1, d2, rfl, ⟨a1, a2⟩, q1, q2, q3⟩ := h
  refine dsx_nrm ?_ (by set_option simprocs false in dsimp only [List.map, List.replicate, List.cons_append, List.nil_append])
  refine dsx_cons ?_
  refine dsx_expr ?_
  refine dex_call r_check_way gd (hr.mono (by decide)) ?_
  refine dax_of ?_
  refine da_cons ?_
  refine de_name 0 ?_
  refine da_nil ?_
  refine ⟨_, rfl, (by assumption), fun v1 hv1 => ?_, fun hw1 => ?_⟩
  · exact q1 _ (by assumption)
  refine dsx_cons ?_
  refine dsx_expr ?_
  refine dex_call r_check_pixel gd (hr.mono (by decide)) ?_
  refine dax_of ?_
  refine da_cons ?_
  refine de_name 1 ?_
  refine da_nil ?_
  refine ⟨_, rfl, (by assumption), fun hn2 => ?_, fun hq2 => ?_⟩
  · exact q2 (by assumption) (by assumption)
  obtain ⟨l, x, y, e9, hK, hl, ⟨bx, by'⟩, qq⟩ := q3 (by assumption) (by assumption)
  cases e9
  have hKt := kw_tn hK
  refine dsx_cons ?_
  refine dsx_ret ?_
  refine dex_of ?_
  refine de_call c_led_along gd (hr.mono (by decide)) ?_
  refine da_cons ?_
  refine de_lc 2 rfl sc_walked.nd (blkOk_by (N := ["way", "pixel", "item"]) (sc := defScope s_walked) (by decide +kernel)) ?_ (fun _ _ _ _ _ => pg_name sc_walked.nd rfl (Or.inl rfl))
  refine di_lst ?_
  refine de_name 0 ?_
  refine ⟨_, rfl, ?_⟩
  refine ⟨fun i9 acc S' => S0 = S' ∧ acc = (l.map lgD).take i9, ⟨rfl, rfl⟩, fun k9 d acc S' p9 hk hP hp hl9 s H C cl fp => ?_, by rw [List.length_map]; omega, fun acc S' hl9 hP => ?_⟩
  · obtain ⟨rfl, rfl⟩ := hP
    obtain ⟨t, ht9, rfl⟩ := tr_at hk
    have hT : Tn t.1 t.2.1 t.2.2 := hKt t (List.mem_of_getElem? ht9)
    refine de_call c_legs_of gd (hr.mono (by decide)) ?_
    refine da_cons ?_
    refine de_name 2 ?_
    refine da_nil ?_
    refine ⟨_, _, _, rfl, by walk_at "tn", ?_⟩
    exact ⟨_, rfl, rfl, by rw [take_step lgD ht9] <;> rfl⟩
  obtain ⟨rfl, rfl⟩ := hP
  rw [List.length_map, List.take_of_length_le (by rw [List.length_map]; exact Nat.le_refl _)]
  refine da_cons ?_
  refine de_name 1 ?_
  refine da_nil ?_
  refine ⟨_, _, _, rfl, hKt, (by omega), ⟨bx.up (by decide), by'.up (by decide)⟩, ?_⟩
  exact qq
abbrev s_walked_back : Stmt := top 42
theorem sc_walked_back : FnScope ["way", "pixel", "item"] ["way", "pixel"] (defScope s_walked_back) := ⟨rfl, rfl, rfl, by decide +kernel, rfl, by decide +kernel, by decide +kernel⟩
set_option maxHeartbeats 40000000 in
theorem ok_walked_back {f : Addr} {fd : FuncData} (F : Fun K "walked_back" "walked_back" s_walked_back f fd) {C_InvalidPixel C_InvalidWay : Addr} (c_back : Cal P w K mg base 5 "back" ["turn"] [] con_back) (c_led_along : Cal P w K mg base 3 "led_along" ["stages", "pixel"] [] con_ledal) (c_legs_of : Cal P w K mg base 5 "legs_of" ["turn"] [] con_legs_of) (r_check_pixel : CalX P w K mg base 4 "check_pixel" ["pixel"] [] (con_chkX K pixB C_InvalidPixel)) (r_check_way : CalX P w K mg base 7 "check_way" ["way"] [] (con_chkwX K C_InvalidWay)) : GOkX P w K mg base 8 f fd ["way", "pixel"] (spDX K (con2W K C_InvalidWay C_InvalidPixel con_walkbA)) := by
  refine gokx_ds F sc_walked_back (m := 1) rfl (fun ds S0 Q R h => ?_) fun cdv A fr s0 H0 E0' gd hr ds S0 Q R h => ?_
  · obtain ⟨_, _, rfl, _⟩ := h
    rfl
  obtain ⟨d1, d2, rfl, ⟨a1, a2⟩, q1, q2, q3⟩ := h
  refine dsx_nrm ?_ (by set_option simprocs false in dsimp only [List.map, List.replicate, List.cons_append, List.nil_append])
  refine dsx_cons ?_
  refine dsx_expr ?_
  refine dex_call r_check_way gd (hr.mono (by decide)) ?_
  refine dax_of ?_
  refine da_cons ?_
  refine de_name 0 ?_
  refine da_nil ?_
  refine ⟨_, rfl, (by assumption), fun v1 hv1 => ?_, fun hw1 => ?_⟩
  · exact q1 _ (by assumption)
  refine dsx_cons ?_
  refine dsx_expr ?_
  refine dex_call r_check_pixel gd (hr.mono (by decide)) ?_
  refine dax_of ?_
  refine da_cons ?_
  refine de_name 1 ?_
  refine da_nil ?_
  refine ⟨_, rfl, (by assumption), fun hn2 => ?_, fun hq2 => ?_⟩
  · exact q2 (by assumption) (by assumption)
  obtain ⟨l, x, y, e9, hK, hl, ⟨bx, by'⟩, qq⟩ := q3 (by assumption) (by assumption)
  cases e9
  have hKt := kw_tn hK
  have hKr := kw_tn (kw_rev hK)
  have hlr : (l.reverse.map bkT).length ≤ 130 := by rw [List.length_map, List.length_reverse]; omega
  refine dsx_cons ?_
  refine dsx_ret ?_
  refine dex_of ?_
  refine de_call c_led_along gd (hr.mono (by decide)) ?_
  refine da_cons ?_
  refine de_lc 2 rfl sc_walked_back.nd (blkOk_by (N := ["way", "pixel", "item"]) (sc := defScope s_walked_back) (by decide +kernel)) ?_ (fun _ _ _ _ _ => pg_name sc_walked_back.nd rfl (Or.inl rfl))
  refine di_lst ?_
  refine de_rev ?_
  refine de_name 0 ?_
  refine ⟨_, rfl, ?_⟩
  refine ⟨_, rfl, ?_⟩
  rw [← List.map_reverse]
  refine ⟨fun i9 acc S' => S0 = S' ∧ acc = (l.reverse.map (fun t => lgD (bkT t))).take i9, ⟨rfl, rfl⟩, fun k9 d acc S' p9 hk hP hp hl9 s H C cl fp => ?_, by rw [List.length_map, List.length_reverse]; omega, fun acc S' hl9 hP => ?_⟩
  · obtain ⟨rfl, rfl⟩ := hP
    obtain ⟨t, ht9, rfl⟩ := tr_at (os := l.reverse) hk
    have hT : Tn t.1 t.2.1 t.2.2 := hKt t (List.mem_reverse.mp (List.mem_of_getElem? ht9))
    refine de_call c_legs_of gd (hr.mono (by decide)) ?_
    refine da_cons ?_
    refine de_call c_back gd (hr.mono (by decide)) ?_
    refine da_cons ?_
    refine de_name 2 ?_
    refine da_nil ?_
    refine ⟨_, _, _, rfl, by walk_at "tn", ?_⟩
    refine da_nil ?_
    refine ⟨_, _, _, rfl, by walk_at "tn", ?_⟩
    exact ⟨_, rfl, rfl, by rw [take_step (fun t => lgD (bkT t)) ht9] <;> rfl⟩
  obtain ⟨rfl, rfl⟩ := hP
  rw [List.length_map, List.take_of_length_le (by rw [List.length_map]; exact Nat.le_refl _), show l.reverse.map (fun t => lgD (bkT t)) = (l.reverse.map bkT).map lgD from by rw [List.map_map] <;> rfl]
  refine da_cons ?_
  refine de_name 1 ?_
  refine da_nil ?_
  refine ⟨_, _, _, rfl, hKr, hlr, ⟨bx.up (by decide), by'.up (by decide)⟩, ?_⟩
  exact qq
abbrev s_way_miss : Stmt := top 44
theorem sc_way_miss : FnScope ["way", "pixel", "r", "s", "a", "b", "c", "x", "y", "far", "high"] ["way", "pixel"] (defScope s_way_miss) := ⟨rfl, rfl, rfl, by decide +kernel, rfl, by decide +kernel, by decide +kernel⟩
set_option maxHeartbeats 40000000 in
theorem ok_way_miss {f : Addr} {fd : FuncData} (F : Fun K "way_miss" "way_miss" s_way_miss f fd) {C_InvalidPixel C_InvalidWay : Addr} (c__legs_along : Cal P w K mg base 2 "_legs_along" ["way"] [] con_legal) (c_lowest : Cal P w K mg base 1 "lowest" ["number", "divisor"] [] con_lowestG) (c_times : Cal P w K mg base 1 "times" ["one", "other"] [] con_timesG) (r_walked : CalX P w K mg base 8 "walked" ["way", "pixel"] [] (con2W K C_InvalidWay C_InvalidPixel con_walkA)) : GOkX P w K mg base 9 f fd ["way", "pixel"] (spDX K (con2W K C_InvalidWay C_InvalidPixel con_missA)) := by
  refine gokx_ds F sc_way_miss (m := 9) rfl (fun ds S0 Q R h => ?_) fun cdv A fr s0 H0 E0' gd hr ds S0 Q R h => ?_
  · obtain ⟨_, _, rfl, _⟩ := h
    rfl
  obtain ⟨d1, d2, rfl, ⟨a1, a2⟩, q1, q2, q3⟩ := h
  refine dsx_nrm ?_ (by set_option simprocs false in dsimp only [List.map, List.replicate, List.cons_append, List.nil_append])
  refine dsx_cons ?_
  refine dsx_asg (h := ?_)
  refine dex_call r_walked gd (hr.mono (by decide)) ?_
  refine dax_of ?_
  refine da_cons ?_
  refine de_name 0 ?_
  refine da_cons ?_
  refine de_name 1 ?_
  refine da_nil ?_
  refine ⟨_, _, rfl, ⟨by assumption, by assumption⟩, fun v1 hv1 => ?_, fun hw1 hn1 => ?_, fun hw1 hq1 => ?_⟩
  · exact q1 _ (by assumption)
  · exact q2 (by assumption) (by assumption)
  obtain ⟨l, x, y, e9, hK, hl, ⟨bx, by'⟩, qq⟩ := q3 (by assumption) (by assumption)
  cases e9
  have hKt := kw_tn hK
  refine ⟨l, x, y, rfl, hK, by omega, ⟨bx, by'⟩, ?_⟩
  obtain ⟨bw1, bw2⟩ := wk_bd (n := 400) hKt (show BdP 400 (x, y) from ⟨bx, by'⟩)
  have bw1 : Bd 410 (wkN l (x, y)).1 := bw1.up (by omega)
  have bw2 : Bd 410 (wkN l (x, y)).2 := bw2.up (by omega)
  obtain ⟨bp1, bp2, bp3⟩ := prmL_bd hK hl
  have hp3 := prmL_pos hK
  first | refine dg_tup rfl rfl ?_ | refine dg_tupL rfl rfl ?_ (fun h => pg_lst rfl h)
  refine dgs_cons (h := ?_)
  refine dg_name 2 ?_ sc_way_miss.nd
  refine dgs_cons (h := ?_)
  refine dg_name 3 ?_ sc_way_miss.nd
  refine dgs_nil ?_
  refine dsx_cons ?_
  refine ds1x_of ?_
  refine ds_asg (h := ?_)
  refine de_call c__legs_along gd (hr.mono (by decide)) ?_
  refine da_cons ?_
  refine de_name 0 ?_
  refine da_nil ?_
  refine ⟨l, 50, rfl, few_bw hK hl, ?_⟩
  first | refine dg_tup rfl rfl ?_ | refine dg_tupL rfl rfl ?_ (fun h => pg_lst rfl h)
  refine dgs_cons (h := ?_)
  refine dg_name 4 ?_ sc_way_miss.nd
  refine dgs_cons (h := ?_)
  refine dg_name 5 ?_ sc_way_miss.nd
  refine dgs_cons (h := ?_)
  refine dg_name 6 ?_ sc_way_miss.nd
  refine dgs_nil ?_
  refine dsx_cons ?_
  refine ds1x_of ?_
  refine ds_asg (h := ?_)
  refine de_call c_times gd (hr.mono (by decide)) ?_
  refine da_cons ?_
  refine de_tup ?_
  refine da_cons ?_
  refine de_name 4 ?_
  refine da_cons ?_
  refine de_name 5 ?_
  refine da_nil ?_
  refine ⟨by walk_at "len", ?_⟩
  refine da_cons ?_
  refine de_name 1 ?_
  refine da_nil ?_
  refine ⟨_, _, _, _, rfl, ⟨by walk_at "bdu", by walk_at "bdu", by walk_at "bdu", by walk_at "bdu"⟩, ?_⟩
  first | refine dg_tup rfl rfl ?_ | refine dg_tupL rfl rfl ?_ (fun h => pg_lst rfl h)
  refine dgs_cons (h := ?_)
  refine dg_name 7 ?_ sc_way_miss.nd
  refine dgs_cons (h := ?_)
  refine dg_name 8 ?_ sc_way_miss.nd
  refine dgs_nil ?_
  refine dsx_cons ?_
  refine ds1x_of ?_
  refine ds_par (i := 9) (j := 10) rfl sc_way_miss.nd rfl rfl (by decide) ?_
  refine da_cons ?_
  refine de_sub ?_
  refine de_mul ?_
  refine de_name 2 ?_
  refine de_name 6 ?_
  first | refine mul_i ?_ (by walk_at "cmw") | refine mul_l ?_ ⟨by decide, by decide, by first | decide | exact Nat.le_of_ble_eq_true rfl | walk_at "mlen"⟩
  refine de_name 7 ?_
  refine ⟨_, _, rfl, rfl, ?_⟩
  refine da_cons ?_
  refine de_sub ?_
  refine de_mul ?_
  refine de_name 3 ?_
  refine de_name 6 ?_
  first | refine mul_i ?_ (by walk_at "cmw") | refine mul_l ?_ ⟨by decide, by decide, by first | decide | exact Nat.le_of_ble_eq_true rfl | walk_at "mlen"⟩
  refine de_name 8 ?_
  refine ⟨_, _, rfl, rfl, ?_⟩
  refine da_nil ?_
  refine ⟨_, _, rfl, ?_⟩
  first | refine dsx_nrm ?_ | refine ds_nrm ?_
  refine dsx_cons ?_
  refine dsx_ret ?_
  refine dex_of ?_
  refine de_call c_lowest gd (hr.mono (by decide)) ?_
  refine da_cons ?_
  refine de_add ?_
  refine de_mul ?_
  refine de_name 9 ?_
  refine de_name 9 ?_
  first | refine mul_i ?_ (by walk_at "cmw") | refine mul_l ?_ ⟨by decide, by decide, by first | decide | exact Nat.le_of_ble_eq_true rfl | walk_at "mlen"⟩
  refine de_mul ?_
  refine de_name 10 ?_
  refine de_name 10 ?_
  first | refine mul_i ?_ (by walk_at "cmw") | refine mul_l ?_ ⟨by decide, by decide, by first | decide | exact Nat.le_of_ble_eq_true rfl | walk_at "mlen"⟩
  first | refine add_int ?_ | refine add_lst ?_ (by walk_at "len") | refine add_tup ?_ (by walk_at "len3") | refine add_scr ?_ (by walk_at "len") | refine (show addP (.str _) (.str _) _ _ from ⟨by decide +kernel, ?_⟩)
  refine da_cons ?_
  refine de_mul ?_
  refine de_name 6 ?_
  refine de_name 6 ?_
  first | refine mul_i ?_ (by walk_at "cmw") | refine mul_l ?_ ⟨by decide, by decide, by first | decide | exact Nat.le_of_ble_eq_true rfl | walk_at "mlen"⟩
  refine da_nil ?_
  refine ⟨_, _, rfl, Int.mul_pos hp3 hp3, ⟨by walk_at "bdu", by walk_at "bdu"⟩, ?_⟩
  exact qq _
abbrev s_way_bound : Stmt := top 45
theorem sc_way_bound : FnScope ["way", "number", "item"] ["way"] (defScope s_way_bound) := ⟨rfl, rfl, rfl, by decide +kernel, rfl, by decide +kernel, by decide +kernel⟩
set_option maxHeartbeats 40000000 in
theorem ok_way_bound {f : Addr} {fd : FuncData} (F : Fun K "way_bound" "way_bound" s_way_bound f fd) {C_InvalidWay : Addr} (c_lowest : Cal P w K mg base 1 "lowest" ["number", "divisor"] [] con_lowestG) (n_len : mg "len" = none) (r_check_way : CalX P w K mg base 7 "check_way" ["way"] [] (con_chkwX K C_InvalidWay)) : GOkX P w K mg base 8 f fd ["way"] (spDX K (con1W K C_InvalidWay con_boundA)) := by
  refine gokx_ds F sc_way_bound (m := 2) rfl (fun ds S0 Q R h => ?_) fun cdv A fr s0 H0 E0' gd hr ds S0 Q R h => ?_
  · obtain ⟨_, rfl, _⟩ := h
    rfl
  obtain ⟨d1, rfl, a1, q1, q3⟩ := h
  refine dsx_nrm ?_ (by set_option simprocs false in dsimp only [List.map, List.replicate, List.cons_append, List.nil_append])
  refine dsx_cons ?_
  refine dsx_expr ?_
  refine dex_call r_check_way gd (hr.mono (by decide)) ?_
  refine dax_of ?_
  refine da_cons ?_
  refine de_name 0 ?_
  refine da_nil ?_
  refine ⟨_, rfl, (by assumption), fun v1 hv1 => ?_, fun hw1 => ?_⟩
  · exact q1 _ (by assumption)
  obtain ⟨l, e9, hK, hl, qq⟩ := q3 (by assumption)
  cases e9
  refine dsx_cons ?_
  refine ds1x_of ?_
  refine ds_asg (h := ?_)
  refine de_B call_len_seq n_len bt_len ?_
  refine da_cons ?_
  refine de_lcIf 2 rfl sc_way_bound.nd (blkOk_by (N := ["way", "number", "item"]) (sc := defScope s_way_bound) (by decide +kernel)) ?_ (fun _ _ _ _ _ => pg_name sc_way_bound.nd rfl (Or.inl rfl))
  refine di_lst ?_
  refine de_name 0 ?_
  refine ⟨_, rfl, ?_⟩
  refine ⟨fun i9 acc S' => S0 = S' ∧ acc = ((l.take i9).filter fun t => !decide (t.2.1 = 0)).map trD, ⟨rfl, rfl⟩, fun k9 d acc S' p9 hk hP hp hl9 s H C cl fp => ?_, by rw [List.length_map]; omega, fun acc S' hl9 hP => ?_⟩
  · obtain ⟨rfl, rfl⟩ := hP
    obtain ⟨t, ht9, rfl⟩ := tr_at hk
    refine dt_ne (hr.units) ?_
    refine de_ix (h := ?_)
    refine de_name 2 ?_
    refine de_int ?_
    walk_at "ix"
    refine de_int ?_
    refine eq_int ?_
    refine ⟨_, rfl, fun ht s6 H6 C6 cl6 fp6 => ?_, fun ht => ⟨rfl, by rw [flt_step2 _ ht9, if_neg (by rw [ht] <;> decide), List.append_nil]⟩⟩
    refine de_name 2 ?_
    exact ⟨_, rfl, rfl, by rw [flt_step2 _ ht9, if_pos ht, List.map_append] <;> rfl⟩
  obtain ⟨rfl, rfl⟩ := hP
  have hf1 := List.length_filter_le (fun t : Trn => !decide (t.2.1 = 0)) (l.take (List.map trD l).length)
  have hf2 : (l.take (List.map trD l).length).length ≤ l.length := by rw [List.length_take]; omega
  obtain ⟨F9, hF9⟩ : ∃ F, F = ((l.take (List.map trD l).length).filter fun t : Trn => !decide (t.2.1 = 0)).map trD := ⟨_, rfl⟩
  rw [← hF9]
  have hFl : F9.length ≤ 120 := by rw [hF9, List.length_map]; omega
  have bn9 : Bd 20 (F9.length : Int) := by unfold Bd; omega
  refine da_nil ?_
  refine drc_len ?_
  walk_at "lenP"
  refine dg_name 1 ?_ sc_way_bound.nd
  refine dsx_cons ?_
  refine dsx_ret ?_
  refine dex_of ?_
  refine de_call c_lowest gd (hr.mono (by decide)) ?_
  refine da_cons ?_
  refine de_mul ?_
  refine de_name 1 ?_
  refine de_name 1 ?_
  first | refine mul_i ?_ (by walk_at "cmw") | refine mul_l ?_ ⟨by decide, by decide, by first | decide | exact Nat.le_of_ble_eq_true rfl | walk_at "mlen"⟩
  refine da_cons ?_
  refine de_int ?_
  refine da_nil ?_
  refine ⟨_, _, rfl, by decide, ⟨by walk_at "bdu", by walk_at "bdu"⟩, ?_⟩
  exact qq _
set_option maxHeartbeats 40000000 in
theorem okx_turn_by {f : Addr} {fd : FuncData} (F : Fun K "turn_by" "turn_by" s_turn_by f fd) {C_TooLarge fI_TooLarge : Addr} (b_gcd : mg "gcd" = some (.builtin "math.gcd")) (b_isqrt : mg "isqrt" = some (.builtin "math.isqrt")) (g_GREATEST_P : ∃ u, mg "GREATEST_P" = some (.int (1000000000000000) u)) (l_TooLarge : PySem.LimX.LimTxt P K mg "TooLarge" "TooLarge.__init__" "limit" "greater than " C_TooLarge fI_TooLarge) : GOkX P w K mg base 2 f fd ["legs"] (spDX K (con_turnR C_TooLarge)) := by
  refine gokx_ds F sc_turn_by (m := 7) rfl (fun ds S0 Q R h => ?_) fun cdv A fr s0 H0 E0' gd hr ds S0 Q R h => ?_
  · obtain ⟨_, _, _, _, _, _, _, rfl, _⟩ := h
    rfl
  obtain ⟨a, b, c, p, q, k, m, rfl, ⟨ea, eb, ec⟩, hT, hm, bm, hp15, q1⟩ := h
  subst ea
  subst eb
  subst ec
  have b1 := hT.bp
  have b2 := hT.bq
  have hm0 : 0 < m := by omega
  have hT0 := Tv.zero hT
  have hp0 := hT.p1
  have hp2 := hT.p2
  have hk1 := hT.k1
  have hk2 := hT.k2
  obtain ⟨u0, gP⟩ := g_GREATEST_P
  obtain ⟨bA, bB⟩ := bd_lgA2 k b1 b2
  have bA : Bd 205 (lgA p q k) := bA
  have bB : Bd 205 (lgB p q k) := bB
  have bpp : Bd 210 (p * p) := (b1.mul b1).up (by decide)
  have bqq : Bd 210 (q * q) := (b2.mul b2).up (by decide)
  have bcc : Bd 210 (cc p q) := by unfold cc; exact ((b1.mul b1).add (b2.mul b2)).up (by decide)
  refine dsx_nrm ?_ (by set_option simprocs false in dsimp only [List.map, List.replicate, List.cons_append, List.nil_append])
  refine dsx_cons ?_
  refine ds1x_of ?_
  refine ds_asg (h := ?_)
  refine de_name 0 ?_
  first | refine dg_tup rfl rfl ?_ | refine dg_tupL rfl rfl ?_ (fun h => pg_lst rfl h)
  refine dgs_cons (h := ?_)
  refine dg_name 1 ?_ sc_turn_by.nd
  refine dgs_cons (h := ?_)
  refine dg_name 2 ?_ sc_turn_by.nd
  refine dgs_cons (h := ?_)
  refine dg_name 3 ?_ sc_turn_by.nd
  refine dgs_nil ?_
  refine dsx_cons ?_
  refine ds1x_of ?_
  refine ds_asg (h := ?_)
  refine de_gcd b_gcd ?_
  refine da_cons ?_
  refine de_name 1 ?_
  refine da_cons ?_
  refine de_name 2 ?_
  refine da_nil ?_
  refine ⟨_, _, rfl, ?_⟩
  refine dg_name 4 ?_ sc_turn_by.nd
  rw [gcd_mlgV hT (by omega)]
  refine dsx_cons ?_
  refine ds1x_of ?_
  refine ds_par3 (i := 1) (j := 2) (k := 3) rfl sc_turn_by.nd rfl rfl rfl ?_
  refine da_cons ?_
  refine de_fdiv ?_
  refine de_name 1 ?_
  refine de_name 4 ?_
  refine ⟨_, _, rfl, rfl, (by walk_at "cdw"), ?_⟩
  refine da_cons ?_
  refine de_fdiv ?_
  refine de_name 2 ?_
  refine de_name 4 ?_
  refine ⟨_, _, rfl, rfl, (by walk_at "cdw"), ?_⟩
  refine da_cons ?_
  refine de_fdiv ?_
  refine de_name 3 ?_
  refine de_name 4 ?_
  refine ⟨_, _, rfl, rfl, (by walk_at "cdw"), ?_⟩
  refine da_nil ?_
  refine ⟨_, _, _, rfl, ?_⟩
  first | refine dsx_nrm ?_ | refine ds_nrm ?_
  rw [ediv_l hm, ediv_l hm, ediv_l hm]
  refine dsx_cons ?_
  refine ds1x_of ?_
  refine ds_asg (h := ?_)
  refine de_int ?_
  refine dg_name 5 ?_ sc_turn_by.nd
  refine dsx_cons ?_
  refine ds1x_of ?_
  refine ds_while (γ := Nat) (passes_of rfl) (fun j => [some (.tup [.int (m * lgA p q k), .int (m * lgB p q k), .int (m * cc p q)]), some (.int (rtX j (p * p - q * q) (p * q + q * p))), some (.int (rtY j (p * p - q * q) (p * q + q * p))), some (.int (cc p q)), some (.int m), some (.int (k - (j : Int))), none, none]) (fun j S' => S' = S0 ∧ j ≤ k.toNat) (fun j => j) k.toNat ⟨rfl, by unfold lgA; rfl, by unfold lgB; rfl, rfl, rfl, congrArg (fun z => some (D.int z)) (by omega), trivial⟩ ⟨rfl, Nat.le_refl _⟩ (fun j S' hP => ?_)
  obtain ⟨rfl, hjk⟩ := hP
  have hj4 : j < 4 := by omega
  refine dt_w ?_
  refine dw_or ?_
  refine dt_eq (hr.units) ?_
  refine de_mod ?_
  refine de_name 2 ?_
  refine de_int ?_
  refine ⟨_, _, rfl, rfl, (by walk_at "pos"), ?_⟩
  refine de_int ?_
  refine eq_int ?_
  refine ⟨fun hb => ?_, fun hb => ?_⟩
  · refine ⟨fun _ => ?_, fun h => absurd h (by simp)⟩
    refine ds_cons ?_
    refine ds_par (i := 1) (j := 2) rfl sc_turn_by.nd rfl rfl (by decide) ?_
    refine da_cons ?_
    refine de_name 2 ?_
    refine da_cons ?_
    refine de_neg ?_
    refine de_name 1 ?_
    refine ⟨_, rfl, ?_⟩
    refine da_nil ?_
    refine ⟨_, _, rfl, ?_⟩
    first | refine dsx_nrm ?_ | refine ds_nrm ?_
    refine ds_cons ?_
    refine ds_augI 5 sc_turn_by.nd rfl rfl rfl ?_
    refine de_int ?_
    refine ⟨_, rfl, ?_⟩
    first | refine dsx_nrm ?_ | refine ds_nrm ?_
    refine ds_nil ?_
    have hz : j ≠ 0 := (go_onV hT0 j hj4).mp (.inl (of_decide_eq_true hb))
    obtain ⟨i, rfl⟩ : ∃ i, j = i + 1 := ⟨j - 1, by omega⟩
    exact ⟨i, ⟨rfl, congrArg (fun z => some (D.int z)) (rt_back i (by omega) _ _).1, congrArg (fun z => some (D.int z)) (rt_back i (by omega) _ _).2, rfl, rfl, congrArg (fun z => some (D.int z)) (by omega), trivial⟩, ⟨rfl, by omega⟩, by omega⟩
  refine dw_or1 ?_
  refine dt_lt ?_
  refine de_name 1 ?_
  refine de_int ?_
  refine ⟨_, _, rfl, rfl, ?_⟩
  refine ⟨fun ht => ?_, fun ht => ?_⟩
  · refine ds_cons ?_
    refine ds_par (i := 1) (j := 2) rfl sc_turn_by.nd rfl rfl (by decide) ?_
    refine da_cons ?_
    refine de_name 2 ?_
    refine da_cons ?_
    refine de_neg ?_
    refine de_name 1 ?_
    refine ⟨_, rfl, ?_⟩
    refine da_nil ?_
    refine ⟨_, _, rfl, ?_⟩
    first | refine dsx_nrm ?_ | refine ds_nrm ?_
    refine ds_cons ?_
    refine ds_augI 5 sc_turn_by.nd rfl rfl rfl ?_
    refine de_int ?_
    refine ⟨_, rfl, ?_⟩
    first | refine dsx_nrm ?_ | refine ds_nrm ?_
    refine ds_nil ?_
    have hz : j ≠ 0 := (go_onV hT0 j hj4).mp (.inr (of_decide_eq_true ht))
    obtain ⟨i, rfl⟩ : ∃ i, j = i + 1 := ⟨j - 1, by omega⟩
    exact ⟨i, ⟨rfl, congrArg (fun z => some (D.int z)) (rt_back i (by omega) _ _).1, congrArg (fun z => some (D.int z)) (rt_back i (by omega) _ _).2, rfl, rfl, congrArg (fun z => some (D.int z)) (by omega), trivial⟩, ⟨rfl, by omega⟩, by omega⟩
  have hz : j = 0 := Decidable.byContradiction fun z => ((go_onV hT0 j hj4).mpr z).elim (of_decide_eq_false hb) (of_decide_eq_false ht)
  subst hz
  refine dsx_cons ?_
  refine ds1x_of ?_
  refine ds_asg (h := ?_)
  refine de_isqrt b_isqrt ?_
  refine da_cons ?_
  refine de_fdiv ?_
  refine de_add ?_
  refine de_name 3 ?_
  refine de_name 1 ?_
  first | refine add_int ?_ | refine add_lst ?_ (by walk_at "len") | refine add_tup ?_ (by walk_at "len3") | refine add_scr ?_ (by walk_at "len") | refine (show addP (.str _) (.str _) _ _ from ⟨by decide +kernel, ?_⟩)
  refine de_int ?_
  refine ⟨_, _, rfl, rfl, (by walk_at "cdw"), ?_⟩
  refine da_nil ?_
  refine ⟨_, rfl, (by walk_at "isq"), ?_⟩
  first | rw [isq_eq (show (0 : Int) ≤ p by omega) (show (cc p q + rtX 0 (p * p - q * q) (p * q + q * p)) / 2 = p * p from root_p p q)] | rw [isq_eq (Int.natCast_nonneg q.natAbs) (show (cc p q - rtX 0 (p * p - q * q) (p * q + q * p)) / 2 = _ from (root_q p q).trans (abs_sq q))]
  refine dg_name 6 ?_ sc_turn_by.nd
  refine dsx_cons ?_
  refine ds1x_of ?_
  refine ds_asg (h := ?_)
  refine de_isqrt b_isqrt ?_
  refine da_cons ?_
  refine de_fdiv ?_
  refine de_sub ?_
  refine de_name 3 ?_
  refine de_name 1 ?_
  refine ⟨_, _, rfl, rfl, ?_⟩
  refine de_int ?_
  refine ⟨_, _, rfl, rfl, (by walk_at "cdw"), ?_⟩
  refine da_nil ?_
  refine ⟨_, rfl, (by walk_at "isq"), ?_⟩
  first | rw [isq_eq (show (0 : Int) ≤ p by omega) (show (cc p q + rtX 0 (p * p - q * q) (p * q + q * p)) / 2 = p * p from root_p p q)] | rw [isq_eq (Int.natCast_nonneg q.natAbs) (show (cc p q - rtX 0 (p * p - q * q) (p * q + q * p)) / 2 = _ from (root_q p q).trans (abs_sq q))]
  refine dg_name 7 ?_ sc_turn_by.nd
  refine dsx_cons ?_
  refine dsx_if ?_
  refine dt_gt ?_
  refine de_name 6 ?_
  refine de_globI gP ?_
  refine ⟨_, _, rfl, rfl, ?_⟩
  refine ⟨fun ht => ?_, fun ht => ?_⟩
  · refine dsx_cons ?_
    refine dsx_raise_lim l_TooLarge PySem.LimX.fld_limit (by decide) hr rfl ?_
    refine de_globI gP ?_
    exact ⟨by show (1000000000000000 : Int).natAbs < 2 ^ 1900; decide +kernel, q1⟩
  · exact absurd hp15 (of_decide_eq_false ht)
abbrev s_product : Stmt := top 39
theorem sc_product : FnScope ["way"] ["way"] (defScope s_product) := ⟨rfl, rfl, rfl, by decide +kernel, rfl, by decide +kernel, by decide +kernel⟩
set_option maxHeartbeats 40000000 in
theorem ok_product_w0 {f : Addr} {fd : FuncData} (F : Fun K "product" "product" s_product f fd) {C_InvalidWay : Addr} (c__legs_along : Cal P w K mg base 2 "_legs_along" ["way"] [] con_legal) (c_turn_by : Cal P w K mg base 1 "turn_by" ["legs"] [] con_turn_by) (r_check_way : CalX P w K mg base 7 "check_way" ["way"] [] (con_chkwX K C_InvalidWay)) : GOkX P w K mg base 8 f fd ["way"] (spDX K (con1W K C_InvalidWay con_prodA)) := by
  refine gokx_ds F sc_product (m := 0) rfl (fun ds S0 Q R h => ?_) fun cdv A fr s0 H0 E0' gd hr ds S0 Q R h => ?_
  · obtain ⟨_, rfl, _⟩ := h
    rfl
  obtain ⟨d1, rfl, a1, q1, q3⟩ := h
  refine dsx_nrm ?_ (by set_option simprocs false in dsimp only [List.map, List.replicate, List.cons_append, List.nil_append])
  refine dsx_cons ?_
  refine dsx_expr ?_
  refine dex_call r_check_way gd (hr.mono (by decide)) ?_
  refine dax_of ?_
  refine da_cons ?_
  refine de_name 0 ?_
  refine da_nil ?_
  refine ⟨_, rfl, (by assumption), fun v1 hv1 => ?_, fun hw1 => ?_⟩
  · exact q1 _ (by assumption)
  obtain ⟨l, t, e9, hK, hl, ⟨hTT, hE⟩, qq⟩ := q3 (by assumption)
  cases e9
  have hpr := prm_way hTT (few_bw hK hl).tn hE
  refine dsx_cons ?_
  refine dsx_ret ?_
  refine dex_of ?_
  refine de_call c_turn_by gd (hr.mono (by decide)) ?_
  refine da_cons ?_
  refine de_call c__legs_along gd (hr.mono (by decide)) ?_
  refine da_cons ?_
  refine de_name 0 ?_
  refine da_nil ?_
  refine ⟨l, 50, rfl, few_bw hK hl, ?_⟩
  refine da_nil ?_
  refine ⟨_, _, _, t.1, t.2.1, t.2.2, 1, rfl, ⟨by rw [Int.one_mul]; exact congrArg Prod.fst hpr, by rw [Int.one_mul]; exact congrArg (fun z => z.2.1) hpr, by rw [Int.one_mul]; exact congrArg (fun z => z.2.2) hpr⟩, hTT, by decide, by unfold Bd; decide, ?_⟩
  exact qq
set_option maxHeartbeats 40000000 in
theorem ok_product_w1 {f : Addr} {fd : FuncData} (F : Fun K "product" "product" s_product f fd) {C_InvalidWay C_TooLarge : Addr} (c__legs_along : Cal P w K mg base 2 "_legs_along" ["way"] [] con_legal) (r_check_way : CalX P w K mg base 7 "check_way" ["way"] [] (con_chkwX K C_InvalidWay)) (r_turn_by : CalX P w K mg base 2 "turn_by" ["legs"] [] (con_turnR C_TooLarge)) : GOkX P w K mg base 8 f fd ["way"] (spDX K (con1W K C_InvalidWay (con_prodB C_TooLarge))) := by
  refine gokx_ds F sc_product (m := 0) rfl (fun ds S0 Q R h => ?_) fun cdv A fr s0 H0 E0' gd hr ds S0 Q R h => ?_
  · obtain ⟨_, rfl, _⟩ := h
    rfl
  obtain ⟨d1, rfl, a1, q1, q3⟩ := h
  refine dsx_nrm ?_ (by set_option simprocs false in dsimp only [List.map, List.replicate, List.cons_append, List.nil_append])
  refine dsx_cons ?_
  refine dsx_expr ?_
  refine dex_call r_check_way gd (hr.mono (by decide)) ?_
  refine dax_of ?_
  refine da_cons ?_
  refine de_name 0 ?_
  refine da_nil ?_
  refine ⟨_, rfl, (by assumption), fun v1 hv1 => ?_, fun hw1 => ?_⟩
  · exact q1 _ (by assumption)
  obtain ⟨l, t, e9, hK, hl, ⟨hTT, hpr, hbig⟩, qq⟩ := q3 (by assumption)
  cases e9
  refine dsx_cons ?_
  refine dsx_ret ?_
  refine dex_call r_turn_by gd (hr.mono (by decide)) ?_
  refine dax_of ?_
  refine da_cons ?_
  refine de_call c__legs_along gd (hr.mono (by decide)) ?_
  refine da_cons ?_
  refine de_name 0 ?_
  refine da_nil ?_
  refine ⟨l, 50, rfl, few_bw hK hl, ?_⟩
  refine da_nil ?_
  refine ⟨_, _, _, t.1, t.2.1, t.2.2, 1, rfl, ⟨by rw [Int.one_mul]; exact congrArg Prod.fst hpr, by rw [Int.one_mul]; exact congrArg (fun z => z.2.1) hpr, by rw [Int.one_mul]; exact congrArg (fun z => z.2.2) hpr⟩, hTT, by decide, by unfold Bd; decide, hbig, ?_⟩
  · exact qq
theorem ok_product {f : Addr} {fd : FuncData} (F : Fun K "product" "product" s_product f fd) {C_InvalidWay C_TooLarge : Addr} (c__legs_along : Cal P w K mg base 2 "_legs_along" ["way"] [] con_legal) (c_turn_by : Cal P w K mg base 1 "turn_by" ["legs"] [] con_turn_by) (r_check_way : CalX P w K mg base 7 "check_way" ["way"] [] (con_chkwX K C_InvalidWay)) (r_turn_by : CalX P w K mg base 2 "turn_by" ["legs"] [] (con_turnR C_TooLarge)) : GOkX P w K mg base 8 f fd ["way"] (spDX K (con1W K C_InvalidWay (con_prodX C_TooLarge))) := gokx_two (ok_product_w0 F c__legs_along c_turn_by r_check_way) (ok_product_w1 F c__legs_along r_check_way r_turn_by) con1W_or
abbrev s_shows_way : Stmt := top 40
theorem sc_shows_way : FnScope ["turn", "value"] ["turn", "value"] (defScope s_shows_way) := ⟨rfl, rfl, rfl, by decide +kernel, rfl, by decide +kernel, by decide +kernel⟩
set_option maxHeartbeats 40000000 in
theorem ok_shows_way {f : Addr} {fd : FuncData} (F : Fun K "shows_way" "shows_way" s_shows_way f fd) {C_InvalidTurn : Addr} (c__legs_along : Cal P w K mg base 2 "_legs_along" ["way"] [] con_legal) (c_is_way : Cal P w K mg base 7 "is_way" ["value"] [] (con_iswA K)) (c_legs_of : Cal P w K mg base 5 "legs_of" ["turn"] [] con_legs_of) (r_check_turn : CalX P w K mg base 4 "check_turn" ["turn"] [] (con_chkX K turnB C_InvalidTurn)) : GOkX P w K mg base 8 f fd ["turn", "value"] (spDX K (con_showX K C_InvalidTurn)) := by
  refine gokx_ds F sc_shows_way (m := 0) rfl (fun ds S0 Q R h => ?_) fun cdv A fr s0 H0 E0' gd hr ds S0 Q R h => ?_
  · obtain ⟨_, _, rfl, _⟩ := h
    rfl
  obtain ⟨d1, d2, rfl, ⟨a1, a2⟩, hF, q1, q3⟩ := h
  refine dsx_nrm ?_ (by set_option simprocs false in dsimp only [List.map, List.replicate, List.cons_append, List.nil_append])
  refine dsx_cons ?_
  refine dsx_expr ?_
  refine dex_call r_check_turn gd (hr.mono (by decide)) ?_
  refine dax_of ?_
  refine da_cons ?_
  refine de_name 0 ?_
  refine da_nil ?_
  refine ⟨_, rfl, (by assumption), fun hn1 => ?_, fun hq1 => ?_⟩
  · exact q1 (by assumption)
  have qq := q3 (by assumption)
  obtain ⟨p, q, k, rfl, hT⟩ := turnB_tn (d := d1) (by assumption)
  refine dsx_cons ?_
  refine dsx_ret ?_
  refine dex_of ?_
  refine de_and ?_
  refine de_call c_is_way gd (hr.mono (by decide)) ?_
  refine da_cons ?_
  refine de_name 1 ?_
  refine da_nil ?_
  refine ⟨_, rfl, (by assumption), ?_⟩
  refine ⟨_, rfl, fun hb => ?_, fun hb => ?_⟩
  · exact qq _
  obtain ⟨l, rfl, hK, hl⟩ := hF (wayB_E.mp hb)
  refine de_one ?_
  refine de_eq (hr.units) ?_
  refine de_call c__legs_along gd (hr.mono (by decide)) ?_
  refine da_cons ?_
  refine de_name 1 ?_
  refine da_nil ?_
  refine ⟨l, 50, rfl, few_bw hK hl, ?_⟩
  refine de_call c_legs_of gd (hr.mono (by decide)) ?_
  refine da_cons ?_
  refine de_name 0 ?_
  refine da_nil ?_
  refine ⟨_, _, _, rfl, hT, ?_⟩
  refine eq_t3 fun v9 hv9 => ?_
  exact qq _
abbrev s__law_road : Stmt := top 53
theorem sc__law_road : FnScope ["_law_source_here", "_law_many", "_law_most", "_law_found", "_law_step_here", "_law_k"] ["_law_source_here", "_law_many", "_law_most"] (defScope s__law_road) := ⟨rfl, rfl, rfl, by decide +kernel, rfl, by decide +kernel, by decide +kernel⟩
set_option maxHeartbeats 40000000 in
theorem ok__law_road {f : Addr} {fd : FuncData} (F : Fun K "_law_road" "_law_road" s__law_road f fd) (c__law_draw : Cal P w K mg base 1 "_law_draw" ["_law_source_here", "_law_count"] [] con_draw) (n_range : mg "range" = none) : GOk P w K mg base 2 f fd ["_law_source_here", "_law_many", "_law_most"] (spD K con_road44) := by
  refine gok_ds F sc__law_road (m := 3) rfl (fun ds S0 Q h => ?_) fun cdv A fr s0 H0 E0' gd hr ds S0 Q h => ?_
  · obtain ⟨_, _, _, _, _, rfl, _⟩ := h
    rfl
  obtain ⟨pp, n, w9, l, m, rfl, hg, hS, hm, ⟨hn0, hn1⟩, hw9, qq⟩ := h
  have bw : Bd 50 w9 := by unfold Bd; omega
  refine ds_nrm ?_ (by set_option simprocs false in dsimp only [List.map, List.replicate, List.cons_append, List.nil_append])
  refine ds_cons ?_
  refine ds_asg (h := ?_)
  refine de_lstO ?_
  refine da_nil ?_
  refine ⟨by walk_at "len", fun p1 hp1 => ?_⟩
  refine dg_name 3 ?_ sc__law_road.nd
  have hne : p1 ≠ pp := fun z => by rw [z, hg] at hp1; cases hp1
  refine ds_cons ?_
  refine ds_forG (γ := Unit) [4, 5] PassesOwn.never rfl ?_
  refine di_rng1 n_range ?_
  refine da_cons ?_
  refine de_name 1 ?_
  refine da_nil ?_
  refine ⟨_, rfl, (by walk_at "rng"), ?_⟩
  refine ⟨fun _ => [], _, fun _ => (by dsimp only [putU, fgt, List.set]), fun i _ S' => ∃ (ks : List Trn) (l' : List D), S' = (p1, ks.map trD) :: setS pp l' S0 ∧ ks.length = i ∧ (∀ t ∈ ks, KW t ∧ t.1 ≤ 99) ∧ Src (m + 3 * i) l' ∧ getS pp (setS pp l' S0) = some l', (), by walk_at "wk", ⟨[], l, by rw [setS_self hg] <;> rfl, rfl, (fun _ h => nomatch h), hS, by rw [setS_self hg] <;> exact hg⟩, fun i1 d1 g1 S1 hi1 hP1 => ?_, fun g1 S1 hP1 => ?_⟩
  · obtain ⟨ks, l', rfl, hl, hx, hS', hg'⟩ := hP1
    obtain ⟨hi2, rfl⟩ := rngD_get hi1
    have hi3 : (i1 : Int) < 5 := by omega
    refine dg_name 4 ?_ sc__law_road.nd
    refine ds_cons ?_
    refine ds_asg (h := ?_)
    refine de_call c__law_draw gd (hr.mono (by decide)) ?_
    refine da_cons ?_
    refine de_name 0 ?_
    refine da_cons ?_
    refine de_name 2 ?_
    refine da_nil ?_
    refine ⟨_, _, _, _, rfl, (by walk_at "gets"), (by assumption), (by walk_at "m"), (by walk_at "pos"), (by walk_at "bdu"), fun r2 l2 hr2 hn2 hs2 => ?_⟩
    walk_at "sets2"
    refine dg_name 5 ?_ sc__law_road.nd
    refine ds_cons ?_
    refine ds_expr (h := ?_)
    refine de_append ?_
    refine de_name 3 ?_
    refine ⟨_, _, rfl, (by walk_at "gets"), ?_⟩
    refine da_cons ?_
    refine de_tup ?_
    refine da_cons ?_
    refine de_add ?_
    refine de_name 5 ?_
    refine de_int ?_
    first | refine add_int ?_ | refine add_lst ?_ (by walk_at "len") | refine add_tup ?_ (by walk_at "len3") | refine add_scr ?_ (by walk_at "len") | refine (show addP (.str _) (.str _) _ _ from ⟨by decide +kernel, ?_⟩)
    refine da_cons ?_
    refine de_ix (h := ?_)
    refine de_lst ?_
    refine da_cons ?_
    refine de_name 5 ?_
    refine da_cons ?_
    refine de_sub ?_
    refine de_int ?_
    refine de_name 5 ?_
    refine ⟨_, _, rfl, rfl, ?_⟩
    refine da_nil ?_
    refine ⟨by walk_at "len", ?_⟩
    refine de_call c__law_draw gd (hr.mono (by decide)) ?_
    refine da_cons ?_
    refine de_name 0 ?_
    refine da_cons ?_
    refine de_int ?_
    refine da_nil ?_
    refine ⟨_, _, _, _, rfl, (by walk_at "gets"), (by assumption), (by walk_at "m"), (by walk_at "pos"), (by walk_at "bdu"), fun r3 l3 hr3 hn3 hs3 => ?_⟩
    walk_at "sets2"
    refine ix_pick (fun d => ∃ m : Int, d = .int m ∧ (m = r2 ∨ m = 0 - r2)) (fa_cons ⟨_, rfl, .inl rfl⟩ (fa_cons ⟨_, rfl, .inr rfl⟩ fa_nil)) (by omega) (by show _ < (2 : Int); omega) ?_
    rintro _ ⟨mq, rfl, hmq⟩
    refine da_cons ?_
    refine de_call c__law_draw gd (hr.mono (by decide)) ?_
    refine da_cons ?_
    refine de_name 0 ?_
    refine da_cons ?_
    refine de_int ?_
    refine da_nil ?_
    refine ⟨_, _, _, _, rfl, (by walk_at "gets"), (by assumption), (by walk_at "m"), (by walk_at "pos"), (by walk_at "bdu"), fun r4 l4 hr4 hn4 hs4 => ?_⟩
    walk_at "sets2"
    refine da_nil ?_
    refine ⟨by walk_at "len", ?_⟩
    refine da_nil ?_
    refine ⟨_, _, rfl, (by walk_at "gets"), (by walk_at "len"), ?_⟩
    walk_at "sets"
    refine ds_nil ?_
    have hkk := keep_mk (r := r2) (k := r4) (by omega) (by omega) ⟨by omega, by omega⟩
    exact ⟨(), by walk_at "wk", ks ++ [(r2 + 1, mq, r4)], l4, by rw [List.map_append] <;> rfl, by rw [List.length_append, hl] <;> rfl, fun t z => by rcases List.mem_append.mp z with z | z; exact hx t z; (have z := List.mem_singleton.mp z; subst z; rcases hmq with e | e; (· rw [e]; exact ⟨hkk.1, by show r2 + 1 ≤ 99; omega⟩); (· rw [e]; exact ⟨hkk.2, by show r2 + 1 ≤ 99; omega⟩)), (by assumption : Src _ _).up (by omega), getS_setS_same hg⟩
  obtain ⟨ks, l', rfl, hl, hx, hS', hg'⟩ := hP1
  rw [rngD_len] at hl hS'
  refine ds_freeze 3 rfl (ds_nrm ?_) rfl
  refine ds_cons ?_
  refine ds_ret ?_
  refine de_name 3 ?_
  exact qq ks l' ⟨fun t z => (hx t z).1, fun t z => (hx t z).2, by omega⟩ (hS'.up (by omega))
abbrev s__law_fault : Stmt := top 55
theorem sc__law_fault : FnScope ["_law_e", "_law_flags", "_law_words", "_law_word"] ["_law_e"] (defScope s__law_fault) := ⟨rfl, rfl, rfl, by decide +kernel, rfl, by decide +kernel, by decide +kernel⟩
set_option maxHeartbeats 40000000 in
theorem okh__law_fault__InvalidTurn {f : Addr} {fd : FuncData} (F : Fun K "_law_fault" "_law_fault" s__law_fault f fd) {C_InvalidLegs C_InvalidNumber C_InvalidPixel C_InvalidPixels C_InvalidScale C_InvalidSix C_InvalidTurn C_InvalidWay C_TooLarge C_TurnError fI_InvalidPixels fI_InvalidWay fI_TooLarge : Addr} (k_InvalidTurn__InvalidLegs : PySem.W.kitOne K (.ref C_InvalidTurn) (.ref C_InvalidLegs) = some false) (k_InvalidTurn__InvalidNumber : PySem.W.kitOne K (.ref C_InvalidTurn) (.ref C_InvalidNumber) = some false) (k_InvalidTurn__InvalidPixel : PySem.W.kitOne K (.ref C_InvalidTurn) (.ref C_InvalidPixel) = some false) (k_InvalidTurn__InvalidPixels : PySem.W.kitOne K (.ref C_InvalidTurn) (.ref C_InvalidPixels) = some false) (k_InvalidTurn__InvalidScale : PySem.W.kitOne K (.ref C_InvalidTurn) (.ref C_InvalidScale) = some false) (k_InvalidTurn__InvalidSix : PySem.W.kitOne K (.ref C_InvalidTurn) (.ref C_InvalidSix) = some false) (k_InvalidTurn__InvalidTurn : PySem.W.kitOne K (.ref C_InvalidTurn) (.ref C_InvalidTurn) = some true) (k_InvalidTurn__InvalidWay : PySem.W.kitOne K (.ref C_InvalidTurn) (.ref C_InvalidWay) = some false) (k_InvalidTurn__TooLarge : PySem.W.kitOne K (.ref C_InvalidTurn) (.ref C_TooLarge) = some false) (k_InvalidTurn__TurnError : PySem.W.kitOne K (.ref C_InvalidTurn) (.ref C_TurnError) = some true) (k_InvalidTurn__t_ValueError : PySem.W.kitOne K (.ref C_InvalidTurn) (.type "ValueError") = some true) (l_InvalidPixels : PySem.LimX.LimTxt P K mg "InvalidPixels" "InvalidPixels.__init__" "index" "no picture, wrong at " C_InvalidPixels fI_InvalidPixels) (l_InvalidWay : PySem.LimX.LimTxt P K mg "InvalidWay" "InvalidWay.__init__" "index" "no way, wrong at " C_InvalidWay fI_InvalidWay) (l_TooLarge : PySem.LimX.LimTxt P K mg "TooLarge" "TooLarge.__init__" "limit" "greater than " C_TooLarge fI_TooLarge) (n_ValueError : mg "ValueError" = none) (n_isinstance : mg "isinstance" = none) (o_InvalidLegs : OwnErr K mg "InvalidLegs" C_InvalidLegs) (o_InvalidNumber : OwnErr K mg "InvalidNumber" C_InvalidNumber) (o_InvalidPixel : OwnErr K mg "InvalidPixel" C_InvalidPixel) (o_InvalidScale : OwnErr K mg "InvalidScale" C_InvalidScale) (o_InvalidSix : OwnErr K mg "InvalidSix" C_InvalidSix) (o_InvalidTurn : OwnErr K mg "InvalidTurn" C_InvalidTurn) (o_TurnError : OwnErr K mg "TurnError" C_TurnError) (x_InvalidTurn : L2.ExcC K C_InvalidTurn) : GOkE P w K mg base 1 f fd ["_law_e"] (spE K (con_faultN K C_InvalidTurn "spin")) := by
  refine gokE_ds F sc__law_fault (m := 3) rfl (fun p9 ds S0 Q h => ?_) fun cdv A fr s0 H0 E0' p9 hr ds S0 Q h => ?_
  · obtain ⟨_, rfl, _⟩ := h
    rfl
  obtain ⟨d9, rfl, hz9, hf9, qq⟩ := h
  have hpn : p9 ∈ (L2H.cxH CX0 P w K mg base ["_law_e", "_law_flags", "_law_words", "_law_word"] "_law_fault" (defScope s__law_fault) f cdv A fr s0 H0 E0' p9).nox.pn := List.mem_singleton.mpr rfl
  refine ds_nrm ?_ (by set_option simprocs false in dsimp only [List.map, List.replicate, List.cons_append, List.nil_append])
  refine ds_cons ?_
  refine ds_asg (h := ?_)
  refine de_lst ?_
  refine da_cons ?_
  refine de_B (call_isP x_InvalidTurn hpn hz9 hf9) n_isinstance bt_isinstance ?_
  refine da_cons ?_
  refine de_name 0 ?_
  refine da_cons ?_
  refine de_glob (v := .ref C_InvalidTurn) o_InvalidTurn.gC rfl ?_
  refine da_nil ?_
  refine drc_isP (.own _) k_InvalidTurn__InvalidTurn ?_
  refine da_cons ?_
  refine de_B (call_isP x_InvalidTurn hpn hz9 hf9) n_isinstance bt_isinstance ?_
  refine da_cons ?_
  refine de_name 0 ?_
  refine da_cons ?_
  refine de_glob (v := .ref C_InvalidPixel) o_InvalidPixel.gC rfl ?_
  refine da_nil ?_
  refine drc_isP (.own _) k_InvalidTurn__InvalidPixel ?_
  refine da_cons ?_
  refine de_B (call_isP x_InvalidTurn hpn hz9 hf9) n_isinstance bt_isinstance ?_
  refine da_cons ?_
  refine de_name 0 ?_
  refine da_cons ?_
  refine de_glob (v := .ref C_InvalidWay) l_InvalidWay.gC rfl ?_
  refine da_nil ?_
  refine drc_isP (.own _) k_InvalidTurn__InvalidWay ?_
  refine da_nil ?_
  refine ⟨by walk_at "len", ?_⟩
  refine dg_name 1 ?_ sc__law_fault.nd
  refine ds_cons ?_
  refine ds_asg (h := ?_)
  refine de_add ?_
  refine de_name 1 ?_
  refine de_lst ?_
  refine da_cons ?_
  refine de_B (call_isP x_InvalidTurn hpn hz9 hf9) n_isinstance bt_isinstance ?_
  refine da_cons ?_
  refine de_name 0 ?_
  refine da_cons ?_
  refine de_glob (v := .ref C_TooLarge) l_TooLarge.gC rfl ?_
  refine da_nil ?_
  refine drc_isP (.own _) k_InvalidTurn__TooLarge ?_
  refine da_cons ?_
  refine de_B (call_isP x_InvalidTurn hpn hz9 hf9) n_isinstance bt_isinstance ?_
  refine da_cons ?_
  refine de_name 0 ?_
  refine da_cons ?_
  refine de_glob (v := .ref C_InvalidLegs) o_InvalidLegs.gC rfl ?_
  refine da_nil ?_
  refine drc_isP (.own _) k_InvalidTurn__InvalidLegs ?_
  refine da_cons ?_
  refine de_B (call_isP x_InvalidTurn hpn hz9 hf9) n_isinstance bt_isinstance ?_
  refine da_cons ?_
  refine de_name 0 ?_
  refine da_cons ?_
  refine de_glob (v := .ref C_InvalidPixels) l_InvalidPixels.gC rfl ?_
  refine da_nil ?_
  refine drc_isP (.own _) k_InvalidTurn__InvalidPixels ?_
  refine da_nil ?_
  refine ⟨by walk_at "len", ?_⟩
  first | refine add_int ?_ | refine add_lst ?_ (by walk_at "len") | refine add_tup ?_ (by walk_at "len3") | refine add_scr ?_ (by walk_at "len") | refine (show addP (.str _) (.str _) _ _ from ⟨by decide +kernel, ?_⟩)
  refine dg_name 1 ?_ sc__law_fault.nd
  refine ds_cons ?_
  refine ds_asg (h := ?_)
  refine de_add ?_
  refine de_name 1 ?_
  refine de_lst ?_
  refine da_cons ?_
  refine de_B (call_isP x_InvalidTurn hpn hz9 hf9) n_isinstance bt_isinstance ?_
  refine da_cons ?_
  refine de_name 0 ?_
  refine da_cons ?_
  refine de_glob (v := .ref C_InvalidNumber) o_InvalidNumber.gC rfl ?_
  refine da_nil ?_
  refine drc_isP (.own _) k_InvalidTurn__InvalidNumber ?_
  refine da_cons ?_
  refine de_B (call_isP x_InvalidTurn hpn hz9 hf9) n_isinstance bt_isinstance ?_
  refine da_cons ?_
  refine de_name 0 ?_
  refine da_cons ?_
  refine de_glob (v := .ref C_InvalidScale) o_InvalidScale.gC rfl ?_
  refine da_nil ?_
  refine drc_isP (.own _) k_InvalidTurn__InvalidScale ?_
  refine da_cons ?_
  refine de_B (call_isP x_InvalidTurn hpn hz9 hf9) n_isinstance bt_isinstance ?_
  refine da_cons ?_
  refine de_name 0 ?_
  refine da_cons ?_
  refine de_glob (v := .ref C_InvalidSix) o_InvalidSix.gC rfl ?_
  refine da_nil ?_
  refine drc_isP (.own _) k_InvalidTurn__InvalidSix ?_
  refine da_nil ?_
  refine ⟨by walk_at "len", ?_⟩
  first | refine add_int ?_ | refine add_lst ?_ (by walk_at "len") | refine add_tup ?_ (by walk_at "len3") | refine add_scr ?_ (by walk_at "len") | refine (show addP (.str _) (.str _) _ _ from ⟨by decide +kernel, ?_⟩)
  refine dg_name 1 ?_ sc__law_fault.nd
  refine ds_cons ?_
  refine ds_asg (h := ?_)
  refine de_lst ?_
  refine da_cons ?_
  refine de_str ?_
  refine da_cons ?_
  refine de_str ?_
  refine da_cons ?_
  refine de_str ?_
  refine da_cons ?_
  refine de_str ?_
  refine da_cons ?_
  refine de_str ?_
  refine da_cons ?_
  refine de_str ?_
  refine da_cons ?_
  refine de_str ?_
  refine da_cons ?_
  refine de_str ?_
  refine da_cons ?_
  refine de_str ?_
  refine da_nil ?_
  refine ⟨by walk_at "len", ?_⟩
  refine dg_name 2 ?_ sc__law_fault.nd
  refine ds_cons ?_
  refine ds_if ?_
  refine dt_w ?_
  refine dw_or ?_
  refine dt_ne (hr.units) ?_
  refine de_count (hu65H hr) ?_
  refine de_name 1 ?_
  refine ⟨_, rfl, by walk_at "cfl", by walk_at "cpl", ?_⟩
  refine da_cons ?_
  refine de_bl ?_
  refine da_nil ?_
  refine ⟨_, rfl, rfl, rfl, ?_⟩
  refine de_int ?_
  first | refine eq_int ?_ | refine eq_str ?_
  refine ⟨fun hb => ?_, fun hb => ?_⟩
  · exact absurd hb (by decide +kernel)
  refine dw_or ?_
  refine dt_not ?_
  refine dt_val (h := ?_)
  refine de_B (call_isP x_InvalidTurn hpn hz9 hf9) n_isinstance bt_isinstance ?_
  refine da_cons ?_
  refine de_name 0 ?_
  refine da_cons ?_
  refine de_glob (v := .ref C_TurnError) o_TurnError.gC rfl ?_
  refine da_nil ?_
  refine drc_isP (.own _) k_InvalidTurn__TurnError ?_
  refine ⟨_, rfl, ?_⟩
  refine ⟨fun hb => ?_, fun hb => ?_⟩
  · cases hb
  refine dw_or1 ?_
  refine dt_not ?_
  refine dt_val (h := ?_)
  refine de_B (call_isP x_InvalidTurn hpn hz9 hf9) n_isinstance bt_isinstance ?_
  refine da_cons ?_
  refine de_name 0 ?_
  refine da_cons ?_
  refine de_ty n_ValueError bt_ValueError ?_
  refine da_nil ?_
  refine drc_isP (.ty _) k_InvalidTurn__t_ValueError ?_
  refine ⟨_, rfl, ?_⟩
  refine ⟨fun ht => ?_, fun ht => ?_⟩
  · cases ht
  refine ds_nil ?_
  refine ds_cons ?_
  refine ds_asg (h := ?_)
  refine de_ix (h := ?_)
  refine de_name 2 ?_
  refine de_index (hu65H hr) ?_
  refine de_name 1 ?_
  refine ⟨_, rfl, by walk_at "cfl", ?_⟩
  refine da_cons ?_
  refine de_bl ?_
  refine da_nil ?_
  refine ⟨_, 0, rfl, rfl, ⟨⟨_, rfl, by decide +kernel⟩, fun m z hm hz => (by omega)⟩, ?_⟩
  walk_at "ix"
  refine dg_name 3 ?_ sc__law_fault.nd
  refine ds_cons ?_
  refine ds_if ?_
  refine dt_eq (hr.units) ?_
  refine de_name 3 ?_
  refine de_str ?_
  first | refine eq_int ?_ | refine eq_str ?_
  refine ⟨fun ht => ?_, fun ht => ?_⟩
  · exact absurd ht (by decide +kernel)
  refine ds_nil ?_
  refine ds_cons ?_
  refine ds_ret ?_
  refine de_ifE ?_
  refine dt_eq (hr.units) ?_
  refine de_name 3 ?_
  refine de_str ?_
  first | refine eq_int ?_ | refine eq_str ?_
  refine ⟨fun ht => ?_, fun ht => ?_⟩
  · exact absurd ht (by decide +kernel)
  refine de_name 3 ?_
  exact qq
set_option maxHeartbeats 40000000 in
theorem okh__law_fault__InvalidPixel {f : Addr} {fd : FuncData} (F : Fun K "_law_fault" "_law_fault" s__law_fault f fd) {C_InvalidLegs C_InvalidNumber C_InvalidPixel C_InvalidPixels C_InvalidScale C_InvalidSix C_InvalidTurn C_InvalidWay C_TooLarge C_TurnError fI_InvalidPixels fI_InvalidWay fI_TooLarge : Addr} (k_InvalidPixel__InvalidLegs : PySem.W.kitOne K (.ref C_InvalidPixel) (.ref C_InvalidLegs) = some false) (k_InvalidPixel__InvalidNumber : PySem.W.kitOne K (.ref C_InvalidPixel) (.ref C_InvalidNumber) = some false) (k_InvalidPixel__InvalidPixel : PySem.W.kitOne K (.ref C_InvalidPixel) (.ref C_InvalidPixel) = some true) (k_InvalidPixel__InvalidPixels : PySem.W.kitOne K (.ref C_InvalidPixel) (.ref C_InvalidPixels) = some false) (k_InvalidPixel__InvalidScale : PySem.W.kitOne K (.ref C_InvalidPixel) (.ref C_InvalidScale) = some false) (k_InvalidPixel__InvalidSix : PySem.W.kitOne K (.ref C_InvalidPixel) (.ref C_InvalidSix) = some false) (k_InvalidPixel__InvalidTurn : PySem.W.kitOne K (.ref C_InvalidPixel) (.ref C_InvalidTurn) = some false) (k_InvalidPixel__InvalidWay : PySem.W.kitOne K (.ref C_InvalidPixel) (.ref C_InvalidWay) = some false) (k_InvalidPixel__TooLarge : PySem.W.kitOne K (.ref C_InvalidPixel) (.ref C_TooLarge) = some false) (k_InvalidPixel__TurnError : PySem.W.kitOne K (.ref C_InvalidPixel) (.ref C_TurnError) = some true) (k_InvalidPixel__t_ValueError : PySem.W.kitOne K (.ref C_InvalidPixel) (.type "ValueError") = some true) (l_InvalidPixels : PySem.LimX.LimTxt P K mg "InvalidPixels" "InvalidPixels.__init__" "index" "no picture, wrong at " C_InvalidPixels fI_InvalidPixels) (l_InvalidWay : PySem.LimX.LimTxt P K mg "InvalidWay" "InvalidWay.__init__" "index" "no way, wrong at " C_InvalidWay fI_InvalidWay) (l_TooLarge : PySem.LimX.LimTxt P K mg "TooLarge" "TooLarge.__init__" "limit" "greater than " C_TooLarge fI_TooLarge) (n_ValueError : mg "ValueError" = none) (n_isinstance : mg "isinstance" = none) (o_InvalidLegs : OwnErr K mg "InvalidLegs" C_InvalidLegs) (o_InvalidNumber : OwnErr K mg "InvalidNumber" C_InvalidNumber) (o_InvalidPixel : OwnErr K mg "InvalidPixel" C_InvalidPixel) (o_InvalidScale : OwnErr K mg "InvalidScale" C_InvalidScale) (o_InvalidSix : OwnErr K mg "InvalidSix" C_InvalidSix) (o_InvalidTurn : OwnErr K mg "InvalidTurn" C_InvalidTurn) (o_TurnError : OwnErr K mg "TurnError" C_TurnError) (x_InvalidPixel : L2.ExcC K C_InvalidPixel) : GOkE P w K mg base 1 f fd ["_law_e"] (spE K (con_faultN K C_InvalidPixel "dot")) := by
  refine gokE_ds F sc__law_fault (m := 3) rfl (fun p9 ds S0 Q h => ?_) fun cdv A fr s0 H0 E0' p9 hr ds S0 Q h => ?_
  · obtain ⟨_, rfl, _⟩ := h
    rfl
  obtain ⟨d9, rfl, hz9, hf9, qq⟩ := h
  have hpn : p9 ∈ (L2H.cxH CX0 P w K mg base ["_law_e", "_law_flags", "_law_words", "_law_word"] "_law_fault" (defScope s__law_fault) f cdv A fr s0 H0 E0' p9).nox.pn := List.mem_singleton.mpr rfl
  refine ds_nrm ?_ (by set_option simprocs false in dsimp only [List.map, List.replicate, List.cons_append, List.nil_append])
  refine ds_cons ?_
  refine ds_asg (h := ?_)
  refine de_lst ?_
  refine da_cons ?_
  refine de_B (call_isP x_InvalidPixel hpn hz9 hf9) n_isinstance bt_isinstance ?_
  refine da_cons ?_
  refine de_name 0 ?_
  refine da_cons ?_
  refine de_glob (v := .ref C_InvalidTurn) o_InvalidTurn.gC rfl ?_
  refine da_nil ?_
  refine drc_isP (.own _) k_InvalidPixel__InvalidTurn ?_
  refine da_cons ?_
  refine de_B (call_isP x_InvalidPixel hpn hz9 hf9) n_isinstance bt_isinstance ?_
  refine da_cons ?_
  refine de_name 0 ?_
  refine da_cons ?_
  refine de_glob (v := .ref C_InvalidPixel) o_InvalidPixel.gC rfl ?_
  refine da_nil ?_
  refine drc_isP (.own _) k_InvalidPixel__InvalidPixel ?_
  refine da_cons ?_
  refine de_B (call_isP x_InvalidPixel hpn hz9 hf9) n_isinstance bt_isinstance ?_
  refine da_cons ?_
  refine de_name 0 ?_
  refine da_cons ?_
  refine de_glob (v := .ref C_InvalidWay) l_InvalidWay.gC rfl ?_
  refine da_nil ?_
  refine drc_isP (.own _) k_InvalidPixel__InvalidWay ?_
  refine da_nil ?_
  refine ⟨by walk_at "len", ?_⟩
  refine dg_name 1 ?_ sc__law_fault.nd
  refine ds_cons ?_
  refine ds_asg (h := ?_)
  refine de_add ?_
  refine de_name 1 ?_
  refine de_lst ?_
  refine da_cons ?_
  refine de_B (call_isP x_InvalidPixel hpn hz9 hf9) n_isinstance bt_isinstance ?_
  refine da_cons ?_
  refine de_name 0 ?_
  refine da_cons ?_
  refine de_glob (v := .ref C_TooLarge) l_TooLarge.gC rfl ?_
  refine da_nil ?_
  refine drc_isP (.own _) k_InvalidPixel__TooLarge ?_
  refine da_cons ?_
  refine de_B (call_isP x_InvalidPixel hpn hz9 hf9) n_isinstance bt_isinstance ?_
  refine da_cons ?_
  refine de_name 0 ?_
  refine da_cons ?_
  refine de_glob (v := .ref C_InvalidLegs) o_InvalidLegs.gC rfl ?_
  refine da_nil ?_
  refine drc_isP (.own _) k_InvalidPixel__InvalidLegs ?_
  refine da_cons ?_
  refine de_B (call_isP x_InvalidPixel hpn hz9 hf9) n_isinstance bt_isinstance ?_
  refine da_cons ?_
  refine de_name 0 ?_
  refine da_cons ?_
  refine de_glob (v := .ref C_InvalidPixels) l_InvalidPixels.gC rfl ?_
  refine da_nil ?_
  refine drc_isP (.own _) k_InvalidPixel__InvalidPixels ?_
  refine da_nil ?_
  refine ⟨by walk_at "len", ?_⟩
  first | refine add_int ?_ | refine add_lst ?_ (by walk_at "len") | refine add_tup ?_ (by walk_at "len3") | refine add_scr ?_ (by walk_at "len") | refine (show addP (.str _) (.str _) _ _ from ⟨by decide +kernel, ?_⟩)
  refine dg_name 1 ?_ sc__law_fault.nd
  refine ds_cons ?_
  refine ds_asg (h := ?_)
  refine de_add ?_
  refine de_name 1 ?_
  refine de_lst ?_
  refine da_cons ?_
  refine de_B (call_isP x_InvalidPixel hpn hz9 hf9) n_isinstance bt_isinstance ?_
  refine da_cons ?_
  refine de_name 0 ?_
  refine da_cons ?_
  refine de_glob (v := .ref C_InvalidNumber) o_InvalidNumber.gC rfl ?_
  refine da_nil ?_
  refine drc_isP (.own _) k_InvalidPixel__InvalidNumber ?_
  refine da_cons ?_
  refine de_B (call_isP x_InvalidPixel hpn hz9 hf9) n_isinstance bt_isinstance ?_
  refine da_cons ?_
  refine de_name 0 ?_
  refine da_cons ?_
  refine de_glob (v := .ref C_InvalidScale) o_InvalidScale.gC rfl ?_
  refine da_nil ?_
  refine drc_isP (.own _) k_InvalidPixel__InvalidScale ?_
  refine da_cons ?_
  refine de_B (call_isP x_InvalidPixel hpn hz9 hf9) n_isinstance bt_isinstance ?_
  refine da_cons ?_
  refine de_name 0 ?_
  refine da_cons ?_
  refine de_glob (v := .ref C_InvalidSix) o_InvalidSix.gC rfl ?_
  refine da_nil ?_
  refine drc_isP (.own _) k_InvalidPixel__InvalidSix ?_
  refine da_nil ?_
  refine ⟨by walk_at "len", ?_⟩
  first | refine add_int ?_ | refine add_lst ?_ (by walk_at "len") | refine add_tup ?_ (by walk_at "len3") | refine add_scr ?_ (by walk_at "len") | refine (show addP (.str _) (.str _) _ _ from ⟨by decide +kernel, ?_⟩)
  refine dg_name 1 ?_ sc__law_fault.nd
  refine ds_cons ?_
  refine ds_asg (h := ?_)
  refine de_lst ?_
  refine da_cons ?_
  refine de_str ?_
  refine da_cons ?_
  refine de_str ?_
  refine da_cons ?_
  refine de_str ?_
  refine da_cons ?_
  refine de_str ?_
  refine da_cons ?_
  refine de_str ?_
  refine da_cons ?_
  refine de_str ?_
  refine da_cons ?_
  refine de_str ?_
  refine da_cons ?_
  refine de_str ?_
  refine da_cons ?_
  refine de_str ?_
  refine da_nil ?_
  refine ⟨by walk_at "len", ?_⟩
  refine dg_name 2 ?_ sc__law_fault.nd
  refine ds_cons ?_
  refine ds_if ?_
  refine dt_w ?_
  refine dw_or ?_
  refine dt_ne (hr.units) ?_
  refine de_count (hu65H hr) ?_
  refine de_name 1 ?_
  refine ⟨_, rfl, by walk_at "cfl", by walk_at "cpl", ?_⟩
  refine da_cons ?_
  refine de_bl ?_
  refine da_nil ?_
  refine ⟨_, rfl, rfl, rfl, ?_⟩
  refine de_int ?_
  first | refine eq_int ?_ | refine eq_str ?_
  refine ⟨fun hb => ?_, fun hb => ?_⟩
  · exact absurd hb (by decide +kernel)
  refine dw_or ?_
  refine dt_not ?_
  refine dt_val (h := ?_)
  refine de_B (call_isP x_InvalidPixel hpn hz9 hf9) n_isinstance bt_isinstance ?_
  refine da_cons ?_
  refine de_name 0 ?_
  refine da_cons ?_
  refine de_glob (v := .ref C_TurnError) o_TurnError.gC rfl ?_
  refine da_nil ?_
  refine drc_isP (.own _) k_InvalidPixel__TurnError ?_
  refine ⟨_, rfl, ?_⟩
  refine ⟨fun hb => ?_, fun hb => ?_⟩
  · cases hb
  refine dw_or1 ?_
  refine dt_not ?_
  refine dt_val (h := ?_)
  refine de_B (call_isP x_InvalidPixel hpn hz9 hf9) n_isinstance bt_isinstance ?_
  refine da_cons ?_
  refine de_name 0 ?_
  refine da_cons ?_
  refine de_ty n_ValueError bt_ValueError ?_
  refine da_nil ?_
  refine drc_isP (.ty _) k_InvalidPixel__t_ValueError ?_
  refine ⟨_, rfl, ?_⟩
  refine ⟨fun ht => ?_, fun ht => ?_⟩
  · cases ht
  refine ds_nil ?_
  refine ds_cons ?_
  refine ds_asg (h := ?_)
  refine de_ix (h := ?_)
  refine de_name 2 ?_
  refine de_index (hu65H hr) ?_
  refine de_name 1 ?_
  refine ⟨_, rfl, by walk_at "cfl", ?_⟩
  refine da_cons ?_
  refine de_bl ?_
  refine da_nil ?_
  refine ⟨_, 1, rfl, rfl, ⟨⟨_, rfl, by decide +kernel⟩, fun m z hm hz => (by rcases m with _ | m <;> first | (cases hz; decide +kernel) | omega)⟩, ?_⟩
  walk_at "ix"
  refine dg_name 3 ?_ sc__law_fault.nd
  refine ds_cons ?_
  refine ds_if ?_
  refine dt_eq (hr.units) ?_
  refine de_name 3 ?_
  refine de_str ?_
  first | refine eq_int ?_ | refine eq_str ?_
  refine ⟨fun ht => ?_, fun ht => ?_⟩
  · exact absurd ht (by decide +kernel)
  refine ds_nil ?_
  refine ds_cons ?_
  refine ds_ret ?_
  refine de_ifE ?_
  refine dt_eq (hr.units) ?_
  refine de_name 3 ?_
  refine de_str ?_
  first | refine eq_int ?_ | refine eq_str ?_
  refine ⟨fun ht => ?_, fun ht => ?_⟩
  · exact absurd ht (by decide +kernel)
  refine de_name 3 ?_
  exact qq
set_option maxHeartbeats 40000000 in
theorem okh__law_fault__InvalidWay {f : Addr} {fd : FuncData} (F : Fun K "_law_fault" "_law_fault" s__law_fault f fd) {C_InvalidLegs C_InvalidNumber C_InvalidPixel C_InvalidPixels C_InvalidScale C_InvalidSix C_InvalidTurn C_InvalidWay C_TooLarge C_TurnError fI_InvalidPixels fI_InvalidWay fI_TooLarge : Addr} (k_InvalidWay__InvalidLegs : PySem.W.kitOne K (.ref C_InvalidWay) (.ref C_InvalidLegs) = some false) (k_InvalidWay__InvalidNumber : PySem.W.kitOne K (.ref C_InvalidWay) (.ref C_InvalidNumber) = some false) (k_InvalidWay__InvalidPixel : PySem.W.kitOne K (.ref C_InvalidWay) (.ref C_InvalidPixel) = some false) (k_InvalidWay__InvalidPixels : PySem.W.kitOne K (.ref C_InvalidWay) (.ref C_InvalidPixels) = some false) (k_InvalidWay__InvalidScale : PySem.W.kitOne K (.ref C_InvalidWay) (.ref C_InvalidScale) = some false) (k_InvalidWay__InvalidSix : PySem.W.kitOne K (.ref C_InvalidWay) (.ref C_InvalidSix) = some false) (k_InvalidWay__InvalidTurn : PySem.W.kitOne K (.ref C_InvalidWay) (.ref C_InvalidTurn) = some false) (k_InvalidWay__InvalidWay : PySem.W.kitOne K (.ref C_InvalidWay) (.ref C_InvalidWay) = some true) (k_InvalidWay__TooLarge : PySem.W.kitOne K (.ref C_InvalidWay) (.ref C_TooLarge) = some false) (k_InvalidWay__TurnError : PySem.W.kitOne K (.ref C_InvalidWay) (.ref C_TurnError) = some true) (k_InvalidWay__t_ValueError : PySem.W.kitOne K (.ref C_InvalidWay) (.type "ValueError") = some true) (l_InvalidPixels : PySem.LimX.LimTxt P K mg "InvalidPixels" "InvalidPixels.__init__" "index" "no picture, wrong at " C_InvalidPixels fI_InvalidPixels) (l_InvalidWay : PySem.LimX.LimTxt P K mg "InvalidWay" "InvalidWay.__init__" "index" "no way, wrong at " C_InvalidWay fI_InvalidWay) (l_TooLarge : PySem.LimX.LimTxt P K mg "TooLarge" "TooLarge.__init__" "limit" "greater than " C_TooLarge fI_TooLarge) (n_ValueError : mg "ValueError" = none) (n_isinstance : mg "isinstance" = none) (o_InvalidLegs : OwnErr K mg "InvalidLegs" C_InvalidLegs) (o_InvalidNumber : OwnErr K mg "InvalidNumber" C_InvalidNumber) (o_InvalidPixel : OwnErr K mg "InvalidPixel" C_InvalidPixel) (o_InvalidScale : OwnErr K mg "InvalidScale" C_InvalidScale) (o_InvalidSix : OwnErr K mg "InvalidSix" C_InvalidSix) (o_InvalidTurn : OwnErr K mg "InvalidTurn" C_InvalidTurn) (o_TurnError : OwnErr K mg "TurnError" C_TurnError) (x_InvalidWay : L2.ExcC K C_InvalidWay) : GOkE P w K mg base 1 f fd ["_law_e"] (spE K (con_faultV K C_InvalidWay "index" "road")) := by
  refine gokE_ds F sc__law_fault (m := 3) rfl (fun p9 ds S0 Q h => ?_) fun cdv A fr s0 H0 E0' p9 hr ds S0 Q h => ?_
  · obtain ⟨_, _, rfl, _⟩ := h
    rfl
  obtain ⟨v9, d9, rfl, hz9, hf9, qq⟩ := h
  have hpn : p9 ∈ (L2H.cxH CX0 P w K mg base ["_law_e", "_law_flags", "_law_words", "_law_word"] "_law_fault" (defScope s__law_fault) f cdv A fr s0 H0 E0' p9).nox.pn := List.mem_singleton.mpr rfl
  refine ds_nrm ?_ (by set_option simprocs false in dsimp only [List.map, List.replicate, List.cons_append, List.nil_append])
  refine ds_cons ?_
  refine ds_asg (h := ?_)
  refine de_lst ?_
  refine da_cons ?_
  refine de_B (call_isP x_InvalidWay hpn hz9 hf9) n_isinstance bt_isinstance ?_
  refine da_cons ?_
  refine de_name 0 ?_
  refine da_cons ?_
  refine de_glob (v := .ref C_InvalidTurn) o_InvalidTurn.gC rfl ?_
  refine da_nil ?_
  refine drc_isP (.own _) k_InvalidWay__InvalidTurn ?_
  refine da_cons ?_
  refine de_B (call_isP x_InvalidWay hpn hz9 hf9) n_isinstance bt_isinstance ?_
  refine da_cons ?_
  refine de_name 0 ?_
  refine da_cons ?_
  refine de_glob (v := .ref C_InvalidPixel) o_InvalidPixel.gC rfl ?_
  refine da_nil ?_
  refine drc_isP (.own _) k_InvalidWay__InvalidPixel ?_
  refine da_cons ?_
  refine de_B (call_isP x_InvalidWay hpn hz9 hf9) n_isinstance bt_isinstance ?_
  refine da_cons ?_
  refine de_name 0 ?_
  refine da_cons ?_
  refine de_glob (v := .ref C_InvalidWay) l_InvalidWay.gC rfl ?_
  refine da_nil ?_
  refine drc_isP (.own _) k_InvalidWay__InvalidWay ?_
  refine da_nil ?_
  refine ⟨by walk_at "len", ?_⟩
  refine dg_name 1 ?_ sc__law_fault.nd
  refine ds_cons ?_
  refine ds_asg (h := ?_)
  refine de_add ?_
  refine de_name 1 ?_
  refine de_lst ?_
  refine da_cons ?_
  refine de_B (call_isP x_InvalidWay hpn hz9 hf9) n_isinstance bt_isinstance ?_
  refine da_cons ?_
  refine de_name 0 ?_
  refine da_cons ?_
  refine de_glob (v := .ref C_TooLarge) l_TooLarge.gC rfl ?_
  refine da_nil ?_
  refine drc_isP (.own _) k_InvalidWay__TooLarge ?_
  refine da_cons ?_
  refine de_B (call_isP x_InvalidWay hpn hz9 hf9) n_isinstance bt_isinstance ?_
  refine da_cons ?_
  refine de_name 0 ?_
  refine da_cons ?_
  refine de_glob (v := .ref C_InvalidLegs) o_InvalidLegs.gC rfl ?_
  refine da_nil ?_
  refine drc_isP (.own _) k_InvalidWay__InvalidLegs ?_
  refine da_cons ?_
  refine de_B (call_isP x_InvalidWay hpn hz9 hf9) n_isinstance bt_isinstance ?_
  refine da_cons ?_
  refine de_name 0 ?_
  refine da_cons ?_
  refine de_glob (v := .ref C_InvalidPixels) l_InvalidPixels.gC rfl ?_
  refine da_nil ?_
  refine drc_isP (.own _) k_InvalidWay__InvalidPixels ?_
  refine da_nil ?_
  refine ⟨by walk_at "len", ?_⟩
  first | refine add_int ?_ | refine add_lst ?_ (by walk_at "len") | refine add_tup ?_ (by walk_at "len3") | refine add_scr ?_ (by walk_at "len") | refine (show addP (.str _) (.str _) _ _ from ⟨by decide +kernel, ?_⟩)
  refine dg_name 1 ?_ sc__law_fault.nd
  refine ds_cons ?_
  refine ds_asg (h := ?_)
  refine de_add ?_
  refine de_name 1 ?_
  refine de_lst ?_
  refine da_cons ?_
  refine de_B (call_isP x_InvalidWay hpn hz9 hf9) n_isinstance bt_isinstance ?_
  refine da_cons ?_
  refine de_name 0 ?_
  refine da_cons ?_
  refine de_glob (v := .ref C_InvalidNumber) o_InvalidNumber.gC rfl ?_
  refine da_nil ?_
  refine drc_isP (.own _) k_InvalidWay__InvalidNumber ?_
  refine da_cons ?_
  refine de_B (call_isP x_InvalidWay hpn hz9 hf9) n_isinstance bt_isinstance ?_
  refine da_cons ?_
  refine de_name 0 ?_
  refine da_cons ?_
  refine de_glob (v := .ref C_InvalidScale) o_InvalidScale.gC rfl ?_
  refine da_nil ?_
  refine drc_isP (.own _) k_InvalidWay__InvalidScale ?_
  refine da_cons ?_
  refine de_B (call_isP x_InvalidWay hpn hz9 hf9) n_isinstance bt_isinstance ?_
  refine da_cons ?_
  refine de_name 0 ?_
  refine da_cons ?_
  refine de_glob (v := .ref C_InvalidSix) o_InvalidSix.gC rfl ?_
  refine da_nil ?_
  refine drc_isP (.own _) k_InvalidWay__InvalidSix ?_
  refine da_nil ?_
  refine ⟨by walk_at "len", ?_⟩
  first | refine add_int ?_ | refine add_lst ?_ (by walk_at "len") | refine add_tup ?_ (by walk_at "len3") | refine add_scr ?_ (by walk_at "len") | refine (show addP (.str _) (.str _) _ _ from ⟨by decide +kernel, ?_⟩)
  refine dg_name 1 ?_ sc__law_fault.nd
  refine ds_cons ?_
  refine ds_asg (h := ?_)
  refine de_lst ?_
  refine da_cons ?_
  refine de_str ?_
  refine da_cons ?_
  refine de_str ?_
  refine da_cons ?_
  refine de_str ?_
  refine da_cons ?_
  refine de_str ?_
  refine da_cons ?_
  refine de_str ?_
  refine da_cons ?_
  refine de_str ?_
  refine da_cons ?_
  refine de_str ?_
  refine da_cons ?_
  refine de_str ?_
  refine da_cons ?_
  refine de_str ?_
  refine da_nil ?_
  refine ⟨by walk_at "len", ?_⟩
  refine dg_name 2 ?_ sc__law_fault.nd
  refine ds_cons ?_
  refine ds_if ?_
  refine dt_w ?_
  refine dw_or ?_
  refine dt_ne (hr.units) ?_
  refine de_count (hu65H hr) ?_
  refine de_name 1 ?_
  refine ⟨_, rfl, by walk_at "cfl", by walk_at "cpl", ?_⟩
  refine da_cons ?_
  refine de_bl ?_
  refine da_nil ?_
  refine ⟨_, rfl, rfl, rfl, ?_⟩
  refine de_int ?_
  first | refine eq_int ?_ | refine eq_str ?_
  refine ⟨fun hb => ?_, fun hb => ?_⟩
  · exact absurd hb (by decide +kernel)
  refine dw_or ?_
  refine dt_not ?_
  refine dt_val (h := ?_)
  refine de_B (call_isP x_InvalidWay hpn hz9 hf9) n_isinstance bt_isinstance ?_
  refine da_cons ?_
  refine de_name 0 ?_
  refine da_cons ?_
  refine de_glob (v := .ref C_TurnError) o_TurnError.gC rfl ?_
  refine da_nil ?_
  refine drc_isP (.own _) k_InvalidWay__TurnError ?_
  refine ⟨_, rfl, ?_⟩
  refine ⟨fun hb => ?_, fun hb => ?_⟩
  · cases hb
  refine dw_or1 ?_
  refine dt_not ?_
  refine dt_val (h := ?_)
  refine de_B (call_isP x_InvalidWay hpn hz9 hf9) n_isinstance bt_isinstance ?_
  refine da_cons ?_
  refine de_name 0 ?_
  refine da_cons ?_
  refine de_ty n_ValueError bt_ValueError ?_
  refine da_nil ?_
  refine drc_isP (.ty _) k_InvalidWay__t_ValueError ?_
  refine ⟨_, rfl, ?_⟩
  refine ⟨fun ht => ?_, fun ht => ?_⟩
  · cases ht
  refine ds_nil ?_
  refine ds_cons ?_
  refine ds_asg (h := ?_)
  refine de_ix (h := ?_)
  refine de_name 2 ?_
  refine de_index (hu65H hr) ?_
  refine de_name 1 ?_
  refine ⟨_, rfl, by walk_at "cfl", ?_⟩
  refine da_cons ?_
  refine de_bl ?_
  refine da_nil ?_
  refine ⟨_, 2, rfl, rfl, ⟨⟨_, rfl, by decide +kernel⟩, fun m z hm hz => (by rcases m with _ | _ | m <;> first | (cases hz; decide +kernel) | omega)⟩, ?_⟩
  walk_at "ix"
  refine dg_name 3 ?_ sc__law_fault.nd
  refine ds_cons ?_
  refine ds_if ?_
  refine dt_eq (hr.units) ?_
  refine de_name 3 ?_
  refine de_str ?_
  first | refine eq_int ?_ | refine eq_str ?_
  refine ⟨fun ht => ?_, fun ht => ?_⟩
  · refine ds_cons ?_
    refine ds_ret ?_
    refine de_tup ?_
    refine da_cons ?_
    refine de_name 3 ?_
    refine da_cons ?_
    refine de_exfP (dv := v9) (xf_of l_InvalidWay) l_InvalidWay.noN hpn hz9 hf9 ?_
    refine de_name 0 ?_
    refine ⟨rfl, ?_⟩
    refine da_nil ?_
    refine ⟨by walk_at "len", ?_⟩
    exact qq
  · exact absurd ht (by decide +kernel)
set_option maxHeartbeats 40000000 in
theorem okh__law_fault__TooLarge {f : Addr} {fd : FuncData} (F : Fun K "_law_fault" "_law_fault" s__law_fault f fd) {C_InvalidLegs C_InvalidNumber C_InvalidPixel C_InvalidPixels C_InvalidScale C_InvalidSix C_InvalidTurn C_InvalidWay C_TooLarge C_TurnError fI_InvalidPixels fI_InvalidWay fI_TooLarge : Addr} (k_TooLarge__InvalidLegs : PySem.W.kitOne K (.ref C_TooLarge) (.ref C_InvalidLegs) = some false) (k_TooLarge__InvalidNumber : PySem.W.kitOne K (.ref C_TooLarge) (.ref C_InvalidNumber) = some false) (k_TooLarge__InvalidPixel : PySem.W.kitOne K (.ref C_TooLarge) (.ref C_InvalidPixel) = some false) (k_TooLarge__InvalidPixels : PySem.W.kitOne K (.ref C_TooLarge) (.ref C_InvalidPixels) = some false) (k_TooLarge__InvalidScale : PySem.W.kitOne K (.ref C_TooLarge) (.ref C_InvalidScale) = some false) (k_TooLarge__InvalidSix : PySem.W.kitOne K (.ref C_TooLarge) (.ref C_InvalidSix) = some false) (k_TooLarge__InvalidTurn : PySem.W.kitOne K (.ref C_TooLarge) (.ref C_InvalidTurn) = some false) (k_TooLarge__InvalidWay : PySem.W.kitOne K (.ref C_TooLarge) (.ref C_InvalidWay) = some false) (k_TooLarge__TooLarge : PySem.W.kitOne K (.ref C_TooLarge) (.ref C_TooLarge) = some true) (k_TooLarge__TurnError : PySem.W.kitOne K (.ref C_TooLarge) (.ref C_TurnError) = some true) (k_TooLarge__t_ValueError : PySem.W.kitOne K (.ref C_TooLarge) (.type "ValueError") = some true) (l_InvalidPixels : PySem.LimX.LimTxt P K mg "InvalidPixels" "InvalidPixels.__init__" "index" "no picture, wrong at " C_InvalidPixels fI_InvalidPixels) (l_InvalidWay : PySem.LimX.LimTxt P K mg "InvalidWay" "InvalidWay.__init__" "index" "no way, wrong at " C_InvalidWay fI_InvalidWay) (l_TooLarge : PySem.LimX.LimTxt P K mg "TooLarge" "TooLarge.__init__" "limit" "greater than " C_TooLarge fI_TooLarge) (n_ValueError : mg "ValueError" = none) (n_isinstance : mg "isinstance" = none) (o_InvalidLegs : OwnErr K mg "InvalidLegs" C_InvalidLegs) (o_InvalidNumber : OwnErr K mg "InvalidNumber" C_InvalidNumber) (o_InvalidPixel : OwnErr K mg "InvalidPixel" C_InvalidPixel) (o_InvalidScale : OwnErr K mg "InvalidScale" C_InvalidScale) (o_InvalidSix : OwnErr K mg "InvalidSix" C_InvalidSix) (o_InvalidTurn : OwnErr K mg "InvalidTurn" C_InvalidTurn) (o_TurnError : OwnErr K mg "TurnError" C_TurnError) (x_TooLarge : L2.ExcC K C_TooLarge) : GOkE P w K mg base 1 f fd ["_law_e"] (spE K (con_faultP K C_TooLarge "limit" "large")) := by
  refine gokE_ds F sc__law_fault (m := 3) rfl (fun p9 ds S0 Q h => ?_) fun cdv A fr s0 H0 E0' p9 hr ds S0 Q h => ?_
  · obtain ⟨_, _, rfl, _⟩ := h
    rfl
  obtain ⟨i9, d9, rfl, hz9, hf9, qq⟩ := h
  have hpn : p9 ∈ (L2H.cxH CX0 P w K mg base ["_law_e", "_law_flags", "_law_words", "_law_word"] "_law_fault" (defScope s__law_fault) f cdv A fr s0 H0 E0' p9).nox.pn := List.mem_singleton.mpr rfl
  refine ds_nrm ?_ (by set_option simprocs false in dsimp only [List.map, List.replicate, List.cons_append, List.nil_append])
  refine ds_cons ?_
  refine ds_asg (h := ?_)
  refine de_lst ?_
  refine da_cons ?_
  refine de_B (call_isP x_TooLarge hpn hz9 hf9) n_isinstance bt_isinstance ?_
  refine da_cons ?_
  refine de_name 0 ?_
  refine da_cons ?_
  refine de_glob (v := .ref C_InvalidTurn) o_InvalidTurn.gC rfl ?_
  refine da_nil ?_
  refine drc_isP (.own _) k_TooLarge__InvalidTurn ?_
  refine da_cons ?_
  refine de_B (call_isP x_TooLarge hpn hz9 hf9) n_isinstance bt_isinstance ?_
  refine da_cons ?_
  refine de_name 0 ?_
  refine da_cons ?_
  refine de_glob (v := .ref C_InvalidPixel) o_InvalidPixel.gC rfl ?_
  refine da_nil ?_
  refine drc_isP (.own _) k_TooLarge__InvalidPixel ?_
  refine da_cons ?_
  refine de_B (call_isP x_TooLarge hpn hz9 hf9) n_isinstance bt_isinstance ?_
  refine da_cons ?_
  refine de_name 0 ?_
  refine da_cons ?_
  refine de_glob (v := .ref C_InvalidWay) l_InvalidWay.gC rfl ?_
  refine da_nil ?_
  refine drc_isP (.own _) k_TooLarge__InvalidWay ?_
  refine da_nil ?_
  refine ⟨by walk_at "len", ?_⟩
  refine dg_name 1 ?_ sc__law_fault.nd
  refine ds_cons ?_
  refine ds_asg (h := ?_)
  refine de_add ?_
  refine de_name 1 ?_
  refine de_lst ?_
  refine da_cons ?_
  refine de_B (call_isP x_TooLarge hpn hz9 hf9) n_isinstance bt_isinstance ?_
  refine da_cons ?_
  refine de_name 0 ?_
  refine da_cons ?_
  refine de_glob (v := .ref C_TooLarge) l_TooLarge.gC rfl ?_
  refine da_nil ?_
  refine drc_isP (.own _) k_TooLarge__TooLarge ?_
  refine da_cons ?_
  refine de_B (call_isP x_TooLarge hpn hz9 hf9) n_isinstance bt_isinstance ?_
  refine da_cons ?_
  refine de_name 0 ?_
  refine da_cons ?_
  refine de_glob (v := .ref C_InvalidLegs) o_InvalidLegs.gC rfl ?_
  refine da_nil ?_
  refine drc_isP (.own _) k_TooLarge__InvalidLegs ?_
  refine da_cons ?_
  refine de_B (call_isP x_TooLarge hpn hz9 hf9) n_isinstance bt_isinstance ?_
  refine da_cons ?_
  refine de_name 0 ?_
  refine da_cons ?_
  refine de_glob (v := .ref C_InvalidPixels) l_InvalidPixels.gC rfl ?_
  refine da_nil ?_
  refine drc_isP (.own _) k_TooLarge__InvalidPixels ?_
  refine da_nil ?_
  refine ⟨by walk_at "len", ?_⟩
  first | refine add_int ?_ | refine add_lst ?_ (by walk_at "len") | refine add_tup ?_ (by walk_at "len3") | refine add_scr ?_ (by walk_at "len") | refine (show addP (.str _) (.str _) _ _ from ⟨by decide +kernel, ?_⟩)
  refine dg_name 1 ?_ sc__law_fault.nd
  refine ds_cons ?_
  refine ds_asg (h := ?_)
  refine de_add ?_
  refine de_name 1 ?_
  refine de_lst ?_
  refine da_cons ?_
  refine de_B (call_isP x_TooLarge hpn hz9 hf9) n_isinstance bt_isinstance ?_
  refine da_cons ?_
  refine de_name 0 ?_
  refine da_cons ?_
  refine de_glob (v := .ref C_InvalidNumber) o_InvalidNumber.gC rfl ?_
  refine da_nil ?_
  refine drc_isP (.own _) k_TooLarge__InvalidNumber ?_
  refine da_cons ?_
  refine de_B (call_isP x_TooLarge hpn hz9 hf9) n_isinstance bt_isinstance ?_
  refine da_cons ?_
  refine de_name 0 ?_
  refine da_cons ?_
  refine de_glob (v := .ref C_InvalidScale) o_InvalidScale.gC rfl ?_
  refine da_nil ?_
  refine drc_isP (.own _) k_TooLarge__InvalidScale ?_
  refine da_cons ?_
  refine de_B (call_isP x_TooLarge hpn hz9 hf9) n_isinstance bt_isinstance ?_
  refine da_cons ?_
  refine de_name 0 ?_
  refine da_cons ?_
  refine de_glob (v := .ref C_InvalidSix) o_InvalidSix.gC rfl ?_
  refine da_nil ?_
  refine drc_isP (.own _) k_TooLarge__InvalidSix ?_
  refine da_nil ?_
  refine ⟨by walk_at "len", ?_⟩
  first | refine add_int ?_ | refine add_lst ?_ (by walk_at "len") | refine add_tup ?_ (by walk_at "len3") | refine add_scr ?_ (by walk_at "len") | refine (show addP (.str _) (.str _) _ _ from ⟨by decide +kernel, ?_⟩)
  refine dg_name 1 ?_ sc__law_fault.nd
  refine ds_cons ?_
  refine ds_asg (h := ?_)
  refine de_lst ?_
  refine da_cons ?_
  refine de_str ?_
  refine da_cons ?_
  refine de_str ?_
  refine da_cons ?_
  refine de_str ?_
  refine da_cons ?_
  refine de_str ?_
  refine da_cons ?_
  refine de_str ?_
  refine da_cons ?_
  refine de_str ?_
  refine da_cons ?_
  refine de_str ?_
  refine da_cons ?_
  refine de_str ?_
  refine da_cons ?_
  refine de_str ?_
  refine da_nil ?_
  refine ⟨by walk_at "len", ?_⟩
  refine dg_name 2 ?_ sc__law_fault.nd
  refine ds_cons ?_
  refine ds_if ?_
  refine dt_w ?_
  refine dw_or ?_
  refine dt_ne (hr.units) ?_
  refine de_count (hu65H hr) ?_
  refine de_name 1 ?_
  refine ⟨_, rfl, by walk_at "cfl", by walk_at "cpl", ?_⟩
  refine da_cons ?_
  refine de_bl ?_
  refine da_nil ?_
  refine ⟨_, rfl, rfl, rfl, ?_⟩
  refine de_int ?_
  first | refine eq_int ?_ | refine eq_str ?_
  refine ⟨fun hb => ?_, fun hb => ?_⟩
  · exact absurd hb (by decide +kernel)
  refine dw_or ?_
  refine dt_not ?_
  refine dt_val (h := ?_)
  refine de_B (call_isP x_TooLarge hpn hz9 hf9) n_isinstance bt_isinstance ?_
  refine da_cons ?_
  refine de_name 0 ?_
  refine da_cons ?_
  refine de_glob (v := .ref C_TurnError) o_TurnError.gC rfl ?_
  refine da_nil ?_
  refine drc_isP (.own _) k_TooLarge__TurnError ?_
  refine ⟨_, rfl, ?_⟩
  refine ⟨fun hb => ?_, fun hb => ?_⟩
  · cases hb
  refine dw_or1 ?_
  refine dt_not ?_
  refine dt_val (h := ?_)
  refine de_B (call_isP x_TooLarge hpn hz9 hf9) n_isinstance bt_isinstance ?_
  refine da_cons ?_
  refine de_name 0 ?_
  refine da_cons ?_
  refine de_ty n_ValueError bt_ValueError ?_
  refine da_nil ?_
  refine drc_isP (.ty _) k_TooLarge__t_ValueError ?_
  refine ⟨_, rfl, ?_⟩
  refine ⟨fun ht => ?_, fun ht => ?_⟩
  · cases ht
  refine ds_nil ?_
  refine ds_cons ?_
  refine ds_asg (h := ?_)
  refine de_ix (h := ?_)
  refine de_name 2 ?_
  refine de_index (hu65H hr) ?_
  refine de_name 1 ?_
  refine ⟨_, rfl, by walk_at "cfl", ?_⟩
  refine da_cons ?_
  refine de_bl ?_
  refine da_nil ?_
  refine ⟨_, 3, rfl, rfl, ⟨⟨_, rfl, by decide +kernel⟩, fun m z hm hz => (by rcases m with _ | _ | _ | m <;> first | (cases hz; decide +kernel) | omega)⟩, ?_⟩
  walk_at "ix"
  refine dg_name 3 ?_ sc__law_fault.nd
  refine ds_cons ?_
  refine ds_if ?_
  refine dt_eq (hr.units) ?_
  refine de_name 3 ?_
  refine de_str ?_
  first | refine eq_int ?_ | refine eq_str ?_
  refine ⟨fun ht => ?_, fun ht => ?_⟩
  · exact absurd ht (by decide +kernel)
  refine ds_nil ?_
  refine ds_cons ?_
  refine ds_ret ?_
  refine de_ifE ?_
  refine dt_eq (hr.units) ?_
  refine de_name 3 ?_
  refine de_str ?_
  first | refine eq_int ?_ | refine eq_str ?_
  refine ⟨fun ht => ?_, fun ht => ?_⟩
  rotate_left
  · exact absurd ht (by decide +kernel)
  refine de_tup ?_
  refine da_cons ?_
  refine de_name 3 ?_
  refine da_cons ?_
  refine de_exfP (dv := .int i9) (xf_of l_TooLarge) l_TooLarge.noN hpn hz9 hf9 ?_
  refine de_name 0 ?_
  refine ⟨rfl, ?_⟩
  refine da_nil ?_
  refine ⟨by walk_at "len", ?_⟩
  exact qq
abbrev s__law_told : Stmt := top 56
theorem sc__law_told : FnScope ["_law_door", "_law_one", "_law_two", "_law_kept", "_law_told_here", "_law_e"] ["_law_door", "_law_one", "_law_two"] (defScope s__law_told) := ⟨rfl, rfl, rfl, by decide +kernel, rfl, by decide +kernel, by decide +kernel⟩
set_option maxHeartbeats 40000000 in
theorem ok__law_told_w0 {f : Addr} {fd : FuncData} (F : Fun K "_law_told" "_law_told" s__law_told f fd) {C_InvalidTurn C_InvalidWay C_TooLarge C_TurnError : Addr} (c_is_way : Cal P w K mg base 7 "is_way" ["value"] [] (con_iswA K)) (n_repr : mg "repr" = none) (o_TurnError : OwnErr K mg "TurnError" C_TurnError) (r_product : CalX P w K mg base 8 "product" ["way"] [] (con1W K C_InvalidWay (con_prodX C_TooLarge))) (r_way_bound : CalX P w K mg base 8 "way_bound" ["way"] [] (con1W K C_InvalidWay con_boundA)) (r_way_for : CalX P w K mg base 7 "way_for" ["turn"] [] (con1T K C_InvalidTurn (con_wayfX C_TooLarge))) : GOk P w K mg base 12 f fd ["_law_door", "_law_one", "_law_two"] (spD K (conT44 P w K 0)) := by
  refine gok_ds F sc__law_told (m := 3) rfl (fun ds S0 Q h => ?_) fun cdv A fr s0 H0 E0' gd hr ds S0 Q h => ?_
  · obtain ⟨_, _, _, rfl, _⟩ := h
    rfl
  obtain ⟨a, b, r, rfl, hA, ⟨t0, n0, m0, hsh, hn0, hm0⟩, qq⟩ := h
  refine ds_nrm ?_ (by set_option simprocs false in dsimp only [List.map, List.replicate, List.cons_append, List.nil_append])
  refine ds_cons ?_
  refine ds_par (i := 3) (j := 4) rfl sc__law_told.nd rfl rfl (by decide) ?_
  refine da_cons ?_
  refine de_B (call_reprW gd hr.units) n_repr bt_repr ?_
  refine da_cons ?_
  refine de_lst ?_
  refine da_cons ?_
  refine de_name 1 ?_
  refine da_cons ?_
  refine de_name 2 ?_
  refine da_nil ?_
  refine ⟨by walk_at "len", ?_⟩
  refine da_nil ?_
  refine drc_reprW hsh ?_ (by omega) (by omega)
  refine da_cons ?_
  refine de_str ?_
  refine da_nil ?_
  refine ⟨_, _, rfl, ?_⟩
  refine ds_nrm ?_
  refine ds_cons ?_
  refine ds_join (γ := D) (fun d => [some (.int (0 : Nat)), some a, some b, some (.str t0), some d, none]) (fun d S' => S0 = S' ∧ d = told44 0 a b r) ?_ ?_
  · refine ds_try rfl rfl (.consA ⟨rfl, by decide, .inl o_TurnError.gC⟩ sc__law_told.nd (i := 5) rfl rfl .nil) (fun pn8 xe8 => ?_)
    refine dsx_cons ?_
    refine dsx_if ?_
    refine dt_lt ?_
    refine de_name 0 ?_
    refine de_int ?_
    refine ⟨_, _, rfl, rfl, ?_⟩
    refine ⟨fun ht => ?_, fun ht => ?_⟩
    · refine dsx_cons ?_
      refine dsx_expr ?_
      refine dex_callV (k := 7) (n := 1) (C := fun ds S Q _ => (con_iswA K) ds S Q) gd (hr.mono (by decide)) rfl ?_
      refine de_ix (h := ?_)
      refine de_lst ?_
      refine da_cons ?_
      refine de_fn (k2 := 7) (n := 1) (C2 := fun ds S Q _ => (con_iswA K) ds S Q) (Cal.x c_is_way) (Nat.le_refl _) rfl (fun _ _ _ _ h => h) (fun f1 hf1 => ?_)
      refine da_cons ?_
      refine de_fn (k2 := 8) (n := 1) (C2 := (con1W K C_InvalidWay (con_prodX C_TooLarge))) r_product (Nat.le_refl _) rfl (fun _ _ _ _ h => h) (fun f2 hf2 => ?_)
      refine da_cons ?_
      refine de_fn (k2 := 8) (n := 1) (C2 := (con1W K C_InvalidWay con_boundA)) r_way_bound (Nat.le_refl _) rfl (fun _ _ _ _ h => h) (fun f3 hf3 => ?_)
      refine da_cons ?_
      refine de_fn (k2 := 7) (n := 1) (C2 := (con1T K C_InvalidTurn (con_wayfX C_TooLarge))) r_way_for (Nat.le_refl _) rfl (fun _ _ _ _ h => h) (fun f4 hf4 => ?_)
      refine da_nil ?_
      refine ⟨by walk_at "len", ?_⟩
      refine de_name 0 ?_
      walk_at "ix"
      refine ⟨hf1, ?_⟩
      refine dax_of ?_
      refine da_cons ?_
      refine de_name 1 ?_
      refine da_nil ?_
      refine ⟨_, rfl, hA.1, ?_⟩
      refine dsx_nil ?_
      repeat (refine dsx_nil ?_)
      exact ⟨_, by walk_at "wk", rfl, (show _ = told44 0 _ _ _ by simp [told44, roadT, hA.2])⟩
    · exact absurd ht (by decide)
  rintro _ _ ⟨rfl, rfl⟩
  refine ds_cons ?_
  refine ds_ret ?_
  refine de_ifE ?_
  refine dt_eq (hr.units) ?_
  refine de_B (call_reprW gd hr.units) n_repr bt_repr ?_
  refine da_cons ?_
  refine de_lst ?_
  refine da_cons ?_
  refine de_name 1 ?_
  refine da_cons ?_
  refine de_name 2 ?_
  refine da_nil ?_
  refine ⟨by walk_at "len", ?_⟩
  refine da_nil ?_
  refine drc_reprW hsh ?_ (by omega) (by omega)
  refine de_name 3 ?_
  first | refine eq_strT rfl ?_ | refine eq_int ?_
  refine ⟨fun ht => ?_, fun ht => ?_⟩
  rotate_left
  · cases ht
  refine de_name 4 ?_
  exact qq
set_option maxHeartbeats 40000000 in
theorem ok__law_told_w1 {f : Addr} {fd : FuncData} (F : Fun K "_law_told" "_law_told" s__law_told f fd) {C_InvalidTurn C_InvalidWay C_TooLarge C_TurnError : Addr} (c_is_way : Cal P w K mg base 7 "is_way" ["value"] [] (con_iswA K)) (h__law_fault__InvalidWay : CalE P w K mg base 1 "_law_fault" ["_law_e"] (con_faultV K C_InvalidWay "index" "road")) (h__law_fault__TooLarge : CalE P w K mg base 1 "_law_fault" ["_law_e"] (con_faultP K C_TooLarge "limit" "large")) (m_InvalidWay__TurnError : PySem.W.exmOne K (.ref C_InvalidWay) (.ref C_TurnError) = some true) (m_TooLarge__TurnError : PySem.W.exmOne K (.ref C_TooLarge) (.ref C_TurnError) = some true) (n_repr : mg "repr" = none) (o_TurnError : OwnErr K mg "TurnError" C_TurnError) (r_product : CalX P w K mg base 8 "product" ["way"] [] (con1W K C_InvalidWay (con_prodX C_TooLarge))) (r_way_bound : CalX P w K mg base 8 "way_bound" ["way"] [] (con1W K C_InvalidWay con_boundA)) (r_way_for : CalX P w K mg base 7 "way_for" ["turn"] [] (con1T K C_InvalidTurn (con_wayfX C_TooLarge))) : GOk P w K mg base 12 f fd ["_law_door", "_law_one", "_law_two"] (spD K (conT44 P w K 1)) := by
  refine gok_ds F sc__law_told (m := 3) rfl (fun ds S0 Q h => ?_) fun cdv A fr s0 H0 E0' gd hr ds S0 Q h => ?_
  · obtain ⟨_, _, _, rfl, _⟩ := h
    rfl
  obtain ⟨a, b, r, rfl, hA, ⟨t0, n0, m0, hsh, hn0, hm0⟩, qq⟩ := h
  refine ds_nrm ?_ (by set_option simprocs false in dsimp only [List.map, List.replicate, List.cons_append, List.nil_append])
  refine ds_cons ?_
  refine ds_par (i := 3) (j := 4) rfl sc__law_told.nd rfl rfl (by decide) ?_
  refine da_cons ?_
  refine de_B (call_reprW gd hr.units) n_repr bt_repr ?_
  refine da_cons ?_
  refine de_lst ?_
  refine da_cons ?_
  refine de_name 1 ?_
  refine da_cons ?_
  refine de_name 2 ?_
  refine da_nil ?_
  refine ⟨by walk_at "len", ?_⟩
  refine da_nil ?_
  refine drc_reprW hsh ?_ (by omega) (by omega)
  refine da_cons ?_
  refine de_str ?_
  refine da_nil ?_
  refine ⟨_, _, rfl, ?_⟩
  refine ds_nrm ?_
  refine ds_cons ?_
  refine ds_join (γ := D) (fun d => [some (.int (1 : Nat)), some a, some b, some (.str t0), some d, none]) (fun d S' => S0 = S' ∧ d = told44 1 a b r) ?_ ?_
  · refine ds_try rfl rfl (.consA ⟨rfl, by decide, .inl o_TurnError.gC⟩ sc__law_told.nd (i := 5) rfl rfl .nil) (fun pn8 xe8 => ?_)
    refine dsx_cons ?_
    refine dsx_if ?_
    refine dt_lt ?_
    refine de_name 0 ?_
    refine de_int ?_
    refine ⟨_, _, rfl, rfl, ?_⟩
    refine ⟨fun ht => ?_, fun ht => ?_⟩
    · refine dsx_cons ?_
      refine dsx_expr ?_
      refine dex_callV (k := 8) (n := 1) (C := (con1W K C_InvalidWay (con_prodX C_TooLarge))) gd (hr.mono (by decide)) rfl ?_
      refine de_ix (h := ?_)
      refine de_lst ?_
      refine da_cons ?_
      refine de_fn (k2 := 7) (n := 1) (C2 := fun ds S Q _ => (con_iswA K) ds S Q) (Cal.x c_is_way) (Nat.le_refl _) rfl (fun _ _ _ _ h => h) (fun f1 hf1 => ?_)
      refine da_cons ?_
      refine de_fn (k2 := 8) (n := 1) (C2 := (con1W K C_InvalidWay (con_prodX C_TooLarge))) r_product (Nat.le_refl _) rfl (fun _ _ _ _ h => h) (fun f2 hf2 => ?_)
      refine da_cons ?_
      refine de_fn (k2 := 8) (n := 1) (C2 := (con1W K C_InvalidWay con_boundA)) r_way_bound (Nat.le_refl _) rfl (fun _ _ _ _ h => h) (fun f3 hf3 => ?_)
      refine da_cons ?_
      refine de_fn (k2 := 7) (n := 1) (C2 := (con1T K C_InvalidTurn (con_wayfX C_TooLarge))) r_way_for (Nat.le_refl _) rfl (fun _ _ _ _ h => h) (fun f4 hf4 => ?_)
      refine da_nil ?_
      refine ⟨by walk_at "len", ?_⟩
      refine de_name 0 ?_
      walk_at "ix"
      refine ⟨hf2, ?_⟩
      refine dax_of ?_
      refine da_cons ?_
      refine de_name 1 ?_
      refine da_nil ?_
      obtain ⟨hA1, hG⟩ := hA
      refine ⟨a, rfl, hA1, fun v hv => ?_, fun hw => ?_⟩
      · refine ⟨true, m_InvalidWay__TurnError, fun _ a9 oe9 d9 pn9 hz9 hf9 => ?_, fun z => (nomatch z)⟩
        refine ds_cons ?_
        refine ds_asg (h := ?_)
        refine de_callE h__law_fault__InvalidWay (hr.mono (by decide)) ?_
        refine da_cons ?_
        refine de_name 5 ?_
        refine da_nil ?_
        refine ⟨_, _, rfl, hz9, hf9, ?_⟩
        refine dg_name 4 ?_ sc__law_told.nd
        refine ds_nil ?_
        exact ⟨_, by walk_at "wk", rfl, (show _ = told44 1 _ _ _ by simp [told44, roadT, hv])⟩
      obtain ⟨ks, t, rfl, hK, hl, hFB, rfl⟩ := hG hw
      refine ⟨ks, t, rfl, hK, hl, hFB, fun hB => ?_, fun hFn => ?_⟩
      · refine ⟨true, m_TooLarge__TurnError, fun _ a9 oe9 d9 pn9 hz9 hf9 => ?_, fun z => (nomatch z)⟩
        refine ds_cons ?_
        refine ds_asg (h := ?_)
        refine de_callE h__law_fault__TooLarge (hr.mono (by decide)) ?_
        refine da_cons ?_
        refine de_name 5 ?_
        refine da_nil ?_
        refine ⟨_, _, rfl, hz9, hf9, ?_⟩
        refine dg_name 4 ?_ sc__law_told.nd
        refine ds_nil ?_
        exact ⟨_, by walk_at "wk", rfl, (show _ = told44 1 _ _ _ by simp [told44, roadT, hw, rB_big hB.2.2])⟩
      refine dsx_nil ?_
      repeat (refine dsx_nil ?_)
      exact ⟨_, by walk_at "wk", rfl, (show _ = told44 1 _ _ _ by simp [told44, roadT, hw, rB_fine hFn.1])⟩
    · exact absurd ht (by decide)
  rintro _ _ ⟨rfl, rfl⟩
  refine ds_cons ?_
  refine ds_ret ?_
  refine de_ifE ?_
  refine dt_eq (hr.units) ?_
  refine de_B (call_reprW gd hr.units) n_repr bt_repr ?_
  refine da_cons ?_
  refine de_lst ?_
  refine da_cons ?_
  refine de_name 1 ?_
  refine da_cons ?_
  refine de_name 2 ?_
  refine da_nil ?_
  refine ⟨by walk_at "len", ?_⟩
  refine da_nil ?_
  refine drc_reprW hsh ?_ (by omega) (by omega)
  refine de_name 3 ?_
  first | refine eq_strT rfl ?_ | refine eq_int ?_
  refine ⟨fun ht => ?_, fun ht => ?_⟩
  rotate_left
  · cases ht
  refine de_name 4 ?_
  exact qq
set_option maxHeartbeats 40000000 in
theorem ok__law_told_w2 {f : Addr} {fd : FuncData} (F : Fun K "_law_told" "_law_told" s__law_told f fd) {C_InvalidTurn C_InvalidWay C_TooLarge C_TurnError : Addr} (c_is_way : Cal P w K mg base 7 "is_way" ["value"] [] (con_iswA K)) (h__law_fault__InvalidWay : CalE P w K mg base 1 "_law_fault" ["_law_e"] (con_faultV K C_InvalidWay "index" "road")) (m_InvalidWay__TurnError : PySem.W.exmOne K (.ref C_InvalidWay) (.ref C_TurnError) = some true) (n_repr : mg "repr" = none) (o_TurnError : OwnErr K mg "TurnError" C_TurnError) (r_product : CalX P w K mg base 8 "product" ["way"] [] (con1W K C_InvalidWay (con_prodX C_TooLarge))) (r_way_bound : CalX P w K mg base 8 "way_bound" ["way"] [] (con1W K C_InvalidWay con_boundA)) (r_way_for : CalX P w K mg base 7 "way_for" ["turn"] [] (con1T K C_InvalidTurn (con_wayfX C_TooLarge))) : GOk P w K mg base 12 f fd ["_law_door", "_law_one", "_law_two"] (spD K (conT44 P w K 2)) := by
  refine gok_ds F sc__law_told (m := 3) rfl (fun ds S0 Q h => ?_) fun cdv A fr s0 H0 E0' gd hr ds S0 Q h => ?_
  · obtain ⟨_, _, _, rfl, _⟩ := h
    rfl
  obtain ⟨a, b, r, rfl, hA, ⟨t0, n0, m0, hsh, hn0, hm0⟩, qq⟩ := h
  refine ds_nrm ?_ (by set_option simprocs false in dsimp only [List.map, List.replicate, List.cons_append, List.nil_append])
  refine ds_cons ?_
  refine ds_par (i := 3) (j := 4) rfl sc__law_told.nd rfl rfl (by decide) ?_
  refine da_cons ?_
  refine de_B (call_reprW gd hr.units) n_repr bt_repr ?_
  refine da_cons ?_
  refine de_lst ?_
  refine da_cons ?_
  refine de_name 1 ?_
  refine da_cons ?_
  refine de_name 2 ?_
  refine da_nil ?_
  refine ⟨by walk_at "len", ?_⟩
  refine da_nil ?_
  refine drc_reprW hsh ?_ (by omega) (by omega)
  refine da_cons ?_
  refine de_str ?_
  refine da_nil ?_
  refine ⟨_, _, rfl, ?_⟩
  refine ds_nrm ?_
  refine ds_cons ?_
  refine ds_join (γ := D) (fun d => [some (.int (2 : Nat)), some a, some b, some (.str t0), some d, none]) (fun d S' => S0 = S' ∧ d = told44 2 a b r) ?_ ?_
  · refine ds_try rfl rfl (.consA ⟨rfl, by decide, .inl o_TurnError.gC⟩ sc__law_told.nd (i := 5) rfl rfl .nil) (fun pn8 xe8 => ?_)
    refine dsx_cons ?_
    refine dsx_if ?_
    refine dt_lt ?_
    refine de_name 0 ?_
    refine de_int ?_
    refine ⟨_, _, rfl, rfl, ?_⟩
    refine ⟨fun ht => ?_, fun ht => ?_⟩
    · refine dsx_cons ?_
      refine dsx_expr ?_
      refine dex_callV (k := 8) (n := 1) (C := (con1W K C_InvalidWay con_boundA)) gd (hr.mono (by decide)) rfl ?_
      refine de_ix (h := ?_)
      refine de_lst ?_
      refine da_cons ?_
      refine de_fn (k2 := 7) (n := 1) (C2 := fun ds S Q _ => (con_iswA K) ds S Q) (Cal.x c_is_way) (Nat.le_refl _) rfl (fun _ _ _ _ h => h) (fun f1 hf1 => ?_)
      refine da_cons ?_
      refine de_fn (k2 := 8) (n := 1) (C2 := (con1W K C_InvalidWay (con_prodX C_TooLarge))) r_product (Nat.le_refl _) rfl (fun _ _ _ _ h => h) (fun f2 hf2 => ?_)
      refine da_cons ?_
      refine de_fn (k2 := 8) (n := 1) (C2 := (con1W K C_InvalidWay con_boundA)) r_way_bound (Nat.le_refl _) rfl (fun _ _ _ _ h => h) (fun f3 hf3 => ?_)
      refine da_cons ?_
      refine de_fn (k2 := 7) (n := 1) (C2 := (con1T K C_InvalidTurn (con_wayfX C_TooLarge))) r_way_for (Nat.le_refl _) rfl (fun _ _ _ _ h => h) (fun f4 hf4 => ?_)
      refine da_nil ?_
      refine ⟨by walk_at "len", ?_⟩
      refine de_name 0 ?_
      walk_at "ix"
      refine ⟨hf3, ?_⟩
      refine dax_of ?_
      refine da_cons ?_
      refine de_name 1 ?_
      refine da_nil ?_
      obtain ⟨hA1, rfl⟩ := hA
      refine ⟨a, rfl, hA1, fun v hv => ?_, fun hw => ?_⟩
      · refine ⟨true, m_InvalidWay__TurnError, fun _ a9 oe9 d9 pn9 hz9 hf9 => ?_, fun z => (nomatch z)⟩
        refine ds_cons ?_
        refine ds_asg (h := ?_)
        refine de_callE h__law_fault__InvalidWay (hr.mono (by decide)) ?_
        refine da_cons ?_
        refine de_name 5 ?_
        refine da_nil ?_
        refine ⟨_, _, rfl, hz9, hf9, ?_⟩
        refine dg_name 4 ?_ sc__law_told.nd
        refine ds_nil ?_
        exact ⟨_, by walk_at "wk", rfl, (show _ = told44 2 _ _ _ by simp [told44, roadT, hv])⟩
      obtain ⟨ks, rfl, hK, hl⟩ := wayE_none hw
      refine ⟨ks, rfl, hK, hl, fun d9 => ?_⟩
      refine dsx_nil ?_
      repeat (refine dsx_nil ?_)
      exact ⟨_, by walk_at "wk", rfl, (show _ = told44 2 _ _ _ by simp [told44, roadT, hw])⟩
    · exact absurd ht (by decide)
  rintro _ _ ⟨rfl, rfl⟩
  refine ds_cons ?_
  refine ds_ret ?_
  refine de_ifE ?_
  refine dt_eq (hr.units) ?_
  refine de_B (call_reprW gd hr.units) n_repr bt_repr ?_
  refine da_cons ?_
  refine de_lst ?_
  refine da_cons ?_
  refine de_name 1 ?_
  refine da_cons ?_
  refine de_name 2 ?_
  refine da_nil ?_
  refine ⟨by walk_at "len", ?_⟩
  refine da_nil ?_
  refine drc_reprW hsh ?_ (by omega) (by omega)
  refine de_name 3 ?_
  first | refine eq_strT rfl ?_ | refine eq_int ?_
  refine ⟨fun ht => ?_, fun ht => ?_⟩
  rotate_left
  · cases ht
  refine de_name 4 ?_
  exact qq
set_option maxHeartbeats 40000000 in
theorem ok__law_told_w3 {f : Addr} {fd : FuncData} (F : Fun K "_law_told" "_law_told" s__law_told f fd) {C_InvalidTurn C_InvalidWay C_TooLarge C_TurnError : Addr} (c_is_way : Cal P w K mg base 7 "is_way" ["value"] [] (con_iswA K)) (h__law_fault__InvalidTurn : CalE P w K mg base 1 "_law_fault" ["_law_e"] (con_faultN K C_InvalidTurn "spin")) (h__law_fault__TooLarge : CalE P w K mg base 1 "_law_fault" ["_law_e"] (con_faultP K C_TooLarge "limit" "large")) (m_InvalidTurn__TurnError : PySem.W.exmOne K (.ref C_InvalidTurn) (.ref C_TurnError) = some true) (m_TooLarge__TurnError : PySem.W.exmOne K (.ref C_TooLarge) (.ref C_TurnError) = some true) (n_repr : mg "repr" = none) (o_TurnError : OwnErr K mg "TurnError" C_TurnError) (r_product : CalX P w K mg base 8 "product" ["way"] [] (con1W K C_InvalidWay (con_prodX C_TooLarge))) (r_way_bound : CalX P w K mg base 8 "way_bound" ["way"] [] (con1W K C_InvalidWay con_boundA)) (r_way_for : CalX P w K mg base 7 "way_for" ["turn"] [] (con1T K C_InvalidTurn (con_wayfX C_TooLarge))) : GOk P w K mg base 12 f fd ["_law_door", "_law_one", "_law_two"] (spD K (conT44 P w K 3)) := by
  refine gok_ds F sc__law_told (m := 3) rfl (fun ds S0 Q h => ?_) fun cdv A fr s0 H0 E0' gd hr ds S0 Q h => ?_
  · obtain ⟨_, _, _, rfl, _⟩ := h
    rfl
  obtain ⟨a, b, r, rfl, hA, ⟨t0, n0, m0, hsh, hn0, hm0⟩, qq⟩ := h
  refine ds_nrm ?_ (by set_option simprocs false in dsimp only [List.map, List.replicate, List.cons_append, List.nil_append])
  refine ds_cons ?_
  refine ds_par (i := 3) (j := 4) rfl sc__law_told.nd rfl rfl (by decide) ?_
  refine da_cons ?_
  refine de_B (call_reprW gd hr.units) n_repr bt_repr ?_
  refine da_cons ?_
  refine de_lst ?_
  refine da_cons ?_
  refine de_name 1 ?_
  refine da_cons ?_
  refine de_name 2 ?_
  refine da_nil ?_
  refine ⟨by walk_at "len", ?_⟩
  refine da_nil ?_
  refine drc_reprW hsh ?_ (by omega) (by omega)
  refine da_cons ?_
  refine de_str ?_
  refine da_nil ?_
  refine ⟨_, _, rfl, ?_⟩
  refine ds_nrm ?_
  refine ds_cons ?_
  refine ds_join (γ := D) (fun d => [some (.int (3 : Nat)), some a, some b, some (.str t0), some d, none]) (fun d S' => S0 = S' ∧ d = told44 3 a b r) ?_ ?_
  · refine ds_try rfl rfl (.consA ⟨rfl, by decide, .inl o_TurnError.gC⟩ sc__law_told.nd (i := 5) rfl rfl .nil) (fun pn8 xe8 => ?_)
    refine dsx_cons ?_
    refine dsx_if ?_
    refine dt_lt ?_
    refine de_name 0 ?_
    refine de_int ?_
    refine ⟨_, _, rfl, rfl, ?_⟩
    refine ⟨fun ht => ?_, fun ht => ?_⟩
    · refine dsx_cons ?_
      refine dsx_expr ?_
      refine dex_callV (k := 7) (n := 1) (C := (con1T K C_InvalidTurn (con_wayfX C_TooLarge))) gd (hr.mono (by decide)) rfl ?_
      refine de_ix (h := ?_)
      refine de_lst ?_
      refine da_cons ?_
      refine de_fn (k2 := 7) (n := 1) (C2 := fun ds S Q _ => (con_iswA K) ds S Q) (Cal.x c_is_way) (Nat.le_refl _) rfl (fun _ _ _ _ h => h) (fun f1 hf1 => ?_)
      refine da_cons ?_
      refine de_fn (k2 := 8) (n := 1) (C2 := (con1W K C_InvalidWay (con_prodX C_TooLarge))) r_product (Nat.le_refl _) rfl (fun _ _ _ _ h => h) (fun f2 hf2 => ?_)
      refine da_cons ?_
      refine de_fn (k2 := 8) (n := 1) (C2 := (con1W K C_InvalidWay con_boundA)) r_way_bound (Nat.le_refl _) rfl (fun _ _ _ _ h => h) (fun f3 hf3 => ?_)
      refine da_cons ?_
      refine de_fn (k2 := 7) (n := 1) (C2 := (con1T K C_InvalidTurn (con_wayfX C_TooLarge))) r_way_for (Nat.le_refl _) rfl (fun _ _ _ _ h => h) (fun f4 hf4 => ?_)
      refine da_nil ?_
      refine ⟨by walk_at "len", ?_⟩
      refine de_name 0 ?_
      walk_at "ix"
      refine ⟨hf4, ?_⟩
      refine dax_of ?_
      refine da_cons ?_
      refine de_name 1 ?_
      refine da_nil ?_
      obtain ⟨hA1, hG⟩ := hA
      refine ⟨a, rfl, hA1, fun hn => ?_, fun hq => ?_⟩
      · refine ⟨true, m_InvalidTurn__TurnError, fun _ a9 oe9 d9 pn9 hz9 hf9 => ?_, fun z => (nomatch z)⟩
        refine ds_cons ?_
        refine ds_asg (h := ?_)
        refine de_callE h__law_fault__InvalidTurn (hr.mono (by decide)) ?_
        refine da_cons ?_
        refine de_name 5 ?_
        refine da_nil ?_
        refine ⟨_, rfl, hz9, hf9, ?_⟩
        refine dg_name 4 ?_ sc__law_told.nd
        refine ds_nil ?_
        exact ⟨_, by walk_at "wk", rfl, (show _ = told44 3 _ _ _ by simp [told44, roadT, hn])⟩
      obtain ⟨t, rfl, hTT, rfl⟩ := hG hq
      refine ⟨t, rfl, hTT, fun hk => ?_, fun hk a9 ha9 hOk => ?_⟩
      · refine ⟨true, m_TooLarge__TurnError, fun _ a9 oe9 d9 pn9 hz9 hf9 => ?_, fun z => (nomatch z)⟩
        refine ds_cons ?_
        refine ds_asg (h := ?_)
        refine de_callE h__law_fault__TooLarge (hr.mono (by decide)) ?_
        refine da_cons ?_
        refine de_name 5 ?_
        refine da_nil ?_
        refine ⟨_, _, rfl, hz9, hf9, ?_⟩
        refine dg_name 4 ?_ sc__law_told.nd
        refine ds_nil ?_
        exact ⟨_, by walk_at "wk", rfl, (show _ = told44 3 _ _ _ by simp [told44, roadT, hq, rW_big hk])⟩
      refine dsx_forget ?_ rfl
      refine dsx_nil ?_
      repeat (refine dsx_nil ?_)
      exact ⟨_, by walk_at "wk", rfl, (show _ = told44 3 _ _ _ by simp [told44, roadT, hq, rW_fine hk])⟩
    · exact absurd ht (by decide)
  rintro _ _ ⟨rfl, rfl⟩
  refine ds_cons ?_
  refine ds_ret ?_
  refine de_ifE ?_
  refine dt_eq (hr.units) ?_
  refine de_B (call_reprW gd hr.units) n_repr bt_repr ?_
  refine da_cons ?_
  refine de_lst ?_
  refine da_cons ?_
  refine de_name 1 ?_
  refine da_cons ?_
  refine de_name 2 ?_
  refine da_nil ?_
  refine ⟨by walk_at "len", ?_⟩
  refine da_nil ?_
  refine drc_reprW hsh ?_ (by omega) (by omega)
  refine de_name 3 ?_
  first | refine eq_strT rfl ?_ | refine eq_int ?_
  refine ⟨fun ht => ?_, fun ht => ?_⟩
  rotate_left
  · cases ht
  refine de_name 4 ?_
  exact qq
set_option maxHeartbeats 40000000 in
theorem ok__law_told_w4 {f : Addr} {fd : FuncData} (F : Fun K "_law_told" "_law_told" s__law_told f fd) {C_InvalidPixel C_InvalidTurn C_InvalidWay C_TurnError : Addr} (h__law_fault__InvalidPixel : CalE P w K mg base 1 "_law_fault" ["_law_e"] (con_faultN K C_InvalidPixel "dot")) (h__law_fault__InvalidWay : CalE P w K mg base 1 "_law_fault" ["_law_e"] (con_faultV K C_InvalidWay "index" "road")) (m_InvalidPixel__TurnError : PySem.W.exmOne K (.ref C_InvalidPixel) (.ref C_TurnError) = some true) (m_InvalidWay__TurnError : PySem.W.exmOne K (.ref C_InvalidWay) (.ref C_TurnError) = some true) (n_repr : mg "repr" = none) (o_TurnError : OwnErr K mg "TurnError" C_TurnError) (r_shows_way : CalX P w K mg base 8 "shows_way" ["turn", "value"] [] (con_showX K C_InvalidTurn)) (r_walked : CalX P w K mg base 8 "walked" ["way", "pixel"] [] (con2W K C_InvalidWay C_InvalidPixel con_walkA)) (r_walked_back : CalX P w K mg base 8 "walked_back" ["way", "pixel"] [] (con2W K C_InvalidWay C_InvalidPixel con_walkbA)) (r_way_miss : CalX P w K mg base 9 "way_miss" ["way", "pixel"] [] (con2W K C_InvalidWay C_InvalidPixel con_missA)) : GOk P w K mg base 12 f fd ["_law_door", "_law_one", "_law_two"] (spD K (conT44 P w K 4)) := by
  refine gok_ds F sc__law_told (m := 3) rfl (fun ds S0 Q h => ?_) fun cdv A fr s0 H0 E0' gd hr ds S0 Q h => ?_
  · obtain ⟨_, _, _, rfl, _⟩ := h
    rfl
  obtain ⟨a, b, r, rfl, hA, ⟨t0, n0, m0, hsh, hn0, hm0⟩, qq⟩ := h
  refine ds_nrm ?_ (by set_option simprocs false in dsimp only [List.map, List.replicate, List.cons_append, List.nil_append])
  refine ds_cons ?_
  refine ds_par (i := 3) (j := 4) rfl sc__law_told.nd rfl rfl (by decide) ?_
  refine da_cons ?_
  refine de_B (call_reprW gd hr.units) n_repr bt_repr ?_
  refine da_cons ?_
  refine de_lst ?_
  refine da_cons ?_
  refine de_name 1 ?_
  refine da_cons ?_
  refine de_name 2 ?_
  refine da_nil ?_
  refine ⟨by walk_at "len", ?_⟩
  refine da_nil ?_
  refine drc_reprW hsh ?_ (by omega) (by omega)
  refine da_cons ?_
  refine de_str ?_
  refine da_nil ?_
  refine ⟨_, _, rfl, ?_⟩
  refine ds_nrm ?_
  refine ds_cons ?_
  refine ds_join (γ := D) (fun d => [some (.int (4 : Nat)), some a, some b, some (.str t0), some d, none]) (fun d S' => S0 = S' ∧ d = told44 4 a b r) ?_ ?_
  · refine ds_try rfl rfl (.consA ⟨rfl, by decide, .inl o_TurnError.gC⟩ sc__law_told.nd (i := 5) rfl rfl .nil) (fun pn8 xe8 => ?_)
    refine dsx_cons ?_
    refine dsx_if ?_
    refine dt_lt ?_
    refine de_name 0 ?_
    refine de_int ?_
    refine ⟨_, _, rfl, rfl, ?_⟩
    refine ⟨fun ht => ?_, fun ht => ?_⟩
    · exact absurd ht (by decide)
    refine dsx_cons ?_
    refine dsx_expr ?_
    refine dex_callV (k := 8) (n := 2) (C := (con2W K C_InvalidWay C_InvalidPixel con_walkA)) gd (hr.mono (by decide)) rfl ?_
    refine de_ix (h := ?_)
    refine de_lst ?_
    refine da_cons ?_
    refine de_fn (k2 := 8) (n := 2) (C2 := (con2W K C_InvalidWay C_InvalidPixel con_walkA)) r_walked (Nat.le_refl _) rfl (fun _ _ _ _ h => h) (fun f1 hf1 => ?_)
    refine da_cons ?_
    refine de_fn (k2 := 8) (n := 2) (C2 := (con2W K C_InvalidWay C_InvalidPixel con_walkbA)) r_walked_back (Nat.le_refl _) rfl (fun _ _ _ _ h => h) (fun f2 hf2 => ?_)
    refine da_cons ?_
    refine de_fn (k2 := 9) (n := 2) (C2 := (con2W K C_InvalidWay C_InvalidPixel con_missA)) r_way_miss (Nat.le_refl _) rfl (fun _ _ _ _ h => h) (fun f3 hf3 => ?_)
    refine da_cons ?_
    refine de_fn (k2 := 8) (n := 2) (C2 := (con_showX K C_InvalidTurn)) r_shows_way (Nat.le_refl _) rfl (fun _ _ _ _ h => h) (fun f4 hf4 => ?_)
    refine da_nil ?_
    refine ⟨by walk_at "len", ?_⟩
    refine de_sub ?_
    refine de_name 0 ?_
    refine de_int ?_
    refine ⟨_, _, rfl, rfl, ?_⟩
    walk_at "ix"
    refine ⟨hf1, ?_⟩
    refine dax_of ?_
    refine da_cons ?_
    refine de_name 1 ?_
    refine da_cons ?_
    refine de_name 2 ?_
    refine da_nil ?_
    obtain ⟨hA1, hA2, hF, hG, rfl⟩ := hA
    refine ⟨a, b, rfl, ⟨hA1, hA2⟩, fun v hv => ?_, fun hw hn => ?_, fun hw hq => ?_⟩
    · refine ⟨true, m_InvalidWay__TurnError, fun _ a9 oe9 d9 pn9 hz9 hf9 => ?_, fun z => (nomatch z)⟩
      refine ds_cons ?_
      refine ds_asg (h := ?_)
      refine de_callE h__law_fault__InvalidWay (hr.mono (by decide)) ?_
      refine da_cons ?_
      refine de_name 5 ?_
      refine da_nil ?_
      refine ⟨_, _, rfl, hz9, hf9, ?_⟩
      refine dg_name 4 ?_ sc__law_told.nd
      refine ds_nil ?_
      exact ⟨_, by walk_at "wk", rfl, (show _ = told44 4 _ _ _ by simp [told44, roadT, hv])⟩
    · refine ⟨true, m_InvalidPixel__TurnError, fun _ a9 oe9 d9 pn9 hz9 hf9 => ?_, fun z => (nomatch z)⟩
      refine ds_cons ?_
      refine ds_asg (h := ?_)
      refine de_callE h__law_fault__InvalidPixel (hr.mono (by decide)) ?_
      refine da_cons ?_
      refine de_name 5 ?_
      refine da_nil ?_
      refine ⟨_, rfl, hz9, hf9, ?_⟩
      refine dg_name 4 ?_ sc__law_told.nd
      refine ds_nil ?_
      exact ⟨_, by walk_at "wk", rfl, (show _ = told44 4 _ _ _ by simp [told44, roadT, hw, hn])⟩
    obtain ⟨ks, rfl, hK, hl⟩ := hF hw
    obtain ⟨x, y, rfl⟩ := wt2 hq
    refine ⟨ks, x, y, rfl, hK, by omega, hG _ _ rfl, ?_⟩
    refine dsx_nil ?_
    refine dsx_nil ?_
    exact ⟨_, by walk_at "wk", rfl, (show _ = told44 4 _ _ _ by simp [told44, roadT, hw, hq])⟩
  rintro _ _ ⟨rfl, rfl⟩
  refine ds_cons ?_
  refine ds_ret ?_
  refine de_ifE ?_
  refine dt_eq (hr.units) ?_
  refine de_B (call_reprW gd hr.units) n_repr bt_repr ?_
  refine da_cons ?_
  refine de_lst ?_
  refine da_cons ?_
  refine de_name 1 ?_
  refine da_cons ?_
  refine de_name 2 ?_
  refine da_nil ?_
  refine ⟨by walk_at "len", ?_⟩
  refine da_nil ?_
  refine drc_reprW hsh ?_ (by omega) (by omega)
  refine de_name 3 ?_
  first | refine eq_strT rfl ?_ | refine eq_int ?_
  refine ⟨fun ht => ?_, fun ht => ?_⟩
  rotate_left
  · cases ht
  refine de_name 4 ?_
  exact qq
set_option maxHeartbeats 40000000 in
theorem ok__law_told_w5 {f : Addr} {fd : FuncData} (F : Fun K "_law_told" "_law_told" s__law_told f fd) {C_InvalidPixel C_InvalidTurn C_InvalidWay C_TurnError : Addr} (h__law_fault__InvalidPixel : CalE P w K mg base 1 "_law_fault" ["_law_e"] (con_faultN K C_InvalidPixel "dot")) (h__law_fault__InvalidWay : CalE P w K mg base 1 "_law_fault" ["_law_e"] (con_faultV K C_InvalidWay "index" "road")) (m_InvalidPixel__TurnError : PySem.W.exmOne K (.ref C_InvalidPixel) (.ref C_TurnError) = some true) (m_InvalidWay__TurnError : PySem.W.exmOne K (.ref C_InvalidWay) (.ref C_TurnError) = some true) (n_repr : mg "repr" = none) (o_TurnError : OwnErr K mg "TurnError" C_TurnError) (r_shows_way : CalX P w K mg base 8 "shows_way" ["turn", "value"] [] (con_showX K C_InvalidTurn)) (r_walked : CalX P w K mg base 8 "walked" ["way", "pixel"] [] (con2W K C_InvalidWay C_InvalidPixel con_walkA)) (r_walked_back : CalX P w K mg base 8 "walked_back" ["way", "pixel"] [] (con2W K C_InvalidWay C_InvalidPixel con_walkbA)) (r_way_miss : CalX P w K mg base 9 "way_miss" ["way", "pixel"] [] (con2W K C_InvalidWay C_InvalidPixel con_missA)) : GOk P w K mg base 12 f fd ["_law_door", "_law_one", "_law_two"] (spD K (conT44 P w K 5)) := by
  refine gok_ds F sc__law_told (m := 3) rfl (fun ds S0 Q h => ?_) fun cdv A fr s0 H0 E0' gd hr ds S0 Q h => ?_
  · obtain ⟨_, _, _, rfl, _⟩ := h
    rfl
  obtain ⟨a, b, r, rfl, hA, ⟨t0, n0, m0, hsh, hn0, hm0⟩, qq⟩ := h
  refine ds_nrm ?_ (by set_option simprocs false in dsimp only [List.map, List.replicate, List.cons_append, List.nil_append])
  refine ds_cons ?_
  refine ds_par (i := 3) (j := 4) rfl sc__law_told.nd rfl rfl (by decide) ?_
  refine da_cons ?_
  refine de_B (call_reprW gd hr.units) n_repr bt_repr ?_
  refine da_cons ?_
  refine de_lst ?_
  refine da_cons ?_
  refine de_name 1 ?_
  refine da_cons ?_
  refine de_name 2 ?_
  refine da_nil ?_
  refine ⟨by walk_at "len", ?_⟩
  refine da_nil ?_
  refine drc_reprW hsh ?_ (by omega) (by omega)
  refine da_cons ?_
  refine de_str ?_
  refine da_nil ?_
  refine ⟨_, _, rfl, ?_⟩
  refine ds_nrm ?_
  refine ds_cons ?_
  refine ds_join (γ := D) (fun d => [some (.int (5 : Nat)), some a, some b, some (.str t0), some d, none]) (fun d S' => S0 = S' ∧ d = told44 5 a b r) ?_ ?_
  · refine ds_try rfl rfl (.consA ⟨rfl, by decide, .inl o_TurnError.gC⟩ sc__law_told.nd (i := 5) rfl rfl .nil) (fun pn8 xe8 => ?_)
    refine dsx_cons ?_
    refine dsx_if ?_
    refine dt_lt ?_
    refine de_name 0 ?_
    refine de_int ?_
    refine ⟨_, _, rfl, rfl, ?_⟩
    refine ⟨fun ht => ?_, fun ht => ?_⟩
    · exact absurd ht (by decide)
    refine dsx_cons ?_
    refine dsx_expr ?_
    refine dex_callV (k := 8) (n := 2) (C := (con2W K C_InvalidWay C_InvalidPixel con_walkbA)) gd (hr.mono (by decide)) rfl ?_
    refine de_ix (h := ?_)
    refine de_lst ?_
    refine da_cons ?_
    refine de_fn (k2 := 8) (n := 2) (C2 := (con2W K C_InvalidWay C_InvalidPixel con_walkA)) r_walked (Nat.le_refl _) rfl (fun _ _ _ _ h => h) (fun f1 hf1 => ?_)
    refine da_cons ?_
    refine de_fn (k2 := 8) (n := 2) (C2 := (con2W K C_InvalidWay C_InvalidPixel con_walkbA)) r_walked_back (Nat.le_refl _) rfl (fun _ _ _ _ h => h) (fun f2 hf2 => ?_)
    refine da_cons ?_
    refine de_fn (k2 := 9) (n := 2) (C2 := (con2W K C_InvalidWay C_InvalidPixel con_missA)) r_way_miss (Nat.le_refl _) rfl (fun _ _ _ _ h => h) (fun f3 hf3 => ?_)
    refine da_cons ?_
    refine de_fn (k2 := 8) (n := 2) (C2 := (con_showX K C_InvalidTurn)) r_shows_way (Nat.le_refl _) rfl (fun _ _ _ _ h => h) (fun f4 hf4 => ?_)
    refine da_nil ?_
    refine ⟨by walk_at "len", ?_⟩
    refine de_sub ?_
    refine de_name 0 ?_
    refine de_int ?_
    refine ⟨_, _, rfl, rfl, ?_⟩
    walk_at "ix"
    refine ⟨hf2, ?_⟩
    refine dax_of ?_
    refine da_cons ?_
    refine de_name 1 ?_
    refine da_cons ?_
    refine de_name 2 ?_
    refine da_nil ?_
    obtain ⟨hA1, hA2, hF, hG, rfl⟩ := hA
    refine ⟨a, b, rfl, ⟨hA1, hA2⟩, fun v hv => ?_, fun hw hn => ?_, fun hw hq => ?_⟩
    · refine ⟨true, m_InvalidWay__TurnError, fun _ a9 oe9 d9 pn9 hz9 hf9 => ?_, fun z => (nomatch z)⟩
      refine ds_cons ?_
      refine ds_asg (h := ?_)
      refine de_callE h__law_fault__InvalidWay (hr.mono (by decide)) ?_
      refine da_cons ?_
      refine de_name 5 ?_
      refine da_nil ?_
      refine ⟨_, _, rfl, hz9, hf9, ?_⟩
      refine dg_name 4 ?_ sc__law_told.nd
      refine ds_nil ?_
      exact ⟨_, by walk_at "wk", rfl, (show _ = told44 5 _ _ _ by simp [told44, roadT, hv])⟩
    · refine ⟨true, m_InvalidPixel__TurnError, fun _ a9 oe9 d9 pn9 hz9 hf9 => ?_, fun z => (nomatch z)⟩
      refine ds_cons ?_
      refine ds_asg (h := ?_)
      refine de_callE h__law_fault__InvalidPixel (hr.mono (by decide)) ?_
      refine da_cons ?_
      refine de_name 5 ?_
      refine da_nil ?_
      refine ⟨_, rfl, hz9, hf9, ?_⟩
      refine dg_name 4 ?_ sc__law_told.nd
      refine ds_nil ?_
      exact ⟨_, by walk_at "wk", rfl, (show _ = told44 5 _ _ _ by simp [told44, roadT, hw, hn])⟩
    obtain ⟨ks, rfl, hK, hl⟩ := hF hw
    obtain ⟨x, y, rfl⟩ := wt2 hq
    refine ⟨ks, x, y, rfl, hK, by omega, hG _ _ rfl, ?_⟩
    refine dsx_nil ?_
    refine dsx_nil ?_
    exact ⟨_, by walk_at "wk", rfl, (show _ = told44 5 _ _ _ by simp [told44, roadT, hw, hq])⟩
  rintro _ _ ⟨rfl, rfl⟩
  refine ds_cons ?_
  refine ds_ret ?_
  refine de_ifE ?_
  refine dt_eq (hr.units) ?_
  refine de_B (call_reprW gd hr.units) n_repr bt_repr ?_
  refine da_cons ?_
  refine de_lst ?_
  refine da_cons ?_
  refine de_name 1 ?_
  refine da_cons ?_
  refine de_name 2 ?_
  refine da_nil ?_
  refine ⟨by walk_at "len", ?_⟩
  refine da_nil ?_
  refine drc_reprW hsh ?_ (by omega) (by omega)
  refine de_name 3 ?_
  first | refine eq_strT rfl ?_ | refine eq_int ?_
  refine ⟨fun ht => ?_, fun ht => ?_⟩
  rotate_left
  · cases ht
  refine de_name 4 ?_
  exact qq
set_option maxHeartbeats 40000000 in
theorem ok__law_told_w6 {f : Addr} {fd : FuncData} (F : Fun K "_law_told" "_law_told" s__law_told f fd) {C_InvalidPixel C_InvalidTurn C_InvalidWay C_TurnError : Addr} (h__law_fault__InvalidPixel : CalE P w K mg base 1 "_law_fault" ["_law_e"] (con_faultN K C_InvalidPixel "dot")) (h__law_fault__InvalidWay : CalE P w K mg base 1 "_law_fault" ["_law_e"] (con_faultV K C_InvalidWay "index" "road")) (m_InvalidPixel__TurnError : PySem.W.exmOne K (.ref C_InvalidPixel) (.ref C_TurnError) = some true) (m_InvalidWay__TurnError : PySem.W.exmOne K (.ref C_InvalidWay) (.ref C_TurnError) = some true) (n_repr : mg "repr" = none) (o_TurnError : OwnErr K mg "TurnError" C_TurnError) (r_shows_way : CalX P w K mg base 8 "shows_way" ["turn", "value"] [] (con_showX K C_InvalidTurn)) (r_walked : CalX P w K mg base 8 "walked" ["way", "pixel"] [] (con2W K C_InvalidWay C_InvalidPixel con_walkA)) (r_walked_back : CalX P w K mg base 8 "walked_back" ["way", "pixel"] [] (con2W K C_InvalidWay C_InvalidPixel con_walkbA)) (r_way_miss : CalX P w K mg base 9 "way_miss" ["way", "pixel"] [] (con2W K C_InvalidWay C_InvalidPixel con_missA)) : GOk P w K mg base 12 f fd ["_law_door", "_law_one", "_law_two"] (spD K (conT44 P w K 6)) := by
  refine gok_ds F sc__law_told (m := 3) rfl (fun ds S0 Q h => ?_) fun cdv A fr s0 H0 E0' gd hr ds S0 Q h => ?_
  · obtain ⟨_, _, _, rfl, _⟩ := h
    rfl
  obtain ⟨a, b, r, rfl, hA, ⟨t0, n0, m0, hsh, hn0, hm0⟩, qq⟩ := h
  refine ds_nrm ?_ (by set_option simprocs false in dsimp only [List.map, List.replicate, List.cons_append, List.nil_append])
  refine ds_cons ?_
  refine ds_par (i := 3) (j := 4) rfl sc__law_told.nd rfl rfl (by decide) ?_
  refine da_cons ?_
  refine de_B (call_reprW gd hr.units) n_repr bt_repr ?_
  refine da_cons ?_
  refine de_lst ?_
  refine da_cons ?_
  refine de_name 1 ?_
  refine da_cons ?_
  refine de_name 2 ?_
  refine da_nil ?_
  refine ⟨by walk_at "len", ?_⟩
  refine da_nil ?_
  refine drc_reprW hsh ?_ (by omega) (by omega)
  refine da_cons ?_
  refine de_str ?_
  refine da_nil ?_
  refine ⟨_, _, rfl, ?_⟩
  refine ds_nrm ?_
  refine ds_cons ?_
  refine ds_join (γ := D) (fun d => [some (.int (6 : Nat)), some a, some b, some (.str t0), some d, none]) (fun d S' => S0 = S' ∧ d = told44 6 a b r) ?_ ?_
  · refine ds_try rfl rfl (.consA ⟨rfl, by decide, .inl o_TurnError.gC⟩ sc__law_told.nd (i := 5) rfl rfl .nil) (fun pn8 xe8 => ?_)
    refine dsx_cons ?_
    refine dsx_if ?_
    refine dt_lt ?_
    refine de_name 0 ?_
    refine de_int ?_
    refine ⟨_, _, rfl, rfl, ?_⟩
    refine ⟨fun ht => ?_, fun ht => ?_⟩
    · exact absurd ht (by decide)
    refine dsx_cons ?_
    refine dsx_expr ?_
    refine dex_callV (k := 9) (n := 2) (C := (con2W K C_InvalidWay C_InvalidPixel con_missA)) gd (hr.mono (by decide)) rfl ?_
    refine de_ix (h := ?_)
    refine de_lst ?_
    refine da_cons ?_
    refine de_fn (k2 := 8) (n := 2) (C2 := (con2W K C_InvalidWay C_InvalidPixel con_walkA)) r_walked (Nat.le_refl _) rfl (fun _ _ _ _ h => h) (fun f1 hf1 => ?_)
    refine da_cons ?_
    refine de_fn (k2 := 8) (n := 2) (C2 := (con2W K C_InvalidWay C_InvalidPixel con_walkbA)) r_walked_back (Nat.le_refl _) rfl (fun _ _ _ _ h => h) (fun f2 hf2 => ?_)
    refine da_cons ?_
    refine de_fn (k2 := 9) (n := 2) (C2 := (con2W K C_InvalidWay C_InvalidPixel con_missA)) r_way_miss (Nat.le_refl _) rfl (fun _ _ _ _ h => h) (fun f3 hf3 => ?_)
    refine da_cons ?_
    refine de_fn (k2 := 8) (n := 2) (C2 := (con_showX K C_InvalidTurn)) r_shows_way (Nat.le_refl _) rfl (fun _ _ _ _ h => h) (fun f4 hf4 => ?_)
    refine da_nil ?_
    refine ⟨by walk_at "len", ?_⟩
    refine de_sub ?_
    refine de_name 0 ?_
    refine de_int ?_
    refine ⟨_, _, rfl, rfl, ?_⟩
    walk_at "ix"
    refine ⟨hf3, ?_⟩
    refine dax_of ?_
    refine da_cons ?_
    refine de_name 1 ?_
    refine da_cons ?_
    refine de_name 2 ?_
    refine da_nil ?_
    obtain ⟨hA1, hA2, hF, hG, rfl⟩ := hA
    refine ⟨a, b, rfl, ⟨hA1, hA2⟩, fun v hv => ?_, fun hw hn => ?_, fun hw hq => ?_⟩
    · refine ⟨true, m_InvalidWay__TurnError, fun _ a9 oe9 d9 pn9 hz9 hf9 => ?_, fun z => (nomatch z)⟩
      refine ds_cons ?_
      refine ds_asg (h := ?_)
      refine de_callE h__law_fault__InvalidWay (hr.mono (by decide)) ?_
      refine da_cons ?_
      refine de_name 5 ?_
      refine da_nil ?_
      refine ⟨_, _, rfl, hz9, hf9, ?_⟩
      refine dg_name 4 ?_ sc__law_told.nd
      refine ds_nil ?_
      exact ⟨_, by walk_at "wk", rfl, (show _ = told44 6 _ _ _ by simp [told44, roadT, hv])⟩
    · refine ⟨true, m_InvalidPixel__TurnError, fun _ a9 oe9 d9 pn9 hz9 hf9 => ?_, fun z => (nomatch z)⟩
      refine ds_cons ?_
      refine ds_asg (h := ?_)
      refine de_callE h__law_fault__InvalidPixel (hr.mono (by decide)) ?_
      refine da_cons ?_
      refine de_name 5 ?_
      refine da_nil ?_
      refine ⟨_, rfl, hz9, hf9, ?_⟩
      refine dg_name 4 ?_ sc__law_told.nd
      refine ds_nil ?_
      exact ⟨_, by walk_at "wk", rfl, (show _ = told44 6 _ _ _ by simp [told44, roadT, hw, hn])⟩
    obtain ⟨ks, rfl, hK, hl⟩ := hF hw
    obtain ⟨x, y, rfl⟩ := wt2 hq
    refine ⟨ks, x, y, rfl, hK, hl, hG _ _ rfl, fun d9 => ?_⟩
    refine dsx_nil ?_
    refine dsx_nil ?_
    exact ⟨_, by walk_at "wk", rfl, (show _ = told44 6 _ _ _ by simp [told44, roadT, hw, hq])⟩
  rintro _ _ ⟨rfl, rfl⟩
  refine ds_cons ?_
  refine ds_ret ?_
  refine de_ifE ?_
  refine dt_eq (hr.units) ?_
  refine de_B (call_reprW gd hr.units) n_repr bt_repr ?_
  refine da_cons ?_
  refine de_lst ?_
  refine da_cons ?_
  refine de_name 1 ?_
  refine da_cons ?_
  refine de_name 2 ?_
  refine da_nil ?_
  refine ⟨by walk_at "len", ?_⟩
  refine da_nil ?_
  refine drc_reprW hsh ?_ (by omega) (by omega)
  refine de_name 3 ?_
  first | refine eq_strT rfl ?_ | refine eq_int ?_
  refine ⟨fun ht => ?_, fun ht => ?_⟩
  rotate_left
  · cases ht
  refine de_name 4 ?_
  exact qq
set_option maxHeartbeats 40000000 in
theorem ok__law_told_w7 {f : Addr} {fd : FuncData} (F : Fun K "_law_told" "_law_told" s__law_told f fd) {C_InvalidPixel C_InvalidTurn C_InvalidWay C_TurnError : Addr} (h__law_fault__InvalidTurn : CalE P w K mg base 1 "_law_fault" ["_law_e"] (con_faultN K C_InvalidTurn "spin")) (m_InvalidTurn__TurnError : PySem.W.exmOne K (.ref C_InvalidTurn) (.ref C_TurnError) = some true) (n_repr : mg "repr" = none) (o_TurnError : OwnErr K mg "TurnError" C_TurnError) (r_shows_way : CalX P w K mg base 8 "shows_way" ["turn", "value"] [] (con_showX K C_InvalidTurn)) (r_walked : CalX P w K mg base 8 "walked" ["way", "pixel"] [] (con2W K C_InvalidWay C_InvalidPixel con_walkA)) (r_walked_back : CalX P w K mg base 8 "walked_back" ["way", "pixel"] [] (con2W K C_InvalidWay C_InvalidPixel con_walkbA)) (r_way_miss : CalX P w K mg base 9 "way_miss" ["way", "pixel"] [] (con2W K C_InvalidWay C_InvalidPixel con_missA)) : GOk P w K mg base 12 f fd ["_law_door", "_law_one", "_law_two"] (spD K (conT44 P w K 7)) := by
  refine gok_ds F sc__law_told (m := 3) rfl (fun ds S0 Q h => ?_) fun cdv A fr s0 H0 E0' gd hr ds S0 Q h => ?_
  · obtain ⟨_, _, _, rfl, _⟩ := h
    rfl
  obtain ⟨a, b, r, rfl, hA, ⟨t0, n0, m0, hsh, hn0, hm0⟩, qq⟩ := h
  refine ds_nrm ?_ (by set_option simprocs false in dsimp only [List.map, List.replicate, List.cons_append, List.nil_append])
  refine ds_cons ?_
  refine ds_par (i := 3) (j := 4) rfl sc__law_told.nd rfl rfl (by decide) ?_
  refine da_cons ?_
  refine de_B (call_reprW gd hr.units) n_repr bt_repr ?_
  refine da_cons ?_
  refine de_lst ?_
  refine da_cons ?_
  refine de_name 1 ?_
  refine da_cons ?_
  refine de_name 2 ?_
  refine da_nil ?_
  refine ⟨by walk_at "len", ?_⟩
  refine da_nil ?_
  refine drc_reprW hsh ?_ (by omega) (by omega)
  refine da_cons ?_
  refine de_str ?_
  refine da_nil ?_
  refine ⟨_, _, rfl, ?_⟩
  refine ds_nrm ?_
  refine ds_cons ?_
  refine ds_join (γ := D) (fun d => [some (.int (7 : Nat)), some a, some b, some (.str t0), some d, none]) (fun d S' => S0 = S' ∧ d = told44 7 a b r) ?_ ?_
  · refine ds_try rfl rfl (.consA ⟨rfl, by decide, .inl o_TurnError.gC⟩ sc__law_told.nd (i := 5) rfl rfl .nil) (fun pn8 xe8 => ?_)
    refine dsx_cons ?_
    refine dsx_if ?_
    refine dt_lt ?_
    refine de_name 0 ?_
    refine de_int ?_
    refine ⟨_, _, rfl, rfl, ?_⟩
    refine ⟨fun ht => ?_, fun ht => ?_⟩
    · exact absurd ht (by decide)
    refine dsx_cons ?_
    refine dsx_expr ?_
    refine dex_callV (k := 8) (n := 2) (C := (con_showX K C_InvalidTurn)) gd (hr.mono (by decide)) rfl ?_
    refine de_ix (h := ?_)
    refine de_lst ?_
    refine da_cons ?_
    refine de_fn (k2 := 8) (n := 2) (C2 := (con2W K C_InvalidWay C_InvalidPixel con_walkA)) r_walked (Nat.le_refl _) rfl (fun _ _ _ _ h => h) (fun f1 hf1 => ?_)
    refine da_cons ?_
    refine de_fn (k2 := 8) (n := 2) (C2 := (con2W K C_InvalidWay C_InvalidPixel con_walkbA)) r_walked_back (Nat.le_refl _) rfl (fun _ _ _ _ h => h) (fun f2 hf2 => ?_)
    refine da_cons ?_
    refine de_fn (k2 := 9) (n := 2) (C2 := (con2W K C_InvalidWay C_InvalidPixel con_missA)) r_way_miss (Nat.le_refl _) rfl (fun _ _ _ _ h => h) (fun f3 hf3 => ?_)
    refine da_cons ?_
    refine de_fn (k2 := 8) (n := 2) (C2 := (con_showX K C_InvalidTurn)) r_shows_way (Nat.le_refl _) rfl (fun _ _ _ _ h => h) (fun f4 hf4 => ?_)
    refine da_nil ?_
    refine ⟨by walk_at "len", ?_⟩
    refine de_sub ?_
    refine de_name 0 ?_
    refine de_int ?_
    refine ⟨_, _, rfl, rfl, ?_⟩
    walk_at "ix"
    refine ⟨hf4, ?_⟩
    refine dax_of ?_
    refine da_cons ?_
    refine de_name 1 ?_
    refine da_cons ?_
    refine de_name 2 ?_
    refine da_nil ?_
    obtain ⟨hA1, hA2, hF, rfl⟩ := hA
    refine ⟨a, b, rfl, ⟨hA1, hA2⟩, hF, fun hn => ?_, fun hq b9 => ?_⟩
    · refine ⟨true, m_InvalidTurn__TurnError, fun _ a9 oe9 d9 pn9 hz9 hf9 => ?_, fun z => (nomatch z)⟩
      refine ds_cons ?_
      refine ds_asg (h := ?_)
      refine de_callE h__law_fault__InvalidTurn (hr.mono (by decide)) ?_
      refine da_cons ?_
      refine de_name 5 ?_
      refine da_nil ?_
      refine ⟨_, rfl, hz9, hf9, ?_⟩
      refine dg_name 4 ?_ sc__law_told.nd
      refine ds_nil ?_
      exact ⟨_, by walk_at "wk", rfl, (show _ = told44 7 _ _ _ by simp [told44, roadT, hn])⟩
    refine dsx_nil ?_
    refine dsx_nil ?_
    exact ⟨_, by walk_at "wk", rfl, (show _ = told44 7 _ _ _ by simp [told44, roadT, hq])⟩
  rintro _ _ ⟨rfl, rfl⟩
  refine ds_cons ?_
  refine ds_ret ?_
  refine de_ifE ?_
  refine dt_eq (hr.units) ?_
  refine de_B (call_reprW gd hr.units) n_repr bt_repr ?_
  refine da_cons ?_
  refine de_lst ?_
  refine da_cons ?_
  refine de_name 1 ?_
  refine da_cons ?_
  refine de_name 2 ?_
  refine da_nil ?_
  refine ⟨by walk_at "len", ?_⟩
  refine da_nil ?_
  refine drc_reprW hsh ?_ (by omega) (by omega)
  refine de_name 3 ?_
  first | refine eq_strT rfl ?_ | refine eq_int ?_
  refine ⟨fun ht => ?_, fun ht => ?_⟩
  rotate_left
  · cases ht
  refine de_name 4 ?_
  exact qq
theorem ok__law_told {f : Addr} {fd : FuncData} (F : Fun K "_law_told" "_law_told" s__law_told f fd) {C_InvalidPixel C_InvalidTurn C_InvalidWay C_TooLarge C_TurnError : Addr} (c_is_way : Cal P w K mg base 7 "is_way" ["value"] [] (con_iswA K)) (h__law_fault__InvalidPixel : CalE P w K mg base 1 "_law_fault" ["_law_e"] (con_faultN K C_InvalidPixel "dot")) (h__law_fault__InvalidTurn : CalE P w K mg base 1 "_law_fault" ["_law_e"] (con_faultN K C_InvalidTurn "spin")) (h__law_fault__InvalidWay : CalE P w K mg base 1 "_law_fault" ["_law_e"] (con_faultV K C_InvalidWay "index" "road")) (h__law_fault__TooLarge : CalE P w K mg base 1 "_law_fault" ["_law_e"] (con_faultP K C_TooLarge "limit" "large")) (m_InvalidPixel__TurnError : PySem.W.exmOne K (.ref C_InvalidPixel) (.ref C_TurnError) = some true) (m_InvalidTurn__TurnError : PySem.W.exmOne K (.ref C_InvalidTurn) (.ref C_TurnError) = some true) (m_InvalidWay__TurnError : PySem.W.exmOne K (.ref C_InvalidWay) (.ref C_TurnError) = some true) (m_TooLarge__TurnError : PySem.W.exmOne K (.ref C_TooLarge) (.ref C_TurnError) = some true) (n_repr : mg "repr" = none) (o_TurnError : OwnErr K mg "TurnError" C_TurnError) (r_product : CalX P w K mg base 8 "product" ["way"] [] (con1W K C_InvalidWay (con_prodX C_TooLarge))) (r_shows_way : CalX P w K mg base 8 "shows_way" ["turn", "value"] [] (con_showX K C_InvalidTurn)) (r_walked : CalX P w K mg base 8 "walked" ["way", "pixel"] [] (con2W K C_InvalidWay C_InvalidPixel con_walkA)) (r_walked_back : CalX P w K mg base 8 "walked_back" ["way", "pixel"] [] (con2W K C_InvalidWay C_InvalidPixel con_walkbA)) (r_way_bound : CalX P w K mg base 8 "way_bound" ["way"] [] (con1W K C_InvalidWay con_boundA)) (r_way_for : CalX P w K mg base 7 "way_for" ["turn"] [] (con1T K C_InvalidTurn (con_wayfX C_TooLarge))) (r_way_miss : CalX P w K mg base 9 "way_miss" ["way", "pixel"] [] (con2W K C_InvalidWay C_InvalidPixel con_missA)) : GOk P w K mg base 12 f fd ["_law_door", "_law_one", "_law_two"] (spD K (con_told44 P w K)) := gok_nat (n := 8) fun i hi => match i, hi with | 0, _ => ok__law_told_w0 F c_is_way n_repr o_TurnError r_product r_way_bound r_way_for | 1, _ => ok__law_told_w1 F c_is_way h__law_fault__InvalidWay h__law_fault__TooLarge m_InvalidWay__TurnError m_TooLarge__TurnError n_repr o_TurnError r_product r_way_bound r_way_for | 2, _ => ok__law_told_w2 F c_is_way h__law_fault__InvalidWay m_InvalidWay__TurnError n_repr o_TurnError r_product r_way_bound r_way_for | 3, _ => ok__law_told_w3 F c_is_way h__law_fault__InvalidTurn h__law_fault__TooLarge m_InvalidTurn__TurnError m_TooLarge__TurnError n_repr o_TurnError r_product r_way_bound r_way_for | 4, _ => ok__law_told_w4 F h__law_fault__InvalidPixel h__law_fault__InvalidWay m_InvalidPixel__TurnError m_InvalidWay__TurnError n_repr o_TurnError r_shows_way r_walked r_walked_back r_way_miss | 5, _ => ok__law_told_w5 F h__law_fault__InvalidPixel h__law_fault__InvalidWay m_InvalidPixel__TurnError m_InvalidWay__TurnError n_repr o_TurnError r_shows_way r_walked r_walked_back r_way_miss | 6, _ => ok__law_told_w6 F h__law_fault__InvalidPixel h__law_fault__InvalidWay m_InvalidPixel__TurnError m_InvalidWay__TurnError n_repr o_TurnError r_shows_way r_walked r_walked_back r_way_miss | 7, _ => ok__law_told_w7 F h__law_fault__InvalidTurn m_InvalidTurn__TurnError n_repr o_TurnError r_shows_way r_walked r_walked_back r_way_miss | k + 8, h => absurd h (by omega)
abbrev s__law_odd_dots : Stmt := top 58
theorem sc__law_odd_dots : FnScope ["_law_found"] [] (defScope s__law_odd_dots) := ⟨rfl, rfl, rfl, by decide +kernel, rfl, by decide +kernel, by decide +kernel⟩
set_option maxHeartbeats 40000000 in
theorem ok__law_odd_dots {f : Addr} {fd : FuncData} (F : Fun K "_law_odd_dots" "_law_odd_dots" s__law_odd_dots f fd)  : GOk P w K mg base 1 f fd [] (spD K (con_oddPs P w K)) := by
  refine gok_ds F sc__law_odd_dots (m := 1) rfl (fun ds S0 Q h => ?_) fun cdv A fr s0 H0 E0' gd hr ds S0 Q h => ?_
  · obtain ⟨rfl, _⟩ := h
    rfl
  obtain ⟨rfl, qq⟩ := h
  refine ds_nrm ?_ (by set_option simprocs false in dsimp only [List.map, List.replicate, List.cons_append, List.nil_append])
  refine ds_cons ?_
  refine ds_asg (h := ?_)
  refine de_lst ?_
  refine da_cons ?_
  refine de_non ?_
  refine da_cons ?_
  refine de_bl ?_
  refine da_cons ?_
  refine de_int ?_
  refine da_cons ?_
  refine de_str ?_
  refine da_cons ?_
  refine de_tup ?_
  refine da_nil ?_
  refine ⟨by walk_at "len", ?_⟩
  refine da_cons ?_
  refine de_lst ?_
  refine da_nil ?_
  refine ⟨by walk_at "len", ?_⟩
  refine da_cons ?_
  refine de_dic0 ?_
  refine da_cons ?_
  refine de_lst ?_
  refine da_cons ?_
  refine de_int ?_
  refine da_cons ?_
  refine de_int ?_
  refine da_nil ?_
  refine ⟨by walk_at "len", ?_⟩
  refine da_cons ?_
  refine de_tup ?_
  refine da_cons ?_
  refine de_int ?_
  refine da_nil ?_
  refine ⟨by walk_at "len", ?_⟩
  refine da_cons ?_
  refine de_tup ?_
  refine da_cons ?_
  refine de_int ?_
  refine da_cons ?_
  refine de_int ?_
  refine da_cons ?_
  refine de_int ?_
  refine da_nil ?_
  refine ⟨by walk_at "len", ?_⟩
  refine da_cons ?_
  refine de_tup ?_
  refine da_cons ?_
  refine de_int ?_
  refine da_cons ?_
  refine de_non ?_
  refine da_nil ?_
  refine ⟨by walk_at "len", ?_⟩
  refine da_cons ?_
  refine de_tup ?_
  refine da_cons ?_
  refine de_bl ?_
  refine da_cons ?_
  refine de_int ?_
  refine da_nil ?_
  refine ⟨by walk_at "len", ?_⟩
  refine da_cons ?_
  refine de_tup ?_
  refine da_cons ?_
  refine de_int ?_
  refine da_cons ?_
  refine de_bl ?_
  refine da_nil ?_
  refine ⟨by walk_at "len", ?_⟩
  refine da_cons ?_
  refine de_tup ?_
  refine da_cons ?_
  refine de_str ?_
  refine da_cons ?_
  refine de_int ?_
  refine da_nil ?_
  refine ⟨by walk_at "len", ?_⟩
  refine da_nil ?_
  refine ⟨by walk_at "len", ?_⟩
  refine dg_name 0 ?_ sc__law_odd_dots.nd
  refine ds_cons ?_
  refine ds_ret ?_
  refine de_add ?_
  refine de_name 0 ?_
  refine de_lst ?_
  refine da_cons ?_
  refine de_tup ?_
  refine da_cons ?_
  refine de_tup ?_
  refine da_cons ?_
  refine de_int ?_
  refine da_nil ?_
  refine ⟨by walk_at "len", ?_⟩
  refine da_cons ?_
  refine de_int ?_
  refine da_nil ?_
  refine ⟨by walk_at "len", ?_⟩
  refine da_cons ?_
  refine de_lst ?_
  refine da_cons ?_
  refine de_tup ?_
  refine da_cons ?_
  refine de_int ?_
  refine da_cons ?_
  refine de_int ?_
  refine da_nil ?_
  refine ⟨by walk_at "len", ?_⟩
  refine da_nil ?_
  refine ⟨by walk_at "len", ?_⟩
  refine da_cons ?_
  refine de_tup ?_
  refine da_cons ?_
  refine de_tup ?_
  refine da_cons ?_
  refine de_int ?_
  refine da_cons ?_
  refine de_int ?_
  refine da_nil ?_
  refine ⟨by walk_at "len", ?_⟩
  refine da_nil ?_
  refine ⟨by walk_at "len", ?_⟩
  refine da_nil ?_
  refine ⟨by walk_at "len", ?_⟩
  first | refine add_int ?_ | refine add_lst ?_ (by walk_at "len") | refine add_tup ?_ (by walk_at "len3") | refine add_scr ?_ (by walk_at "len") | refine (show addP (.str _) (.str _) _ _ from ⟨by decide +kernel, ?_⟩)
  exact qq _ (fa_cons (oddP_pl (by decide +kernel)) (fa_cons (oddP_pl (by decide +kernel)) (fa_cons (oddP_pl (by decide +kernel)) (fa_cons (oddP_pl (by decide +kernel)) (fa_cons (oddP_pl (by decide +kernel)) (fa_cons (oddP_pl (by decide +kernel)) (fa_cons oddP_dic (fa_cons (oddP_pl (by decide +kernel)) (fa_cons (oddP_pl (by decide +kernel)) (fa_cons (oddP_pl (by decide +kernel)) (fa_cons (oddP_pl (by decide +kernel)) (fa_cons (oddP_pl (by decide +kernel)) (fa_cons (oddP_pl (by decide +kernel)) (fa_cons (oddP_pl (by decide +kernel)) (fa_cons (oddP_pl (by decide +kernel)) (fa_cons (oddP_pl (by decide +kernel)) (fa_cons (oddP_pl (by decide +kernel)) fa_nil))))))))))))))))) (Nat.le_of_ble_eq_true rfl)
abbrev s__law_odd_spins : Stmt := top 57
theorem sc__law_odd_spins : FnScope ["_law_found"] [] (defScope s__law_odd_spins) := ⟨rfl, rfl, rfl, by decide +kernel, rfl, by decide +kernel, by decide +kernel⟩
set_option maxHeartbeats 40000000 in
theorem ok__law_odd_spins {f : Addr} {fd : FuncData} (F : Fun K "_law_odd_spins" "_law_odd_spins" s__law_odd_spins f fd)  : GOk P w K mg base 1 f fd [] (spD K (con_oddSs P w K)) := by
  refine gok_ds F sc__law_odd_spins (m := 1) rfl (fun ds S0 Q h => ?_) fun cdv A fr s0 H0 E0' gd hr ds S0 Q h => ?_
  · obtain ⟨rfl, _⟩ := h
    rfl
  obtain ⟨rfl, qq⟩ := h
  refine ds_nrm ?_ (by set_option simprocs false in dsimp only [List.map, List.replicate, List.cons_append, List.nil_append])
  refine ds_cons ?_
  refine ds_asg (h := ?_)
  refine de_lst ?_
  refine da_cons ?_
  refine de_non ?_
  refine da_cons ?_
  refine de_bl ?_
  refine da_cons ?_
  refine de_int ?_
  refine da_cons ?_
  refine de_str ?_
  refine da_cons ?_
  refine de_tup ?_
  refine da_nil ?_
  refine ⟨by walk_at "len", ?_⟩
  refine da_cons ?_
  refine de_lst ?_
  refine da_nil ?_
  refine ⟨by walk_at "len", ?_⟩
  refine da_cons ?_
  refine de_dic0 ?_
  refine da_cons ?_
  refine de_lst ?_
  refine da_cons ?_
  refine de_int ?_
  refine da_cons ?_
  refine de_int ?_
  refine da_cons ?_
  refine de_int ?_
  refine da_nil ?_
  refine ⟨by walk_at "len", ?_⟩
  refine da_cons ?_
  refine de_tup ?_
  refine da_cons ?_
  refine de_int ?_
  refine da_cons ?_
  refine de_int ?_
  refine da_nil ?_
  refine ⟨by walk_at "len", ?_⟩
  refine da_cons ?_
  refine de_tup ?_
  refine da_cons ?_
  refine de_int ?_
  refine da_cons ?_
  refine de_int ?_
  refine da_cons ?_
  refine de_int ?_
  refine da_cons ?_
  refine de_int ?_
  refine da_nil ?_
  refine ⟨by walk_at "len", ?_⟩
  refine da_cons ?_
  refine de_tup ?_
  refine da_cons ?_
  refine de_int ?_
  refine da_cons ?_
  refine de_int ?_
  refine da_cons ?_
  refine de_int ?_
  refine da_nil ?_
  refine ⟨by walk_at "len", ?_⟩
  refine da_cons ?_
  refine de_tup ?_
  refine da_cons ?_
  refine de_int ?_
  refine da_cons ?_
  refine de_int ?_
  refine da_cons ?_
  refine de_neg ?_
  refine de_int ?_
  refine ⟨_, rfl, ?_⟩
  refine da_nil ?_
  refine ⟨by walk_at "len", ?_⟩
  refine da_cons ?_
  refine de_tup ?_
  refine da_cons ?_
  refine de_int ?_
  refine da_cons ?_
  refine de_int ?_
  refine da_cons ?_
  refine de_int ?_
  refine da_nil ?_
  refine ⟨by walk_at "len", ?_⟩
  refine da_nil ?_
  refine ⟨by walk_at "len", ?_⟩
  refine dg_name 0 ?_ sc__law_odd_spins.nd
  refine ds_cons ?_
  refine ds_asg (h := ?_)
  refine de_add ?_
  refine de_name 0 ?_
  refine de_lst ?_
  refine da_cons ?_
  refine de_tup ?_
  refine da_cons ?_
  refine de_int ?_
  refine da_cons ?_
  refine de_int ?_
  refine da_cons ?_
  refine de_int ?_
  refine da_nil ?_
  refine ⟨by walk_at "len", ?_⟩
  refine da_cons ?_
  refine de_tup ?_
  refine da_cons ?_
  refine de_int ?_
  refine da_cons ?_
  refine de_int ?_
  refine da_cons ?_
  refine de_int ?_
  refine da_nil ?_
  refine ⟨by walk_at "len", ?_⟩
  refine da_cons ?_
  refine de_tup ?_
  refine da_cons ?_
  refine de_int ?_
  refine da_cons ?_
  refine de_int ?_
  refine da_cons ?_
  refine de_int ?_
  refine da_nil ?_
  refine ⟨by walk_at "len", ?_⟩
  refine da_cons ?_
  refine de_tup ?_
  refine da_cons ?_
  refine de_int ?_
  refine da_cons ?_
  refine de_int ?_
  refine da_cons ?_
  refine de_int ?_
  refine da_nil ?_
  refine ⟨by walk_at "len", ?_⟩
  refine da_cons ?_
  refine de_tup ?_
  refine da_cons ?_
  refine de_int ?_
  refine da_cons ?_
  refine de_neg ?_
  refine de_int ?_
  refine ⟨_, rfl, ?_⟩
  refine da_cons ?_
  refine de_int ?_
  refine da_nil ?_
  refine ⟨by walk_at "len", ?_⟩
  refine da_cons ?_
  refine de_tup ?_
  refine da_cons ?_
  refine de_neg ?_
  refine de_int ?_
  refine ⟨_, rfl, ?_⟩
  refine da_cons ?_
  refine de_int ?_
  refine da_cons ?_
  refine de_int ?_
  refine da_nil ?_
  refine ⟨by walk_at "len", ?_⟩
  refine da_cons ?_
  refine de_tup ?_
  refine da_cons ?_
  refine de_int ?_
  refine da_cons ?_
  refine de_int ?_
  refine da_cons ?_
  refine de_non ?_
  refine da_nil ?_
  refine ⟨by walk_at "len", ?_⟩
  refine da_cons ?_
  refine de_tup ?_
  refine da_cons ?_
  refine de_int ?_
  refine da_cons ?_
  refine de_bl ?_
  refine da_cons ?_
  refine de_int ?_
  refine da_nil ?_
  refine ⟨by walk_at "len", ?_⟩
  refine da_nil ?_
  refine ⟨by walk_at "len", ?_⟩
  first | refine add_int ?_ | refine add_lst ?_ (by walk_at "len") | refine add_tup ?_ (by walk_at "len3") | refine add_scr ?_ (by walk_at "len") | refine (show addP (.str _) (.str _) _ _ from ⟨by decide +kernel, ?_⟩)
  refine dg_name 0 ?_ sc__law_odd_spins.nd
  refine ds_cons ?_
  refine ds_ret ?_
  refine de_add ?_
  refine de_name 0 ?_
  refine de_lst ?_
  refine da_cons ?_
  refine de_tup ?_
  refine da_cons ?_
  refine de_add ?_
  refine de_pow ?_
  refine de_int ?_
  refine de_int ?_
  refine ⟨_, _, rfl, rfl, (by walk_at "cpw"), ?_⟩
  refine de_int ?_
  first | refine add_int ?_ | refine add_lst ?_ (by walk_at "len") | refine add_tup ?_ (by walk_at "len3") | refine add_scr ?_ (by walk_at "len") | refine (show addP (.str _) (.str _) _ _ from ⟨by decide +kernel, ?_⟩)
  refine da_cons ?_
  refine de_int ?_
  refine da_cons ?_
  refine de_int ?_
  refine da_nil ?_
  refine ⟨by walk_at "len", ?_⟩
  refine da_cons ?_
  refine de_tup ?_
  refine da_cons ?_
  refine de_add ?_
  refine de_pow ?_
  refine de_int ?_
  refine de_int ?_
  refine ⟨_, _, rfl, rfl, (by walk_at "cpw"), ?_⟩
  refine de_int ?_
  first | refine add_int ?_ | refine add_lst ?_ (by walk_at "len") | refine add_tup ?_ (by walk_at "len3") | refine add_scr ?_ (by walk_at "len") | refine (show addP (.str _) (.str _) _ _ from ⟨by decide +kernel, ?_⟩)
  refine da_cons ?_
  refine de_int ?_
  refine da_cons ?_
  refine de_int ?_
  refine da_nil ?_
  refine ⟨by walk_at "len", ?_⟩
  refine da_cons ?_
  refine de_tup ?_
  refine da_cons ?_
  refine de_bl ?_
  refine da_cons ?_
  refine de_int ?_
  refine da_cons ?_
  refine de_int ?_
  refine da_nil ?_
  refine ⟨by walk_at "len", ?_⟩
  refine da_cons ?_
  refine de_tup ?_
  refine da_cons ?_
  refine de_str ?_
  refine da_cons ?_
  refine de_int ?_
  refine da_cons ?_
  refine de_int ?_
  refine da_nil ?_
  refine ⟨by walk_at "len", ?_⟩
  refine da_nil ?_
  refine ⟨by walk_at "len", ?_⟩
  first | refine add_int ?_ | refine add_lst ?_ (by walk_at "len") | refine add_tup ?_ (by walk_at "len3") | refine add_scr ?_ (by walk_at "len") | refine (show addP (.str _) (.str _) _ _ from ⟨by decide +kernel, ?_⟩)
  exact qq _ (fa_cons (oddS_pl (by decide +kernel)) (fa_cons (oddS_pl (by decide +kernel)) (fa_cons (oddS_pl (by decide +kernel)) (fa_cons (oddS_pl (by decide +kernel)) (fa_cons (oddS_pl (by decide +kernel)) (fa_cons (oddS_pl (by decide +kernel)) (fa_cons oddS_dic (fa_cons (oddS_pl (by decide +kernel)) (fa_cons (oddS_pl (by decide +kernel)) (fa_cons (oddS_pl (by decide +kernel)) (fa_cons (oddS_pl (by decide +kernel)) (fa_cons (oddS_pl (by decide +kernel)) (fa_cons (oddS_pl (by decide +kernel)) (fa_cons (oddS_pl (by decide +kernel)) (fa_cons (oddS_pl (by decide +kernel)) (fa_cons (oddS_pl (by decide +kernel)) (fa_cons (oddS_pl (by decide +kernel)) (fa_cons (oddS_pl (by decide +kernel)) (fa_cons (oddS_pl (by decide +kernel)) (fa_cons (oddS_pl (by decide +kernel)) (fa_cons (oddS_pl (by decide +kernel)) (fa_cons (oddS_pl (by decide +kernel)) (fa_cons (oddS_pl (by decide +kernel)) (fa_cons (oddS_pl (by decide +kernel)) (fa_cons (oddS_pl (by decide +kernel)) fa_nil))))))))))))))))))))))))) (Nat.le_of_ble_eq_true rfl)
abbrev s__law_odd_items : Stmt := top 54
theorem sc__law_odd_items : FnScope ["_law_found"] [] (defScope s__law_odd_items) := ⟨rfl, rfl, rfl, by decide +kernel, rfl, by decide +kernel, by decide +kernel⟩
set_option maxHeartbeats 40000000 in
theorem ok__law_odd_items {f : Addr} {fd : FuncData} (F : Fun K "_law_odd_items" "_law_odd_items" s__law_odd_items f fd)  : GOk P w K mg base 1 f fd [] (spD K (con_oddIs P w K)) := by
  refine gok_ds F sc__law_odd_items (m := 1) rfl (fun ds S0 Q h => ?_) fun cdv A fr s0 H0 E0' gd hr ds S0 Q h => ?_
  · obtain ⟨rfl, _⟩ := h
    rfl
  obtain ⟨rfl, qq⟩ := h
  refine ds_nrm ?_ (by set_option simprocs false in dsimp only [List.map, List.replicate, List.cons_append, List.nil_append])
  refine ds_cons ?_
  refine ds_asg (h := ?_)
  refine de_lst ?_
  refine da_cons ?_
  refine de_non ?_
  refine da_cons ?_
  refine de_bl ?_
  refine da_cons ?_
  refine de_int ?_
  refine da_cons ?_
  refine de_str ?_
  refine da_cons ?_
  refine de_lst ?_
  refine da_cons ?_
  refine de_int ?_
  refine da_cons ?_
  refine de_int ?_
  refine da_cons ?_
  refine de_int ?_
  refine da_nil ?_
  refine ⟨by walk_at "len", ?_⟩
  refine da_cons ?_
  refine de_dic0 ?_
  refine da_cons ?_
  refine de_tup ?_
  refine da_cons ?_
  refine de_int ?_
  refine da_cons ?_
  refine de_int ?_
  refine da_nil ?_
  refine ⟨by walk_at "len", ?_⟩
  refine da_cons ?_
  refine de_tup ?_
  refine da_cons ?_
  refine de_int ?_
  refine da_cons ?_
  refine de_int ?_
  refine da_cons ?_
  refine de_int ?_
  refine da_cons ?_
  refine de_int ?_
  refine da_nil ?_
  refine ⟨by walk_at "len", ?_⟩
  refine da_cons ?_
  refine de_tup ?_
  refine da_cons ?_
  refine de_int ?_
  refine da_cons ?_
  refine de_int ?_
  refine da_cons ?_
  refine de_int ?_
  refine da_nil ?_
  refine ⟨by walk_at "len", ?_⟩
  refine da_cons ?_
  refine de_tup ?_
  refine da_cons ?_
  refine de_int ?_
  refine da_cons ?_
  refine de_int ?_
  refine da_cons ?_
  refine de_int ?_
  refine da_nil ?_
  refine ⟨by walk_at "len", ?_⟩
  refine da_cons ?_
  refine de_tup ?_
  refine da_cons ?_
  refine de_int ?_
  refine da_cons ?_
  refine de_int ?_
  refine da_cons ?_
  refine de_int ?_
  refine da_nil ?_
  refine ⟨by walk_at "len", ?_⟩
  refine da_cons ?_
  refine de_tup ?_
  refine da_cons ?_
  refine de_int ?_
  refine da_cons ?_
  refine de_int ?_
  refine da_cons ?_
  refine de_neg ?_
  refine de_int ?_
  refine ⟨_, rfl, ?_⟩
  refine da_nil ?_
  refine ⟨by walk_at "len", ?_⟩
  refine da_nil ?_
  refine ⟨by walk_at "len", ?_⟩
  refine dg_name 0 ?_ sc__law_odd_items.nd
  refine ds_cons ?_
  refine ds_asg (h := ?_)
  refine de_add ?_
  refine de_name 0 ?_
  refine de_lst ?_
  refine da_cons ?_
  refine de_tup ?_
  refine da_cons ?_
  refine de_int ?_
  refine da_cons ?_
  refine de_int ?_
  refine da_cons ?_
  refine de_bl ?_
  refine da_nil ?_
  refine ⟨by walk_at "len", ?_⟩
  refine da_cons ?_
  refine de_tup ?_
  refine da_cons ?_
  refine de_bl ?_
  refine da_cons ?_
  refine de_int ?_
  refine da_cons ?_
  refine de_int ?_
  refine da_nil ?_
  refine ⟨by walk_at "len", ?_⟩
  refine da_cons ?_
  refine de_tup ?_
  refine da_cons ?_
  refine de_int ?_
  refine da_cons ?_
  refine de_bl ?_
  refine da_cons ?_
  refine de_int ?_
  refine da_nil ?_
  refine ⟨by walk_at "len", ?_⟩
  refine da_cons ?_
  refine de_tup ?_
  refine da_cons ?_
  refine de_int ?_
  refine da_cons ?_
  refine de_int ?_
  refine da_cons ?_
  refine de_int ?_
  refine da_nil ?_
  refine ⟨by walk_at "len", ?_⟩
  refine da_cons ?_
  refine de_tup ?_
  refine da_cons ?_
  refine de_int ?_
  refine da_cons ?_
  refine de_int ?_
  refine da_cons ?_
  refine de_int ?_
  refine da_nil ?_
  refine ⟨by walk_at "len", ?_⟩
  refine da_cons ?_
  refine de_tup ?_
  refine da_cons ?_
  refine de_neg ?_
  refine de_int ?_
  refine ⟨_, rfl, ?_⟩
  refine da_cons ?_
  refine de_int ?_
  refine da_cons ?_
  refine de_int ?_
  refine da_nil ?_
  refine ⟨by walk_at "len", ?_⟩
  refine da_cons ?_
  refine de_tup ?_
  refine da_cons ?_
  refine de_int ?_
  refine da_cons ?_
  refine de_neg ?_
  refine de_int ?_
  refine ⟨_, rfl, ?_⟩
  refine da_cons ?_
  refine de_int ?_
  refine da_nil ?_
  refine ⟨by walk_at "len", ?_⟩
  refine da_nil ?_
  refine ⟨by walk_at "len", ?_⟩
  first | refine add_int ?_ | refine add_lst ?_ (by walk_at "len") | refine add_tup ?_ (by walk_at "len3") | refine add_scr ?_ (by walk_at "len") | refine (show addP (.str _) (.str _) _ _ from ⟨by decide +kernel, ?_⟩)
  refine dg_name 0 ?_ sc__law_odd_items.nd
  refine ds_cons ?_
  refine ds_asg (h := ?_)
  refine de_add ?_
  refine de_name 0 ?_
  refine de_lst ?_
  refine da_cons ?_
  refine de_tup ?_
  refine da_cons ?_
  refine de_int ?_
  refine da_cons ?_
  refine de_int ?_
  refine da_cons ?_
  refine de_int ?_
  refine da_nil ?_
  refine ⟨by walk_at "len", ?_⟩
  refine da_cons ?_
  refine de_tup ?_
  refine da_cons ?_
  refine de_add ?_
  refine de_pow ?_
  refine de_int ?_
  refine de_int ?_
  refine ⟨_, _, rfl, rfl, (by walk_at "cpw"), ?_⟩
  refine de_int ?_
  first | refine add_int ?_ | refine add_lst ?_ (by walk_at "len") | refine add_tup ?_ (by walk_at "len3") | refine add_scr ?_ (by walk_at "len") | refine (show addP (.str _) (.str _) _ _ from ⟨by decide +kernel, ?_⟩)
  refine da_cons ?_
  refine de_pow ?_
  refine de_int ?_
  refine de_int ?_
  refine ⟨_, _, rfl, rfl, (by walk_at "cpw"), ?_⟩
  refine da_cons ?_
  refine de_int ?_
  refine da_nil ?_
  refine ⟨by walk_at "len", ?_⟩
  refine da_cons ?_
  refine de_tup ?_
  refine da_cons ?_
  refine de_pow ?_
  refine de_int ?_
  refine de_int ?_
  refine ⟨_, _, rfl, rfl, (by walk_at "cpw"), ?_⟩
  refine da_cons ?_
  refine de_pow ?_
  refine de_int ?_
  refine de_int ?_
  refine ⟨_, _, rfl, rfl, (by walk_at "cpw"), ?_⟩
  refine da_cons ?_
  refine de_int ?_
  refine da_nil ?_
  refine ⟨by walk_at "len", ?_⟩
  refine da_cons ?_
  refine de_tup ?_
  refine da_cons ?_
  refine de_int ?_
  refine da_cons ?_
  refine de_int ?_
  refine da_cons ?_
  refine de_non ?_
  refine da_nil ?_
  refine ⟨by walk_at "len", ?_⟩
  refine da_cons ?_
  refine de_tup ?_
  refine da_cons ?_
  refine de_str ?_
  refine da_cons ?_
  refine de_int ?_
  refine da_cons ?_
  refine de_int ?_
  refine da_nil ?_
  refine ⟨by walk_at "len", ?_⟩
  refine da_nil ?_
  refine ⟨by walk_at "len", ?_⟩
  first | refine add_int ?_ | refine add_lst ?_ (by walk_at "len") | refine add_tup ?_ (by walk_at "len3") | refine add_scr ?_ (by walk_at "len") | refine (show addP (.str _) (.str _) _ _ from ⟨by decide +kernel, ?_⟩)
  refine dg_name 0 ?_ sc__law_odd_items.nd
  refine ds_cons ?_
  refine ds_ret ?_
  refine de_add ?_
  refine de_name 0 ?_
  refine de_lst ?_
  refine da_cons ?_
  refine de_tup ?_
  refine da_cons ?_
  refine de_int ?_
  refine da_cons ?_
  refine de_tup ?_
  refine da_cons ?_
  refine de_int ?_
  refine da_nil ?_
  refine ⟨by walk_at "len", ?_⟩
  refine da_cons ?_
  refine de_int ?_
  refine da_nil ?_
  refine ⟨by walk_at "len", ?_⟩
  refine da_nil ?_
  refine ⟨by walk_at "len", ?_⟩
  first | refine add_int ?_ | refine add_lst ?_ (by walk_at "len") | refine add_tup ?_ (by walk_at "len3") | refine add_scr ?_ (by walk_at "len") | refine (show addP (.str _) (.str _) _ _ from ⟨by decide +kernel, ?_⟩)
  exact qq _ (fa_cons (oddI_pl (by decide +kernel)) (fa_cons (oddI_pl (by decide +kernel)) (fa_cons (oddI_pl (by decide +kernel)) (fa_cons (oddI_pl (by decide +kernel)) (fa_cons (oddI_pl (by decide +kernel)) (fa_cons oddI_dic (fa_cons (oddI_pl (by decide +kernel)) (fa_cons (oddI_pl (by decide +kernel)) (fa_cons (oddI_pl (by decide +kernel)) (fa_cons (oddI_pl (by decide +kernel)) (fa_cons (oddI_pl (by decide +kernel)) (fa_cons (oddI_pl (by decide +kernel)) (fa_cons (oddI_pl (by decide +kernel)) (fa_cons (oddI_pl (by decide +kernel)) (fa_cons (oddI_pl (by decide +kernel)) (fa_cons (oddI_pl (by decide +kernel)) (fa_cons (oddI_pl (by decide +kernel)) (fa_cons (oddI_pl (by decide +kernel)) (fa_cons (oddI_pl (by decide +kernel)) (fa_cons (oddI_pl (by decide +kernel)) (fa_cons (oddI_pl (by decide +kernel)) (fa_cons (oddI_pl (by decide +kernel)) (fa_cons (oddI_pl (by decide +kernel)) (fa_cons (oddI_pl (by decide +kernel)) (fa_cons (oddI_pl (by decide +kernel)) fa_nil))))))))))))))))))))))))) (Nat.le_of_ble_eq_true rfl)
abbrev s__law_right : Stmt := top 59
theorem sc__law_right : FnScope ["_law_source_here", "_law_road_here", "_law_dot_here", "_law_told_here", "_law_door", "_law_wrong", "_law_bad", "_law_odd", "_law_spot"] ["_law_source_here", "_law_road_here", "_law_dot_here"] (defScope s__law_right) := ⟨rfl, rfl, rfl, by decide +kernel, rfl, by decide +kernel, by decide +kernel⟩
set_option maxHeartbeats 40000000 in
theorem ok__law_right {f : Addr} {fd : FuncData} (F : Fun K "_law_right" "_law_right" s__law_right f fd) {cd_TurnError : PySem.ClassData} {C_TurnError : Addr} (c__law_draw : Cal P w K mg base 1 "_law_draw" ["_law_source_here", "_law_count"] [] con_draw) (c__law_odd_dots : Cal P w K mg base 1 "_law_odd_dots" [] [] (con_oddPs P w K)) (c__law_odd_items : Cal P w K mg base 1 "_law_odd_items" [] [] (con_oddIs P w K)) (c__law_told : Cal P w K mg base 12 "_law_told" ["_law_door", "_law_one", "_law_two"] [] (con_told44 P w K)) (e_TurnError : ExcK K C_TurnError cd_TurnError) (n_len : mg "len" = none) (n_tuple : mg "tuple" = none) (o_TurnError : OwnErr K mg "TurnError" C_TurnError) (v_TurnError : KOdd K C_TurnError) (x_TurnError : L2.ExcC K C_TurnError) : GOk P w K mg base 13 f fd ["_law_source_here", "_law_road_here", "_law_dot_here"] (spD K con_r44) := by
  refine gok_ds F sc__law_right (m := 6) rfl (fun ds S0 Q h => ?_) fun cdv A fr s0 H0 E0' gd hr ds S0 Q h => ?_
  · obtain ⟨_, _, _, _, _, _, rfl, _⟩ := h
    rfl
  obtain ⟨pp, l, m, ks, x, y, rfl, hg, hS, hm, hR, ⟨bx, by'⟩, qq⟩ := h
  have hK := hR.kw
  have hl5 := hR.len
  have hl8 : ks.length ≤ 8 := by omega
  have hlm : (ks.map trD).length = ks.length := List.length_map ..
  have hsr := sh9_kw (P := P) (w := w) (K := K) hK hl8
  have hsn := sh9_non (P := P) (w := w) (K := K)
  have hsd : Sh9 P w K (.tup [.int x, .int y]) 2000000 := sh9_up (sh9_of (shw_i2 (bx.up (by decide)) (by'.up (by decide)))) (by decide)
  have hst : Sh9 P w K (.tup [.int 2, .int 1, .int 0]) 2000000 := sh9_up (sh9_of (shw_i3 (by unfold Bd; decide +kernel) (by unfold Bd; decide +kernel) (by unfold Bd; decide +kernel))) (by decide)
  have hAx : Any K (.tup [.int x, .int y]) := .i2
  have hAn : Any K .non := .pt rfl
  have bln : Bd 10 ((ks.map trD).length : Int) := by unfold Bd; omega
  refine ds_nrm ?_ (by set_option simprocs false in dsimp only [List.map, List.replicate, List.cons_append, List.nil_append])
  refine ds_cons ?_
  refine ds_setLc 3 4 rfl sc__law_right.nd rfl rfl (sw_true rfl rfl rfl (by decide +kernel)) (blkOk_by (N := ["_law_source_here", "_law_road_here", "_law_dot_here", "_law_told_here", "_law_door", "_law_wrong", "_law_bad", "_law_odd", "_law_spot"]) (sc := defScope s__law_right) (by decide +kernel)) ?_ (fun _ _ _ _ _ => pg_name sc__law_right.nd rfl (Or.inl rfl))
  refine di_tup ?_
  refine de_tup ?_
  refine da_cons ?_
  refine de_int ?_
  refine da_cons ?_
  refine de_int ?_
  refine da_cons ?_
  refine de_int ?_
  refine da_nil ?_
  refine ⟨by walk_at "len", ?_⟩
  refine ⟨_, rfl, ?_⟩
  refine ⟨fun k acc S' => S0 = S' ∧ acc = List.replicate k (D.str "fine"), ⟨rfl, rfl⟩, fun k9 d9 acc S' p hk hP hp hl s5 H5 C5 cl5 fp5 => ?_, (by decide), fun acc S' hl hP => ?_⟩
  · obtain ⟨rfl, rfl⟩ := hP
    obtain ⟨j9, rfl, hj9, hAs9, hT9⟩ := drs_road1 hR _ (List.mem_of_getElem? hk)
    refine de_call c__law_told gd (hr.mono (by decide)) ?_
    refine da_cons ?_
    refine de_name 4 ?_
    refine da_cons ?_
    refine de_name 1 ?_
    refine da_cons ?_
    refine de_non ?_
    refine da_nil ?_
    refine ⟨j9, hj9, _, _, (.str "fine"), rfl, hAs9, sh44 hsr hsn, ?_⟩
    exact ⟨_, rfl, rfl, by rw [List.replicate_succ', hT9]⟩
  obtain ⟨rfl, rfl⟩ := hP
  refine ds_nrm ?_
  refine ds_cons ?_
  refine ds_if ?_
  refine dt_ne (hr.units) ?_
  refine de_add ?_
  refine de_name 3 ?_
  refine de_lc 4 rfl sc__law_right.nd (blkOk_by (N := ["_law_source_here", "_law_road_here", "_law_dot_here", "_law_told_here", "_law_door", "_law_wrong", "_law_bad", "_law_odd", "_law_spot"]) (sc := defScope s__law_right) (by decide +kernel)) ?_ (fun _ _ _ _ _ => pg_name sc__law_right.nd rfl (Or.inl rfl))
  refine di_tup ?_
  refine de_tup ?_
  refine da_cons ?_
  refine de_int ?_
  refine da_cons ?_
  refine de_int ?_
  refine da_cons ?_
  refine de_int ?_
  refine da_nil ?_
  refine ⟨by walk_at "len", ?_⟩
  refine ⟨_, rfl, ?_⟩
  refine ⟨fun k acc S' => S0 = S' ∧ acc = List.replicate k (D.str "fine"), ⟨rfl, rfl⟩, fun k9 d9 acc S' p hk hP hp hl s5 H5 C5 cl5 fp5 => ?_, (by decide), fun acc S' hl hP => ?_⟩
  · obtain ⟨rfl, rfl⟩ := hP
    obtain ⟨j9, rfl, hj9, hAs9, hT9⟩ := drs_fine hR hAx (fun _ _ e => by cases e; exact ⟨bx.up (by decide), by'.up (by decide)⟩) rfl _ (List.mem_of_getElem? hk)
    refine de_call c__law_told gd (hr.mono (by decide)) ?_
    refine da_cons ?_
    refine de_name 4 ?_
    refine da_cons ?_
    refine de_name 1 ?_
    refine da_cons ?_
    refine de_name 2 ?_
    refine da_nil ?_
    refine ⟨j9, hj9, _, _, (.str "fine"), rfl, hAs9, sh44 hsr hsd, ?_⟩
    exact ⟨_, rfl, rfl, by rw [List.replicate_succ', hT9]⟩
  obtain ⟨rfl, rfl⟩ := hP
  first | refine add_int ?_ | refine add_lst ?_ (by walk_at "len") | refine add_tup ?_ (by walk_at "len3") | refine add_scr ?_ (by walk_at "len") | refine (show addP (.str _) (.str _) _ _ from ⟨by decide +kernel, ?_⟩)
  refine de_mul ?_
  refine de_lst ?_
  refine da_cons ?_
  refine de_str ?_
  refine da_nil ?_
  refine ⟨by walk_at "len", ?_⟩
  refine de_int ?_
  refine mul_l ?_ ⟨by decide, by decide, by first | decide | (simp only [List.length_cons, List.length_nil]; decide)⟩
  refine eqP_same rfl (by decide +kernel) ?_
  refine ⟨fun ht => ?_, fun ht => ?_⟩
  · cases ht
  refine ds_nil ?_
  refine ds_cons ?_
  refine ds_setLc 5 6 rfl sc__law_right.nd rfl rfl (sw_true rfl rfl rfl (by decide +kernel)) (blkOk_by (N := ["_law_source_here", "_law_road_here", "_law_dot_here", "_law_told_here", "_law_door", "_law_wrong", "_law_bad", "_law_odd", "_law_spot"]) (sc := defScope s__law_right) (by decide +kernel)) ?_ (fun _ _ _ _ _ => pg_name sc__law_right.nd rfl (Or.inl rfl))
  refine di_tup ?_
  refine de_tup ?_
  refine da_cons ?_
  refine de_non ?_
  refine da_cons ?_
  refine de_bl ?_
  refine da_cons ?_
  refine de_int ?_
  refine da_cons ?_
  refine de_str ?_
  refine da_cons ?_
  refine de_tup ?_
  refine da_nil ?_
  refine ⟨by walk_at "len", ?_⟩
  refine da_cons ?_
  refine de_dic0 ?_
  refine da_cons ?_
  refine de_T call_tuple_of n_tuple bt_tuple ?_
  refine da_cons ?_
  refine de_name 1 ?_
  refine da_nil ?_
  first | refine drc_tuple ?_ | refine drc_tupleO getS_hd ?_
  refine da_cons ?_
  refine de_str ?_
  refine da_cons ?_
  refine de_tup ?_
  refine da_cons ?_
  refine de_int ?_
  refine da_cons ?_
  refine de_int ?_
  refine da_cons ?_
  refine de_int ?_
  refine da_nil ?_
  refine ⟨by walk_at "len", ?_⟩
  refine da_cons ?_
  refine de_mul ?_
  refine de_lst ?_
  refine da_cons ?_
  refine de_tup ?_
  refine da_cons ?_
  refine de_int ?_
  refine da_cons ?_
  refine de_int ?_
  refine da_cons ?_
  refine de_int ?_
  refine da_nil ?_
  refine ⟨by walk_at "len", ?_⟩
  refine da_nil ?_
  refine ⟨by walk_at "len", ?_⟩
  refine de_int ?_
  refine mul_l ?_ ⟨by decide, by decide, by first | decide | (simp only [List.length_cons, List.length_nil]; decide)⟩
  refine da_nil ?_
  refine ⟨by walk_at "len", ?_⟩
  refine ⟨_, rfl, ?_⟩
  refine ⟨fun k acc S' => S0 = S' ∧ acc.length = k ∧ ∀ x ∈ acc, WrP P w K x, ⟨rfl, rfl, fun _ z => nomatch z⟩, fun k9 d9 acc S' p hk hP hp hl s5 H5 C5 cl5 fp5 => ?_, (Nat.le_of_ble_eq_true rfl), fun acc S' hl hP => ?_⟩
  · obtain ⟨rfl, hl9, hall⟩ := hP
    have hW : WrD P w K d9 .non := ((fa_cons (wrD_pl (by decide +kernel)) (fa_cons (wrD_pl (by decide +kernel)) (fa_cons (wrD_pl (by decide +kernel)) (fa_cons (wrD_pl (by decide +kernel)) (fa_cons (wrD_pl (by decide +kernel)) (fa_cons wrD_dic (fa_cons (wrD_tup hK hl8) (fa_cons (wrD_pl (by decide +kernel)) (fa_cons (wrD_pl (by decide +kernel)) (fa_cons (wrD_manyF (by decide) Any.i3 (shw_i3 (by unfold Bd; decide +kernel) (by unfold Bd; decide +kernel) (by unfold Bd; decide +kernel))) fa_nil)))))))))) : ∀ x ∈ _, WrD P w K x .non) _ (List.mem_of_getElem? hk)
    refine de_tup ?_
    refine da_cons ?_
    refine de_name 6 ?_
    refine da_cons ?_
    refine de_non ?_
    refine da_nil ?_
    refine ⟨by walk_at "len", ?_⟩
    exact ⟨_, rfl, rfl, by rw [List.length_append, hl9] <;> rfl, fun x hx => (List.mem_append.mp hx).elim (hall x) fun z => by rw [List.mem_singleton.mp z]; exact ⟨_, _, rfl, hW⟩⟩
  obtain ⟨rfl, hl3, hall3⟩ := hP
  have hl3 : acc.length = 10 := hl3
  refine ds_nrm ?_
  refine ds_cons ?_
  refine ds_asg (h := ?_)
  refine de_addO ?_
  refine de_name 5 ?_
  refine de_lst ?_
  refine da_cons ?_
  refine de_tup ?_
  refine da_cons ?_
  refine de_mul ?_
  refine de_lst ?_
  refine da_cons ?_
  refine de_non ?_
  refine da_nil ?_
  refine ⟨by walk_at "len", ?_⟩
  refine de_int ?_
  refine mul_l ?_ ⟨by decide, by decide, by first | decide | (simp only [List.length_cons, List.length_nil]; decide)⟩
  refine da_cons ?_
  refine de_non ?_
  refine da_nil ?_
  refine ⟨by walk_at "len", ?_⟩
  refine da_cons ?_
  refine de_tup ?_
  refine da_cons ?_
  refine de_excV o_TurnError ?_
  refine da_cons ?_
  refine de_non ?_
  refine da_nil ?_
  refine ⟨by walk_at "len", ?_⟩
  refine da_nil ?_
  refine ⟨by walk_at "len", ?_⟩
  refine ⟨_, _, rfl, rfl, by walk_at "len", fun p3 hp3 => ?_⟩
  refine dg_name 5 ?_ sc__law_right.nd
  have hne : p3 ≠ pp := fun z => by rw [z, hg] at hp3; cases hp3
  refine ds_cons ?_
  refine ds_forG (γ := Unit) [7, 8] PassesOwn.never rfl ?_
  refine di_lst ?_
  refine de_add ?_
  refine de_call0 c__law_odd_items gd (hr.mono (by decide)) ?_
  refine ⟨rfl, fun lg hlg hln => ?_⟩
  refine de_lst ?_
  refine da_cons ?_
  refine de_excV o_TurnError ?_
  refine da_nil ?_
  refine ⟨by walk_at "len", ?_⟩
  first | refine add_int ?_ | refine add_lst ?_ (by walk_at "len") | refine add_tup ?_ (by walk_at "len3") | refine add_scr ?_ (by walk_at "len") | refine (show addP (.str _) (.str _) _ _ from ⟨by decide +kernel, ?_⟩)
  refine ⟨_, rfl, ?_⟩
  refine ⟨fun _ => [], _, fun _ => (by dsimp only [putU, fgt, List.set]), fun i _ S' => ∃ (W : List D) (l' : List D), S' = (p3, W) :: setS pp l' S0 ∧ (∀ x ∈ W, WrP P w K x) ∧ W.length ≤ 20 + 2 * i ∧ Src (m + i) l' ∧ getS pp (setS pp l' S0) = some l', (), by walk_at "wk", ⟨_, l, by rw [setS_self hg] <;> rfl, (mem_app hall3 (fa_cons ⟨_, _, rfl, wrD_manyF (by decide) hAn (plB_shw (by decide +kernel))⟩ (fa_cons ⟨_, _, rfl, (wrD_exc x_TurnError v_TurnError e_TurnError (by decide +kernel))⟩ fa_nil))), by rw [List.length_append, hl3]; (show 10 + 2 ≤ 20 + 2 * 0); decide, hS, by rw [setS_self hg] <;> exact hg⟩, fun i1 d1 g1 S1 hi1 hP1 => ?_, fun g1 S1 hP1 => ?_⟩
  · obtain ⟨W, l', rfl, hW9, hWl, hS', hg'⟩ := hP1
    have hN : OddI P w K d1 := fa_app hlg (fa_cons (oddI_exc x_TurnError v_TurnError e_TurnError (by decide +kernel)) fa_nil) _ (List.mem_of_getElem? hi1)
    have hi9 : i1 < 101 := by have z := (List.getElem?_eq_some_iff.mp hi1).1; rw [List.length_append] at z; have : i1 < lg.length + 1 := z; omega
    refine dg_name 7 ?_ sc__law_right.nd
    refine ds_cons ?_
    refine ds_asg (h := ?_)
    refine de_call c__law_draw gd (hr.mono (by decide)) ?_
    refine da_cons ?_
    refine de_name 0 ?_
    refine da_cons ?_
    refine de_add ?_
    refine de_B call_len_seq n_len bt_len ?_
    refine da_cons ?_
    refine de_name 1 ?_
    refine da_nil ?_
    refine drc_len ?_
    walk_at "lenP"
    refine de_int ?_
    first | refine add_int ?_ | refine add_lst ?_ (by walk_at "len") | refine add_tup ?_ (by walk_at "len3") | refine add_scr ?_ (by walk_at "len") | refine (show addP (.str _) (.str _) _ _ from ⟨by decide +kernel, ?_⟩)
    refine da_nil ?_
    refine ⟨_, _, _, _, rfl, (by walk_at "gets"), (by assumption), (by walk_at "m"), (by walk_at "pos"), (by walk_at "bdu"), fun r9 l9 hr9 hn9 hs9 => ?_⟩
    walk_at "sets2"
    obtain ⟨hc1, hc2⟩ := cut44 hl8 hr9 hn9
    refine dg_name 8 ?_ sc__law_right.nd
    refine ds_cons ?_
    refine ds_expr (h := ?_)
    refine de_append ?_
    refine de_name 5 ?_
    refine ⟨_, _, rfl, (by walk_at "gets"), ?_⟩
    refine da_cons ?_
    refine de_tup ?_
    refine da_cons ?_
    refine de_add ?_
    refine de_add ?_
    refine de_slice ?_
    refine de_name 1 ?_
    refine do_none ?_
    refine do_some ?_
    refine de_name 8 ?_
    refine ⟨rfl, _, rfl, ?_⟩
    walk_at "slice"
    refine de_lst ?_
    refine da_cons ?_
    refine de_name 7 ?_
    refine da_nil ?_
    refine ⟨by walk_at "len", ?_⟩
    first | refine add_int ?_ | refine add_lst ?_ (by walk_at "len") | refine add_tup ?_ (by walk_at "len3") | refine add_scr ?_ (by walk_at "len") | refine (show addP (.str _) (.str _) _ _ from ⟨by decide +kernel, ?_⟩)
    refine de_slice ?_
    refine de_name 1 ?_
    refine do_some ?_
    refine de_name 8 ?_
    refine ⟨rfl, _, rfl, ?_⟩
    refine do_none ?_
    walk_at "slice"
    first | refine add_int ?_ | refine add_lst ?_ (by walk_at "len") | refine add_tup ?_ (by walk_at "len3") | refine add_scr ?_ (by walk_at "len") | refine (show addP (.str _) (.str _) _ _ from ⟨by decide +kernel, ?_⟩)
    refine da_cons ?_
    refine de_name 8 ?_
    refine da_nil ?_
    refine ⟨by walk_at "len", ?_⟩
    refine da_nil ?_
    refine ⟨_, _, rfl, (by walk_at "gets"), (by walk_at "len"), ?_⟩
    walk_at "sets"
    refine ds_cons ?_
    refine ds_expr (h := ?_)
    refine de_append ?_
    refine de_name 5 ?_
    refine ⟨_, _, rfl, (by walk_at "gets"), ?_⟩
    refine da_cons ?_
    refine de_tup ?_
    refine da_cons ?_
    refine de_add ?_
    refine de_add ?_
    refine de_slice ?_
    refine de_name 1 ?_
    refine do_none ?_
    refine do_some ?_
    refine de_name 8 ?_
    refine ⟨rfl, _, rfl, ?_⟩
    walk_at "slice"
    refine de_lst ?_
    refine da_cons ?_
    refine de_name 7 ?_
    refine da_cons ?_
    refine de_non ?_
    refine da_nil ?_
    refine ⟨by walk_at "len", ?_⟩
    first | refine add_int ?_ | refine add_lst ?_ (by walk_at "len") | refine add_tup ?_ (by walk_at "len3") | refine add_scr ?_ (by walk_at "len") | refine (show addP (.str _) (.str _) _ _ from ⟨by decide +kernel, ?_⟩)
    refine de_slice ?_
    refine de_name 1 ?_
    refine do_some ?_
    refine de_name 8 ?_
    refine ⟨rfl, _, rfl, ?_⟩
    refine do_none ?_
    walk_at "slice"
    first | refine add_int ?_ | refine add_lst ?_ (by walk_at "len") | refine add_tup ?_ (by walk_at "len3") | refine add_scr ?_ (by walk_at "len") | refine (show addP (.str _) (.str _) _ _ from ⟨by decide +kernel, ?_⟩)
    refine da_cons ?_
    refine de_name 8 ?_
    refine da_nil ?_
    refine ⟨by walk_at "len", ?_⟩
    refine da_nil ?_
    refine ⟨_, _, rfl, (by walk_at "gets"), (by walk_at "len"), ?_⟩
    walk_at "sets"
    refine ds_nil ?_
    exact ⟨(), by walk_at "wk", _, _, rfl, mem_app (mem_app hW9 (fa_cons (wrP_mix hR (by assumption) (by assumption) hN (r := []) fa_nil (by decide)) fa_nil)) (fa_cons (wrP_mix hR (by assumption) (by assumption) hN (r := [.non]) (fa_cons ⟨hAn, plB_shw (by decide +kernel)⟩ fa_nil) (by decide)) fa_nil), by rw [List.length_append, List.length_append]; (show _ + 1 + 1 ≤ _); omega, (by assumption : Src (_ + 1) _).up (by omega), getS_setS_same hg⟩
  obtain ⟨W, l7, rfl, hW9, hWl, hS7, hg7⟩ := hP1
  have hl104 : (lg ++ [excV C_TurnError ("2/1/0" : Str)]).length ≤ 101 := by rw [List.length_append]; (show _ + 1 ≤ _); omega
  refine ds_freeze 5 rfl (ds_nrm ?_) rfl
  refine ds_cons ?_
  refine ds_forG (γ := Unit) [3, 6, 8] PassesOwn.never rfl ?_
  refine di_lst ?_
  refine de_name 5 ?_
  refine ⟨_, rfl, ?_⟩
  refine ⟨fun _ => [], _, fun _ => (by dsimp only [putU, fgt, List.set]), fun i _ S' => setS pp l7 S0 = S', (), by walk_at "wk", rfl, fun i2 d2 g2 S2 hi2 hP2 => ?_, fun g2 S2 hP2 => ?_⟩
  · subst hP2
    obtain ⟨bd, sp, rfl, hW⟩ := hW9 d2 (List.mem_of_getElem? hi2)
    first | refine dg_tup rfl rfl ?_ | refine dg_tupL rfl rfl ?_ (fun h => pg_lst rfl h)
    refine dgs_cons (h := ?_)
    refine dg_name 6 ?_ sc__law_right.nd
    refine dgs_cons (h := ?_)
    refine dg_name 8 ?_ sc__law_right.nd
    refine dgs_nil ?_
    refine ds_cons ?_
    refine ds_setLc 3 4 rfl sc__law_right.nd rfl rfl (sw_true rfl rfl rfl (by decide +kernel)) (blkOk_by (N := ["_law_source_here", "_law_road_here", "_law_dot_here", "_law_told_here", "_law_door", "_law_wrong", "_law_bad", "_law_odd", "_law_spot"]) (sc := defScope s__law_right) (by decide +kernel)) ?_ (fun _ _ _ _ _ => pg_name sc__law_right.nd rfl (Or.inl rfl))
    refine di_tup ?_
    refine de_tup ?_
    refine da_cons ?_
    refine de_int ?_
    refine da_cons ?_
    refine de_int ?_
    refine da_cons ?_
    refine de_int ?_
    refine da_nil ?_
    refine ⟨by walk_at "len", ?_⟩
    refine ⟨_, rfl, ?_⟩
    refine ⟨fun k acc S' => setS pp l7 S0 = S' ∧ acc = List.replicate k (D.tup [.str "road", sp]), ⟨rfl, rfl⟩, fun k9 d9 acc S' p hk hP hp hl s5 H5 C5 cl5 fp5 => ?_, (by decide), fun acc S' hl hP => ?_⟩
    · obtain ⟨rfl, rfl⟩ := hP
      obtain ⟨j9, rfl, hj9, hAs9, hT9⟩ := drs_wr1 hW hAx (fun _ _ e => by cases e; exact ⟨bx.up (by decide), by'.up (by decide)⟩) _ (List.mem_of_getElem? hk)
      refine de_call c__law_told gd (hr.mono (by decide)) ?_
      refine da_cons ?_
      refine de_name 4 ?_
      refine da_cons ?_
      refine de_name 6 ?_
      refine da_cons ?_
      refine de_name 2 ?_
      refine da_nil ?_
      refine ⟨j9, hj9, _, _, (.str "fine"), rfl, hAs9, sh44 hW.s hsd, ?_⟩
      exact ⟨_, rfl, rfl, by rw [List.replicate_succ', hT9]⟩
    obtain ⟨rfl, rfl⟩ := hP
    refine ds_nrm ?_
    refine ds_cons ?_
    refine ds_if ?_
    refine dt_ne (hr.units) ?_
    refine de_add ?_
    refine de_name 3 ?_
    refine de_lc 4 rfl sc__law_right.nd (blkOk_by (N := ["_law_source_here", "_law_road_here", "_law_dot_here", "_law_told_here", "_law_door", "_law_wrong", "_law_bad", "_law_odd", "_law_spot"]) (sc := defScope s__law_right) (by decide +kernel)) ?_ (fun _ _ _ _ _ => pg_name sc__law_right.nd rfl (Or.inl rfl))
    refine di_tup ?_
    refine de_tup ?_
    refine da_cons ?_
    refine de_int ?_
    refine da_cons ?_
    refine de_int ?_
    refine da_cons ?_
    refine de_int ?_
    refine da_cons ?_
    refine de_int ?_
    refine da_cons ?_
    refine de_int ?_
    refine da_nil ?_
    refine ⟨by walk_at "len", ?_⟩
    refine ⟨_, rfl, ?_⟩
    refine ⟨fun k acc S' => setS pp l7 S0 = S' ∧ acc = List.replicate k (D.tup [.str "road", sp]), ⟨rfl, rfl⟩, fun k9 d9 acc S' p hk hP hp hl s5 H5 C5 cl5 fp5 => ?_, (by decide), fun acc S' hl hP => ?_⟩
    · obtain ⟨rfl, rfl⟩ := hP
      obtain ⟨j9, rfl, hj9, hAs9, hT9⟩ := drs_wr2 hW hAn (fun _ _ e => nomatch e) _ (List.mem_of_getElem? hk)
      refine de_call c__law_told gd (hr.mono (by decide)) ?_
      refine da_cons ?_
      refine de_name 4 ?_
      refine da_cons ?_
      refine de_name 6 ?_
      refine da_cons ?_
      refine de_non ?_
      refine da_nil ?_
      refine ⟨j9, hj9, _, _, (.str "fine"), rfl, hAs9, sh44 hW.s hsn, ?_⟩
      exact ⟨_, rfl, rfl, by rw [List.replicate_succ', hT9]⟩
    obtain ⟨rfl, rfl⟩ := hP
    first | refine add_int ?_ | refine add_lst ?_ (by walk_at "len") | refine add_tup ?_ (by walk_at "len3") | refine add_scr ?_ (by walk_at "len") | refine (show addP (.str _) (.str _) _ _ from ⟨by decide +kernel, ?_⟩)
    refine de_mul ?_
    refine de_lst ?_
    refine da_cons ?_
    refine de_tup ?_
    refine da_cons ?_
    refine de_str ?_
    refine da_cons ?_
    refine de_name 8 ?_
    refine da_nil ?_
    refine ⟨by walk_at "len", ?_⟩
    refine da_nil ?_
    refine ⟨by walk_at "len", ?_⟩
    refine de_int ?_
    refine mul_l ?_ ⟨by decide, by decide, by first | decide | (simp only [List.length_cons, List.length_nil]; decide)⟩
    refine eqP_same rfl (flat_rd hW.v) ?_
    refine ⟨fun ht => ?_, fun ht => ?_⟩
    · cases ht
    refine ds_nil ?_
    refine ds_cons ?_
    refine ds_if ?_
    refine dt_w ?_
    refine dw_or ?_
    refine dt_ne (hr.units) ?_
    refine de_call c__law_told gd (hr.mono (by decide)) ?_
    refine da_cons ?_
    refine de_int ?_
    refine da_cons ?_
    refine de_name 6 ?_
    refine da_cons ?_
    refine de_non ?_
    refine da_nil ?_
    refine ⟨0, by decide, _, _, (.str "fine"), rfl, ⟨hW.a, rfl⟩, sh44 hW.s hsn, ?_⟩
    refine de_str ?_
    rw [told44_0]
    refine eq_strT rfl ?_
    refine ⟨fun hb => ?_, fun hb => ?_⟩
    · cases hb
    refine dw_or1 ?_
    refine dt_ne (hr.units) ?_
    refine de_call c__law_told gd (hr.mono (by decide)) ?_
    refine da_cons ?_
    refine de_int ?_
    refine da_cons ?_
    refine de_tup ?_
    refine da_cons ?_
    refine de_int ?_
    refine da_cons ?_
    refine de_int ?_
    refine da_cons ?_
    refine de_int ?_
    refine da_nil ?_
    refine ⟨by walk_at "len", ?_⟩
    refine da_cons ?_
    refine de_name 6 ?_
    refine da_nil ?_
    refine ⟨7, by decide, _, _, (.str "fine"), rfl, ⟨Any.i3, hW.a, fewW_no hW.e, rfl⟩, sh44 hst hW.s, ?_⟩
    refine de_str ?_
    rw [told44_37 (.inr rfl) (by decide +kernel)]
    refine eq_strT rfl ?_
    refine ⟨fun ht => ?_, fun ht => ?_⟩
    · cases ht
    refine ds_nil ?_
    refine ds_nil ?_
    exact ⟨(), by walk_at "wk", rfl⟩
  subst hP2
  refine ds_cons ?_
  refine ds_forG (γ := Unit) [6] PassesOwn.never rfl ?_
  refine di_lst ?_
  refine de_add ?_
  refine de_call0 c__law_odd_dots gd (hr.mono (by decide)) ?_
  refine ⟨rfl, fun ld hld hldn => ?_⟩
  refine de_lst ?_
  refine da_cons ?_
  refine de_excV o_TurnError ?_
  refine da_nil ?_
  refine ⟨by walk_at "len", ?_⟩
  first | refine add_int ?_ | refine add_lst ?_ (by walk_at "len") | refine add_tup ?_ (by walk_at "len3") | refine add_scr ?_ (by walk_at "len") | refine (show addP (.str _) (.str _) _ _ from ⟨by decide +kernel, ?_⟩)
  refine ⟨_, rfl, ?_⟩
  refine ⟨fun _ => [], _, fun _ => (by dsimp only [putU, fgt, List.set]), fun i _ S' => setS pp l7 S0 = S', (), by walk_at "wk", rfl, fun i3 d3 g3 S3 hi3 hP3 => ?_, fun g3 S3 hP3 => ?_⟩
  · subst hP3
    have hM : OddP P w K d3 := fa_app hld (fa_cons (oddP_exc x_TurnError v_TurnError e_TurnError (by decide +kernel)) fa_nil) _ (List.mem_of_getElem? hi3)
    refine dg_name 6 ?_ sc__law_right.nd
    refine ds_cons ?_
    refine ds_if ?_
    refine dt_ne (hr.units) ?_
    refine de_lc 4 rfl sc__law_right.nd (blkOk_by (N := ["_law_source_here", "_law_road_here", "_law_dot_here", "_law_told_here", "_law_door", "_law_wrong", "_law_bad", "_law_odd", "_law_spot"]) (sc := defScope s__law_right) (by decide +kernel)) ?_ (fun _ _ _ _ _ => pg_name sc__law_right.nd rfl (Or.inl rfl))
    refine di_tup ?_
    refine de_tup ?_
    refine da_cons ?_
    refine de_int ?_
    refine da_cons ?_
    refine de_int ?_
    refine da_cons ?_
    refine de_int ?_
    refine da_nil ?_
    refine ⟨by walk_at "len", ?_⟩
    refine ⟨_, rfl, ?_⟩
    refine ⟨fun k acc S' => setS pp l7 S0 = S' ∧ acc = List.replicate k (D.str "dot"), ⟨rfl, rfl⟩, fun k9 d9 acc S' p hk hP hp hl s5 H5 C5 cl5 fp5 => ?_, (by decide), fun acc S' hl hP => ?_⟩
    · obtain ⟨rfl, rfl⟩ := hP
      obtain ⟨j9, rfl, hj9, hAs9, hT9⟩ := drs_dot hR hM.a (fun x9 y9 e => by have := hM.n; rw [e] at this; cases this) hM.n _ (List.mem_of_getElem? hk)
      refine de_call c__law_told gd (hr.mono (by decide)) ?_
      refine da_cons ?_
      refine de_name 4 ?_
      refine da_cons ?_
      refine de_name 1 ?_
      refine da_cons ?_
      refine de_name 6 ?_
      refine da_nil ?_
      refine ⟨j9, hj9, _, _, (.str "fine"), rfl, hAs9, sh44 hsr (sh9_up (sh9_of hM.s) (by decide)), ?_⟩
      exact ⟨_, rfl, rfl, by rw [List.replicate_succ', hT9]⟩
    obtain ⟨rfl, rfl⟩ := hP
    refine de_mul ?_
    refine de_lst ?_
    refine da_cons ?_
    refine de_str ?_
    refine da_nil ?_
    refine ⟨by walk_at "len", ?_⟩
    refine de_int ?_
    refine mul_l ?_ ⟨by decide, by decide, by first | decide | (simp only [List.length_cons, List.length_nil]; decide)⟩
    refine eqP_same rfl (by decide +kernel) ?_
    refine ⟨fun ht => ?_, fun ht => ?_⟩
    · cases ht
    refine ds_nil ?_
    refine ds_nil ?_
    exact ⟨(), by walk_at "wk", rfl⟩
  subst hP3
  refine ds_cons ?_
  refine ds_ret ?_
  refine de_bl ?_
  exact qq _ (hS7.up (by omega))
abbrev s_law : Stmt := top 60
theorem sc_law : FnScope ["_law_script", "_law_k", "_law_entry", "_law_source_here", "_law_bad", "_law_told_here", "_law_spin", "_law_great", "_law_some"] ["_law_script"] (defScope s_law) := ⟨rfl, rfl, rfl, by decide +kernel, rfl, by decide +kernel, by decide +kernel⟩
set_option maxHeartbeats 40000000 in
theorem ok_law {f : Addr} {fd : FuncData} (F : Fun K "law" "law" s_law f fd) {cd_TurnError : PySem.ClassData} {C_TurnError : Addr} (c__law_dot : Cal P w K mg base 2 "_law_dot" ["_law_source_here", "_law_wide"] [] con_dot) (c__law_draw : Cal P w K mg base 1 "_law_draw" ["_law_source_here", "_law_count"] [] con_draw) (c__law_odd_spins : Cal P w K mg base 1 "_law_odd_spins" [] [] (con_oddSs P w K)) (c__law_right : Cal P w K mg base 13 "_law_right" ["_law_source_here", "_law_road_here", "_law_dot_here"] [] con_r44) (c__law_road : Cal P w K mg base 2 "_law_road" ["_law_source_here", "_law_many", "_law_most"] [] con_road44) (c__law_source : Cal P w K mg base 1 "_law_source" ["_law_entry", "_law_k"] [] con_source) (c__law_told : Cal P w K mg base 12 "_law_told" ["_law_door", "_law_one", "_law_two"] [] (con_told44 P w K)) (e_TurnError : ExcK K C_TurnError cd_TurnError) (n_enumerate : mg "enumerate" = none) (n_len : mg "len" = none) (n_max : mg "max" = none) (n_min : mg "min" = none) (o_TurnError : OwnErr K mg "TurnError" C_TurnError) (v_TurnError : KOdd K C_TurnError) (x_TurnError : L2.ExcC K C_TurnError) : GOk P w K mg base 14 f fd ["_law_script"] (spD K (conLaw 63)) := by
  refine gok_ds F sc_law (m := 8) rfl (fun ds S0 Q h => ?_) fun cdv A fr s0 H0 E0' gd hr ds S0 Q h => ?_
  · obtain ⟨_, _, rfl, _⟩ := h
    rfl
  obtain ⟨ns, hns, rfl, rfl, qq⟩ := h
  refine ds_nrm ?_ (by set_option simprocs false in dsimp only [List.map, List.replicate, List.cons_append, List.nil_append])
  refine ds_cons ?_
  refine ds_forG (γ := Unit) [1, 2, 3] PassesOwn.never rfl ?_
  refine di_enum n_enumerate ?_
  refine da_cons ?_
  refine de_slice ?_
  refine de_add ?_
  refine de_name 0 ?_
  refine de_lst ?_
  refine da_cons ?_
  refine de_int ?_
  refine da_nil ?_
  refine ⟨by walk_at "len", ?_⟩
  first | refine add_int ?_ | refine add_lst ?_ (by walk_at "len") | refine add_tup ?_ (by walk_at "len3") | refine add_scr ?_ (by walk_at "len") | refine (show addP (.str _) (.str _) _ _ from ⟨by decide +kernel, ?_⟩)
  refine do_none ?_
  refine do_some ?_
  refine de_B (call_max2 rfl) n_max bt_max ?_
  refine da_cons ?_
  refine de_int ?_
  refine da_cons ?_
  refine de_B (call_min2 rfl) n_min bt_min ?_
  refine da_cons ?_
  refine de_B call_len_seq n_len bt_len ?_
  refine da_cons ?_
  refine de_name 0 ?_
  refine da_nil ?_
  refine drc_len ?_
  walk_at "lenP"
  refine da_cons ?_
  refine de_int ?_
  refine da_nil ?_
  refine drc_min ?_
  refine da_nil ?_
  refine drc_max ?_
  refine ⟨rfl, _, rfl, ?_⟩
  walk_at "slice"
  refine da_nil ?_
  refine ⟨_, rfl, ?_⟩
  refine ⟨fun _ => [], _, fun _ => (by dsimp only [putU, fgt, List.set]), fun i _ S' => [] = S', (), by walk_at "wk", rfl, fun i1 d1 g1 S1 hi1 hP1 => ?_, fun g1 S1 hP1 => ?_⟩
  · subst hP1
    obtain ⟨hi64, e, rfl⟩ := scr_turn (by refine ⟨?_, ?_⟩ <;> split <;> (try split) <;> omega) hi1
    first | refine dg_tup rfl rfl ?_ | refine dg_tupL rfl rfl ?_ (fun h => pg_lst rfl h)
    refine dgs_cons (h := ?_)
    refine dg_name 1 ?_ sc_law.nd
    refine dgs_cons (h := ?_)
    refine dg_name 2 ?_ sc_law.nd
    refine dgs_nil ?_
    refine ds_cons ?_
    refine ds_asg (h := ?_)
    refine de_call c__law_source gd (hr.mono (by decide)) ?_
    refine da_cons ?_
    refine de_name 2 ?_
    refine da_cons ?_
    refine de_name 1 ?_
    refine da_nil ?_
    refine ⟨_, _, rfl, (by walk_at "rng"), fun p1 l1 hp1 hs1 => ?_⟩
    refine dg_name 3 ?_ sc_law.nd
    refine ds_cons ?_
    refine ds_if ?_
    refine dt_not ?_
    refine dt_val (h := ?_)
    refine de_call c__law_right gd (hr.mono (by decide)) ?_
    refine da_cons ?_
    refine de_name 3 ?_
    refine da_cons ?_
    refine de_call c__law_road gd (hr.mono (by decide)) ?_
    refine da_cons ?_
    refine de_name 3 ?_
    refine da_cons ?_
    refine de_call c__law_draw gd (hr.mono (by decide)) ?_
    refine da_cons ?_
    refine de_name 3 ?_
    refine da_cons ?_
    refine de_int ?_
    refine da_nil ?_
    refine ⟨_, _, _, _, rfl, (by walk_at "gets"), (by assumption), (by walk_at "m"), (by walk_at "pos"), (by walk_at "bdu"), fun r4 l4 hr4 hn4 hs4 => ?_⟩
    walk_at "sets"
    refine da_cons ?_
    refine de_int ?_
    refine da_nil ?_
    refine ⟨_, _, _, _, _, rfl, (by walk_at "gets"), (by assumption), (by walk_at "m"), ⟨by omega, by omega⟩, rfl, fun ks3 l3 hk3 hs3 => ?_⟩
    walk_at "sets"
    refine da_cons ?_
    refine de_call c__law_dot gd (hr.mono (by decide)) ?_
    refine da_cons ?_
    refine de_name 3 ?_
    refine da_cons ?_
    refine de_pow ?_
    refine de_int ?_
    refine de_int ?_
    refine ⟨_, _, rfl, rfl, (by walk_at "cpw"), ?_⟩
    refine da_nil ?_
    refine ⟨_, _, _, _, rfl, (by walk_at "gets"), (by assumption), (by walk_at "m"), (by walk_at "pos"), (by walk_at "bdu"), fun x5 y5 l5 hx5 hy5 hs5 => ?_⟩
    have bx5 := Bd.of_abs hx5.1 hx5.2 (by walk_at "bd")
    have by5 := Bd.of_abs hy5.1 hy5.2 (by walk_at "bd")
    walk_at "sets"
    refine da_nil ?_
    refine ⟨_, _, _, _, _, _, rfl, (by walk_at "gets"), (by assumption), (by omega), (by assumption), ⟨by walk_at "bdu", by walk_at "bdu"⟩, fun l2 hs2 => ?_⟩
    walk_at "sets"
    refine ⟨_, rfl, ?_⟩
    refine ⟨fun ht => ?_, fun ht => ?_⟩
    · cases ht
    refine ds_nil ?_
    refine ds_forget ?_ rfl
    refine ds_nil ?_
    exact ⟨(), by walk_at "wk", rfl⟩
  subst hP1
  refine ds_cons ?_
  refine ds_forG (γ := Unit) [4] PassesOwn.never rfl ?_
  refine di_lst ?_
  refine de_add ?_
  refine de_call0 c__law_odd_spins gd (hr.mono (by decide)) ?_
  refine ⟨rfl, fun lg hlg hln => ?_⟩
  refine de_lst ?_
  refine da_cons ?_
  refine de_excV o_TurnError ?_
  refine da_nil ?_
  refine ⟨by walk_at "len", ?_⟩
  first | refine add_int ?_ | refine add_lst ?_ (by walk_at "len") | refine add_tup ?_ (by walk_at "len3") | refine add_scr ?_ (by walk_at "len") | refine (show addP (.str _) (.str _) _ _ from ⟨by decide +kernel, ?_⟩)
  refine ⟨_, rfl, ?_⟩
  refine ⟨fun _ => [], _, fun _ => (by dsimp only [putU, fgt, List.set]), fun i _ S' => ([] : Sto) = S', (), by walk_at "wk", rfl, fun i2 d2 g2 S2 hi2 hP2 => ?_, fun g2 S2 hP2 => ?_⟩
  · subst hP2
    have hN : OddS P w K d2 := fa_app hlg (fa_cons (oddS_exc x_TurnError v_TurnError e_TurnError (by decide +kernel)) fa_nil) _ (List.mem_of_getElem? hi2)
    refine dg_name 4 ?_ sc_law.nd
    refine ds_cons ?_
    refine ds_if ?_
    refine dt_ne (hr.units) ?_
    refine de_lst ?_
    refine da_cons ?_
    refine de_call c__law_told gd (hr.mono (by decide)) ?_
    refine da_cons ?_
    refine de_int ?_
    refine da_cons ?_
    refine de_name 4 ?_
    refine da_cons ?_
    refine de_non ?_
    refine da_nil ?_
    refine ⟨3, by decide, _, _, (.str "fine"), rfl, ⟨hN.a, fun z => by rw [hN.n] at z; cases z⟩, sh44 (sh9_up (sh9_of hN.s) (by decide)) sh9_non, ?_⟩
    refine da_cons ?_
    refine de_call c__law_told gd (hr.mono (by decide)) ?_
    refine da_cons ?_
    refine de_int ?_
    refine da_cons ?_
    refine de_name 4 ?_
    refine da_cons ?_
    refine de_lst ?_
    refine da_nil ?_
    refine ⟨by walk_at "len", ?_⟩
    refine da_nil ?_
    refine ⟨7, by decide, _, _, (.str "fine"), rfl, ⟨hN.a, anyW_nil, fewW_nil, rfl⟩, sh44 (sh9_up (sh9_of hN.s) (by decide)) (sh9_pl (by decide +kernel)), ?_⟩
    refine da_cons ?_
    refine de_call c__law_told gd (hr.mono (by decide)) ?_
    refine da_cons ?_
    refine de_int ?_
    refine da_cons ?_
    refine de_name 4 ?_
    refine da_cons ?_
    refine de_non ?_
    refine da_nil ?_
    refine ⟨7, by decide, _, _, (.str "fine"), rfl, ⟨hN.a, anyW_non, fewW_non, rfl⟩, sh44 (sh9_up (sh9_of hN.s) (by decide)) sh9_non, ?_⟩
    refine da_nil ?_
    refine ⟨by walk_at "len", ?_⟩
    refine de_mul ?_
    refine de_lst ?_
    refine da_cons ?_
    refine de_str ?_
    refine da_nil ?_
    refine ⟨by walk_at "len", ?_⟩
    refine de_int ?_
    refine mul_l ?_ ⟨by decide, by decide, by first | decide | (simp only [List.length_cons, List.length_nil]; decide)⟩
    rw [told44_spin (.inl rfl) hN.n, told44_spin (.inr rfl) hN.n, told44_spin (.inr rfl) hN.n]
    refine eqP_same rfl (by decide +kernel) ?_
    refine ⟨fun ht => ?_, fun ht => ?_⟩
    · cases ht
    refine ds_nil ?_
    refine ds_nil ?_
    exact ⟨(), by walk_at "wk", rfl⟩
  subst hP2
  refine ds_cons ?_
  refine ds_setLc 5 6 rfl sc_law.nd rfl rfl (sw_true rfl rfl rfl (by decide +kernel)) (blkOk_by (N := ["_law_script", "_law_k", "_law_entry", "_law_source_here", "_law_bad", "_law_told_here", "_law_spin", "_law_great", "_law_some"]) (sc := defScope s_law) (by decide +kernel)) ?_ (fun _ _ _ _ _ => pg_name sc_law.nd rfl (Or.inl rfl))
  refine di_lst ?_
  refine de_lst ?_
  refine da_cons ?_
  refine de_tup ?_
  refine da_cons ?_
  refine de_pow ?_
  refine de_int ?_
  refine de_int ?_
  refine ⟨_, _, rfl, rfl, (by walk_at "cpw"), ?_⟩
  refine da_cons ?_
  refine de_int ?_
  refine da_cons ?_
  refine de_int ?_
  refine da_nil ?_
  refine ⟨by walk_at "len", ?_⟩
  refine da_cons ?_
  refine de_tup ?_
  refine da_cons ?_
  refine de_pow ?_
  refine de_int ?_
  refine de_int ?_
  refine ⟨_, _, rfl, rfl, (by walk_at "cpw"), ?_⟩
  refine da_cons ?_
  refine de_int ?_
  refine da_cons ?_
  refine de_int ?_
  refine da_nil ?_
  refine ⟨by walk_at "len", ?_⟩
  refine da_cons ?_
  refine de_tup ?_
  refine da_cons ?_
  refine de_int ?_
  refine da_cons ?_
  refine de_int ?_
  refine da_cons ?_
  refine de_int ?_
  refine da_nil ?_
  refine ⟨by walk_at "len", ?_⟩
  refine da_cons ?_
  refine de_tup ?_
  refine da_cons ?_
  refine de_int ?_
  refine da_cons ?_
  refine de_int ?_
  refine da_cons ?_
  refine de_int ?_
  refine da_nil ?_
  refine ⟨by walk_at "len", ?_⟩
  refine da_nil ?_
  refine ⟨by walk_at "len", ?_⟩
  refine ⟨_, rfl, ?_⟩
  refine ⟨fun k acc S' => ([] : Sto) = S' ∧ acc = vals44.take k, ⟨rfl, rfl⟩, fun k9 d9 acc S' p hk hP hp hl s5 H5 C5 cl5 fp5 => ?_, (Nat.le_of_ble_eq_true rfl), fun acc S' hl hP => ?_⟩
  · obtain ⟨rfl, rfl⟩ := hP
    obtain ⟨t9, rfl, hT9, hv9⟩ := sp44_at hk
    refine de_call c__law_told gd (hr.mono (by decide)) ?_
    refine da_cons ?_
    refine de_int ?_
    refine da_cons ?_
    refine de_name 6 ?_
    refine da_cons ?_
    refine de_non ?_
    refine da_nil ?_
    refine ⟨3, by decide, _, _, (rW t9), rfl, ⟨Any.i3, fun _ => ⟨t9, rfl, hT9, rfl⟩⟩, sh44 (sh9_up (sh9_of (shw_kw2 hT9)) (by decide)) sh9_non, ?_⟩
    exact ⟨_, rfl, rfl, by rw [told44_37 (.inl rfl) (show turnB (trD t9) = true from tn_turnB hT9), List.take_add_one, hv9] <;> rfl⟩
  obtain ⟨rfl, rfl⟩ := hP
  refine ds_nrm ?_
  refine ds_cons ?_
  refine ds_if ?_
  refine dt_ne (hr.units) ?_
  refine de_name 5 ?_
  refine de_add ?_
  refine de_mul ?_
  refine de_lst ?_
  refine da_cons ?_
  refine de_tup ?_
  refine da_cons ?_
  refine de_str ?_
  refine da_cons ?_
  refine de_pow ?_
  refine de_int ?_
  refine de_int ?_
  refine ⟨_, _, rfl, rfl, (by walk_at "cpw"), ?_⟩
  refine da_nil ?_
  refine ⟨by walk_at "len", ?_⟩
  refine da_nil ?_
  refine ⟨by walk_at "len", ?_⟩
  refine de_int ?_
  refine mul_l ?_ ⟨by decide, by decide, by first | decide | (simp only [List.length_cons, List.length_nil]; decide)⟩
  refine de_mul ?_
  refine de_lst ?_
  refine da_cons ?_
  refine de_str ?_
  refine da_nil ?_
  refine ⟨by walk_at "len", ?_⟩
  refine de_int ?_
  refine mul_l ?_ ⟨by decide, by decide, by first | decide | (simp only [List.length_cons, List.length_nil]; decide)⟩
  first | refine add_int ?_ | refine add_lst ?_ (by walk_at "len") | refine add_tup ?_ (by walk_at "len3") | refine add_scr ?_ (by walk_at "len") | refine (show addP (.str _) (.str _) _ _ from ⟨by decide +kernel, ?_⟩)
  refine eqP_same rfl (by decide +kernel) ?_
  refine ⟨fun ht => ?_, fun ht => ?_⟩
  · cases ht
  refine ds_nil ?_
  refine ds_cons ?_
  refine ds_asg (h := ?_)
  refine de_lst ?_
  refine da_cons ?_
  refine de_tup ?_
  refine da_cons ?_
  refine de_pow ?_
  refine de_int ?_
  refine de_int ?_
  refine ⟨_, _, rfl, rfl, (by walk_at "cpw"), ?_⟩
  refine da_cons ?_
  refine de_sub ?_
  refine de_pow ?_
  refine de_int ?_
  refine de_int ?_
  refine ⟨_, _, rfl, rfl, (by walk_at "cpw"), ?_⟩
  refine de_int ?_
  refine ⟨_, _, rfl, rfl, ?_⟩
  refine da_cons ?_
  refine de_int ?_
  refine da_nil ?_
  refine ⟨by walk_at "len", ?_⟩
  refine da_nil ?_
  refine ⟨by walk_at "len", ?_⟩
  refine dg_name 7 ?_ sc_law.nd
  refine ds_cons ?_
  refine ds_setLc 5 8 rfl sc_law.nd rfl rfl (sw_true rfl rfl rfl (by decide +kernel)) (blkOk_by (N := ["_law_script", "_law_k", "_law_entry", "_law_source_here", "_law_bad", "_law_told_here", "_law_spin", "_law_great", "_law_some"]) (sc := defScope s_law) (by decide +kernel)) ?_ (fun _ _ _ _ _ => pg_name sc_law.nd rfl (Or.inl rfl))
  refine di_tup ?_
  refine de_tup ?_
  refine da_cons ?_
  refine de_name 7 ?_
  refine da_cons ?_
  refine de_mul ?_
  refine de_name 7 ?_
  refine de_int ?_
  refine mul_l ?_ ⟨by decide, by decide, Nat.le_of_ble_eq_true rfl⟩
  refine da_cons ?_
  refine de_add ?_
  refine de_name 7 ?_
  refine de_lst ?_
  refine da_cons ?_
  refine de_tup ?_
  refine da_cons ?_
  refine de_pow ?_
  refine de_int ?_
  refine de_int ?_
  refine ⟨_, _, rfl, rfl, (by walk_at "cpw"), ?_⟩
  refine da_cons ?_
  refine de_sub ?_
  refine de_int ?_
  refine de_pow ?_
  refine de_int ?_
  refine de_int ?_
  refine ⟨_, _, rfl, rfl, (by walk_at "cpw"), ?_⟩
  refine ⟨_, _, rfl, rfl, ?_⟩
  refine da_cons ?_
  refine de_int ?_
  refine da_nil ?_
  refine ⟨by walk_at "len", ?_⟩
  refine da_nil ?_
  refine ⟨by walk_at "len", ?_⟩
  first | refine add_int ?_ | refine add_lst ?_ (by walk_at "len") | refine add_tup ?_ (by walk_at "len3") | refine add_scr ?_ (by walk_at "len") | refine (show addP (.str _) (.str _) _ _ from ⟨by decide +kernel, ?_⟩)
  refine da_nil ?_
  refine ⟨by walk_at "len", ?_⟩
  refine ⟨_, rfl, ?_⟩
  refine ⟨fun k acc S' => ([] : Sto) = S' ∧ acc = vals44b.take k, ⟨rfl, rfl⟩, fun k9 d9 acc S' p hk hP hp hl s5 H5 C5 cl5 fp5 => ?_, (Nat.le_of_ble_eq_true rfl), fun acc S' hl hP => ?_⟩
  · obtain ⟨rfl, rfl⟩ := hP
    obtain ⟨ks9, t9, rfl, hK9, hl9, hFB9, hv9⟩ := gr44_at hk
    refine de_call c__law_told gd (hr.mono (by decide)) ?_
    refine da_cons ?_
    refine de_int ?_
    refine da_cons ?_
    refine de_name 8 ?_
    refine da_cons ?_
    refine de_non ?_
    refine da_nil ?_
    refine ⟨1, by decide, _, _, (rB t9), rfl, ⟨anyW_kw hl9, fun _ => ⟨ks9, t9, rfl, hK9, hl9, hFB9, rfl⟩⟩, sh44 (sh9_kw hK9 hl9) sh9_non, ?_⟩
    exact ⟨_, rfl, rfl, by rw [told44_12 (.inl rfl) (wayE_way hK9 (by omega)), List.take_add_one, hv9] <;> rfl⟩
  obtain ⟨rfl, rfl⟩ := hP
  refine ds_nrm ?_
  refine ds_cons ?_
  refine ds_ret ?_
  refine de_and ?_
  refine de_eq (hr.units) ?_
  refine de_name 5 ?_
  refine de_lst ?_
  refine da_cons ?_
  refine de_str ?_
  refine da_cons ?_
  refine de_tup ?_
  refine da_cons ?_
  refine de_str ?_
  refine da_cons ?_
  refine de_pow ?_
  refine de_int ?_
  refine de_int ?_
  refine ⟨_, _, rfl, rfl, (by walk_at "cpw"), ?_⟩
  refine da_nil ?_
  refine ⟨by walk_at "len", ?_⟩
  refine da_cons ?_
  refine de_str ?_
  refine da_nil ?_
  refine ⟨by walk_at "len", ?_⟩
  refine eqP_same rfl (by decide +kernel) ?_
  refine ⟨_, rfl, fun hb => ?_, fun hb => ?_⟩
  · cases hb
  refine de_one ?_
  refine de_eq (hr.units) ?_
  refine de_call c__law_told gd (hr.mono (by decide)) ?_
  refine da_cons ?_
  refine de_int ?_
  refine da_cons ?_
  refine de_tup ?_
  refine da_cons ?_
  refine de_int ?_
  refine da_cons ?_
  refine de_int ?_
  refine da_cons ?_
  refine de_int ?_
  refine da_nil ?_
  refine ⟨by walk_at "len", ?_⟩
  refine da_cons ?_
  refine de_mul ?_
  refine de_name 7 ?_
  refine de_int ?_
  refine mul_l ?_ ⟨by decide, by decide, Nat.le_of_ble_eq_true rfl⟩
  refine da_nil ?_
  rw [g2_44]
  refine ⟨7, by decide, _, _, (.str "fine"), rfl, ⟨Any.i3, anyW_kw (by decide), fewW_l kw_g2 (by decide), rfl⟩, sh44 (sh9_pl (by decide +kernel)) (sh9_kw kw_g2 (by decide)), ?_⟩
  refine de_str ?_
  rw [told44_37 (.inr rfl) (by decide +kernel)]
  refine eq_strT rfl ?_
  exact qq
end
theorem all_mk {l : PySem.W.OpenLaw} {w : World} {K : PySem.W.Frag} {h : Heap} {mg : Str → Option Value} {fa f0 f1 f2 f3 f4 f5 f6 f7 f8 f9 f10 f11 f12 f13 f14 f15 f16 f17 f18 f19 f20 f21 f22 f23 f24 f25 f26 f27 f28 f29 f30 f31 f32 f33 f34 f35 f36 f37 f38 f39 : Addr} (X : K.In h) (G : h.Ns mainGlobals mg) (hfa : mg "law" = some (.ref fa))
    {od0 an0 od1 an1 od2 an2 od3 an3 od4 an4 od5 an5 od6 an6 od7 an7 od8 an8 od9 an9 od10 an10 od11 an11 od12 an12 od13 an13 od14 an14 od15 an15 od16 an16 od17 an17 od18 an18 od19 an19 od20 an20 od21 an21 od22 an22 od23 an23 od24 an24 od25 an25 od26 an26 od27 an27 od28 an28 od29 an29 od30 an30 od31 an31 od32 an32 od33 an33 od34 an34 od35 an35 od36 an36 od37 an37 od38 an38 od39 an39 : Option Addr} {sl0 sl1 sl2 sl3 sl4 sl5 sl6 sl7 sl8 sl9 sl10 sl11 sl12 sl13 sl14 sl15 sl16 sl17 sl18 sl19 sl20 sl21 sl22 sl23 sl24 sl25 sl26 sl27 sl28 sl29 sl30 sl31 sl32 sl33 sl34 sl35 sl36 sl37 sl38 sl39 : Array (Option Value)} {oc0 kV0 dc0 pm0 cd0 ct0 oc1 kV1 dc1 pm1 cd1 ct1 oc2 kV2 dc2 pm2 cd2 ct2 oc3 kV3 dc3 pm3 cd3 ct3 oc4 kV4 dc4 pm4 cd4 ct4 oc5 kV5 dc5 pm5 cd5 ct5 oc6 kV6 dc6 pm6 cd6 ct6 oc7 kV7 dc7 pm7 cd7 ct7 oc8 kV8 dc8 pm8 cd8 ct8 oc9 kV9 dc9 pm9 cd9 ct9 oc10 kV10 dc10 pm10 cd10 ct10 oc11 kV11 dc11 pm11 cd11 ct11 oc12 kV12 dc12 pm12 cd12 ct12 oc13 kV13 dc13 pm13 cd13 ct13 oc14 kV14 dc14 pm14 cd14 ct14 oc15 kV15 dc15 pm15 cd15 ct15 oc16 kV16 dc16 pm16 cd16 ct16 oc17 kV17 dc17 pm17 cd17 ct17 oc18 kV18 dc18 pm18 cd18 ct18 oc19 kV19 dc19 pm19 cd19 ct19 oc20 kV20 dc20 pm20 cd20 ct20 oc21 kV21 dc21 pm21 cd21 ct21 oc22 kV22 dc22 pm22 cd22 ct22 oc23 kV23 dc23 pm23 cd23 ct23 oc24 kV24 dc24 pm24 cd24 ct24 oc25 kV25 dc25 pm25 cd25 ct25 oc26 kV26 dc26 pm26 cd26 ct26 oc27 kV27 dc27 pm27 cd27 ct27 oc28 kV28 dc28 pm28 cd28 ct28 oc29 kV29 dc29 pm29 cd29 ct29 oc30 kV30 dc30 pm30 cd30 ct30 oc31 kV31 dc31 pm31 cd31 ct31 oc32 kV32 dc32 pm32 cd32 ct32 oc33 kV33 dc33 pm33 cd33 ct33 oc34 kV34 dc34 pm34 cd34 ct34 oc35 kV35 dc35 pm35 cd35 ct35 oc36 kV36 dc36 pm36 cd36 ct36 oc37 kV37 dc37 pm37 cd37 ct37 oc38 kV38 dc38 pm38 cd38 ct38 oc39 kV39 dc39 pm39 cd39 ct39 : Value}
    {C_InvalidLegs C_InvalidNumber C_InvalidPixel C_InvalidScale C_InvalidSix C_InvalidTurn C_TurnError : Addr}
    {C_InvalidPixels fI_InvalidPixels cc_InvalidPixels cda_InvalidPixels N_InvalidPixels : Addr} {nm_InvalidPixels q_InvalidPixels file_InvalidPixels : Str} {bs_InvalidPixels bm_InvalidPixels sub_InvalidPixels : List Value} {sn_InvalidPixels : List Str} {ab_InvalidPixels : Bool} {col_InvalidPixels : Option Bool} {dd_InvalidPixels : Option Addr} {k0_InvalidPixels k1_InvalidPixels k2_InvalidPixels k3_InvalidPixels k5_InvalidPixels : Option Value}
    {oc_InvalidPixels kV_InvalidPixels doc_InvalidPixels pm_InvalidPixels ct_InvalidPixels cl_InvalidPixels ccl_InvalidPixels : Value} {od_InvalidPixels an_InvalidPixels cld_InvalidPixels cdd_InvalidPixels : Option Addr} {osl_InvalidPixels csl_InvalidPixels ccs_InvalidPixels : Array (Option Value)} {vs_InvalidPixels : Array Value} {tf_InvalidPixels : Tok}
    {p1_InvalidPixels p2_InvalidPixels q1_InvalidPixels q2_InvalidPixels q3_InvalidPixels q4_InvalidPixels q5_InvalidPixels q6_InvalidPixels q7_InvalidPixels q8_InvalidPixels q9_InvalidPixels r1_InvalidPixels r2_InvalidPixels r3_InvalidPixels r4_InvalidPixels : Pos}
    {C_InvalidWay fI_InvalidWay cc_InvalidWay cda_InvalidWay N_InvalidWay : Addr} {nm_InvalidWay q_InvalidWay file_InvalidWay : Str} {bs_InvalidWay bm_InvalidWay sub_InvalidWay : List Value} {sn_InvalidWay : List Str} {ab_InvalidWay : Bool} {col_InvalidWay : Option Bool} {dd_InvalidWay : Option Addr} {k0_InvalidWay k1_InvalidWay k2_InvalidWay k3_InvalidWay k5_InvalidWay : Option Value}
    {oc_InvalidWay kV_InvalidWay doc_InvalidWay pm_InvalidWay ct_InvalidWay cl_InvalidWay ccl_InvalidWay : Value} {od_InvalidWay an_InvalidWay cld_InvalidWay cdd_InvalidWay : Option Addr} {osl_InvalidWay csl_InvalidWay ccs_InvalidWay : Array (Option Value)} {vs_InvalidWay : Array Value} {tf_InvalidWay : Tok}
    {p1_InvalidWay p2_InvalidWay q1_InvalidWay q2_InvalidWay q3_InvalidWay q4_InvalidWay q5_InvalidWay q6_InvalidWay q7_InvalidWay q8_InvalidWay q9_InvalidWay r1_InvalidWay r2_InvalidWay r3_InvalidWay r4_InvalidWay : Pos}
    {C_TooLarge fI_TooLarge cc_TooLarge cda_TooLarge N_TooLarge : Addr} {nm_TooLarge q_TooLarge file_TooLarge : Str} {bs_TooLarge bm_TooLarge sub_TooLarge : List Value} {sn_TooLarge : List Str} {ab_TooLarge : Bool} {col_TooLarge : Option Bool} {dd_TooLarge : Option Addr} {k0_TooLarge k1_TooLarge k2_TooLarge k3_TooLarge k5_TooLarge : Option Value}
    {oc_TooLarge kV_TooLarge doc_TooLarge pm_TooLarge ct_TooLarge cl_TooLarge ccl_TooLarge : Value} {od_TooLarge an_TooLarge cld_TooLarge cdd_TooLarge : Option Addr} {osl_TooLarge csl_TooLarge ccs_TooLarge : Array (Option Value)} {vs_TooLarge : Array Value} {tf_TooLarge : Tok}
    {p1_TooLarge p2_TooLarge q1_TooLarge q2_TooLarge q3_TooLarge q4_TooLarge q5_TooLarge q6_TooLarge q7_TooLarge q8_TooLarge q9_TooLarge r1_TooLarge r2_TooLarge r3_TooLarge r4_TooLarge : Pos}
    (a0 : PySem.W.nsIn K mainGlobals "times" = some (some (.ref f0))) (l0 : K.lookup f0 = some ⟨oc0, od0, .func (PySem.W.fnOf "times" "times" (defArgs s_times) (defBody s_times) (defScope s_times) .none kV0 dc0 pm0 an0 cd0 ct0), sl0⟩) (c0 : PySem.W.codeIn K cd0 "times" = true) (k0 : PySem.W.keepIn K (.ref f0) = true)
    (a1 : PySem.W.nsIn K mainGlobals "is_whole" = some (some (.ref f1))) (l1 : K.lookup f1 = some ⟨oc1, od1, .func (PySem.W.fnOf "is_whole" "is_whole" (defArgs s_is_whole) (defBody s_is_whole) (defScope s_is_whole) .none kV1 dc1 pm1 an1 cd1 ct1), sl1⟩) (c1 : PySem.W.codeIn K cd1 "is_whole" = true) (k1 : PySem.W.keepIn K (.ref f1) = true)
    (a2 : PySem.W.nsIn K mainGlobals "is_whole_tuple" = some (some (.ref f2))) (l2 : K.lookup f2 = some ⟨oc2, od2, .func (PySem.W.fnOf "is_whole_tuple" "is_whole_tuple" (defArgs s_is_whole_tuple) (defBody s_is_whole_tuple) (defScope s_is_whole_tuple) .none kV2 dc2 pm2 an2 cd2 ct2), sl2⟩) (c2 : PySem.W.codeIn K cd2 "is_whole_tuple" = true) (k2 : PySem.W.keepIn K (.ref f2) = true)
    (a3 : PySem.W.nsIn K mainGlobals "is_pixel" = some (some (.ref f3))) (l3 : K.lookup f3 = some ⟨oc3, od3, .func (PySem.W.fnOf "is_pixel" "is_pixel" (defArgs s_is_pixel) (defBody s_is_pixel) (defScope s_is_pixel) .none kV3 dc3 pm3 an3 cd3 ct3), sl3⟩) (c3 : PySem.W.codeIn K cd3 "is_pixel" = true) (k3 : PySem.W.keepIn K (.ref f3) = true)
    (a4 : PySem.W.nsIn K mainGlobals "is_turn" = some (some (.ref f4))) (l4 : K.lookup f4 = some ⟨oc4, od4, .func (PySem.W.fnOf "is_turn" "is_turn" (defArgs s_is_turn) (defBody s_is_turn) (defScope s_is_turn) .none kV4 dc4 pm4 an4 cd4 ct4), sl4⟩) (c4 : PySem.W.codeIn K cd4 "is_turn" = true) (k4 : PySem.W.keepIn K (.ref f4) = true)
    (a5 : PySem.W.nsIn K mainGlobals "check_pixel" = some (some (.ref f5))) (l5 : K.lookup f5 = some ⟨oc5, od5, .func (PySem.W.fnOf "check_pixel" "check_pixel" (defArgs s_check_pixel) (defBody s_check_pixel) (defScope s_check_pixel) .none kV5 dc5 pm5 an5 cd5 ct5), sl5⟩) (c5 : PySem.W.codeIn K cd5 "check_pixel" = true) (k5 : PySem.W.keepIn K (.ref f5) = true)
    (a6 : PySem.W.nsIn K mainGlobals "check_turn" = some (some (.ref f6))) (l6 : K.lookup f6 = some ⟨oc6, od6, .func (PySem.W.fnOf "check_turn" "check_turn" (defArgs s_check_turn) (defBody s_check_turn) (defScope s_check_turn) .none kV6 dc6 pm6 an6 cd6 ct6), sl6⟩) (c6 : PySem.W.codeIn K cd6 "check_turn" = true) (k6 : PySem.W.keepIn K (.ref f6) = true)
    (a7 : PySem.W.nsIn K mainGlobals "nearest" = some (some (.ref f7))) (l7 : K.lookup f7 = some ⟨oc7, od7, .func (PySem.W.fnOf "nearest" "nearest" (defArgs s_nearest) (defBody s_nearest) (defScope s_nearest) .none kV7 dc7 pm7 an7 cd7 ct7), sl7⟩) (c7 : PySem.W.codeIn K cd7 "nearest" = true) (k7 : PySem.W.keepIn K (.ref f7) = true)
    (a8 : PySem.W.nsIn K mainGlobals "legs_of" = some (some (.ref f8))) (l8 : K.lookup f8 = some ⟨oc8, od8, .func (PySem.W.fnOf "legs_of" "legs_of" (defArgs s_legs_of) (defBody s_legs_of) (defScope s_legs_of) .none kV8 dc8 pm8 an8 cd8 ct8), sl8⟩) (c8 : PySem.W.codeIn K cd8 "legs_of" = true) (k8 : PySem.W.keepIn K (.ref f8) = true)
    (a9 : PySem.W.nsIn K mainGlobals "back" = some (some (.ref f9))) (l9 : K.lookup f9 = some ⟨oc9, od9, .func (PySem.W.fnOf "back" "back" (defArgs s_back) (defBody s_back) (defScope s_back) .none kV9 dc9 pm9 an9 cd9 ct9), sl9⟩) (c9 : PySem.W.codeIn K cd9 "back" = true) (k9 : PySem.W.keepIn K (.ref f9) = true)
    (a10 : PySem.W.nsIn K mainGlobals "_law_source" = some (some (.ref f10))) (l10 : K.lookup f10 = some ⟨oc10, od10, .func (PySem.W.fnOf "_law_source" "_law_source" (defArgs s__law_source) (defBody s__law_source) (defScope s__law_source) .none kV10 dc10 pm10 an10 cd10 ct10), sl10⟩) (c10 : PySem.W.codeIn K cd10 "_law_source" = true) (k10 : PySem.W.keepIn K (.ref f10) = true)
    (a11 : PySem.W.nsIn K mainGlobals "_law_draw" = some (some (.ref f11))) (l11 : K.lookup f11 = some ⟨oc11, od11, .func (PySem.W.fnOf "_law_draw" "_law_draw" (defArgs s__law_draw) (defBody s__law_draw) (defScope s__law_draw) .none kV11 dc11 pm11 an11 cd11 ct11), sl11⟩) (c11 : PySem.W.codeIn K cd11 "_law_draw" = true) (k11 : PySem.W.keepIn K (.ref f11) = true)
    (a12 : PySem.W.nsIn K mainGlobals "_law_dot" = some (some (.ref f12))) (l12 : K.lookup f12 = some ⟨oc12, od12, .func (PySem.W.fnOf "_law_dot" "_law_dot" (defArgs s__law_dot) (defBody s__law_dot) (defScope s__law_dot) .none kV12 dc12 pm12 an12 cd12 ct12), sl12⟩) (c12 : PySem.W.codeIn K cd12 "_law_dot" = true) (k12 : PySem.W.keepIn K (.ref f12) = true)
    (a13 : PySem.W.nsIn K mainGlobals "lowest" = some (some (.ref f13))) (l13 : K.lookup f13 = some ⟨oc13, od13, .func (PySem.W.fnOf "lowest" "lowest" (defArgs s_lowest) (defBody s_lowest) (defScope s_lowest) .none kV13 dc13 pm13 an13 cd13 ct13), sl13⟩) (c13 : PySem.W.codeIn K cd13 "lowest" = true) (k13 : PySem.W.keepIn K (.ref f13) = true)
    (a14 : PySem.W.nsIn K mainGlobals "inverse" = some (some (.ref f14))) (l14 : K.lookup f14 = some ⟨oc14, od14, .func (PySem.W.fnOf "inverse" "inverse" (defArgs s_inverse) (defBody s_inverse) (defScope s_inverse) .none kV14 dc14 pm14 an14 cd14 ct14), sl14⟩) (c14 : PySem.W.codeIn K cd14 "inverse" = true) (k14 : PySem.W.keepIn K (.ref f14) = true)
    (a15 : PySem.W.nsIn K mainGlobals "turn_by" = some (some (.ref f15))) (l15 : K.lookup f15 = some ⟨oc15, od15, .func (PySem.W.fnOf "turn_by" "turn_by" (defArgs s_turn_by) (defBody s_turn_by) (defScope s_turn_by) .none kV15 dc15 pm15 an15 cd15 ct15), sl15⟩) (c15 : PySem.W.codeIn K cd15 "turn_by" = true) (k15 : PySem.W.keepIn K (.ref f15) = true)
    (a16 : PySem.W.nsIn K mainGlobals "joined" = some (some (.ref f16))) (l16 : K.lookup f16 = some ⟨oc16, od16, .func (PySem.W.fnOf "joined" "joined" (defArgs s_joined) (defBody s_joined) (defScope s_joined) .none kV16 dc16 pm16 an16 cd16 ct16), sl16⟩) (c16 : PySem.W.codeIn K cd16 "joined" = true) (k16 : PySem.W.keepIn K (.ref f16) = true)
    (a17 : PySem.W.nsIn K mainGlobals "led" = some (some (.ref f17))) (l17 : K.lookup f17 = some ⟨oc17, od17, .func (PySem.W.fnOf "led" "led" (defArgs s_led) (defBody s_led) (defScope s_led) .none kV17 dc17 pm17 an17 cd17 ct17), sl17⟩) (c17 : PySem.W.codeIn K cd17 "led" = true) (k17 : PySem.W.keepIn K (.ref f17) = true)
    (a18 : PySem.W.nsIn K mainGlobals "keeps_all" = some (some (.ref f18))) (l18 : K.lookup f18 = some ⟨oc18, od18, .func (PySem.W.fnOf "keeps_all" "keeps_all" (defArgs s_keeps_all) (defBody s_keeps_all) (defScope s_keeps_all) .none kV18 dc18 pm18 an18 cd18 ct18), sl18⟩) (c18 : PySem.W.codeIn K cd18 "keeps_all" = true) (k18 : PySem.W.keepIn K (.ref f18) = true)
    (a19 : PySem.W.nsIn K mainGlobals "led_along" = some (some (.ref f19))) (l19 : K.lookup f19 = some ⟨oc19, od19, .func (PySem.W.fnOf "led_along" "led_along" (defArgs s_led_along) (defBody s_led_along) (defScope s_led_along) .none kV19 dc19 pm19 an19 cd19 ct19), sl19⟩) (c19 : PySem.W.codeIn K cd19 "led_along" = true) (k19 : PySem.W.keepIn K (.ref f19) = true)
    (a20 : PySem.W.nsIn K mainGlobals "_multiple" = some (some (.ref f20))) (l20 : K.lookup f20 = some ⟨oc20, od20, .func (PySem.W.fnOf "_multiple" "_multiple" (defArgs s__multiple) (defBody s__multiple) (defScope s__multiple) .none kV20 dc20 pm20 an20 cd20 ct20), sl20⟩) (c20 : PySem.W.codeIn K cd20 "_multiple" = true) (k20 : PySem.W.keepIn K (.ref f20) = true)
    (a21 : PySem.W.nsIn K mainGlobals "way_for" = some (some (.ref f21))) (l21 : K.lookup f21 = some ⟨oc21, od21, .func (PySem.W.fnOf "way_for" "way_for" (defArgs s_way_for) (defBody s_way_for) (defScope s_way_for) .none kV21 dc21 pm21 an21 cd21 ct21), sl21⟩) (c21 : PySem.W.codeIn K cd21 "way_for" = true) (k21 : PySem.W.keepIn K (.ref f21) = true)
    (a22 : PySem.W.nsIn K mainGlobals "_legs_along" = some (some (.ref f22))) (l22 : K.lookup f22 = some ⟨oc22, od22, .func (PySem.W.fnOf "_legs_along" "_legs_along" (defArgs s__legs_along) (defBody s__legs_along) (defScope s__legs_along) .none kV22 dc22 pm22 an22 cd22 ct22), sl22⟩) (c22 : PySem.W.codeIn K cd22 "_legs_along" = true) (k22 : PySem.W.keepIn K (.ref f22) = true)
    (a23 : PySem.W.nsIn K mainGlobals "_is_keeping" = some (some (.ref f23))) (l23 : K.lookup f23 = some ⟨oc23, od23, .func (PySem.W.fnOf "_is_keeping" "_is_keeping" (defArgs s__is_keeping) (defBody s__is_keeping) (defScope s__is_keeping) .none kV23 dc23 pm23 an23 cd23 ct23), sl23⟩) (c23 : PySem.W.codeIn K cd23 "_is_keeping" = true) (k23 : PySem.W.keepIn K (.ref f23) = true)
    (a24 : PySem.W.nsIn K mainGlobals "is_way" = some (some (.ref f24))) (l24 : K.lookup f24 = some ⟨oc24, od24, .func (PySem.W.fnOf "is_way" "is_way" (defArgs s_is_way) (defBody s_is_way) (defScope s_is_way) .none kV24 dc24 pm24 an24 cd24 ct24), sl24⟩) (c24 : PySem.W.codeIn K cd24 "is_way" = true) (k24 : PySem.W.keepIn K (.ref f24) = true)
    (a25 : PySem.W.nsIn K mainGlobals "check_way" = some (some (.ref f25))) (l25 : K.lookup f25 = some ⟨oc25, od25, .func (PySem.W.fnOf "check_way" "check_way" (defArgs s_check_way) (defBody s_check_way) (defScope s_check_way) .none kV25 dc25 pm25 an25 cd25 ct25), sl25⟩) (c25 : PySem.W.codeIn K cd25 "check_way" = true) (k25 : PySem.W.keepIn K (.ref f25) = true)
    (a26 : PySem.W.nsIn K mainGlobals "walked" = some (some (.ref f26))) (l26 : K.lookup f26 = some ⟨oc26, od26, .func (PySem.W.fnOf "walked" "walked" (defArgs s_walked) (defBody s_walked) (defScope s_walked) .none kV26 dc26 pm26 an26 cd26 ct26), sl26⟩) (c26 : PySem.W.codeIn K cd26 "walked" = true) (k26 : PySem.W.keepIn K (.ref f26) = true)
    (a27 : PySem.W.nsIn K mainGlobals "walked_back" = some (some (.ref f27))) (l27 : K.lookup f27 = some ⟨oc27, od27, .func (PySem.W.fnOf "walked_back" "walked_back" (defArgs s_walked_back) (defBody s_walked_back) (defScope s_walked_back) .none kV27 dc27 pm27 an27 cd27 ct27), sl27⟩) (c27 : PySem.W.codeIn K cd27 "walked_back" = true) (k27 : PySem.W.keepIn K (.ref f27) = true)
    (a28 : PySem.W.nsIn K mainGlobals "way_miss" = some (some (.ref f28))) (l28 : K.lookup f28 = some ⟨oc28, od28, .func (PySem.W.fnOf "way_miss" "way_miss" (defArgs s_way_miss) (defBody s_way_miss) (defScope s_way_miss) .none kV28 dc28 pm28 an28 cd28 ct28), sl28⟩) (c28 : PySem.W.codeIn K cd28 "way_miss" = true) (k28 : PySem.W.keepIn K (.ref f28) = true)
    (a29 : PySem.W.nsIn K mainGlobals "way_bound" = some (some (.ref f29))) (l29 : K.lookup f29 = some ⟨oc29, od29, .func (PySem.W.fnOf "way_bound" "way_bound" (defArgs s_way_bound) (defBody s_way_bound) (defScope s_way_bound) .none kV29 dc29 pm29 an29 cd29 ct29), sl29⟩) (c29 : PySem.W.codeIn K cd29 "way_bound" = true) (k29 : PySem.W.keepIn K (.ref f29) = true)
    (a30 : PySem.W.nsIn K mainGlobals "product" = some (some (.ref f30))) (l30 : K.lookup f30 = some ⟨oc30, od30, .func (PySem.W.fnOf "product" "product" (defArgs s_product) (defBody s_product) (defScope s_product) .none kV30 dc30 pm30 an30 cd30 ct30), sl30⟩) (c30 : PySem.W.codeIn K cd30 "product" = true) (k30 : PySem.W.keepIn K (.ref f30) = true)
    (a31 : PySem.W.nsIn K mainGlobals "shows_way" = some (some (.ref f31))) (l31 : K.lookup f31 = some ⟨oc31, od31, .func (PySem.W.fnOf "shows_way" "shows_way" (defArgs s_shows_way) (defBody s_shows_way) (defScope s_shows_way) .none kV31 dc31 pm31 an31 cd31 ct31), sl31⟩) (c31 : PySem.W.codeIn K cd31 "shows_way" = true) (k31 : PySem.W.keepIn K (.ref f31) = true)
    (a32 : PySem.W.nsIn K mainGlobals "_law_road" = some (some (.ref f32))) (l32 : K.lookup f32 = some ⟨oc32, od32, .func (PySem.W.fnOf "_law_road" "_law_road" (defArgs s__law_road) (defBody s__law_road) (defScope s__law_road) .none kV32 dc32 pm32 an32 cd32 ct32), sl32⟩) (c32 : PySem.W.codeIn K cd32 "_law_road" = true) (k32 : PySem.W.keepIn K (.ref f32) = true)
    (a33 : PySem.W.nsIn K mainGlobals "_law_fault" = some (some (.ref f33))) (l33 : K.lookup f33 = some ⟨oc33, od33, .func (PySem.W.fnOf "_law_fault" "_law_fault" (defArgs s__law_fault) (defBody s__law_fault) (defScope s__law_fault) .none kV33 dc33 pm33 an33 cd33 ct33), sl33⟩) (c33 : PySem.W.codeIn K cd33 "_law_fault" = true) (k33 : PySem.W.keepIn K (.ref f33) = true)
    (a34 : PySem.W.nsIn K mainGlobals "_law_told" = some (some (.ref f34))) (l34 : K.lookup f34 = some ⟨oc34, od34, .func (PySem.W.fnOf "_law_told" "_law_told" (defArgs s__law_told) (defBody s__law_told) (defScope s__law_told) .none kV34 dc34 pm34 an34 cd34 ct34), sl34⟩) (c34 : PySem.W.codeIn K cd34 "_law_told" = true) (k34 : PySem.W.keepIn K (.ref f34) = true)
    (a35 : PySem.W.nsIn K mainGlobals "_law_odd_dots" = some (some (.ref f35))) (l35 : K.lookup f35 = some ⟨oc35, od35, .func (PySem.W.fnOf "_law_odd_dots" "_law_odd_dots" (defArgs s__law_odd_dots) (defBody s__law_odd_dots) (defScope s__law_odd_dots) .none kV35 dc35 pm35 an35 cd35 ct35), sl35⟩) (c35 : PySem.W.codeIn K cd35 "_law_odd_dots" = true) (k35 : PySem.W.keepIn K (.ref f35) = true)
    (a36 : PySem.W.nsIn K mainGlobals "_law_odd_spins" = some (some (.ref f36))) (l36 : K.lookup f36 = some ⟨oc36, od36, .func (PySem.W.fnOf "_law_odd_spins" "_law_odd_spins" (defArgs s__law_odd_spins) (defBody s__law_odd_spins) (defScope s__law_odd_spins) .none kV36 dc36 pm36 an36 cd36 ct36), sl36⟩) (c36 : PySem.W.codeIn K cd36 "_law_odd_spins" = true) (k36 : PySem.W.keepIn K (.ref f36) = true)
    (a37 : PySem.W.nsIn K mainGlobals "_law_odd_items" = some (some (.ref f37))) (l37 : K.lookup f37 = some ⟨oc37, od37, .func (PySem.W.fnOf "_law_odd_items" "_law_odd_items" (defArgs s__law_odd_items) (defBody s__law_odd_items) (defScope s__law_odd_items) .none kV37 dc37 pm37 an37 cd37 ct37), sl37⟩) (c37 : PySem.W.codeIn K cd37 "_law_odd_items" = true) (k37 : PySem.W.keepIn K (.ref f37) = true)
    (a38 : PySem.W.nsIn K mainGlobals "_law_right" = some (some (.ref f38))) (l38 : K.lookup f38 = some ⟨oc38, od38, .func (PySem.W.fnOf "_law_right" "_law_right" (defArgs s__law_right) (defBody s__law_right) (defScope s__law_right) .none kV38 dc38 pm38 an38 cd38 ct38), sl38⟩) (c38 : PySem.W.codeIn K cd38 "_law_right" = true) (k38 : PySem.W.keepIn K (.ref f38) = true)
    (a39 : PySem.W.nsIn K mainGlobals "law" = some (some (.ref f39))) (l39 : K.lookup f39 = some ⟨oc39, od39, .func (PySem.W.fnOf "law" "law" (defArgs s_law) (defBody s_law) (defScope s_law) .none kV39 dc39 pm39 an39 cd39 ct39), sl39⟩) (c39 : PySem.W.codeIn K cd39 "law" = true) (k39 : PySem.W.keepIn K (.ref f39) = true)
    (z_ValueError : PySem.W.nsIn K mainGlobals "ValueError" = some none)
    (z_abs : PySem.W.nsIn K mainGlobals "abs" = some none)
    (z_all : PySem.W.nsIn K mainGlobals "all" = some none)
    (z_bool : PySem.W.nsIn K mainGlobals "bool" = some none)
    (z_enumerate : PySem.W.nsIn K mainGlobals "enumerate" = some none)
    (z_int : PySem.W.nsIn K mainGlobals "int" = some none)
    (z_isinstance : PySem.W.nsIn K mainGlobals "isinstance" = some none)
    (z_len : PySem.W.nsIn K mainGlobals "len" = some none)
    (z_list : PySem.W.nsIn K mainGlobals "list" = some none)
    (z_max : PySem.W.nsIn K mainGlobals "max" = some none)
    (z_min : PySem.W.nsIn K mainGlobals "min" = some none)
    (z_range : PySem.W.nsIn K mainGlobals "range" = some none)
    (z_repr : PySem.W.nsIn K mainGlobals "repr" = some none)
    (z_tuple : PySem.W.nsIn K mainGlobals "tuple" = some none)
    (y_gcd : PySem.W.nsIn K mainGlobals "gcd" = some (some (.builtin "math.gcd")))
    (y_isqrt : PySem.W.nsIn K mainGlobals "isqrt" = some (some (.builtin "math.isqrt")))
    (x_GREATEST_P : ∃ u, mg "GREATEST_P" = some (.int (1000000000000000) u))
    (x_GREATEST_SIZE : ∃ u, mg "GREATEST_SIZE" = some (.int (10000000000) u))
    (x_MOST_ITEMS : ∃ u, mg "MOST_ITEMS" = some (.int (120) u))
    (x_QUARTERS : ∃ a, mg "QUARTERS" = some (.ref a) ∧ Rp K (fun _ => none) (.tup [.tup [.int (1), .int (0)], .tup [.int (0), .int (1)], .tup [.int (-1), .int (0)], .tup [.int (0), .int (-1)]]) (.ref a))
    (eA_InvalidLegs : PySem.W.nsIn K mainGlobals "InvalidLegs" = some (some (.ref C_InvalidLegs)))
    (eK_InvalidLegs : PySem.W.keepIn K (.ref C_InvalidLegs) = true)
    (eQ_InvalidLegs : PySem.W.excIn K C_InvalidLegs [.type "ValueError", .type "Exception", .type "BaseException", .type "object"] "ValueError.__new__" = true)
    (eX_InvalidLegs : PySem.W.subIn K (.ref C_InvalidLegs) (.type "BaseException") = some true)
    (eT_InvalidLegs : PySem.W.typeIn K (.ref C_InvalidLegs) = some (.type "type"))
    (eA_InvalidNumber : PySem.W.nsIn K mainGlobals "InvalidNumber" = some (some (.ref C_InvalidNumber)))
    (eK_InvalidNumber : PySem.W.keepIn K (.ref C_InvalidNumber) = true)
    (eQ_InvalidNumber : PySem.W.excIn K C_InvalidNumber [.type "ValueError", .type "Exception", .type "BaseException", .type "object"] "ValueError.__new__" = true)
    (eX_InvalidNumber : PySem.W.subIn K (.ref C_InvalidNumber) (.type "BaseException") = some true)
    (eT_InvalidNumber : PySem.W.typeIn K (.ref C_InvalidNumber) = some (.type "type"))
    (eA_InvalidPixel : PySem.W.nsIn K mainGlobals "InvalidPixel" = some (some (.ref C_InvalidPixel)))
    (eK_InvalidPixel : PySem.W.keepIn K (.ref C_InvalidPixel) = true)
    (eQ_InvalidPixel : PySem.W.excIn K C_InvalidPixel [.type "ValueError", .type "Exception", .type "BaseException", .type "object"] "ValueError.__new__" = true)
    (eX_InvalidPixel : PySem.W.subIn K (.ref C_InvalidPixel) (.type "BaseException") = some true)
    (eT_InvalidPixel : PySem.W.typeIn K (.ref C_InvalidPixel) = some (.type "type"))
    (eA_InvalidScale : PySem.W.nsIn K mainGlobals "InvalidScale" = some (some (.ref C_InvalidScale)))
    (eK_InvalidScale : PySem.W.keepIn K (.ref C_InvalidScale) = true)
    (eQ_InvalidScale : PySem.W.excIn K C_InvalidScale [.type "ValueError", .type "Exception", .type "BaseException", .type "object"] "ValueError.__new__" = true)
    (eX_InvalidScale : PySem.W.subIn K (.ref C_InvalidScale) (.type "BaseException") = some true)
    (eT_InvalidScale : PySem.W.typeIn K (.ref C_InvalidScale) = some (.type "type"))
    (eA_InvalidSix : PySem.W.nsIn K mainGlobals "InvalidSix" = some (some (.ref C_InvalidSix)))
    (eK_InvalidSix : PySem.W.keepIn K (.ref C_InvalidSix) = true)
    (eQ_InvalidSix : PySem.W.excIn K C_InvalidSix [.type "ValueError", .type "Exception", .type "BaseException", .type "object"] "ValueError.__new__" = true)
    (eX_InvalidSix : PySem.W.subIn K (.ref C_InvalidSix) (.type "BaseException") = some true)
    (eT_InvalidSix : PySem.W.typeIn K (.ref C_InvalidSix) = some (.type "type"))
    (eA_InvalidTurn : PySem.W.nsIn K mainGlobals "InvalidTurn" = some (some (.ref C_InvalidTurn)))
    (eK_InvalidTurn : PySem.W.keepIn K (.ref C_InvalidTurn) = true)
    (eQ_InvalidTurn : PySem.W.excIn K C_InvalidTurn [.type "ValueError", .type "Exception", .type "BaseException", .type "object"] "ValueError.__new__" = true)
    (eX_InvalidTurn : PySem.W.subIn K (.ref C_InvalidTurn) (.type "BaseException") = some true)
    (eT_InvalidTurn : PySem.W.typeIn K (.ref C_InvalidTurn) = some (.type "type"))
    (eA_TurnError : PySem.W.nsIn K mainGlobals "TurnError" = some (some (.ref C_TurnError)))
    (eK_TurnError : PySem.W.keepIn K (.ref C_TurnError) = true)
    (eQ_TurnError : PySem.W.excIn K C_TurnError [.type "ValueError", .type "Exception", .type "BaseException", .type "object"] "ValueError.__new__" = true)
    (eX_TurnError : PySem.W.subIn K (.ref C_TurnError) (.type "BaseException") = some true)
    (eT_TurnError : PySem.W.typeIn K (.ref C_TurnError) = some (.type "type"))
    (eA_InvalidPixels : PySem.W.nsIn K mainGlobals "InvalidPixels" = some (some (.ref C_InvalidPixels)))
    (eL_InvalidPixels : K.lookup C_InvalidPixels = some (excClassObj nm_InvalidPixels q_InvalidPixels C_InvalidPixels N_InvalidPixels bs_InvalidPixels bm_InvalidPixels true sn_InvalidPixels sub_InvalidPixels ab_InvalidPixels col_InvalidPixels dd_InvalidPixels k0_InvalidPixels k1_InvalidPixels k2_InvalidPixels k3_InvalidPixels k5_InvalidPixels "ValueError.__new__"))
    (eR_InvalidPixels : PySem.HandSPX.refsVE bm_InvalidPixels = true)
    (eS_InvalidPixels : PySem.W.findIn K (.ref C_InvalidPixels) "__setattr__" = some (some (.builtin "object.__setattr__")))
    (eG_InvalidPixels : PySem.W.findIn K (.ref C_InvalidPixels) "__getattribute__" = some (some (.builtin "BaseException.__getattribute__")))
    (eH_InvalidPixels : PySem.W.findIn K (.ref C_InvalidPixels) "__getattr__" = some none)
    (eF_InvalidPixels : PySem.W.findIn K (.ref C_InvalidPixels) "index" = some none)
    (eI_InvalidPixels : PySem.W.findIn K (.ref C_InvalidPixels) "__init__" = some (some (.ref fI_InvalidPixels)))
    (eJ_InvalidPixels : PySem.W.typeIn K (.ref fI_InvalidPixels) = some (.type "function"))
    (eK_InvalidPixels : PySem.W.keepIn K (.ref C_InvalidPixels) = true)
    (eX_InvalidPixels : PySem.W.subIn K (.ref C_InvalidPixels) (.type "BaseException") = some true)
    (eV_InvalidPixels : PySem.W.subIn K (.ref C_InvalidPixels) (.type "ValueError") = some true)
    (eT_InvalidPixels : PySem.W.typeIn K (.ref C_InvalidPixels) = some (.type "type"))
    (eD_InvalidPixels : PySem.W.hasDictIn K C_InvalidPixels = true)
    (eM_InvalidPixels : K.lookup fI_InvalidPixels = some ⟨oc_InvalidPixels, od_InvalidPixels, .func (PySem.W.ksFn "__init__" "InvalidPixels.__init__" (PySem.LimX.iA "index" p1_InvalidPixels p2_InvalidPixels) (PySem.LimX.iB "index" "no picture, wrong at " q1_InvalidPixels q2_InvalidPixels q3_InvalidPixels q4_InvalidPixels q5_InvalidPixels q6_InvalidPixels q7_InvalidPixels q8_InvalidPixels q9_InvalidPixels r1_InvalidPixels r2_InvalidPixels r3_InvalidPixels r4_InvalidPixels) (PySem.LimX.iS "index") .none kV_InvalidPixels doc_InvalidPixels pm_InvalidPixels an_InvalidPixels (.ref cda_InvalidPixels) ct_InvalidPixels cc_InvalidPixels), osl_InvalidPixels⟩)
    (eN_InvalidPixels : PySem.W.codeIn K (.ref cda_InvalidPixels) "InvalidPixels.__init__" = true)
    (eO_InvalidPixels : K.lookup cc_InvalidPixels = some ⟨cl_InvalidPixels, cld_InvalidPixels, .cell (some (.ref C_InvalidPixels)), csl_InvalidPixels⟩)
    (eP_InvalidPixels : K.lookup cda_InvalidPixels = some ⟨ccl_InvalidPixels, cdd_InvalidPixels, .fields vs_InvalidPixels, ccs_InvalidPixels⟩)
    (eU_InvalidPixels : vs_InvalidPixels[2]? = some (.str file_InvalidPixels tf_InvalidPixels))
    (eW_InvalidPixels : ((l.prog.main.file : Str) == file_InvalidPixels) = true)
    (eY_InvalidPixels : (q3_InvalidPixels.endLine == q8_InvalidPixels.line) = true)
    (eZ_InvalidPixels : PySem.W.ks_superIn K C_InvalidPixels C_InvalidPixels "__init__" = some (some (.builtin "ValueError.__init__")))
    (eA_InvalidWay : PySem.W.nsIn K mainGlobals "InvalidWay" = some (some (.ref C_InvalidWay)))
    (eL_InvalidWay : K.lookup C_InvalidWay = some (excClassObj nm_InvalidWay q_InvalidWay C_InvalidWay N_InvalidWay bs_InvalidWay bm_InvalidWay true sn_InvalidWay sub_InvalidWay ab_InvalidWay col_InvalidWay dd_InvalidWay k0_InvalidWay k1_InvalidWay k2_InvalidWay k3_InvalidWay k5_InvalidWay "ValueError.__new__"))
    (eR_InvalidWay : PySem.HandSPX.refsVE bm_InvalidWay = true)
    (eS_InvalidWay : PySem.W.findIn K (.ref C_InvalidWay) "__setattr__" = some (some (.builtin "object.__setattr__")))
    (eG_InvalidWay : PySem.W.findIn K (.ref C_InvalidWay) "__getattribute__" = some (some (.builtin "BaseException.__getattribute__")))
    (eH_InvalidWay : PySem.W.findIn K (.ref C_InvalidWay) "__getattr__" = some none)
    (eF_InvalidWay : PySem.W.findIn K (.ref C_InvalidWay) "index" = some none)
    (eI_InvalidWay : PySem.W.findIn K (.ref C_InvalidWay) "__init__" = some (some (.ref fI_InvalidWay)))
    (eJ_InvalidWay : PySem.W.typeIn K (.ref fI_InvalidWay) = some (.type "function"))
    (eK_InvalidWay : PySem.W.keepIn K (.ref C_InvalidWay) = true)
    (eX_InvalidWay : PySem.W.subIn K (.ref C_InvalidWay) (.type "BaseException") = some true)
    (eV_InvalidWay : PySem.W.subIn K (.ref C_InvalidWay) (.type "ValueError") = some true)
    (eT_InvalidWay : PySem.W.typeIn K (.ref C_InvalidWay) = some (.type "type"))
    (eD_InvalidWay : PySem.W.hasDictIn K C_InvalidWay = true)
    (eM_InvalidWay : K.lookup fI_InvalidWay = some ⟨oc_InvalidWay, od_InvalidWay, .func (PySem.W.ksFn "__init__" "InvalidWay.__init__" (PySem.LimX.iA "index" p1_InvalidWay p2_InvalidWay) (PySem.LimX.iB "index" "no way, wrong at " q1_InvalidWay q2_InvalidWay q3_InvalidWay q4_InvalidWay q5_InvalidWay q6_InvalidWay q7_InvalidWay q8_InvalidWay q9_InvalidWay r1_InvalidWay r2_InvalidWay r3_InvalidWay r4_InvalidWay) (PySem.LimX.iS "index") .none kV_InvalidWay doc_InvalidWay pm_InvalidWay an_InvalidWay (.ref cda_InvalidWay) ct_InvalidWay cc_InvalidWay), osl_InvalidWay⟩)
    (eN_InvalidWay : PySem.W.codeIn K (.ref cda_InvalidWay) "InvalidWay.__init__" = true)
    (eO_InvalidWay : K.lookup cc_InvalidWay = some ⟨cl_InvalidWay, cld_InvalidWay, .cell (some (.ref C_InvalidWay)), csl_InvalidWay⟩)
    (eP_InvalidWay : K.lookup cda_InvalidWay = some ⟨ccl_InvalidWay, cdd_InvalidWay, .fields vs_InvalidWay, ccs_InvalidWay⟩)
    (eU_InvalidWay : vs_InvalidWay[2]? = some (.str file_InvalidWay tf_InvalidWay))
    (eW_InvalidWay : ((l.prog.main.file : Str) == file_InvalidWay) = true)
    (eY_InvalidWay : (q3_InvalidWay.endLine == q8_InvalidWay.line) = true)
    (eZ_InvalidWay : PySem.W.ks_superIn K C_InvalidWay C_InvalidWay "__init__" = some (some (.builtin "ValueError.__init__")))
    (eA_TooLarge : PySem.W.nsIn K mainGlobals "TooLarge" = some (some (.ref C_TooLarge)))
    (eL_TooLarge : K.lookup C_TooLarge = some (excClassObj nm_TooLarge q_TooLarge C_TooLarge N_TooLarge bs_TooLarge bm_TooLarge true sn_TooLarge sub_TooLarge ab_TooLarge col_TooLarge dd_TooLarge k0_TooLarge k1_TooLarge k2_TooLarge k3_TooLarge k5_TooLarge "ValueError.__new__"))
    (eR_TooLarge : PySem.HandSPX.refsVE bm_TooLarge = true)
    (eS_TooLarge : PySem.W.findIn K (.ref C_TooLarge) "__setattr__" = some (some (.builtin "object.__setattr__")))
    (eG_TooLarge : PySem.W.findIn K (.ref C_TooLarge) "__getattribute__" = some (some (.builtin "BaseException.__getattribute__")))
    (eH_TooLarge : PySem.W.findIn K (.ref C_TooLarge) "__getattr__" = some none)
    (eF_TooLarge : PySem.W.findIn K (.ref C_TooLarge) "limit" = some none)
    (eI_TooLarge : PySem.W.findIn K (.ref C_TooLarge) "__init__" = some (some (.ref fI_TooLarge)))
    (eJ_TooLarge : PySem.W.typeIn K (.ref fI_TooLarge) = some (.type "function"))
    (eK_TooLarge : PySem.W.keepIn K (.ref C_TooLarge) = true)
    (eX_TooLarge : PySem.W.subIn K (.ref C_TooLarge) (.type "BaseException") = some true)
    (eV_TooLarge : PySem.W.subIn K (.ref C_TooLarge) (.type "ValueError") = some true)
    (eT_TooLarge : PySem.W.typeIn K (.ref C_TooLarge) = some (.type "type"))
    (eD_TooLarge : PySem.W.hasDictIn K C_TooLarge = true)
    (eM_TooLarge : K.lookup fI_TooLarge = some ⟨oc_TooLarge, od_TooLarge, .func (PySem.W.ksFn "__init__" "TooLarge.__init__" (PySem.LimX.iA "limit" p1_TooLarge p2_TooLarge) (PySem.LimX.iB "limit" "greater than " q1_TooLarge q2_TooLarge q3_TooLarge q4_TooLarge q5_TooLarge q6_TooLarge q7_TooLarge q8_TooLarge q9_TooLarge r1_TooLarge r2_TooLarge r3_TooLarge r4_TooLarge) (PySem.LimX.iS "limit") .none kV_TooLarge doc_TooLarge pm_TooLarge an_TooLarge (.ref cda_TooLarge) ct_TooLarge cc_TooLarge), osl_TooLarge⟩)
    (eN_TooLarge : PySem.W.codeIn K (.ref cda_TooLarge) "TooLarge.__init__" = true)
    (eO_TooLarge : K.lookup cc_TooLarge = some ⟨cl_TooLarge, cld_TooLarge, .cell (some (.ref C_TooLarge)), csl_TooLarge⟩)
    (eP_TooLarge : K.lookup cda_TooLarge = some ⟨ccl_TooLarge, cdd_TooLarge, .fields vs_TooLarge, ccs_TooLarge⟩)
    (eU_TooLarge : vs_TooLarge[2]? = some (.str file_TooLarge tf_TooLarge))
    (eW_TooLarge : ((l.prog.main.file : Str) == file_TooLarge) = true)
    (eY_TooLarge : (q3_TooLarge.endLine == q8_TooLarge.line) = true)
    (eZ_TooLarge : PySem.W.ks_superIn K C_TooLarge C_TooLarge "__init__" = some (some (.builtin "ValueError.__init__")))
    (e_any : PySem.W.nsIn K cStatics "thirdparty.any" = some none)
    (e_super : PySem.W.nsIn K mainGlobals "super" = some none)
    (e_top : (l.prog.main.scope.names.lookup ("super" : Str)).isSome = false)
    (eC_TurnError : PySem.W.isClsIn K C_TurnError = true)
    (w_InvalidPixel__TurnError : PySem.W.subIn K (.ref C_InvalidPixel) (.ref C_TurnError) = some true)
    (w_InvalidTurn__TurnError : PySem.W.subIn K (.ref C_InvalidTurn) (.ref C_TurnError) = some true)
    (w_InvalidWay__TurnError : PySem.W.subIn K (.ref C_InvalidWay) (.ref C_TurnError) = some true)
    (w_TooLarge__TurnError : PySem.W.subIn K (.ref C_TooLarge) (.ref C_TurnError) = some true)
    (xg_InvalidPixel : PySem.W.findIn K (.ref C_InvalidPixel) "__getattribute__" = some (some (.builtin "BaseException.__getattribute__")))
    (xk_InvalidPixel : PySem.W.findIn K (.ref C_InvalidPixel) "__getattr__" = some none)
    (xs_InvalidPixel : PySem.W.subIn K (.ref C_InvalidPixel) (.type "BaseException") = some true)
    (xd_InvalidPixel : PySem.W.hasDictIn K C_InvalidPixel = true)
    (xa_InvalidPixel : PySem.W.findIn K (.ref C_InvalidPixel) "__class__" = some (some (.builtin "object.__class__")))
    (xn_InvalidPixel : PySem.W.specialIn K (.builtin "object.__class__") "__get__" = some (some (.builtin "getset_descriptor.__get__")))
    (xt_InvalidPixel : PySem.W.takesIn K (.builtin "object.__class__") = some true)
    (xm_InvalidPixel : PySem.W.mroIn K C_InvalidPixel (.type "object") = some true)
    (xg_InvalidTurn : PySem.W.findIn K (.ref C_InvalidTurn) "__getattribute__" = some (some (.builtin "BaseException.__getattribute__")))
    (xk_InvalidTurn : PySem.W.findIn K (.ref C_InvalidTurn) "__getattr__" = some none)
    (xs_InvalidTurn : PySem.W.subIn K (.ref C_InvalidTurn) (.type "BaseException") = some true)
    (xd_InvalidTurn : PySem.W.hasDictIn K C_InvalidTurn = true)
    (xa_InvalidTurn : PySem.W.findIn K (.ref C_InvalidTurn) "__class__" = some (some (.builtin "object.__class__")))
    (xn_InvalidTurn : PySem.W.specialIn K (.builtin "object.__class__") "__get__" = some (some (.builtin "getset_descriptor.__get__")))
    (xt_InvalidTurn : PySem.W.takesIn K (.builtin "object.__class__") = some true)
    (xm_InvalidTurn : PySem.W.mroIn K C_InvalidTurn (.type "object") = some true)
    (xg_InvalidWay : PySem.W.findIn K (.ref C_InvalidWay) "__getattribute__" = some (some (.builtin "BaseException.__getattribute__")))
    (xk_InvalidWay : PySem.W.findIn K (.ref C_InvalidWay) "__getattr__" = some none)
    (xs_InvalidWay : PySem.W.subIn K (.ref C_InvalidWay) (.type "BaseException") = some true)
    (xd_InvalidWay : PySem.W.hasDictIn K C_InvalidWay = true)
    (xa_InvalidWay : PySem.W.findIn K (.ref C_InvalidWay) "__class__" = some (some (.builtin "object.__class__")))
    (xn_InvalidWay : PySem.W.specialIn K (.builtin "object.__class__") "__get__" = some (some (.builtin "getset_descriptor.__get__")))
    (xt_InvalidWay : PySem.W.takesIn K (.builtin "object.__class__") = some true)
    (xm_InvalidWay : PySem.W.mroIn K C_InvalidWay (.type "object") = some true)
    (xg_TooLarge : PySem.W.findIn K (.ref C_TooLarge) "__getattribute__" = some (some (.builtin "BaseException.__getattribute__")))
    (xk_TooLarge : PySem.W.findIn K (.ref C_TooLarge) "__getattr__" = some none)
    (xs_TooLarge : PySem.W.subIn K (.ref C_TooLarge) (.type "BaseException") = some true)
    (xd_TooLarge : PySem.W.hasDictIn K C_TooLarge = true)
    (xa_TooLarge : PySem.W.findIn K (.ref C_TooLarge) "__class__" = some (some (.builtin "object.__class__")))
    (xn_TooLarge : PySem.W.specialIn K (.builtin "object.__class__") "__get__" = some (some (.builtin "getset_descriptor.__get__")))
    (xt_TooLarge : PySem.W.takesIn K (.builtin "object.__class__") = some true)
    (xm_TooLarge : PySem.W.mroIn K C_TooLarge (.type "object") = some true)
    (xg_TurnError : PySem.W.findIn K (.ref C_TurnError) "__getattribute__" = some (some (.builtin "BaseException.__getattribute__")))
    (xk_TurnError : PySem.W.findIn K (.ref C_TurnError) "__getattr__" = some none)
    (xs_TurnError : PySem.W.subIn K (.ref C_TurnError) (.type "BaseException") = some true)
    (xd_TurnError : PySem.W.hasDictIn K C_TurnError = true)
    (xa_TurnError : PySem.W.findIn K (.ref C_TurnError) "__class__" = some (some (.builtin "object.__class__")))
    (xn_TurnError : PySem.W.specialIn K (.builtin "object.__class__") "__get__" = some (some (.builtin "getset_descriptor.__get__")))
    (xt_TurnError : PySem.W.takesIn K (.builtin "object.__class__") = some true)
    (xm_TurnError : PySem.W.mroIn K C_TurnError (.type "object") = some true)
    (vi_TurnError : PySem.W.kitOne K (.ref C_TurnError) (.type "int") = some false)
    (vb_TurnError : PySem.W.kitOne K (.ref C_TurnError) (.type "bool") = some false)
    (vt_TurnError : PySem.W.kitOne K (.ref C_TurnError) (.type "tuple") = some false)
    (vl_TurnError : PySem.W.kitOne K (.ref C_TurnError) (.type "list") = some false)
    (vs2_TurnError : PySem.W.kitOne K (.ref C_TurnError) (.type "str") = some false)
    {cd_TurnError : PySem.ClassData} {eo1_TurnError : Value} {eo2_TurnError : Option Addr} {eo3_TurnError : Array (Option Value)}
    (ec_TurnError : K.lookup C_TurnError = some ⟨eo1_TurnError, eo2_TurnError, .cls cd_TurnError, eo3_TurnError⟩)
    (ex_TurnError : PySem.W.subIn K (.ref C_TurnError) (.type "BaseException") = some true)
    (en_TurnError : (PySem.ExR.nmOf cd_TurnError).length ≤ 100)
    (er_TurnError : PySem.W.findIn K (.ref C_TurnError) "__repr__" = some (some (.builtin "BaseException.__repr__")))
    (k_InvalidPixel__InvalidLegs : PySem.W.kitOne K (.ref C_InvalidPixel) (.ref C_InvalidLegs) = some false)
    (k_InvalidPixel__InvalidNumber : PySem.W.kitOne K (.ref C_InvalidPixel) (.ref C_InvalidNumber) = some false)
    (k_InvalidPixel__InvalidPixel : PySem.W.kitOne K (.ref C_InvalidPixel) (.ref C_InvalidPixel) = some true)
    (k_InvalidPixel__InvalidPixels : PySem.W.kitOne K (.ref C_InvalidPixel) (.ref C_InvalidPixels) = some false)
    (k_InvalidPixel__InvalidScale : PySem.W.kitOne K (.ref C_InvalidPixel) (.ref C_InvalidScale) = some false)
    (k_InvalidPixel__InvalidSix : PySem.W.kitOne K (.ref C_InvalidPixel) (.ref C_InvalidSix) = some false)
    (k_InvalidPixel__InvalidTurn : PySem.W.kitOne K (.ref C_InvalidPixel) (.ref C_InvalidTurn) = some false)
    (k_InvalidPixel__InvalidWay : PySem.W.kitOne K (.ref C_InvalidPixel) (.ref C_InvalidWay) = some false)
    (k_InvalidPixel__TooLarge : PySem.W.kitOne K (.ref C_InvalidPixel) (.ref C_TooLarge) = some false)
    (k_InvalidPixel__TurnError : PySem.W.kitOne K (.ref C_InvalidPixel) (.ref C_TurnError) = some true)
    (k_InvalidPixel__t_ValueError : PySem.W.kitOne K (.ref C_InvalidPixel) (.type "ValueError") = some true)
    (k_InvalidTurn__InvalidLegs : PySem.W.kitOne K (.ref C_InvalidTurn) (.ref C_InvalidLegs) = some false)
    (k_InvalidTurn__InvalidNumber : PySem.W.kitOne K (.ref C_InvalidTurn) (.ref C_InvalidNumber) = some false)
    (k_InvalidTurn__InvalidPixel : PySem.W.kitOne K (.ref C_InvalidTurn) (.ref C_InvalidPixel) = some false)
    (k_InvalidTurn__InvalidPixels : PySem.W.kitOne K (.ref C_InvalidTurn) (.ref C_InvalidPixels) = some false)
    (k_InvalidTurn__InvalidScale : PySem.W.kitOne K (.ref C_InvalidTurn) (.ref C_InvalidScale) = some false)
    (k_InvalidTurn__InvalidSix : PySem.W.kitOne K (.ref C_InvalidTurn) (.ref C_InvalidSix) = some false)
    (k_InvalidTurn__InvalidTurn : PySem.W.kitOne K (.ref C_InvalidTurn) (.ref C_InvalidTurn) = some true)
    (k_InvalidTurn__InvalidWay : PySem.W.kitOne K (.ref C_InvalidTurn) (.ref C_InvalidWay) = some false)
    (k_InvalidTurn__TooLarge : PySem.W.kitOne K (.ref C_InvalidTurn) (.ref C_TooLarge) = some false)
    (k_InvalidTurn__TurnError : PySem.W.kitOne K (.ref C_InvalidTurn) (.ref C_TurnError) = some true)
    (k_InvalidTurn__t_ValueError : PySem.W.kitOne K (.ref C_InvalidTurn) (.type "ValueError") = some true)
    (k_InvalidWay__InvalidLegs : PySem.W.kitOne K (.ref C_InvalidWay) (.ref C_InvalidLegs) = some false)
    (k_InvalidWay__InvalidNumber : PySem.W.kitOne K (.ref C_InvalidWay) (.ref C_InvalidNumber) = some false)
    (k_InvalidWay__InvalidPixel : PySem.W.kitOne K (.ref C_InvalidWay) (.ref C_InvalidPixel) = some false)
    (k_InvalidWay__InvalidPixels : PySem.W.kitOne K (.ref C_InvalidWay) (.ref C_InvalidPixels) = some false)
    (k_InvalidWay__InvalidScale : PySem.W.kitOne K (.ref C_InvalidWay) (.ref C_InvalidScale) = some false)
    (k_InvalidWay__InvalidSix : PySem.W.kitOne K (.ref C_InvalidWay) (.ref C_InvalidSix) = some false)
    (k_InvalidWay__InvalidTurn : PySem.W.kitOne K (.ref C_InvalidWay) (.ref C_InvalidTurn) = some false)
    (k_InvalidWay__InvalidWay : PySem.W.kitOne K (.ref C_InvalidWay) (.ref C_InvalidWay) = some true)
    (k_InvalidWay__TooLarge : PySem.W.kitOne K (.ref C_InvalidWay) (.ref C_TooLarge) = some false)
    (k_InvalidWay__TurnError : PySem.W.kitOne K (.ref C_InvalidWay) (.ref C_TurnError) = some true)
    (k_InvalidWay__t_ValueError : PySem.W.kitOne K (.ref C_InvalidWay) (.type "ValueError") = some true)
    (k_TooLarge__InvalidLegs : PySem.W.kitOne K (.ref C_TooLarge) (.ref C_InvalidLegs) = some false)
    (k_TooLarge__InvalidNumber : PySem.W.kitOne K (.ref C_TooLarge) (.ref C_InvalidNumber) = some false)
    (k_TooLarge__InvalidPixel : PySem.W.kitOne K (.ref C_TooLarge) (.ref C_InvalidPixel) = some false)
    (k_TooLarge__InvalidPixels : PySem.W.kitOne K (.ref C_TooLarge) (.ref C_InvalidPixels) = some false)
    (k_TooLarge__InvalidScale : PySem.W.kitOne K (.ref C_TooLarge) (.ref C_InvalidScale) = some false)
    (k_TooLarge__InvalidSix : PySem.W.kitOne K (.ref C_TooLarge) (.ref C_InvalidSix) = some false)
    (k_TooLarge__InvalidTurn : PySem.W.kitOne K (.ref C_TooLarge) (.ref C_InvalidTurn) = some false)
    (k_TooLarge__InvalidWay : PySem.W.kitOne K (.ref C_TooLarge) (.ref C_InvalidWay) = some false)
    (k_TooLarge__TooLarge : PySem.W.kitOne K (.ref C_TooLarge) (.ref C_TooLarge) = some true)
    (k_TooLarge__TurnError : PySem.W.kitOne K (.ref C_TooLarge) (.ref C_TurnError) = some true)
    (k_TooLarge__t_ValueError : PySem.W.kitOne K (.ref C_TooLarge) (.type "ValueError") = some true)
    : ∃ fd : FuncData, (∀ (s : Shared) (v : Value), BindsTo s fd ⟨[v], []⟩ [("_law_script", v)]) ∧ ∀ base : Heap, K.In base → base.Ns mainGlobals mg → GOk l.prog w K mg base 14 fa fd ["_law_script"] (spD K (conLaw 63)) := by
  have e := hfa.symm.trans (PySem.W.mg_of X G a39)
  cases e
  have F0 := fun_mk (st := s_times) l0 c0 k0
  have F1 := fun_mk (st := s_is_whole) l1 c1 k1
  have F2 := fun_mk (st := s_is_whole_tuple) l2 c2 k2
  have F3 := fun_mk (st := s_is_pixel) l3 c3 k3
  have F4 := fun_mk (st := s_is_turn) l4 c4 k4
  have F5 := fun_mk (st := s_check_pixel) l5 c5 k5
  have F6 := fun_mk (st := s_check_turn) l6 c6 k6
  have F7 := fun_mk (st := s_nearest) l7 c7 k7
  have F8 := fun_mk (st := s_legs_of) l8 c8 k8
  have F9 := fun_mk (st := s_back) l9 c9 k9
  have F10 := fun_mk (st := s__law_source) l10 c10 k10
  have F11 := fun_mk (st := s__law_draw) l11 c11 k11
  have F12 := fun_mk (st := s__law_dot) l12 c12 k12
  have F13 := fun_mk (st := s_lowest) l13 c13 k13
  have F14 := fun_mk (st := s_inverse) l14 c14 k14
  have F15 := fun_mk (st := s_turn_by) l15 c15 k15
  have F16 := fun_mk (st := s_joined) l16 c16 k16
  have F17 := fun_mk (st := s_led) l17 c17 k17
  have F18 := fun_mk (st := s_keeps_all) l18 c18 k18
  have F19 := fun_mk (st := s_led_along) l19 c19 k19
  have F20 := fun_mk (st := s__multiple) l20 c20 k20
  have F21 := fun_mk (st := s_way_for) l21 c21 k21
  have F22 := fun_mk (st := s__legs_along) l22 c22 k22
  have F23 := fun_mk (st := s__is_keeping) l23 c23 k23
  have F24 := fun_mk (st := s_is_way) l24 c24 k24
  have F25 := fun_mk (st := s_check_way) l25 c25 k25
  have F26 := fun_mk (st := s_walked) l26 c26 k26
  have F27 := fun_mk (st := s_walked_back) l27 c27 k27
  have F28 := fun_mk (st := s_way_miss) l28 c28 k28
  have F29 := fun_mk (st := s_way_bound) l29 c29 k29
  have F30 := fun_mk (st := s_product) l30 c30 k30
  have F31 := fun_mk (st := s_shows_way) l31 c31 k31
  have F32 := fun_mk (st := s__law_road) l32 c32 k32
  have F33 := fun_mk (st := s__law_fault) l33 c33 k33
  have F34 := fun_mk (st := s__law_told) l34 c34 k34
  have F35 := fun_mk (st := s__law_odd_dots) l35 c35 k35
  have F36 := fun_mk (st := s__law_odd_spins) l36 c36 k36
  have F37 := fun_mk (st := s__law_odd_items) l37 c37 k37
  have F38 := fun_mk (st := s__law_right) l38 c38 k38
  have F39 := fun_mk (st := s_law) l39 c39 k39
  have n_ValueError := PySem.W.mg_none_of X G z_ValueError
  have n_abs := PySem.W.mg_none_of X G z_abs
  have n_all := PySem.W.mg_none_of X G z_all
  have n_bool := PySem.W.mg_none_of X G z_bool
  have n_enumerate := PySem.W.mg_none_of X G z_enumerate
  have n_int := PySem.W.mg_none_of X G z_int
  have n_isinstance := PySem.W.mg_none_of X G z_isinstance
  have n_len := PySem.W.mg_none_of X G z_len
  have n_list := PySem.W.mg_none_of X G z_list
  have n_max := PySem.W.mg_none_of X G z_max
  have n_min := PySem.W.mg_none_of X G z_min
  have n_range := PySem.W.mg_none_of X G z_range
  have n_repr := PySem.W.mg_none_of X G z_repr
  have n_tuple := PySem.W.mg_none_of X G z_tuple
  have b_gcd := PySem.W.mg_of X G y_gcd
  have b_isqrt := PySem.W.mg_of X G y_isqrt
  have g_GREATEST_P := x_GREATEST_P
  have g_GREATEST_SIZE := x_GREATEST_SIZE
  have g_MOST_ITEMS := x_MOST_ITEMS
  have g_QUARTERS := x_QUARTERS
  have o_InvalidLegs : OwnErr K mg "InvalidLegs" C_InvalidLegs := ⟨PySem.W.mg_of X G eA_InvalidLegs, eK_InvalidLegs, eQ_InvalidLegs, eX_InvalidLegs, eT_InvalidLegs⟩
  have o_InvalidNumber : OwnErr K mg "InvalidNumber" C_InvalidNumber := ⟨PySem.W.mg_of X G eA_InvalidNumber, eK_InvalidNumber, eQ_InvalidNumber, eX_InvalidNumber, eT_InvalidNumber⟩
  have o_InvalidPixel : OwnErr K mg "InvalidPixel" C_InvalidPixel := ⟨PySem.W.mg_of X G eA_InvalidPixel, eK_InvalidPixel, eQ_InvalidPixel, eX_InvalidPixel, eT_InvalidPixel⟩
  have o_InvalidScale : OwnErr K mg "InvalidScale" C_InvalidScale := ⟨PySem.W.mg_of X G eA_InvalidScale, eK_InvalidScale, eQ_InvalidScale, eX_InvalidScale, eT_InvalidScale⟩
  have o_InvalidSix : OwnErr K mg "InvalidSix" C_InvalidSix := ⟨PySem.W.mg_of X G eA_InvalidSix, eK_InvalidSix, eQ_InvalidSix, eX_InvalidSix, eT_InvalidSix⟩
  have o_InvalidTurn : OwnErr K mg "InvalidTurn" C_InvalidTurn := ⟨PySem.W.mg_of X G eA_InvalidTurn, eK_InvalidTurn, eQ_InvalidTurn, eX_InvalidTurn, eT_InvalidTurn⟩
  have o_TurnError : OwnErr K mg "TurnError" C_TurnError := ⟨PySem.W.mg_of X G eA_TurnError, eK_TurnError, eQ_TurnError, eX_TurnError, eT_TurnError⟩
  have l_InvalidPixels : PySem.LimX.LimTxt l.prog K mg "InvalidPixels" "InvalidPixels.__init__" "index" "no picture, wrong at " C_InvalidPixels fI_InvalidPixels := { gC := PySem.W.mg_of X G eA_InvalidPixels, cls := ⟨_, _, _, _, _, _, _, _, _, _, _, _, _, _, _, eL_InvalidPixels, eR_InvalidPixels⟩, sa := eS_InvalidPixels, ga := eG_InvalidPixels, gg := eH_InvalidPixels, noN := eF_InvalidPixels, iC := eI_InvalidPixels, tC := eJ_InvalidPixels, kC := eK_InvalidPixels, exC := eX_InvalidPixels, veC := eV_InvalidPixels, tyC := eT_InvalidPixels, hdC := eD_InvalidPixels, sup := eZ_InvalidPixels, any := e_any, sG := PySem.W.mg_none_of X G e_super, top := e_top, fn := ⟨oc_InvalidPixels, od_InvalidPixels, kV_InvalidPixels, doc_InvalidPixels, pm_InvalidPixels, an_InvalidPixels, ct_InvalidPixels, osl_InvalidPixels, cc_InvalidPixels, cda_InvalidPixels, p1_InvalidPixels, p2_InvalidPixels, q1_InvalidPixels, q2_InvalidPixels, q3_InvalidPixels, q4_InvalidPixels, q5_InvalidPixels, q6_InvalidPixels, q7_InvalidPixels, q8_InvalidPixels, q9_InvalidPixels, r1_InvalidPixels, r2_InvalidPixels, r3_InvalidPixels, r4_InvalidPixels, cl_InvalidPixels, cld_InvalidPixels, csl_InvalidPixels, ccl_InvalidPixels, cdd_InvalidPixels, ccs_InvalidPixels, vs_InvalidPixels, file_InvalidPixels, tf_InvalidPixels, eM_InvalidPixels, eN_InvalidPixels, eO_InvalidPixels, eP_InvalidPixels, eU_InvalidPixels, eW_InvalidPixels, eY_InvalidPixels⟩ }
  have l_InvalidWay : PySem.LimX.LimTxt l.prog K mg "InvalidWay" "InvalidWay.__init__" "index" "no way, wrong at " C_InvalidWay fI_InvalidWay := { gC := PySem.W.mg_of X G eA_InvalidWay, cls := ⟨_, _, _, _, _, _, _, _, _, _, _, _, _, _, _, eL_InvalidWay, eR_InvalidWay⟩, sa := eS_InvalidWay, ga := eG_InvalidWay, gg := eH_InvalidWay, noN := eF_InvalidWay, iC := eI_InvalidWay, tC := eJ_InvalidWay, kC := eK_InvalidWay, exC := eX_InvalidWay, veC := eV_InvalidWay, tyC := eT_InvalidWay, hdC := eD_InvalidWay, sup := eZ_InvalidWay, any := e_any, sG := PySem.W.mg_none_of X G e_super, top := e_top, fn := ⟨oc_InvalidWay, od_InvalidWay, kV_InvalidWay, doc_InvalidWay, pm_InvalidWay, an_InvalidWay, ct_InvalidWay, osl_InvalidWay, cc_InvalidWay, cda_InvalidWay, p1_InvalidWay, p2_InvalidWay, q1_InvalidWay, q2_InvalidWay, q3_InvalidWay, q4_InvalidWay, q5_InvalidWay, q6_InvalidWay, q7_InvalidWay, q8_InvalidWay, q9_InvalidWay, r1_InvalidWay, r2_InvalidWay, r3_InvalidWay, r4_InvalidWay, cl_InvalidWay, cld_InvalidWay, csl_InvalidWay, ccl_InvalidWay, cdd_InvalidWay, ccs_InvalidWay, vs_InvalidWay, file_InvalidWay, tf_InvalidWay, eM_InvalidWay, eN_InvalidWay, eO_InvalidWay, eP_InvalidWay, eU_InvalidWay, eW_InvalidWay, eY_InvalidWay⟩ }
  have l_TooLarge : PySem.LimX.LimTxt l.prog K mg "TooLarge" "TooLarge.__init__" "limit" "greater than " C_TooLarge fI_TooLarge := { gC := PySem.W.mg_of X G eA_TooLarge, cls := ⟨_, _, _, _, _, _, _, _, _, _, _, _, _, _, _, eL_TooLarge, eR_TooLarge⟩, sa := eS_TooLarge, ga := eG_TooLarge, gg := eH_TooLarge, noN := eF_TooLarge, iC := eI_TooLarge, tC := eJ_TooLarge, kC := eK_TooLarge, exC := eX_TooLarge, veC := eV_TooLarge, tyC := eT_TooLarge, hdC := eD_TooLarge, sup := eZ_TooLarge, any := e_any, sG := PySem.W.mg_none_of X G e_super, top := e_top, fn := ⟨oc_TooLarge, od_TooLarge, kV_TooLarge, doc_TooLarge, pm_TooLarge, an_TooLarge, ct_TooLarge, osl_TooLarge, cc_TooLarge, cda_TooLarge, p1_TooLarge, p2_TooLarge, q1_TooLarge, q2_TooLarge, q3_TooLarge, q4_TooLarge, q5_TooLarge, q6_TooLarge, q7_TooLarge, q8_TooLarge, q9_TooLarge, r1_TooLarge, r2_TooLarge, r3_TooLarge, r4_TooLarge, cl_TooLarge, cld_TooLarge, csl_TooLarge, ccl_TooLarge, cdd_TooLarge, ccs_TooLarge, vs_TooLarge, file_TooLarge, tf_TooLarge, eM_TooLarge, eN_TooLarge, eO_TooLarge, eP_TooLarge, eU_TooLarge, eW_TooLarge, eY_TooLarge⟩ }
  have x_InvalidPixel : L2.ExcC K C_InvalidPixel := ⟨xg_InvalidPixel, xk_InvalidPixel, xs_InvalidPixel, xd_InvalidPixel, xa_InvalidPixel, xn_InvalidPixel, xt_InvalidPixel, xm_InvalidPixel⟩
  have x_InvalidTurn : L2.ExcC K C_InvalidTurn := ⟨xg_InvalidTurn, xk_InvalidTurn, xs_InvalidTurn, xd_InvalidTurn, xa_InvalidTurn, xn_InvalidTurn, xt_InvalidTurn, xm_InvalidTurn⟩
  have x_InvalidWay : L2.ExcC K C_InvalidWay := ⟨xg_InvalidWay, xk_InvalidWay, xs_InvalidWay, xd_InvalidWay, xa_InvalidWay, xn_InvalidWay, xt_InvalidWay, xm_InvalidWay⟩
  have x_TooLarge : L2.ExcC K C_TooLarge := ⟨xg_TooLarge, xk_TooLarge, xs_TooLarge, xd_TooLarge, xa_TooLarge, xn_TooLarge, xt_TooLarge, xm_TooLarge⟩
  have x_TurnError : L2.ExcC K C_TurnError := ⟨xg_TurnError, xk_TurnError, xs_TurnError, xd_TurnError, xa_TurnError, xn_TurnError, xt_TurnError, xm_TurnError⟩
  have v_TurnError : KOdd K C_TurnError := ⟨vi_TurnError, vb_TurnError, vt_TurnError, vl_TurnError, vs2_TurnError⟩
  have e_TurnError : ExcK K C_TurnError cd_TurnError := ⟨by unfold PySem.W.clsIn; rw [ec_TurnError], ex_TurnError, er_TurnError, en_TurnError⟩
  have m_InvalidPixel__TurnError := exm_two eX_TurnError eC_TurnError eT_TurnError w_InvalidPixel__TurnError
  have m_InvalidTurn__TurnError := exm_two eX_TurnError eC_TurnError eT_TurnError w_InvalidTurn__TurnError
  have m_InvalidWay__TurnError := exm_two eX_TurnError eC_TurnError eT_TurnError w_InvalidWay__TurnError
  have m_TooLarge__TurnError := exm_two eX_TurnError eC_TurnError eT_TurnError w_TooLarge__TurnError
  refine ⟨PySem.W.fnOf "law" "law" (defArgs s_law) (defBody s_law) (defScope s_law) .none kV39 dc39 pm39 an39 cd39 ct39, fun s v => .of_eq rfl, fun base _ _ => ?_⟩
  have c_times := cal_of (kws := []) F0 (ok_times (P := l.prog) (w := w) (base := base) F0 ) (PySem.W.mg_of X G a0) (bargs_of F0 fun _ _ _ _ _ _ us hl => match us, hl with | [_, _], _ => rfl) (fun _ h => nomatch h)
  have c_is_whole := cal_of (kws := []) F1 (ok_is_whole (P := l.prog) (w := w) (base := base) F1 n_bool n_int n_isinstance) (PySem.W.mg_of X G a1) (bargs_of F1 fun _ _ _ _ _ _ us hl => match us, hl with | [_], _ => rfl) (fun _ h => nomatch h)
  have c_is_whole_tuple := cal_of (kws := []) F2 (ok_is_whole_tuple (P := l.prog) (w := w) (base := base) F2 c_is_whole n_all n_isinstance n_len n_tuple) (PySem.W.mg_of X G a2) (bargs_of F2 fun _ _ _ _ _ _ us hl => match us, hl with | [_, _], _ => rfl) (fun _ h => nomatch h)
  have c_is_pixel := cal_of (kws := []) F3 (ok_is_pixel (P := l.prog) (w := w) (base := base) F3 c_is_whole_tuple) (PySem.W.mg_of X G a3) (bargs_of F3 fun _ _ _ _ _ _ us hl => match us, hl with | [_], _ => rfl) (fun _ h => nomatch h)
  have c_is_turn := cal_of (kws := []) F4 (ok_is_turn (P := l.prog) (w := w) (base := base) F4 b_gcd c_is_whole_tuple g_GREATEST_P n_abs) (PySem.W.mg_of X G a4) (bargs_of F4 fun _ _ _ _ _ _ us hl => match us, hl with | [_], _ => rfl) (fun _ h => nomatch h)
  have c_check_pixel := cal_of (kws := []) F5 (ok_check_pixel (P := l.prog) (w := w) (base := base) F5 c_is_pixel) (PySem.W.mg_of X G a5) (bargs_of F5 fun _ _ _ _ _ _ us hl => match us, hl with | [_], _ => rfl) (fun _ h => nomatch h)
  have c_check_turn := cal_of (kws := []) F6 (ok_check_turn (P := l.prog) (w := w) (base := base) F6 c_is_turn) (PySem.W.mg_of X G a6) (bargs_of F6 fun _ _ _ _ _ _ us hl => match us, hl with | [_], _ => rfl) (fun _ h => nomatch h)
  have r_check_pixel := calx_of (kws := []) F5 (okx_check_pixel (P := l.prog) (w := w) (base := base) F5 c_is_pixel o_InvalidPixel) (PySem.W.mg_of X G a5) (bargs_of F5 fun _ _ _ _ _ _ us hl => match us, hl with | [_], _ => rfl) (fun _ h => nomatch h)
  have r_check_turn := calx_of (kws := []) F6 (okx_check_turn (P := l.prog) (w := w) (base := base) F6 c_is_turn o_InvalidTurn) (PySem.W.mg_of X G a6) (bargs_of F6 fun _ _ _ _ _ _ us hl => match us, hl with | [_], _ => rfl) (fun _ h => nomatch h)
  have c_nearest := cal_of (kws := []) F7 (ok_nearest (P := l.prog) (w := w) (base := base) F7 ) (PySem.W.mg_of X G a7) (bargs_of F7 fun _ _ _ _ _ _ us hl => match us, hl with | [_, _], _ => rfl) (fun _ h => nomatch h)
  have c_legs_of := cal_of (kws := []) F8 (ok_legs_of (P := l.prog) (w := w) (base := base) F8 c_check_turn c_times n_range) (PySem.W.mg_of X G a8) (bargs_of F8 fun _ _ _ _ _ _ us hl => match us, hl with | [_], _ => rfl) (fun _ h => nomatch h)
  have c_back := cal_of (kws := []) F9 (ok_back (P := l.prog) (w := w) (base := base) F9 c_check_turn) (PySem.W.mg_of X G a9) (bargs_of F9 fun _ _ _ _ _ _ us hl => match us, hl with | [_], _ => rfl) (fun _ h => nomatch h)
  have c__law_source := cal_of (kws := []) F10 (ok__law_source (P := l.prog) (w := w) (base := base) F10 n_abs n_int n_max) (PySem.W.mg_of X G a10) (bargs_of F10 fun _ _ _ _ _ _ us hl => match us, hl with | [_, _], _ => rfl) (fun _ h => nomatch h)
  have c__law_draw := cal_of (kws := []) F11 (ok__law_draw (P := l.prog) (w := w) (base := base) F11 n_int) (PySem.W.mg_of X G a11) (bargs_of F11 fun _ _ _ _ _ _ us hl => match us, hl with | [_, _], _ => rfl) (fun _ h => nomatch h)
  have c__law_dot := cal_of (kws := []) F12 (ok__law_dot (P := l.prog) (w := w) (base := base) F12 c__law_draw n_range n_tuple) (PySem.W.mg_of X G a12) (bargs_of F12 fun _ _ _ _ _ _ us hl => match us, hl with | [_, _], _ => rfl) (fun _ h => nomatch h)
  have c_lowest := cal_of (kws := []) F13 (ok_lowest (P := l.prog) (w := w) (base := base) F13 b_gcd) (PySem.W.mg_of X G a13) (bargs_of F13 fun _ _ _ _ _ _ us hl => match us, hl with | [_, _], _ => rfl) (fun _ h => nomatch h)
  have c_inverse := cal_of (kws := []) F14 (ok_inverse (P := l.prog) (w := w) (base := base) F14 ) (PySem.W.mg_of X G a14) (bargs_of F14 fun _ _ _ _ _ _ us hl => match us, hl with | [_, _], _ => rfl) (fun _ h => nomatch h)
  have c_turn_by := cal_of (kws := []) F15 (ok_turn_by (P := l.prog) (w := w) (base := base) F15 b_gcd b_isqrt g_GREATEST_P) (PySem.W.mg_of X G a15) (bargs_of F15 fun _ _ _ _ _ _ us hl => match us, hl with | [_], _ => rfl) (fun _ h => nomatch h)
  have c_joined := cal_of (kws := []) F16 (ok_joined (P := l.prog) (w := w) (base := base) F16 c_check_turn c_legs_of c_times c_turn_by) (PySem.W.mg_of X G a16) (bargs_of F16 fun _ _ _ _ _ _ us hl => match us, hl with | [_, _], _ => rfl) (fun _ h => nomatch h)
  have c_led := cal_of (kws := []) F17 (ok_led (P := l.prog) (w := w) (base := base) F17 c_nearest c_times) (PySem.W.mg_of X G a17) (bargs_of F17 fun _ _ _ _ _ _ us hl => match us, hl with | [_, _], _ => rfl) (fun _ h => nomatch h)
  have c_keeps_all := cal_of (kws := []) F18 (ok_keeps_all (P := l.prog) (w := w) (base := base) F18 c_check_turn n_abs) (PySem.W.mg_of X G a18) (bargs_of F18 fun _ _ _ _ _ _ us hl => match us, hl with | [_], _ => rfl) (fun _ h => nomatch h)
  have c_led_along := cal_of (kws := []) F19 (ok_led_along (P := l.prog) (w := w) (base := base) F19 c_led) (PySem.W.mg_of X G a19) (bargs_of F19 fun _ _ _ _ _ _ us hl => match us, hl with | [_, _], _ => rfl) (fun _ h => nomatch h)
  have c__multiple := cal_of (kws := []) F20 (ok__multiple (P := l.prog) (w := w) (base := base) F20 c_inverse n_abs) (PySem.W.mg_of X G a20) (bargs_of F20 fun _ _ _ _ _ _ us hl => match us, hl with | [_], _ => rfl) (fun _ h => nomatch h)
  have r_way_for := calx_of (kws := []) F21 (ok_way_for (P := l.prog) (w := w) (base := base) F21 c__multiple c_back c_joined g_GREATEST_SIZE l_TooLarge r_check_turn) (PySem.W.mg_of X G a21) (bargs_of F21 fun _ _ _ _ _ _ us hl => match us, hl with | [_], _ => rfl) (fun _ h => nomatch h)
  have c__legs_along := cal_of (kws := []) F22 (ok__legs_along (P := l.prog) (w := w) (base := base) F22 b_gcd c_times g_QUARTERS) (PySem.W.mg_of X G a22) (bargs_of F22 fun _ _ _ _ _ _ us hl => match us, hl with | [_], _ => rfl) (fun _ h => nomatch h)
  have c__is_keeping := cal_of (kws := []) F23 (ok__is_keeping (P := l.prog) (w := w) (base := base) F23 c_is_turn c_keeps_all) (PySem.W.mg_of X G a23) (bargs_of F23 fun _ _ _ _ _ _ us hl => match us, hl with | [_], _ => rfl) (fun _ h => nomatch h)
  have c_is_way := cal_of (kws := []) F24 (ok_is_way (P := l.prog) (w := w) (base := base) F24 c__is_keeping g_MOST_ITEMS n_all n_isinstance n_len n_list) (PySem.W.mg_of X G a24) (bargs_of F24 fun _ _ _ _ _ _ us hl => match us, hl with | [_], _ => rfl) (fun _ h => nomatch h)
  have r_check_way := calx_of (kws := []) F25 (ok_check_way (P := l.prog) (w := w) (base := base) F25 c__is_keeping g_MOST_ITEMS l_InvalidWay n_enumerate n_isinstance n_len n_list) (PySem.W.mg_of X G a25) (bargs_of F25 fun _ _ _ _ _ _ us hl => match us, hl with | [_], _ => rfl) (fun _ h => nomatch h)
  have r_walked := calx_of (kws := []) F26 (ok_walked (P := l.prog) (w := w) (base := base) F26 c_led_along c_legs_of r_check_pixel r_check_way) (PySem.W.mg_of X G a26) (bargs_of F26 fun _ _ _ _ _ _ us hl => match us, hl with | [_, _], _ => rfl) (fun _ h => nomatch h)
  have r_walked_back := calx_of (kws := []) F27 (ok_walked_back (P := l.prog) (w := w) (base := base) F27 c_back c_led_along c_legs_of r_check_pixel r_check_way) (PySem.W.mg_of X G a27) (bargs_of F27 fun _ _ _ _ _ _ us hl => match us, hl with | [_, _], _ => rfl) (fun _ h => nomatch h)
  have r_way_miss := calx_of (kws := []) F28 (ok_way_miss (P := l.prog) (w := w) (base := base) F28 c__legs_along c_lowest c_times r_walked) (PySem.W.mg_of X G a28) (bargs_of F28 fun _ _ _ _ _ _ us hl => match us, hl with | [_, _], _ => rfl) (fun _ h => nomatch h)
  have r_way_bound := calx_of (kws := []) F29 (ok_way_bound (P := l.prog) (w := w) (base := base) F29 c_lowest n_len r_check_way) (PySem.W.mg_of X G a29) (bargs_of F29 fun _ _ _ _ _ _ us hl => match us, hl with | [_], _ => rfl) (fun _ h => nomatch h)
  have r_turn_by := calx_of (kws := []) F15 (okx_turn_by (P := l.prog) (w := w) (base := base) F15 b_gcd b_isqrt g_GREATEST_P l_TooLarge) (PySem.W.mg_of X G a15) (bargs_of F15 fun _ _ _ _ _ _ us hl => match us, hl with | [_], _ => rfl) (fun _ h => nomatch h)
  have r_product := calx_of (kws := []) F30 (ok_product (P := l.prog) (w := w) (base := base) F30 c__legs_along c_turn_by r_check_way r_turn_by) (PySem.W.mg_of X G a30) (bargs_of F30 fun _ _ _ _ _ _ us hl => match us, hl with | [_], _ => rfl) (fun _ h => nomatch h)
  have r_shows_way := calx_of (kws := []) F31 (ok_shows_way (P := l.prog) (w := w) (base := base) F31 c__legs_along c_is_way c_legs_of r_check_turn) (PySem.W.mg_of X G a31) (bargs_of F31 fun _ _ _ _ _ _ us hl => match us, hl with | [_, _], _ => rfl) (fun _ h => nomatch h)
  have c__law_road := cal_of (kws := []) F32 (ok__law_road (P := l.prog) (w := w) (base := base) F32 c__law_draw n_range) (PySem.W.mg_of X G a32) (bargs_of F32 fun _ _ _ _ _ _ us hl => match us, hl with | [_, _, _], _ => rfl) (fun _ h => nomatch h)
  have h__law_fault__InvalidTurn := calE_of F33 (okh__law_fault__InvalidTurn (P := l.prog) (w := w) (base := base) F33 k_InvalidTurn__InvalidLegs k_InvalidTurn__InvalidNumber k_InvalidTurn__InvalidPixel k_InvalidTurn__InvalidPixels k_InvalidTurn__InvalidScale k_InvalidTurn__InvalidSix k_InvalidTurn__InvalidTurn k_InvalidTurn__InvalidWay k_InvalidTurn__TooLarge k_InvalidTurn__TurnError k_InvalidTurn__t_ValueError l_InvalidPixels l_InvalidWay l_TooLarge n_ValueError n_isinstance o_InvalidLegs o_InvalidNumber o_InvalidPixel o_InvalidScale o_InvalidSix o_InvalidTurn o_TurnError x_InvalidTurn) (PySem.W.mg_of X G a33) (bargs_of F33 fun _ _ _ _ _ _ us hl => match us, hl with | [_], _ => rfl)
  have h__law_fault__InvalidPixel := calE_of F33 (okh__law_fault__InvalidPixel (P := l.prog) (w := w) (base := base) F33 k_InvalidPixel__InvalidLegs k_InvalidPixel__InvalidNumber k_InvalidPixel__InvalidPixel k_InvalidPixel__InvalidPixels k_InvalidPixel__InvalidScale k_InvalidPixel__InvalidSix k_InvalidPixel__InvalidTurn k_InvalidPixel__InvalidWay k_InvalidPixel__TooLarge k_InvalidPixel__TurnError k_InvalidPixel__t_ValueError l_InvalidPixels l_InvalidWay l_TooLarge n_ValueError n_isinstance o_InvalidLegs o_InvalidNumber o_InvalidPixel o_InvalidScale o_InvalidSix o_InvalidTurn o_TurnError x_InvalidPixel) (PySem.W.mg_of X G a33) (bargs_of F33 fun _ _ _ _ _ _ us hl => match us, hl with | [_], _ => rfl)
  have h__law_fault__InvalidWay := calE_of F33 (okh__law_fault__InvalidWay (P := l.prog) (w := w) (base := base) F33 k_InvalidWay__InvalidLegs k_InvalidWay__InvalidNumber k_InvalidWay__InvalidPixel k_InvalidWay__InvalidPixels k_InvalidWay__InvalidScale k_InvalidWay__InvalidSix k_InvalidWay__InvalidTurn k_InvalidWay__InvalidWay k_InvalidWay__TooLarge k_InvalidWay__TurnError k_InvalidWay__t_ValueError l_InvalidPixels l_InvalidWay l_TooLarge n_ValueError n_isinstance o_InvalidLegs o_InvalidNumber o_InvalidPixel o_InvalidScale o_InvalidSix o_InvalidTurn o_TurnError x_InvalidWay) (PySem.W.mg_of X G a33) (bargs_of F33 fun _ _ _ _ _ _ us hl => match us, hl with | [_], _ => rfl)
  have h__law_fault__TooLarge := calE_of F33 (okh__law_fault__TooLarge (P := l.prog) (w := w) (base := base) F33 k_TooLarge__InvalidLegs k_TooLarge__InvalidNumber k_TooLarge__InvalidPixel k_TooLarge__InvalidPixels k_TooLarge__InvalidScale k_TooLarge__InvalidSix k_TooLarge__InvalidTurn k_TooLarge__InvalidWay k_TooLarge__TooLarge k_TooLarge__TurnError k_TooLarge__t_ValueError l_InvalidPixels l_InvalidWay l_TooLarge n_ValueError n_isinstance o_InvalidLegs o_InvalidNumber o_InvalidPixel o_InvalidScale o_InvalidSix o_InvalidTurn o_TurnError x_TooLarge) (PySem.W.mg_of X G a33) (bargs_of F33 fun _ _ _ _ _ _ us hl => match us, hl with | [_], _ => rfl)
  have c__law_told := cal_of (kws := []) F34 (ok__law_told (P := l.prog) (w := w) (base := base) F34 c_is_way h__law_fault__InvalidPixel h__law_fault__InvalidTurn h__law_fault__InvalidWay h__law_fault__TooLarge m_InvalidPixel__TurnError m_InvalidTurn__TurnError m_InvalidWay__TurnError m_TooLarge__TurnError n_repr o_TurnError r_product r_shows_way r_walked r_walked_back r_way_bound r_way_for r_way_miss) (PySem.W.mg_of X G a34) (bargs_of F34 fun _ _ _ _ _ _ us hl => match us, hl with | [_, _, _], _ => rfl) (fun _ h => nomatch h)
  have c__law_odd_dots := cal_of (kws := []) F35 (ok__law_odd_dots (P := l.prog) (w := w) (base := base) F35 ) (PySem.W.mg_of X G a35) (bargs_of F35 fun _ _ _ _ _ _ us hl => match us, hl with | [], _ => rfl) (fun _ h => nomatch h)
  have c__law_odd_spins := cal_of (kws := []) F36 (ok__law_odd_spins (P := l.prog) (w := w) (base := base) F36 ) (PySem.W.mg_of X G a36) (bargs_of F36 fun _ _ _ _ _ _ us hl => match us, hl with | [], _ => rfl) (fun _ h => nomatch h)
  have c__law_odd_items := cal_of (kws := []) F37 (ok__law_odd_items (P := l.prog) (w := w) (base := base) F37 ) (PySem.W.mg_of X G a37) (bargs_of F37 fun _ _ _ _ _ _ us hl => match us, hl with | [], _ => rfl) (fun _ h => nomatch h)
  have c__law_right := cal_of (kws := []) F38 (ok__law_right (P := l.prog) (w := w) (base := base) F38 c__law_draw c__law_odd_dots c__law_odd_items c__law_told e_TurnError n_len n_tuple o_TurnError v_TurnError x_TurnError) (PySem.W.mg_of X G a38) (bargs_of F38 fun _ _ _ _ _ _ us hl => match us, hl with | [_, _, _], _ => rfl) (fun _ h => nomatch h)
  exact ok_law (P := l.prog) (w := w) (base := base) F39 c__law_dot c__law_draw c__law_odd_spins c__law_right c__law_road c__law_source c__law_told e_TurnError n_enumerate n_len n_max n_min o_TurnError v_TurnError x_TurnError
end Tp
set_option maxRecDepth 100000 in
set_option maxHeartbeats 0 in
theorem PySem.Challenge.cw_turnedpixels_k44_errors_of_ways_holds : PySem.Challenge.rw_turnedpixels_k44_errors_of_ways.Holds := by
  w_on; o_law; k_head; (case hw => w_witness2)
  k_fill
  refine DL.law_end (l := PySem.Challenge.rw_turnedpixels_k44_errors_of_ways) (n := 63) (k := 14) (x := "_law_script") rfl (by decide) rfl ⟨rfl, by decide, by decide⟩ (fun w h Y => PySem.W.kIn_of Y) ?F
  case F =>
    intro w mg fa h KX G hmg
    refine' Tp.all_mk KX G hmg ?a0 ?l0 ?c0 ?k0 ?a1 ?l1 ?c1 ?k1 ?a2 ?l2 ?c2 ?k2 ?a3 ?l3 ?c3 ?k3 ?a4 ?l4 ?c4 ?k4 ?a5 ?l5 ?c5 ?k5 ?a6 ?l6 ?c6 ?k6 ?a7 ?l7 ?c7 ?k7 ?a8 ?l8 ?c8 ?k8 ?a9 ?l9 ?c9 ?k9 ?a10 ?l10 ?c10 ?k10 ?a11 ?l11 ?c11 ?k11 ?a12 ?l12 ?c12 ?k12 ?a13 ?l13 ?c13 ?k13 ?a14 ?l14 ?c14 ?k14 ?a15 ?l15 ?c15 ?k15 ?a16 ?l16 ?c16 ?k16 ?a17 ?l17 ?c17 ?k17 ?a18 ?l18 ?c18 ?k18 ?a19 ?l19 ?c19 ?k19 ?a20 ?l20 ?c20 ?k20 ?a21 ?l21 ?c21 ?k21 ?a22 ?l22 ?c22 ?k22 ?a23 ?l23 ?c23 ?k23 ?a24 ?l24 ?c24 ?k24 ?a25 ?l25 ?c25 ?k25 ?a26 ?l26 ?c26 ?k26 ?a27 ?l27 ?c27 ?k27 ?a28 ?l28 ?c28 ?k28 ?a29 ?l29 ?c29 ?k29 ?a30 ?l30 ?c30 ?k30 ?a31 ?l31 ?c31 ?k31 ?a32 ?l32 ?c32 ?k32 ?a33 ?l33 ?c33 ?k33 ?a34 ?l34 ?c34 ?k34 ?a35 ?l35 ?c35 ?k35 ?a36 ?l36 ?c36 ?k36 ?a37 ?l37 ?c37 ?k37 ?a38 ?l38 ?c38 ?k38 ?a39 ?l39 ?c39 ?k39 ?z_ValueError ?z_abs ?z_all ?z_bool ?z_enumerate ?z_int ?z_isinstance ?z_len ?z_list ?z_max ?z_min ?z_range ?z_repr ?z_tuple ?y_gcd ?y_isqrt ?x_GREATEST_P ?x_GREATEST_SIZE ?x_MOST_ITEMS ?x_QUARTERS ?eA_InvalidLegs ?eK_InvalidLegs ?eQ_InvalidLegs ?eX_InvalidLegs ?eT_InvalidLegs ?eA_InvalidNumber ?eK_InvalidNumber ?eQ_InvalidNumber ?eX_InvalidNumber ?eT_InvalidNumber ?eA_InvalidPixel ?eK_InvalidPixel ?eQ_InvalidPixel ?eX_InvalidPixel ?eT_InvalidPixel ?eA_InvalidScale ?eK_InvalidScale ?eQ_InvalidScale ?eX_InvalidScale ?eT_InvalidScale ?eA_InvalidSix ?eK_InvalidSix ?eQ_InvalidSix ?eX_InvalidSix ?eT_InvalidSix ?eA_InvalidTurn ?eK_InvalidTurn ?eQ_InvalidTurn ?eX_InvalidTurn ?eT_InvalidTurn ?eA_TurnError ?eK_TurnError ?eQ_TurnError ?eX_TurnError ?eT_TurnError ?eA_InvalidPixels ?eL_InvalidPixels ?eR_InvalidPixels ?eS_InvalidPixels ?eG_InvalidPixels ?eH_InvalidPixels ?eF_InvalidPixels ?eI_InvalidPixels ?eJ_InvalidPixels ?eK_InvalidPixels ?eX_InvalidPixels ?eV_InvalidPixels ?eT_InvalidPixels ?eD_InvalidPixels ?eM_InvalidPixels ?eN_InvalidPixels ?eO_InvalidPixels ?eP_InvalidPixels ?eU_InvalidPixels ?eW_InvalidPixels ?eY_InvalidPixels ?eZ_InvalidPixels ?eA_InvalidWay ?eL_InvalidWay ?eR_InvalidWay ?eS_InvalidWay ?eG_InvalidWay ?eH_InvalidWay ?eF_InvalidWay ?eI_InvalidWay ?eJ_InvalidWay ?eK_InvalidWay ?eX_InvalidWay ?eV_InvalidWay ?eT_InvalidWay ?eD_InvalidWay ?eM_InvalidWay ?eN_InvalidWay ?eO_InvalidWay ?eP_InvalidWay ?eU_InvalidWay ?eW_InvalidWay ?eY_InvalidWay ?eZ_InvalidWay ?eA_TooLarge ?eL_TooLarge ?eR_TooLarge ?eS_TooLarge ?eG_TooLarge ?eH_TooLarge ?eF_TooLarge ?eI_TooLarge ?eJ_TooLarge ?eK_TooLarge ?eX_TooLarge ?eV_TooLarge ?eT_TooLarge ?eD_TooLarge ?eM_TooLarge ?eN_TooLarge ?eO_TooLarge ?eP_TooLarge ?eU_TooLarge ?eW_TooLarge ?eY_TooLarge ?eZ_TooLarge ?e_any ?e_super ?e_top ?eC_TurnError ?w_InvalidPixel__TurnError ?w_InvalidTurn__TurnError ?w_InvalidWay__TurnError ?w_TooLarge__TurnError ?xg_InvalidPixel ?xk_InvalidPixel ?xs_InvalidPixel ?xd_InvalidPixel ?xa_InvalidPixel ?xn_InvalidPixel ?xt_InvalidPixel ?xm_InvalidPixel ?xg_InvalidTurn ?xk_InvalidTurn ?xs_InvalidTurn ?xd_InvalidTurn ?xa_InvalidTurn ?xn_InvalidTurn ?xt_InvalidTurn ?xm_InvalidTurn ?xg_InvalidWay ?xk_InvalidWay ?xs_InvalidWay ?xd_InvalidWay ?xa_InvalidWay ?xn_InvalidWay ?xt_InvalidWay ?xm_InvalidWay ?xg_TooLarge ?xk_TooLarge ?xs_TooLarge ?xd_TooLarge ?xa_TooLarge ?xn_TooLarge ?xt_TooLarge ?xm_TooLarge ?xg_TurnError ?xk_TurnError ?xs_TurnError ?xd_TurnError ?xa_TurnError ?xn_TurnError ?xt_TurnError ?xm_TurnError ?vi_TurnError ?vb_TurnError ?vt_TurnError ?vl_TurnError ?vs2_TurnError ?ec_TurnError ?ex_TurnError ?en_TurnError ?er_TurnError ?k_InvalidPixel__InvalidLegs ?k_InvalidPixel__InvalidNumber ?k_InvalidPixel__InvalidPixel ?k_InvalidPixel__InvalidPixels ?k_InvalidPixel__InvalidScale ?k_InvalidPixel__InvalidSix ?k_InvalidPixel__InvalidTurn ?k_InvalidPixel__InvalidWay ?k_InvalidPixel__TooLarge ?k_InvalidPixel__TurnError ?k_InvalidPixel__t_ValueError ?k_InvalidTurn__InvalidLegs ?k_InvalidTurn__InvalidNumber ?k_InvalidTurn__InvalidPixel ?k_InvalidTurn__InvalidPixels ?k_InvalidTurn__InvalidScale ?k_InvalidTurn__InvalidSix ?k_InvalidTurn__InvalidTurn ?k_InvalidTurn__InvalidWay ?k_InvalidTurn__TooLarge ?k_InvalidTurn__TurnError ?k_InvalidTurn__t_ValueError ?k_InvalidWay__InvalidLegs ?k_InvalidWay__InvalidNumber ?k_InvalidWay__InvalidPixel ?k_InvalidWay__InvalidPixels ?k_InvalidWay__InvalidScale ?k_InvalidWay__InvalidSix ?k_InvalidWay__InvalidTurn ?k_InvalidWay__InvalidWay ?k_InvalidWay__TooLarge ?k_InvalidWay__TurnError ?k_InvalidWay__t_ValueError ?k_TooLarge__InvalidLegs ?k_TooLarge__InvalidNumber ?k_TooLarge__InvalidPixel ?k_TooLarge__InvalidPixels ?k_TooLarge__InvalidScale ?k_TooLarge__InvalidSix ?k_TooLarge__InvalidTurn ?k_TooLarge__InvalidWay ?k_TooLarge__TooLarge ?k_TooLarge__TurnError ?k_TooLarge__t_ValueError
    (case a0 => k_is)
    (case l0 => k_is)
    (case c0 => k_is)
    (case k0 => k_is)
    (case a1 => k_is)
    (case l1 => k_is)
    (case c1 => k_is)
    (case k1 => k_is)
    (case a2 => k_is)
    (case l2 => k_is)
    (case c2 => k_is)
    (case k2 => k_is)
    (case a3 => k_is)
    (case l3 => k_is)
    (case c3 => k_is)
    (case k3 => k_is)
    (case a4 => k_is)
    (case l4 => k_is)
    (case c4 => k_is)
    (case k4 => k_is)
    (case a5 => k_is)
    (case l5 => k_is)
    (case c5 => k_is)
    (case k5 => k_is)
    (case a6 => k_is)
    (case l6 => k_is)
    (case c6 => k_is)
    (case k6 => k_is)
    (case a7 => k_is)
    (case l7 => k_is)
    (case c7 => k_is)
    (case k7 => k_is)
    (case a8 => k_is)
    (case l8 => k_is)
    (case c8 => k_is)
    (case k8 => k_is)
    (case a9 => k_is)
    (case l9 => k_is)
    (case c9 => k_is)
    (case k9 => k_is)
    (case a10 => k_is)
    (case l10 => k_is)
    (case c10 => k_is)
    (case k10 => k_is)
    (case a11 => k_is)
    (case l11 => k_is)
    (case c11 => k_is)
    (case k11 => k_is)
    (case a12 => k_is)
    (case l12 => k_is)
    (case c12 => k_is)
    (case k12 => k_is)
    (case a13 => k_is)
    (case l13 => k_is)
    (case c13 => k_is)
    (case k13 => k_is)
    (case a14 => k_is)
    (case l14 => k_is)
    (case c14 => k_is)
    (case k14 => k_is)
    (case a15 => k_is)
    (case l15 => k_is)
    (case c15 => k_is)
    (case k15 => k_is)
    (case a16 => k_is)
    (case l16 => k_is)
    (case c16 => k_is)
    (case k16 => k_is)
    (case a17 => k_is)
    (case l17 => k_is)
    (case c17 => k_is)
    (case k17 => k_is)
    (case a18 => k_is)
    (case l18 => k_is)
    (case c18 => k_is)
    (case k18 => k_is)
    (case a19 => k_is)
    (case l19 => k_is)
    (case c19 => k_is)
    (case k19 => k_is)
    (case a20 => k_is)
    (case l20 => k_is)
    (case c20 => k_is)
    (case k20 => k_is)
    (case a21 => k_is)
    (case l21 => k_is)
    (case c21 => k_is)
    (case k21 => k_is)
    (case a22 => k_is)
    (case l22 => k_is)
    (case c22 => k_is)
    (case k22 => k_is)
    (case a23 => k_is)
    (case l23 => k_is)
    (case c23 => k_is)
    (case k23 => k_is)
    (case a24 => k_is)
    (case l24 => k_is)
    (case c24 => k_is)
    (case k24 => k_is)
    (case a25 => k_is)
    (case l25 => k_is)
    (case c25 => k_is)
    (case k25 => k_is)
    (case a26 => k_is)
    (case l26 => k_is)
    (case c26 => k_is)
    (case k26 => k_is)
    (case a27 => k_is)
    (case l27 => k_is)
    (case c27 => k_is)
    (case k27 => k_is)
    (case a28 => k_is)
    (case l28 => k_is)
    (case c28 => k_is)
    (case k28 => k_is)
    (case a29 => k_is)
    (case l29 => k_is)
    (case c29 => k_is)
    (case k29 => k_is)
    (case a30 => k_is)
    (case l30 => k_is)
    (case c30 => k_is)
    (case k30 => k_is)
    (case a31 => k_is)
    (case l31 => k_is)
    (case c31 => k_is)
    (case k31 => k_is)
    (case a32 => k_is)
    (case l32 => k_is)
    (case c32 => k_is)
    (case k32 => k_is)
    (case a33 => k_is)
    (case l33 => k_is)
    (case c33 => k_is)
    (case k33 => k_is)
    (case a34 => k_is)
    (case l34 => k_is)
    (case c34 => k_is)
    (case k34 => k_is)
    (case a35 => k_is)
    (case l35 => k_is)
    (case c35 => k_is)
    (case k35 => k_is)
    (case a36 => k_is)
    (case l36 => k_is)
    (case c36 => k_is)
    (case k36 => k_is)
    (case a37 => k_is)
    (case l37 => k_is)
    (case c37 => k_is)
    (case k37 => k_is)
    (case a38 => k_is)
    (case l38 => k_is)
    (case c38 => k_is)
    (case k38 => k_is)
    (case a39 => k_is)
    (case l39 => k_is)
    (case c39 => k_is)
    (case k39 => k_is)
    (case z_ValueError => k_is)
    (case z_abs => k_is)
    (case z_all => k_is)
    (case z_bool => k_is)
    (case z_enumerate => k_is)
    (case z_int => k_is)
    (case z_isinstance => k_is)
    (case z_len => k_is)
    (case z_list => k_is)
    (case z_max => k_is)
    (case z_min => k_is)
    (case z_range => k_is)
    (case z_repr => k_is)
    (case z_tuple => k_is)
    (case y_gcd => k_is)
    (case y_isqrt => k_is)
    (case x_GREATEST_P => exact ⟨_, PySem.W.mg_of KX G (by k_is)⟩)
    (case x_GREATEST_SIZE => exact ⟨_, PySem.W.mg_of KX G (by k_is)⟩)
    (case x_MOST_ITEMS => exact ⟨_, PySem.W.mg_of KX G (by k_is)⟩)
    (case x_QUARTERS => exact ⟨_, PySem.W.mg_of KX G (by k_is), DL.rp_tupsK (as := [_, _, _, _]) (by k_is) (by decide) (DL.rpl_cons (DL.rp_pairK (by k_is)) (DL.rpl_cons (DL.rp_pairK (by k_is)) (DL.rpl_cons (DL.rp_pairK (by k_is)) (DL.rpl_cons (DL.rp_pairK (by k_is)) DL.rpl_nil))))⟩)
    (case eA_InvalidLegs => k_is)
    (case eK_InvalidLegs => k_is)
    (case eQ_InvalidLegs => k_exc)
    (case eX_InvalidLegs => k_is)
    (case eT_InvalidLegs => k_is)
    (case eA_InvalidNumber => k_is)
    (case eK_InvalidNumber => k_is)
    (case eQ_InvalidNumber => k_exc)
    (case eX_InvalidNumber => k_is)
    (case eT_InvalidNumber => k_is)
    (case eA_InvalidPixel => k_is)
    (case eK_InvalidPixel => k_is)
    (case eQ_InvalidPixel => k_exc)
    (case eX_InvalidPixel => k_is)
    (case eT_InvalidPixel => k_is)
    (case eA_InvalidScale => k_is)
    (case eK_InvalidScale => k_is)
    (case eQ_InvalidScale => k_exc)
    (case eX_InvalidScale => k_is)
    (case eT_InvalidScale => k_is)
    (case eA_InvalidSix => k_is)
    (case eK_InvalidSix => k_is)
    (case eQ_InvalidSix => k_exc)
    (case eX_InvalidSix => k_is)
    (case eT_InvalidSix => k_is)
    (case eA_InvalidTurn => k_is)
    (case eK_InvalidTurn => k_is)
    (case eQ_InvalidTurn => k_exc)
    (case eX_InvalidTurn => k_is)
    (case eT_InvalidTurn => k_is)
    (case eA_TurnError => k_is)
    (case eK_TurnError => k_is)
    (case eQ_TurnError => k_exc)
    (case eX_TurnError => k_is)
    (case eT_TurnError => k_is)
    (case eA_InvalidPixels => k_is)
    (case eL_InvalidPixels => k_is)
    (case eR_InvalidPixels => first | rfl | decide +kernel)
    (case eS_InvalidPixels => k_is)
    (case eG_InvalidPixels => k_is)
    (case eH_InvalidPixels => k_is)
    (case eF_InvalidPixels => k_is)
    (case eI_InvalidPixels => k_is)
    (case eJ_InvalidPixels => k_is)
    (case eK_InvalidPixels => k_is)
    (case eX_InvalidPixels => k_is)
    (case eV_InvalidPixels => k_is)
    (case eT_InvalidPixels => k_is)
    (case eD_InvalidPixels => k_is)
    (case eM_InvalidPixels => k_is)
    (case eN_InvalidPixels => k_is)
    (case eO_InvalidPixels => k_is)
    (case eP_InvalidPixels => k_is)
    (case eU_InvalidPixels => first | rfl | k_is)
    (case eW_InvalidPixels => first | rfl | decide +kernel)
    (case eY_InvalidPixels => first | rfl | decide)
    (case eZ_InvalidPixels => ks_is)
    (case eA_InvalidWay => k_is)
    (case eL_InvalidWay => k_is)
    (case eR_InvalidWay => first | rfl | decide +kernel)
    (case eS_InvalidWay => k_is)
    (case eG_InvalidWay => k_is)
    (case eH_InvalidWay => k_is)
    (case eF_InvalidWay => k_is)
    (case eI_InvalidWay => k_is)
    (case eJ_InvalidWay => k_is)
    (case eK_InvalidWay => k_is)
    (case eX_InvalidWay => k_is)
    (case eV_InvalidWay => k_is)
    (case eT_InvalidWay => k_is)
    (case eD_InvalidWay => k_is)
    (case eM_InvalidWay => k_is)
    (case eN_InvalidWay => k_is)
    (case eO_InvalidWay => k_is)
    (case eP_InvalidWay => k_is)
    (case eU_InvalidWay => first | rfl | k_is)
    (case eW_InvalidWay => first | rfl | decide +kernel)
    (case eY_InvalidWay => first | rfl | decide)
    (case eZ_InvalidWay => ks_is)
    (case eA_TooLarge => k_is)
    (case eL_TooLarge => k_is)
    (case eR_TooLarge => first | rfl | decide +kernel)
    (case eS_TooLarge => k_is)
    (case eG_TooLarge => k_is)
    (case eH_TooLarge => k_is)
    (case eF_TooLarge => k_is)
    (case eI_TooLarge => k_is)
    (case eJ_TooLarge => k_is)
    (case eK_TooLarge => k_is)
    (case eX_TooLarge => k_is)
    (case eV_TooLarge => k_is)
    (case eT_TooLarge => k_is)
    (case eD_TooLarge => k_is)
    (case eM_TooLarge => k_is)
    (case eN_TooLarge => k_is)
    (case eO_TooLarge => k_is)
    (case eP_TooLarge => k_is)
    (case eU_TooLarge => first | rfl | k_is)
    (case eW_TooLarge => first | rfl | decide +kernel)
    (case eY_TooLarge => first | rfl | decide)
    (case eZ_TooLarge => ks_is)
    (case e_any => k_is)
    (case e_super => k_is)
    (case e_top => first | rfl | decide +kernel)
    (case eC_TurnError => k_is)
    (case w_InvalidPixel__TurnError => first | rfl | k_is)
    (case w_InvalidTurn__TurnError => first | rfl | k_is)
    (case w_InvalidWay__TurnError => first | rfl | k_is)
    (case w_TooLarge__TurnError => first | rfl | k_is)
    (case xg_InvalidPixel => k_is)
    (case xk_InvalidPixel => k_is)
    (case xs_InvalidPixel => k_is)
    (case xd_InvalidPixel => k_is)
    (case xa_InvalidPixel => k_is)
    (case xn_InvalidPixel => k_is)
    (case xt_InvalidPixel => k_is)
    (case xm_InvalidPixel => k_is)
    (case xg_InvalidTurn => k_is)
    (case xk_InvalidTurn => k_is)
    (case xs_InvalidTurn => k_is)
    (case xd_InvalidTurn => k_is)
    (case xa_InvalidTurn => k_is)
    (case xn_InvalidTurn => k_is)
    (case xt_InvalidTurn => k_is)
    (case xm_InvalidTurn => k_is)
    (case xg_InvalidWay => k_is)
    (case xk_InvalidWay => k_is)
    (case xs_InvalidWay => k_is)
    (case xd_InvalidWay => k_is)
    (case xa_InvalidWay => k_is)
    (case xn_InvalidWay => k_is)
    (case xt_InvalidWay => k_is)
    (case xm_InvalidWay => k_is)
    (case xg_TooLarge => k_is)
    (case xk_TooLarge => k_is)
    (case xs_TooLarge => k_is)
    (case xd_TooLarge => k_is)
    (case xa_TooLarge => k_is)
    (case xn_TooLarge => k_is)
    (case xt_TooLarge => k_is)
    (case xm_TooLarge => k_is)
    (case xg_TurnError => k_is)
    (case xk_TurnError => k_is)
    (case xs_TurnError => k_is)
    (case xd_TurnError => k_is)
    (case xa_TurnError => k_is)
    (case xn_TurnError => k_is)
    (case xt_TurnError => k_is)
    (case xm_TurnError => k_is)
    (case vi_TurnError => first | kit_is | rfl | k_is)
    (case vb_TurnError => first | kit_is | rfl | k_is)
    (case vt_TurnError => first | kit_is | rfl | k_is)
    (case vl_TurnError => first | kit_is | rfl | k_is)
    (case vs2_TurnError => first | kit_is | rfl | k_is)
    (case ec_TurnError => k_is)
    (case ex_TurnError => k_is)
    (case en_TurnError => first | decide +kernel | rfl)
    (case er_TurnError => k_is)
    (case k_InvalidPixel__InvalidLegs => first | kit_is | rfl | k_is)
    (case k_InvalidPixel__InvalidNumber => first | kit_is | rfl | k_is)
    (case k_InvalidPixel__InvalidPixel => first | kit_is | rfl | k_is)
    (case k_InvalidPixel__InvalidPixels => first | kit_is | rfl | k_is)
    (case k_InvalidPixel__InvalidScale => first | kit_is | rfl | k_is)
    (case k_InvalidPixel__InvalidSix => first | kit_is | rfl | k_is)
    (case k_InvalidPixel__InvalidTurn => first | kit_is | rfl | k_is)
    (case k_InvalidPixel__InvalidWay => first | kit_is | rfl | k_is)
    (case k_InvalidPixel__TooLarge => first | kit_is | rfl | k_is)
    (case k_InvalidPixel__TurnError => first | kit_is | rfl | k_is)
    (case k_InvalidPixel__t_ValueError => first | kit_is | rfl | k_is)
    (case k_InvalidTurn__InvalidLegs => first | kit_is | rfl | k_is)
    (case k_InvalidTurn__InvalidNumber => first | kit_is | rfl | k_is)
    (case k_InvalidTurn__InvalidPixel => first | kit_is | rfl | k_is)
    (case k_InvalidTurn__InvalidPixels => first | kit_is | rfl | k_is)
    (case k_InvalidTurn__InvalidScale => first | kit_is | rfl | k_is)
    (case k_InvalidTurn__InvalidSix => first | kit_is | rfl | k_is)
    (case k_InvalidTurn__InvalidTurn => first | kit_is | rfl | k_is)
    (case k_InvalidTurn__InvalidWay => first | kit_is | rfl | k_is)
    (case k_InvalidTurn__TooLarge => first | kit_is | rfl | k_is)
    (case k_InvalidTurn__TurnError => first | kit_is | rfl | k_is)
    (case k_InvalidTurn__t_ValueError => first | kit_is | rfl | k_is)
    (case k_InvalidWay__InvalidLegs => first | kit_is | rfl | k_is)
    (case k_InvalidWay__InvalidNumber => first | kit_is | rfl | k_is)
    (case k_InvalidWay__InvalidPixel => first | kit_is | rfl | k_is)
    (case k_InvalidWay__InvalidPixels => first | kit_is | rfl | k_is)
    (case k_InvalidWay__InvalidScale => first | kit_is | rfl | k_is)
    (case k_InvalidWay__InvalidSix => first | kit_is | rfl | k_is)
    (case k_InvalidWay__InvalidTurn => first | kit_is | rfl | k_is)
    (case k_InvalidWay__InvalidWay => first | kit_is | rfl | k_is)
    (case k_InvalidWay__TooLarge => first | kit_is | rfl | k_is)
    (case k_InvalidWay__TurnError => first | kit_is | rfl | k_is)
    (case k_InvalidWay__t_ValueError => first | kit_is | rfl | k_is)
    (case k_TooLarge__InvalidLegs => first | kit_is | rfl | k_is)
    (case k_TooLarge__InvalidNumber => first | kit_is | rfl | k_is)
    (case k_TooLarge__InvalidPixel => first | kit_is | rfl | k_is)
    (case k_TooLarge__InvalidPixels => first | kit_is | rfl | k_is)
    (case k_TooLarge__InvalidScale => first | kit_is | rfl | k_is)
    (case k_TooLarge__InvalidSix => first | kit_is | rfl | k_is)
    (case k_TooLarge__InvalidTurn => first | kit_is | rfl | k_is)
    (case k_TooLarge__InvalidWay => first | kit_is | rfl | k_is)
    (case k_TooLarge__TooLarge => first | kit_is | rfl | k_is)
    (case k_TooLarge__TurnError => first | kit_is | rfl | k_is)
    (case k_TooLarge__t_ValueError => first | kit_is | rfl | k_is)
#print axioms PySem.Challenge.cw_turnedpixels_k44_errors_of_ways_holds
