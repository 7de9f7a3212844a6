import PyProof.Rows.All
import Wide.All
import OpenK.AllK
import Wide.FinOn
import HandS.ForMost
import HandS.Wide
import HandS.Gcd
import HandS.IsInst
import HandS.RaiseMore
import HandS.ForExc
import KE.DatumOrd
import HandS.Deep
import HandS.Style
import HandS.Sort
import KE.SortData
import HandS.FStr
import HandS.ExcField
import KE.KExcSuper
import KE.KExcMake
import HandS.TryMany
import HandS.ExcOwn
import KE.DataFind
import KE.KTupSum
import HandS.Zip
import PyProof.MaxThree
import PyProof.LongRange
import KE.DataCmp
import HandS.TupLe
import KE.KExcStr
import PyProof.ExcReprCall
import PyProof.ReprUnder
import PyProof.ReprLen
import HandS.ExcValue
import HandS.ExcIs
import HandS.Dict
import HandS.HotCalls
import KE.KExcIs
import KE.KIntText
import PyProof.StrOps2
import PyProof.CallStr
import HandS.WideBits
import HandS.TupSets
import PySem.Challenge.RW_turnedpixels_k23_losses_judged_and_told
set_option Elab.async false
set_option linter.all false
set_option exponentiation.threshold 3000
set_option maxRecDepth 100000
set_option maxHeartbeats 4000000
/-! Data in place of the heap: what a value is as data, kept while the heap grows; lists that are changed stand apart. -/
namespace DL
open PySem PySem.Spec PyProof.Rows L2

/-! ### the readings that the semantics itself gives -/
def wE (X : Cx) (e : Expr) : TE := fun σ H Q => ∀ pins s, Inv X pins σ H s → wpAny (model X.prog X.w) X.A (eval e X.env) (EP X pins σ Q) X.xe s
def wT (X : Cx) (e : Expr) : TT := fun σ H Q => ∀ pins s, Inv X pins σ H s → wpAny (model X.prog X.w) X.A (isTrue e X.env (eval e X.env)) (TP X pins σ Q) X.xe s
def wW (X : Cx) (e : Expr) : TT := fun σ H Q => ∀ whole pins s, Inv X pins σ H s → wpAny (model X.prog X.w) X.A (isTrue e X.env whole) (TP X pins σ Q) X.xe s
def wA (X : Cx) (es : List Expr) : TA := fun σ H Q => ∀ pos pins s, Inv X pins σ H s → wpAny (model X.prog X.w) X.A (spliced (backTo pos (starEach es X.env))) (AP X pins σ Q) X.xe s
def wS (X : Cx) (st : Stmt) : TS := fun D σ H => ∀ pins s, Inv X pins σ H s → wpAny (model X.prog X.w) X.A (exec st X.env) (SP X pins D) X.xe s
def wSs (X : Cx) (st : List Stmt) : TS := fun D σ H => ∀ pins s, Inv X pins σ H s → wpAny (model X.prog X.w) X.A (execs st X.env) (SP X pins D) X.xe s
def wG (X : Cx) (tg : Expr) : TG := fun v σ H Q => ∀ pins s u, Inv X pins σ H s → RelV v u →
  wpAny (model X.prog X.w) X.A (assign tg X.env u) (fun _ s' => ∃ σ' H', Inv X pins σ' H' s' ∧ Q σ' H') X.xe s
section
variable {X : Cx} {e : Expr} {es : List Expr} {st : Stmt} {sts : List Stmt} {σ : L2.St} {H : Hp}
theorem peW : PE X e (wE X e) := ⟨fun pins s _ _ _ I h => h pins s I⟩
theorem ptW : PT X e (wT X e) := ⟨fun pins s _ _ _ I h => h pins s I⟩
theorem pwW : PW X e (wW X e) := ⟨fun wh pins s _ _ _ I h => h wh pins s I⟩
theorem paW : PA X es (wA X es) := ⟨fun pos pins s _ _ _ I h => h pos pins s I⟩
theorem psW : PS X st (wS X st) := ⟨fun pins s _ _ _ I h => h pins s I⟩
theorem pssW : PSs X sts (wSs X sts) := ⟨fun pins s _ _ _ I h => h pins s I⟩
theorem pgW {tg : Expr} : PG X tg (wG X tg) := ⟨fun pins s _ _ _ u _ I r h => h pins s u I r⟩
theorem wE_of {t : TE} {Q : VK} (h : PE X e t) (q : t σ H Q) : wE X e σ H Q := fun pins s I => h.run pins s σ H Q I q
theorem wT_of {t : TT} {Q : Bool → Hp → Prop} (h : PT X e t) (q : t σ H Q) : wT X e σ H Q := fun pins s I => h.run pins s σ H Q I q
theorem wW_of {t : TT} {Q : Bool → Hp → Prop} (h : PW X e t) (q : t σ H Q) : wW X e σ H Q := fun wh pins s I => h.run wh pins s σ H Q I q
theorem wA_of {t : TA} {Q : List V → Hp → Prop} (h : PA X es t) (q : t σ H Q) : wA X es σ H Q := fun pos pins s I => h.run pos pins s σ H Q I q
theorem wS_of {t : TS} {De : Ends} (h : PS X st t) (q : t De σ H) : wS X st De σ H := fun pins s I => h.run pins s σ H De I q
theorem wSs_of {t : TS} {De : Ends} (h : PSs X sts t) (q : t De σ H) : wSs X sts De σ H := fun pins s I => h.run pins s σ H De I q
theorem wG_of {tg : Expr} {t : TG} {v : V} {Q : L2.St → Hp → Prop} (h : PG X tg t) (q : t v σ H Q) : wG X tg v σ H Q := fun pins s u I r => h.run pins s σ H v u Q I r q
theorem wE_mono {Q Q' : VK} (h : wE X e σ H Q) (k : ∀ v H', Q v H' → Q' v H') : wE X e σ H Q' := fun pins s I =>
  thn (h pins s I) fun _ _ ⟨v, H', I', r, q⟩ => ⟨v, H', I', r, k v H' q⟩
theorem wT_mono {Q Q' : Bool → Hp → Prop} (h : wT X e σ H Q) (k : ∀ b H', Q b H' → Q' b H') : wT X e σ H Q' := fun pins s I =>
  thn (h pins s I) fun b _ ⟨H', I', q⟩ => ⟨H', I', k b H' q⟩
theorem wW_mono {Q Q' : Bool → Hp → Prop} (h : wW X e σ H Q) (k : ∀ b H', Q b H' → Q' b H') : wW X e σ H Q' := fun wh pins s I =>
  thn (h wh pins s I) fun b _ ⟨H', I', q⟩ => ⟨H', I', k b H' q⟩
theorem wA_mono {Q Q' : List V → Hp → Prop} (h : wA X es σ H Q) (k : ∀ v H', Q v H' → Q' v H') : wA X es σ H Q' := fun pos pins s I =>
  thn (h pos pins s I) fun _ _ ⟨v, H', I', r, q⟩ => ⟨v, H', I', r, k v H' q⟩
theorem wG_mono {tg : Expr} {v : V} {Q Q' : L2.St → Hp → Prop} (h : wG X tg v σ H Q) (k : ∀ σ' H', Q σ' H' → Q' σ' H') : wG X tg v σ H Q' := fun pins s u I r =>
  thn (h pins s u I r) fun _ _ ⟨σ', H', I', q⟩ => ⟨σ', H', I', k σ' H' q⟩
end

/-! ### data -/
inductive D where
  | non
  | bl (b : Bool)
  | int (i : Int)
  | str (x : Str)
  | tup (l : List D)
  | lst (l : List D)
  | raw (v : V)
  | ext (P : Hp → V → Prop)
  | scr (ns : List Int)

mutual
def Rp (K : PySem.W.Frag) (H : Hp) : D → V → Prop
  | .non, v => v = .non
  | .bl b, v => v = .bl b
  | .int i, v => v = .int i
  | .str x, v => v = .str x
  | .tup l, v => ∃ (a : Addr) (xs : List V), v = .ref a ∧ SqT K H a xs ∧ RpL K H l xs
  | .lst l, v => ∃ (a : Addr) (xs : List V), v = .ref a ∧ H a = some (.lst xs) ∧ RpL K H l xs
  | .raw u, v => v = u
  | .ext P, v => ∃ H0 : Hp, Same H0 H ∧ P H0 v
  | .scr ns, v => ∃ a : Addr, v = .ref a ∧ SqL K H a (ns.map V.int)
def RpL (K : PySem.W.Frag) (H : Hp) : List D → List V → Prop
  | [], vs => vs = []
  | d :: ds, vs => ∃ (x : V) (xs : List V), vs = x :: xs ∧ Rp K H d x ∧ RpL K H ds xs
end
theorem same_l {K : PySem.W.Frag} {H H' : Hp} (e : Same H H') {a : Addr} {xs : List V} (h : SqL K H a xs) : SqL K H' a xs := e.seq h
theorem same_t {K : PySem.W.Frag} {H H' : Hp} (e : Same H H') {a : Addr} {xs : List V} (h : SqT K H a xs) : SqT K H' a xs := by
  rcases h with (h | ⟨o, h⟩) | h
  · exact .inl (.inl (e _ _ h))
  · exact .inl (.inr ⟨o, e _ _ h⟩)
  · exact .inr h
mutual
theorem Rp.mono {K : PySem.W.Frag} {H H' : Hp} (e : Same H H') : ∀ (d : D) (v : V), Rp K H d v → Rp K H' d v
  | .non, _, h => h
  | .bl _, _, h => h
  | .int _, _, h => h
  | .str _, _, h => h
  | .tup l, _, h => let ⟨a, xs, e1, e2, e3⟩ := h; ⟨a, xs, e1, same_t e e2, RpL.mono e l xs e3⟩
  | .lst l, _, h => let ⟨a, xs, e1, e2, e3⟩ := h; ⟨a, xs, e1, e _ _ e2, RpL.mono e l xs e3⟩
  | .raw _, _, h => h
  | .ext _, _, h => let ⟨H0, e0, p⟩ := h; ⟨H0, e0.trans e, p⟩
  | .scr _, _, h => let ⟨a, e1, e2⟩ := h; ⟨a, e1, same_l e e2⟩
theorem RpL.mono {K : PySem.W.Frag} {H H' : Hp} (e : Same H H') : ∀ (l : List D) (vs : List V), RpL K H l vs → RpL K H' l vs
  | [], _, h => h
  | d :: ds, _, h => let ⟨x, xs, e1, e2, e3⟩ := h; ⟨x, xs, e1, Rp.mono e d x e2, RpL.mono e ds xs e3⟩
end
theorem RpL.length {K : PySem.W.Frag} {H : Hp} : ∀ {l : List D} {vs : List V}, RpL K H l vs → vs.length = l.length
  | [], _, h => by
    have h : _ = [] := h
    rw [h] <;> rfl
  | d :: ds, _, h => by
    obtain ⟨x, xs, rfl, _, h3⟩ := h
    rw [List.length_cons, List.length_cons, RpL.length h3]
theorem RpL.get {K : PySem.W.Frag} {H : Hp} : ∀ {l : List D} {vs : List V} {i : Nat} {d : D}, RpL K H l vs → l[i]? = some d → ∃ v, vs[i]? = some v ∧ Rp K H d v
  | [], _, _, _, _, e => by simp at e
  | d :: ds, _, 0, d', h, e => by
    obtain ⟨x, xs, rfl, h2, h3⟩ := h
    have e : d = d' := by simpa using e
    subst e
    exact ⟨x, rfl, h2⟩
  | d :: ds, _, i + 1, d', h, e => by
    obtain ⟨x, xs, rfl, h2, h3⟩ := h
    obtain ⟨v, e1, e2⟩ := RpL.get (i := i) h3 (by simpa using e)
    exact ⟨v, by simpa using e1, e2⟩
theorem RpL.back {K : PySem.W.Frag} {H : Hp} {l : List D} {vs : List V} {i : Nat} {v : V} (h : RpL K H l vs) (e : vs[i]? = some v) : ∃ d, l[i]? = some d ∧ Rp K H d v := by
  have hl := h.length
  have hi : i < vs.length := (List.getElem?_eq_some_iff.mp e).1
  obtain ⟨d, hd⟩ : ∃ d, l[i]? = some d := ⟨l[i]'(by omega), List.getElem?_eq_getElem (by omega)⟩
  obtain ⟨w, e1, r⟩ := h.get hd
  rw [e] at e1
  cases e1
  exact ⟨d, hd, r⟩
theorem RpL.append {K : PySem.W.Frag} {H : Hp} : ∀ {l m : List D} {vs ws : List V}, RpL K H l vs → RpL K H m ws → RpL K H (l ++ m) (vs ++ ws)
  | [], _, _, _, h, k => by
    have h : _ = [] := h
    subst h
    exact k
  | d :: ds, _, _, _, h, k => by
    obtain ⟨x, xs, rfl, h2, h3⟩ := h
    exact ⟨x, xs ++ _, rfl, h2, RpL.append h3 k⟩
theorem RpL.take {K : PySem.W.Frag} {H : Hp} : ∀ {l : List D} {vs : List V} (n : Nat), RpL K H l vs → RpL K H (l.take n) (vs.take n)
  | _, _, 0, _ => by rw [List.take_zero, List.take_zero]; rfl
  | [], _, n + 1, h => by
    have h : _ = [] := h
    subst h
    rfl
  | d :: ds, _, n + 1, h => by
    obtain ⟨x, xs, rfl, h2, h3⟩ := h
    exact ⟨x, xs.take n, rfl, h2, RpL.take n h3⟩
theorem RpL.drop {K : PySem.W.Frag} {H : Hp} : ∀ {l : List D} {vs : List V} (n : Nat), RpL K H l vs → RpL K H (l.drop n) (vs.drop n)
  | _, _, 0, h => h
  | [], _, n + 1, h => by
    have h : _ = [] := h
    subst h
    rfl
  | d :: ds, _, n + 1, h => by
    obtain ⟨x, xs, rfl, h2, h3⟩ := h
    exact RpL.drop n h3
theorem RpL.set {K : PySem.W.Frag} {H : Hp} {d : D} {v : V} (r : Rp K H d v) : ∀ {l : List D} {vs : List V} (i : Nat), RpL K H l vs → RpL K H (l.set i d) (vs.set i v)
  | [], _, _, h => by
    have h : _ = [] := h
    subst h
    exact h
  | d :: ds, _, 0, h => by
    obtain ⟨x, xs, rfl, h2, h3⟩ := h
    exact ⟨v, xs, rfl, r, h3⟩
  | d :: ds, _, i + 1, h => by
    obtain ⟨x, xs, rfl, h2, h3⟩ := h
    exact ⟨x, xs.set i v, rfl, h2, RpL.set r i h3⟩
theorem RpL.ints {K : PySem.W.Frag} {H : Hp} : ∀ (ns : List Int), RpL K H (ns.map D.int) (ns.map V.int)
  | [] => rfl
  | n :: ns => ⟨.int n, ns.map V.int, rfl, rfl, RpL.ints ns⟩

/-! ### lists that are changed; the slots -/
abbrev Sto := List (Addr × List D)
def getS (p : Addr) : Sto → Option (List D)
  | [] => none
  | (q, l) :: S => if q = p then some l else getS p S
def setS (p : Addr) (n : List D) : Sto → Sto
  | [] => []
  | (q, l) :: S => if q = p then (q, n) :: S else (q, l) :: setS p n S
def Own (K : PySem.W.Frag) (Hd H : Hp) : Sto → Prop
  | [] => True
  | (p, l) :: S => Hd p = none ∧ getS p S = none ∧ (∃ xs, H p = some (.lst xs) ∧ RpL K Hd l xs) ∧ Own K Hd H S
structure St0 (K : PySem.W.Frag) (S : Sto) (Hd H : Hp) : Prop where
  sub : Same Hd H
  own : Own K Hd H S
theorem getS_hd {p : Addr} {l : List D} {S : Sto} : getS p ((p, l) :: S) = some l := by
  show (if p = p then some l else getS p S) = some l
  rw [if_pos rfl]
theorem setS_hd {p : Addr} {l n : List D} {S : Sto} : setS p n ((p, l) :: S) = (p, n) :: S := by
  show (if p = p then (p, n) :: S else (p, l) :: setS p n S) = _
  rw [if_pos rfl]
theorem getS_tl {p q : Addr} {l : List D} {S : Sto} (h : q ≠ p) : getS p ((q, l) :: S) = getS p S := by
  show (if q = p then some l else getS p S) = _
  rw [if_neg h]
theorem setS_tl {p q : Addr} {l n : List D} {S : Sto} (h : q ≠ p) : setS p n ((q, l) :: S) = (q, l) :: setS p n S := by
  show (if q = p then (q, n) :: S else (q, l) :: setS p n S) = _
  rw [if_neg h]
theorem getS_setS {p : Addr} {n : List D} : ∀ {S : Sto} {q : Addr}, getS q (setS p n S) = if q = p then (getS p S).map (fun _ => n) else getS q S
  | [], q => by split <;> rfl
  | (r, l) :: S, q => by
    by_cases h1 : r = p
    · subst h1
      rw [setS_hd]
      by_cases h2 : q = r
      · subst h2
        rw [getS_hd, if_pos rfl, getS_hd] <;> rfl
      · rw [getS_tl (Ne.symm h2), if_neg h2, getS_tl (Ne.symm h2)]
    · rw [setS_tl h1, getS_tl (S := S) h1]
      by_cases h2 : r = q
      · subst h2
        rw [getS_hd, if_neg h1, getS_hd]
      · rw [getS_tl h2, getS_tl h2]
        exact getS_setS
section
variable {K : PySem.W.Frag} {Hd Hd' H H' : Hp} {S : Sto} {p : Addr}
theorem Own.at : ∀ {S : Sto} {l : List D}, Own K Hd H S → getS p S = some l → Hd p = none ∧ ∃ xs, H p = some (.lst xs) ∧ RpL K Hd l xs
  | [], _, _, e => by cases e
  | (q, m) :: S, l, o, e => by
    by_cases h : q = p
    · subst h
      rw [getS_hd] at e
      cases e
      exact ⟨o.1, o.2.2.1⟩
    · rw [getS_tl h] at e
      exact Own.at o.2.2.2 e
/-- new things are laid: none of the changed lists' own -/
theorem Own.grow : ∀ {S : Sto}, Own K Hd H S → Same Hd Hd' → (∀ q l, getS q S = some l → Hd' q = none) → (∀ q xs l, getS q S = some l → H q = some (.lst xs) → H' q = some (.lst xs)) → Own K Hd' H' S
  | [], _, _, _, _ => trivial
  | (q, l) :: S, o, e, f, k => by
    obtain ⟨o1, o2, ⟨xs, o3, o4⟩, o5⟩ := o
    refine ⟨f q l getS_hd, o2, ⟨xs, k q xs l getS_hd o3, o4.mono e⟩, o5.grow e (fun r m hr => ?_) (fun r ys m hr => ?_)⟩
    · by_cases h : q = r
      · subst h
        rw [o2] at hr; cases hr
      · exact f r m (by rw [getS_tl h]; exact hr)
    · by_cases h : q = r
      · subst h
        rw [o2] at hr; cases hr
      · exact k r ys m (by rw [getS_tl h]; exact hr)
/-- one changed list is written -/
theorem Own.write {l' : List D} {ys : List V} : ∀ {S : Sto} {l : List D}, Own K Hd H S → getS p S = some l → RpL K Hd l' ys → Own K Hd (upd H p (.lst ys)) (setS p l' S)
  | [], _, _, e, _ => by cases e
  | (q, m) :: S, l, o, e, r => by
    obtain ⟨o1, o2, ⟨xs, o3, o4⟩, o5⟩ := o
    by_cases h : q = p
    · subst h
      rw [setS_hd]
      refine ⟨o1, o2, ⟨ys, upd_same, r⟩, o5.grow (fun _ _ z => z) (fun b w hb => (o5.at hb).1) (fun b zs w hb hz => ?_)⟩
      rw [upd_ne]
      · exact hz
      · intro z
        subst z
        rw [o2] at hb; cases hb
    · rw [getS_tl h] at e
      rw [setS_tl h]
      refine ⟨o1, ?_, ⟨xs, (upd_ne h).trans o3, o4⟩, o5.write e r⟩
      rw [getS_setS, if_neg h]
      exact o2
theorem St0.tracked (s : St0 K S Hd H) {l : List D} (h : getS p S = some l) : H p ≠ none := by
  obtain ⟨_, xs, e, _⟩ := s.own.at h
  rw [e]
  exact fun z => nomatch z
/-- a new object that is not changed any more -/
theorem St0.laid {o : HO} (s : St0 K S Hd H) (hp : H p = none) : Same Hd (upd Hd p o) ∧ St0 K S (upd Hd p o) (upd H p o) := by
  have hd : Hd p = none := s.sub.free hp
  have e : Same Hd (upd Hd p o) := fun b u q => by rw [upd_ne (ne_of_none q hd)]; exact q
  refine ⟨e, fun b u q => ?_, s.own.grow e (fun q l h => ?_) (fun q xs l h z => ?_)⟩
  · by_cases hb : b = p
    · subst hb
      rw [upd_same] at q ⊢
      exact q
    · rw [upd_ne hb] at q ⊢
      exact s.sub b u q
  · rw [upd_ne (fun z => s.tracked h (by rw [z]; exact hp))]
    exact (s.own.at h).1
  · rw [upd_ne (ne_of_none z hp)]
    exact z
/-- a new list that will be changed -/
theorem St0.laidO {l : List D} {xs : List V} (s : St0 K S Hd H) (hp : H p = none) (r : RpL K Hd l xs) : getS p S = none ∧ St0 K ((p, l) :: S) Hd (upd H p (.lst xs)) := by
  have hd : Hd p = none := s.sub.free hp
  have g : getS p S = none := by
    cases q : getS p S with
    | none => rfl
    | some m => exact absurd hp (s.tracked q)
  refine ⟨g, fun b u q => ?_, hd, g, ⟨xs, upd_same, r⟩, s.own.grow (fun _ _ z => z) (fun q l h => (s.own.at h).1) (fun q xs l h z => ?_)⟩
  · rw [upd_ne (ne_of_none q hd)]
    exact s.sub b u q
  · rw [upd_ne (ne_of_none z hp)]
    exact z
theorem St0.written {l l' : List D} {ys : List V} (s : St0 K S Hd H) (h : getS p S = some l) (r : RpL K Hd l' ys) : St0 K (setS p l' S) Hd (upd H p (.lst ys)) := by
  refine ⟨fun b u q => ?_, s.own.write h r⟩
  rw [upd_ne (ne_of_none q (s.own.at h).1)]
  exact s.sub b u q
/-- a changed list is changed no more -/
theorem St0.frozen {l : List D} (s : St0 K ((p, l) :: S) Hd H) : ∃ xs, RpL K Hd l xs ∧ Same Hd (upd Hd p (.lst xs)) ∧ St0 K S (upd Hd p (.lst xs)) H := by
  obtain ⟨sub, o1, o2, ⟨xs, o3, o4⟩, o5⟩ := s
  have e : Same Hd (upd Hd p (.lst xs)) := fun b u q => by rw [upd_ne (ne_of_none q o1)]; exact q
  refine ⟨xs, o4, e, fun b u q => ?_, o5.grow e (fun q l h => ?_) (fun q xs l h z => z)⟩
  · by_cases hb : b = p
    · subst hb
      rw [upd_same] at q
      cases q
      exact o3
    · rw [upd_ne hb] at q
      exact sub b u q
  · rw [upd_ne (fun z => by rw [z, o2] at h; cases h)]
    exact (o5.at h).1
theorem St0.drop {l : List D} (s : St0 K ((p, l) :: S) Hd H) : St0 K S Hd H := ⟨s.sub, s.own.2.2.2⟩
end

/-- the slots as data; none: not known -/
abbrev DEnv := List (Option D)
def RpE (K : PySem.W.Frag) (H : Hp) : DEnv → L2.St → Prop
  | [], σ => σ = []
  | none :: es, σ => ∃ (o : Option V) (σ' : L2.St), σ = o :: σ' ∧ RpE K H es σ'
  | some d :: es, σ => ∃ (v : V) (σ' : L2.St), σ = some v :: σ' ∧ Rp K H d v ∧ RpE K H es σ'
theorem RpE.mono {K : PySem.W.Frag} {H H' : Hp} (e : Same H H') : ∀ {en : DEnv} {σ : L2.St}, RpE K H en σ → RpE K H' en σ
  | [], _, h => h
  | none :: es, _, h => let ⟨o, σ', e1, e2⟩ := h; ⟨o, σ', e1, RpE.mono e e2⟩
  | some d :: es, _, h => let ⟨v, σ', e1, e2, e3⟩ := h; ⟨v, σ', e1, Rp.mono e d v e2, RpE.mono e e3⟩
theorem RpE.get {K : PySem.W.Frag} {H : Hp} : ∀ {en : DEnv} {σ : L2.St} {i : Nat} {d : D}, RpE K H en σ → en[i]? = some (some d) → ∃ v, σ[i]? = some (some v) ∧ Rp K H d v
  | [], _, _, _, _, e => by simp at e
  | none :: es, _, 0, _, h, e => by simp at e
  | none :: es, _, i + 1, d, h, e => by
    obtain ⟨o, σ', rfl, h2⟩ := h
    obtain ⟨v, e1, e2⟩ := RpE.get (i := i) h2 (by simpa using e)
    exact ⟨v, by simpa using e1, e2⟩
  | some x :: es, _, 0, d, h, e => by
    obtain ⟨v, σ', rfl, h2, _⟩ := h
    have e : x = d := by simpa using e
    subst e
    exact ⟨v, rfl, h2⟩
  | some x :: es, _, i + 1, d, h, e => by
    obtain ⟨o, σ', rfl, _, h2⟩ := h
    obtain ⟨v, e1, e2⟩ := RpE.get (i := i) h2 (by simpa using e)
    exact ⟨v, by simpa using e1, e2⟩
theorem RpE.set {K : PySem.W.Frag} {H : Hp} {d : D} {v : V} (r : Rp K H d v) : ∀ {en : DEnv} {σ : L2.St} (i : Nat), RpE K H en σ → RpE K H (en.set i (some d)) (σ.set i (some v))
  | [], _, _, h => by
    have h : _ = [] := h
    subst h
    rfl
  | none :: es, _, 0, h => let ⟨o, σ', e1, e2⟩ := h; ⟨v, σ', by rw [e1] <;> rfl, r, e2⟩
  | some x :: es, _, 0, h => let ⟨o, σ', e1, _, e2⟩ := h; ⟨v, σ', by rw [e1] <;> rfl, r, e2⟩
  | none :: es, _, i + 1, h => let ⟨o, σ', e1, e2⟩ := h; ⟨o, σ'.set i (some v), by rw [e1] <;> rfl, e2.set r i⟩
  | some x :: es, _, i + 1, h => let ⟨o, σ', e1, e0, e2⟩ := h; ⟨o, σ'.set i (some v), by rw [e1] <;> rfl, e0, e2.set r i⟩
/-- less is known -/
def Wk : DEnv → DEnv → Prop
  | [], [] => True
  | _ :: xs, none :: ys => Wk xs ys
  | x :: xs, some d :: ys => x = some d ∧ Wk xs ys
  | _, _ => False
theorem Wk.refl : ∀ (en : DEnv), Wk en en
  | [] => trivial
  | none :: es => Wk.refl es
  | some _ :: es => ⟨rfl, Wk.refl es⟩
theorem Wk.use {K : PySem.W.Frag} {H : Hp} : ∀ {a b : DEnv} {σ : L2.St}, Wk a b → RpE K H a σ → RpE K H b σ
  | [], [], _, _, h => h
  | none :: xs, none :: ys, _, w, h => let ⟨o, σ', e1, e2⟩ := h; ⟨o, σ', e1, Wk.use (a := xs) (b := ys) w e2⟩
  | some x :: xs, none :: ys, _, w, h => let ⟨v, σ', e1, _, e2⟩ := h; ⟨some v, σ', e1, Wk.use (a := xs) (b := ys) w e2⟩
  | x :: xs, some d :: ys, _, w, h => by
    obtain ⟨w1, w2⟩ := w
    subst w1
    obtain ⟨v, σ', e1, e2, e3⟩ := h
    exact ⟨v, σ', e1, e2, Wk.use w2 e3⟩
  | [], none :: _, _, w, _ => w.elim
  | [], some _ :: _, _, w, _ => w.elim
  | _ :: _, [], _, w, _ => w.elim
theorem RpE.start {K : PySem.W.Frag} {H : Hp} : ∀ {ds : List D} {vs : List V} (n : Nat), RpL K H ds vs → RpE K H (ds.map some ++ List.replicate n none) (vs.map some ++ List.replicate n none)
  | [], _, 0, h => by
    have h : _ = [] := h
    subst h
    rfl
  | [], _, n + 1, h => by
    have h : _ = [] := h
    subst h
    exact ⟨none, List.replicate n none, rfl, RpE.start (ds := []) (vs := []) n rfl⟩
  | d :: ds, _, n, h => by
    obtain ⟨x, xs, rfl, h2, h3⟩ := h
    exact ⟨x, xs.map some ++ List.replicate n none, rfl, h2, RpE.start n h3⟩
end DL
namespace DL
open PySem PySem.Spec PyProof.Rows L2

/-! ### what the semantics asks of the form of an expression, quickly answered -/
def nSet : Expr → Bool
  | .Set _ _ _ => false
  | _ => true
theorem fset {e : Expr} {env : Env} (h : nSet e = true) : ∀ x, foldedSetIterable e env x = pure x := fun x => by
  cases e <;> first | rfl | cases h
def nComp : Expr → Bool
  | .ListComp _ _ _ _ => false
  | .SetComp _ _ _ _ => false
  | .DictComp _ _ _ _ _ => false
  | _ => true
theorem sw0 {e : Expr} {t : Option Expr} {l : Nat} {env : Env} (h : nComp e = true) : swapsWith e t l env = pure false := by
  cases e <;> first | rfl | cases h
theorem sws1 {e t : Expr} {l : Nat} {env : Env} (h : nComp e = true) : swapsWithSole [t] e l env = pure false := sw0 h
def nTup2 : Expr → Expr → Bool
  | .Tuple _ _ _, .Tuple _ _ _ => false
  | .List _ _, .Tuple _ _ _ => false
  | _, _ => true
theorem sst {t e : Expr} {env : Env} (h : nTup2 t e = true) : swappedStores [t] e env = pure none := by
  cases t <;> first | rfl | (cases e <;> first | rfl | cases h)

/-! ### what an expression, a test, a list of arguments is as data -/
def QD (K : PySem.W.Frag) (Hd : Hp) (Q : D → Sto → Prop) : VK := fun v H' => ∃ d S' Hd', Same Hd Hd' ∧ St0 K S' Hd' H' ∧ Rp K Hd' d v ∧ Q d S'
def QB (K : PySem.W.Frag) (Hd : Hp) (Q : Bool → Sto → Prop) : Bool → Hp → Prop := fun b H' => ∃ S' Hd', Same Hd Hd' ∧ St0 K S' Hd' H' ∧ Q b S'
def QA (K : PySem.W.Frag) (Hd : Hp) (Q : List D → Sto → Prop) : List V → Hp → Prop := fun vs H' => ∃ ds S' Hd', Same Hd Hd' ∧ St0 K S' Hd' H' ∧ RpL K Hd' ds vs ∧ Q ds S'
structure DE (X : Cx) (e : Expr) (en : DEnv) (S : Sto) (Q : D → Sto → Prop) : Prop where
  run : ∀ (σ : L2.St) (H Hd : Hp), St0 X.K S Hd H → RpE X.K Hd en σ → wE X e σ H (QD X.K Hd Q)
instance {X : Cx} {e : Expr} {en : DEnv} {S : Sto} {Q : D → Sto → Prop} : CoeFun (DE X e en S Q) (fun _ => ∀ (σ : L2.St) (H Hd : Hp), St0 X.K S Hd H → RpE X.K Hd en σ → wE X e σ H (QD X.K Hd Q)) := ⟨fun h => h.run⟩
structure DT (X : Cx) (e : Expr) (en : DEnv) (S : Sto) (Q : Bool → Sto → Prop) : Prop where
  run : ∀ (σ : L2.St) (H Hd : Hp), St0 X.K S Hd H → RpE X.K Hd en σ → wT X e σ H (QB X.K Hd Q)
instance {X : Cx} {e : Expr} {en : DEnv} {S : Sto} {Q : Bool → Sto → Prop} : CoeFun (DT X e en S Q) (fun _ => ∀ (σ : L2.St) (H Hd : Hp), St0 X.K S Hd H → RpE X.K Hd en σ → wT X e σ H (QB X.K Hd Q)) := ⟨fun h => h.run⟩
structure DW (X : Cx) (e : Expr) (en : DEnv) (S : Sto) (Q : Bool → Sto → Prop) : Prop where
  run : ∀ (σ : L2.St) (H Hd : Hp), St0 X.K S Hd H → RpE X.K Hd en σ → wW X e σ H (QB X.K Hd Q)
instance {X : Cx} {e : Expr} {en : DEnv} {S : Sto} {Q : Bool → Sto → Prop} : CoeFun (DW X e en S Q) (fun _ => ∀ (σ : L2.St) (H Hd : Hp), St0 X.K S Hd H → RpE X.K Hd en σ → wW X e σ H (QB X.K Hd Q)) := ⟨fun h => h.run⟩
structure DA (X : Cx) (es : List Expr) (en : DEnv) (S : Sto) (Q : List D → Sto → Prop) : Prop where
  run : ∀ (σ : L2.St) (H Hd : Hp), St0 X.K S Hd H → RpE X.K Hd en σ → wA X es σ H (QA X.K Hd Q)
instance {X : Cx} {es : List Expr} {en : DEnv} {S : Sto} {Q : List D → Sto → Prop} : CoeFun (DA X es en S Q) (fun _ => ∀ (σ : L2.St) (H Hd : Hp), St0 X.K S Hd H → RpE X.K Hd en σ → wA X es σ H (QA X.K Hd Q)) := ⟨fun h => h.run⟩
theorem QD.up {K : PySem.W.Frag} {Hd Hd' H' : Hp} {Q : D → Sto → Prop} {v : V} (e : Same Hd Hd') (h : QD K Hd' Q v H') : QD K Hd Q v H' :=
  let ⟨d, S, Hd2, e2, st, r, q⟩ := h; ⟨d, S, Hd2, e.trans e2, st, r, q⟩
theorem QB.up {K : PySem.W.Frag} {Hd Hd' H' : Hp} {Q : Bool → Sto → Prop} {b : Bool} (e : Same Hd Hd') (h : QB K Hd' Q b H') : QB K Hd Q b H' :=
  let ⟨S, Hd2, e2, st, q⟩ := h; ⟨S, Hd2, e.trans e2, st, q⟩
theorem QA.up {K : PySem.W.Frag} {Hd Hd' H' : Hp} {Q : List D → Sto → Prop} {v : List V} (e : Same Hd Hd') (h : QA K Hd' Q v H') : QA K Hd Q v H' :=
  let ⟨d, S, Hd2, e2, st, r, q⟩ := h; ⟨d, S, Hd2, e.trans e2, st, r, q⟩
/-- a value that is there -/
theorem QD.here {K : PySem.W.Frag} {S : Sto} {Hd H : Hp} {Q : D → Sto → Prop} {d : D} {v : V} (st : St0 K S Hd H) (r : Rp K Hd d v) (q : Q d S) : QD K Hd Q v H := ⟨d, S, Hd, Same.refl _, st, r, q⟩

section
variable {X : Cx} {a b c e : Expr} {es : List Expr} {en : DEnv} {S : Sto} {Q : D → Sto → Prop} {pos : Pos}
theorem DE.mono {Q' : D → Sto → Prop} (h : DE X e en S Q) (k : ∀ d S', Q d S' → Q' d S') : DE X e en S Q' := ⟨fun σ H Hd st re =>
  wE_mono (h σ H Hd st re) fun _ _ ⟨d, S', Hd', e', st', r, q⟩ => ⟨d, S', Hd', e', st', r, k d S' q⟩⟩
theorem DT.mono {Q Q' : Bool → Sto → Prop} (h : DT X e en S Q) (k : ∀ d S', Q d S' → Q' d S') : DT X e en S Q' := ⟨fun σ H Hd st re =>
  wT_mono (h σ H Hd st re) fun b _ ⟨S', Hd', e', st', q⟩ => ⟨S', Hd', e', st', k b S' q⟩⟩
/-! ### names and constants -/
theorem de_name (i : Nat) {x : Str} {d : D} (q : Q d S) (he : en[i]? = some (some d) := by rfl) (hN : X.N[i]? = some x := by rfl)
    (hv : Vis X.env.scope x := by first | exact Or.inl rfl | exact Or.inr (Or.inl rfl) | exact Or.inr (Or.inr rfl)) (hd : (x == ("__debug__" : Str)) = false := by decide)
    (hcd : (x == ("__classdict__" : Str)) = false := by decide) : DE X (.Name x pos) en S Q := ⟨fun σ H Hd st re => by
  obtain ⟨v, e1, r⟩ := re.get he
  exact wE_of (pe_var hN hv hd hcd) ⟨v, e1, .here st r q⟩⟩
theorem de_int {i : Int} {j} (q : Q (.int i) S) : DE X (.Constant (.int i) j pos) en S Q := ⟨fun _ _ _ st _ => wE_of pe_int (.here (d := .int i) st rfl q)⟩
theorem de_bl {i : Bool} {j} (q : Q (.bl i) S) : DE X (.Constant (.bool i) j pos) en S Q := ⟨fun _ _ _ st _ => wE_of pe_bl (.here (d := .bl i) st rfl q)⟩
theorem de_non {j} (q : Q .non S) : DE X (.Constant .none j pos) en S Q := ⟨fun _ _ _ st _ => wE_of pe_non (.here (d := .non) st rfl q)⟩
theorem de_str {i : Str} {j} (q : Q (.str i) S) : DE X (.Constant (.str i) j pos) en S Q := ⟨fun _ _ _ st _ => wE_of pe_str (.here (d := .str i) st rfl q)⟩
theorem de_globI {x : Str} {i : Int} {u : Tok} (hm : X.mg x = some (.int i u)) (q : Q (.int i) S) (hg : Gl X x := by rfl) (hd : (x == ("__debug__" : Str)) = false := by decide) : DE X (.Name x pos) en S Q := ⟨fun _ _ _ st _ => wE_of (pe_glob (v := .int i) hg hm ⟨u, rfl⟩ hd) (.here (d := .int i) st rfl q)⟩
/-! ### operators -/
def DR2 (K : PySem.W.Frag) (r : R2) (x y : D) (S : Sto) (Q : D → Sto → Prop) : Prop :=
  ∀ (H Hd : Hp) (vx vy : V) (Qv : VK), St0 K S Hd H → Rp K Hd x vx → Rp K Hd y vy → (∀ v H', QD K Hd Q v H' → Qv v H') → r vx vy H Qv
theorem de_two {f : Value → Value → Sem Value} {r : R2} (mk : ∀ {ta tb : TE}, PE X a ta → PE X b tb → PE X e (tOp r ta tb))
    (h : DE X a en S fun x S1 => DE X b en S1 fun y S2 => DR2 X.K r x y S2 Q) : DE X e en S Q := ⟨fun σ H Hd st re => by
  refine wE_of (mk peW peW) ?_
  refine wE_mono (h σ H Hd st re) fun v H1 ⟨x, S1, Hd1, e1, st1, r1, q1⟩ => ?_
  refine wE_mono (q1 σ H1 Hd1 st1 (re.mono e1)) fun u H2 ⟨y, S2, Hd2, e2, st2, r2, q2⟩ => ?_
  exact q2 H2 Hd2 v u _ st2 (Rp.mono e2 x v r1) r2 fun w H3 z => .up (e1.trans e2) z⟩
theorem de_op {op : Operator} {r : R2} (ho : OpR X (binaryOp op) r) (h : DE X a en S fun x S1 => DE X b en S1 fun y S2 => DR2 X.K r x y S2 Q) : DE X (.BinOp a op b pos) en S Q :=
  de_two (f := binaryOp op) (pe_op ho) h
theorem de_cmpR {op : CmpOp} {r : R2} (ho : OpR X (compareOp op) r) (hm : behindInMarks op b = false) (h : DE X a en S fun x S1 => DE X b en S1 fun y S2 => DR2 X.K r x y S2 Q) : DE X (.Compare a [op] [b] pos) en S Q :=
  de_two (f := compareOp op) (fun ha hb => pe_cmpR ho ha hb hm) h
theorem dr_I {C : Int → Int → Prop} {g : Int → Int → Int} {i j : Int} {K : PySem.W.Frag} (hc : C i j) (q : Q (.int (g i j)) S) : DR2 K (rI C fun i j => .int (g i j)) (.int i) (.int j) S Q :=
  fun H Hd vx vy Qv st rx ry k => ⟨i, j, rx, ry, hc, k _ _ (.here (d := .int (g i j)) st rfl q)⟩
theorem dr_I0 {g : Int → Int → Int} {i j : Int} {K : PySem.W.Frag} (q : Q (.int (g i j)) S) : DR2 K (rI0 fun i j => .int (g i j)) (.int i) (.int j) S Q :=
  fun H Hd vx vy Qv st rx ry k => ⟨i, j, rx, ry, k _ _ (.here (d := .int (g i j)) st rfl q)⟩
theorem dr_B0 {g : Int → Int → Bool} {i j : Int} {K : PySem.W.Frag} (q : Q (.bl (g i j)) S) : DR2 K (rI0 fun i j => .bl (g i j)) (.int i) (.int j) S Q :=
  fun H Hd vx vy Qv st rx ry k => ⟨i, j, rx, ry, k _ _ (.here (d := .bl (g i j)) st rfl q)⟩

/-- list + list, lists of any kind -/
def rCatL (K : PySem.W.Frag) : R2 := fun x y H Q => ∃ l b xs zs, x = .ref l ∧ y = .ref b ∧ SqL K H l xs ∧ SqL K H b zs ∧ xs.length + zs.length ≤ sizeLine ∧ ∀ p, H p = none → Q (.ref p) (upd H p (.lst (xs ++ zs)))
theorem op_catL : OpR X (binaryOp .Add) (rCatL X.K) := by
  intro pins s σ H x y v u Q I rx ry h
  obtain ⟨l, b, xs, zs, rfl, rfl, hl, hb, hz, q⟩ := h
  cases rx
  cases ry
  obtain ⟨its, r, ⟨⟨c1, d1, da1, s1⟩, n1, g1, k1, k2, k3⟩, _⟩ := I.list hl
  obtain ⟨its2, r2, ⟨⟨c2, d2, da2, s2⟩, n2, g2, j1, j2, j3⟩, _⟩ := I.list hb
  simp only at k1 k2 k3 j1 j2 j3
  subst k1 k2 k3 j1 j2 j3
  have ez : its.toArray.size + its2.toArray.size ≤ sizeLine := by
    rw [List.size_toArray, List.size_toArray, ← r.length, ← r2.length]
    exact hz
  refine concat_meets ⟨_, g1, rfl⟩ ⟨_, g2, rfl⟩ noFill_list_add seq_list_add PySem.F.slot_list_add PySem.F.entry_list_add (PySem.F.args_list_add_2 _ _) (PyProof.Rows.list_addW l b its.toArray its2.toArray n1 n2 none none s1 s2 ez) ⟨g1, g2, ?_⟩
  have ea : its.toArray ++ its2.toArray = (its ++ its2).toArray := by simp
  rw [ea]
  exact ⟨.ref _, _, I.lnew (t' := s.toks) (r.append r2) (by rw [List.length_append]; exact hz), rfl, q _ I.fresh⟩

/-- a + b -/
def addP (x y : D) (S : Sto) (Q : D → Sto → Prop) : Prop := match x, y with
  | .int i, .int j => Q (.int (i + j)) S
  | .lst l, .lst m => l.length + m.length ≤ 100000 ∧ Q (.lst (l ++ m)) S
  | .scr l, .lst m => l.length + m.length ≤ 100000 ∧ Q (.lst (l.map D.int ++ m)) S
  | .tup l, .tup m => (l.length ≠ 0 ∧ m.length ≠ 0 ∧ l.length + m.length ≤ 100000) ∧ Q (.tup (l ++ m)) S
  | .str i, .str j => i.length + j.length ≤ sizeLine ∧ Q (.str (i ++ j)) S
  | _, _ => False
theorem RpL.ne_nil {K : PySem.W.Frag} {H : Hp} {l : List D} {vs : List V} (h : RpL K H l vs) (n : l.length ≠ 0) : vs ≠ [] := fun z => by
  have := h.length
  rw [z] at this
  exact n this.symm
theorem sz5 {n : Nat} (h : n ≤ 100000) : n ≤ sizeLine := Nat.le_trans h (by decide)
/-- the reading of a new tuple, of a new list -/
theorem new_tup {K : PySem.W.Frag} {Hd H : Hp} {l : List D} {xs : List V} {p : Addr} (st : St0 K S Hd H) (r : RpL K Hd l xs) (hp : H p = none) (q : Q (.tup l) S) : QD K Hd Q (.ref p) (upd H p (.tup xs)) := by
  obtain ⟨e, st'⟩ := st.laid (o := .tup xs) hp
  exact ⟨.tup l, S, _, e, st', ⟨p, xs, rfl, SqT.of upd_same, r.mono e⟩, q⟩
theorem new_lst {K : PySem.W.Frag} {Hd H : Hp} {l : List D} {xs : List V} {p : Addr} (st : St0 K S Hd H) (r : RpL K Hd l xs) (hp : H p = none) (q : Q (.lst l) S) : QD K Hd Q (.ref p) (upd H p (.lst xs)) := by
  obtain ⟨e, st'⟩ := st.laid (o := .lst xs) hp
  exact ⟨.lst l, S, _, e, st', ⟨p, xs, rfl, upd_same, r.mono e⟩, q⟩
theorem OpR.or {f : Value → Value → Sem Value} {r r' : R2} (h : OpR X f r) (h' : OpR X f r') : OpR X f (fun x y H Q => r x y H Q ∨ r' x y H Q) := by
  intro pins s σ H x y v u Q I rx ry q
  rcases q with q | q
  · exact h pins s σ H x y v u Q I rx ry q
  · exact h' pins s σ H x y v u Q I rx ry q
theorem de_add (h : DE X a en S fun x S1 => DE X b en S1 fun y S2 => addP x y S2 Q) : DE X (.BinOp a .Add b pos) en S Q := by
  refine de_op (OpR.or op_add (OpR.or op_catL (OpR.or op_catT op_add_str))) (h.mono fun x S1 h1 => h1.mono fun y S2 h2 => ?_)
  intro H Hd vx vy Qv st rx ry k
  unfold addP at h2
  split at h2
  · exact .inl ⟨_, _, rx, ry, k _ _ (.here (d := .int _) st rfl h2)⟩
  · rename_i l m
    obtain ⟨p, xs, e1, e2, e3⟩ := rx
    obtain ⟨p', ys, f1, f2, f3⟩ := ry
    exact .inr (.inl ⟨p, p', xs, ys, e1, f1, .of (st.sub _ _ e2), .of (st.sub _ _ f2), by rw [e3.length, f3.length]; exact sz5 h2.1, fun q hq => k _ _ (new_lst st (e3.append f3) hq h2.2)⟩)
  · rename_i l m
    obtain ⟨p, e1, e2⟩ := rx
    obtain ⟨p', ys, f1, f2, f3⟩ := ry
    exact .inr (.inl ⟨p, p', l.map V.int, ys, e1, f1, same_l st.sub e2, .of (st.sub _ _ f2), by rw [List.length_map, f3.length]; exact sz5 h2.1, fun q hq => k _ _ (new_lst st (RpL.append (RpL.ints l) f3) hq h2.2)⟩)
  · rename_i l m
    obtain ⟨p, xs, e1, e2, e3⟩ := rx
    obtain ⟨p', ys, f1, f2, f3⟩ := ry
    obtain ⟨⟨n1, n2, n3⟩, h2⟩ := h2
    refine .inr (.inr (.inl ⟨p, p', xs, ys, e1, f1, same_t st.sub e2, same_t st.sub f2, e3.ne_nil n1, by rw [e3.length, f3.length]; exact sz5 n3, fun z => absurd z (f3.ne_nil n2), fun _ q hq => k _ _ (new_tup st (e3.append f3) hq h2)⟩))
  · exact .inr (.inr (.inr ⟨_, _, rx, ry, h2.1, k _ _ (.here (d := .str _) st rfl h2.2)⟩))
  · exact h2.elim
theorem add_int {i j : Int} (q : Q (.int (i + j)) S) : addP (.int i) (.int j) S Q := q
theorem add_lst {l m : List D} (q : Q (.lst (l ++ m)) S) (h : l.length + m.length ≤ 100000) : addP (.lst l) (.lst m) S Q := ⟨h, q⟩
theorem add_scr {l : List Int} {m : List D} (q : Q (.lst (l.map D.int ++ m)) S) (h : l.length + m.length ≤ 100000) : addP (.scr l) (.lst m) S Q := ⟨h, q⟩
theorem add_tup {l m : List D} (q : Q (.tup (l ++ m)) S) (h : l.length ≠ 0 ∧ m.length ≠ 0 ∧ l.length + m.length ≤ 100000) : addP (.tup l) (.tup m) S Q := ⟨h, q⟩
/-- a - b, a * b, a // b, a % b, a ** b -/
theorem de_sub (h : DE X a en S fun x S1 => DE X b en S1 fun y S2 => ∃ i j, x = .int i ∧ y = .int j ∧ Q (.int (i - j)) S2) : DE X (.BinOp a .Sub b pos) en S Q :=
  de_op op_sub (h.mono fun _ _ h1 => h1.mono fun _ _ ⟨_, _, e1, e2, q⟩ => by subst e1 e2; exact dr_I0 q)
def mulP (x y : D) (S : Sto) (Q : D → Sto → Prop) : Prop := match x, y with
  | .int i, .int j => CMulW i j ∧ Q (.int (i * j)) S
  | .lst l, .int k => (-(2 ^ 63) ≤ k ∧ k < 2 ^ 63 ∧ l.length * k.toNat ≤ 100000) ∧ Q (.lst (List.replicate k.toNat l).flatten) S
  | _, _ => False
theorem RpL.rep {K : PySem.W.Frag} {H : Hp} {l : List D} {vs : List V} (h : RpL K H l vs) : ∀ n : Nat, RpL K H (List.replicate n l).flatten (List.replicate n vs).flatten
  | 0 => rfl
  | n + 1 => by
    rw [List.replicate_succ, List.replicate_succ, List.flatten_cons, List.flatten_cons]
    exact h.append (RpL.rep h n)
theorem de_mul (h : DE X a en S fun x S1 => DE X b en S1 fun y S2 => mulP x y S2 Q) : DE X (.BinOp a .Mult b pos) en S Q := by
  refine de_op (OpR.or op_mulW op_rep) (h.mono fun x S1 h1 => h1.mono fun y S2 h2 => ?_)
  intro H Hd vx vy Qv st rx ry k
  unfold mulP at h2
  split at h2
  · exact .inl ⟨_, _, rx, ry, h2.1, k _ _ (.here (d := .int _) st rfl h2.2)⟩
  · obtain ⟨p, xs, e1, e2, e3⟩ := rx
    obtain ⟨⟨n1, n2, n3⟩, h2⟩ := h2
    exact .inr ⟨p, _, xs, e1, ry, st.sub _ _ e2, n1, n2, by rw [e3.length]; exact sz5 n3, fun q hq => k _ _ (new_lst st (e3.rep _) hq h2)⟩
  · exact h2.elim
theorem mul_i {i j : Int} (q : Q (.int (i * j)) S) (h : CMulW i j) : mulP (.int i) (.int j) S Q := ⟨h, q⟩
theorem mul_l {l : List D} {k : Int} (q : Q (.lst (List.replicate k.toNat l).flatten) S) (h : -(2 ^ 63) ≤ k ∧ k < 2 ^ 63 ∧ l.length * k.toNat ≤ 100000) : mulP (.lst l) (.int k) S Q := ⟨h, q⟩
theorem de_fdiv (h : DE X a en S fun x S1 => DE X b en S1 fun y S2 => ∃ i j, x = .int i ∧ y = .int j ∧ CDivW i j ∧ Q (.int (i / j)) S2) : DE X (.BinOp a .FloorDiv b pos) en S Q :=
  de_op op_fdivW (h.mono fun _ _ h1 => h1.mono fun _ _ ⟨_, _, e1, e2, hc, q⟩ => by subst e1 e2; exact dr_I hc q)
theorem de_mod (h : DE X a en S fun x S1 => DE X b en S1 fun y S2 => ∃ i j, x = .int i ∧ y = .int j ∧ 0 < j ∧ Q (.int (i % j)) S2) : DE X (.BinOp a .Mod b pos) en S Q :=
  de_op op_mod (h.mono fun _ _ h1 => h1.mono fun _ _ ⟨_, _, e1, e2, hc, q⟩ => by subst e1 e2; exact dr_I hc q)
/-- a ** b, b small, a of less than 2 ^ 20 bits -/
def CPowW (i j : Int) : Prop := 0 ≤ j ∧ j ≤ 64 ∧ i.natAbs.log2 < 1000000
theorem op_powW : OpR X (binaryOp .Pow) (rI CPowW fun i j => .int (i ^ j.toNat)) := opI fun i j _ _ _ _ _ hc q => by
  obtain ⟨h1, h2, h3⟩ := hc
  refine pow_int h1 ?_ q
  have b : Builtin.Int.intBits i ≤ i.natAbs.log2 + 1 := by
    unfold Builtin.Int.intBits
    split <;> omega
  have b2 : (Builtin.Int.intBits i : Int) ≤ 1000000 := by omega
  have b3 : (Builtin.Int.intBits i : Int) * j ≤ 1000000 * 64 := Int.mul_le_mul b2 h2 h1 (by decide)
  have b4 : (1000000 * 64 : Int) ≤ 2 ^ 27 := by decide
  omega
theorem de_pow (h : DE X a en S fun x S1 => DE X b en S1 fun y S2 => ∃ i j, x = .int i ∧ y = .int j ∧ CPowW i j ∧ Q (.int (i ^ j.toNat)) S2) : DE X (.BinOp a .Pow b pos) en S Q :=
  de_op op_powW (h.mono fun _ _ h1 => h1.mono fun _ _ ⟨_, _, e1, e2, hc, q⟩ => by subst e1 e2; exact dr_I hc q)
theorem de_neg (h : DE X a en S fun x S1 => ∃ i, x = .int i ∧ Q (.int (-i)) S1) : DE X (.UnaryOp .USub a pos) en S Q := ⟨fun σ H Hd st re => by
  refine wE_of (pe_un un_neg peW) ?_
  refine wE_mono (h σ H Hd st re) fun v H1 ⟨x, S1, Hd1, e1, st1, r1, i, e2, q1⟩ => ?_
  subst e2
  exact ⟨i, r1, .up e1 (.here (d := .int (-i)) st1 rfl q1)⟩⟩
end
end DL
namespace DL
open PySem PySem.Spec PyProof.Rows L2

/-! ### data as the library's data -/
mutual
def toPy : D → PyData
  | .non => .none
  | .bl b => .bool b
  | .int i => .int i
  | .str x => .str x
  | .tup l => .tuple (toPyL l)
  | .lst l => .list (toPyL l)
  | .raw _ => .none
  | .ext _ => .none
  | .scr ns => .list (ns.map PyData.int)
def toPyL : List D → List PyData
  | [] => []
  | d :: ds => toPy d :: toPyL ds
end
mutual
/-- plain data of at most this depth -/
def flatOk : Nat → D → Bool
  | _, .non => true
  | _, .bl _ => true
  | _, .int _ => true
  | _, .str x => PyData.strOk x
  | n + 1, .tup l => flatOkL n l
  | n + 1, .lst l => flatOkL n l
  | n + 1, .scr _ => true
  | _, _ => false
def flatOkL : Nat → List D → Bool
  | _, [] => true
  | n, d :: ds => flatOk n d && flatOkL n ds
end
theorem dpAll_ints {K : PySem.W.Frag} {H : Hp} : ∀ ns : List Int, DpAll K H (ns.map V.int) (ns.map PyData.int)
  | [] => .nil
  | n :: ns => .cons (.int n) (dpAll_ints ns)
mutual
theorem dp_of {K : PySem.W.Frag} {H : Hp} : ∀ (n : Nat) (d : D) (v : V), flatOk n d = true → Rp K H d v → Dp K H v (toPy d)
  | _, .non, v, _, r => by
    have r : v = _ := r
    subst r
    exact .non
  | _, .bl b, v, _, r => by
    have r : v = _ := r
    subst r
    exact .bl b
  | _, .int i, v, _, r => by
    have r : v = _ := r
    subst r
    exact .int i
  | _, .str x, v, _, r => by
    have r : v = _ := r
    subst r
    exact .str x
  | 0, .tup l, v, h, r => by simp [flatOk] at h
  | n + 1, .tup l, v, h, r => by
    obtain ⟨a, xs, rfl, h1, h2⟩ := r
    exact .tup h1 (dpAll_of n l xs (by simpa [flatOk] using h) h2)
  | 0, .lst l, v, h, r => by simp [flatOk] at h
  | n + 1, .lst l, v, h, r => by
    obtain ⟨a, xs, rfl, h1, h2⟩ := r
    exact .lst (.of h1) (dpAll_of n l xs (by simpa [flatOk] using h) h2)
  | 0, .scr l, v, h, r => by simp [flatOk] at h
  | n + 1, .scr ns, v, h, r => by
    obtain ⟨a, rfl, h1⟩ := r
    exact .lst h1 (dpAll_ints ns)
  | 0, .raw _, v, h, r => by simp [flatOk] at h
  | _ + 1, .raw _, v, h, r => by simp [flatOk] at h
  | 0, .ext _, v, h, r => by simp [flatOk] at h
  | _ + 1, .ext _, v, h, r => by simp [flatOk] at h
theorem dpAll_of {K : PySem.W.Frag} {H : Hp} : ∀ (n : Nat) (l : List D) (vs : List V), flatOkL n l = true → RpL K H l vs → DpAll K H vs (toPyL l)
  | _, [], vs, _, r => by
    have r : vs = [] := r
    subst r
    exact .nil
  | n, d :: ds, vs, h, r => by
    obtain ⟨x, xs, rfl, h1, h2⟩ := r
    rw [flatOkL, Bool.and_eq_true] at h
    exact .cons (dp_of n d x h.1 h1) (dpAll_of n ds xs h.2 h2)
end
theorem canLay_ints : ∀ ns : List Int, PyData.canLayAll0 (ns.map PyData.int) = true
  | [] => rfl
  | n :: ns => by
    show (PyData.canLay0 (.int n) && PyData.canLayAll0 (ns.map PyData.int)) = true
    rw [canLay_ints ns] <;> rfl
theorem depth_ints : ∀ ns : List Int, PyData.depthAll (ns.map PyData.int) = 0
  | [] => rfl
  | n :: ns => by
    show max (PyData.depth (.int n)) (PyData.depthAll (ns.map PyData.int)) = 0
    rw [depth_ints ns] <;> rfl
mutual
theorem lay_of : ∀ (n : Nat) (d : D), flatOk n d = true → (toPy d).canLay0 = true ∧ (toPy d).depth ≤ n
  | _, .non, _ => ⟨rfl, Nat.zero_le _⟩
  | _, .bl b, _ => ⟨rfl, Nat.zero_le _⟩
  | _, .int b, _ => ⟨rfl, Nat.zero_le _⟩
  | _, .str b, h => ⟨by simpa [flatOk, toPy, PyData.canLay0] using h, Nat.zero_le _⟩
  | 0, .tup l, h => by simp [flatOk] at h
  | n + 1, .tup l, h => by
    obtain ⟨h1, h2⟩ := layAll_of n l (by simpa [flatOk] using h)
    exact ⟨by simpa [toPy, PyData.canLay0] using h1, by simpa [toPy, PyData.depth] using h2⟩
  | 0, .lst l, h => by simp [flatOk] at h
  | n + 1, .lst l, h => by
    obtain ⟨h1, h2⟩ := layAll_of n l (by simpa [flatOk] using h)
    exact ⟨by simpa [toPy, PyData.canLay0] using h1, by simpa [toPy, PyData.depth] using h2⟩
  | 0, .scr l, h => by simp [flatOk] at h
  | n + 1, .scr ns, h => by
    refine ⟨by simpa [toPy, PyData.canLay0] using canLay_ints ns, ?_⟩
    show PyData.depthAll (ns.map PyData.int) + 1 ≤ n + 1
    rw [depth_ints]
    omega
  | 0, .raw _, h => by simp [flatOk] at h
  | _ + 1, .raw _, h => by simp [flatOk] at h
  | 0, .ext _, h => by simp [flatOk] at h
  | _ + 1, .ext _, h => by simp [flatOk] at h
theorem layAll_of : ∀ (n : Nat) (l : List D), flatOkL n l = true → PyData.canLayAll0 (toPyL l) = true ∧ PyData.depthAll (toPyL l) ≤ n
  | _, [], _ => ⟨rfl, Nat.zero_le _⟩
  | n, d :: ds, h => by
    rw [flatOkL, Bool.and_eq_true] at h
    obtain ⟨h1, h2⟩ := lay_of n d h.1
    obtain ⟨h3, h4⟩ := layAll_of n ds h.2
    refine ⟨?_, ?_⟩
    · show (PyData.canLay0 (toPy d) && PyData.canLayAll0 (toPyL ds)) = true
      rw [h1, h3] <;> rfl
    · show max (PyData.depth (toPy d)) (PyData.depthAll (toPyL ds)) ≤ n
      omega
end
theorem shaped_of {n : Nat} {d : D} (h : flatOk n d = true) (hn : n ≤ 64) : SeqAt.shaped (toPy d) = true := by
  obtain ⟨h1, h2⟩ := lay_of n d h
  unfold SeqAt.shaped
  rw [h1, decide_eq_true (show (toPy d).depth ≤ 64 by omega)] <;> rfl
theorem flatOkL_mem {n : Nat} : ∀ {l : List D}, (∀ d ∈ l, flatOk n d = true) → flatOkL n l = true
  | [], _ => by simp [flatOkL]
  | d :: ds, h => by
    rw [flatOkL, h d List.mem_cons_self, flatOkL_mem fun x hx => h x (List.mem_cons_of_mem _ hx)] <;> rfl
/-- how data is compared -/
def eqB (x y : D) : Bool := PyData.eqv (toPy x) (toPy y)
theorem eqB_refl {n : Nat} {d : D} (h : flatOk n d = true) : eqB d d = true := PySem.SeqAt.eqv_refl _ (lay_of n d h).1
section
variable {X : Cx} {a b c e : Expr} {es : List Expr} {en : DEnv} {S : Sto} {Q : D → Sto → Prop} {pos : Pos}
/-! ### comparisons as values -/
def eqP (x y : D) (S : Sto) (Q : Bool → Sto → Prop) : Prop := match x, y with
  | .int i, .int j => Q (decide (i = j)) S
  | .str i, .str j => Q (decide (i = j)) S
  | x, y => (flatOk 9 x = true ∧ flatOk 9 y = true) ∧ Q (eqB x y) S
theorem dr_eq {K : PySem.W.Frag} {x y : D} (h : eqP x y S fun b S' => Q (.bl b) S') : DR2 K (fun x y H Q => rEq x y H Q ∨ rEqD K x y H Q) x y S Q := by
  intro H Hd vx vy Qv st rx ry k
  have deep : (flatOk 9 x = true ∧ flatOk 9 y = true) ∧ Q (.bl (eqB x y)) S → rEqD K vx vy H Qv := fun ⟨⟨h1, h2⟩, q⟩ =>
    ⟨toPy x, toPy y, dp_of 9 x vx h1 (Rp.mono st.sub x vx rx), dp_of 9 y vy h2 (Rp.mono st.sub y vy ry), shaped_of h1 (by decide), shaped_of h2 (by decide), k _ _ (.here (d := .bl (eqB x y)) st rfl q)⟩
  unfold eqP at h
  split at h
  · rename_i i j
    have e1 : vx = .int i := rx
    have e2 : vy = .int j := ry
    subst e1 e2
    refine .inl ⟨rfl, ?_⟩
    have e : decide (V.int i = V.int j) = decide (i = j) := by simp
    rw [e]
    exact k _ _ (.here (d := .bl (decide (i = j))) st rfl h)
  · rename_i i j
    have e1 : vx = .str i := rx
    have e2 : vy = .str j := ry
    subst e1 e2
    refine .inl ⟨rfl, ?_⟩
    have e : decide (V.str i = V.str j) = decide (i = j) := by simp
    rw [e]
    exact k _ _ (.here (d := .bl (decide (i = j))) st rfl h)
  · exact .inr (deep h)
theorem dr_ne {K : PySem.W.Frag} {x y : D} (h : eqP x y S fun b S' => Q (.bl (!b)) S') : DR2 K (fun x y H Q => rNe x y H Q ∨ rNeD K x y H Q) x y S Q := by
  intro H Hd vx vy Qv st rx ry k
  have deep : (flatOk 9 x = true ∧ flatOk 9 y = true) ∧ Q (.bl (!eqB x y)) S → rNeD K vx vy H Qv := fun ⟨⟨h1, h2⟩, q⟩ =>
    ⟨toPy x, toPy y, dp_of 9 x vx h1 (Rp.mono st.sub x vx rx), dp_of 9 y vy h2 (Rp.mono st.sub y vy ry), shaped_of h1 (by decide), shaped_of h2 (by decide), k _ _ (.here (d := .bl (!eqB x y)) st rfl q)⟩
  unfold eqP at h
  split at h
  · rename_i i j
    have e1 : vx = .int i := rx
    have e2 : vy = .int j := ry
    subst e1 e2
    refine .inl ⟨rfl, ?_⟩
    have e : decide (V.int i = V.int j) = decide (i = j) := by simp
    rw [e]
    exact k _ _ (.here (d := .bl (!decide (i = j))) st rfl h)
  · rename_i i j
    have e1 : vx = .str i := rx
    have e2 : vy = .str j := ry
    subst e1 e2
    refine .inl ⟨rfl, ?_⟩
    have e : decide (V.str i = V.str j) = decide (i = j) := by simp
    rw [e]
    exact k _ _ (.here (d := .bl (!decide (i = j))) st rfl h)
  · exact .inr (deep h)
theorem eq_int {i j : Int} {Q : Bool → Sto → Prop} (q : Q (decide (i = j)) S) : eqP (.int i) (.int j) S Q := q
theorem eq_str {i j : Str} {Q : Bool → Sto → Prop} (q : Q (decide (i = j)) S) : eqP (.str i) (.str j) S Q := q
theorem eq_tup {l m : List D} {Q : Bool → Sto → Prop} (q : Q (eqB (.tup l) (.tup m)) S) (h : flatOk 9 (.tup l) = true ∧ flatOk 9 (.tup m) = true := by exact ⟨rfl, rfl⟩) : eqP (.tup l) (.tup m) S Q := ⟨h, q⟩
theorem eq_lst {l m : List D} {Q : Bool → Sto → Prop} (q : Q (eqB (.lst l) (.lst m)) S) (h : flatOk 9 (.lst l) = true ∧ flatOk 9 (.lst m) = true := by exact ⟨rfl, rfl⟩) : eqP (.lst l) (.lst m) S Q := ⟨h, q⟩
theorem eq_scr {l : List Int} {m : List D} {Q : Bool → Sto → Prop} (q : Q (eqB (.scr l) (.lst m)) S) (h : flatOk 9 (.scr l) = true ∧ flatOk 9 (.lst m) = true := by exact ⟨rfl, rfl⟩) : eqP (.scr l) (.lst m) S Q := ⟨h, q⟩
/-- two equal data -/
theorem eqP_same {x y : D} {Q : Bool → Sto → Prop} (z : x = y) (h : flatOk 9 x = true) (q : Q true S) : eqP x y S Q := by
  subst z
  have e := eqB_refl h
  cases x <;> first
    | (refine ⟨⟨h, h⟩, ?_⟩
       rw [e]
       exact q)
    | (show Q (decide (_ = _)) S
       rw [decide_eq_true rfl]
       exact q)
theorem de_eq (hu : X.A.units + 64 < cLine) (h : DE X a en S fun x S1 => DE X b en S1 fun y S2 => eqP x y S2 fun b S' => Q (.bl b) S') : DE X (.Compare a [.Eq] [b] pos) en S Q :=
  de_cmpR (OpR.or op_eq (op_eqD hu)) (nobehind _ (by decide) (by decide)) (h.mono fun _ _ h1 => h1.mono fun _ _ h2 => dr_eq h2)
theorem de_lt (h : DE X a en S fun x S1 => DE X b en S1 fun y S2 => ∃ i j, x = .int i ∧ y = .int j ∧ Q (.bl (decide (i < j))) S2) : DE X (.Compare a [.Lt] [b] pos) en S Q :=
  de_cmpR op_lt (nobehind _ (by decide) (by decide)) (h.mono fun _ _ h1 => h1.mono fun _ _ ⟨_, _, e1, e2, q⟩ => by subst e1 e2; exact dr_B0 q)
theorem de_le (h : DE X a en S fun x S1 => DE X b en S1 fun y S2 => ∃ i j, x = .int i ∧ y = .int j ∧ Q (.bl (decide (i ≤ j))) S2) : DE X (.Compare a [.LtE] [b] pos) en S Q :=
  de_cmpR op_le (nobehind _ (by decide) (by decide)) (h.mono fun _ _ h1 => h1.mono fun _ _ ⟨_, _, e1, e2, q⟩ => by subst e1 e2; exact dr_B0 q)
/-! ### truths as values -/
theorem de_not (h : DE X a en S fun x S1 => ∃ c, x = .bl c ∧ Q (.bl (!c)) S1) : DE X (.UnaryOp .Not a pos) en S Q := ⟨fun σ H Hd st re => by
  refine wE_of (pe_not peW) ?_
  refine wE_mono (h σ H Hd st re) fun v H1 ⟨x, S1, Hd1, e1, st1, r1, i, e2, q1⟩ => ?_
  subst e2
  exact ⟨i, r1, .up e1 (.here (d := .bl (!i)) st1 rfl q1)⟩⟩
theorem de_one {op} (h : DE X a en S Q) : DE X (.BoolOp op [a] pos) en S Q := ⟨fun σ H Hd st re => wE_of (pe_one peW) (h σ H Hd st re)⟩
theorem de_and {rest : List Expr} (h : DE X a en S fun x S1 => ∃ c, x = .bl c ∧ (c = false → Q (.bl false) S1) ∧ (c = true → DE X (.BoolOp .And (b :: rest) pos) en S1 Q)) : DE X (.BoolOp .And (a :: b :: rest) pos) en S Q := ⟨fun σ H Hd st re => by
  refine wE_of (pe_and peW peW) ?_
  refine wE_mono (h σ H Hd st re) fun v H1 ⟨x, S1, Hd1, e1, st1, r1, i, e2, q1, q2⟩ => ?_
  subst e2
  refine ⟨i, r1, ?_⟩
  cases i with
  | true =>
    rw [if_pos rfl]
    exact wE_mono (q2 rfl σ H1 Hd1 st1 (re.mono e1)) fun _ _ z => .up e1 z
  | false =>
    rw [if_neg Bool.false_ne_true]
    exact .up e1 (.here (d := .bl false) st1 rfl (q1 rfl))⟩
theorem de_ifE (h : DT X c en S fun t S1 => (t = true → DE X a en S1 Q) ∧ (t = false → DE X b en S1 Q)) : DE X (.IfExp c a b pos) en S Q := ⟨fun σ H Hd st re => by
  refine wE_of (pe_ifExp ptW peW peW) ?_
  refine wT_mono (h σ H Hd st re) fun t H1 ⟨S1, Hd1, e1, st1, q1, q2⟩ => ?_
  cases t with
  | true =>
    rw [if_pos rfl]
    exact wE_mono (q1 rfl σ H1 Hd1 st1 (re.mono e1)) fun _ _ z => .up e1 z
  | false =>
    rw [if_neg Bool.false_ne_true]
    exact wE_mono (q2 rfl σ H1 Hd1 st1 (re.mono e1)) fun _ _ z => .up e1 z⟩
/-! ### tests -/
variable {P : Bool → Sto → Prop}
theorem dt_val (h : DE X a en S fun x S1 => ∃ c, x = .bl c ∧ P c S1) (he : ∀ whole, isTrue a X.env whole = (do let v ← whole; standAt a.pos; holding [v] (truthy v)) := by intro _; rfl) : DT X a en S P := ⟨fun σ H Hd st re => by
  refine wT_of (pt_val peW he) ?_
  refine wE_mono (h σ H Hd st re) fun v H1 ⟨x, S1, Hd1, e1, st1, r1, i, e2, q1⟩ => ?_
  subst e2
  exact ⟨i, r1, S1, Hd1, e1, st1, q1⟩⟩
theorem dt_not (h : DT X a en S fun c S1 => P (!c) S1) : DT X (.UnaryOp .Not a pos) en S P := ⟨fun σ H Hd st re => by
  refine wT_of (pt_not ptW) ?_
  exact wT_mono (h σ H Hd st re) fun c H1 ⟨S1, Hd1, e1, st1, q⟩ => ⟨S1, Hd1, e1, st1, q⟩⟩
theorem dt_w (h : DW X a en S P) : DT X a en S P := ⟨fun σ H Hd st re => wT_of (PW.pt pwW) (h σ H Hd st re)⟩
theorem dw_and1 (h : DT X a en S P) : DW X (.BoolOp .And [a] pos) en S P := ⟨fun σ H Hd st re => wW_of (pw_and1 ptW) (h σ H Hd st re)⟩
theorem dw_or1 (h : DT X a en S P) : DW X (.BoolOp .Or [a] pos) en S P := ⟨fun σ H Hd st re => wW_of (pw_or1 ptW) (h σ H Hd st re)⟩
theorem dw_and {rest : List Expr} (h : DT X a en S fun c S1 => (c = false → P false S1) ∧ (c = true → DW X (.BoolOp .And (b :: rest) pos) en S1 P)) : DW X (.BoolOp .And (a :: b :: rest) pos) en S P := ⟨fun σ H Hd st re => by
  refine wW_of (pw_and ptW pwW) ?_
  refine wT_mono (h σ H Hd st re) fun c H1 ⟨S1, Hd1, e1, st1, q1, q2⟩ => ?_
  cases c with
  | true =>
    rw [if_pos rfl]
    exact wW_mono (q2 rfl σ H1 Hd1 st1 (re.mono e1)) fun _ _ z => .up e1 z
  | false =>
    rw [if_neg Bool.false_ne_true]
    exact ⟨S1, Hd1, e1, st1, q1 rfl⟩⟩
theorem dw_or {rest : List Expr} (h : DT X a en S fun c S1 => (c = true → P true S1) ∧ (c = false → DW X (.BoolOp .Or (b :: rest) pos) en S1 P)) : DW X (.BoolOp .Or (a :: b :: rest) pos) en S P := ⟨fun σ H Hd st re => by
  refine wW_of (pw_or ptW pwW) ?_
  refine wT_mono (h σ H Hd st re) fun c H1 ⟨S1, Hd1, e1, st1, q1, q2⟩ => ?_
  cases c with
  | false =>
    rw [if_neg Bool.false_ne_true]
    exact wW_mono (q2 rfl σ H1 Hd1 st1 (re.mono e1)) fun _ _ z => .up e1 z
  | true =>
    rw [if_pos rfl]
    exact ⟨S1, Hd1, e1, st1, q1 rfl⟩⟩
/-- a comparison as a test -/
theorem dt_cmp {op : CmpOp} {r : R2} (ho : OpR X (compareOp op) r) (hm : behindInMarks op b = false) (h : DE X a en S fun x S1 => DE X b en S1 fun y S2 => DR2 X.K r x y S2 fun d S' => ∃ c, d = .bl c ∧ P c S') : DT X (.Compare a [op] [b] pos) en S P := ⟨fun σ H Hd st re => by
  refine wT_of (pt_cmpR ho peW peW hm) ?_
  refine wE_mono (h σ H Hd st re) fun v H1 ⟨x, S1, Hd1, e1, st1, r1, q1⟩ => ?_
  refine wE_mono (q1 σ H1 Hd1 st1 (re.mono e1)) fun u H2 ⟨y, S2, Hd2, e2, st2, r2, q2⟩ => ?_
  refine q2 H2 Hd2 v u _ st2 (Rp.mono e2 x v r1) r2 fun w H3 ⟨d, S3, Hd3, e3, st3, r3, c, ed, q3⟩ => ?_
  subst ed
  exact ⟨c, r3, S3, Hd3, (e1.trans e2).trans e3, st3, q3⟩⟩
theorem dt_lt (h : DE X a en S fun x S1 => DE X b en S1 fun y S2 => ∃ i j, x = .int i ∧ y = .int j ∧ P (decide (i < j)) S2) : DT X (.Compare a [.Lt] [b] pos) en S P :=
  dt_cmp op_lt (nobehind _ (by decide) (by decide)) (h.mono fun _ _ h1 => h1.mono fun _ _ ⟨_, _, e1, e2, q⟩ => by subst e1 e2; exact dr_B0 ⟨_, rfl, q⟩)
theorem dt_gt (h : DE X a en S fun x S1 => DE X b en S1 fun y S2 => ∃ i j, x = .int i ∧ y = .int j ∧ P (decide (j < i)) S2) : DT X (.Compare a [.Gt] [b] pos) en S P :=
  dt_cmp op_gt (nobehind _ (by decide) (by decide)) (h.mono fun _ _ h1 => h1.mono fun _ _ ⟨_, _, e1, e2, q⟩ => by subst e1 e2; exact dr_B0 ⟨_, rfl, q⟩)
theorem dt_ge (h : DE X a en S fun x S1 => DE X b en S1 fun y S2 => ∃ i j, x = .int i ∧ y = .int j ∧ P (decide (j ≤ i)) S2) : DT X (.Compare a [.GtE] [b] pos) en S P :=
  dt_cmp op_ge (nobehind _ (by decide) (by decide)) (h.mono fun _ _ h1 => h1.mono fun _ _ ⟨_, _, e1, e2, q⟩ => by subst e1 e2; exact dr_B0 ⟨_, rfl, q⟩)
theorem dt_eq (hu : X.A.units + 64 < cLine) (h : DE X a en S fun x S1 => DE X b en S1 fun y S2 => eqP x y S2 P) : DT X (.Compare a [.Eq] [b] pos) en S P :=
  dt_cmp (OpR.or op_eq (op_eqD hu)) (nobehind _ (by decide) (by decide)) (h.mono fun _ _ h1 => h1.mono fun x y h2 => dr_eq (by
    unfold eqP at h2 ⊢
    split at h2 <;> first | exact ⟨_, rfl, h2⟩ | exact ⟨h2.1, _, rfl, h2.2⟩))
theorem dt_ne (hu : X.A.units + 64 < cLine) (h : DE X a en S fun x S1 => DE X b en S1 fun y S2 => eqP x y S2 fun b S' => P (!b) S') : DT X (.Compare a [.NotEq] [b] pos) en S P :=
  dt_cmp (OpR.or op_ne (op_neD hu)) (nobehind _ (by decide) (by decide)) (h.mono fun _ _ h1 => h1.mono fun x y h2 => dr_ne (by
    unfold eqP at h2 ⊢
    split at h2 <;> first | exact ⟨_, rfl, h2⟩ | exact ⟨h2.1, _, rfl, h2.2⟩))
/-! ### displays, subscripts, slices -/
variable {R : List D → Sto → Prop}
theorem da_nil (q : R [] S) : DA X [] en S R := ⟨fun σ H Hd st _ => wA_of pa_nil ⟨[], S, Hd, Same.refl _, st, rfl, q⟩⟩
theorem da_cons (h : DE X e en S fun x S1 => DA X es en S1 fun xs S2 => R (x :: xs) S2) (hs : starEach (e :: es) X.env = (false, eval e X.env) :: starEach es X.env := by rfl) : DA X (e :: es) en S R := ⟨fun σ H Hd st re => by
  refine wA_of (pa_cons peW paW hs) ?_
  refine wE_mono (h σ H Hd st re) fun v H1 ⟨x, S1, Hd1, e1, st1, r1, q1⟩ => ?_
  refine wA_mono (q1 σ H1 Hd1 st1 (re.mono e1)) fun vs H2 ⟨xs, S2, Hd2, e2, st2, r2, q2⟩ => ?_
  exact ⟨x :: xs, S2, Hd2, e1.trans e2, st2, ⟨v, vs, rfl, Rp.mono e2 x v r1, r2⟩, q2⟩⟩
theorem DA.mono {R' : List D → Sto → Prop} (h : DA X es en S R) (k : ∀ d S', R d S' → R' d S') : DA X es en S R' := ⟨fun σ H Hd st re =>
  wA_mono (h σ H Hd st re) fun _ _ ⟨d, S', Hd', e', st', r, q⟩ => ⟨d, S', Hd', e', st', r, k d S' q⟩⟩
theorem de_tup {x1} (h : DA X es en S fun xs S1 => xs.length ≤ 100000 ∧ Q (.tup xs) S1) : DE X (.Tuple es x1 pos) en S Q := ⟨fun σ H Hd st re => by
  refine wE_of (pe_tup paW) ?_
  refine wA_mono (h σ H Hd st re) fun vs H1 ⟨xs, S1, Hd1, e1, st1, r1, n1, q1⟩ => ?_
  exact ⟨by rw [r1.length]; exact sz5 n1, fun p hp => .up e1 (new_tup st1 r1 hp q1)⟩⟩
theorem de_lst (h : DA X es en S fun xs S1 => xs.length ≤ 100000 ∧ Q (.lst xs) S1) : DE X (.List es pos) en S Q := ⟨fun σ H Hd st re => by
  refine wE_of (pe_lst paW) ?_
  refine wA_mono (h σ H Hd st re) fun vs H1 ⟨xs, S1, Hd1, e1, st1, r1, n1, q1⟩ => ?_
  exact ⟨by rw [r1.length]; exact sz5 n1, fun p hp => .up e1 (new_lst st1 r1 hp q1)⟩⟩
/-- a list that will be changed -/
theorem de_lstO (h : DA X es en S fun xs S1 => xs.length ≤ 100000 ∧ ∀ p, getS p S1 = none → Q (.raw (.ref p)) ((p, xs) :: S1)) : DE X (.List es pos) en S Q := ⟨fun σ H Hd st re => by
  refine wE_of (pe_lst paW) ?_
  refine wA_mono (h σ H Hd st re) fun vs H1 ⟨xs, S1, Hd1, e1, st1, r1, n1, q1⟩ => ?_
  refine ⟨by rw [r1.length]; exact sz5 n1, fun p hp => ?_⟩
  obtain ⟨g, st2⟩ := st1.laidO hp r1
  exact ⟨.raw (.ref p), _, Hd1, e1, st2, rfl, q1 p g⟩⟩
def ixP (x y : D) (S : Sto) (Q : D → Sto → Prop) : Prop := match x, y with
  | .tup l, .int i => ∃ d, atI l i = some d ∧ Q d S
  | .lst l, .int i => ∃ d, atI l i = some d ∧ Q d S
  | .raw (.ref p), .int i => ∃ l d, getS p S = some l ∧ atI l i = some d ∧ Q d S
  | _, _ => False
theorem RpL.at {K : PySem.W.Frag} {H : Hp} {l : List D} {vs : List V} {i : Int} {d : D} (h : RpL K H l vs) (e : atI l i = some d) : ∃ v, atI vs i = some v ∧ Rp K H d v := by
  unfold atI at e ⊢
  rw [h.length]
  cases q : ixN l.length i with
  | none =>
    rw [q] at e
    cases e
  | some j =>
    rw [q] at e
    exact h.get e
theorem de_ix (hs : PlainIx b := by exact fun _ _ => rfl) (h : DE X a en S fun x S1 => DE X b en S1 fun y S2 => ixP x y S2 Q) : DE X (.Subscript a b pos) en S Q := by
  refine de_two (f := fun _ _ => pure .none) (fun ha hb => pe_ix (IxR.or ix_list ix_tup) ha hb hs) (h.mono fun x S1 h1 => h1.mono fun y S2 h2 => ?_)
  intro H Hd vx vy Qv st rx ry k
  unfold ixP at h2
  split at h2
  · obtain ⟨p, xs, e1, e2, e3⟩ := rx
    obtain ⟨d, ed, q⟩ := h2
    obtain ⟨v, ev, rv⟩ := e3.at ed
    exact .inr ⟨p, xs, _, v, e1, ry, same_t st.sub e2, ev, k _ _ (.here st rv q)⟩
  · obtain ⟨p, xs, e1, e2, e3⟩ := rx
    obtain ⟨d, ed, q⟩ := h2
    obtain ⟨v, ev, rv⟩ := e3.at ed
    exact .inl ⟨p, xs, _, v, e1, ry, .of (st.sub _ _ e2), ev, k _ _ (.here st rv q)⟩
  · obtain ⟨l, d, g, ed, q⟩ := h2
    obtain ⟨_, xs, e2, e3⟩ := st.own.at g
    obtain ⟨v, ev, rv⟩ := e3.at ed
    exact .inl ⟨_, xs, _, v, rx, ry, .of e2, ev, k _ _ (.here st rv q)⟩
  · exact h2.elim
theorem ix_t {l : List D} {i : Int} {d : D} (q : Q d S) (h : atI l i = some d := by rfl) : ixP (.tup l) (.int i) S Q := ⟨d, h, q⟩
theorem ix_l {l : List D} {i : Int} {d : D} (q : Q d S) (h : atI l i = some d := by rfl) : ixP (.lst l) (.int i) S Q := ⟨d, h, q⟩
theorem ix_o {p : Addr} {l : List D} {i : Int} {d : D} (g : getS p S = some l) (q : Q d S) (h : atI l i = some d := by rfl) : ixP (.raw (.ref p)) (.int i) S Q := ⟨l, d, g, h, q⟩
/-- the part of a slice -/
def DO (X : Cx) (e : Option Expr) (en : DEnv) (S : Sto) (Q : Option Int → Prop) : Prop := match e with
  | none => Q none
  | some e => DE X e en S fun x S' => S' = S ∧ ∃ i, x = .int i ∧ Q (some i)
def cutD (l : List D) (lo hi : Option Int) : List D := (l.drop (HT.sIx l.length 0 lo)).take (HT.sIx l.length l.length hi - HT.sIx l.length 0 lo)
theorem RpL.cut {K : PySem.W.Frag} {H : Hp} {l : List D} {vs : List V} (h : RpL K H l vs) (lo hi : Option Int) : RpL K H (cutD l lo hi) (cutV vs lo hi) := by
  unfold cutD cutV
  rw [h.length]
  exact (h.drop _).take _
theorem SlR.or {r r' : V → Option Int → Option Int → Hp → VK → Prop} (h : SlR X r) (h' : SlR X r') : SlR X (fun x l u H Q => r x l u H Q ∨ r' x l u H Q) := by
  intro pins s σ H x v vl vu lo hi sl Q I rx hs pl pu q
  rcases q with q | q
  · exact h pins s σ H x v vl vu lo hi sl Q I rx hs pl pu q
  · exact h' pins s σ H x v vl vu lo hi sl Q I rx hs pl pu q
def slP (x : D) (lo hi : Option Int) (S : Sto) (Q : D → Sto → Prop) : Prop := match x with
  | .tup l => ¬ (HT.sIx l.length 0 lo = 0 ∧ HT.sIx l.length l.length hi = l.length) ∧ Q (.tup (cutD l lo hi)) S
  | .lst l => Q (.lst (cutD l lo hi)) S
  | _ => False
theorem de_slice {lo hi : Option Expr} {p2 : Pos} (h : DE X a en S fun x S1 => DO X lo en S1 fun l => DO X hi en S1 fun u => slP x l u S1 Q) : DE X (.Subscript a (.Slice lo hi none p2) pos) en S Q := ⟨fun σ H Hd st re => by
  -- each part's own reading
  have part : ∀ (o : Option Expr), ∃ t : TO, PO X o t ∧ ∀ {S : Sto} {R : Option Int → Prop} (H Hd : Hp), DO X o en S R → St0 X.K S Hd H → RpE X.K Hd en σ → ∀ Qo : Option Int → Hp → Prop, (∀ i H' Hd', Same Hd Hd' → St0 X.K S Hd' H' → R i → Qo i H') → t σ H Qo := by
    intro o
    cases o with
    | none => exact ⟨_, po_none, fun H Hd d st re Qo k => k none H Hd (Same.refl _) st d⟩
    | some e =>
      refine ⟨_, po_some peW, fun {S R} H Hd d st re Qo k => ?_⟩
      have d : DE X e en S fun x S' => S' = S ∧ ∃ i, x = .int i ∧ R (some i) := d
      show wE X e σ H _
      refine wE_mono (d σ H Hd st re) fun v H1 ⟨x, S1, Hd1, e1, st1, r1, eS, i, ex, q⟩ => ?_
      subst ex eS
      exact ⟨i, r1, k (some i) H1 Hd1 e1 st1 q⟩
  obtain ⟨tl, pl, kl⟩ := part lo
  obtain ⟨th, ph, kh⟩ := part hi
  refine wE_of (pe_slice (SlR.or sl_list sl_tup) peW pl ph) ?_
  refine wE_mono (h σ H Hd st re) fun v H1 ⟨x, S1, Hd1, e1, st1, r1, q1⟩ => ?_
  refine kl H1 Hd1 q1 st1 (re.mono e1) _ fun l H2 Hd2 e2 st2 q2 => ?_
  refine kh H2 Hd2 q2 st2 (re.mono (e1.trans e2)) _ fun u H3 Hd3 e3 st3 q3 => ?_
  have r3 := Rp.mono (e2.trans e3) x v r1
  unfold slP at q3
  split at q3
  · obtain ⟨p, xs, f1, f2, f3⟩ := r3
    refine .inr ⟨p, xs, f1, same_t st3.sub f2, ?_, fun a ha => .up ((e1.trans e2).trans e3) (new_tup st3 (f3.cut l u) ha q3.2)⟩
    rw [f3.length]
    exact q3.1
  · obtain ⟨p, xs, f1, f2, f3⟩ := r3
    exact .inl ⟨p, xs, f1, .of (st3.sub _ _ f2), fun a ha => .up ((e1.trans e2).trans e3) (new_lst st3 (f3.cut l u) ha q3)⟩
  · exact q3.elim⟩
end
end DL
namespace DL
open PySem PySem.Spec PyProof.Rows L2

/-! ### promises of defs that may show data (repr): nothing is being shown around them -/
structure GOk (P : Program) (w : World) (K : PySem.W.Frag) (mg : Str → Option Value) (base : Heap) (k : Nat) (f : Addr) (fd : FuncData) (ps : List Str) (sp : Sp) : Prop where
  len : ∀ vs H Q E, sp vs H Q E → vs.length = ps.length
  run : ∀ (A : Around) (fr : List Env) (s : Shared) (H : Hp) (ar : Args) (us : List Value) (vs : List V) (Q : VK) (E : XK), A.guards = some [] → Room k A →
    Env0 P w K mg base A fr s H → BindsTo s fd ar (ps.zip us) → Vals vs us → sp vs H Q E → codeAny (model P w) A (.call (.ref f) ar) (CR CX0 fr P w H s Q E) s
section
variable {P : Program} {w : World} {K : PySem.W.Frag} {mg : Str → Option Value} {base : Heap}
/-- a def of the text keeps its promise, by its body -/
theorem gok_of {k : Nat} {x qual : Str} {st : Stmt} {f : Addr} {fd : FuncData} {N ps : List Str} {sp : Sp} (F : Fun K x qual st f fd) (S : FnScope N ps (defScope st)) (ln : ∀ vs H Q E, sp vs H Q E → vs.length = ps.length)
    (body : ∀ (cdv : Value) (A : Around) (fr : List Env) (s : Shared) (H : Hp) (vs : List V) (Q : VK) (E : XK), (A.deeper (envOfC qual (defScope st) s.heap.objs.size f cdv)).guards = some [] → Room k (A.deeper (envOfC qual (defScope st) s.heap.objs.size f cdv)) → sp vs H Q E →
      wSs (cxOf CX0 P w K mg base N qual (defScope st) f cdv A fr s H E).nox (defBody st) { nx := fun _ H' => Q .non H', rt := Q } (start N vs) H) : GOk P w K mg base (k + 1) f fd ps sp := by
  obtain ⟨oc, od, kV, doc, pm, an, cdv, ct, osl, rfl, lk, hcd⟩ := F.ex
  refine ⟨ln, fun A fr s H ar us vs Q E gd hr e0 hb r hsp => ?_⟩
  have long := ln _ _ _ _ hsp
  have KX : K.In s.heap := e0.mod.kin.keeps fun b o e => (e0.bs b o e).1
  have free : s.heap.NoLimit := e0.mod.nolimit.keeps fun b o e => (e0.bs b o e).1
  refine codeAny_call_function hr.depth (KX _ _ lk) rfl S.co S.gen rfl (PySem.W.codeRec_of KX hcd) (hb _ _ _ _ ?_)
  refine wpAny_newFunctionEnv_cells S.kind (fun y hy => ?_) fun env he s1 xx => ?_
  · obtain ⟨n, v⟩ := y
    rcases S.par n (List.of_mem_zip hy).1 with z | z
    · exact .inl z
    · exact .inr ⟨z, PySem.W.cellsFrom_some _ _ _ (.inl z)⟩
  subst he
  refine ⟨free.keeps xx.toInCall.keep, codeAny_func ?_⟩
  have J : Inv (cxOf CX0 P w K mg base N qual (defScope st) f cdv A fr s H E) [] (start N vs) H s1 := inv_start S hr.hd e0 long r xx
  have run := (pssW (X := (cxOf CX0 P w K mg base N qual (defScope st) f cdv A fr s H E).nox) (sts := defBody st)).nox.run [] s1 (start N vs) H _ J (body cdv A fr s H vs Q E gd (hr.deeper _) hsp)
  refine wpAny_mono run (fun fl s' hs => ?_) fun e s' hs => hs
  have out : ∀ {σ' : L2.St} {H' : Hp} {v : V} {u : Value}, Inv (cxOf CX0 P w K mg base N qual (defScope st) f cdv A fr s H E) [] σ' H' s' → RelV v u → Q v H' → CE fr P w H s Q u s' :=
    fun {σ' H' v u} I rv q => ⟨v, H', I.os, I.bare, I.base, I.hok, rv, q⟩
  cases fl with
  | ret u =>
    obtain ⟨v, σ', H', I, rv, q⟩ := hs
    exact out I rv q
  | next =>
    obtain ⟨σ', H', I, q⟩ := hs
    exact out (v := V.non) (u := Value.none) I rfl q
  | brk => exact hs.elim fun _ h => h.elim fun _ h => h.2.elim
  | cont => exact hs.elim fun _ h => h.elim fun _ h => h.2.elim
end

/-! ### what a def does to data -/
abbrev Con := List D → Sto → (D → Sto → Prop) → Prop
def spD (K : PySem.W.Frag) (C : Con) : Sp := fun vs H Q _ => ∃ (ds : List D) (S : Sto) (Hd : Hp) (Qd : D → Sto → Prop), RpL K Hd ds vs ∧ St0 K S Hd H ∧ C ds S Qd ∧
  ∀ d S' v H' Hd', Qd d S' → Same Hd Hd' → St0 K S' Hd' H' → Rp K Hd' d v → Q v H'
/-- the values in the parameters' order, the named ones by their names -/
def ordV {α : Type} (df : α) (names ks : List Str) (zs : List α) : List α := names.map fun x => ((ks.zip zs).lookup x).getD df
/-- how such a call's arguments are bound: n of them by position -/
def KwOk (fd : FuncData) (ps : List Str) (p : Nat × List Str) : Prop := p.1 + p.2.length = ps.length ∧ (∀ y ∈ ps.drop p.1, y ∈ p.2) ∧
  ∀ us ws : List Value, us.length = p.1 → ws.length = p.2.length → bindArgs fd ⟨us, p.2.zip ws⟩ = pure (ps.zip (us ++ ordV .none (ps.drop p.1) p.2 ws))
/-- a def that stands in the module under the name x, with its promise -/
structure Cal (P : Program) (w : World) (K : PySem.W.Frag) (mg : Str → Option Value) (base : Heap) (k : Nat) (x : Str) (ps : List Str) (kws : List (Nat × List Str)) (C : Con) : Prop where
  ex : ∃ (f : Addr) (fd : FuncData), GOk P w K mg base k f fd ps (spD K C) ∧ mg x = some (.ref f) ∧ PySem.W.keepIn K (.ref f) = true ∧
    (∀ us : List Value, us.length = ps.length → bindArgs fd ⟨us, []⟩ = pure (ps.zip us)) ∧ ∀ p ∈ kws, KwOk fd ps p
theorem RpL.vals {K : PySem.W.Frag} {H : Hp} {ds : List D} {vs : List V} (h : RpL K H ds vs) : vs.length = ds.length := h.length
theorem lookup_rp {K : PySem.W.Frag} {H : Hp} {y : Str} : ∀ {ks : List Str} {ds : List D} {vs : List V}, RpL K H ds vs → ks.length = ds.length → y ∈ ks → Rp K H (((ks.zip ds).lookup y).getD .non) (((ks.zip vs).lookup y).getD .non)
  | [], _, _, _, _, hy => nomatch hy
  | k :: ks, [], _, _, e, _ => by simp at e
  | k :: ks, d :: ds, _, h, e, hy => by
    obtain ⟨x, xs, rfl, h1, h2⟩ := h
    show Rp K H ((((k, d) :: ks.zip ds).lookup y).getD .non) ((((k, x) :: ks.zip xs).lookup y).getD .non)
    rw [List.lookup_cons, List.lookup_cons]
    cases q : (y == k) with
    | true => exact h1
    | false =>
      have ne : ¬ y = k := fun z => by
        rw [z] at q
        simp at q
      rcases List.mem_cons.mp hy with z | z
      · exact absurd z ne
      · exact lookup_rp h2 (by simpa using e) z
theorem lookup_vals {y : Str} : ∀ {ks : List Str} {vs : List V} {ws : List Value}, Vals vs ws → ks.length = vs.length → y ∈ ks → RelV (((ks.zip vs).lookup y).getD .non) (((ks.zip ws).lookup y).getD .none)
  | [], _, _, _, _, hy => nomatch hy
  | k :: ks, _, _, .nil, e, _ => by simp at e
  | k :: ks, _, _, .cons (a := a) (b := b) (l₁ := l1) (l₂ := l2) h1 h2, e, hy => by
    show RelV ((((k, a) :: ks.zip l1).lookup y).getD .non) ((((k, b) :: ks.zip l2).lookup y).getD .none)
    rw [List.lookup_cons, List.lookup_cons]
    cases q : (y == k) with
    | true => exact h1
    | false =>
      have ne : ¬ y = k := fun z => by
        rw [z] at q
        simp at q
      rcases List.mem_cons.mp hy with z | z
      · exact absurd z ne
      · exact lookup_vals h2 (by simpa using e) z
theorem ord_rp {K : PySem.W.Frag} {H : Hp} {ks : List Str} {ds : List D} {vs : List V} (h : RpL K H ds vs) (e : ks.length = ds.length) : ∀ {names : List Str}, (∀ y ∈ names, y ∈ ks) → RpL K H (ordV .non names ks ds) (ordV .non names ks vs)
  | [], _ => rfl
  | n :: ns, hm => ⟨_, _, rfl, lookup_rp h e (hm n List.mem_cons_self), ord_rp h e fun y hy => hm y (List.mem_cons_of_mem _ hy)⟩
theorem ord_vals {ks : List Str} {vs : List V} {ws : List Value} (h : Vals vs ws) (e : ks.length = vs.length) : ∀ {names : List Str}, (∀ y ∈ names, y ∈ ks) → Vals (ordV .non names ks vs) (ordV .none names ks ws)
  | [], _ => .nil
  | n :: ns, hm => .cons (lookup_vals h e (hm n List.mem_cons_self)) (ord_vals h e fun y hy => hm y (List.mem_cons_of_mem _ hy))

/-! ### calls -/
def wK (X : Cx) (kws : List Keyword) : TA := fun σ H Q => ∀ (pos : Pos) pins s, Inv X pins σ H s → wpAny (model X.prog X.w) X.A (evalAll ((backToKw pos (keywordEach kws X.env)).map (·.2))) (AP X pins σ Q) X.xe s
structure DK (X : Cx) (kws : List Keyword) (en : DEnv) (S : Sto) (Q : List D → Sto → Prop) : Prop where
  run : ∀ (σ : L2.St) (H Hd : Hp), St0 X.K S Hd H → RpE X.K Hd en σ → wK X kws σ H (QA X.K Hd Q)
instance {X : Cx} {kws : List Keyword} {en : DEnv} {S : Sto} {Q : List D → Sto → Prop} : CoeFun (DK X kws en S Q) (fun _ => ∀ (σ : L2.St) (H Hd : Hp), St0 X.K S Hd H → RpE X.K Hd en σ → wK X kws σ H (QA X.K Hd Q)) := ⟨fun h => h.run⟩
section
variable {X : Cx} {a b c e : Expr} {es : List Expr} {kwl : List Keyword} {en : DEnv} {S : Sto} {Q : D → Sto → Prop} {R : List D → Sto → Prop} {pos p kpos : Pos} {k : Nat} {x : Str} {ps ks : List Str} {kws : List (Nat × List Str)} {C : Con}
theorem pkW : PK X kwl (wK X kwl) := ⟨fun pos pins s _ _ _ I h => h pos pins s I⟩
theorem wK_of {t : TA} {σ : L2.St} {H : Hp} {Q : List V → Hp → Prop} (h : PK X kwl t) (q : t σ H Q) : wK X kwl σ H Q := fun pos pins s I => h.run pos pins s σ H Q I q
theorem wK_mono {σ : L2.St} {H : Hp} {Q Q' : List V → Hp → Prop} (h : wK X kwl σ H Q) (k : ∀ v H', Q v H' → Q' v H') : wK X kwl σ H Q' := fun pos pins s I =>
  thn (h pos pins s I) fun _ _ ⟨v, H', I', r, q⟩ => ⟨v, H', I', r, k v H' q⟩
theorem dk_nil (q : R [] S) : DK X [] en S R := ⟨fun σ H Hd st _ => wK_of pk_nil ⟨[], S, Hd, Same.refl _, st, rfl, q⟩⟩
theorem dk_cons {nm : Option Str} (h : DE X e en S fun x S1 => DK X kwl en S1 fun xs S2 => R (x :: xs) S2) (hp : PK X (⟨nm, e, kpos⟩ :: kwl) (tCons (wE X e) (wK X kwl)) := by exact pk_cons peW pkW) : DK X (⟨nm, e, kpos⟩ :: kwl) en S R := ⟨fun σ H Hd st re => by
  refine wK_of hp ?_
  refine wE_mono (h σ H Hd st re) fun v H1 ⟨x, S1, Hd1, e1, st1, r1, q1⟩ => ?_
  refine wK_mono (q1 σ H1 Hd1 st1 (re.mono e1)) fun vs H2 ⟨xs, S2, Hd2, e2, st2, r2, q2⟩ => ?_
  exact ⟨x :: xs, S2, Hd2, e1.trans e2, st2, ⟨v, vs, rfl, Rp.mono e2 x v r1, r2⟩, q2⟩⟩
/-- the callee runs -/
theorem run_cal (c : Cal X.prog X.w X.K X.mg X.base k x ps kws C) (gd : X.A.guards = some []) (hr : Room k X.A) : ∃ f : Addr, X.mg x = some (.ref f) ∧ PySem.W.keepIn X.K (.ref f) = true ∧
    (∀ {pins : List (Addr × Obj)} {σ : L2.St} {H Hd : Hp} {s : Shared} {us : List Value} {vs : List V} {ds : List D} {S : Sto} {Q : D → Sto → Prop} {Qv : VK}, Inv X pins σ H s → Vals vs us → RpL X.K Hd ds vs → St0 X.K S Hd H → C ds S Q → (∀ v H', QD X.K Hd Q v H' → Qv v H') →
      wpAny (model X.prog X.w) X.A (call (.ref f) us) (EP X pins σ Qv) X.xe s) ∧
    ∀ (n : Nat) (ks : List Str), (n, ks) ∈ kws → ∀ {pins : List (Addr × Obj)} {σ : L2.St} {H Hd : Hp} {s : Shared} {us ws : List Value} {vs zs : List V} {ds fs : List D} {S : Sto} {Q : D → Sto → Prop} {Qv : VK}, Inv X pins σ H s → Vals vs us → Vals zs ws → us.length = n → ws.length = ks.length →
      RpL X.K Hd ds vs → RpL X.K Hd fs zs → St0 X.K S Hd H → C (ds ++ ordV .non (ps.drop n) ks fs) S Q → (∀ v H', QD X.K Hd Q v H' → Qv v H') → wpAny (model X.prog X.w) X.A (call (.ref f) us (ks.zip ws)) (EP X pins σ Qv) X.xe s := by
  obtain ⟨f, fd, G, hm, hk, hb, hkw⟩ := c.ex
  refine ⟨f, hm, hk, fun {pins σ H Hd s us vs ds S Q Qv} I r rd st q kq => ?_, fun n ks hn {pins σ H Hd s us ws vs zs ds fs S Q Qv} I r rz ln lw rd rf st q kq => ?_⟩
  · have hs : spD X.K C vs H Qv E0 := ⟨ds, S, Hd, Q, rd, st, q, fun d S' v H' Hd' z1 z2 z3 z4 => kq v H' ⟨d, S', Hd', z2, z3, z4, z1⟩⟩
    have hl : us.length = ps.length := by rw [← r.length]; exact G.len _ _ _ _ hs
    refine wpAny_call (codeAny_mono (G.run X.A X.stack s H ⟨us, []⟩ us vs Qv E0 gd hr I.env0 (.of_eq (hb us hl)) r hs) fun res s' hq => ?_)
    cases res with
    | error e => exact hq.elim
    | ok fl =>
      cases fl with
      | ret u => exact I.after hq
      | next => exact hq.elim
      | brk => exact hq.elim
      | cont => exact hq.elim
  · obtain ⟨k1, k2, k3⟩ := hkw _ hn
    have lz : ks.length = zs.length := by rw [rz.length]; exact lw.symm
    have lf : ks.length = fs.length := by rw [lz, rf.length]
    have hs : spD X.K C (vs ++ ordV .non (ps.drop n) ks zs) H Qv E0 := ⟨_, S, Hd, Q, rd.append (ord_rp rf lf k2), st, q, fun d S' v H' Hd' z1 z2 z3 z4 => kq v H' ⟨d, S', Hd', z2, z3, z4, z1⟩⟩
    refine wpAny_call (codeAny_mono (G.run X.A X.stack s H ⟨us, ks.zip ws⟩ (us ++ ordV .none (ps.drop n) ks ws) _ Qv E0 gd hr I.env0 (.of_eq (k3 us ws ln lw)) (r.append (ord_vals rz lz k2)) hs) fun res s' hq => ?_)
    cases res with
    | error e => exact hq.elim
    | ok fl =>
      cases fl with
      | ret u => exact I.after hq
      | next => exact hq.elim
      | brk => exact hq.elim
      | cont => exact hq.elim
/-- f(e, ..) -/
theorem de_call (c : Cal X.prog X.w X.K X.mg X.base k x ps kws C) (gd : X.A.guards = some []) (hr : Room k X.A) (h : DA X (e :: es) en S fun ds S1 => C ds S1 Q) (hg : Gl X x := by rfl)
    (hdb : (x == ("__debug__" : Str)) = false := by decide) (he : starEach (e :: es) X.env = (false, eval e X.env) :: starEach es X.env := by rfl) (hpl : (backTo pos (starEach es X.env)).any (·.1) = false := by rfl) : DE X (.Call (.Name x p) (e :: es) [] pos) en S Q := by
  refine ⟨fun σ H Hd st re => ?_⟩
  intro pins s I
  obtain ⟨f, hm, hk, run, _⟩ := run_cal c gd hr
  refine wpAny_Call_Name_kw (ld_glob I hg hm ?_ hdb)
  refine PySem.W.callWith_K (h₀ := X.base) I.ok.mod.kin hk (thn (h σ H Hd st re pos pins s I) fun us s1 ⟨vs, H1, I1, r, ds, S1, Hd1, e1, st1, r1, q1⟩ => ⟨I1.kIn, ?_⟩) he hpl
  exact run I1 r r1 st1 q1 fun v H' z => .up e1 z
/-- f(k = v, ..) -/
theorem de_callN (c : Cal X.prog X.w X.K X.mg X.base k x ps kws C) (gd : X.A.guards = some []) (hr : Room k X.A) (hn : (0, ks) ∈ kws) (h : DK X kwl en S fun zs S1 => zs.length = ks.length ∧ C (ordV .non ps ks zs) S1 Q) (hg : Gl X x := by rfl)
    (hall : (backToKw pos (keywordEach kwl X.env)).all (·.1.isSome) = true := by rfl) (hks : (backToKw pos (keywordEach kwl X.env)).filterMap (·.1) = ks := by rfl) (hdb : (x == ("__debug__" : Str)) = false := by decide)
    (hpl : ((backTo pos (starEach [] X.env)).any (·.1) || (backToKw pos (keywordEach kwl X.env)).any (·.1.isNone)) = false := by rfl) : DE X (.Call (.Name x p) [] kwl pos) en S Q := by
  refine ⟨fun σ H Hd st re => ?_⟩
  intro pins s I
  obtain ⟨f, hm, hk, _, run⟩ := run_cal c gd hr
  refine wpAny_Call_Name_kw (ld_glob I hg hm ?_ hdb)
  refine PySem.W.callWith_KW0 (h₀ := X.base) I.ok.mod.kin hk hall (thn (h σ H Hd st re pos pins s I) fun ws s1 ⟨zs, H1, I1, rz, fs, S1, Hd1, e1, st1, r1, l1, q1⟩ => ⟨I1.kIn, ?_⟩) hpl
  rw [hks]
  exact run 0 ks hn (us := []) (vs := []) (ds := []) I1 .nil rz rfl (by rw [← rz.length, r1.length, l1]) rfl r1 st1 q1 fun v H' z => .up e1 z
/-! ### built-ins -/
def DRC (K : PySem.W.Frag) (r : List V → Hp → VK → Prop) (ds : List D) (S : Sto) (Q : D → Sto → Prop) : Prop :=
  ∀ (H Hd : Hp) (vs : List V) (Qv : VK), St0 K S Hd H → RpL K Hd ds vs → (∀ v H', QD K Hd Q v H' → Qv v H') → r vs H Qv
variable {id T : String} {r : List V → Hp → VK → Prop}
theorem de_B (hc : CallR X (.builtin id) r) (hm : X.mg x = none) (hv : bootBuiltins x = some (.builtin id)) (h : DA X (e :: es) en S fun ds S1 => DRC X.K r ds S1 Q) (hg : Gl X x := by rfl) (hn : x ≠ "__name__" := by decide) (hdb : (x == ("__debug__" : Str)) = false := by decide)
    (he : starEach (e :: es) X.env = (false, eval e X.env) :: starEach es X.env := by rfl) (hpl : (backTo pos (starEach es X.env)).any (·.1) = false := by rfl) : DE X (.Call (.Name x p) (e :: es) [] pos) en S Q := ⟨fun σ H Hd st re => by
  refine wE_of (pe_callB hc hg hm hv paW hn hdb he hpl) ?_
  exact wA_mono (h σ H Hd st re) fun vs H1 ⟨ds, S1, Hd1, e1, st1, r1, q1⟩ => q1 H1 Hd1 vs _ st1 r1 fun v H' z => .up e1 z⟩
theorem de_T (hc : CallR X (.type T) r) (hm : X.mg x = none) (hv : bootBuiltins x = some (.type T)) (h : DA X (e :: es) en S fun ds S1 => DRC X.K r ds S1 Q) (hg : Gl X x := by rfl) (hn : x ≠ "__name__" := by decide) (hdb : (x == ("__debug__" : Str)) = false := by decide)
    (he : starEach (e :: es) X.env = (false, eval e X.env) :: starEach es X.env := by rfl) (hpl : (backTo pos (starEach es X.env)).any (·.1) = false := by rfl) : DE X (.Call (.Name x p) (e :: es) [] pos) en S Q := ⟨fun σ H Hd st re => by
  refine wE_of (pe_callTy hc hg hm hv paW hn hdb he hpl) ?_
  exact wA_mono (h σ H Hd st re) fun vs H1 ⟨ds, S1, Hd1, e1, st1, r1, q1⟩ => q1 H1 Hd1 vs _ st1 r1 fun v H' z => .up e1 z⟩
theorem one_rp {K : PySem.W.Frag} {H : Hp} {d : D} {vs : List V} (h : RpL K H [d] vs) : ∃ v, vs = [v] ∧ Rp K H d v := by
  obtain ⟨v, vs', e1, rv, e2⟩ := h
  have e2 : vs' = [] := e2
  subst e2
  exact ⟨v, e1, rv⟩
theorem two_rp {K : PySem.W.Frag} {H : Hp} {d e : D} {vs : List V} (h : RpL K H [d, e] vs) : ∃ v w, vs = [v, w] ∧ Rp K H d v ∧ Rp K H e w := by
  obtain ⟨v, vs', e1, rv, e2⟩ := h
  obtain ⟨w, e3, rw'⟩ := one_rp e2
  subst e3
  exact ⟨v, w, e1, rv, rw'⟩
variable {K : PySem.W.Frag}
theorem drc_abs {i : Int} (q : Q (.int (if i < 0 then -i else i)) S) : DRC K (fun xs H Q => ∃ i, xs = [.int i] ∧ Q (.int (if i < 0 then -i else i)) H) [.int i] S Q := fun H Hd vs Qv st rr k => by
  obtain ⟨v, e1, rv⟩ := one_rp rr
  have rv : v = V.int i := rv
  subst e1 rv
  exact ⟨i, rfl, k _ _ (.here (d := .int _) st rfl q)⟩
theorem drc_int {i : Int} (q : Q (.int i) S) : DRC K (fun xs H Q => (∃ i, xs = [.int i] ∧ Q (.int i) H) ∨ ∃ k, xs = [.bl k] ∧ Q (.int (if k then 1 else 0)) H) [.int i] S Q := fun H Hd vs Qv st rr k => by
  obtain ⟨v, e1, rv⟩ := one_rp rr
  have rv : v = V.int i := rv
  subst e1 rv
  exact .inl ⟨i, rfl, k _ _ (.here (d := .int _) st rfl q)⟩
theorem drc_intb {i : Bool} (q : Q (.int (if i then 1 else 0)) S) : DRC K (fun xs H Q => (∃ i, xs = [.int i] ∧ Q (.int i) H) ∨ ∃ k, xs = [.bl k] ∧ Q (.int (if k then 1 else 0)) H) [.bl i] S Q := fun H Hd vs Qv st rr k => by
  obtain ⟨v, e1, rv⟩ := one_rp rr
  have rv : v = V.bl i := rv
  subst e1 rv
  exact .inr ⟨i, rfl, k _ _ (.here (d := .int _) st rfl q)⟩
theorem drc_max {i j : Int} (q : Q (.int (if j > i then j else i)) S) : DRC K (fun xs H Q => ∃ i j, xs = [.int i, .int j] ∧ Q (.int (if j > i then j else i)) H) [.int i, .int j] S Q := fun H Hd vs Qv st rr k => by
  obtain ⟨v, w, e1, rv, rw'⟩ := two_rp rr
  have rv : v = V.int i := rv
  have rw' : w = V.int j := rw'
  subst e1 rv rw'
  exact ⟨i, j, rfl, k _ _ (.here (d := .int _) st rfl q)⟩
theorem drc_min {i j : Int} (q : Q (.int (if j < i then j else i)) S) : DRC K (fun xs H Q => ∃ i j, xs = [.int i, .int j] ∧ Q (.int (if j < i then j else i)) H) [.int i, .int j] S Q := fun H Hd vs Qv st rr k => by
  obtain ⟨v, w, e1, rv, rw'⟩ := two_rp rr
  have rv : v = V.int i := rv
  have rw' : w = V.int j := rw'
  subst e1 rv rw'
  exact ⟨i, j, rfl, k _ _ (.here (d := .int _) st rfl q)⟩
/-- math.gcd -/
theorem de_gcd {gx : Str} (hm : X.mg gx = some (.builtin "math.gcd")) (h : DA X [a, b] en S fun ds S1 => ∃ i j : Int, ds = [.int i, .int j] ∧ Q (.int ((Nat.gcd i.natAbs j.natAbs : Nat) : Int)) S1) (hg : Gl X gx := by rfl) (hn : gx ≠ "__name__" := by decide) (hdb : (gx == ("__debug__" : Str)) = false := by decide)
    (he : starEach (a :: [b]) X.env = (false, eval a X.env) :: starEach [b] X.env := by rfl) (hpl : (backTo pos (starEach [b] X.env)).any (·.1) = false := by rfl) : DE X (.Call (.Name gx p) [a, b] [] pos) en S Q := ⟨fun σ H Hd st re => by
  refine wE_of (pe_callBfun cr_gcd hg hm paW (hdb := hdb) (he := he) (hpl := hpl)) ?_
  refine wA_mono (h σ H Hd st re) fun vs H1 ⟨ds, S1, Hd1, e1, st1, r1, i, j, e2, q⟩ => ?_
  subst e2
  obtain ⟨v, vs', e3, rv, w, vs2, e4, rw', e5⟩ := r1
  have e5 : vs2 = [] := e5
  subst e3 e4 e5
  exact ⟨i, j, by rw [show v = V.int i from rv, show w = V.int j from rw'], .up e1 (.here (d := .int _) st1 rfl q)⟩⟩
/-- len -/
def lenP (d : D) (S : Sto) (Q : D → Sto → Prop) : Prop := match d with
  | .tup l => Q (.int (l.length : Int)) S
  | .lst l => Q (.int (l.length : Int)) S
  | .scr l => Q (.int (l.length : Int)) S
  | .raw (.ref p) => ∃ l, getS p S = some l ∧ Q (.int (l.length : Int)) S
  | _ => False
theorem drc_len {d : D} (q : lenP d S Q) : DRC K (fun xs H Q => ∃ p ys, xs = [.ref p] ∧ (SqL K H p ys ∨ SqT K H p ys) ∧ Q (.int ys.length) H) [d] S Q := fun H Hd vs Qv st rr k => by
  obtain ⟨v, e1, rv⟩ := one_rp rr
  subst e1
  unfold lenP at q
  split at q
  · obtain ⟨a, xs, f1, f2, f3⟩ := rv
    exact ⟨a, xs, by rw [f1], .inr (same_t st.sub f2), by rw [f3.length]; exact k _ _ (.here (d := .int _) st rfl q)⟩
  · obtain ⟨a, xs, f1, f2, f3⟩ := rv
    exact ⟨a, xs, by rw [f1], .inl (.of (st.sub _ _ f2)), by rw [f3.length]; exact k _ _ (.here (d := .int _) st rfl q)⟩
  · rename_i l
    obtain ⟨a, f1, f2⟩ := rv
    exact ⟨a, l.map V.int, by rw [f1], .inl (same_l st.sub f2), by rw [List.length_map]; exact k _ _ (.here (d := .int _) st rfl q)⟩
  · rename_i a
    obtain ⟨l, g, q⟩ := q
    obtain ⟨_, xs, f2, f3⟩ := st.own.at g
    exact ⟨a, xs, by rw [show v = V.ref a from rv], .inl (.of f2), by rw [f3.length]; exact k _ _ (.here (d := .int _) st rfl q)⟩
  · exact q.elim
/-- tuple(list) -/
theorem drc_tuple {l : List D} (q : Q (.tup l) S) : DRC K (fun xs H Q => ∃ p ys, xs = [.ref p] ∧ ((SqL K H p ys ∧ ∀ l, H l = none → Q (.ref l) (upd H l (.tup ys))) ∨ (SqT K H p ys ∧ Q (.ref p) H))) [.lst l] S Q := fun H Hd vs Qv st rr k => by
  obtain ⟨v, e1, a, xs, f1, f2, f3⟩ := one_rp rr
  subst e1 f1
  exact ⟨a, xs, rfl, .inl ⟨.of (st.sub _ _ f2), fun p hp => k _ _ (new_tup st f3 hp q)⟩⟩
theorem drc_tupleO {p : Addr} {l : List D} (g : getS p S = some l) (q : Q (.tup l) S) : DRC K (fun xs H Q => ∃ p ys, xs = [.ref p] ∧ ((SqL K H p ys ∧ ∀ l, H l = none → Q (.ref l) (upd H l (.tup ys))) ∨ (SqT K H p ys ∧ Q (.ref p) H))) [.raw (.ref p)] S Q := fun H Hd vs Qv st rr k => by
  obtain ⟨v, e1, f1⟩ := one_rp rr
  have f1 : v = V.ref p := f1
  subst e1 f1
  obtain ⟨_, xs, f2, f3⟩ := st.own.at g
  exact ⟨p, xs, rfl, .inl ⟨.of f2, fun p hp => k _ _ (new_tup st f3 hp q)⟩⟩
end

/-! ### repr -/
mutual
/-- data that is shown: ints of less than 1900 bits, plain texts, not too many things -/
def shoP : D → Prop
  | .int i => i.natAbs < 2 ^ 1900
  | .str x => (x.cps.toList.all fun c => decide (c < 16 ^ 8)) = true
  | .tup l => shoL l
  | .lst l => shoL l
  | .scr _ => False
  | .raw _ => False
  | .ext _ => False
  | .non => True
  | .bl _ => True
def shoL : List D → Prop
  | [] => True
  | d :: ds => shoP d ∧ shoL ds
end
theorem digits_le {i : Int} (h : i.natAbs < 2 ^ 1900) : ((PyData.shown (.int i)).length ≤ 1921) ∧ i.natAbs.log2 < 1920 := by
  have h2 : i.natAbs.log2 < 1920 := Nat.lt_of_lt_of_le (PySem.Flt.log2_lt_of (by decide) h) (by decide)
  exact ⟨int_text_len_1921 h2, h2⟩
mutual
/-- how many things -/
def bigD : D → Nat
  | .str x => x.cps.size
  | .tup l => bigL l
  | .lst l => bigL l
  | _ => 0
def bigL : List D → Nat
  | [] => 0
  | d :: ds => bigD d + 1 + bigL ds
end
section
variable {X : Cx}
end
end DL
namespace DL
open PySem PySem.Spec PyProof.Rows L2

/-! ### statements -/
structure Dn where
  nx : DEnv → Sto → Prop
  rt : D → Sto → Prop
  bk : DEnv → Sto → Prop := fun _ _ => False
  ct : DEnv → Sto → Prop := fun _ _ => False
structure Lift (K : PySem.W.Frag) (Hd : Hp) (Z : Dn) (De : Ends) : Prop where
  nx : ∀ en S σ H Hd', Same Hd Hd' → St0 K S Hd' H → RpE K Hd' en σ → Z.nx en S → De.nx σ H
  rt : ∀ d S v H Hd', Same Hd Hd' → St0 K S Hd' H → Rp K Hd' d v → Z.rt d S → De.rt v H
  bk : ∀ en S σ H Hd', Same Hd Hd' → St0 K S Hd' H → RpE K Hd' en σ → Z.bk en S → De.bk σ H
  ct : ∀ en S σ H Hd', Same Hd Hd' → St0 K S Hd' H → RpE K Hd' en σ → Z.ct en S → De.ct σ H
theorem Lift.up {K : PySem.W.Frag} {Hd Hd' : Hp} {Z : Dn} {De : Ends} (e : Same Hd Hd') (l : Lift K Hd Z De) : Lift K Hd' Z De :=
  ⟨fun en S σ H H2 k => l.nx en S σ H H2 (e.trans k), fun d S v H H2 k => l.rt d S v H H2 (e.trans k), fun en S σ H H2 k => l.bk en S σ H H2 (e.trans k), fun en S σ H H2 k => l.ct en S σ H H2 (e.trans k)⟩
structure DS1 (X : Cx) (st : Stmt) (en : DEnv) (S : Sto) (Z : Dn) : Prop where
  run : ∀ (σ : L2.St) (H Hd : Hp), St0 X.K S Hd H → RpE X.K Hd en σ → ∀ De : Ends, Lift X.K Hd Z De → wS X st De σ H
instance {X : Cx} {st : Stmt} {en : DEnv} {S : Sto} {Z : Dn} : CoeFun (DS1 X st en S Z) (fun _ => ∀ (σ : L2.St) (H Hd : Hp), St0 X.K S Hd H → RpE X.K Hd en σ → ∀ De : Ends, Lift X.K Hd Z De → wS X st De σ H) := ⟨fun h => h.run⟩
structure DS (X : Cx) (sts : List Stmt) (en : DEnv) (S : Sto) (Z : Dn) : Prop where
  run : ∀ (σ : L2.St) (H Hd : Hp), St0 X.K S Hd H → RpE X.K Hd en σ → ∀ De : Ends, Lift X.K Hd Z De → wSs X sts De σ H
instance {X : Cx} {sts : List Stmt} {en : DEnv} {S : Sto} {Z : Dn} : CoeFun (DS X sts en S Z) (fun _ => ∀ (σ : L2.St) (H Hd : Hp), St0 X.K S Hd H → RpE X.K Hd en σ → ∀ De : Ends, Lift X.K Hd Z De → wSs X sts De σ H) := ⟨fun h => h.run⟩
/-- a target takes data -/
structure DG (X : Cx) (tg : Expr) (d : D) (en : DEnv) (S : Sto) (N : DEnv → Sto → Prop) : Prop where
  run : ∀ (σ : L2.St) (H Hd : Hp) (v : V), St0 X.K S Hd H → RpE X.K Hd en σ → Rp X.K Hd d v →
  wG X tg v σ H fun σ' H' => ∃ en' S' Hd', Same Hd Hd' ∧ St0 X.K S' Hd' H' ∧ RpE X.K Hd' en' σ' ∧ N en' S'
instance {X : Cx} {tg : Expr} {d : D} {en : DEnv} {S : Sto} {N : DEnv → Sto → Prop} : CoeFun (DG X tg d en S N) (fun _ => ∀ (σ : L2.St) (H Hd : Hp) (v : V), St0 X.K S Hd H → RpE X.K Hd en σ → Rp X.K Hd d v →
  wG X tg v σ H fun σ' H' => ∃ en' S' Hd', Same Hd Hd' ∧ St0 X.K S' Hd' H' ∧ RpE X.K Hd' en' σ' ∧ N en' S') := ⟨fun h => h.run⟩
def wGs (X : Cx) (ts : List Expr) : TGs := fun vs σ H Q => ∀ pins s us, Inv X pins σ H s → Vals vs us →
  wpAny (model X.prog X.w) X.A (assignInOrder ((assignEach ts X.env).map (·.2)) us) (fun _ s' => ∃ σ' H', Inv X pins σ' H' s' ∧ Q σ' H') X.xe s
structure DGs (X : Cx) (ts : List Expr) (ds : List D) (en : DEnv) (S : Sto) (N : DEnv → Sto → Prop) : Prop where
  run : ∀ (σ : L2.St) (H Hd : Hp) (vs : List V), St0 X.K S Hd H → RpE X.K Hd en σ → RpL X.K Hd ds vs →
  wGs X ts vs σ H fun σ' H' => ∃ en' S' Hd', Same Hd Hd' ∧ St0 X.K S' Hd' H' ∧ RpE X.K Hd' en' σ' ∧ N en' S'
instance {X : Cx} {ts : List Expr} {ds : List D} {en : DEnv} {S : Sto} {N : DEnv → Sto → Prop} : CoeFun (DGs X ts ds en S N) (fun _ => ∀ (σ : L2.St) (H Hd : Hp) (vs : List V), St0 X.K S Hd H → RpE X.K Hd en σ → RpL X.K Hd ds vs →
  wGs X ts vs σ H fun σ' H' => ∃ en' S' Hd', Same Hd Hd' ∧ St0 X.K S' Hd' H' ∧ RpE X.K Hd' en' σ' ∧ N en' S') := ⟨fun h => h.run⟩
section
variable {X : Cx} {a b c e tg : Expr} {es ts : List Expr} {st : Stmt} {sts rest : List Stmt} {en en' : DEnv} {S : Sto} {Z : Dn} {N : DEnv → Sto → Prop} {pos pos' p2 : Pos} {x : Str} {d : D} {ds : List D}
theorem pgsW : PGs X ts (wGs X ts) := ⟨fun pins s _ _ vs us _ I r h => h pins s us I r⟩
theorem wGs_of {t : TGs} {vs : List V} {σ : L2.St} {H : Hp} {Q : L2.St → Hp → Prop} (h : PGs X ts t) (q : t vs σ H Q) : wGs X ts vs σ H Q := fun pins s us I r => h.run pins s σ H vs us Q I r q
theorem DG.mono {N' : DEnv → Sto → Prop} (h : DG X tg d en S N) (k : ∀ en' S', N en' S' → N' en' S') : DG X tg d en S N' := ⟨fun σ H Hd v st re r =>
  wG_mono (h σ H Hd v st re r) fun _ _ ⟨en', S', Hd', z1, z2, z3, q⟩ => ⟨en', S', Hd', z1, z2, z3, k _ _ q⟩⟩
theorem ds_nil (q : Z.nx en S) : DS X [] en S Z := ⟨fun σ H Hd st re De l => wSs_of pss_nil (l.nx en S σ H Hd (Same.refl _) st re q)⟩
theorem ds_cons (h : DS1 X st en S { Z with nx := fun en' S' => DS X rest en' S' Z }) : DS X (st :: rest) en S Z := ⟨fun σ H Hd s0 re De l => by
  refine wSs_of (pss_cons psW pssW) ?_
  exact h σ H Hd s0 re _ ⟨fun en' S' σ' H' Hd' z1 z2 z3 q => q σ' H' Hd' z2 z3 De (l.up z1), l.rt, l.bk, l.ct⟩⟩
/-- a changed list is changed no more -/
theorem ds_freeze (i : Nat) {p : Addr} {l : List D} {S' : Sto} (he : en[i]? = some (some (.raw (.ref p))) := by rfl) (h : DS X sts (en.set i (some (.lst l))) S' Z) (hS : S = (p, l) :: S' := by rfl) : DS X sts en S Z := ⟨fun σ H Hd st re De lf => by
  subst hS
  obtain ⟨xs, r, e1, st'⟩ := st.frozen
  obtain ⟨v, e2, rv⟩ := re.get he
  have rv : v = V.ref p := rv
  subst rv
  have re' : RpE X.K (upd Hd p (.lst xs)) (en.set i (some (.lst l))) (σ.set i (some (.ref p))) := (re.mono e1).set (d := .lst l) ⟨p, xs, rfl, upd_same, r.mono e1⟩ i
  have es : σ.set i (some (.ref p)) = σ := by
    have hi := List.getElem?_eq_some_iff.mp e2
    obtain ⟨h1, h2⟩ := hi
    rw [← h2]
    exact List.set_getElem_self h1
  rw [es] at re'
  exact h σ H _ st' re' De (lf.up e1)⟩
/-- a changed list is forgotten -/
theorem ds_forget {p : Addr} {l : List D} {S' : Sto} (h : DS X sts en S' Z) (hS : S = (p, l) :: S' := by rfl) : DS X sts en S Z := ⟨fun σ H Hd st re De lf => by
  subst hS
  exact h σ H Hd st.drop re De lf⟩
/-! ### targets -/
theorem dg_name (i : Nat) {en' : DEnv} (q : N en' S) (hN : X.N.Nodup) (hi : X.N[i]? = some x := by rfl) (hx : Loc X.env.scope x := by first | exact Or.inl rfl | exact Or.inr rfl)
    (hf : X.fn x = true ∨ X.env.scope.names.lookup x = some .local := by first | exact .inl rfl | exact .inr rfl) (he : en.set i (some d) = en' := by set_option simprocs false in dsimp only [List.set]) : DG X (.Name x pos) d en S N := ⟨fun σ H Hd v st re r =>
  wG_of (pg_name hN hi hx hf) ⟨_, S, Hd, Same.refl _, st, re.set r i, by rw [he]; exact q⟩⟩
/-- the slots written out -/
theorem ds_nrm {en' : DEnv} (h : DS X sts en' S Z) (he : en = en' := by set_option simprocs false in dsimp only [List.set]) : DS X sts en S Z := by
  rw [he]
  exact h
theorem dgs_nil (q : N en S) : DGs X [] [] en S N := ⟨fun σ H Hd vs st re r => wGs_of pgs_nil ⟨r, en, S, Hd, Same.refl _, st, re, q⟩⟩
theorem dgs_cons (h : DG X e d en S fun en1 S1 => DGs X es ds en1 S1 N) (hs : (assignEach (e :: es) X.env).map (·.2) = assign e X.env :: (assignEach es X.env).map (·.2) := by rfl) : DGs X (e :: es) (d :: ds) en S N := ⟨fun σ H Hd vs st re r => by
  obtain ⟨v, vr, e1, r1, r2⟩ := r
  subst e1
  refine wGs_of (pgs_cons pgW pgsW hs) ⟨v, vr, rfl, ?_⟩
  refine wG_mono (h σ H Hd v st re r1) fun σ1 H1 ⟨en1, S1, Hd1, z1, z2, z3, q⟩ => ?_
  intro pins s us I rr
  refine thn (q σ1 H1 Hd1 vr z2 z3 (r2.mono z1) pins s us I rr) fun _ s2 ⟨σ2, H2, I2, en2, S2, Hd2, y1, y2, y3, y4⟩ => ⟨σ2, H2, I2, en2, S2, Hd2, z1.trans y1, y2, y3, y4⟩⟩
theorem dg_tup {k : Nat} {n : Nat} (hc : X.calm = true) (hl : ds.length = n) (h : DGs X es ds en S N) (hn : (assignEach es X.env).length = n := by rfl) (hst : (assignEach es X.env).findIdx? (·.1) = none := by rfl) : DG X (.Tuple es k pos) (.tup ds) en S N := ⟨fun σ H Hd v st re r => by
  obtain ⟨a, xs, e1, e2, e3⟩ := r
  subst e1
  exact wG_of (pg_tup hc pgsW hn hst) ⟨a, xs, rfl, same_t st.sub e2, by rw [e3.length]; exact hl, h σ H Hd xs st re e3⟩⟩
theorem dg_tupL {k : Nat} {n : Nat} (hc : X.calm = true) (hl : ds.length = n) (h : DGs X es ds en S N) (pl : ∀ {t : TGs}, PGs X es t → PG X (.Tuple es k pos) (gLst X.K n t)) : DG X (.Tuple es k pos) (.lst ds) en S N := ⟨fun σ H Hd v st re r => by
  obtain ⟨a, xs, e1, e2, e3⟩ := r
  subst e1
  exact wG_of (pl pgsW) ⟨a, xs, rfl, .of (st.sub _ _ e2), by rw [e3.length]; exact hl, h σ H Hd xs st re e3⟩⟩
/-- xs[i] = .., a changed list -/
theorem dg_sub (h : DE X a en S fun o S1 => DE X b en S1 fun i S2 => ∃ (p : Addr) (k : Int) (l : List D) (j : Nat), o = .raw (.ref p) ∧ i = .int k ∧ getS p S2 = some l ∧ ixN l.length k = some j ∧ N en (setS p (l.set j d) S2))
    (ha : ∀ v, assign (.Subscript a b pos) X.env v = (do
      let ov ← holding [v] (eval a X.env)
      let iv ← holding [v, ov] (eval b X.env)
      standAt pos
      holding [v, ov, iv] (setItem ov iv v)
      release [v, ov, iv] []) := by intro _; rfl) : DG X (.Subscript a b pos) d en S N := ⟨fun σ H Hd v st re r => by
  refine wG_of (pg_sub peW peW set_list ha) ?_
  refine wE_mono (h σ H Hd st re) fun o H1 ⟨od, S1, Hd1, e1, st1, r1, q1⟩ => ?_
  refine wE_mono (q1 σ H1 Hd1 st1 (re.mono e1)) fun i H2 ⟨idd, S2, Hd2, e2, st2, r2, p, k, l, j, f1, f2, g, hj, q⟩ => ?_
  subst f1 f2
  have r1 : o = V.ref p := r1
  have r2 : i = V.int k := r2
  subst r1 r2
  obtain ⟨hd, xs, hx, rx⟩ := st2.own.at g
  have e12 := e1.trans e2
  refine ⟨p, xs, k, j, rfl, rfl, hx, by rw [rx.length]; exact hj, ?_⟩
  exact ⟨en, _, Hd2, e12, st2.written g (RpL.set (Rp.mono e12 d v r) j rx), re.mono e12, q⟩⟩
/-! ### assignments, return, if -/
theorem ds_asg (h : DE X e en S fun d S1 => DG X tg d en S1 Z.nx) (hs : swapsWithSole [tg] e pos.line X.env = pure false := by first | exact sws1 rfl | exact sw0 rfl | rfl) (hw : swappedStores [tg] e X.env = pure none := by first | exact sst rfl | rfl)
    (h1 : (assignEach [tg] X.env).map (·.2) = [assign tg X.env] := by rfl) : DS1 X (.Assign [tg] e pos) en S Z := ⟨fun σ H Hd st re De l => by
  refine wS_of (ps_asg peW pgW hs hw h1) ?_
  refine wE_mono (h σ H Hd st re) fun v H1 ⟨d, S1, Hd1, e1, st1, r1, q⟩ => ?_
  refine wG_mono (q σ H1 Hd1 v st1 (re.mono e1) r1) fun σ2 H2 ⟨en2, S2, Hd2, z1, z2, z3, z4⟩ => ?_
  exact l.nx en2 S2 σ2 H2 Hd2 (e1.trans z1) z2 z3 z4⟩
/-- a, b = x, y -/
theorem ds_par {i j : Nat} {y : Str} {px py pt : Pos} {kt k2 pt2} (hc : X.calm = true) (hN : X.N.Nodup) (hi : X.N[i]? = some x) (hj : X.N[j]? = some y) (hij : i ≠ j) (h : DA X [a, b] en S fun vs S1 => ∃ v w, vs = [v, w] ∧ Z.nx ((en.set i (some v)).set j (some w)) S1)
    (hx : X.env.scope.names.lookup x = some .local := by rfl) (hy : X.env.scope.names.lookup y = some .local := by rfl)
    (hw : swappedStores [.Tuple [.Name x px, .Name y py] kt pt] (.Tuple [a, b] k2 pt2) X.env = pure (some [x, y]) := by rfl)
    (hs : swapsWithSole [.Tuple [.Name x px, .Name y py] kt pt] (.Tuple [a, b] k2 pt2) pos.line X.env = pure false := by first | exact sws1 rfl | exact sw0 rfl | rfl) : DS1 X (.Assign [.Tuple [.Name x px, .Name y py] kt pt] (.Tuple [a, b] k2 pt2) pos) en S Z := ⟨fun σ H Hd st re De l => by
  refine wS_of (ps_par hc hN hi hj hij hx hy paW hw hs) ?_
  refine wA_mono (h σ H Hd st re) fun vs H1 ⟨ds, S1, Hd1, e1, st1, r1, v, w, e2, q⟩ => ?_
  subst e2
  obtain ⟨v1, w1, e3, rv, rw'⟩ := two_rp r1
  exact ⟨v1, w1, e3, l.nx _ S1 _ H1 Hd1 e1 st1 (((re.mono e1).set rv i).set rw' j) q⟩⟩
theorem ds_ret (h : DE X e en S Z.rt) : DS1 X (.Return (some e) pos) en S Z := ⟨fun σ H Hd st re De l =>
  wS_of (ps_ret peW) (wE_mono (h σ H Hd st re) fun v H1 ⟨d, S1, Hd1, e1, st1, r1, q⟩ => l.rt d S1 v H1 Hd1 e1 st1 r1 q)⟩
theorem ds_if {s1 s2 : List Stmt} (h : DT X c en S fun t S1 => (t = true → DS X s1 en S1 Z) ∧ (t = false → DS X s2 en S1 Z)) : DS1 X (.If c s1 s2 pos) en S Z := ⟨fun σ H Hd st re De l => by
  refine wS_of (ps_if ptW pssW pssW) ?_
  refine wT_mono (h σ H Hd st re) fun t H1 ⟨S1, Hd1, e1, st1, q1, q2⟩ => ?_
  cases t with
  | true =>
    rw [if_pos rfl]
    exact q1 rfl σ H1 Hd1 st1 (re.mono e1) De (l.up e1)
  | false =>
    rw [if_neg Bool.false_ne_true]
    exact q2 rfl σ H1 Hd1 st1 (re.mono e1) De (l.up e1)⟩
theorem ds_expr (h : DE X e en S fun _ S1 => Z.nx en S1) (hs : swapsWith e none pos.line X.env = pure false := by first | exact sws1 rfl | exact sw0 rfl | rfl) : DS1 X (.Expr e pos) en S Z := ⟨fun σ H Hd st re De l =>
  wS_of (ps_expr peW hs) (wE_mono (h σ H Hd st re) fun v H1 ⟨d, S1, Hd1, e1, st1, r1, q⟩ => l.nx en S1 σ H1 Hd1 e1 st1 (re.mono e1) q)⟩
/-- xs.append(e) -/
theorem de_append {o : Expr} {apos cpos : Pos} {Q : D → Sto → Prop} (h : DE X o en S fun d S1 => ∃ p l, d = .raw (.ref p) ∧ getS p S1 = some l ∧ DA X [e] en S1 fun vs S2 => ∃ v l, vs = [v] ∧ getS p S2 = some l ∧ l.length < 100000 ∧ Q .non (setS p (l ++ [v]) S2))
    (mk : ∀ {to : TE} {t : TA}, PE X o to → PA X [e] t → PE X (.Call (.Attribute o "append" apos) [e] [] cpos) (tBM X.K "list" rAppend to t) := by
      exact fun ho ha => pe_bm PySem.F.plainAttrs_list PySem.F.slot_list_append PySem.F.type_list_append mt_append ho ha) : DE X (.Call (.Attribute o "append" apos) [e] [] cpos) en S Q := ⟨fun σ H Hd st re => by
  refine wE_of (mk peW paW) ?_
  refine wE_mono (h σ H Hd st re) fun o' H1 ⟨d, S1, Hd1, e1, st1, r1, p, l, f1, g, q⟩ => ?_
  subst f1
  have r1 : o' = V.ref p := r1
  subst r1
  obtain ⟨_, xs, hx, _⟩ := st1.own.at g
  refine ⟨.inl ⟨rfl, xs, .of hx⟩, ?_⟩
  refine wA_mono (q σ H1 Hd1 st1 (re.mono e1)) fun vs H2 ⟨ds, S2, Hd2, e2, st2, r2, v, l2, f2, g2, n2, q2⟩ => ?_
  subst f2
  obtain ⟨v1, f3, rv⟩ := one_rp r2
  subst f3
  obtain ⟨_, ys, hy, ry⟩ := st2.own.at g2
  have ln : ys.length < sizeLine := by
    rw [ry.length]
    exact Nat.lt_of_lt_of_le n2 (by decide)
  refine ⟨p, ys, v1, rfl, rfl, hy, ln, ?_⟩
  exact ⟨.non, _, Hd2, e1.trans e2, st2.written g2 (ry.append (show RpL X.K Hd2 [v] [v1] from ⟨v1, [], rfl, rv, rfl⟩)), rfl, q2⟩⟩
end

/-! ### loops -/
/-- the iterator yields these data, one after another -/
structure ItOk (K : PySem.W.Frag) (Hd : Hp) (J : It) (ds : List D) : Prop where
  go : ∀ {Hd' H : Hp} {S : Sto} {i : Nat} {d : D}, Same Hd Hd' → St0 K S Hd' H → ds[i]? = some d → J.go i H ∧ ∀ x H', J.yld i H x H' → ∃ Hd2, Same Hd' Hd2 ∧ St0 K S Hd2 H' ∧ Rp K Hd2 d x
  stop : ∀ {Hd' H : Hp} {S : Sto}, Same Hd Hd' → St0 K S Hd' H → J.stop ds.length H
def wI (X : Cx) (tg iter : Expr) : TI := fun σ H R => ∀ pins s, Inv X pins σ H s →
  wpAny (model X.prog X.w) X.A (eval iter X.env) (fun v s1 => wpAny (model X.prog X.w) X.A (pyIter v) (PIE X pins σ tg R) X.xe s1) X.xe s
structure DI (X : Cx) (tg iter : Expr) (en : DEnv) (S : Sto) (R : List D → Sto → Prop) : Prop where
  run : ∀ (σ : L2.St) (H Hd : Hp), St0 X.K S Hd H → RpE X.K Hd en σ →
  wI X tg iter σ H fun J H' => ∃ ds S' Hd', Same Hd Hd' ∧ St0 X.K S' Hd' H' ∧ ItOk X.K Hd' J ds ∧ R ds S'
instance {X : Cx} {tg iter : Expr} {en : DEnv} {S : Sto} {R : List D → Sto → Prop} : CoeFun (DI X tg iter en S R) (fun _ => ∀ (σ : L2.St) (H Hd : Hp), St0 X.K S Hd H → RpE X.K Hd en σ →
  wI X tg iter σ H fun J H' => ∃ ds S' Hd', Same Hd Hd' ∧ St0 X.K S' Hd' H' ∧ ItOk X.K Hd' J ds ∧ R ds S') := ⟨fun h => h.run⟩
section
variable {X : Cx} {a b c e tg iter : Expr} {es ts : List Expr} {st : Stmt} {sts rest body : List Stmt} {en en' : DEnv} {S : Sto} {Z : Dn} {N : DEnv → Sto → Prop} {pos pos' p2 p : Pos} {x : Str} {d : D} {ds : List D} {R : List D → Sto → Prop}
theorem piW : PI X tg iter (wI X tg iter) := ⟨fun pins s _ _ _ I h => h pins s I⟩
theorem wI_of {t : TI} {σ : L2.St} {H : Hp} {Q : It → Hp → Prop} (h : PI X tg iter t) (q : t σ H Q) : wI X tg iter σ H Q := fun pins s I => h.run pins s σ H Q I q
theorem it_list {K : PySem.W.Frag} {Hd : Hp} {a : Addr} {xs : List V} (h : SqL K Hd a xs) (r : RpL K Hd ds xs) (inj : ∀ {H : Hp} {ys zs : List V}, SqL K H a ys → SqL K H a zs → True) : ItOk K Hd (Itl K a) ds where
  go := fun {Hd' H S i d} e st hi => by
    obtain ⟨v, hv, rv⟩ := r.get hi
    have hs := same_l (e.trans st.sub) h
    refine ⟨⟨xs, v, hs, hv⟩, fun x H' y => ?_⟩
    obtain ⟨e1, y⟩ := y
    subst e1
    have q := y xs hs
    rw [hv] at q
    cases q
    exact ⟨Hd', Same.refl _, st, Rp.mono e d v rv⟩
  stop := fun {Hd' H S} e st => ⟨xs, same_l (e.trans st.sub) h, by rw [r.length]; exact Nat.le_refl _⟩
theorem it_tup {K : PySem.W.Frag} {Hd : Hp} {a : Addr} {xs : List V} (h : SqT K Hd a xs) (r : RpL K Hd ds xs) : ItOk K Hd (Itt K a) ds where
  go := fun {Hd' H S i d} e st hi => by
    obtain ⟨v, hv, rv⟩ := r.get hi
    have hs := same_t (e.trans st.sub) h
    refine ⟨⟨xs, v, hs, hv⟩, fun x H' y => ?_⟩
    obtain ⟨e1, y⟩ := y
    subst e1
    have q := y xs hs
    rw [hv] at q
    cases q
    exact ⟨Hd', Same.refl _, st, Rp.mono e d v rv⟩
  stop := fun {Hd' H S} e st => ⟨xs, same_t (e.trans st.sub) h, by rw [r.length]; exact Nat.le_refl _⟩
def rngD (lo : Int) (n : Nat) : List D := (List.range n).map fun i => D.int (lo + (i : Nat))
theorem rngD_len {lo : Int} {n : Nat} : (rngD lo n).length = n := by unfold rngD; simp
theorem rngD_get {lo : Int} {n i : Nat} {d : D} (h : (rngD lo n)[i]? = some d) : i < n ∧ d = .int (lo + (i : Nat)) := by
  have hi : i < n := by
    have := (List.getElem?_eq_some_iff.mp h).1
    rw [rngD_len] at this
    exact this
  refine ⟨hi, ?_⟩
  unfold rngD at h
  rw [List.getElem?_map, List.getElem?_range hi] at h
  exact (Option.some.inj h).symm
theorem it_rng {K : PySem.W.Frag} {Hd : Hp} {lo : Int} {n : Nat} : ItOk K Hd (Itr lo n) (rngD lo n) where
  go := fun {Hd' H S i d} e st hi => by
    obtain ⟨h1, h2⟩ := rngD_get hi
    subst h2
    refine ⟨h1, fun x H' y => ?_⟩
    obtain ⟨e1, e2⟩ := y
    subst e1 e2
    exact ⟨Hd', Same.refl _, st, rfl⟩
  stop := fun {Hd' H S} e st => by
    show n ≤ (rngD lo n).length
    rw [rngD_len]
    exact Nat.le_refl _
def enuD (ds : List D) : List D := ds.mapIdx fun i d => D.tup [.int (i : Nat), d]
theorem enuD_get {i : Nat} {d : D} (h : (enuD ds)[i]? = some d) : ∃ x, ds[i]? = some x ∧ d = .tup [.int (i : Nat), x] := by
  unfold enuD at h
  rw [List.getElem?_mapIdx] at h
  cases q : ds[i]? with
  | none => rw [q] at h; cases h
  | some x =>
    rw [q] at h
    exact ⟨x, rfl, (Option.some.inj h).symm⟩
theorem it_enu {K : PySem.W.Frag} {Hd : Hp} {a : Addr} {xs : List V} (h : SqL K Hd a xs) (r : RpL K Hd ds xs) : ItOk K Hd (Ite K a) (enuD ds) where
  go := fun {Hd' H S i d} e st hi => by
    obtain ⟨z, hz, ez⟩ := enuD_get hi
    subst ez
    obtain ⟨v, hv, rv⟩ := r.get hz
    have hs := same_l (e.trans st.sub) h
    refine ⟨⟨xs, v, hs, hv⟩, fun x H' y => ?_⟩
    obtain ⟨T, w, e1, hT, e2, y⟩ := y
    subst e1 e2
    have q := y xs hs
    rw [hv] at q
    cases q
    obtain ⟨k1, k2⟩ := st.laid (o := .tup [.int (i : Nat), v]) hT
    exact ⟨_, k1, k2, T, _, rfl, SqT.of upd_same, ⟨_, _, rfl, rfl, _, _, rfl, Rp.mono (e.trans k1) z v rv, rfl⟩⟩
  stop := fun {Hd' H S} e st => by
    refine ⟨xs, same_l (e.trans st.sub) h, ?_⟩
    rw [r.length]
    unfold enuD
    simp
theorem di_lst (h : DE X iter en S fun d S1 => ∃ l, d = .lst l ∧ R l S1) : DI X tg iter en S R := ⟨fun σ H Hd st re => by
  refine wI_of (pi_list peW) ?_
  refine wE_mono (h σ H Hd st re) fun v H1 ⟨d, S1, Hd1, e1, st1, r1, l, e2, q⟩ => ?_
  subst e2
  obtain ⟨a, xs, f1, f2, f3⟩ := r1
  exact ⟨a, f1, ⟨xs, .of (st1.sub _ _ f2)⟩, l, S1, Hd1, e1, st1, it_list (.of f2) f3 (fun _ _ => trivial), q⟩⟩
theorem di_tup (h : DE X iter en S fun d S1 => ∃ l, d = .tup l ∧ R l S1) : DI X tg iter en S R := ⟨fun σ H Hd st re => by
  refine wI_of (pi_tup peW) ?_
  refine wE_mono (h σ H Hd st re) fun v H1 ⟨d, S1, Hd1, e1, st1, r1, l, e2, q⟩ => ?_
  subst e2
  obtain ⟨a, xs, f1, f2, f3⟩ := r1
  exact ⟨a, f1, ⟨xs, same_t st1.sub f2⟩, l, S1, Hd1, e1, st1, it_tup f2 f3, q⟩⟩
theorem di_rng1 (hm : X.mg "range" = none) (h : DA X [a] en S fun ds S1 => ∃ n : Int, ds = [.int n] ∧ (-(2 ^ 62) ≤ n ∧ n < 2 ^ 62) ∧ R (rngD 0 n.toNat) S1) (hg : Gl X "range" := by rfl) (hs : starEach [a] X.env = [(false, eval a X.env)] := by rfl) : DI X tg (.Call (.Name "range" p) [a] [] pos) en S R := ⟨fun σ H Hd st re => by
  refine wI_of (pi_range1 hg hm paW hs) ?_
  refine wA_mono (h σ H Hd st re) fun vs H1 ⟨ds, S1, Hd1, e1, st1, r1, n, e2, ⟨n1, n2⟩, q⟩ => ?_
  subst e2
  obtain ⟨v, f1, rv⟩ := one_rp r1
  have rv : v = V.int n := rv
  subst f1 rv
  exact ⟨n, rfl, n1, n2, _, S1, Hd1, e1, st1, it_rng, q⟩⟩
theorem di_enum {elts : List Expr} {kk : Nat} {tpos : Pos} (hm : X.mg "enumerate" = none) (h : DA X [e] en S fun ds S1 => ∃ l, ds = [.lst l] ∧ R (enuD l) S1) (hg : Gl X "enumerate" := by rfl) (hs : starEach [e] X.env = [(false, eval e X.env)] := by rfl) :
    DI X (.Tuple elts kk tpos) (.Call (.Name "enumerate" p) [e] [] pos) en S R := ⟨fun σ H Hd st re => by
  refine wI_of (pi_enum hg hm paW hs) ?_
  refine wA_mono (h σ H Hd st re) fun vs H1 ⟨ds, S1, Hd1, e1, st1, r1, l, e2, q⟩ => ?_
  subst e2
  obtain ⟨v, f1, a, xs, f2, f3, f4⟩ := one_rp r1
  subst f1 f2
  exact ⟨a, xs, rfl, .of (st1.sub _ _ f3), _, S1, Hd1, e1, st1, it_enu (.of f3) f4, q⟩⟩
/-- THE LOOP: E g, what is known of the slots; P i g, what holds ahead of turn i; g is yours -/
theorem ds_for {γ : Type} (hp : PassesOwn (model X.prog X.w) X.A X.env X.xe) (hc : X.calm = true)
    (h : DI X tg iter en S fun ds S1 => ∃ (E : γ → DEnv) (P : Nat → γ → Sto → Prop) (g0 : γ), Wk en (E g0) ∧ P 0 g0 S1 ∧
      (∀ i d g S', ds[i]? = some d → P i g S' → DG X tg d (E g) S' fun en2 S2 => DS X body en2 S2 { nx := fun en3 S3 => ∃ g', Wk en3 (E g') ∧ P (i + 1) g' S3, rt := Z.rt, ct := fun en3 S3 => ∃ g', Wk en3 (E g') ∧ P (i + 1) g' S3, bk := Z.nx }) ∧
      ∀ g S', P ds.length g S' → Z.nx (E g) S') (hs : ∀ x, foldedSetIterable iter X.env x = pure x := by first | exact fset rfl | (intro _; rfl)) : DS1 X (.For tg iter body [] pos) en S Z := ⟨fun σ H Hd st re De l => by
  refine wS_of (ps_for hp hc piW pgW pssW hs) ?_
  intro pins s I
  refine thn (h σ H Hd st re pins s I) fun v s1 h1 => thn h1 fun itv s2 h2 => ?_
  obtain ⟨it, fp, tn, J, H2, e, I2, T, st2, f2, ds, S1, Hd1, e1, s01, io, E, P, g0, wk, p0, turn, fin⟩ := h2
  refine ⟨it, fp, tn, J, H2, e, I2, T, st2, f2, ?_⟩
  refine ⟨fun i m σ H => m = ds.length - i ∧ i ≤ ds.length ∧ ∃ g S' Hd', Same Hd1 Hd' ∧ St0 X.K S' Hd' H ∧ RpE X.K Hd' (E g) σ ∧ P i g S', ⟨_, rfl, Nat.zero_le _, g0, S1, Hd1, Same.refl _, s01, wk.use (re.mono e1), p0⟩, ?_⟩
  rintro i m σ H ⟨rfl, hi, g, S', Hd', k1, k2, k3, k4⟩
  by_cases hlt : i < ds.length
  · obtain ⟨go, yl⟩ := io.go k1 k2 (List.getElem?_eq_getElem hlt)
    refine .inr ⟨go, fun σ' H' => ∃ g S' Hd', Same Hd1 Hd' ∧ St0 X.K S' Hd' H' ∧ RpE X.K Hd' (E g) σ' ∧ P (i + 1) g S', fun σ' H' q => ⟨ds.length - (i + 1), by omega, rfl, hlt, q⟩, fun x H' y => ?_⟩
    obtain ⟨Hd2, y1, y2, y3⟩ := yl x H' y
    refine wG_mono (turn i _ g S' (List.getElem?_eq_getElem hlt) k4 σ H' Hd2 x y2 (k3.mono y1) y3) fun σ4 H4 ⟨en4, S4, Hd4, z1, z2, z3, z4⟩ => ?_
    have up : Same Hd1 Hd4 := k1.trans (y1.trans z1)
    exact z4 σ4 H4 Hd4 z2 z3 _ ⟨fun en5 S5 σ5 H5 Hd5 w1 w2 w3 ⟨g', w4, w5⟩ => ⟨g', S5, Hd5, up.trans w1, w2, w4.use w3, w5⟩, fun d5 S5 v5 H5 Hd5 w1 => l.rt d5 S5 v5 H5 Hd5 (e1.trans (up.trans w1)),
      fun en5 S5 σ5 H5 Hd5 w1 => l.nx en5 S5 σ5 H5 Hd5 (e1.trans (up.trans w1)), fun en5 S5 σ5 H5 Hd5 w1 w2 w3 ⟨g', w4, w5⟩ => ⟨g', S5, Hd5, up.trans w1, w2, w4.use w3, w5⟩⟩
  · have e0 : i = ds.length := by omega
    subst e0
    exact .inl ⟨io.stop k1 k2, l.nx (E g) S' σ H Hd' (e1.trans k1) k2 k3 (fin g S' k4)⟩⟩
/-- a while: μ falls at each turn -/
theorem ds_while {γ : Type} (hp : PassesOwn (model X.prog X.w) X.A X.env X.xe) (E : γ → DEnv) (P : γ → Sto → Prop) (μ : γ → Nat) (g0 : γ) (w0 : Wk en (E g0)) (p0 : P g0 S)
    (h : ∀ g S', P g S' → DT X c (E g) S' fun t S1 => (t = true → DS X body (E g) S1 { nx := fun en3 S3 => ∃ g', Wk en3 (E g') ∧ P g' S3 ∧ μ g' < μ g, rt := Z.rt, ct := fun en3 S3 => ∃ g', Wk en3 (E g') ∧ P g' S3 ∧ μ g' < μ g, bk := Z.nx }) ∧ (t = false → Z.nx (E g) S1)) :
    DS1 X (.While c body [] pos) en S Z := ⟨fun σ H Hd st re De l => by
  refine wS_of (ps_while hp ptW pssW) ?_
  refine ⟨fun m σ H => ∃ g S' Hd', Same Hd Hd' ∧ St0 X.K S' Hd' H ∧ RpE X.K Hd' (E g) σ ∧ P g S' ∧ m = μ g, ⟨_, g0, S, Hd, Same.refl _, st, w0.use re, p0, rfl⟩, ?_⟩
  rintro m σ H ⟨g, S', Hd', k1, k2, k3, k4, rfl⟩
  refine wT_mono (h g S' k4 σ H Hd' k2 k3) fun t H1 ⟨S1, Hd1, e1, st1, q1, q2⟩ => ?_
  cases t with
  | false =>
    rw [if_neg Bool.false_ne_true]
    exact l.nx (E g) S1 σ H1 Hd1 (k1.trans e1) st1 (k3.mono e1) (q2 rfl)
  | true =>
    rw [if_pos rfl]
    refine ⟨fun σ' H' => ∃ g' S' Hd', Same Hd Hd' ∧ St0 X.K S' Hd' H' ∧ RpE X.K Hd' (E g') σ' ∧ P g' S' ∧ μ g' < μ g, fun σ' H' ⟨g', S', Hd', z1, z2, z3, z4, z5⟩ => ⟨μ g', z5, g', S', Hd', z1, z2, z3, z4, rfl⟩, ?_⟩
    have up := k1.trans e1
    exact q1 rfl σ H1 Hd1 st1 (k3.mono e1) _ ⟨fun en5 S5 σ5 H5 Hd5 w1 w2 w3 ⟨g', w4, w5, w6⟩ => ⟨g', S5, Hd5, up.trans w1, w2, w4.use w3, w5, w6⟩, fun d5 S5 v5 H5 Hd5 w1 => l.rt d5 S5 v5 H5 Hd5 (up.trans w1),
      fun en5 S5 σ5 H5 Hd5 w1 => l.nx en5 S5 σ5 H5 Hd5 (up.trans w1), fun en5 S5 σ5 H5 Hd5 w1 w2 w3 ⟨g', w4, w5, w6⟩ => ⟨g', S5, Hd5, up.trans w1, w2, w4.use w3, w5, w6⟩⟩⟩
end
end DL
namespace DL
open PySem PySem.Spec PyProof.Rows L2

/-! ### comprehensions -/
theorem RpE.reset {K : PySem.W.Frag} {H : Hp} {d : D} {v : V} {en : DEnv} {σ : L2.St} (i : Nat) (h : RpE K H en σ) (r : Rp K H d v) : RpE K H (en.set i (some d)) ((wipe σ [i]).set i (some v)) := by
  have e : (wipe σ [i]).set i (some v) = σ.set i (some v) := by
    show (σ.set i none).set i (some v) = _
    rw [List.set_set]
  rw [e]
  exact h.set r i
theorem wipe_back {σ : L2.St} {i : Nat} {v : V} : wipe ((wipe σ [i]).set i (some v)) [i] = wipe σ [i] := by
  show ((σ.set i none).set i (some v)).set i none = σ.set i none
  rw [List.set_set, List.set_set]
section
variable {X : Cx} {elt iter c : Expr} {en : DEnv} {S : Sto} {Q : D → Sto → Prop} {pos py : Pos} {y : Str} {scope : Scope}
/-- the block of a comprehension -/
abbrev bX (X : Cx) (scope : Scope) (s : Shared) (H : Hp) (C : Addr) (cl : List (Str × Addr)) (fp : List Addr) : Cx := X.blk s H scope (compEnvC scope cl C X.env) fp
/-- one turn's item: the element's data behind the items so far -/
def Turn1 (X : Cx) (scope : Scope) (elt : Expr) (en : DEnv) (S : Sto) (p : Addr) (acc : List D) (N : List D → Sto → Prop) : Prop :=
  ∀ s H C cl fp, DE (bX X scope s H C cl fp) elt en ((p, acc) :: S) fun d S2 => ∃ S3, S2 = (p, acc) :: S3 ∧ N (acc ++ [d]) S3
theorem pe_blk (te : TE) (h : te = fun σ H Q => ∀ s0 H0 C cl fp, wE (bX X scope s0 H0 C cl fp) elt σ H Q) : ∀ (s : Shared) (H : Hp) (C : Addr) (cl : List (Str × Addr)) (fp : List Addr), PE (bX X scope s H C cl fp) elt te := fun s0 H0 C cl fp => by
  subst h
  exact ⟨fun pins s _ _ _ I q => q s0 H0 C cl fp pins s I⟩
theorem pt_blk (tt : TT) (h : tt = fun σ H Q => ∀ s0 H0 C cl fp, wT (bX X scope s0 H0 C cl fp) c σ H Q) : ∀ (s : Shared) (H : Hp) (C : Addr) (cl : List (Str × Addr)) (fp : List Addr), PT (bX X scope s H C cl fp) c tt := fun s0 H0 C cl fp => by
  subst h
  exact ⟨fun pins s _ _ _ I q => q s0 H0 C cl fp pins s I⟩
variable {ifs : List Expr} {tt : TT}
/-- the comprehension's walk, whatever its tests -/
theorem lc_go (i : Nat) (te : TE) {own : List Nat} (ho : own = [i]) (mT : ∀ (σ : L2.St) (H : Hp) (A B : Bool → Hp → Prop), tt σ H A → (∀ b H', A b H' → B b H') → tt σ H B) (mE : ∀ (σ : L2.St) (H : Hp) (A B : VK), te σ H A → (∀ v H', A v H' → B v H') → te σ H B)
    (h : DI X (.Name y py) iter en S fun ds S1 => ∃ (P : Nat → List D → Sto → Prop), P 0 [] S1 ∧
      (∀ k d acc S' p, ds[k]? = some d → P k acc S' → getS p S' = none → acc.length ≤ k → ∀ (σ : L2.St) (H Hd : Hp), St0 X.K ((p, acc) :: S') Hd H → RpE X.K Hd (en.set i (some d)) σ →
        tt σ H fun b H3 => if b = true then te σ H3 fun v H4 => ∃ d2 S4 Hd4, Same Hd Hd4 ∧ St0 X.K ((p, acc) :: S4) Hd4 H4 ∧ Rp X.K Hd4 d2 v ∧ P (k + 1) (acc ++ [d2]) S4 else ∃ S4 Hd4, Same Hd Hd4 ∧ St0 X.K ((p, acc) :: S4) Hd4 H3 ∧ P (k + 1) acc S4) ∧
      ds.length ≤ 100000 ∧ ∀ acc S', acc.length ≤ ds.length → P ds.length acc S' → Q (.lst acc) S') {σ : L2.St} {H Hd : Hp} (st : St0 X.K S Hd H) (re : RpE X.K Hd en σ) (Qv : VK) (kq : ∀ v H', QD X.K Hd Q v H' → Qv v H') : tLc (wI X (.Name y py) iter) (gName i) tt te own σ H Qv := by
  subst ho
  intro pins s I
  refine thn (DI.run h σ H Hd st re pins s I) fun v s1 h1 => thn h1 fun itv s2 h2 => ?_
  obtain ⟨it, fp, tn, J, H2, e, I2, T, st2, f2, ds, S1, Hd1, e1, s01, io, P, p0, turn, lim, fin⟩ := h2
  refine ⟨it, fp, tn, J, H2, e, I2, T, st2, f2, fun p hp => ?_⟩
  obtain ⟨fr, s02⟩ := s01.laidO (l := []) (xs := []) hp rfl
  refine ⟨fun k m H => m = ds.length - k ∧ k ≤ ds.length ∧ ∃ acc S' Hd', acc.length ≤ k ∧ Same Hd1 Hd' ∧ St0 X.K ((p, acc) :: S') Hd' H ∧ P k acc S', ⟨_, rfl, Nat.zero_le _, [], S1, Hd1, Nat.le_refl _, Same.refl _, s02, p0⟩, ?_⟩
  rintro k m H ⟨rfl, hk, acc, S', Hd', ka, k1, k2, k3⟩
  by_cases hlt : k < ds.length
  · obtain ⟨go, yl⟩ := io.go k1 k2 (List.getElem?_eq_getElem hlt)
    refine .inr ⟨go, fun H' => ∃ acc S' Hd', acc.length ≤ k + 1 ∧ Same Hd1 Hd' ∧ St0 X.K ((p, acc) :: S') Hd' H' ∧ P (k + 1) acc S', fun H' q => ⟨ds.length - (k + 1), by omega, rfl, hlt, q⟩, fun x H' y => ?_⟩
    obtain ⟨Hd2, y1, y2, y3⟩ := yl x H' y
    refine ⟨wipe_back, ?_⟩
    have reB := RpE.reset i (re.mono (e1.trans (k1.trans y1))) y3
    have go2 := turn k _ acc S' p (List.getElem?_eq_getElem hlt) k3 k2.own.2.1 ka _ H' Hd2 y2 reB
    have en1 : ∀ (H4 : Hp) (v : V) (d2 : D) (S4 : Sto) (Hd4 : Hp), Same Hd2 Hd4 → St0 X.K ((p, acc) :: S4) Hd4 H4 → Rp X.K Hd4 d2 v → P (k + 1) (acc ++ [d2]) S4 →
        ∃ vs, H4 p = some (.lst vs) ∧ vs.length < sizeLine ∧ ∃ acc S' Hd', acc.length ≤ k + 1 ∧ Same Hd1 Hd' ∧ St0 X.K ((p, acc) :: S') Hd' (upd H4 p (.lst (vs ++ [v]))) ∧ P (k + 1) acc S' := by
      intro H4 v d2 S4 Hd4 z1 z2 z3 z4
      obtain ⟨_, xs, hx, rx⟩ := z2.own.at (l := acc) getS_hd
      refine ⟨xs, hx, by rw [rx.length]; exact Nat.lt_of_le_of_lt (Nat.le_trans ka hk) (Nat.lt_of_le_of_lt lim (by decide)), acc ++ [d2], S4, Hd4, by rw [List.length_append, List.length_singleton]; omega, k1.trans (y1.trans z1), ?_, z4⟩
      have w := z2.written (l' := acc ++ [d2]) (ys := xs ++ [v]) getS_hd (rx.append (show RpL X.K Hd4 [d2] [v] from ⟨v, [], rfl, z3, rfl⟩))
      rw [setS_hd] at w
      exact w
    refine mT _ _ _ _ go2 fun b H3 q => ?_
    cases b with
    | true =>
      rw [if_pos rfl] at q ⊢
      exact mE _ _ _ _ q fun v H4 ⟨d2, S4, Hd4, z1, z2, z3, z4⟩ => en1 H4 v d2 S4 Hd4 z1 z2 z3 z4
    | false =>
      rw [if_neg Bool.false_ne_true] at q ⊢
      obtain ⟨S4, Hd4, z1, z2, z3⟩ := q
      exact ⟨acc, S4, Hd4, Nat.le_succ_of_le ka, k1.trans (y1.trans z1), z2, z3⟩
  · have e0 : k = ds.length := by omega
    subst e0
    obtain ⟨xs, rx, ex, sx⟩ := k2.frozen
    exact .inl ⟨io.stop k1 k2, kq _ _ ⟨.lst acc, S', _, e1.trans (k1.trans ex), sx, ⟨p, xs, rfl, upd_same, rx.mono ex⟩, fin acc S' ka k3⟩⟩
abbrev teB (X : Cx) (scope : Scope) (elt : Expr) : TE := fun σ H Q => ∀ s0 H0 C cl fp, wE (bX X scope s0 H0 C cl fp) elt σ H Q
abbrev ttB (X : Cx) (scope : Scope) (c : Expr) : TT := fun σ H Q => ∀ s0 H0 C cl fp, wT (bX X scope s0 H0 C cl fp) c σ H Q
/-- what a comprehension without a test is asked -/
def Lc0 (X : Cx) (scope : Scope) (i : Nat) (y : Str) (py : Pos) (elt iter : Expr) (en : DEnv) (S : Sto) (Q : D → Sto → Prop) : Prop := DI X (.Name y py) iter en S fun ds S1 => ∃ (P : Nat → List D → Sto → Prop), P 0 [] S1 ∧
  (∀ k d acc S' p, ds[k]? = some d → P k acc S' → getS p S' = none → acc.length ≤ k → Turn1 X scope elt (en.set i (some d)) S' p acc (P (k + 1))) ∧ ds.length ≤ 100000 ∧ ∀ acc S', acc.length ≤ ds.length → P ds.length acc S' → Q (.lst acc) S'
/-- .. with a test -/
def Lc1 (X : Cx) (scope : Scope) (i : Nat) (y : Str) (py : Pos) (elt iter c : Expr) (en : DEnv) (S : Sto) (Q : D → Sto → Prop) : Prop := DI X (.Name y py) iter en S fun ds S1 => ∃ (P : Nat → List D → Sto → Prop), P 0 [] S1 ∧
  (∀ k d acc S' p, ds[k]? = some d → P k acc S' → getS p S' = none → acc.length ≤ k → ∀ s H C cl fp, DT (bX X scope s H C cl fp) c (en.set i (some d)) ((p, acc) :: S') fun b S2 => ∃ S3, S2 = (p, acc) :: S3 ∧ (b = true → Turn1 X scope elt (en.set i (some d)) S3 p acc (P (k + 1))) ∧ (b = false → P (k + 1) acc S3)) ∧
  ds.length ≤ 100000 ∧ ∀ acc S', acc.length ≤ ds.length → P ds.length acc S' → Q (.lst acc) S'
theorem lc0_read {i : Nat} (h : Lc0 X scope i y py elt iter en S Q) {σ : L2.St} {H Hd : Hp} (st : St0 X.K S Hd H) (re : RpE X.K Hd en σ) (Qv : VK) (kq : ∀ v H', QD X.K Hd Q v H' → Qv v H') : tLc (wI X (.Name y py) iter) (gName i) tYes (teB X scope elt) [i] σ H Qv := by
  refine lc_go (tt := tYes) i _ rfl (fun σ H A B q k => k _ _ q) (fun σ H A B q k s0 H0 C cl fp => wE_mono (q s0 H0 C cl fp) k) ?_ st re Qv kq
  refine ⟨fun σ H Hd st re => ?_⟩
  intro pins s I
  refine thn (DI.run h σ H Hd st re pins s I) fun v s1 h1 => thn h1 fun itv s2 h2 => ?_
  obtain ⟨it, fp, tn, J, H2, e, I2, T, st2, f2, ds, S1, Hd1, e1, s01, io, P, p0, turn, lim, fin⟩ := h2
  refine ⟨it, fp, tn, J, H2, e, I2, T, st2, f2, ds, S1, Hd1, e1, s01, io, P, p0, fun k d acc S' p hk hP hp hl σ H Hd st re => ?_, lim, fin⟩
  show tYes σ H _
  unfold tYes
  simp only [↓reduceIte]
  intro s0 H0 C cl fp
  exact wE_mono (turn k d acc S' p hk hP hp hl s0 H0 C cl fp σ H Hd st re) fun v H4 ⟨d2, S2, Hd4, z1, z2, z3, S3, z4, z5⟩ => by
    subst z4
    exact ⟨d2, S3, Hd4, z1, z2, z3, z5⟩
theorem lc1_read {i : Nat} (h : Lc1 X scope i y py elt iter c en S Q) {σ : L2.St} {H Hd : Hp} (st : St0 X.K S Hd H) (re : RpE X.K Hd en σ) (Qv : VK) (kq : ∀ v H', QD X.K Hd Q v H' → Qv v H') : tLc (wI X (.Name y py) iter) (gName i) (ttB X scope c) (teB X scope elt) [i] σ H Qv := by
  refine lc_go i _ rfl (fun σ H A B q k s0 H0 C cl fp => wT_mono (q s0 H0 C cl fp) k) (fun σ H A B q k s0 H0 C cl fp => wE_mono (q s0 H0 C cl fp) k) ?_ st re Qv kq
  refine ⟨fun σ H Hd st re => ?_⟩
  intro pins s I
  refine thn (DI.run h σ H Hd st re pins s I) fun v s1 h1 => thn h1 fun itv s2 h2 => ?_
  obtain ⟨it, fp, tn, J, H2, e, I2, T, st2, f2, ds, S1, Hd1, e1, s01, io, P, p0, turn, lim, fin⟩ := h2
  refine ⟨it, fp, tn, J, H2, e, I2, T, st2, f2, ds, S1, Hd1, e1, s01, io, P, p0, fun k d acc S' p hk hP hp hl σ H Hd st re => ?_, lim, fin⟩
  intro s0 H0 C cl fp
  refine wT_mono (turn k d acc S' p hk hP hp hl s0 H0 C cl fp σ H Hd st re) fun b H3 ⟨S2, Hd3, e3, st3, S3, z, q1, q2⟩ => ?_
  subst z
  cases b with
  | true =>
    rw [if_pos rfl]
    intro s5 H5 C5 cl5 fp5
    exact wE_mono (q1 rfl s5 H5 C5 cl5 fp5 σ H3 Hd3 st3 (re.mono e3)) fun v H4 ⟨d2, S5, Hd4, y1, y2, y3, S6, y4, y5⟩ => by
      subst y4
      exact ⟨d2, S6, Hd4, e3.trans y1, y2, y3, y5⟩
  | false =>
    rw [if_neg Bool.false_ne_true]
    exact ⟨S3, Hd3, e3, st3, q2 rfl⟩
/-- [elt for y in iter] -/
theorem de_lc (i : Nat) (hc : X.calm = true) (hN : X.N.Nodup) (ok : BlkOk X.N X.env.scope scope [(y, i)]) (h : Lc0 X scope i y py elt iter en S Q)
    (hg : ∀ (s : Shared) (H : Hp) (C : Addr) (cl : List (Str × Addr)) (fp : List Addr), PG (bX X scope s H C cl fp) (.Name y py) (gName i))
    (hs : ∀ x, foldedSetIterable iter X.env x = pure x := by first | exact fset rfl | (intro _; rfl)) : DE X (.ListComp elt [⟨.Name y py, iter, [], 0⟩] scope pos) en S Q := ⟨fun σ H Hd st re =>
  wE_of (pe_lc hc hN piW ok hg (fun _ _ _ _ _ => pts_nil) (pe_blk (te := teB X scope elt) rfl) hs) (lc0_read h st re _ fun _ _ z => z)⟩
/-- [elt for y in iter if c] -/
theorem de_lcIf (i : Nat) (hc : X.calm = true) (hN : X.N.Nodup) (ok : BlkOk X.N X.env.scope scope [(y, i)]) (h : Lc1 X scope i y py elt iter c en S Q)
    (hg : ∀ (s : Shared) (H : Hp) (C : Addr) (cl : List (Str × Addr)) (fp : List Addr), PG (bX X scope s H C cl fp) (.Name y py) (gName i))
    (hs : ∀ x, foldedSetIterable iter X.env x = pure x := by first | exact fset rfl | (intro _; rfl)) : DE X (.ListComp elt [⟨.Name y py, iter, [c], 0⟩] scope pos) en S Q := ⟨fun σ H Hd st re =>
  wE_of (pe_lc hc hN piW ok hg (fun s H C cl fp => pts_one (pt_blk (tt := ttB X scope c) rfl s H C cl fp)) (pe_blk (te := teB X scope elt) rfl) hs) (lc1_read h st re _ fun _ _ z => z)⟩
end

/-! ### the law's end -/
/-- the promise of a law: it gives True of every such script -/
def conLaw (n : Nat) : Con := fun ds S Q => ∃ ns : List Int, ns.length ≤ n ∧ ds = [.scr ns] ∧ S = [] ∧ Q (.bl true) []
theorem law_end {l : PySem.W.OpenLaw} {n k : Nat} {q : Program} {loose : List Str} {XP : (Str → Option Value) → Heap → Prop} {YP : World → Heap → Prop} {d : DefRec} {K : Params → PySem.W.Frag} {x : Str}
    (hn : l.most = some n) (hn2 : n ≤ sizeLine) (hdf : d.params.defaults = []) (hr : Room k callerA) (hY : ∀ (w : World) (h : Heap), YP w h → (K w.params).In h)
    (F : ∀ (w : World) (mg : Str → Option Value) (fa : Addr) (h : Heap), (K w.params).In h → h.Ns mainGlobals mg → mg d.name = some (.ref fa) → ∃ fd : FuncData, (∀ (s : Shared) (u : Value), BindsTo s fd ⟨[u], []⟩ [(x, u)]) ∧
      ∀ base : Heap, (K w.params).In base → base.Ns mainGlobals mg → GOk l.prog w (K w.params) mg base k fa fd [x] (spD (K w.params) (conLaw n))) : PySem.W.WalkO q loose XP YP l.row.toRowW d [] (fun f vs => PySem.call f vs) := by
  refine Att.attach_call hn hdf fun w s0 s1 mg mb fa o pm cd doc a vs ns G Y ho hd hcd hmg hobj hints hlen hg => ?_
  have KX := hY w _ Y
  obtain ⟨fd, hb, hF⟩ := F w mg fa _ KX G.T.g hmg
  have rv := vals_ints hints
  -- the script is tracked, as known to its object, unless the module itself holds it
  generalize hH : (fun b => if b = a ∧ (K w.params).lookup a = none then some (HO.frz { cls := .type "list", data := .seq vs.toArray } (.lst (ns.map V.int))) else none : Hp) = H
  have none_of : ∀ b, ¬ (b = a ∧ (K w.params).lookup a = none) → H b = none := fun b z => by rw [← hH]; exact if_neg z
  have some_of : ∀ b u, H b = some u → b = a ∧ (K w.params).lookup a = none ∧ u = .frz { cls := .type "list", data := .seq vs.toArray } (.lst (ns.map V.int)) := fun b u z => by
    rw [← hH] at z
    by_cases c : b = a ∧ (K w.params).lookup a = none
    · have z2 := (if_pos c).symm.trans z
      exact ⟨c.1, c.2, (Option.some.inj z2).symm⟩
    · have z2 := (if_neg c).symm.trans z
      cases z2
  have scr : SqL (K w.params) H a (ns.map V.int) := by
    cases hk : (K w.params).lookup a with
    | none =>
      refine .inl (.inr ⟨{ cls := .type "list", data := .seq vs.toArray }, ?_⟩)
      rw [← hH]
      exact if_pos ⟨rfl, hk⟩
    | some ob =>
      have e := KX a ob hk
      rw [hobj] at e
      cases e
      exact .inr ⟨_, vs.toArray, _, hk, rfl, rfl, rfl, by rw [List.size_toArray, hints.length]; exact Nat.le_trans hlen hn2, by simpa using rv⟩
  have hok : HOk l.prog w H s1.heap := fun b u z => by
    obtain ⟨e1, _, e3⟩ := some_of b u z
    subst e1 e3
    exact ⟨hobj, by rw [List.length_map]; exact Nat.le_trans hlen hn2, vs, _, rv, hobj⟩
  have dictN : ∀ {b : Addr} {ob : Obj} {es : Array DictEntry} {ep : Nat}, s1.heap.get? b = some ob → ob.data = .dict es ep → H b = none := fun {b ob es ep} e dd => by
    refine none_of b fun z => ?_
    rw [z.1, hobj] at e
    cases e
    cases dd
  have nsB : ∀ {b : Addr} {m : Str → Option Value}, s1.heap.Ns b m → (hidT s1.heap H).Ns b m := fun ⟨ob, es, ep, e, dd, rr⟩ => ⟨ob, es, ep, hidT_get e (dictN e dd), dd, rr⟩
  have KB : (K w.params).In (hidT s1.heap H) := fun b ob e => hidT_get (KX b ob e) (none_of b fun z => by rw [z.1, z.2] at e; cases e)
  have M : Mod (K w.params) mg (hidT s1.heap H) := ⟨KB, nsB G.T.g, ⟨mb, nsB G.T.b, G.T.builtins⟩, let ⟨mc, z1, z2⟩ := G.T.nolimit; ⟨mc, nsB z1, z2⟩⟩
  have e0 : Env0 l.prog w (K w.params) mg (hidT s1.heap H) callerA [] s1 H := ⟨rfl, M, fun b ob e => of_hidT e, Nat.le_of_eq (hidT_size _ _), trivial, (fun b z => absurd (show b ∈ ([] : List Addr) from z) List.not_mem_nil), hok, .of_eq hg⟩
  have st : St0 (K w.params) [] H H := ⟨Same.refl _, trivial⟩
  have sp : spD (K w.params) (conLaw n) [V.ref a] H (fun v _ => v = V.bl true) fun _ _ _ => False := ⟨[.scr ns], [], H, fun d _ => d = .bl true, ⟨V.ref a, [], rfl, ⟨a, rfl, scr⟩, rfl⟩, st, ⟨ns, hlen, rfl, rfl, rfl⟩, fun d S' v H' Hd' z _ _ r => by
    subst z
    exact r⟩
  refine codeAny_mono ((hF _ KB (nsB G.T.g)).run callerA [] s1 H ⟨[.ref a], []⟩ [.ref a] [.ref a] _ _ rfl hr e0 (hb s1 (.ref a)) (.cons rfl .nil) sp) fun r s' h => ?_
  cases r with
  | error e => exact h.elim
  | ok fl =>
    cases fl with
    | next => exact False.elim h
    | brk => exact False.elim h
    | cont => exact False.elim h
    | ret u =>
      obtain ⟨v, H', os, bare, un, hok', r', q'⟩ := h
      have q' : v = V.bl true := q'
      subst q'
      have r' : u = Value.bool true := r'
      subst r'
      refine ⟨rfl, OldK.of_keep fun b ob e => ?_, os, bare⟩
      cases z : H b with
      | none => exact un.keep b ob e z (fun y => absurd (show b ∈ ([] : List Addr) from y) List.not_mem_nil) List.not_mem_nil
      | some u =>
        obtain ⟨_, _, e3⟩ := some_of b u z
        subst e3
        obtain ⟨k1, _⟩ := hok b _ z
        obtain ⟨k2, _⟩ := hok' b _ (un.frzs b _ _ z)
        rw [e] at k1
        cases k1
        exact k2
end DL
namespace DL
open PySem PySem.Spec PyProof.Rows L2

/-! ### sizes of ints -/
def Bd (n : Nat) (i : Int) : Prop := i.natAbs < 2 ^ n
section
variable {a b n : Nat} {i j : Int}
theorem Bd.up (h : Bd a i) (k : a ≤ b) : Bd b i := Nat.lt_of_lt_of_le h (Nat.pow_le_pow_right (by decide) k)
theorem Bd.mul (h : Bd a i) (k : Bd b j) : Bd (a + b) (i * j) := wide_lt h k
theorem Bd.neg (h : Bd a i) : Bd a (-i) := by
  unfold Bd at h ⊢
  rw [Int.natAbs_neg]
  exact h
theorem Bd.add (h : Bd a i) (k : Bd b j) : Bd (max a b + 1) (i + j) := by
  have h1 : i.natAbs < 2 ^ (max a b) := Bd.up h (Nat.le_max_left a b)
  have k1 : j.natAbs < 2 ^ (max a b) := Bd.up k (Nat.le_max_right a b)
  have := Int.natAbs_add_le i j
  unfold Bd
  rw [Nat.pow_succ]
  omega
theorem Bd.sub (h : Bd a i) (k : Bd b j) : Bd (max a b + 1) (i - j) := by
  rw [Int.sub_eq_add_neg]
  exact h.add k.neg
theorem Bd.div (h : Bd a i) : Bd a (i / j) := Nat.lt_of_le_of_lt (Int.natAbs_ediv_le_natAbs i j) h
theorem Bd.mod (h : Bd b j) (h0 : 0 < j) : Bd b (i % j) := by
  have h1 := Int.emod_nonneg i (by omega : j ≠ 0)
  have h2 := Int.emod_lt_of_pos i h0
  have h3 : j.natAbs < 2 ^ b := h
  unfold Bd
  omega
theorem Bd.abs (h : Bd a i) : Bd a (if i < 0 then -i else i) := by
  split
  · exact h.neg
  · exact h
theorem Bd.of_le (h0 : 0 ≤ i) (h1 : i ≤ j) (h : Bd a j) : Bd a i := by
  unfold Bd at h ⊢
  omega
theorem Bd.of_lt (h0 : 0 ≤ i) (h1 : i < j) (h : Bd a j) : Bd a i := Bd.of_le h0 (Int.le_of_lt h1) h
theorem Bd.of_abs (h0 : -j ≤ i) (h1 : i ≤ j) (h : Bd a j) : Bd a i := by
  unfold Bd at h ⊢
  omega
theorem Bd.lit (i : Int) : Bd (i.natAbs.log2 + 1) i := Nat.lt_log2_self
theorem Bd.pow (h : Bd a i) : ∀ k : Nat, Bd (a * k + 1) (i ^ k)
  | 0 => by
    rw [Int.pow_zero]
    show (1 : Int).natAbs < _
    rw [Nat.mul_zero]
    decide
  | k + 1 => by
    rw [Int.pow_succ]
    exact ((Bd.pow h k).mul h).up (by rw [Nat.mul_succ]; omega)
theorem cmw (h : Bd a i) (k : Bd b j) (z : a + b ≤ 900000) : CMulW i j := by
  have h1 := wide_lt h k
  unfold CMulW
  have x : ∀ (n : Nat) (m : Nat), m < 2 ^ n → m.log2 ≤ n := fun n m hm => by
    by_cases e : m = 0
    · subst e
      simp
    · exact Nat.le_of_lt ((Nat.log2_lt e).mpr hm)
  have := x a _ h
  have := x b _ k
  omega
theorem cdw (h : Bd b j) (h0 : 0 < j) (z : b ≤ 8000) : CDivW i j := ⟨h0, by
  have e : ¬ j.natAbs = 0 := by omega
  exact Nat.lt_of_lt_of_le ((Nat.log2_lt e).mpr h) (by omega)⟩
theorem cpw (h : Bd a i) (h0 : 0 ≤ j ∧ j ≤ 64) (z : a ≤ 900000) : CPowW i j := ⟨h0.1, h0.2, by
  by_cases e : i.natAbs = 0
  · rw [e]
    decide
  · exact Nat.lt_of_lt_of_le ((Nat.log2_lt e).mpr h) (by omega)⟩
theorem shw (h : Bd a i) (z : a ≤ 1900) : i.natAbs < 2 ^ 1900 := h.up z
end

/-! ### the built-ins by their names -/
theorem bt_abs : bootBuiltins "abs" = some (.builtin "abs") := by decide +kernel
theorem bt_max : bootBuiltins "max" = some (.builtin "max") := by decide +kernel
theorem bt_min : bootBuiltins "min" = some (.builtin "min") := by decide +kernel
theorem bt_len : bootBuiltins "len" = some (.builtin "len") := by decide +kernel
theorem bt_int : bootBuiltins "int" = some (.type "int") := by decide +kernel
theorem bt_tuple : bootBuiltins "tuple" = some (.type "tuple") := by decide +kernel
theorem bt_repr : bootBuiltins "repr" = some (.builtin "repr") := by decide +kernel
theorem bt_isinstance : bootBuiltins "isinstance" = some (.builtin "isinstance") := by decide +kernel
theorem bt_all : bootBuiltins "all" = some (.builtin "all") := by decide +kernel
theorem bt_sorted : bootBuiltins "sorted" = some (.builtin "sorted") := by decide +kernel
/-! ### a def by its body, over data -/
theorem gok_ds {P : Program} {w : World} {K : PySem.W.Frag} {mg : Str → Option Value} {base : Heap} {k m : Nat} {x qual : Str} {st : Stmt} {f : Addr} {fd : FuncData} {N ps : List Str} {C : Con} (F : Fun K x qual st f fd) (S : FnScope N ps (defScope st))
    (hm : N.length - ps.length = m) (ln : ∀ ds S Q, C ds S Q → ds.length = ps.length)
    (body : ∀ (cdv : Value) (A : Around) (fr : List Env) (s : Shared) (H : Hp) (E : XK), (A.deeper (envOfC qual (defScope st) s.heap.objs.size f cdv)).guards = some [] → Room k (A.deeper (envOfC qual (defScope st) s.heap.objs.size f cdv)) → ∀ (ds : List D) (S0 : Sto) (Q : D → Sto → Prop), C ds S0 Q →
      DS (cxOf CX0 P w K mg base N qual (defScope st) f cdv A fr s H E).nox (defBody st) (ds.map some ++ List.replicate m none) S0 { nx := fun _ S' => Q .non S', rt := Q }) : GOk P w K mg base (k + 1) f fd ps (spD K C) := by
  refine gok_of F S (fun vs H Q E h => ?_) fun cdv A fr s H vs Q E gd hr h => ?_
  · obtain ⟨ds, S0, Hd, Qd, r, _, c, _⟩ := h
    rw [r.length]
    exact ln _ _ _ c
  · obtain ⟨ds, S0, Hd, Qd, r, st0, c, fin⟩ := h
    have e : L2.start N vs = vs.map some ++ List.replicate m none := by
      unfold L2.start
      rw [r.length, ln _ _ _ c, hm]
    rw [e]
    exact body cdv A fr s H E gd hr ds S0 Qd c _ H Hd st0 (RpE.start m r) _ ⟨fun en S' σ H' Hd' z1 z2 _ q => fin .non S' .non H' Hd' q z1 z2 rfl, fun d S' v H' Hd' z1 z2 z3 q => fin d S' v H' Hd' q z1 z2 z3, fun _ _ _ _ _ _ _ _ q => q.elim, fun _ _ _ _ _ _ _ _ q => q.elim⟩
/-- it stands in the module -/
theorem cal_of {P : Program} {w : World} {K : PySem.W.Frag} {mg : Str → Option Value} {base : Heap} {k : Nat} {x qual : Str} {st : Stmt} {f : Addr} {fd : FuncData} {ps : List Str} {kws : List (Nat × List Str)} {C : Con} (F : Fun K x qual st f fd)
    (G : GOk P w K mg base k f fd ps (spD K C)) (hm : mg x = some (.ref f)) (hb : ∀ us : List Value, us.length = ps.length → bindArgs fd ⟨us, []⟩ = pure (ps.zip us)) (hk : ∀ p ∈ kws, KwOk fd ps p) : Cal P w K mg base k x ps kws C := ⟨f, fd, G, hm, F.kp, hb, hk⟩
theorem bargs_of {K : PySem.W.Frag} {x qual : Str} {st : Stmt} {f : Addr} {fd : FuncData} {ps : List Str} (F : Fun K x qual st f fd)
    (h : ∀ (kV doc pm : Value) (an : Option Addr) (cdv ct : Value) (us : List Value), us.length = ps.length → bindArgs (PySem.W.fnOf x qual (defArgs st) (defBody st) (defScope st) .none kV doc pm an cdv ct) ⟨us, []⟩ = pure (ps.zip us)) : ∀ us : List Value, us.length = ps.length → bindArgs fd ⟨us, []⟩ = pure (ps.zip us) := by
  obtain ⟨oc, od, kV, doc, pm, an, cdv, ct, osl, rfl, _, _⟩ := F.ex
  exact h kV doc pm an cdv ct
theorem kw_of {K : PySem.W.Frag} {x qual : Str} {st : Stmt} {f : Addr} {fd : FuncData} {ps : List Str} {p : Nat × List Str} (F : Fun K x qual st f fd) (h1 : p.1 + p.2.length = ps.length) (h2 : ∀ y ∈ ps.drop p.1, y ∈ p.2)
    (h : ∀ (kV doc pm : Value) (an : Option Addr) (cdv ct : Value) (us ws : List Value), us.length = p.1 → ws.length = p.2.length → bindArgs (PySem.W.fnOf x qual (defArgs st) (defBody st) (defScope st) .none kV doc pm an cdv ct) ⟨us, p.2.zip ws⟩ = pure (ps.zip (us ++ ordV .none (ps.drop p.1) p.2 ws))) : KwOk fd ps p := by
  obtain ⟨oc, od, kV, doc, pm, an, cdv, ct, osl, rfl, _, _⟩ := F.ex
  exact ⟨h1, h2, h kV doc pm an cdv ct⟩
end DL
namespace DL
open PySem PySem.Spec PyProof.Rows L2

/-! ### isinstance with a built-in type -/
def tyD : D → Option String
  | .non => some "NoneType"
  | .bl _ => some "bool"
  | .int _ => some "int"
  | .str _ => some "str"
  | .tup _ => some "tuple"
  | .lst _ => some "list"
  | .scr _ => some "list"
  | .raw _ => none
  | .ext _ => none
theorem tyX_of {K : PySem.W.Frag} {H : Hp} {d : D} {v : V} {t : String} (h : tyD d = some t) (r : Rp K H d v) (hs : ∀ l, d ≠ .scr l) : TyX K H v (.type t) := by
  cases d with
  | non => cases h; cases (show v = _ from r); exact .base .non
  | bl b => cases h; cases (show v = _ from r); exact .base (.bl b)
  | int i => cases h; cases (show v = _ from r); exact .base (.int i)
  | str x => cases h; cases (show v = _ from r); exact .base (.str x)
  | tup l =>
    cases h
    obtain ⟨a, xs, rfl, h1, _⟩ := r
    rcases h1 with (h1 | ⟨o, h1⟩) | ⟨o, its, n, h1, h2, _⟩
    · exact .base (.tup h1)
    · exact .fTuple h1
    · exact .kTuple h1 h2
  | lst l =>
    cases h
    obtain ⟨a, xs, rfl, h1, _⟩ := r
    exact .base (.lst h1)
  | raw u => cases h
  | ext u => cases h
  | scr l => exact absurd rfl (hs l)
section
variable {X : Cx} {K : PySem.W.Frag} {S : Sto} {Q : D → Sto → Prop} {d : D}
theorem drc_isi {t T : String} {b : Bool} (ht : tyD d = some t) (hk : kitB t T = some b) (q : Q (.bl b) S) (hs : ∀ l, d ≠ .scr l := by intro _ z; cases z) : DRC K (rIsi K) [d, .raw (.ty T)] S Q := fun H Hd vs Qv st rr k => by
  obtain ⟨v, w, e1, rv, rw'⟩ := two_rp rr
  have rw' : w = V.ty T := rw'
  subst e1 rw'
  exact ⟨v, .ty T, .type t, .type T, b, rfl, .ty T, tyX_of ht (Rp.mono st.sub d v rv) hs, kit_ty hk, k _ _ (.here (d := .bl b) st rfl q)⟩
theorem k_ii : kitB "int" "int" = some true := by decide +kernel
theorem k_ib : kitB "int" "bool" = some false := by decide +kernel
theorem k_bi : kitB "bool" "int" = some true := by decide +kernel
theorem k_bb : kitB "bool" "bool" = some true := by decide +kernel
theorem k_tt : kitB "tuple" "tuple" = some true := by decide +kernel
theorem k_si : kitB "str" "int" = some false := by decide +kernel
theorem k_ni : kitB "NoneType" "int" = some false := by decide +kernel
theorem k_ti : kitB "tuple" "int" = some false := by decide +kernel
theorem k_li : kitB "list" "int" = some false := by decide +kernel
theorem k_it : kitB "int" "tuple" = some false := by decide +kernel
theorem k_bt : kitB "bool" "tuple" = some false := by decide +kernel
theorem k_st : kitB "str" "tuple" = some false := by decide +kernel
theorem k_nt : kitB "NoneType" "tuple" = some false := by decide +kernel
theorem k_lt : kitB "list" "tuple" = some false := by decide +kernel
/-- a built-in type's name as a value -/
theorem de_ty {x : Str} {T : String} {en : DEnv} {pos : Pos} (hm : X.mg x = none) (hv : bootBuiltins x = some (.type T)) (q : Q (.raw (.ty T)) S) (hg : Gl X x := by rfl) (hn : x ≠ "__name__" := by decide) (hd : (x == ("__debug__" : Str)) = false := by decide) : DE X (.Name x pos) en S Q := ⟨fun _ _ _ st _ => wE_of (pe_bltn (v := .ty T) hg hm hv rfl hn hd) (.here (d := .raw (.ty T)) st rfl q)⟩
theorem bt_bool : bootBuiltins "bool" = some (.type "bool") := by decide +kernel
/-- all, any of a list of truths -/
theorem bls_of {H : Hp} : ∀ {bs : List Bool} {vs : List V}, RpL K H (bs.map D.bl) vs → vs = bs.map V.bl
  | [], _, h => h
  | b :: bs, _, h => by
    obtain ⟨x, xs, e1, e2, e3⟩ := h
    have e2 : x = V.bl b := e2
    rw [e1, e2, bls_of e3] <;> rfl
theorem drc_all {bs : List Bool} (q : Q (.bl (bs.all id)) S) : DRC K (rAll K) [.lst (bs.map D.bl)] S Q := fun H Hd vs Qv st rr k => by
  obtain ⟨v, e1, a, xs, f1, f2, f3⟩ := one_rp rr
  subst e1 f1
  exact ⟨a, bs, rfl, by rw [← bls_of f3]; exact .of (st.sub _ _ f2), k _ _ (.here (d := .bl _) st rfl q)⟩
/-! ### slices -/
variable {e : Expr} {en : DEnv} {R : Option Int → Prop}
theorem do_none (q : R none) : DO X none en S R := q
theorem do_some (h : DE X e en S fun x S' => S' = S ∧ ∃ i, x = .int i ∧ R (some i)) : DO X (some e) en S R := h
theorem sl_t2 {a b c : D} (q : Q (.tup [a, b]) S) : slP (.tup [a, b, c]) none (some 2) S Q := ⟨(show ¬ (HT.sIx 3 0 none = 0 ∧ HT.sIx 3 3 (some 2) = 3) by decide), q⟩
theorem sl_l {l : List D} {lo hi : Option Int} (q : Q (.lst (cutD l lo hi)) S) : slP (.lst l) lo hi S Q := q
theorem cut_to {l : List D} {n : Int} (h : 0 ≤ n) : cutD l none (some n) = l.take n.toNat := by
  unfold cutD HT.sIx
  simp only [Nat.sub_zero, List.drop_zero]
  have e1 : ¬ n < 0 := by omega
  simp only [e1, if_false]
  by_cases h2 : n.toNat ≤ l.length
  · congr 1
    omega
  · rw [List.take_of_length_le (by omega), List.take_of_length_le (by omega)]

theorem kws_cons {fd : FuncData} {ps : List Str} {p : Nat × List Str} {r : List (Nat × List Str)} (h : KwOk fd ps p) (k : ∀ q ∈ r, KwOk fd ps q) : ∀ q ∈ p :: r, KwOk fd ps q := fun q hq => by
  rcases List.mem_cons.mp hq with e | e
  · rw [e]
    exact h
  · exact k q e

/-! ### three targets at once -/
theorem ps_par3 {i j k : Nat} {x y z : Str} {a b c : Expr} {ta : TA} {px py pz pt pos : Pos} {kt k2 pt2} (hc : X.calm = true) (hN : X.N.Nodup) (hi : X.N[i]? = some x) (hj : X.N[j]? = some y) (hk : X.N[k]? = some z)
    (hx : X.env.scope.names.lookup x = some .local) (hy : X.env.scope.names.lookup y = some .local) (hz : X.env.scope.names.lookup z = some .local) (ha : PA X [a, b, c] ta)
    (hw : swappedStores [.Tuple [.Name x px, .Name y py, .Name z pz] kt pt] (.Tuple [a, b, c] k2 pt2) X.env = pure (some [x, y, z]))
    (hs : swapsWithSole [.Tuple [.Name x px, .Name y py, .Name z pz] kt pt] (.Tuple [a, b, c] k2 pt2) pos.line X.env = pure false := by first | exact sws1 rfl | exact sw0 rfl | rfl) :
    PS X (.Assign [.Tuple [.Name x px, .Name y py, .Name z pz] kt pt] (.Tuple [a, b, c] k2 pt2) pos) (fun D σ H => ta σ H fun vs H1 => ∃ u v w, vs = [u, v, w] ∧ D.nx (((σ.set k (some w)).set j (some v)).set i (some u)) H1) := by
  refine ⟨fun pins s σ H De I h => ?_⟩
  rw [exec_Assign_arm]
  refine wpAny_bind (wpAny_standAt ?_)
  rw [hs]
  refine wpAny_bind (wpAny_pure ?_)
  rw [if_neg Bool.false_ne_true]
  refine wpAny_bind (Tuple_ (thn (ha.run _ pins s σ H _ I h) fun us s1 ⟨vs, H1, I1, r1, u, v, w, e1, q1⟩ => ?_))
  subst e1
  obtain ⟨u1, u2, u3, e2, ru, rv, rw'⟩ : ∃ u1 u2 u3, us = [u1, u2, u3] ∧ RelV u u1 ∧ RelV v u2 ∧ RelV w u3 := by
    cases r1 with
    | cons p q => cases q with
      | cons p' q' => cases q' with
        | cons p2 q2 =>
          cases q2
          exact ⟨_, _, _, rfl, p, p', p2⟩
  subst e2
  refine wpAny_newObj_type ?_ (by show 3 ≤ sizeLine; decide)
  have I2 : Inv X pins σ H1 { s1 with heap := s1.heap.push { cls := .type "tuple", data := .seq [u1, u2, u3].toArray } } := I1.kept (t' := s1.toks) fun b o g => Heap.get?_push_of_some _ g
  rw [hw]
  refine wpAny_bind (wpAny_pure ?_)
  show wpAny (model X.prog X.w) X.A (do rule "assign.swapped-stores"; let items ← unpackItems (.ref s1.heap.objs.size) 3 none; assignInOrder [fun v => bindName X.env z v, fun v => bindName X.env y v, fun v => bindName X.env x v] items.reverse; pure Flow.next) _ _ _
  refine wpAny_bind (wpAny_rule (wpAny_bind (unpackItems_tuple (items := #[u1, u2, u3]) (I.ok.hd hc) (IsTup.new s1.heap _) fun h' hx' => ?_)))
  have I3 := I2.kept (h' := h') (t' := s1.toks) fun b o g => hx' b o (Nat.ne_of_lt (Heap.lt_size g)) g
  show wpAny _ _ (assignInOrder [fun v => bindName X.env z v, fun v => bindName X.env y v, fun v => bindName X.env x v] [u3, u2, u1] >>= fun _ => pure Flow.next) _ _ _
  refine wpAny_bind (assignInOrder_cons (wpAny_bindName (store_ok I3 hN hk (.inl hz) rw' (fun s2 I4 => ?_) (.inr hz))))
  refine assignInOrder_cons (wpAny_bindName (store_ok I4 hN hj (.inl hy) rv (fun s3 I5 => ?_) (.inr hy)))
  refine assignInOrder_cons (wpAny_bindName (store_ok I5 hN hi (.inl hx) ru (fun s4 I6 => assignInOrder_nil (wpAny_pure ?_)) (.inr hx)))
  exact ⟨_, _, I6, q1⟩
theorem ds_par3 {Z : Dn} {i j k : Nat} {x y z : Str} {a b c : Expr} {px py pz pt pos : Pos} {kt k2 pt2} (hc : X.calm = true) (hN : X.N.Nodup) (hi : X.N[i]? = some x) (hj : X.N[j]? = some y) (hk : X.N[k]? = some z)
    (h : DA X [a, b, c] en S fun vs S1 => ∃ u v w, vs = [u, v, w] ∧ Z.nx (((en.set k (some w)).set j (some v)).set i (some u)) S1)
    (hx : X.env.scope.names.lookup x = some .local := by rfl) (hy : X.env.scope.names.lookup y = some .local := by rfl) (hz : X.env.scope.names.lookup z = some .local := by rfl)
    (hw : swappedStores [.Tuple [.Name x px, .Name y py, .Name z pz] kt pt] (.Tuple [a, b, c] k2 pt2) X.env = pure (some [x, y, z]) := by rfl)
    (hs : swapsWithSole [.Tuple [.Name x px, .Name y py, .Name z pz] kt pt] (.Tuple [a, b, c] k2 pt2) pos.line X.env = pure false := by first | exact sws1 rfl | exact sw0 rfl | rfl) : DS1 X (.Assign [.Tuple [.Name x px, .Name y py, .Name z pz] kt pt] (.Tuple [a, b, c] k2 pt2) pos) en S Z := ⟨fun σ H Hd st re De l => by
  refine wS_of (ps_par3 hc hN hi hj hk hx hy hz paW hw hs) ?_
  refine wA_mono (h σ H Hd st re) fun vs H1 ⟨ds, S1, Hd1, e1, st1, r1, u, v, w, e2, q⟩ => ?_
  subst e2
  obtain ⟨u1, vs', f1, ru, r2⟩ := r1
  obtain ⟨v1, w1, f2, rv, rw'⟩ := two_rp r2
  subst f1 f2
  exact ⟨u1, v1, w1, rfl, l.nx _ S1 _ H1 Hd1 e1 st1 ((((re.mono e1).set rw' k).set rv j).set ru i) q⟩⟩
end

/-! ### the turns of a law over its script -/
theorem scr_turn {ns : List Int} {n : Int} (hn : 0 ≤ n ∧ n ≤ 64) {i : Nat} {d : D} (h : (enuD (cutD (ns.map D.int ++ [.int 0]) none (some n)))[i]? = some d) : i < 64 ∧ ∃ e : Int, d = .tup [.int (i : Nat), .int e] := by
  obtain ⟨x, h1, h2⟩ := enuD_get h
  rw [cut_to hn.1] at h1
  have hi := (List.getElem?_eq_some_iff.mp h1).1
  rw [List.length_take] at hi
  refine ⟨by omega, ?_⟩
  have m := List.mem_of_getElem? h1
  have m2 := List.mem_of_mem_take m
  rcases List.mem_append.mp m2 with z | z
  · obtain ⟨e, _, z2⟩ := List.mem_map.mp z
    exact ⟨e, by rw [h2, ← z2]⟩
  · have z2 : x = .int 0 := by simpa using z
    exact ⟨0, by rw [h2, z2]⟩

/-! ### the source of a law's numbers -/
def Src (m : Nat) (l : List D) : Prop := ∃ a b c : Int, l = [.int a, .int b, .int c] ∧ 0 ≤ a ∧ Bd 200 b ∧ (0 ≤ c ∧ c ≤ (m : Int)) ∧ 0 ≤ b
def con_source : Con := fun ds S Q => ∃ e k : Int, ds = [.int e, .int k] ∧ (0 ≤ k ∧ k ≤ 100) ∧ ∀ p l, getS p S = none → Src 0 l → Q (.raw (.ref p)) ((p, l) :: S)
def con_draw : Con := fun ds S Q => ∃ (p : Addr) (n : Int) (l : List D) (m : Nat), ds = [.raw (.ref p), .int n] ∧ getS p S = some l ∧ Src m l ∧ m ≤ 1000000 ∧ 0 < n ∧ Bd 400 n ∧ ∀ r l', 0 ≤ r → r < n → Src (m + 1) l' → Q (.int r) (setS p l' S)
def con_common : Con := fun ds S Q => ∃ a b : Int, ds = [.int a, .int b] ∧ Q (.int ((Nat.gcd a.natAbs b.natAbs : Nat) : Int)) S
/-- p, q, quarters are a turn -/
structure Tn (p q k : Int) : Prop where
  p1 : 1 ≤ p
  p2 : p ≤ 1000000000000000
  q1 : -p < q
  q2 : q < p
  g : Nat.gcd p.natAbs q.natAbs = 1
  o : (p + q) % 2 = 1
  k1 : 0 ≤ k
  k2 : k ≤ 3
theorem Tn.bp {p q k : Int} (h : Tn p q k) : Bd 50 p := by
  have := h.p1
  have := h.p2
  unfold Bd
  omega
theorem Tn.bq {p q k : Int} (h : Tn p q k) : Bd 50 q := by
  have := h.p2
  have := h.q1
  have := h.q2
  unfold Bd
  omega
def con_spin : Con := fun ds S Q => ∃ (p : Addr) (n : Int) (l : List D) (m : Nat), ds = [.raw (.ref p), .int n] ∧ getS p S = some l ∧ Src m l ∧ m ≤ 900000 ∧ 0 < n ∧ n ≤ 1000000000000000 ∧ ∀ a b k l', Tn a b k → a ≤ n → Src (m + 10) l' → Q (.tup [.int a, .int b, .int k]) (setS p l' S)
def con_dot : Con := fun ds S Q => ∃ (p : Addr) (n : Int) (l : List D) (m : Nat), ds = [.raw (.ref p), .int n] ∧ getS p S = some l ∧ Src m l ∧ m ≤ 900000 ∧ 0 ≤ n ∧ Bd 300 n ∧ ∀ x y l', (-n ≤ x ∧ x ≤ n) → (-n ≤ y ∧ y ≤ n) → Src (m + 2) l' → Q (.tup [.int x, .int y]) (setS p l' S)
theorem Src.up {m n : Nat} {l : List D} (h : Src m l) (k : m ≤ n) : Src n l := by
  obtain ⟨a, b, c, e, h1, h2, h3, h4⟩ := h
  exact ⟨a, b, c, e, h1, h2, ⟨h3.1, by omega⟩, h4⟩
theorem getS_setS_same {p : Addr} {S : Sto} {l n : List D} (h : getS p S = some l) : getS p (setS p n S) = some n := by
  rw [getS_setS, if_pos rfl, h] <;> rfl
theorem setS_setS {p : Addr} {n m : List D} : ∀ {S : Sto}, setS p n (setS p m S) = setS p n S
  | [] => rfl
  | (q, l) :: S => by
    by_cases h : q = p
    · subst h
      rw [setS_hd, setS_hd, setS_hd]
    · rw [setS_tl h, setS_tl h, setS_tl h, setS_setS]
end DL
namespace DL
open PySem PySem.Spec PyProof.Rows L2
section
variable {X : Cx} {a b : Expr} {en : DEnv} {S : Sto} {Q : D → Sto → Prop} {pos p : Pos}
end
end DL
namespace Tp
open PySem DL
end Tp
namespace DL
open PySem PySem.Spec PyProof.Rows L2
end DL
namespace DL
open PySem PySem.Spec PyProof.Rows L2
/-- a number and a pair of numbers -/
def d3 (t : Int × Int × Int) : D := .tup [.int t.1, .tup [.int t.2.1, .int t.2.2]]
/-- the ends of a statement's ways, told by one form -/
theorem ds_join {X : Cx} {st : Stmt} {en : DEnv} {S : Sto} {Z : Dn} {γ : Type} (E : γ → DEnv) (P : γ → Sto → Prop)
    (h : DS1 X st en S { nx := fun en3 S3 => ∃ g, Wk en3 (E g) ∧ P g S3, rt := Z.rt, bk := Z.bk, ct := Z.ct }) (k : ∀ g S', P g S' → Z.nx (E g) S') : DS1 X st en S Z := ⟨fun σ H Hd st re De l =>
  h σ H Hd st re De ⟨fun _ S5 σ5 H5 Hd5 w1 w2 w3 ⟨g, w4, w5⟩ => l.nx (E g) S5 σ5 H5 Hd5 w1 w2 (w4.use w3) (k g S5 w5), l.rt, l.bk, l.ct⟩⟩
end DL
namespace DL
open PySem PySem.Spec PyProof.Rows L2
/-- slots forgotten; slots with values -/
def fgt : List Nat → DEnv → DEnv
  | [], en => en
  | k :: ks, en => fgt ks (en.set k none)
def putU : List (Nat × D) → DEnv → DEnv
  | [], en => en
  | (k, d) :: us, en => putU us (en.set k (some d))
section
variable {X : Cx} {c tg iter : Expr} {body : List Stmt} {en : DEnv} {S : Sto} {Z : Dn} {pos : Pos}
theorem ds_forG {γ : Type} (ks : List Nat) (hp : PassesOwn (model X.prog X.w) X.A X.env X.xe) (hc : X.calm = true)
    (h : DI X tg iter en S fun ds S1 => ∃ (U : γ → List (Nat × D)) (E : γ → DEnv) (_ : ∀ g, putU (U g) (fgt ks en) = E g) (P : Nat → γ → Sto → Prop) (g0 : γ), Wk en (E g0) ∧ P 0 g0 S1 ∧
      (∀ i d g S', ds[i]? = some d → P i g S' → DG X tg d (E g) S' fun en2 S2 => DS X body en2 S2 { nx := fun en3 S3 => ∃ g', Wk en3 (E g') ∧ P (i + 1) g' S3, rt := Z.rt, ct := fun en3 S3 => ∃ g', Wk en3 (E g') ∧ P (i + 1) g' S3, bk := Z.nx }) ∧
      ∀ g S', P ds.length g S' → Z.nx (E g) S') (hs : ∀ x, foldedSetIterable iter X.env x = pure x := by first | exact fset rfl | (intro _; rfl)) : DS1 X (.For tg iter body [] pos) en S Z := by
  refine ds_for (γ := γ) hp hc ⟨fun σ H Hd st re => ?_⟩ hs
  intro pins s I
  refine thn (DI.run h σ H Hd st re pins s I) fun v s1 h1 => thn h1 fun itv s2 h2 => ?_
  obtain ⟨it, fp, tn, J, H2, e, I2, T, st2, f2, ds, S1, Hd1, e1, s01, io, U, E, _, P, g0, wk, p0, turn, fin⟩ := h2
  exact ⟨it, fp, tn, J, H2, e, I2, T, st2, f2, ds, S1, Hd1, e1, s01, io, E, P, g0, wk, p0, turn, fin⟩
end
end DL
namespace DL
open PySem PySem.Spec PyProof.Rows L2
section
variable {X : Cx} {K : PySem.W.Frag} {S : Sto} {Q : D → Sto → Prop}
end
end DL
namespace DL
open PySem PySem.Spec PyProof.Rows L2
/-! ### comprehensions with several targets -/
def setV : List Nat → List D → DEnv → DEnv
  | i :: is, d :: ds, en => setV is ds (en.set i (some d))
  | _, _, en => en
def wipeE : List Nat → DEnv → DEnv
  | [], en => en
  | i :: is, en => (wipeE is en).set i none
def setW : List Nat → List V → L2.St → L2.St
  | i :: is, v :: vs, σ => setW is vs (σ.set i (some v))
  | _, _, σ => σ
def gNames : List Nat → TGs
  | [] => gNil
  | i :: is => gCons (gName i) (gNames is)
theorem RpE.drop {K : PySem.W.Frag} {H : Hp} : ∀ {en : DEnv} {σ : L2.St} (i : Nat), RpE K H en σ → RpE K H (en.set i none) (σ.set i none)
  | [], _, _, h => by
    have h : _ = [] := h
    subst h
    rfl
  | none :: es, _, 0, h => let ⟨o, σ', e1, e2⟩ := h; ⟨none, σ', by rw [e1] <;> rfl, e2⟩
  | some x :: es, _, 0, h => let ⟨o, σ', e1, _, e2⟩ := h; ⟨none, σ', by rw [e1] <;> rfl, e2⟩
  | none :: es, _, i + 1, h => let ⟨o, σ', e1, e2⟩ := h; ⟨o, σ'.set i none, by rw [e1] <;> rfl, e2.drop i⟩
  | some x :: es, _, i + 1, h => let ⟨o, σ', e1, e0, e2⟩ := h; ⟨o, σ'.set i none, by rw [e1] <;> rfl, e0, e2.drop i⟩
theorem RpE.wipe {K : PySem.W.Frag} {H : Hp} {en : DEnv} {σ : L2.St} (h : RpE K H en σ) : ∀ is : List Nat, RpE K H (wipeE is en) (wipe σ is)
  | [] => h
  | i :: is => (RpE.wipe h is).drop i
theorem RpE.setV {K : PySem.W.Frag} {H : Hp} : ∀ {is : List Nat} {ds : List D} {vs : List V} {en : DEnv} {σ : L2.St}, RpE K H en σ → RpL K H ds vs → RpE K H (setV is ds en) (setW is vs σ)
  | [], _, _, _, _, h, _ => h
  | i :: is, [], vs, _, _, h, r => by
    have r : vs = [] := r
    subst r
    exact h
  | i :: is, d :: ds, _, _, _, h, r => by
    obtain ⟨v, vs', e1, rv, r2⟩ := r
    subst e1
    exact RpE.setV (is := is) (h.set rv i) r2
theorem gNames_go : ∀ {is : List Nat} {vs : List V} {σ : L2.St} {H : Hp} {Q : L2.St → Hp → Prop}, vs.length = is.length → Q (setW is vs σ) H → gNames is vs σ H Q
  | [], [], _, _, _, _, q => ⟨rfl, q⟩
  | [], _ :: _, _, _, _, h, _ => by cases h
  | _ :: _, [], _, _, _, h, _ => by cases h
  | i :: is, v :: vs, _, _, _, h, q => ⟨v, vs, rfl, gNames_go (is := is) (by simpa using h) q⟩
theorem wipe_at (σ : L2.St) (n : Nat) : ∀ is : List Nat, (wipe σ is)[n]? = if n ∈ is then (σ[n]?).map (fun _ => none) else σ[n]?
  | [] => by simp [wipe]
  | i :: is => by
    show ((wipe σ is).set i none)[n]? = _
    rw [List.getElem?_set, wipe_at σ n is, wipe_length]
    by_cases e : i = n
    · subst e
      rw [if_pos rfl, if_pos List.mem_cons_self]
      by_cases hl : i < σ.length
      · rw [if_pos hl, List.getElem?_eq_getElem hl] <;> rfl
      · rw [if_neg hl, List.getElem?_eq_none (by omega)] <;> rfl
    · rw [if_neg e]
      have : (n ∈ i :: is) ↔ n ∈ is := ⟨fun h => (List.mem_cons.mp h).elim (fun z => absurd z.symm e) id, List.mem_cons_of_mem _⟩
      simp only [this]
theorem wipe_set {i : Nat} {x : Option V} {σ : L2.St} {is : List Nat} (h : i ∈ is) : wipe (σ.set i x) is = wipe σ is := by
  refine List.ext_getElem? fun n => ?_
  rw [wipe_at, wipe_at]
  by_cases hn : n ∈ is
  · rw [if_pos hn, if_pos hn, List.getElem?_set]
    by_cases e : i = n
    · subst e
      rw [if_pos rfl]
      by_cases hl : i < σ.length
      · rw [if_pos hl, List.getElem?_eq_getElem hl] <;> rfl
      · rw [if_neg hl, List.getElem?_eq_none (by omega)]
    · rw [if_neg e]
  · rw [if_neg hn, if_neg hn, List.getElem?_set, if_neg (fun e : i = n => hn (by rw [← e]; exact h))]
theorem wipe_setW : ∀ {js : List Nat} {vs : List V} {σ : L2.St} {is : List Nat}, (∀ j ∈ js, j ∈ is) → wipe (setW js vs σ) is = wipe σ is
  | [], _, _, _, _ => rfl
  | _ :: _, [], _, _, _ => rfl
  | j :: js, v :: vs, σ, is, h => by
    show wipe (setW js vs (σ.set j (some v))) is = _
    rw [wipe_setW (js := js) fun k hk => h k (List.mem_cons_of_mem _ hk), wipe_set (h j List.mem_cons_self)]
theorem wipe_wipe (σ : L2.St) (is : List Nat) : wipe (wipe σ is) is = wipe σ is := by
  refine List.ext_getElem? fun n => ?_
  rw [wipe_at, wipe_at]
  by_cases hn : n ∈ is
  · rw [if_pos hn, if_pos hn, Option.map_map] <;> rfl
  · rw [if_neg hn, if_neg hn]
section
variable {X : Cx} {elt iter c tg : Expr} {en : DEnv} {S : Sto} {Q : D → Sto → Prop} {pos : Pos} {scope : Scope} {ifs : List Expr} {tt : TT}
theorem lc_goT (is : List Nat) (te : TE) {n : Nat} (hn : is.length = n) (mT : ∀ (σ : L2.St) (H : Hp) (A B : Bool → Hp → Prop), tt σ H A → (∀ b H', A b H' → B b H') → tt σ H B) (mE : ∀ (σ : L2.St) (H : Hp) (A B : VK), te σ H A → (∀ v H', A v H' → B v H') → te σ H B)
    (h : DI X tg iter en S fun ds S1 => ∃ (P : Nat → List D → Sto → Prop), P 0 [] S1 ∧
      (∀ k d acc S' p, ds[k]? = some d → P k acc S' → getS p S' = none → acc.length ≤ k → ∃ vals, d = .tup vals ∧ vals.length = n ∧ ∀ (σ : L2.St) (H Hd : Hp), St0 X.K ((p, acc) :: S') Hd H → RpE X.K Hd (setV is vals (wipeE is en)) σ →
        tt σ H fun b H3 => if b = true then te σ H3 fun v H4 => ∃ d2 S4 Hd4, Same Hd Hd4 ∧ St0 X.K ((p, acc) :: S4) Hd4 H4 ∧ Rp X.K Hd4 d2 v ∧ P (k + 1) (acc ++ [d2]) S4 else ∃ S4 Hd4, Same Hd Hd4 ∧ St0 X.K ((p, acc) :: S4) Hd4 H3 ∧ P (k + 1) acc S4) ∧
      ds.length ≤ 100000 ∧ ∀ acc S', acc.length ≤ ds.length → P ds.length acc S' → Q (.lst acc) S') {σ : L2.St} {H Hd : Hp} (st : St0 X.K S Hd H) (re : RpE X.K Hd en σ) (Qv : VK) (kq : ∀ v H', QD X.K Hd Q v H' → Qv v H') : tLc (wI X tg iter) (gTup X.K n (gNames is)) tt te is σ H Qv := by
  intro pins s I
  refine thn (h σ H Hd st re pins s I) fun v s1 h1 => thn h1 fun itv s2 h2 => ?_
  obtain ⟨it, fp, tn, J, H2, e, I2, T, st2, f2, ds, S1, Hd1, e1, s01, io, P, p0, turn, lim, fin⟩ := h2
  refine ⟨it, fp, tn, J, H2, e, I2, T, st2, f2, fun p hp => ?_⟩
  obtain ⟨fr, s02⟩ := s01.laidO (l := []) (xs := []) hp rfl
  refine ⟨fun k m H => m = ds.length - k ∧ k ≤ ds.length ∧ ∃ acc S' Hd', acc.length ≤ k ∧ Same Hd1 Hd' ∧ St0 X.K ((p, acc) :: S') Hd' H ∧ P k acc S', ⟨_, rfl, Nat.zero_le _, [], S1, Hd1, Nat.le_refl _, Same.refl _, s02, p0⟩, ?_⟩
  rintro k m H ⟨rfl, hk, acc, S', Hd', ka, k1, k2, k3⟩
  by_cases hlt : k < ds.length
  · obtain ⟨go, yl⟩ := io.go k1 k2 (List.getElem?_eq_getElem hlt)
    refine .inr ⟨go, fun H' => ∃ acc S' Hd', acc.length ≤ k + 1 ∧ Same Hd1 Hd' ∧ St0 X.K ((p, acc) :: S') Hd' H' ∧ P (k + 1) acc S', fun H' q => ⟨ds.length - (k + 1), by omega, rfl, hlt, q⟩, fun x H' y => ?_⟩
    obtain ⟨Hd2, y1, y2, y3⟩ := yl x H' y
    obtain ⟨vals, ed, el, go2⟩ := turn k _ acc S' p (List.getElem?_eq_getElem hlt) k3 k2.own.2.1 ka
    rw [ed] at y3
    obtain ⟨a, xs, f1, f2', f3⟩ := y3
    have hxl : xs.length = n := by rw [f3.length]; exact el
    refine ⟨a, xs, f1, same_t y2.sub f2', hxl, ?_⟩
    refine gNames_go (is := is) (by rw [hxl, hn]) ?_
    refine ⟨by rw [wipe_setW fun j hj => hj, wipe_wipe], ?_⟩
    have reB := RpE.setV (is := is) ((re.mono (e1.trans (k1.trans y1))).wipe is) f3
    have go2 := go2 _ H' Hd2 y2 reB
    have en1 : ∀ (H4 : Hp) (v : V) (d2 : D) (S4 : Sto) (Hd4 : Hp), Same Hd2 Hd4 → St0 X.K ((p, acc) :: S4) Hd4 H4 → Rp X.K Hd4 d2 v → P (k + 1) (acc ++ [d2]) S4 →
        ∃ vs, H4 p = some (.lst vs) ∧ vs.length < sizeLine ∧ ∃ acc S' Hd', acc.length ≤ k + 1 ∧ Same Hd1 Hd' ∧ St0 X.K ((p, acc) :: S') Hd' (upd H4 p (.lst (vs ++ [v]))) ∧ P (k + 1) acc S' := by
      intro H4 v d2 S4 Hd4 z1 z2 z3 z4
      obtain ⟨_, xs, hx, rx⟩ := z2.own.at (l := acc) getS_hd
      refine ⟨xs, hx, by rw [rx.length]; exact Nat.lt_of_le_of_lt (Nat.le_trans ka hk) (Nat.lt_of_le_of_lt lim (by decide)), acc ++ [d2], S4, Hd4, by rw [List.length_append, List.length_singleton]; omega, k1.trans (y1.trans z1), ?_, z4⟩
      have w := z2.written (l' := acc ++ [d2]) (ys := xs ++ [v]) getS_hd (rx.append (show RpL X.K Hd4 [d2] [v] from ⟨v, [], rfl, z3, rfl⟩))
      rw [setS_hd] at w
      exact w
    refine mT _ _ _ _ go2 fun b H3 q => ?_
    cases b with
    | true =>
      rw [if_pos rfl] at q ⊢
      exact mE _ _ _ _ q fun v H4 ⟨d2, S4, Hd4, z1, z2, z3, z4⟩ => en1 H4 v d2 S4 Hd4 z1 z2 z3 z4
    | false =>
      rw [if_neg Bool.false_ne_true] at q ⊢
      obtain ⟨S4, Hd4, z1, z2, z3⟩ := q
      exact ⟨acc, S4, Hd4, Nat.le_succ_of_le ka, k1.trans (y1.trans z1), z2, z3⟩
  · have e0 : k = ds.length := by omega
    subst e0
    obtain ⟨xs, rx, ex, sx⟩ := k2.frozen
    exact .inl ⟨io.stop k1 k2, kq _ _ ⟨.lst acc, S', _, e1.trans (k1.trans ex), sx, ⟨p, xs, rfl, upd_same, rx.mono ex⟩, fin acc S' ka k3⟩⟩
def Lc0T (X : Cx) (scope : Scope) (is : List Nat) (n : Nat) (tg : Expr) (elt iter : Expr) (en : DEnv) (S : Sto) (Q : D → Sto → Prop) : Prop := DI X tg iter en S fun ds S1 => ∃ (P : Nat → List D → Sto → Prop), P 0 [] S1 ∧
  (∀ k d acc S' p, ds[k]? = some d → P k acc S' → getS p S' = none → acc.length ≤ k → ∃ vals, d = .tup vals ∧ vals.length = n ∧ ∃ en', setV is vals (wipeE is en) = en' ∧ Turn1 X scope elt en' S' p acc (P (k + 1))) ∧ ds.length ≤ 100000 ∧ ∀ acc S', acc.length ≤ ds.length → P ds.length acc S' → Q (.lst acc) S'
theorem lc0T_read {is : List Nat} {n : Nat} (hn : is.length = n) (h : Lc0T X scope is n tg elt iter en S Q) {σ : L2.St} {H Hd : Hp} (st : St0 X.K S Hd H) (re : RpE X.K Hd en σ) (Qv : VK) (kq : ∀ v H', QD X.K Hd Q v H' → Qv v H') : tLc (wI X tg iter) (gTup X.K n (gNames is)) tYes (teB X scope elt) is σ H Qv := by
  refine lc_goT (tt := tYes) is _ hn (fun σ H A B q k => k _ _ q) (fun σ H A B q k s0 H0 C cl fp => wE_mono (q s0 H0 C cl fp) k) ?_ st re Qv kq
  refine ⟨fun σ H Hd st re => ?_⟩
  intro pins s I
  refine thn (DI.run h σ H Hd st re pins s I) fun v s1 h1 => thn h1 fun itv s2 h2 => ?_
  obtain ⟨it, fp, tn, J, H2, e, I2, T, st2, f2, ds, S1, Hd1, e1, s01, io, P, p0, turn, lim, fin⟩ := h2
  refine ⟨it, fp, tn, J, H2, e, I2, T, st2, f2, ds, S1, Hd1, e1, s01, io, P, p0, fun k d acc S' p hk hP hp hl => ?_, lim, fin⟩
  obtain ⟨vals, ed, el, en', ee, t1⟩ := turn k d acc S' p hk hP hp hl
  refine ⟨vals, ed, el, fun σ H Hd st re => ?_⟩
  rw [ee] at re
  show tYes σ H _
  unfold tYes
  simp only [↓reduceIte]
  intro s0 H0 C cl fp
  exact wE_mono (t1 s0 H0 C cl fp σ H Hd st re) fun v H4 ⟨d2, S2, Hd4, z1, z2, z3, S3, z4, z5⟩ => by
    subst z4
    exact ⟨d2, S3, Hd4, z1, z2, z3, z5⟩
variable {own : List (Str × Nat)} {n : Nat}
/-- [elt for a, b in iter] -/
theorem de_lcT (is : List Nat) (hc : X.calm = true) (hN : X.N.Nodup) (ok : BlkOk X.N X.env.scope scope own) (ho : own.map (·.2) = is) (hn : is.length = n) (h : Lc0T X scope is n tg elt iter en S Q)
    (hg : ∀ (s : Shared) (H : Hp) (C : Addr) (cl : List (Str × Addr)) (fp : List Addr), PG (bX X scope s H C cl fp) tg (gTup X.K n (gNames is)))
    (hs : ∀ x, foldedSetIterable iter X.env x = pure x := by first | exact fset rfl | (intro _; rfl)) : DE X (.ListComp elt [⟨tg, iter, [], 0⟩] scope pos) en S Q := ⟨fun σ H Hd st re => by
  subst ho
  exact wE_of (pe_lc hc hN piW ok hg (fun _ _ _ _ _ => pts_nil) (pe_blk (te := teB X scope elt) rfl) hs) (lc0T_read hn h st re _ fun _ _ z => z)⟩
theorem ds_setLcT {Z : Dn} {spos px : Pos} {x : Str} (j : Nat) (is : List Nat) (hc : X.calm = true) (hN : X.N.Nodup) (hj : X.N[j]? = some x) (hx : X.env.scope.names.lookup x = some .local)
    (hsw : swapsWith (.ListComp elt [⟨tg, iter, [], 0⟩] scope pos) (some (.Name x px)) spos.line X.env = pure true) (ok : BlkOk X.N X.env.scope scope own) (ho : own.map (·.2) = is) (hn : is.length = n)
    (h : Lc0T X scope is n tg elt iter en S fun d S' => Z.nx (en.set j (some d)) S')
    (hg : ∀ (s : Shared) (H : Hp) (C : Addr) (cl : List (Str × Addr)) (fp : List Addr), PG (bX X scope s H C cl fp) tg (gTup X.K n (gNames is)))
    (hs : ∀ x, foldedSetIterable iter X.env x = pure x := by first | exact fset rfl | (intro _; rfl)) : DS1 X (.Assign [.Name x px] (.ListComp elt [⟨tg, iter, [], 0⟩] scope pos) spos) en S Z := ⟨fun σ H Hd st re De l => by
  subst ho
  exact wS_of (ps_setLc hc hN hj hx hsw piW ok hg (fun _ _ _ _ _ => pts_nil) (pe_blk (te := teB X scope elt) rfl) hs) (lc0T_read hn h st re _ fun v H' ⟨d, S', Hd', e', st', r, q⟩ => l.nx _ S' _ H' Hd' e' st' ((re.mono e').set r j) q)⟩
end
end DL
namespace DL
open PySem PySem.Spec PyProof.Rows L2
/-! ### in, not in over any data; is None; repr of plain values -/
theorem room_shaped {d : PyData} {A : Around} (h : SeqAt.shaped d = true) (hu : A.units + 65 < cLine) {n : Nat} : A.units + 1 + min n d.depth < cLine := by
  have h2 : d.depth ≤ 64 := by
    unfold SeqAt.shaped at h
    rw [Bool.and_eq_true] at h
    exact of_decide_eq_true h.2
  omega
def rInT (K : PySem.W.Frag) (neg : Bool) : R2 := fun x y H Q => ∃ d ds, Dp K H x d ∧ Dp K H y (.tuple ds) ∧ SeqAt.shaped d = true ∧ PyData.canLayAll0 ds = true ∧ Q (.bl (if neg then !ds.any fun z => PyData.eqv z d else ds.any fun z => PyData.eqv z d)) H
theorem op_notInT {X : Cx} (hu : X.A.units + 65 < cLine) : OpR X (compareOp .NotIn) (rInT X.K true) := by
  intro pins s σ H x y v u Q I rx ry h
  obtain ⟨d, ds, hd, he, sd, se, q⟩ := h
  obtain ⟨as, r1⟩ := Dp.reads I d x v hd rx
  obtain ⟨bs, r2⟩ := Dp.reads I (.tuple ds) y u he ry
  exact SeqAt.notIn_tuple_reads r2 r1 se (SeqAt.canLay_of_shaped sd) (room_shaped sd hu) ⟨.bl _, H, I, rfl, q⟩
theorem any_toPy (x : D) : ∀ l : List D, ((toPyL l).any fun z => PyData.eqv z (toPy x)) = l.any fun z => eqB z x
  | [] => rfl
  | d :: l => by
    show (PyData.eqv (toPy d) (toPy x) || (toPyL l).any _) = (eqB d x || l.any _)
    rw [any_toPy x l] <;> rfl
def inP (x y : D) (S : Sto) (Q : Bool → Sto → Prop) : Prop := match y with
  | .lst l => (flatOk 9 x = true ∧ flatOkL 8 l = true) ∧ Q (l.any fun z => eqB z x) S
  | .tup l => (flatOk 9 x = true ∧ flatOkL 8 l = true) ∧ Q (l.any fun z => eqB z x) S
  | _ => False
theorem flat9l {l : List D} (h : flatOkL 8 l = true) : flatOk 9 (.lst l) = true := by simpa [flatOk] using h
theorem flat9t {l : List D} (h : flatOkL 8 l = true) : flatOk 9 (.tup l) = true := by simpa [flatOk] using h
theorem dr_notin {K : PySem.W.Frag} {x y : D} {S : Sto} {Q : D → Sto → Prop} (h : inP x y S fun b S' => Q (.bl (!b)) S') : DR2 K (fun x y H Q => rNotInD K x y H Q ∨ rInT K true x y H Q) x y S Q := by
  intro H Hd vx vy Qv st rx ry k
  unfold inP at h
  split at h
  · rename_i l
    obtain ⟨⟨h1, h2⟩, q⟩ := h
    exact .inl ⟨toPy x, toPyL l, dp_of 9 x vx h1 (Rp.mono st.sub x vx rx), dp_of 9 (.lst l) vy (flat9l h2) (Rp.mono st.sub _ vy ry), shaped_of h1 (by decide), shaped_of (d := .lst l) (flat9l h2) (by decide), by rw [any_toPy]; exact k _ _ (.here (d := .bl _) st rfl q)⟩
  · rename_i l
    obtain ⟨⟨h1, h2⟩, q⟩ := h
    exact .inr ⟨toPy x, toPyL l, dp_of 9 x vx h1 (Rp.mono st.sub x vx rx), dp_of 9 (.tup l) vy (flat9t h2) (Rp.mono st.sub _ vy ry), shaped_of h1 (by decide), (layAll_of 8 l h2).1, by rw [any_toPy]; exact k _ _ (.here (d := .bl _) st rfl q)⟩
  · exact h.elim
section
variable {X : Cx} {a b c e : Expr} {en : DEnv} {S : Sto} {Q : D → Sto → Prop} {P : Bool → Sto → Prop} {pos p : Pos}
theorem hu65 {A : Around} {k : Nat} (hr : Room k A) : A.units + 65 < cLine := by
  have := hr.un
  omega
/-- is it None, for all data but the raw -/
def nonB : D → Option Bool
  | .non => some true
  | .raw _ => none
  | .ext _ => none
  | _ => some false
theorem nonB_of {K : PySem.W.Frag} {H : Hp} {d : D} {v : V} {t : Bool} (h : nonB d = some t) (r : Rp K H d v) : decide (v = .non) = t := by
  cases d with
  | non => cases h; exact decide_eq_true r
  | bl b => cases h; rw [show v = V.bl b from r] <;> rfl
  | int b => cases h; rw [show v = V.int b from r] <;> rfl
  | str b => cases h; rw [show v = V.str b from r] <;> rfl
  | tup l => cases h; obtain ⟨a, xs, e, _⟩ := r; rw [e] <;> rfl
  | lst l => cases h; obtain ⟨a, xs, e, _⟩ := r; rw [e] <;> rfl
  | raw u => cases h
  | ext u => cases h
  | scr l => cases h; obtain ⟨a, e, _⟩ := r; rw [e] <;> rfl
theorem de_isN {j} {p2 : Pos} (h : DE X a en S fun x S1 => ∃ t, nonB x = some t ∧ Q (.bl t) S1) : DE X (.Compare a [.Is] [.Constant .none j p2] pos) en S Q :=
  de_cmpR op_isN (nobehind _ (by decide) (by decide)) (h.mono fun x S1 ⟨t, h1, q⟩ => de_non fun H Hd vx vy Qv st rx ry k => ⟨ry, by rw [nonB_of h1 rx]; exact k _ _ (.here (d := .bl t) st rfl q)⟩)
theorem dt_notin (hu : X.A.units + 65 < cLine) (h : DE X a en S fun x S1 => DE X b en S1 fun y S2 => inP x y S2 fun b S' => P (!b) S') (hm : behindInMarks .NotIn b = false := by rfl) : DT X (.Compare a [.NotIn] [b] pos) en S P :=
  dt_cmp (OpR.or (op_notInD hu) (op_notInT hu)) hm (h.mono fun _ _ h1 => h1.mono fun x S2 h2 => dr_notin (by
    unfold inP at h2 ⊢
    split at h2 <;> first | exact ⟨h2.1, _, rfl, h2.2⟩ | exact h2))
theorem dt_isN {j} {p2 : Pos} (h : DE X a en S fun x S1 => ∃ t, nonB x = some t ∧ P t S1) : DT X (.Compare a [.Is] [.Constant .none j p2] pos) en S P :=
  dt_cmp op_isN (nobehind _ (by decide) (by decide)) (h.mono fun x S1 ⟨t, h1, q⟩ => de_non fun H Hd vx vy Qv st rx ry k => ⟨ry, by rw [nonB_of h1 rx]; exact k _ _ (.here (d := .bl t) st rfl ⟨t, rfl, q⟩)⟩)
end
end DL
namespace DL
open PySem PySem.Spec PyProof.Rows L2
/-! ### sorted over data -/
theorem each_zip {α β : Type} {R : α → β → Prop} : ∀ {as : List α} {bs : List β}, PySem.W.EachIs R as bs → ∀ p ∈ as.zip bs, R p.1 p.2
  | [], _, _, p, h => by simp at h
  | _ :: _, [], _, p, h => by simp at h
  | a :: as, b :: bs, .cons r e, p, h => by
    rw [List.zip_cons_cons] at h
    rcases List.mem_cons.mp h with z | z
    · rw [z]; exact r
    · exact each_zip e p z
theorem each_self {α β : Type} : ∀ {as : List α} {bs : List β}, as.length = bs.length → PySem.W.EachIs (fun a b => (a, b) ∈ as.zip bs) as bs
  | [], [], _ => .nil
  | [], _ :: _, h => by cases h
  | _ :: _, [], h => by cases h
  | a :: as, b :: bs, h => by
    refine .cons (by rw [List.zip_cons_cons]; exact List.mem_cons_self) ?_
    have := each_self (as := as) (bs := bs) (by simpa using h)
    exact this.mono fun x y z => by rw [List.zip_cons_cons]; exact List.mem_cons_of_mem _ z
theorem each_reads {h : Heap} {β : Type} {enc : β → PyData} : ∀ {bs : List β} {vs : List Value} {as : List Addr}, ReadsAll h vs (bs.map enc) as → PySem.W.EachIs (fun v b => ∃ as, Reads h v (enc b) as) vs bs
  | [], vs, as, r => by cases r; exact .nil
  | b :: bs, vs, as, r => by
    cases r with
    | cons r1 r2 => exact .cons ⟨_, r1⟩ (each_reads r2)
def rSrtD (K : PySem.W.Frag) : List V → Hp → VK → Prop := fun vs H Q => ∃ (β : Type) (enc : β → PyData) (bs : List β) (a : Addr) (xs : List V), vs = [.ref a] ∧ SqL K H a xs ∧ DpAll K H xs (bs.map enc) ∧ (∀ x ∈ xs, ∃ t, x = V.ref t) ∧ PySem.W.AllAlike (bs.map enc) ∧ PySem.W.Sortable (bs.map enc) ∧
  (∀ b ∈ bs, (enc b).depth ≤ 20) ∧ bs.length ≤ sizeLine ∧ ∀ ys p, H p = none → (∀ ρ : V → β → Prop, PySem.W.EachIs ρ xs bs → PySem.W.EachIs ρ ys (bs.mergeSort (PySem.W.dataLe false enc))) → Q (.ref p) (upd H p (.lst ys))
theorem each_map_l {α γ β : Type} {f : α → γ} {R : γ → β → Prop} : ∀ {as : List α} {bs : List β}, PySem.W.EachIs (fun a b => R (f a) b) as bs → PySem.W.EachIs R (as.map f) bs
  | _, _, .nil => .nil
  | _, _, .cons r e => .cons r (each_map_l e)
theorem cr_sortD {X : Cx} (hu : X.A.units + 65 < cLine) : CallR X (.builtin "sorted") (rSrtD X.K) := by
  intro pins s σ H vs us Q I r h
  obtain ⟨β, enc, bs, a, xs, rfl, hs, hd, hx, hal, hso, hdp, hln, q⟩ := h
  obtain ⟨its, rv, hl, hz⟩ := I.list hs
  obtain ⟨u, rfl, ru⟩ := rv1 r
  obtain rfl : u = Value.ref a := ru
  obtain ⟨e1, e2⟩ := refs_back rv hx
  obtain ⟨as, rr⟩ := Dp.readsAll I (bs.map enc) xs its hd rv
  have er := each_reads rr
  have hlen := er.length
  refine PySem.W.sorted_data (R := fun u b => (u, b) ∈ its.zip bs) (vs := its) hl.isList (each_self hlen) er hal hso hln (fun b hb => by have := hdp b hb; omega) fun out ho hE => ?_
  have hin : ∀ u ∈ out, u ∈ its := fun u hu => by
    obtain ⟨i, hi, e⟩ := List.getElem_of_mem hu
    have hl2 := hE.length
    have := each_zip hE (out[i], (bs.mergeSort (PySem.W.dataLe false enc))[i]'(by omega)) (by
      rw [List.mem_iff_getElem]
      exact ⟨i, by rw [List.length_zip]; omega, by rw [List.getElem_zip]⟩)
    rw [e] at this
    exact (List.of_mem_zip this).1
  have h3 : ∀ u ∈ out, ∃ a, u = Value.ref a := fun u hu => e2 u (hin u hu)
  obtain ⟨n, hn⟩ := sortedAll_at s.heap its (List.toArray out)
  refine ⟨.ref (s.heap.objs.size + 1), upd H (s.heap.objs.size + 1) (.lst (out.map backV)), I.laid (t' := s.toks) (fun b o hb => sortedAll_old hb) (Nat.le_succ _) ⟨?_, out, n, vals_back h3, hn⟩, rfl, q _ _ (I.hok.fresh (Nat.le_succ _)) fun ρ hρ => ?_⟩
  · rw [List.length_map, ho]
    exact hln
  · refine each_map_l (hE.mono fun u b hub => ?_)
    rw [e1] at hρ
    have := each_zip hρ (backV u, b) (by
      rw [List.zip_map_left]
      exact List.mem_map.mpr ⟨(u, b), hub, rfl⟩)
    exact this
where
  rv1 {v : V} {us : List Value} (r : Vals [v] us) : ∃ u, us = [u] ∧ RelV v u := by
    cases r with
    | cons a b => cases b; exact ⟨_, rfl, a⟩
/-- pairs of ints -/
def pr2 (t : Int × Int) : D := .tup [.int t.1, .int t.2]
def le2 (p q : Int × Int) : Bool := decide (p.1 < q.1 ∨ (p.1 = q.1 ∧ p.2 ≤ q.2))
theorem rpL_each {K : PySem.W.Frag} {H : Hp} {β : Type} {dd : β → D} : ∀ {bs : List β} {xs : List V}, RpL K H (bs.map dd) xs → PySem.W.EachIs (fun x b => Rp K H (dd b) x) xs bs
  | [], _, h => by
    have h : _ = [] := h
    subst h
    exact .nil
  | b :: bs, _, h => by
    obtain ⟨x, xs, rfl, r, h2⟩ := h
    exact .cons r (rpL_each h2)
theorem each_rpL {K : PySem.W.Frag} {H : Hp} {β : Type} {dd : β → D} : ∀ {bs : List β} {xs : List V}, PySem.W.EachIs (fun x b => Rp K H (dd b) x) xs bs → RpL K H (bs.map dd) xs
  | _, _, .nil => rfl
  | _, _, .cons r e => ⟨_, _, rfl, r, each_rpL e⟩
theorem toPyL_map {β : Type} (dd : β → D) : ∀ bs : List β, toPyL (bs.map dd) = bs.map fun b => toPy (dd b)
  | [] => rfl
  | b :: bs => by
    show toPy (dd b) :: toPyL (bs.map dd) = _
    rw [toPyL_map dd bs] <;> rfl
theorem drc_sortD {K : PySem.W.Frag} {S : Sto} {Q : D → Sto → Prop} {β : Type} (dd : β → D) (L : List β) (hf : ∀ b, flatOk 8 (dd b) = true) (ht : ∀ b, ∃ l, dd b = .tup l) (hal : PySem.W.AllAlike (L.map fun b => toPy (dd b))) (hso : PySem.W.Sortable (L.map fun b => toPy (dd b))) (hln : L.length ≤ 100000)
    (q : Q (.lst ((L.mergeSort (PySem.W.dataLe false fun b => toPy (dd b))).map dd)) S) : DRC K (rSrtD K) [.lst (L.map dd)] S Q := fun H Hd vs Qv st rr k => by
  obtain ⟨v, e1, a, xs, f1, f2, f3⟩ := one_rp rr
  subst e1 f1
  have hfl : flatOkL 8 (L.map dd) = true := flatOkL_mem fun d hd => by
    obtain ⟨b, _, rfl⟩ := List.mem_map.mp hd
    exact hf b
  have hx := rpL_each f3
  refine ⟨β, fun b => toPy (dd b), L, a, xs, rfl, .of (st.sub _ _ f2), by rw [← toPyL_map]; exact dpAll_of 8 _ _ hfl (RpL.mono st.sub _ _ f3), fun x hxx => ?_, hal, hso, fun b _ => Nat.le_trans (lay_of 8 _ (hf b)).2 (by decide), sz5 hln, fun ys p hp hE => ?_⟩
  · obtain ⟨i, hi, e⟩ := List.getElem_of_mem hxx
    have hl := hx.length
    have := each_zip hx (xs[i], L[i]'(by omega)) (by
      rw [List.mem_iff_getElem]
      exact ⟨i, by rw [List.length_zip]; omega, by rw [List.getElem_zip]⟩)
    rw [e] at this
    obtain ⟨l, el⟩ := ht (L[i]'(by omega))
    have this : Rp K Hd (dd (L[i]'(by omega))) x := this
    rw [el] at this
    obtain ⟨t, _, et, _⟩ := this
    exact ⟨t, et⟩
  · exact k _ _ (new_lst st (each_rpL (hE _ hx)) hp q)
theorem drc_sort2 {K : PySem.W.Frag} {S : Sto} {Q : D → Sto → Prop} (L : List (Int × Int)) (hln : L.length ≤ 100000) (q : Q (.lst ((L.mergeSort le2).map pr2)) S) : DRC K (rSrtD K) [.lst (L.map pr2)] S Q := by
  have e : PySem.W.dataLe false (fun b : Int × Int => toPy (pr2 b)) = le2 := by
    have := PySem.W.dataLe_ii (fun b : Int × Int => b.1) (fun b => b.2)
    exact this
  refine drc_sortD pr2 L (fun _ => rfl) (fun _ => ⟨_, rfl⟩) (fun d hd d' hd' => ?_) (.inl fun d hd => ?_) hln (by rw [e]; exact q)
  · obtain ⟨b, _, rfl⟩ := List.mem_map.mp hd
    obtain ⟨b', _, rfl⟩ := List.mem_map.mp hd'
    rfl
  · obtain ⟨b, _, rfl⟩ := List.mem_map.mp hd
    exact ⟨_, _, rfl⟩
/-- a list that ascends is its own sorted list -/
theorem sort2_self {L : List (Int × Int)} (h : L.Pairwise fun a b => le2 a b = true) : L.mergeSort le2 = L := List.mergeSort_of_pairwise h
end DL
namespace DL
open PySem PySem.Spec PyProof.Rows L2
/-! ### constants of the module -/
section
variable {X : Cx} {en : DEnv} {S : Sto} {Q : D → Sto → Prop} {pos : Pos}
end
section
variable {K : PySem.W.Frag} {H : Hp} {a : Addr} {od : Option Addr} {n : Nat} {sl : Array (Option Value)}
end
end DL
namespace DL
open PySem PySem.Spec PyProof.Rows L2
/-! ### comprehensions that give a list that may be changed -/
section
variable {X : Cx} {elt iter c : Expr} {en : DEnv} {S : Sto} {Q : D → Sto → Prop} {pos py : Pos} {y : Str} {scope : Scope}
variable {ifs : List Expr} {tt : TT}
end
section
variable {X : Cx} {elt iter c tg : Expr} {en : DEnv} {S : Sto} {Q : D → Sto → Prop} {pos : Pos} {scope : Scope} {ifs : List Expr} {tt : TT}
variable {own : List (Str × Nat)} {n : Nat}
end

/-! ### data with changed lists in it, as it stands -/
end DL
/-! An error class of the program whose __init__ says super().__init__(f"..{x}"), self.x = x: made, held, its field read. -/
namespace PySem
namespace LimX
open PySem.W PySem.Calls PyProof.Rows PySem.HandSPX
section
variable {prog : Program} {w : World} {A : Around} {E : Value → Shared → Prop} {R : Result → Shared → Prop} {s : Shared} {K : Frag} {mg : Str → Option Value} {C fI : Addr} {x qual fld pre : Str}
end
end LimX
end PySem
namespace L2
open PySem PySem.Spec PyProof.Rows
section
variable {X : Cx} {C fI : Addr} {x qual fld pre : Str}
end
end L2
namespace DL
open PySem PySem.Spec PyProof.Rows L2
/-! ### errors over data -/
structure XD where
  cls : Value
  fld : Option (Str × D)
/-- an error's class and dict, in the heap of data -/
def XR (K : PySem.W.Frag) (Hd : Hp) (x : XD) (cls : Value) (d : Option Addr) : Prop := cls = x.cls ∧ match x.fld with
  | none => d = none
  | some (f, dv) => ∃ dd v, d = some dd ∧ Hd dd = some (.xd [(f, v)]) ∧ Rp K Hd dv v
abbrev RX := XD → DEnv → Sto → Prop
/-- what is wanted of an error is taken -/
structure LiftX (X : Cx) (Hd : Hp) (R : RX) : Prop where
  ex : ∃ W : WX, Takes X W ∧ ∀ x en S cls d σ H Hd', Same Hd Hd' → St0 X.K S Hd' H → RpE X.K Hd' en σ → XR X.K Hd' x cls d → R x en S → W cls d σ H
theorem LiftX.up {X : Cx} {Hd Hd' : Hp} {R : RX} (e : Same Hd Hd') (l : LiftX X Hd R) : LiftX X Hd' R := by
  obtain ⟨W, tk, h⟩ := l.ex
  exact ⟨W, tk, fun x en S cls d σ H H2 k => h x en S cls d σ H H2 (e.trans k)⟩
structure DEX (X : Cx) (e : Expr) (en : DEnv) (S : Sto) (Q : D → Sto → Prop) (R : RX) : Prop where
  run : ∀ (σ : L2.St) (H Hd : Hp), St0 X.K S Hd H → RpE X.K Hd en σ → LiftX X Hd R → wE X e σ H (QD X.K Hd Q)
structure DAX (X : Cx) (es : List Expr) (en : DEnv) (S : Sto) (Q : List D → Sto → Prop) (R : RX) : Prop where
  run : ∀ (σ : L2.St) (H Hd : Hp), St0 X.K S Hd H → RpE X.K Hd en σ → LiftX X Hd R → wA X es σ H (QA X.K Hd Q)
structure DS1X (X : Cx) (st : Stmt) (en : DEnv) (S : Sto) (Z : Dn) (R : RX) : Prop where
  run : ∀ (σ : L2.St) (H Hd : Hp), St0 X.K S Hd H → RpE X.K Hd en σ → ∀ De : Ends, Lift X.K Hd Z De → LiftX X Hd R → wS X st De σ H
structure DSX (X : Cx) (sts : List Stmt) (en : DEnv) (S : Sto) (Z : Dn) (R : RX) : Prop where
  run : ∀ (σ : L2.St) (H Hd : Hp), St0 X.K S Hd H → RpE X.K Hd en σ → ∀ De : Ends, Lift X.K Hd Z De → LiftX X Hd R → wSs X sts De σ H
abbrev ConX := List D → Sto → (D → Sto → Prop) → (XD → Sto → Prop) → Prop
def spDX (K : PySem.W.Frag) (C : ConX) : Sp := fun vs H Q E => ∃ (ds : List D) (S : Sto) (Hd : Hp) (Qd : D → Sto → Prop) (Rd : XD → Sto → Prop), RpL K Hd ds vs ∧ St0 K S Hd H ∧ C ds S Qd Rd ∧
  (∀ d S' v H' Hd', Qd d S' → Same Hd Hd' → St0 K S' Hd' H' → Rp K Hd' d v → Q v H') ∧ ∀ x S' cls d H' Hd', Rd x S' → Same Hd Hd' → St0 K S' Hd' H' → XR K Hd' x cls d → E cls d H'
/-! ### a def that may raise keeps its promise, by its body -/
structure GOkX (P : Program) (w : World) (K : PySem.W.Frag) (mg : Str → Option Value) (base : Heap) (k : Nat) (f : Addr) (fd : FuncData) (ps : List Str) (sp : Sp) : Prop where
  len : ∀ vs H Q E, sp vs H Q E → vs.length = ps.length
  run : ∀ (A : Around) (fr : List Env) (s : Shared) (H : Hp) (ar : Args) (us : List Value) (vs : List V) (Q : VK) (E : XK), A.guards = some [] → Room k A →
    Env0 P w K mg base A fr s H → BindsTo s fd ar (ps.zip us) → Vals vs us → sp vs H Q E → codeAny (model P w) A (.call (.ref f) ar) (CR (L2.CX P w) fr P w H s Q E) s
section
variable {P : Program} {w : World} {K : PySem.W.Frag} {mg : Str → Option Value} {base : Heap}
theorem gokx_of {k : Nat} {x qual : Str} {st : Stmt} {f : Addr} {fd : FuncData} {N ps : List Str} {sp : Sp} (F : Fun K x qual st f fd) (S : FnScope N ps (defScope st)) (ln : ∀ vs H Q E, sp vs H Q E → vs.length = ps.length)
    (body : ∀ (cdv : Value) (A : Around) (fr : List Env) (s : Shared) (H : Hp) (vs : List V) (Q : VK) (E : XK), (A.deeper (envOfC qual (defScope st) s.heap.objs.size f cdv)).guards = some [] → Room k (A.deeper (envOfC qual (defScope st) s.heap.objs.size f cdv)) → sp vs H Q E →
      wSs (cxOf (L2.CX P w) P w K mg base N qual (defScope st) f cdv A fr s H E) (defBody st) { nx := fun _ H' => Q .non H', rt := Q } (start N vs) H) : GOkX P w K mg base (k + 1) f fd ps sp := by
  obtain ⟨oc, od, kV, doc, pm, an, cdv, ct, osl, rfl, lk, hcd⟩ := F.ex
  refine ⟨ln, fun A fr s H ar us vs Q E gd hr e0 hb r hsp => ?_⟩
  have long := ln _ _ _ _ hsp
  have KX : K.In s.heap := e0.mod.kin.keeps fun b o e => (e0.bs b o e).1
  have free : s.heap.NoLimit := e0.mod.nolimit.keeps fun b o e => (e0.bs b o e).1
  refine codeAny_call_function hr.depth (KX _ _ lk) rfl S.co S.gen rfl (PySem.W.codeRec_of KX hcd) (hb _ _ _ _ ?_)
  refine wpAny_newFunctionEnv_cells S.kind (fun y hy => ?_) fun env he s1 xx => ?_
  · obtain ⟨n, v⟩ := y
    rcases S.par n (List.of_mem_zip hy).1 with z | z
    · exact .inl z
    · exact .inr ⟨z, PySem.W.cellsFrom_some _ _ _ (.inl z)⟩
  subst he
  refine ⟨free.keeps xx.toInCall.keep, codeAny_func ?_⟩
  have J : Inv (cxOf (L2.CX P w) P w K mg base N qual (defScope st) f cdv A fr s H E) [] (start N vs) H s1 := inv_start S hr.hd e0 long r xx
  have run := (pssW (X := (cxOf (L2.CX P w) P w K mg base N qual (defScope st) f cdv A fr s H E)) (sts := defBody st)).run [] s1 (start N vs) H _ J (body cdv A fr s H vs Q E gd (hr.deeper _) hsp)
  refine wpAny_mono run (fun fl s' hs => ?_) fun e s' hs => hs
  have out : ∀ {σ' : L2.St} {H' : Hp} {v : V} {u : Value}, Inv (cxOf (L2.CX P w) P w K mg base N qual (defScope st) f cdv A fr s H E) [] σ' H' s' → RelV v u → Q v H' → CE fr P w H s Q u s' :=
    fun {σ' H' v u} I rv q => ⟨v, H', I.os, I.bare, I.base, I.hok, rv, q⟩
  cases fl with
  | ret u =>
    obtain ⟨v, σ', H', I, rv, q⟩ := hs
    exact out I rv q
  | next =>
    obtain ⟨σ', H', I, q⟩ := hs
    exact out (v := V.non) (u := Value.none) I rfl q
  | brk => exact hs.elim fun _ h => h.elim fun _ h => h.2.elim
  | cont => exact hs.elim fun _ h => h.elim fun _ h => h.2.elim
theorem gokx_ds {k m : Nat} {x qual : Str} {st : Stmt} {f : Addr} {fd : FuncData} {N ps : List Str} {C : ConX} (F : Fun K x qual st f fd) (S : FnScope N ps (defScope st))
    (hm : N.length - ps.length = m) (ln : ∀ ds S Q R, C ds S Q R → ds.length = ps.length)
    (body : ∀ (cdv : Value) (A : Around) (fr : List Env) (s : Shared) (H : Hp) (E : XK), (A.deeper (envOfC qual (defScope st) s.heap.objs.size f cdv)).guards = some [] → Room k (A.deeper (envOfC qual (defScope st) s.heap.objs.size f cdv)) → ∀ (ds : List D) (S0 : Sto) (Q : D → Sto → Prop) (R : XD → Sto → Prop), C ds S0 Q R →
      DSX (cxOf (L2.CX P w) P w K mg base N qual (defScope st) f cdv A fr s H E) (defBody st) (ds.map some ++ List.replicate m none) S0 { nx := fun _ S' => Q .non S', rt := Q } (fun x _ S' => R x S')) : GOkX P w K mg base (k + 1) f fd ps (spDX K C) := by
  refine gokx_of F S (fun vs H Q E h => ?_) fun cdv A fr s H vs Q E gd hr h => ?_
  · obtain ⟨ds, S0, Hd, Qd, Rd, r, _, c, _⟩ := h
    rw [r.length]
    exact ln _ _ _ _ c
  · obtain ⟨ds, S0, Hd, Qd, Rd, r, st0, c, fin, finx⟩ := h
    have e : L2.start N vs = vs.map some ++ List.replicate m none := by
      unfold L2.start
      rw [r.length, ln _ _ _ _ c, hm]
    rw [e]
    refine (body cdv A fr s H E gd hr ds S0 Qd Rd c).run _ H Hd st0 (RpE.start m r) _ ⟨fun en S' σ H' Hd' z1 z2 _ q => fin .non S' .non H' Hd' q z1 z2 rfl, fun d S' v H' Hd' z1 z2 z3 q => fin d S' v H' Hd' q z1 z2 z3, fun _ _ _ _ _ _ _ _ q => q.elim, fun _ _ _ _ _ _ _ _ q => q.elim⟩ ?_
    exact ⟨fun cls d _ H => E cls d H, takes_of rfl rfl rfl rfl, fun x en S cls d σ H' Hd' z1 z2 _ z3 q => finx x S cls d H' Hd' q z1 z2 z3⟩
end
/-- a def that may raise, in the module -/
structure CalX (P : Program) (w : World) (K : PySem.W.Frag) (mg : Str → Option Value) (base : Heap) (k : Nat) (x : Str) (ps : List Str) (kws : List (Nat × List Str)) (C : ConX) : Prop where
  ex : ∃ (f : Addr) (fd : FuncData), GOkX P w K mg base k f fd ps (spDX K C) ∧ mg x = some (.ref f) ∧ PySem.W.keepIn K (.ref f) = true ∧
    (∀ us : List Value, us.length = ps.length → bindArgs fd ⟨us, []⟩ = pure (ps.zip us)) ∧ ∀ p ∈ kws, KwOk fd ps p
theorem calx_of {P : Program} {w : World} {K : PySem.W.Frag} {mg : Str → Option Value} {base : Heap} {k : Nat} {x qual : Str} {st : Stmt} {f : Addr} {fd : FuncData} {ps : List Str} {kws : List (Nat × List Str)} {C : ConX} (F : Fun K x qual st f fd)
    (G : GOkX P w K mg base k f fd ps (spDX K C)) (hm : mg x = some (.ref f)) (hb : ∀ us : List Value, us.length = ps.length → bindArgs fd ⟨us, []⟩ = pure (ps.zip us)) (hk : ∀ p ∈ kws, KwOk fd ps p) : CalX P w K mg base k x ps kws C := ⟨f, fd, G, hm, F.kp, hb, hk⟩
section
variable {X : Cx} {a b c e tg : Expr} {es : List Expr} {kwl : List Keyword} {st : Stmt} {sts rest : List Stmt} {en : DEnv} {S : Sto} {Z : Dn} {Q : D → Sto → Prop} {R : RX} {QL : List D → Sto → Prop} {pos pos' p kpos : Pos} {k : Nat} {x : Str} {ps ks : List Str} {kws : List (Nat × List Str)} {C : ConX}
/-! ### what raises nothing -/
theorem dex_of (h : DE X e en S Q) : DEX X e en S Q R := ⟨fun σ H Hd st re _ => h σ H Hd st re⟩
theorem dax_of (h : DA X es en S QL) : DAX X es en S QL R := ⟨fun σ H Hd st re _ => h σ H Hd st re⟩
theorem ds1x_of (h : DS1 X st en S Z) : DS1X X st en S Z R := ⟨fun σ H Hd st re De l _ => h σ H Hd st re De l⟩
theorem dsx_of (h : DS X sts en S Z) : DSX X sts en S Z R := ⟨fun σ H Hd st re De l _ => h σ H Hd st re De l⟩
theorem dsx_nil (q : Z.nx en S) : DSX X [] en S Z R := dsx_of (ds_nil q)
theorem dsx_cons (h : DS1X X st en S { Z with nx := fun en' S' => DSX X rest en' S' Z R } R) : DSX X (st :: rest) en S Z R := ⟨fun σ H Hd s0 re De l lx => by
  refine wSs_of (pss_cons psW pssW) ?_
  exact h.run σ H Hd s0 re _ ⟨fun en' S' σ' H' Hd' z1 z2 z3 q => q.run σ' H' Hd' z2 z3 De (l.up z1) (lx.up z1), l.rt, l.bk, l.ct⟩ lx⟩
theorem dsx_nrm {en' : DEnv} (h : DSX X sts en' S Z R) (he : en = en' := by set_option simprocs false in dsimp only [List.set]) : DSX X sts en S Z R := by
  rw [he]
  exact h
theorem dsx_asg (h : DEX X e en S (fun d S1 => DG X tg d en S1 Z.nx) R) (hs : swapsWithSole [tg] e pos.line X.env = pure false := by first | exact sws1 rfl | exact sw0 rfl | rfl) (hw : swappedStores [tg] e X.env = pure none := by first | exact sst rfl | rfl)
    (h1 : (assignEach [tg] X.env).map (·.2) = [assign tg X.env] := by rfl) : DS1X X (.Assign [tg] e pos) en S Z R := ⟨fun σ H Hd st re De l lx => by
  refine wS_of (ps_asg peW pgW hs hw h1) ?_
  refine wE_mono (h.run σ H Hd st re lx) fun v H1 ⟨d, S1, Hd1, e1, st1, r1, q⟩ => ?_
  refine wG_mono (q σ H1 Hd1 v st1 (re.mono e1) r1) fun σ2 H2 ⟨en2, S2, Hd2, z1, z2, z3, z4⟩ => ?_
  exact l.nx en2 S2 σ2 H2 Hd2 (e1.trans z1) z2 z3 z4⟩
theorem dsx_ret (h : DEX X e en S Z.rt R) : DS1X X (.Return (some e) pos) en S Z R := ⟨fun σ H Hd st re De l lx =>
  wS_of (ps_ret peW) (wE_mono (h.run σ H Hd st re lx) fun v H1 ⟨d, S1, Hd1, e1, st1, r1, q⟩ => l.rt d S1 v H1 Hd1 e1 st1 r1 q)⟩
theorem dsx_if {s1 s2 : List Stmt} (h : DT X c en S fun t S1 => (t = true → DSX X s1 en S1 Z R) ∧ (t = false → DSX X s2 en S1 Z R)) : DS1X X (.If c s1 s2 pos) en S Z R := ⟨fun σ H Hd st re De l lx => by
  refine wS_of (ps_if ptW pssW pssW) ?_
  refine wT_mono (h σ H Hd st re) fun t H1 ⟨S1, Hd1, e1, st1, q1, q2⟩ => ?_
  cases t with
  | true =>
    rw [if_pos rfl]
    exact (q1 rfl).run σ H1 Hd1 st1 (re.mono e1) De (l.up e1) (lx.up e1)
  | false =>
    rw [if_neg Bool.false_ne_true]
    exact (q2 rfl).run σ H1 Hd1 st1 (re.mono e1) De (l.up e1) (lx.up e1)⟩
/-! ### calls of what may raise -/
theorem run_calX (c : CalX X.prog X.w X.K X.mg X.base k x ps kws C) (gd : X.A.guards = some []) (hr : Room k X.A) : ∃ f : Addr, X.mg x = some (.ref f) ∧ PySem.W.keepIn X.K (.ref f) = true ∧
    (∀ {pins : List (Addr × Obj)} {σ : L2.St} {H Hd : Hp} {s : Shared} {us : List Value} {vs : List V} {ds : List D} {S : Sto} {en : DEnv} {Q : D → Sto → Prop} {Qv : VK}, Inv X pins σ H s → Vals vs us → RpL X.K Hd ds vs → St0 X.K S Hd H → RpE X.K Hd en σ → C ds S Q (fun x S' => R x en S') → LiftX X Hd R → (∀ v H', QD X.K Hd Q v H' → Qv v H') →
      wpAny (model X.prog X.w) X.A (call (.ref f) us) (EP X pins σ Qv) X.xe s) ∧
    ∀ (n : Nat) (ks : List Str), (n, ks) ∈ kws → ∀ {pins : List (Addr × Obj)} {σ : L2.St} {H Hd : Hp} {s : Shared} {us ws : List Value} {vs zs : List V} {ds fs : List D} {S : Sto} {en : DEnv} {Q : D → Sto → Prop} {Qv : VK}, Inv X pins σ H s → Vals vs us → Vals zs ws → us.length = n → ws.length = ks.length →
      RpL X.K Hd ds vs → RpL X.K Hd fs zs → St0 X.K S Hd H → RpE X.K Hd en σ → C (ds ++ ordV .non (ps.drop n) ks fs) S Q (fun x S' => R x en S') → LiftX X Hd R → (∀ v H', QD X.K Hd Q v H' → Qv v H') → wpAny (model X.prog X.w) X.A (call (.ref f) us (ks.zip ws)) (EP X pins σ Qv) X.xe s := by
  obtain ⟨f, fd, G, hm, hk, hb, hkw⟩ := c.ex
  refine ⟨f, hm, hk, fun {pins σ H Hd s us vs ds S en Q Qv} I r rd st re q lx kq => ?_, fun n ks hn {pins σ H Hd s us ws vs zs ds fs S en Q Qv} I r rz ln lw rd rf st re q lx kq => ?_⟩
  · obtain ⟨W, tk, hW⟩ := lx.ex
    have hs : spDX X.K C vs H Qv (fun cls d H' => ∃ x S' Hd', Same Hd Hd' ∧ St0 X.K S' Hd' H' ∧ XR X.K Hd' x cls d ∧ R x en S') := ⟨ds, S, Hd, Q, _, rd, st, q, fun d S' v H' Hd' z1 z2 z3 z4 => kq v H' ⟨d, S', Hd', z2, z3, z4, z1⟩, fun x S' cls d H' Hd' z1 z2 z3 z4 => ⟨x, S', Hd', z2, z3, z4, z1⟩⟩
    have hl : us.length = ps.length := by rw [← r.length]; exact G.len _ _ _ _ hs
    refine wpAny_call (codeAny_mono (G.run X.A X.stack s H ⟨us, []⟩ us vs Qv _ gd hr I.env0 (.of_eq (hb us hl)) r hs) fun res s' hq => ?_)
    cases res with
    | error e => exact tk e s' (XE.of_call I (fun cls d H' ⟨x, S', Hd', z1, z2, z3, z4⟩ => hW x en S' cls d σ H' Hd' z1 z2 (re.mono z1) z3 z4) hq)
    | ok fl =>
      cases fl with
      | ret u => exact I.after hq
      | next => exact hq.elim
      | brk => exact hq.elim
      | cont => exact hq.elim
  · obtain ⟨k1, k2, k3⟩ := hkw _ hn
    have lz : ks.length = zs.length := by rw [rz.length]; exact lw.symm
    have lf : ks.length = fs.length := by rw [lz, rf.length]
    obtain ⟨W, tk, hW⟩ := lx.ex
    have hs : spDX X.K C (vs ++ ordV .non (ps.drop n) ks zs) H Qv (fun cls d H' => ∃ x S' Hd', Same Hd Hd' ∧ St0 X.K S' Hd' H' ∧ XR X.K Hd' x cls d ∧ R x en S') := ⟨_, S, Hd, Q, _, rd.append (ord_rp rf lf k2), st, q, fun d S' v H' Hd' z1 z2 z3 z4 => kq v H' ⟨d, S', Hd', z2, z3, z4, z1⟩, fun x S' cls d H' Hd' z1 z2 z3 z4 => ⟨x, S', Hd', z2, z3, z4, z1⟩⟩
    refine wpAny_call (codeAny_mono (G.run X.A X.stack s H ⟨us, ks.zip ws⟩ (us ++ ordV .none (ps.drop n) ks ws) _ Qv _ gd hr I.env0 (.of_eq (k3 us ws ln lw)) (r.append (ord_vals rz lz k2)) hs) fun res s' hq => ?_)
    cases res with
    | error e => exact tk e s' (XE.of_call I (fun cls d H' ⟨x, S', Hd', z1, z2, z3, z4⟩ => hW x en S' cls d σ H' Hd' z1 z2 (re.mono z1) z3 z4) hq)
    | ok fl =>
      cases fl with
      | ret u => exact I.after hq
      | next => exact hq.elim
      | brk => exact hq.elim
      | cont => exact hq.elim
/-- f(e, ..) -/
theorem dex_call (c : CalX X.prog X.w X.K X.mg X.base k x ps kws C) (gd : X.A.guards = some []) (hr : Room k X.A) (h : DAX X (e :: es) en S (fun ds S1 => C ds S1 Q (fun x S' => R x en S')) R) (hg : Gl X x := by rfl)
    (hdb : (x == ("__debug__" : Str)) = false := by decide) (he : starEach (e :: es) X.env = (false, eval e X.env) :: starEach es X.env := by rfl) (hpl : (backTo pos (starEach es X.env)).any (·.1) = false := by rfl) : DEX X (.Call (.Name x p) (e :: es) [] pos) en S Q R := by
  refine ⟨fun σ H Hd st re lx => ?_⟩
  intro pins s I
  obtain ⟨f, hm, hk, run, _⟩ := run_calX (R := R) c gd hr
  refine wpAny_Call_Name_kw (ld_glob I hg hm ?_ hdb)
  refine PySem.W.callWith_K (h₀ := X.base) I.ok.mod.kin hk (thn (h.run σ H Hd st re lx pos pins s I) fun us s1 ⟨vs, H1, I1, r, ds, S1, Hd1, e1, st1, r1, q1⟩ => ⟨I1.kIn, ?_⟩) he hpl
  exact run I1 r r1 st1 (re.mono e1) q1 (lx.up e1) fun v H' z => .up e1 z
theorem DEX.mono {Q' : D → Sto → Prop} (h : DEX X e en S Q R) (k : ∀ d S', Q d S' → Q' d S') : DEX X e en S Q' R := ⟨fun σ H Hd st re lx =>
  wE_mono (h.run σ H Hd st re lx) fun _ _ ⟨d, S', Hd', e', st', r, q⟩ => ⟨d, S', Hd', e', st', r, k d S' q⟩⟩
end
end DL
/-! try with several clauses, some of which name the error -/
namespace DL
open PySem PySem.Spec PyProof.Rows L2
abbrev TCl := Addr → Value → Option Addr → TS
def dSet (i : Nat) (D : Ends) : Ends := { nx := fun σ' H' => D.nx (σ'.set i none) H', rt := D.rt, bk := fun σ' H' => D.bk (σ'.set i none) H', ct := fun σ' H' => D.ct (σ'.set i none) H' }
def wMix (K : PySem.W.Frag) (Wout : WX) (D : Ends) : List (Value × Option Nat × TCl) → WX
  | [] => Wout
  | (c, none, ts) :: r => fun cls d σ H => ∃ b, PySem.W.exmOne K cls c = some b ∧ (b = true → ∀ a, H a = none → ts a cls d D σ H) ∧ (b = false → wMix K Wout D r cls d σ H)
  | (c, some i, ts) :: r => fun cls d σ H => ∃ b, PySem.W.exmOne K cls c = some b ∧ (b = true → ∀ a, H a = none → ts a cls d (dSet i D) (σ.set i (some (.ref a))) H) ∧ (b = false → wMix K Wout D r cls d σ H)
inductive HdsMix (X : Cx) : List ExceptHandler → List (Value × Option Nat × TCl) → Prop
  | nil : HdsMix X [] []
  | cons {x : Str} {c : Value} {ts : TCl} {b₀ : Stmt} {suite : List Stmt} {np pos' : Pos} {hds : List ExceptHandler} {l : List (Value × Option Nat × TCl)} (hc : Names X x c)
      (hsu : ∀ (a : Addr) (oe : Obj) (cls : Value) (d : Option Addr) (pn : List (Addr × Obj)), Zc cls d oe → (∃ vs, oe.data = .fields vs) → PSs (X.suite a ((a, oe) :: pn)) (b₀ :: suite) (ts a cls d)) (r : HdsMix X hds l) :
      HdsMix X (.ExceptHandler (some (.Name x np)) none (b₀ :: suite) pos' :: hds) ((c, none, ts) :: l)
  | consA {x n : Str} {i : Nat} {c : Value} {ts : TCl} {b₀ : Stmt} {suite : List Stmt} {np pos' : Pos} {hds : List ExceptHandler} {l : List (Value × Option Nat × TCl)} (hc : Names X x c) (hN : X.N.Nodup) (hi : X.N[i]? = some n) (hln : X.env.kindOf n = some .local)
      (hsu : ∀ (a : Addr) (oe : Obj) (cls : Value) (d : Option Addr) (pn : List (Addr × Obj)), Zc cls d oe → (∃ vs, oe.data = .fields vs) → PSs (X.suite a ((a, oe) :: pn)) (b₀ :: suite) (ts a cls d)) (r : HdsMix X hds l) :
      HdsMix X (.ExceptHandler (some (.Name x np)) (some n) (b₀ :: suite) pos' :: hds) ((c, some i, ts) :: l)
section
variable {X : Cx} {body : List Stmt} {h₀ : ExceptHandler} {hds : List ExceptHandler} {l : List (Value × Option Nat × TCl)} {pos : Pos} {tb : WX → TS} {Wout : WX}
theorem ps_try_mix (hs : X.stack = X.env :: X.outer) (hf : X.env.frame = some X.env.locals) (tk : Takes X Wout)
    (hb : ∀ (W : WX) (pn : List (Addr × Obj)) (xe : Value → Shared → Prop), Takes (X.tr pn xe) W → PassesOwn (model X.prog X.w) X.A X.env xe → PSs (X.tr pn xe) body (tb W))
    (hh : HdsMix X (h₀ :: hds) l) : PS X (.Try body (h₀ :: hds) [] [] pos) (fun D σ H => tb (wMix X.K Wout D l) D σ H) := by
  refine ⟨fun pins s σ H D I h => ?_⟩
  have ok := I.ok
  have hfr : X.A.frames = some (X.env :: X.outer) := by rw [ok.frames, hs]
  refine wpAny_Try_except ?_
  refine wpAny_mono ((hb (wMix X.K Wout D l) (X.pn ++ pins) (fun e s₁ => wpAny (model X.prog X.w) X.A (noteFrame e X.env) (fun _ s₂ => wpAny (model X.prog X.w) X.A (setFlight e none) (fun _ s₃ =>
    wpAny (model X.prog X.w) X.A (handleBy e X.env (h₀ :: hds)) (SP X pins D) X.xe s₃) X.xe s₂) X.xe s₁) (fun u s' xx => ?_) PassesOwn.looking).run [] s σ H D (I.toTry _) h) (fun f s1 hsp => ?_) (fun e s1 he => he)
  · -- the catch
    obtain ⟨a, B, sI, pins', σ', H', cls, d, rfl, J', nb, up, sky, na, os, ag, w⟩ := xx
    have J : Inv X pins σ' H' sI := J'.ofTry ok
    have sky' : Sky B (X.env :: X.outer) a (Zc cls d) X.env.locals s'.heap := by rw [← hs]; exact sky
    show wpAny (model X.prog X.w) X.A (noteFrame (.ref a) X.env) _ _ _
    refine Sky.land Zc.steady hfr hf sky' fun h3 fl3 up3 => ?_
    have J3 : Inv X pins σ' H' { s' with heap := h3 } := J.landed nb fl3.1 (up.trans up3) os ag
    obtain ⟨oe3, vs3, he3, hz3, hd3⟩ := fl3.there
    have notFr : ∀ {h : Heap} {o : Obj} {vs : Array Value}, h.FunFrames B (X.env :: X.outer) → h.get? a = some o → o.data = .fields vs → a ∉ frs (X.env :: X.outer) := fun {h o vs} ff e dd hm => by
      obtain ⟨_, o', e', hnf⟩ := ff.mem hm
      rw [e] at e'; cases e'
      exact hnf _ dd
    have nfr := notFr fl3.2.2.1 he3 hd3
    have nL : a ≠ X.env.locals := fun z => nfr (List.mem_filterMap.mpr ⟨X.env, List.mem_cons_self, by rw [hf, z]⟩)
    have nF : a ∉ X.fs := fun hm => by
      obtain ⟨e, he, q⟩ := List.mem_filterMap.mp hm
      exact nfr (List.mem_filterMap.mpr ⟨e, List.mem_cons_of_mem _ he, q⟩)
    have S3 := J3.suite he3 hd3 na nL nF
    have go : ∀ {hds' : List ExceptHandler} {l' : List (Value × Option Nat × TCl)}, HdsMix X hds' l' → wMix X.K Wout D l' cls d σ' H' →
        wpAny (model X.prog X.w) X.A (handleBy (.ref a) X.env hds') (SP X pins D) X.xe { s' with heap := h3 } := by
      intro hds' l' hk
      induction hk with
      | nil =>
        intro w
        refine wpAny_handleBy_nil ?_
        obtain ⟨k1, k2, k3, oe, vs, T, oT, ts', he, hz, hd, h1, hr⟩ := id fl3
        unfold PySem.passOn
        refine wpAny_bind (wpAny_field he hd h1 ?_)
        rw [if_neg (show ¬ ((Value.ref T == Value.none) = true) from by simp)]
        have fin : wpAny (model X.prog X.w) X.A (setFlight (.ref a) X.env.frame) (fun _ s4 => wpAny (model X.prog X.w) X.A (throw (.ref a) : Sem Flow) (SP X pins D) X.xe s4) X.xe { s' with heap := h3 } := by
          rw [hf]
          refine HandSPX.setFlight_upZ fl3 fun h4 hh4 up4 => wpAny_throw (tk _ _ ?_)
          exact ⟨a, B, sI, pins, σ', H', cls, d, rfl, J, nb, (up.trans up3).trans up4, .inr (.inr (by rw [hs]; exact hh4)), na, os, ag, w⟩
        first
          | exact wpAny_bind (wpAny_pure (wpAny_bind fin))
          | exact wpAny_bind fin
      | @cons x c ts b₀ suite np pos' hds2 l2 hc hsu r ih =>
        intro w
        obtain ⟨b, hb1, hyes, hno⟩ := w
        refine wpAny_handleBy_cons (codeAny_handlers_test ?_) (by intro q; cases q)
        have LT : PySem.W.Looks (model X.prog X.w) h3 (typeOf (.ref a)) cls := fun A Q E s k q => wpAny_typeOf_ref (k _ _ he3) (by rw [hz3.1]; exact q)
        have LM := PySem.W.exm_one (M := model X.prog X.w) (J3.kIn) LT hb1
        have test : ∀ {Q : Value → Shared → Prop} {E : Value → Shared → Prop}, Q c { s' with heap := h3 } → wpAny (model X.prog X.w) (X.A.mark (some (.ref a))) (eval (.Name x np) X.env) Q E { s' with heap := h3 } := fun {Q E} q => by
          obtain ⟨hg, hdbg, hm | ⟨hm, hv, hnn⟩⟩ := hc
          · exact ld_glob (X := X.suite a ((a, oe3) :: (X.pn ++ pins))) S3 hg hm q hdbg
          · exact ld_blt (X := X.suite a ((a, oe3) :: (X.pn ++ pins))) S3 hg hm hv q hnn hdbg
        refine test (LM.here ?_)
        cases b with
        | true =>
          refine codeAny_handlers_suite ?_
          refine HandSPX.lands_againZ fl3 fun h4 fl4 up4 => ?_
          have J4 : Inv X pins σ' H' { s' with heap := h4 } := J.landed nb fl4.1 ((up.trans up3).trans up4) os ag
          obtain ⟨oe4, vs4, he4, hz4, hd4⟩ := fl4.there
          have S4 := J4.suite he4 hd4 na nL nF
          refine wpAny_mono ((hsu a oe4 cls d (X.pn ++ pins) hz4 ⟨_, hd4⟩).run [] _ _ H' _ S4 (hyes rfl a na)) (fun f s6 hsp => ?_) (fun _ _ z => False.elim z)
          cases f with
          | next =>
            obtain ⟨σ6, H6, S6, q6⟩ := hsp
            exact ⟨_, _, S6.unsuite ok, q6⟩
          | brk =>
            obtain ⟨σ6, H6, S6, q6⟩ := hsp
            exact ⟨_, _, S6.unsuite ok, q6⟩
          | cont =>
            obtain ⟨σ6, H6, S6, q6⟩ := hsp
            exact ⟨_, _, S6.unsuite ok, q6⟩
          | ret u =>
            obtain ⟨v6, σ6, H6, S6, r6, q6⟩ := hsp
            exact ⟨_, _, _, S6.unsuite ok, r6, q6⟩
        | false =>
          show wpAny _ X.A (handleBy (.ref a) X.env hds2) _ _ _
          exact ih (hno rfl)
      | @consA x n i c ts b₀ suite np pos' hds2 l2 hc hN hi hln hsu r ih =>
        intro w
        obtain ⟨b, hb1, hyes, hno⟩ := w
        refine wpAny_handleBy_cons (codeAny_handlers_test ?_) (by intro q; cases q)
        have LT : PySem.W.Looks (model X.prog X.w) h3 (typeOf (.ref a)) cls := fun A Q E s k q => wpAny_typeOf_ref (k _ _ he3) (by rw [hz3.1]; exact q)
        have LM := PySem.W.exm_one (M := model X.prog X.w) (J3.kIn) LT hb1
        have test : ∀ {Q : Value → Shared → Prop} {E : Value → Shared → Prop}, Q c { s' with heap := h3 } → wpAny (model X.prog X.w) (X.A.mark (some (.ref a))) (eval (.Name x np) X.env) Q E { s' with heap := h3 } := fun {Q E} q => by
          obtain ⟨hg, hdbg, hm | ⟨hm, hv, hnn⟩⟩ := hc
          · exact ld_glob (X := X.suite a ((a, oe3) :: (X.pn ++ pins))) S3 hg hm q hdbg
          · exact ld_blt (X := X.suite a ((a, oe3) :: (X.pn ++ pins))) S3 hg hm hv q hnn hdbg
        refine test (LM.here ?_)
        cases b with
        | true =>
          refine codeAny_handlers_suite_as ?_
          refine HandSPX.lands_againZ fl3 fun h4 fl4 up4 => ?_
          have J4 : Inv X pins σ' H' { s' with heap := h4 } := J.landed nb fl4.1 ((up.trans up3).trans up4) os ag
          obtain ⟨oe4, vs4, he4, hz4, hd4⟩ := fl4.there
          have S4 := J4.suite he4 hd4 na nL nF
          refine store_ok (X := X.suite a ((a, oe4) :: (X.pn ++ pins))) (v := .ref a) S4 hN hi (.inl hln) rfl (fun s5 S5 => ?_) (.inr hln)
          refine wpAny_mono ((hsu a oe4 cls d (X.pn ++ pins) hz4 ⟨_, hd4⟩).run [] s5 _ H' _ S5 (hyes rfl a na)) (fun f s6 hsp => ?_) (fun _ _ z => False.elim z)
          have end_ : ∀ {σ6 : L2.St} {H6 : Hp} {Q : Shared → Prop}, Inv (X.suite a ((a, oe4) :: (X.pn ++ pins))) [] σ6 H6 s6 → (∀ s7, Inv X pins (σ6.set i none) H6 s7 → Q s7) →
              wpAny (model X.prog X.w) X.A (do bindName X.env n .none; unbindBehindTheSuite X.env n pos') (fun _ s7 => Q s7) X.xe s6 := fun {σ6 H6 Q} S6 hq => gone_ok (S6.unsuite ok) hN hi hln hq
          cases f with
          | next =>
            obtain ⟨σ6, H6, S6, q6⟩ := hsp
            exact end_ S6 fun s7 J7 => ⟨_, _, J7, q6⟩
          | brk =>
            obtain ⟨σ6, H6, S6, q6⟩ := hsp
            exact end_ S6 fun s7 J7 => ⟨_, _, J7, q6⟩
          | cont =>
            obtain ⟨σ6, H6, S6, q6⟩ := hsp
            exact end_ S6 fun s7 J7 => ⟨_, _, J7, q6⟩
          | ret u =>
            obtain ⟨v6, σ6, H6, S6, r6, q6⟩ := hsp
            exact end_ S6 fun s7 J7 => ⟨_, _, _, J7, r6, q6⟩
        | false =>
          show wpAny _ X.A (handleBy (.ref a) X.env hds2) _ _ _
          exact ih (hno rfl)
    exact go hh w
  · cases f with
    | next =>
      obtain ⟨σ', H', J', q⟩ := hsp
      exact wpAny_execs_nil ⟨σ', H', J'.ofTry ok, q⟩
    | brk =>
      obtain ⟨σ', H', J', q⟩ := hsp
      exact ⟨σ', H', J'.ofTry ok, q⟩
    | cont =>
      obtain ⟨σ', H', J', q⟩ := hsp
      exact ⟨σ', H', J'.ofTry ok, q⟩
    | ret u =>
      obtain ⟨v, σ', H', J', r, q⟩ := hsp
      exact ⟨v, σ', H', J'.ofTry ok, r, q⟩
end
end DL
namespace DL
open PySem PySem.Spec PyProof.Rows L2
/-! ### errors raised -/
/-- an error class of the program without an own __init__ -/
structure OwnErr (K : PySem.W.Frag) (mg : Str → Option Value) (x : Str) (C : Addr) : Prop where
  gC : mg x = some (.ref C)
  kC : PySem.W.keepIn K (.ref C) = true
  q : PySem.W.excIn K C [.type "ValueError", .type "Exception", .type "BaseException", .type "object"] "ValueError.__new__" = true
  exC : PySem.W.subIn K (.ref C) (.type "BaseException") = some true
  tyC : PySem.W.typeIn K (.ref C) = some (.type "type")
section
variable {X : Cx} {a e : Expr} {st : Stmt} {sts : List Stmt} {en : DEnv} {S : Sto} {Z : Dn} {Q : D → Sto → Prop} {R : RX} {pos pos' p p2 : Pos} {x qual fld pre : Str} {C fI : Addr} {j : Nat} {m : Str} {k : Nat}
theorem dsx_raise_own (T : OwnErr X.K X.mg x C) (hc : X.calm = true) (q : R ⟨.ref C, none⟩ en S) (hg : Gl X x := by rfl) (hdb : (x == ("__debug__" : Str)) = false := by decide) : DS1X X (.Raise (some (.Call (.Name x p) [.Constant (.str m) j p2] [] pos)) none pos') en S Z R := ⟨fun σ H Hd st re De l lx => by
  obtain ⟨W, tk, hW⟩ := lx.ex
  refine wS_of (ps_raise hc tk (pmk_own PySem.F.excBase_ValueError T.q T.gC T.kC (raises_own T.exC T.tyC) hg (hdb := hdb))) ?_
  exact hW ⟨.ref C, none⟩ en S _ none σ H Hd (Same.refl _) st re ⟨rfl, rfl⟩ q⟩
/-! ### errors caught -/
def excD (K : PySem.W.Frag) (a : Addr) (d : Option Addr) (x : XD) : D := .ext fun H v => v = .ref a ∧ XR K H x x.cls d
/-- what an except suite does -/
def SuD (X : Cx) (o : Option Nat) (su : List Stmt) (x : XD) (en : DEnv) (S : Sto) (Z : Dn) : Prop := match o with
  | none => ∀ (a : Addr) (oe : Obj) (d : Option Addr) (pn : List (Addr × Obj)), Zc x.cls d oe → (∃ vs, oe.data = .fields vs) → DS (X.suite a ((a, oe) :: pn)) su en S Z
  | some i => ∀ (a : Addr) (oe : Obj) (d : Option Addr) (pn : List (Addr × Obj)), Zc x.cls d oe → (∃ vs, oe.data = .fields vs) →
      DS (X.suite a ((a, oe) :: pn)) su (en.set i (some (excD X.K a d x))) S { nx := fun en2 S2 => Z.nx (en2.set i none) S2, rt := Z.rt, bk := fun en2 S2 => Z.bk (en2.set i none) S2, ct := fun en2 S2 => Z.ct (en2.set i none) S2 }
def RMix (X : Cx) (Z : Dn) (R : RX) : List (Value × Option Nat × List Stmt) → RX
  | [] => R
  | (c, o, su) :: r => fun x en S => ∃ b, PySem.W.exmOne X.K x.cls c = some b ∧ (b = true → SuD X o su x en S Z) ∧ (b = false → RMix X Z R r x en S)
/-- the clauses, as they stand -/
inductive DHds (X : Cx) : List ExceptHandler → List (Value × Option Nat × List Stmt) → Prop
  | nil : DHds X [] []
  | cons {x : Str} {c : Value} {b₀ : Stmt} {suite : List Stmt} {np pos' : Pos} {hds : List ExceptHandler} {l : List (Value × Option Nat × List Stmt)} (hc : Names X x c) (r : DHds X hds l) :
      DHds X (.ExceptHandler (some (.Name x np)) none (b₀ :: suite) pos' :: hds) ((c, none, b₀ :: suite) :: l)
  | consA {x n : Str} {i : Nat} {c : Value} {b₀ : Stmt} {suite : List Stmt} {np pos' : Pos} {hds : List ExceptHandler} {l : List (Value × Option Nat × List Stmt)} (hc : Names X x c) (hN : X.N.Nodup) (hi : X.N[i]? = some n) (hln : X.env.kindOf n = some .local) (r : DHds X hds l) :
      DHds X (.ExceptHandler (some (.Name x np)) (some n) (b₀ :: suite) pos' :: hds) ((c, some i, b₀ :: suite) :: l)
def tSu (X : Cx) (su : List Stmt) : TCl := fun a cls d De σ H => ∀ (oe : Obj) (pn : List (Addr × Obj)), Zc cls d oe → (∃ vs, oe.data = .fields vs) → wSs (X.suite a ((a, oe) :: pn)) su De σ H
theorem mix_of : ∀ {hds : List ExceptHandler} {cl : List (Value × Option Nat × List Stmt)}, DHds X hds cl → HdsMix X hds (cl.map fun t => (t.1, t.2.1, tSu X t.2.2))
  | _, _, .nil => .nil
  | _, _, .cons hc r => .cons hc (fun a oe cls d pn hz hf => ⟨fun pins s _ _ _ I h => h oe pn hz hf pins s I⟩) (mix_of r)
  | _, _, .consA hc hN hi hln r => .consA hc hN hi hln (fun a oe cls d pn hz hf => ⟨fun pins s _ _ _ I h => h oe pn hz hf pins s I⟩) (mix_of r)
theorem rmix_w {Hd : Hp} {De : Ends} {Wout : WX} (l : Lift X.K Hd Z De) (hW : ∀ x en S cls d σ H Hd', Same Hd Hd' → St0 X.K S Hd' H → RpE X.K Hd' en σ → XR X.K Hd' x cls d → R x en S → Wout cls d σ H) : ∀ (cl : List (Value × Option Nat × List Stmt)) (x : XD) (en : DEnv) (S : Sto) (cls : Value) (d : Option Addr) (σ : L2.St) (H Hd' : Hp),
    Same Hd Hd' → St0 X.K S Hd' H → RpE X.K Hd' en σ → XR X.K Hd' x cls d → RMix X Z R cl x en S → wMix X.K Wout De (cl.map fun t => (t.1, t.2.1, tSu X t.2.2)) cls d σ H
  | [], x, en, S, cls, d, σ, H, Hd', z1, z2, z3, z4, q => hW x en S cls d σ H Hd' z1 z2 z3 z4 q
  | (c, none, su) :: r, x, en, S, cls, d, σ, H, Hd', z1, z2, z3, z4, q => by
    obtain ⟨b, hb, hy, hn⟩ := q
    refine ⟨b, by rw [z4.1]; exact hb, fun hbt a ha oe pn hz hf => ?_, fun hbf => rmix_w l hW r x en S cls d σ H Hd' z1 z2 z3 z4 (hn hbf)⟩
    exact (hy hbt a oe d pn (by rw [← z4.1]; exact hz) hf).run σ H Hd' z2 z3 De (l.up z1)
  | (c, some i, su) :: r, x, en, S, cls, d, σ, H, Hd', z1, z2, z3, z4, q => by
    obtain ⟨b, hb, hy, hn⟩ := q
    refine ⟨b, by rw [z4.1]; exact hb, fun hbt a ha oe pn hz hf => ?_, fun hbf => rmix_w l hW r x en S cls d σ H Hd' z1 z2 z3 z4 (hn hbf)⟩
    have l' := l.up z1
    refine (hy hbt a oe d pn (by rw [← z4.1]; exact hz) hf).run (σ.set i (some (.ref a))) H Hd' z2 (z3.set (d := excD X.K a d x) ⟨Hd', Same.refl _, rfl, by rw [← z4.1]; exact z4⟩ i) (dSet i De) ?_
    exact ⟨fun en2 S2 σ2 H2 Hd2 y1 y2 y3 q2 => l'.nx _ S2 _ H2 Hd2 y1 y2 (y3.drop i) q2, l'.rt, fun en2 S2 σ2 H2 Hd2 y1 y2 y3 q2 => l'.bk _ S2 _ H2 Hd2 y1 y2 (y3.drop i) q2, fun en2 S2 σ2 H2 Hd2 y1 y2 y3 q2 => l'.ct _ S2 _ H2 Hd2 y1 y2 (y3.drop i) q2⟩
/-- try: body / except C: .. / except D as e: .. -/
theorem dsx_try {body : List Stmt} {h₀ : ExceptHandler} {hds : List ExceptHandler} {cl : List (Value × Option Nat × List Stmt)} (hs : X.stack = X.env :: X.outer) (hf : X.env.frame = some X.env.locals) (hh : DHds X (h₀ :: hds) cl)
    (hb : ∀ (pn : List (Addr × Obj)) (xe : Value → Shared → Prop), DSX (X.tr pn xe) body en S Z (RMix X Z R cl)) : DS1X X (.Try body (h₀ :: hds) [] [] pos) en S Z R := ⟨fun σ H Hd st re De l lx => by
  obtain ⟨Wout, tk, hW⟩ := lx.ex
  refine wS_of (ps_try_mix (tb := fun W => fun De σ H => ∀ (pn : List (Addr × Obj)) (xe : Value → Shared → Prop), Takes (X.tr pn xe) W → PassesOwn (model X.prog X.w) X.A X.env xe → wSs (X.tr pn xe) body De σ H) hs hf tk (fun W pn xe t pa => ⟨fun pins s _ _ _ I h => h pn xe t pa pins s I⟩) (mix_of hh)) ?_
  intro pn xe t pa
  exact (hb pn xe).run σ H Hd st re De l ⟨_, t, fun x en S cls d σ H Hd' z1 z2 z3 z4 q => rmix_w l hW cl x en S cls d σ H Hd' z1 z2 z3 z4 q⟩⟩
/-- .. where all errors are caught: nothing leaves -/
theorem ds_try {body : List Stmt} {h₀ : ExceptHandler} {hds : List ExceptHandler} {cl : List (Value × Option Nat × List Stmt)} (hs : X.stack = X.env :: X.outer) (hf : X.env.frame = some X.env.locals) (hh : DHds X (h₀ :: hds) cl)
    (hb : ∀ (pn : List (Addr × Obj)) (xe : Value → Shared → Prop), DSX (X.tr pn xe) body en S Z (RMix X Z (fun _ _ _ => False) cl)) : DS1 X (.Try body (h₀ :: hds) [] [] pos) en S Z := ⟨fun σ H Hd st re De l =>
  (dsx_try (R := fun _ _ _ => False) hs hf hh hb).run σ H Hd st re De l ⟨_, takes_none5, fun _ _ _ _ _ _ _ _ _ _ _ _ q => q⟩⟩
end
end DL
namespace DL
open PySem PySem.Spec PyProof.Rows L2
theorem exm_two {K : PySem.W.Frag} {A B : Addr} {b : Bool} (h1 : PySem.W.subIn K (.ref B) (.type "BaseException") = some true) (h2 : PySem.W.isClsIn K B = true) (h3 : PySem.W.typeIn K (.ref B) = some (.type "type")) (h4 : PySem.W.subIn K (.ref A) (.ref B) = some b) :
    PySem.W.exmOne K (.ref A) (.ref B) = some b := by
  have e1 : (PySem.W.subIn K (.ref B) (.type "BaseException") == some true) = true := by rw [h1] <;> rfl
  have e2 : ((PySem.W.clsIn K B).isSome && PySem.W.typeIn K (.ref B) == some (.type "type")) = true := by
    have h2' : (PySem.W.clsIn K B).isSome = true := h2
    rw [h2', h3] <;> rfl
  show (if (PySem.W.subIn K (.ref B) (.type "BaseException") == some true) = true then (if ((PySem.W.clsIn K B).isSome && PySem.W.typeIn K (.ref B) == some (.type "type")) = true then PySem.W.subIn K (.ref A) (.ref B) else none) else none) = some b
  rw [if_pos e1, if_pos e2]
  exact h4
section
variable {X : Cx} {sts : List Stmt} {en : DEnv} {S : Sto} {Z : Dn} {R : RX}
end
end DL
/-! l.count(x) over data; sum, zip -/
namespace DL
open PySem PySem.Spec PyProof.Rows L2
section
variable {X : Cx} {e : Expr} {en : DEnv} {S : Sto}
end
/-- whole numbers, truths -/
theorem flat_ints : ∀ l : List Int, flatOkL 8 (l.map D.int) = true
  | [] => rfl
  | i :: l => by
    show (flatOk 8 (.int i) && flatOkL 8 (l.map D.int)) = true
    rw [flat_ints l] <;> rfl
theorem flat_bls : ∀ l : List Bool, flatOkL 8 (l.map D.bl) = true
  | [] => rfl
  | i :: l => by
    show (flatOk 8 (.bl i) && flatOkL 8 (l.map D.bl)) = true
    rw [flat_bls l] <;> rfl
theorem plain_ints : ∀ l : List Int, PyData.plainAll (toPyL (l.map D.int)) = true
  | [] => rfl
  | i :: l => by
    show ((toPy (.int i)).plain && PyData.plainAll (toPyL (l.map D.int))) = true
    rw [plain_ints l] <;> rfl
theorem plain_bls : ∀ l : List Bool, PyData.plainAll (toPyL (l.map D.bl)) = true
  | [] => rfl
  | i :: l => by
    show ((toPy (.bl i)).plain && PyData.plainAll (toPyL (l.map D.bl))) = true
    rw [plain_bls l] <;> rfl
end DL
/-! sum and min of a tuple of whole numbers -/
namespace DL
open PySem PySem.Spec PyProof.Rows L2
end DL
/-! xs.extend(ys) -/
namespace DL
open PySem PySem.Spec PyProof.Rows L2
section
variable {X : Cx} {e : Expr} {en : DEnv} {S : Sto}
end
end DL
/-! zip of two lists -/
namespace DL
open PySem PySem.Spec PyProof.Rows L2
section
variable {X : Cx} {e e2 : Expr} {en : DEnv} {S : Sto} {R : List D → Sto → Prop} {p pos : Pos}
end
end DL
/-! repr of many small numbers -/
namespace DL
open PySem PySem.Spec PyProof.Rows L2
end DL
/-! max of three -/
namespace DL
open PySem PySem.Spec PyProof.Rows L2
end DL
namespace DL
open PySem PySem.Spec PyProof.Rows L2
/-! ### ranges whose ends are great -/
section
variable {X : Cx} {tg : Expr}
variable {a b : Expr} {en : DEnv} {S : Sto} {R : List D → Sto → Prop} {p pos : Pos}
end
end DL
namespace DL
open PySem PySem.Spec PyProof.Rows L2
/-! ### comprehensions over two walks -/
section
variable {X : Cx} {elt iter iter1 : Expr} {en : DEnv} {S : Sto} {Q : D → Sto → Prop} {pos py pz : Pos} {y z : Str} {scope : Scope}
end
end DL
namespace DL
open PySem PySem.Spec PyProof.Rows L2
/-! ### for x in a list that may be changed, but is not, within -/
section
variable {X : Cx} {tg iter : Expr} {body : List Stmt} {en : DEnv} {S : Sto} {Z : Dn} {pos : Pos}
end
end DL
namespace DL
open PySem PySem.Spec PyProof.Rows L2
/-! ### xs[i] += e, of whole numbers in a changed list -/
section
variable {X : Cx} {a b e : Expr} {en : DEnv} {S : Sto} {Z : Dn} {pos tpos : Pos}
end
end DL
namespace DL
open PySem PySem.Spec PyProof.Rows L2
/-! ### pairs of whole numbers in order -/
def rCmpD (K : PySem.W.Frag) (f : Bool → Bool) : R2 := fun x y H Q => ∃ d e, Dp K H x d ∧ Dp K H y e ∧ PySem.W.alike d e = true ∧ d ≠ .none ∧ min d.depth e.depth ≤ 60 ∧ Q (.bl (f (PySem.W.dataLt d e))) H
theorem op_ltD {X : Cx} (hu : X.A.units + 65 < cLine) : OpR X (compareOp .Lt) (rCmpD X.K (·)) := by
  intro pins s σ H x y v u Q I rx ry h
  obtain ⟨d, e, hd, he, ha, hn, hm, q⟩ := h
  obtain ⟨as, r1⟩ := Dp.reads I d x v hd rx
  obtain ⟨bs, r2⟩ := Dp.reads I e y u he ry
  exact PySem.W.lt_data r1 r2 ha hn (by omega) ⟨.bl _, H, I, rfl, q⟩
def lt2 (s t : Int × Int) : Bool := decide (s.1 < t.1 ∨ s.1 = t.1 ∧ s.2 < t.2)
theorem lt_pairs (a b c d : Int) : PySem.W.dataLt (.tuple [.int a, .int b]) (.tuple [.int c, .int d]) = lt2 (a, b) (c, d) := by
  rw [PySem.W.dataLt_tuple, PySem.W.dataLt_cons rfl, PySem.W.dataLt_int]
  by_cases h : a = c
  · subst h
    rw [if_pos (show PyData.eqv (.int a) (.int a) = true by simp [PyData.eqv])]
    rw [PySem.W.dataLt_cons rfl, PySem.W.dataLt_int]
    by_cases g : b = d
    · subst g
      rw [if_pos (show PyData.eqv (.int b) (.int b) = true by simp [PyData.eqv])]
      rw [show lt2 (a, b) (a, b) = false from decide_eq_false (by show ¬ (a < a ∨ a = a ∧ b < b); omega)]
      rfl
    · rw [if_neg (show ¬ PyData.eqv (.int b) (.int d) = true by simpa [PyData.eqv] using g)]
      unfold lt2
      simp
  · rw [if_neg (show ¬ PyData.eqv (.int a) (.int c) = true by simpa [PyData.eqv] using h)]
    unfold lt2
    simp [h]
section
variable {X : Cx} {a b : Expr} {en : DEnv} {S : Sto} {Q : D → Sto → Prop} {P : Bool → Sto → Prop} {pos : Pos}
def cmp2 (x y : D) (S : Sto) (f : Bool → Bool) (Q : Bool → Sto → Prop) : Prop := ∃ a1 a2 b1 b2 : Int, x = .tup [.int a1, .int a2] ∧ y = .tup [.int b1, .int b2] ∧ Q (f (lt2 (a1, a2) (b1, b2))) S
theorem dr_cmp2 {K : PySem.W.Frag} {x y : D} {f : Bool → Bool} (h : cmp2 x y S f fun b S' => Q (.bl b) S') : DR2 K (fun x y H Q => rCmpD K f x y H Q) x y S Q := by
  intro H Hd vx vy Qv st rx ry k
  obtain ⟨a1, a2, b1, b2, rfl, rfl, q⟩ := h
  have f1 : flatOk 9 (D.tup [.int a1, .int a2]) = true := rfl
  have f2 : flatOk 9 (D.tup [.int b1, .int b2]) = true := rfl
  refine ⟨toPy (.tup [.int a1, .int a2]), toPy (.tup [.int b1, .int b2]), dp_of 9 _ vx f1 (Rp.mono st.sub _ vx rx), dp_of 9 _ vy f2 (Rp.mono st.sub _ vy ry), rfl, (fun z => nomatch z), ?_, ?_⟩
  · exact Nat.le_trans (Nat.min_le_left _ _) (by simp [toPy, toPyL, PyData.depth, PyData.depthAll])
  · exact k _ _ (.here (d := .bl _) st (by rw [show toPy (.tup [.int a1, .int a2]) = PyData.tuple [.int a1, .int a2] from rfl, show toPy (.tup [.int b1, .int b2]) = PyData.tuple [.int b1, .int b2] from rfl, lt_pairs]; rfl) q)
theorem de_lt2 (hu : X.A.units + 65 < cLine) (h : DE X a en S fun x S1 => DE X b en S1 fun y S2 => cmp2 x y S2 (·) fun b S' => Q (.bl b) S') (hm : behindInMarks .Lt b = false := by rfl) : DE X (.Compare a [.Lt] [b] pos) en S Q :=
  de_cmpR (op_ltD hu) hm (h.mono fun _ _ h1 => h1.mono fun _ _ h2 => dr_cmp2 h2)
end
end DL
/-! sorted of a tuple of ints -/
namespace DL
open PySem PySem.Spec PyProof.Rows L2
end DL
/-! repr of an own exception that was made with one text -/
namespace PySem
namespace ExR
open Sem (wp)
open Builtin Builtin.Str Builtin.BaseException Builtin.Exceptions
open PySem.W (Looks Frag findIn subIn clsIn looks_findIn looks_subIn looks_clsIn)
def nmOf (cd : PySem.ClassData) : Str := Str.ofString ((cd.name.toString.cutAt '.').getLastD "")
/-- how such an error is shown -/
def txtOf (cd : PySem.ClassData) (m : Str) : Str := nmOf cd ++ Str.ofString "(" ++ reprText m ++ Str.ofString ")"
section
variable {prog : Program} {w : World} {M : Model} {A : Around} {E : Value → Shared → Prop} {s : Shared} {K : Frag} {C e t0 : Addr} {cd : PySem.ClassData} {m : Str} {tk : Tok}
theorem tnw (hc : clsIn K C = some cd) (x : ExcC K C e t0 s.heap) {Q : String → Shared → Prop} (q : Q cd.name.toString s) : wpAny M A (typeNameOfWhole (.ref e)) Q E s := by
  unfold typeNameOfWhole shownTypeOf
  refine wpAny_bind (wpAny_bind (x.LT.here ?_))
  have e1 : ((Value.ref C == Value.type "builtin_function_or_method") = true) = False := by
    have z : (Value.ref C == Value.type "builtin_function_or_method") = false := rfl
    rw [z]
    simp
  simp only [e1, if_false]
  refine wpAny_pure ?_
  show wpAny M A (classData C >>= fun d => pure d.name.toString) Q E s
  exact wpAny_bind ((looks_clsIn x.1 hc).here (wpAny_pure q))
theorem reprAt (b : Nat) (hc : clsIn K C = some cd) (x : ExcC K C e t0 s.heap) (ht : s.heap.TupAt t0 [.str m tk]) {Q : Fin → Shared → Prop}
    (q : Q (.done (.ret (.str (txtOf cd m) (s.toks + 1)))) { s with toks := s.toks + 1 + 1 }) (hz : b + (txtOf cd m).length ≤ sizeLine) : wpAny (model prog w) A (bexcReprAt b ⟨[.ref e], []⟩) Q E s := by
  have z1 : b + (nmOf cd ++ Str.ofString "(" ++ reprText m ++ Str.ofString ")").length ≤ sizeLine := hz
  have z2 : (nmOf cd ++ Str.ofString "(" ++ reprText m ++ Str.ofString ")").length ≤ sizeLine := Nat.le_trans (Nat.le_add_left _ b) z1
  have z3 : (Str.ofString ((cd.name.toString.cutAt '.').getLastD "") ++ Str.ofString "(" ++ reprText m ++ Str.ofString ")").length ≤ sizeLine := z2
  have p1 : (Str.ofString "(").length = 1 := by rw [ofString_length] <;> rfl
  have z4 := z1
  rw [strLen_append, strLen_append, strLen_append, p1] at z4
  have hsz1 : (reprText m).length ≤ sizeLine := by omega
  have hp : b + ((Str.ofString ((cd.name.toString.cutAt '.').getLastD "")).length + 1) ≤ sizeLine := by
    have : (nmOf cd).length = (Str.ofString ((cd.name.toString.cutAt '.').getLastD "")).length := rfl
    omega
  unfold bexcReprAt
  repeat (first
    | with_reducible refine tnw hc x ?_
    | with_reducible refine bexcArgs_C x ht ?_
    | rw [pyReprUnder_leaf (v := .str m tk) hp (by intro a; nofun)]
    | with_reducible refine wpAny_pyRepr_str ?_
    | wp_step)
  exact q
/-- the slot, bound -/
theorem ifB {name : Str} {id : String} {Q : Option Value → Shared → Prop} (x : ExcC K C e t0 s.heap) (hf : findIn K (.ref C) name = some (some (.builtin id))) (hb : bindSpecial (.builtin id) (.ref e) = pure (.builtin id, [.ref e]))
    {last : Value → List Value → Sem Value} (h : wpAny M A (last (.builtin id) [.ref e]) (fun v => Q (some v)) E s) : wpAny M A (callSpecialIfBoundBy? last (.ref e) name) Q E s := by
  have sp : Looks M s.heap (specialOf (.ref e) name) (some (.builtin id)) := x.LT.andThen (looks_findIn x.1 hf)
  simp only [callSpecialIfBoundBy?, bindSpecialIfBound?]
  refine wpAny_holding (wpAny_bind (wpAny_bind (sp.here ?_)))
  refine wpAny_bind (wpAny_askSetting (wpAny_ite ?_))
  have k : wpAny M A (last (.builtin id) [.ref e] >>= fun v => pure (some v)) Q E s := wpAny_bind (wpAny_mono h (fun v s' z => wpAny_pure z) fun _ _ z => z)
  split
  · exact wpAny_bind (wpAny_of_eq hb (wpAny_pure (by exact k)))
  · exact wpAny_tryCatch (wpAny_bind (wpAny_of_eq hb (wpAny_pure (by exact k))))
theorem bexc_sub {x : ExcC K C e t0 s.heap} (hB : subIn K (.ref C) (.type "BaseException") = some true) {Q : Unit → Shared → Prop} (q : Q () s) : wpAny (model prog w) A (checkBuiltinCall "BaseException.__repr__" ⟨[.ref e], []⟩) Q E s :=
  @PySem.W.check_slot _ _ _ _ "BaseException.__repr__" "BaseException" "__repr__" (.ref e) [] [] _ (by decide +kernel) (by decide +kernel) (x.LI hB) (F.args_bexc_repr _) q
theorem bexc_bind : bindSpecial (.builtin "BaseException.__repr__") (.ref e) = pure (.builtin "BaseException.__repr__", [.ref e]) := F.excStr_Exception.repr.bind _
theorem under (b : Nat) (hc : clsIn K C = some cd) (x : ExcC K C e t0 s.heap) (ht : s.heap.TupAt t0 [.str m tk]) (hB : subIn K (.ref C) (.type "BaseException") = some true) (hf : findIn K (.ref C) "__repr__" = some (some (.builtin "BaseException.__repr__"))) (hu : A.units < cLine)
    {Q : Value → Shared → Prop} (q : Q (.str (txtOf cd m) (s.toks + 1)) { s with toks := s.toks + 1 + 1 }) (hz : b + (txtOf cd m).length ≤ sizeLine) : wpAny (model prog w) A (pyReprObjUnder b (.ref e)) Q E s := by
  unfold pyReprObjUnder pyReprObjBy
  refine wpAny_bind (wpAny_cRoomFor hu ?_)
  have sp : Looks (model prog w) s.heap (specialOf (.ref e) (Str.ofString "__repr__")) (some (.builtin "BaseException.__repr__")) := x.LT.andThen (looks_findIn x.1 hf)
  refine wpAny_bind (sp.here ?_)
  refine wpAny_bind (ifB (name := Str.ofString "__repr__") x hf bexc_bind ?_)
  show wpAny (model prog w) A (call (.builtin "BaseException.__repr__.under") [.ref e, rawInt b]) _ _ _
  refine wpAny_call (codeAny_call_builtin F.plain_bexc_repr_under F.entry_bexc_repr_under ?_)
  rw [F.check_bexc_repr_under]
  refine wpAny_pure ?_
  rw [show Builtin.«BaseException.__repr__.under» = reprTwin "BaseException.__repr__" bexcReprAt from rfl, reprTwin_eq]
  refine wpAny_bind (bexc_sub (x := x) hB ?_)
  refine reprAt b hc x ht ?_ hz
  show wpAny _ _ (isInstance (.str (txtOf cd m) (s.toks + 1)) (.type "str") >>= _) _ _ _
  refine wpAny_bind (wpAny_isInstance (T := "str") (b := true) rfl isSubtype_str_str ?_)
  exact wpAny_pure q
end
end ExR
end PySem
/-! what any value is shown as: plain data, dicts, own errors, lists and tuples of them -/
namespace DL
open PySem PySem.Spec PyProof.Rows L2
/-! ### how deep a value is -/
mutual
inductive Dpt (h : Heap) : Value → Nat → Prop
  | leaf {v : Value} : (∀ a, v ≠ .ref a) → Dpt h v 0
  | obj {a : Addr} {o : Obj} : h.get? a = some o → (∀ xs n, o.data ≠ .seq xs n) → Dpt h (.ref a) 1
  | seq {a : Addr} {o : Obj} {items : List Value} {n k : Nat} : h.get? a = some o → o.data = .seq items.toArray n → DptL h items k → Dpt h (.ref a) (k + 1)
inductive DptL (h : Heap) : List Value → Nat → Prop
  | nil : DptL h [] 0
  | cons {v : Value} {vs : List Value} {j k : Nat} : Dpt h v j → DptL h vs k → DptL h (v :: vs) (max j k)
end
mutual
theorem Dpt.det {h : Heap} : ∀ {v : Value} {n m : Nat}, Dpt h v n → Dpt h v m → n = m
  | _, _, _, .leaf e, .leaf _ => rfl
  | _, _, _, .leaf e, .obj _ _ => absurd rfl (e _)
  | _, _, _, .leaf e, .seq _ _ _ => absurd rfl (e _)
  | _, _, _, .obj _ _, .leaf e => absurd rfl (e _)
  | _, _, _, .obj _ _, .obj _ _ => rfl
  | _, _, _, .obj e f, .seq e2 f2 _ => by
    rw [e] at e2
    cases e2
    exact absurd f2 (f _ _)
  | _, _, _, .seq _ _ _, .leaf e => absurd rfl (e _)
  | _, _, _, .seq e f _, .obj e2 f2 => by
    rw [e] at e2
    cases e2
    exact absurd f (f2 _ _)
  | _, _, _, .seq (items := i1) e f g, .seq (items := i2) e2 f2 g2 => by
    rw [e] at e2
    cases e2
    rw [f] at f2
    have z : i1 = i2 := by
      have w := congrArg (fun d => match d with | Data.seq xs _ => xs.toList | _ => []) f2
      simpa using w
    subst z
    rw [DptL.det g g2]
theorem DptL.det {h : Heap} : ∀ {vs : List Value} {n m : Nat}, DptL h vs n → DptL h vs m → n = m
  | _, _, _, .nil, .nil => rfl
  | _, _, _, .cons a b, .cons c d => by rw [Dpt.det a c, DptL.det b d]
end
def AsB (h : Heap) (n : Nat) (as : List Addr) : Prop := ∀ b ∈ as, ∃ m, m ≤ n ∧ Dpt h (.ref b) m
theorem AsB.nil {h : Heap} {n : Nat} : AsB h n [] := fun _ z => nomatch z
theorem AsB.up {h : Heap} {n m : Nat} {as : List Addr} (x : AsB h n as) (k : n ≤ m) : AsB h m as := fun b hb => let ⟨j, h1, h2⟩ := x b hb; ⟨j, Nat.le_trans h1 k, h2⟩
theorem AsB.app {h : Heap} {n : Nat} {as bs : List Addr} (x : AsB h n as) (y : AsB h n bs) : AsB h n (as ++ bs) := fun b hb => (List.mem_append.mp hb).elim (x b) (y b)
theorem AsB.notIn {h : Heap} {n : Nat} {as : List Addr} {a : Addr} (x : AsB h n as) (d : Dpt h (.ref a) (n + 1)) : a ∉ as := fun hm => by
  obtain ⟨m, h1, h2⟩ := x a hm
  have := Dpt.det d h2
  omega
/-- u is shown as t -/
def Sh (P : Program) (w : World) (h : Heap) (u : Value) (t : Str) (n : Nat) : Prop := ∃ as, Dpt h u n ∧ AsB h n as ∧ ReprK P w as h n u t
def ShL (P : Program) (w : World) (h : Heap) (us : List Value) (ts : List Str) (n : Nat) : Prop := ∃ as, DptL h us n ∧ AsB h n as ∧ ReprAllK P w as h n us ts
section
variable {P : Program} {w : World} {h : Heap} {u : Value} {us : List Value} {t : Str} {ts : List Str} {n j k : Nat} {a : Addr} {o : Obj} {na : Nat}
theorem Sh.leaf (e : ∀ a, u ≠ .ref a) (r : ReprIs P w u t) : Sh P w h u t 0 := ⟨[], .leaf e, .nil, .of_is r _ _ _⟩
theorem ShL.nil : ShL P w h [] [] 0 := ⟨[], .nil, .nil, .nil⟩
theorem ShL.cons (x : Sh P w h u t j) (y : ShL P w h us ts k) : ShL P w h (u :: us) (t :: ts) (max j k) := by
  obtain ⟨as, d1, b1, r1⟩ := x
  obtain ⟨bs, d2, b2, r2⟩ := y
  exact ⟨as ++ bs, .cons d1 d2, (b1.up (Nat.le_max_left _ _)).app (b2.up (Nat.le_max_right _ _)),
    .cons ((r1.more fun b hb => List.mem_append_left _ hb).level_le (Nat.le_max_left _ _)) (r2.more_le (fun b hb => List.mem_append_right _ hb) (Nat.le_max_right _ _))⟩
theorem Sh.lst (x : ShL P w h us ts n) (ho : h.get? a = some o) (hc : o.cls = .type "list") (hd : o.data = .seq us.toArray na) : Sh P w h (.ref a) (listText ts) (n + 1) := by
  obtain ⟨as, d, b, r⟩ := x
  have D : Dpt h (.ref a) (n + 1) := .seq ho hd d
  refine ⟨a :: as, D, fun c hc2 => ?_, ?_⟩
  · rcases List.mem_cons.mp hc2 with e | e
    · rw [e]
      exact ⟨_, Nat.le_refl _, D⟩
    · exact (b.up (Nat.le_succ _)) c e
  · cases us with
    | nil =>
      cases r
      rw [listText_nil]
      exact ReprK.listEmpty ho hc hd
    | cons x l => exact ReprK.list ho hc hd (b.notIn D) (by simpa using r.length_eq) (fun i y e => r.item i y (by simpa using e))
theorem Sh.tup (x : ShL P w h us ts n) (ho : h.get? a = some o) (hc : o.cls = .type "tuple") (hd : o.data = .seq us.toArray na) : Sh P w h (.ref a) (tupleText ts) (n + 1) := by
  obtain ⟨as, d, b, r⟩ := x
  have D : Dpt h (.ref a) (n + 1) := .seq ho hd d
  refine ⟨a :: as, D, fun c hc2 => ?_, ReprK.tuple ho hc hd (b.notIn D) r⟩
  rcases List.mem_cons.mp hc2 with e | e
  · rw [e]
    exact ⟨_, Nat.le_refl _, D⟩
  · exact (b.up (Nat.le_succ _)) c e
end

/-! ### data that is shown -/
/-- what stands behind an ext is shown as t -/
structure ShX (P : Program) (w : World) (K : PySem.W.Frag) (Q : Hp → V → Prop) (t : Str) (n : Nat) : Prop where
  sh : ∀ {X : Cx} {pins : List (Addr × Obj)} {σ : L2.St} {H Hd : Hp} {s : Shared} {v : V} {u : Value}, X.prog = P → X.w = w → X.K = K → Inv X pins σ H s → Same Hd H → Q Hd v → RelV v u → Sh P w s.heap u t n
  top : ∀ {X : Cx} {pins : List (Addr × Obj)} {σ : L2.St} {H Hd : Hp} {s : Shared} {v : V} {u : Value} {R : Value → Shared → Prop} {E : Value → Shared → Prop}, X.prog = P → X.w = w → X.K = K → X.A.guards = some [] → X.A.units + 64 < cLine → t.length ≤ sizeLine → Inv X pins σ H s → Same Hd H → Q Hd v → RelV v u →
    (∀ h' x tk, (∀ b o, s.heap.get? b = some o → h'.get? b = some o) → R (.str t x) { s with heap := h', toks := tk }) → wpAny (model X.prog X.w) X.A (call (.builtin "repr") [u]) R E s
mutual
/-- d is shown as t, of depth n; t has at most m signs -/
def ShD (P : Program) (w : World) (K : PySem.W.Frag) : D → Str → Nat → Nat → Prop
  | .non, t, n, m => t = "None" ∧ n = 0 ∧ 8 ≤ m
  | .bl b, t, n, m => t = (if b then Str.ofString "True" else Str.ofString "False") ∧ n = 0 ∧ 8 ≤ m
  | .int i, t, n, m => t = toString i ∧ i.natAbs < 2 ^ 1900 ∧ n = 0 ∧ 1930 ≤ m
  | .str x, t, n, m => t = reprText x ∧ (reprText x).length ≤ m ∧ n = 0 ∧ m ≤ 100000
  | .tup l, t, n, m => ∃ ts k j, ShDL P w K l ts k j ∧ t = tupleText ts ∧ n = k + 1 ∧ j + 3 ≤ m
  | .lst l, t, n, m => ∃ ts k j, ShDL P w K l ts k j ∧ t = listText ts ∧ n = k + 1 ∧ j + 3 ≤ m
  | .ext Q, t, n, m => ShX P w K Q t n ∧ t.length ≤ m
  | .raw _, _, _, _ => False
  | .scr _, _, _, _ => False
def ShDL (P : Program) (w : World) (K : PySem.W.Frag) : List D → List Str → Nat → Nat → Prop
  | [], ts, n, _ => ts = [] ∧ n = 0
  | d :: ds, ts, n, m => ∃ t ts' j k p q, ts = t :: ts' ∧ ShD P w K d t j p ∧ ShDL P w K ds ts' k q ∧ n = max j k ∧ p + 2 + q ≤ m
end
section
variable {P : Program} {w : World} {K : PySem.W.Frag}
mutual
theorem sh_len : ∀ (d : D) (t : Str) (n m : Nat), ShD P w K d t n m → t.length ≤ m
  | .non, t, n, m, h => by
    obtain ⟨rfl, _, h⟩ := h
    exact Nat.le_trans (by decide) h
  | .bl b, t, n, m, h => by
    obtain ⟨rfl, _, h⟩ := h
    refine Nat.le_trans ?_ h
    cases b <;> decide
  | .int i, t, n, m, h => by
    obtain ⟨rfl, hi, _, h⟩ := h
    obtain ⟨h1, h2⟩ := digits_le hi
    refine Nat.le_trans ?_ h
    have : (Str.ofString (toString i)).length ≤ 1921 := h1
    exact Nat.le_trans this (by decide)
  | .str x, t, n, m, h => by
    obtain ⟨rfl, h, _⟩ := h
    exact h
  | .tup l, t, n, m, h => by
    obtain ⟨ts, k, j, hl, rfl, _, hj⟩ := h
    have e := sh_lens l ts k j hl
    have := tupleText_len_le ts
    omega
  | .lst l, t, n, m, h => by
    obtain ⟨ts, k, j, hl, rfl, _, hj⟩ := h
    have e := sh_lens l ts k j hl
    have := listText_len_le ts
    omega
  | .ext Q, t, n, m, h => h.2
  | .raw _, _, _, _, h => h.elim
  | .scr _, _, _, _, h => h.elim
theorem sh_lens : ∀ (l : List D) (ts : List Str) (n m : Nat), ShDL P w K l ts n m → (ts.map (·.length)).sum + 2 * ts.length ≤ m
  | [], ts, n, m, h => by
    obtain ⟨rfl, _⟩ := h
    simp
  | d :: ds, ts, n, m, h => by
    obtain ⟨t, ts', j, k, p, q, rfl, h1, h2, _, h3⟩ := h
    have e1 := sh_len d t j p h1
    have e2 := sh_lens ds ts' k q h2
    simp only [List.map_cons, List.sum_cons, List.length_cons]
    omega
end
end
section
variable {X : Cx} {pins : List (Addr × Obj)} {σ : L2.St} {H Hd : Hp} {s : Shared}
mutual
theorem sh_of (I : Inv X pins σ H s) (e : Same Hd H) : ∀ (d : D) (t : Str) (n m : Nat) (v : V) (u : Value), ShD X.prog X.w X.K d t n m → t.length ≤ sizeLine → Rp X.K Hd d v → RelV v u → Sh X.prog X.w s.heap u t n
  | .non, t, n, m, v, u, h, _, r, q => by
    obtain ⟨rfl, rfl, _⟩ := h
    have r : v = .non := r
    subst r
    have q : u = .none := q
    subst q
    exact .leaf (fun _ z => nomatch z) ReprIs.none
  | .bl b, t, n, m, v, u, h, _, r, q => by
    obtain ⟨rfl, rfl, _⟩ := h
    have r : v = .bl b := r
    subst r
    have q : u = .bool b := q
    subst q
    exact .leaf (fun _ z => nomatch z) (ReprIs.bool b)
  | .int i, t, n, m, v, u, h, _, r, q => by
    obtain ⟨rfl, hi, rfl, _⟩ := h
    have r : v = .int i := r
    subst r
    obtain ⟨tk, rfl⟩ := q
    exact .leaf (fun _ z => nomatch z) (ReprIs.int tk (digits_le hi).2)
  | .str x, t, n, m, v, u, h, z, r, q => by
    obtain ⟨rfl, hz, rfl, _⟩ := h
    have r : v = .str x := r
    subst r
    obtain ⟨tk, rfl⟩ := q
    exact .leaf (fun _ z => nomatch z) (ReprIs.str x tk z)
  | .tup l, t, n, m, v, u, h, z, r, q => by
    obtain ⟨ts, k, j, hl, rfl, rfl, _⟩ := h
    obtain ⟨a, xs, rfl, h1, h2⟩ := r
    have q : u = .ref a := q
    subst q
    obtain ⟨its, rv, ⟨o, ho, hc, na, hd⟩, _⟩ := I.tuple (same_t e h1)
    exact Sh.tup (shs_of I e l ts k j xs its hl (fun t ht => Nat.le_trans (tupleText_mem_le ht) z) h2 rv) ho hc hd
  | .lst l, t, n, m, v, u, h, z, r, q => by
    obtain ⟨ts, k, j, hl, rfl, rfl, _⟩ := h
    obtain ⟨a, xs, rfl, h1, h2⟩ := r
    have q : u = .ref a := q
    subst q
    obtain ⟨its, rv, ⟨o, na, ho, hc, _, hd⟩, _⟩ := I.list (.of (e _ _ h1))
    exact Sh.lst (shs_of I e l ts k j xs its hl (fun t ht => Nat.le_trans (listText_mem_le ht) z) h2 rv) ho hc hd
  | .ext Q, t, n, m, v, u, h, z, r, q => by
    obtain ⟨H0, e0, r⟩ := r
    exact h.1.sh rfl rfl rfl I (e0.trans e) r q
  | .raw _, _, _, _, _, _, h, _, _, _ => h.elim
  | .scr _, _, _, _, _, _, h, _, _, _ => h.elim
theorem shs_of (I : Inv X pins σ H s) (e : Same Hd H) : ∀ (l : List D) (ts : List Str) (n m : Nat) (vs : List V) (us : List Value), ShDL X.prog X.w X.K l ts n m → (∀ t ∈ ts, t.length ≤ sizeLine) → RpL X.K Hd l vs → Vals vs us → ShL X.prog X.w s.heap us ts n
  | [], ts, n, m, vs, us, h, _, r, q => by
    obtain ⟨rfl, rfl⟩ := h
    have r : vs = [] := r
    subst r
    cases q
    exact .nil
  | d :: ds, ts, n, m, vs, us, h, z, r, q => by
    obtain ⟨t, ts', j, k, p, q', rfl, h1, h2, rfl, _⟩ := h
    obtain ⟨v, vs', rfl, r1, r2⟩ := r
    cases q with
    | cons q1 q2 => exact .cons (sh_of I e d t j p v _ h1 (z t List.mem_cons_self) r1 q1) (shs_of I e ds ts' k q' vs' _ h2 (fun t ht => z t (List.mem_cons_of_mem _ ht)) r2 q2)
end
end
end DL
/-! dicts of ints, own errors as values: their text, their kind; repr and isinstance of any value -/
namespace DL
open PySem PySem.Spec PyProof.Rows L2
/-- a dict of ints -/
def dicD (kvs : List (Key × Int)) : D := .ext fun H v => ∃ a, v = .ref a ∧ H a = some (.dK (kvs.map fun p => (p.1, V.int p.2)))
def keyTx : Key → Str
  | .inl i => toString i
  | .inr x => reprText x
def keyOk : Key → Prop
  | .inl i => i.natAbs < 2 ^ 1900
  | .inr x => (reprText x).length ≤ 100000
def dicTx (kvs : List (Key × Int)) : Str := dictText (kvs.map fun p => keyTx p.1 ++ Str.ofString ": " ++ Str.ofString (toString p.2))
section
variable {P : Program} {w : World} {h : Heap}
theorem ents_sh : ∀ {kvs : List (Key × Int)} {es : List DictEntry} {vs : List (Key × Value)}, (∀ p ∈ kvs, keyOk p.1 ∧ p.2.natAbs < 2 ^ 1900) → KV (kvs.map fun p => (p.1, V.int p.2)) vs → Pairs (mixKind P w) es vs →
    ReprEntriesK P w [] h 0 es (kvs.map fun p => keyTx p.1 ++ Str.ofString ": " ++ Str.ofString (toString p.2))
  | [], es, vs, ok, kv, ps => by
    cases kv
    cases ps
    exact .nil
  | (k, i) :: kvs, es, vs, ok, kv, ps => by
    cases kv with
    | cons z rest =>
      cases ps with
      | cons z1 z2 ps =>
        obtain ⟨e1, e2⟩ := z
        obtain ⟨o1, o2⟩ := ok (k, i) List.mem_cons_self
        obtain ⟨tk, e3⟩ := e2
        refine .cons (d := 0) ?_ ?_ (ents_sh (fun p hp => ok p (List.mem_cons_of_mem _ hp)) rest ps)
        · dsimp only at e1 z1
          rw [← e1] at z1
          rcases keyIs_shape z1 with ⟨j, t, rfl, ev⟩ | ⟨x, t, rfl, ev⟩
          · rw [ev]
            exact .of_is (ReprIs.int t (digits_le o1).2) _ _ _
          · rw [ev]
            exact .of_is (ReprIs.str x t (Nat.le_trans o1 (by decide))) _ _ _
        · rw [z2, e3]
          exact .of_is (ReprIs.int tk (digits_le o2).2) _ _ _
end
theorem dic_at {X : Cx} {pins : List (Addr × Obj)} {σ : L2.St} {H Hd : Hp} {s : Shared} {kvs : List (Key × Int)} {v : V} {u : Value} (I : Inv X pins σ H s) (e : Same Hd H) (q : ∃ a, v = .ref a ∧ Hd a = some (.dK (kvs.map fun p => (p.1, V.int p.2)))) (r : RelV v u) :
    ∃ (a : Addr) (o : Obj) (es : Array DictEntry) (ep : Nat) (vs : List (Key × Value)), u = .ref a ∧ s.heap.get? a = some o ∧ o.cls = .type "dict" ∧ o.data = .dict es ep ∧ (a == sysModules) = false ∧ KV (kvs.map fun p => (p.1, V.int p.2)) vs ∧ Pairs (mixKind X.prog X.w) es.toList vs := by
  obtain ⟨a, rfl, ha⟩ := q
  have r : u = .ref a := r
  subst r
  obtain ⟨_, sy, vs, kv, o, es, ep, ho, hx, hd, _, hp, _⟩ := I.hok a _ (e _ _ ha)
  exact ⟨a, o, es, ep, vs, rfl, ho, hx.1, hd, sy, kv, hp⟩
theorem shx_dic {P : Program} {w : World} {K : PySem.W.Frag} {kvs : List (Key × Int)} (ok : ∀ p ∈ kvs, keyOk p.1 ∧ p.2.natAbs < 2 ^ 1900) : ShX P w K (fun H v => ∃ a, v = .ref a ∧ H a = some (.dK (kvs.map fun p => (p.1, V.int p.2)))) (dicTx kvs) 1 where
  sh := fun {X pins σ H Hd s v u} e1 e2 e3 I e q r => by
    subst e1 e2 e3
    obtain ⟨a, o, es, ep, vs, rfl, ho, hc, hd, sy, kv, hp⟩ := dic_at I e q r
    have D : Dpt s.heap (.ref a) 1 := .obj ho fun xs n z => by rw [hd] at z; cases z
    refine ⟨[a], D, fun b hb => ?_, ReprK.dict ho hc hd sy (fun z => nomatch z) (ents_sh ok kv hp)⟩
    rw [List.mem_singleton.mp hb]
    exact ⟨1, Nat.le_refl _, D⟩
  top := fun {X pins σ H Hd s v u R E} e1 e2 e3 gd hu hz I e q r k => by
    subst e1 e2 e3
    obtain ⟨a, o, es, ep, vs, rfl, ho, hc, hd, sy, kv, hp⟩ := dic_at I e q r
    refine call_repr_slot (by omega) ⟨o, ho, hc⟩ F.slot_dict_repr (call_dict_reprK (as := []) (d := 0) ho hc hd sy (fun z => nomatch z) (ents_sh ok kv hp) (A := X.A.in1) gd (fun b _ => Clear.nil b) (by show X.A.units + 1 + (0 + 1) < cLine; omega) (fun _ _ z => z) (fun h' x tk kp => ⟨_, _, rfl, k h' x tk kp⟩) hz)

/-! ### own errors as values -/
/-- what is asked of the class -/
structure ExcK (K : PySem.W.Frag) (C : Addr) (cd : PySem.ClassData) : Prop where
  cls : PySem.W.clsIn K C = some cd
  exC : PySem.W.subIn K (.ref C) (.type "BaseException") = some true
  rp : PySem.W.findIn K (.ref C) "__repr__" = some (some (.builtin "BaseException.__repr__"))
  nm : (PySem.ExR.nmOf cd).length ≤ 100
theorem ExcK.len {K : PySem.W.Frag} {C : Addr} {cd : PySem.ClassData} (T : ExcK K C cd) (m : Str) : (PySem.ExR.txtOf cd m).length ≤ (reprText m).length + 102 := by
  unfold PySem.ExR.txtOf
  have p1 : (Str.ofString "(").length = 1 := by rw [PySem.ofString_length] <;> rfl
  have p2 : (Str.ofString ")").length = 1 := by rw [PySem.ofString_length] <;> rfl
  rw [strLen_append, strLen_append, strLen_append, p1, p2]
  have := T.nm
  omega
/-! ### repr of any value that is shown -/
/-- the value stands in an object -/
def isObj : D → Bool
  | .tup _ => true
  | .lst _ => true
  | .ext _ => true
  | _ => false
def rRepS (P : Program) (w : World) (K : PySem.W.Frag) : List V → Hp → VK → Prop := fun vs H Q => ∃ (v : V) (d : D) (t : Str) (n m : Nat) (Hd : Hp), vs = [v] ∧ Same Hd H ∧ Rp K Hd d v ∧ ShD P w K d t n m ∧ n ≤ 20 ∧ m ≤ 10000000 ∧ isObj d = true ∧ Q (.str t) H
theorem call_repr_S {X : Cx} (gd : X.A.guards = some []) (hu : X.A.units + 64 < cLine) : CallR X (.builtin "repr") (rRepS X.prog X.w X.K) := by
  intro pins s σ H vs us Q I r h
  obtain ⟨v, d, t, n, m, Hd, rfl, e, rd, hs, hn, hm, ob, q⟩ := h
  obtain ⟨u, rfl, ru⟩ := r.one
  have hz : t.length ≤ sizeLine := Nat.le_trans (sh_len d t n m hs) (Nat.le_trans hm (by decide))
  have fin : ∀ h' x tk, (∀ b o, s.heap.get? b = some o → h'.get? b = some o) → EP X pins σ Q (.str t x) { s with heap := h', toks := tk } := fun h' x tk k => ⟨.str t, H, I.kept k, ⟨x, rfl⟩, q⟩
  cases d with
  | non => cases ob
  | bl b => cases ob
  | int i => cases ob
  | str x => cases ob
  | raw x => cases ob
  | scr x => cases ob
  | ext Qd =>
    obtain ⟨H0, e0, rd⟩ := rd
    exact hs.1.top rfl rfl rfl gd hu hz I (e0.trans e) rd ru fin
  | tup l =>
    obtain ⟨ts, k, j, hl, rfl, rfl, _⟩ := hs
    obtain ⟨a, xs, rfl, h1, h2⟩ := rd
    have ru : u = .ref a := ru
    subst ru
    obtain ⟨its, rv, ⟨o, ho, hc, na, hd⟩, _⟩ := I.tuple (same_t e h1)
    obtain ⟨as, dp, b, rp⟩ := shs_of I e l ts k j xs its hl (fun t ht => Nat.le_trans (tupleText_mem_le ht) hz) h2 rv
    have D : Dpt s.heap (.ref a) (k + 1) := .seq ho hd dp
    exact call_repr_slot (by omega) ⟨o, ho, hc⟩ F.slot_tuple_repr (call_tuple_reprK ho hc hd (b.notIn D) rp (A := X.A.in1) gd (fun b _ => Clear.nil b) (by show X.A.units + 1 + (k + 1) < cLine; omega) (fun _ _ z => z) (fun h' x tk kp => ⟨_, _, rfl, fin h' x tk kp⟩) hz)
  | lst l =>
    obtain ⟨ts, k, j, hl, rfl, rfl, _⟩ := hs
    obtain ⟨a, xs, rfl, h1, h2⟩ := rd
    have ru : u = .ref a := ru
    subst ru
    obtain ⟨its, rv, ⟨o, na, ho, hc, _, hd⟩, _⟩ := I.list (.of (e _ _ h1))
    obtain ⟨as, dp, b, rp⟩ := shs_of I e l ts k j xs its hl (fun t ht => Nat.le_trans (listText_mem_le ht) hz) h2 rv
    have D : Dpt s.heap (.ref a) (k + 1) := .seq ho hd dp
    refine call_repr_slot (by omega) ⟨o, ho, hc⟩ F.slot_list_repr.toG ?_
    cases its with
    | nil =>
      cases rp
      have z := fin
      rw [listText_nil] at z
      exact call_list_repr_empty ⟨o, ho, hc⟩ ho hd ⟨_, _, rfl, z s.heap _ _ fun _ _ e => e⟩
    | cons x l' =>
      exact call_list_reprK ho hc hd (b.notIn D) (by simpa using rp.length_eq) (fun i y e => rp.item i y (by simpa using e)) (A := X.A.in1) gd (fun b _ => Clear.nil b) (by show X.A.units + 1 + (k + 1) < cLine; omega) (fun _ _ z => z) (fun h' x tk kp => ⟨_, _, rfl, fin h' x tk kp⟩) hz
/-! ### isinstance of any value -/
/-- what stands behind an ext is of the kind t -/
def KTy (K : PySem.W.Frag) (Q : Hp → V → Prop) (t : Value) : Prop := ∀ {X : Cx} {pins : List (Addr × Obj)} {σ : L2.St} {H Hd : Hp} {s : Shared} {v : V} {u : Value}, X.K = K → Inv X pins σ H s → Same Hd H → Q Hd v → RelV v u →
  ∃ Pp : Heap → Prop, PySem.W.KitX K u t Pp ∧ Pp s.heap ∧ u ≠ .builtin "__main__.__loader__#opaque"
def TyV (K : PySem.W.Frag) : D → Value → Prop
  | .ext Q, t => KTy K Q t
  | .scr _, _ => False
  | d, t => ∃ n, tyD d = some n ∧ t = .type n
theorem kit_v {X : Cx} {pins : List (Addr × Obj)} {σ : L2.St} {H Hd : Hp} {s : Shared} {d : D} {t : Value} {v : V} {u : Value} (I : Inv X pins σ H s) (e : Same Hd H) (T : TyV X.K d t) (r : Rp X.K Hd d v) (q : RelV v u) :
    ∃ Pp : Heap → Prop, PySem.W.KitX X.K u t Pp ∧ Pp s.heap ∧ u ≠ .builtin "__main__.__loader__#opaque" := by
  have pl : ∀ n, tyD d = some n → t = .type n → (∀ l, d ≠ .scr l) → ∃ Pp : Heap → Prop, PySem.W.KitX X.K u t Pp ∧ Pp s.heap ∧ u ≠ .builtin "__main__.__loader__#opaque" := fun n h1 h2 h3 => by
    subst h2
    exact kit_of I q (tyX_of h1 (Rp.mono e d v r) h3)
  cases d with
  | ext Q =>
    obtain ⟨H0, e0, r⟩ := r
    exact T rfl I (e0.trans e) r q
  | scr l => exact T.elim
  | raw x => obtain ⟨n, h1, h2⟩ := T; cases h1
  | non => obtain ⟨n, h1, h2⟩ := T; exact pl n h1 h2 (fun _ z => nomatch z)
  | bl b => obtain ⟨n, h1, h2⟩ := T; exact pl n h1 h2 (fun _ z => nomatch z)
  | int b => obtain ⟨n, h1, h2⟩ := T; exact pl n h1 h2 (fun _ z => nomatch z)
  | str b => obtain ⟨n, h1, h2⟩ := T; exact pl n h1 h2 (fun _ z => nomatch z)
  | tup b => obtain ⟨n, h1, h2⟩ := T; exact pl n h1 h2 (fun _ z => nomatch z)
  | lst b => obtain ⟨n, h1, h2⟩ := T; exact pl n h1 h2 (fun _ z => nomatch z)
def rIsiD (K : PySem.W.Frag) : List V → Hp → VK → Prop := fun vs H Q => ∃ (v c : V) (d : D) (t u : Value) (b : Bool) (Hd : Hp), vs = [v, c] ∧ Same Hd H ∧ Rp K Hd d v ∧ TyV K d t ∧ ClsV c u ∧ PySem.W.kitOne K t u = some b ∧ Q (.bl b) H
theorem call_isi_D {X : Cx} : CallR X (.builtin "isinstance") (rIsiD X.K) := by
  intro pins s σ H vs us Q I r h
  obtain ⟨v, c, d, t, u, b, Hd, rfl, e, rd, T, k, kb, q⟩ := h
  obtain ⟨u1, u2, rfl, r1, r2⟩ := vals2 r
  have e2 := k.eq r2
  subst e2
  obtain ⟨Pp, Z, p, hx⟩ := kit_v I e T rd r1
  exact PySem.W.kia_one Z I.kIn p kb hx fun tk => ⟨.bl b, H, I.tok tk, rfl, q⟩
theorem drc_isiD {K : PySem.W.Frag} {d : D} {t : Value} {T : String} {b : Bool} {S : Sto} {Q : D → Sto → Prop} (ht : TyV K d t) (hk : PySem.W.kitOne K t (.type T) = some b) (q : Q (.bl b) S) : DRC K (rIsiD K) [d, .raw (.ty T)] S Q := fun H Hd vs Qv st rr k => by
  obtain ⟨v, w', e1, rv, rw'⟩ := two_rp rr
  have rw' : w' = V.ty T := rw'
  subst e1 rw'
  exact ⟨v, .ty T, d, t, .type T, b, Hd, rfl, st.sub, rv, ht, .ty T, hk, k _ _ (.here (d := .bl b) st rfl q)⟩
theorem kty_dic {K : PySem.W.Frag} {kvs : List (Key × Int)} : KTy K (fun H v => ∃ a, v = .ref a ∧ H a = some (.dK (kvs.map fun p => (p.1, V.int p.2)))) (.type "dict") := fun {X pins σ H Hd s v u} eK I e q r => by
  subst eK
  obtain ⟨a, o, es, ep, vs, rfl, ho, hc, _⟩ := dic_at I e q r
  exact ⟨_, PySem.W.kitx_dict, ⟨o, ho, hc⟩, fun z => nomatch z⟩
end DL
/-! dicts and own errors made; defs as values, called -/
namespace DL
open PySem PySem.Spec PyProof.Rows L2
section
variable {X : Cx} {a b c e fe : Expr} {es : List Expr} {en : DEnv} {S : Sto} {Q : D → Sto → Prop} {R : RX} {pos p p2 p3 : Pos} {j j2 : Nat}
theorem de_dic0 (q : Q (dicD []) S) : DE X (.Dict [] [] pos) en S Q := ⟨fun σ H Hd st re => by
  refine wE_of pe_dnewK ?_
  intro p hp
  obtain ⟨e1, st1⟩ := st.laid (o := .dK []) hp
  exact ⟨dicD [], S, _, e1, st1, ⟨_, Same.refl _, p, rfl, upd_same⟩, q⟩⟩
/-! ### an own error made, held as a value -/
/-! ### defs as values -/
theorem GOkX.mono {P : Program} {w : World} {K : PySem.W.Frag} {mg : Str → Option Value} {base : Heap} {k k2 : Nat} {f : Addr} {fd : FuncData} {ps : List Str} {C C2 : ConX} (G : GOkX P w K mg base k f fd ps (spDX K C)) (hk : k ≤ k2) (wk : ∀ ds S Q R, C2 ds S Q R → C ds S Q R) : GOkX P w K mg base k2 f fd ps (spDX K C2) :=
  ⟨fun vs H Q E ⟨ds, S, Hd, Qd, Rd, z1, z2, z3, z4⟩ => G.len vs H Q E ⟨ds, S, Hd, Qd, Rd, z1, z2, wk _ _ _ _ z3, z4⟩,
   fun A fr s H ar us vs Q E gd hr e0 hb r ⟨ds, S, Hd, Qd, Rd, z1, z2, z3, z4⟩ => G.run A fr s H ar us vs Q E gd (hr.mono hk) e0 hb r ⟨ds, S, Hd, Qd, Rd, z1, z2, wk _ _ _ _ z3, z4⟩⟩
/-- a def that raises nothing, as one that may -/
theorem GOk.x {P : Program} {w : World} {K : PySem.W.Frag} {mg : Str → Option Value} {base : Heap} {k : Nat} {f : Addr} {fd : FuncData} {ps : List Str} {C : Con} (G : GOk P w K mg base k f fd ps (spD K C)) : GOkX P w K mg base k f fd ps (spDX K fun ds S Q _ => C ds S Q) :=
  ⟨fun vs H Q E ⟨ds, S, Hd, Qd, Rd, z1, z2, z3, z4⟩ => G.len vs H Q E ⟨ds, S, Hd, Qd, z1, z2, z3, z4.1⟩,
   fun A fr s H ar us vs Q E gd hr e0 hb r ⟨ds, S, Hd, Qd, Rd, z1, z2, z3, z4⟩ => codeAny_mono (G.run A fr s H ar us vs Q E gd hr e0 hb r ⟨ds, S, Hd, Qd, z1, z2, z3, z4.1⟩) fun res s' q => by
     cases res with
     | error e => exact q.elim
     | ok fl =>
       cases fl with
       | ret u => exact q
       | next => exact q
       | brk => exact q
       | cont => exact q⟩
theorem Cal.x {P : Program} {w : World} {K : PySem.W.Frag} {mg : Str → Option Value} {base : Heap} {k : Nat} {x : Str} {ps : List Str} {kws : List (Nat × List Str)} {C : Con} (c : Cal P w K mg base k x ps kws C) : CalX P w K mg base k x ps kws (fun ds S Q _ => C ds S Q) := by
  obtain ⟨f, fd, G, h⟩ := c.ex
  exact ⟨f, fd, G.x, h⟩
end
end DL
/-! defs that a caught error is handed to, within the except suite -/
namespace L2H
open PySem PySem.Spec PyProof.Rows L2 HotX
theorem RoomH.units {k : Nat} {A : Around} (r : RoomH k A) : A.units + 64 < cLine := by have := r.un; omega
end L2H
namespace DL
open PySem PySem.Spec PyProof.Rows L2
section
variable {P : Program} {w : World} {K : PySem.W.Frag} {mg : Str → Option Value} {base : Heap}
abbrev ConE := Addr × Obj → Con
end
section
variable {X : Cx} {a : Addr} {oe : Obj} {pn : List (Addr × Obj)} {e : Expr} {es : List Expr} {en : DEnv} {S : Sto} {Q : D → Sto → Prop} {pos p p2 : Pos} {k : Nat} {x : Str} {ps : List Str} {C : ConE}
/-! ### what such a def asks of the error -/
end
/-! ### xs.index(e) -/
section
variable {X : Cx} {e : Expr} {en : DEnv} {S : Sto}
end
end DL
/-! what may raise, within expressions -/
namespace DL
open PySem PySem.Spec PyProof.Rows L2
section
variable {X : Cx} {a b c e tg : Expr} {es : List Expr} {st : Stmt} {sts rest : List Stmt} {en : DEnv} {S : Sto} {Z : Dn} {Q : D → Sto → Prop} {R : RX} {QL : List D → Sto → Prop} {pos p cpos : Pos} {k : Nat} {x : Str} {ps : List Str} {kws : List (Nat × List Str)} {C : Con} {j2 : Nat}
end
/-! ### repr of any value that is shown -/
def rRepW (P : Program) (w : World) (K : PySem.W.Frag) : List V → Hp → VK → Prop := fun vs H Q => ∃ (v : V) (d : D) (t : Str) (n m : Nat) (Hd : Hp), vs = [v] ∧ Same Hd H ∧ Rp K Hd d v ∧ ShD P w K d t n m ∧ n ≤ 20 ∧ m ≤ 10000000 ∧ Q (.str t) H
theorem call_reprW {X : Cx} (gd : X.A.guards = some []) (hu : X.A.units + 64 < cLine) : CallR X (.builtin "repr") (rRepW X.prog X.w X.K) := by
  intro pins s σ H vs us Q I r h
  obtain ⟨v, d, t, n, m, Hd, rfl, e, rd, hs, hn, hm, q⟩ := h
  have go : isObj d = true → wpAny (model X.prog X.w) X.A (call (.builtin "repr") us) (fun u s' => EP X pins σ Q u s') (X.xe) s := fun ob =>
    call_repr_S gd hu pins s σ H [v] us Q I r ⟨v, d, t, n, m, Hd, rfl, e, rd, hs, hn, hm, ob, q⟩
  obtain ⟨u, rfl, ru⟩ := r.one
  cases d with
  | non =>
    obtain ⟨rfl, _⟩ := hs
    have rd : v = V.non := rd
    subst rd
    cases ru
    exact PySem.P.repr_of_none ⟨.str _, H, I.tok _, ⟨_, rfl⟩, q⟩
  | bl b =>
    obtain ⟨rfl, _⟩ := hs
    have rd : v = V.bl b := rd
    subst rd
    cases ru
    refine PySem.P.repr_of_bool ⟨.str _, H, I.tok _, ⟨_, rfl⟩, ?_⟩
    cases b <;> exact q
  | int i =>
    obtain ⟨rfl, hi, _⟩ := hs
    have rd : v = V.int i := rd
    subst rd
    obtain ⟨tk, rfl⟩ := ru
    exact PySem.P.repr_of_int (digits_le hi).2 ⟨.str _, H, I.tok _, ⟨_, rfl⟩, q⟩
  | str x =>
    obtain ⟨rfl, hx, _, hm⟩ := hs
    have rd : v = V.str x := rd
    subst rd
    obtain ⟨tk, rfl⟩ := ru
    exact PySem.P.repr_of_str ⟨.str _, H, I.tok _, ⟨_, rfl⟩, q⟩ (Nat.le_trans hx (Nat.le_trans hm (by decide)))
  | tup l => exact go rfl
  | lst l => exact go rfl
  | ext Qd => exact go rfl
  | raw x => exact hs.elim
  | scr x => exact hs.elim
theorem drc_reprW {P : Program} {w : World} {K : PySem.W.Frag} {d : D} {t : Str} {n m : Nat} {S : Sto} {Q : D → Sto → Prop} (h : ShD P w K d t n m) (q : Q (.str t) S) (hn : n ≤ 20) (hm : m ≤ 10000000) : DRC K (rRepW P w K) [d] S Q := fun H Hd vs Qv st rr k => by
  obtain ⟨v, e1, rv⟩ := one_rp rr
  subst e1
  exact ⟨v, d, t, n, m, Hd, rfl, st.sub, rv, h, hn, hm, k _ _ (.here (d := .str _) st rfl q)⟩
/-! ### parts that may raise -/
section
variable {X : Cx} {a b c e tg iter : Expr} {es : List Expr} {st : Stmt} {sts rest body : List Stmt} {en : DEnv} {S : Sto} {Z : Dn} {Q : D → Sto → Prop} {R : RX} {QL : List D → Sto → Prop} {pos p cpos p2 : Pos} {k : Nat} {x : Str} {ps : List Str} {kws : List (Nat × List Str)} {C : Con} {j2 : Nat} {P : Bool → Sto → Prop}
/-! ### tests -/
/-! ### loops -/
variable {RI : List D → Sto → Prop}
end
end DL
/-! texts repeated; a text read as a number, a number written as a text -/
namespace DL
open PySem PySem.Spec PyProof.Rows L2
section
variable {X : Cx} {a b : Expr} {en : DEnv} {S : Sto} {Q : D → Sto → Prop} {pos : Pos} {K : PySem.W.Frag}
end
end DL
/-! a list that may be changed, lent to a call that reads it; shifts -/
namespace DL
open PySem PySem.Spec PyProof.Rows L2
/-! ### data without lists -/
mutual
def noL : D → Bool
  | .non => true
  | .bl _ => true
  | .int _ => true
  | .str _ => true
  | .raw _ => true
  | .tup l => noLL l
  | .lst _ => false
  | .ext _ => false
  | .scr _ => false
def noLL : List D → Bool
  | [] => true
  | d :: ds => noL d && noLL ds
end
def noS (S : Sto) : Prop := ∀ p l, getS p S = some l → noLL l = true
section
variable {K : PySem.W.Frag} {H : Hp} {p : Addr} {xs : List V}
end
section
variable {X : Cx} {a b e : Expr} {en : DEnv} {S : Sto} {Q : D → Sto → Prop} {pos : Pos}
end
theorem noS_nil : noS [] := fun _ _ h => nomatch h
theorem noS_cons {p : Addr} {l : List D} {S : Sto} (h : noLL l = true) (k : noS S) : noS ((p, l) :: S) := fun q m hq => by
  by_cases e : p = q
  · subst e
    rw [getS_hd] at hq
    cases hq
    exact h
  · rw [getS_tl e] at hq
    exact k q m hq
end DL
namespace DL
open PySem PySem.Spec PyProof.Rows L2
section
variable {X : Cx} {a b : Expr} {en : DEnv} {S : Sto} {Q : D → Sto → Prop} {P : Bool → Sto → Prop} {pos : Pos}
end
end DL
namespace Tp
open PySem PySem.Spec PyProof.Rows L2 DL
/-! ### the mathematics of turns -/
theorem sq_nn (q : Int) : 0 ≤ q * q := by
  rcases Int.le_total 0 q with h | h
  · exact Int.mul_nonneg h h
  · exact Int.mul_nonneg_of_nonpos_of_nonpos h h
def rtX (k : Nat) (x y : Int) : Int := match k with | 0 => x | 1 => -y | 2 => -x | _ => y
def rtY (k : Nat) (x y : Int) : Int := match k with | 0 => y | 1 => x | 2 => -y | _ => -x
def cc (p q : Int) : Int := p * p + q * q
@[irreducible] def lgA (p q k : Int) : Int := rtX k.toNat (p * p - q * q) (p * q + q * p)
@[irreducible] def lgB (p q k : Int) : Int := rtY k.toNat (p * p - q * q) (p * q + q * p)
@[irreducible] def exX (p q k x y : Int) : Int := lgA p q k * x - lgB p q k * y
@[irreducible] def exY (p q k x y : Int) : Int := lgA p q k * y + lgB p q k * x
@[irreducible] def nrr (n d : Int) : Int := (2 * n + d) / (2 * d)
@[irreducible] def imX (p q k x y : Int) : Int := nrr (exX p q k x y) (cc p q)
@[irreducible] def imY (p q k x y : Int) : Int := nrr (exY p q k x y) (cc p q)
theorem rt_step (k : Nat) (hk : k < 3) (x y : Int) : rtX (k + 1) x y = -rtY k x y ∧ rtY (k + 1) x y = rtX k x y := by
  rcases (by omega : k = 0 ∨ k = 1 ∨ k = 2) with h | h | h <;> subst h <;> simp [rtX, rtY]
theorem Bd.rtX {a b : Nat} {x y : Int} (k : Nat) (h : Bd a x) (g : Bd b y) : Bd (max a b) (rtX k x y) := by
  have h1 := h.up (Nat.le_max_left a b)
  have g1 := g.up (Nat.le_max_right a b)
  unfold Tp.rtX
  split
  · exact h1
  · exact g1.neg
  · exact h1.neg
  · exact g1
theorem Bd.rtY {a b : Nat} {x y : Int} (k : Nat) (h : Bd a x) (g : Bd b y) : Bd (max a b) (rtY k x y) := by
  have h1 := h.up (Nat.le_max_left a b)
  have g1 := g.up (Nat.le_max_right a b)
  unfold Tp.rtY
  split
  · exact g1
  · exact h1
  · exact g1.neg
  · exact h1.neg
theorem Bd.cc {p q : Int} (h : Bd 50 p) (g : Bd 50 q) : Bd 101 (cc p q) := (h.mul h).add (g.mul g)
theorem Bd.lgA {p q : Int} (k : Int) (h : Bd 50 p) (g : Bd 50 q) : Bd 101 (lgA p q k) := by unfold Tp.lgA; exact (Bd.rtX _ ((h.mul h).sub (g.mul g)) ((h.mul g).add (g.mul h))).up (by decide)
theorem Bd.lgB {p q : Int} (k : Int) (h : Bd 50 p) (g : Bd 50 q) : Bd 101 (lgB p q k) := by unfold Tp.lgB; exact (Bd.rtY _ ((h.mul h).sub (g.mul g)) ((h.mul g).add (g.mul h))).up (by decide)
theorem Bd.exX {p q x y : Int} {n : Nat} (k : Int) (h : Bd 50 p) (g : Bd 50 q) (hx : Bd n x) (hy : Bd n y) : Bd (102 + n) (exX p q k x y) := by unfold Tp.exX; exact (((Bd.lgA k h g).mul hx).sub ((Bd.lgB k h g).mul hy)).up (by omega)
theorem Bd.exY {p q x y : Int} {n : Nat} (k : Int) (h : Bd 50 p) (g : Bd 50 q) (hx : Bd n x) (hy : Bd n y) : Bd (102 + n) (exY p q k x y) := by unfold Tp.exY; exact (((Bd.lgA k h g).mul hy).add ((Bd.lgB k h g).mul hx)).up (by omega)
theorem Bd.nrr {n d : Int} {a b : Nat} (h : Bd a n) (g : Bd b d) : Bd (max (2 + a) b + 1) (nrr n d) := by unfold Tp.nrr; exact (((Bd.lit 2).mul h).add g).div
theorem Bd.imX {p q x y : Int} {n : Nat} (k : Int) (h : Bd 50 p) (g : Bd 50 q) (hx : Bd n x) (hy : Bd n y) : Bd (105 + n) (imX p q k x y) := by unfold Tp.imX; exact (Bd.nrr (Bd.exX k h g hx hy) (Bd.cc h g)).up (by omega)
theorem Bd.imY {p q x y : Int} {n : Nat} (k : Int) (h : Bd 50 p) (g : Bd 50 q) (hx : Bd n x) (hy : Bd n y) : Bd (105 + n) (imY p q k x y) := by unfold Tp.imY; exact (Bd.nrr (Bd.exY k h g hx hy) (Bd.cc h g)).up (by omega)
theorem cc_pos {p q k : Int} (h : Tn p q k) : 0 < cc p q := by
  have h1 := h.p1
  have h2 : 0 < p * p := Int.mul_pos (by omega) (by omega)
  have h3 : 0 ≤ q * q := sq_nn q
  unfold cc
  omega
theorem cc_one {p q k : Int} (h : Tn p q k) : 1 ≤ cc p q := cc_pos h
/-! ### what the program's defs promise of turns, pixels -/
def con_check_pixel : Con := fun ds S Q => ∃ x y : Int, ds = [.tup [.int x, .int y]] ∧ Q .non S
def con_check_turn : Con := fun ds S Q => ∃ p q k : Int, ds = [.tup [.int p, .int q, .int k]] ∧ Tn p q k ∧ Q .non S
def con_times : Con := fun ds S Q => ∃ x y r s, ds = [.tup [.int x, .int y], .tup [.int r, .int s]] ∧ (Bd 1500 x ∧ Bd 1500 y ∧ Bd 1500 r ∧ Bd 1500 s) ∧ Q (.tup [.int (x * r - y * s), .int (x * s + y * r)]) S
def con_nearest : Con := fun ds S Q => ∃ n d, ds = [.int n, .int d] ∧ (Bd 3000 n ∧ Bd 500 d ∧ 0 < d) ∧ Q (.int (nrr n d)) S
def con_legs_of : Con := fun ds S Q => ∃ p q k : Int, ds = [.tup [.int p, .int q, .int k]] ∧ Tn p q k ∧ Q (.tup [.int (lgA p q k), .int (lgB p q k), .int (cc p q)]) S
def con_exact_place : Con := fun ds S Q => ∃ p q k x y : Int, ds = [.tup [.int p, .int q, .int k], .tup [.int x, .int y]] ∧ Tn p q k ∧ (Bd 1200 x ∧ Bd 1200 y) ∧ Q (.tup [.int (exX p q k x y), .int (exY p q k x y), .int (cc p q)]) S
def con_image : Con := fun ds S Q => ∃ p q k x y : Int, ds = [.tup [.int p, .int q, .int k], .tup [.int x, .int y]] ∧ Tn p q k ∧ (Bd 1200 x ∧ Bd 1200 y) ∧ Q (.tup [.int (imX p q k x y), .int (imY p q k x y)]) S
def con_back : Con := fun ds S Q => ∃ p q k : Int, ds = [.tup [.int p, .int q, .int k]] ∧ Tn p q k ∧ Q (.tup [.int p, .int (-q), .int (-k % 4)]) S

/-! ### what the laws' helpers do -/
theorem abs_nat (i : Int) : (if i < 0 then -i else i) = (i.natAbs : Int) := by split <;> omega
theorem gcd_step (x y : Nat) : Nat.gcd y (x % y) = Nat.gcd x y := by rw [Nat.gcd_comm y, ← Nat.gcd_rec, Nat.gcd_comm]
theorem src_mk {a b : Int} (h : 0 ≤ a) (hb : 0 ≤ b ∧ Bd 200 b) : Src 0 [.int a, .int b, .int 0] := ⟨a, b, 0, rfl, h, hb.2, ⟨Int.le_refl 0, Int.le_refl 0⟩, hb.1⟩
theorem src_a (g m : Int) : 0 ≤ (if g - m > 0 then g - m else 0) := by split <;> omega
theorem src_b (g k : Int) (c : Bool) (hk : 0 ≤ k ∧ k ≤ 100) : 0 ≤ g % (10 ^ (Int.toNat 44) + 31) * 97 + 2 * k + (if c = true then 1 else 0) ∧ Bd 200 (g % (10 ^ (Int.toNat 44) + 31) * 97 + 2 * k + (if c = true then 1 else 0)) := by
  have e : (10 : Int) ^ (Int.toNat 44) + 31 = 100000000000000000000000000000000000000000031 := by decide +kernel
  rw [e]
  have h1 := Int.emod_nonneg g (show (100000000000000000000000000000000000000000031 : Int) ≠ 0 by decide)
  have h2 := Int.emod_lt_of_pos g (show (0 : Int) < 100000000000000000000000000000000000000000031 by decide)
  generalize g % 100000000000000000000000000000000000000000031 = r at *
  unfold Bd
  split <;> omega
theorem src_div {a b c n : Int} {m : Nat} (ha : 0 ≤ a) (hb : Bd 200 b) (hc : 0 ≤ c ∧ c ≤ (m : Int)) (hb0 : 0 ≤ b) (hn : 0 < n) : Src (m + 1) [.int (a / n), .int b, .int c] :=
  ⟨_, _, _, rfl, Int.ediv_nonneg ha (by omega), hb, ⟨hc.1, by omega⟩, hb0⟩
theorem src_next {a b c : Int} {m : Nat} (ha : 0 ≤ a) (hb : Bd 200 b) (hc : 0 ≤ c ∧ c ≤ (m : Int)) (hb0 : 0 ≤ b) : Src (m + 1) [.int a, .int b, .int (c + 1)] :=
  ⟨_, _, _, rfl, ha, hb, ⟨by omega, by omega⟩, hb0⟩
/-- the numbers that a law tries for q, from q on: some end is reached -/
theorem spin_end {p : Int} (h : 1 ≤ p) : Nat.gcd p.natAbs (p - 1).natAbs = 1 ∧ (p + (p - 1)) % 2 = 1 := by
  refine ⟨?_, by omega⟩
  obtain ⟨n, rfl⟩ : ∃ n : Nat, p = (n : Int) + 1 := ⟨(p - 1).toNat, by omega⟩
  have e1 : ((n : Int) + 1).natAbs = n + 1 := by omega
  have e2 : ((n : Int) + 1 - 1).natAbs = n := by omega
  rw [e1, e2, Nat.gcd_comm, Nat.gcd_rec]
  by_cases hn : n = 0
  · subst hn
    rfl
  · have e3 : (n + 1) % n = 1 % n := by rw [Nat.add_mod_left]
    rw [e3]
    by_cases h1 : n = 1
    · subst h1
      rfl
    · rw [Nat.mod_eq_of_lt (by omega)]
      exact Nat.gcd_one_left n
theorem tn_mk {p q k : Int} (h1 : 1 ≤ p) (h2 : p ≤ 1000000000000000) (h3 : 0 ≤ q) (h4 : q < p) (g : Nat.gcd p.natAbs q.natAbs = 1) (o : (p + q) % 2 = 1) (hk : 0 ≤ k ∧ k < 4) : Tn p q k ∧ Tn p (-q) k :=
  ⟨⟨h1, h2, by omega, h4, g, o, hk.1, by omega⟩, ⟨h1, h2, by omega, by omega, by rw [Int.natAbs_neg]; exact g, by omega, hk.1, by omega⟩⟩

theorem pickL {l : List D} {i : Int} {P : D → Prop} (h : ∀ x ∈ l, P x) (h0 : 0 ≤ i) (h1 : i < (l.length : Int)) : ∃ x, atI l i = some x ∧ P x := by
  obtain ⟨j, rfl⟩ : ∃ j : Nat, i = (j : Int) := ⟨i.toNat, by omega⟩
  have hj : j < l.length := by omega
  exact ⟨l[j], atI_nat (List.getElem?_eq_getElem hj), h _ (List.getElem_mem hj)⟩
theorem ix_pick {l : List D} {i : Int} {S : Sto} {Q : D → Sto → Prop} (P : D → Prop) (h : ∀ x ∈ l, P x) (h0 : 0 ≤ i) (h1 : i < (l.length : Int)) (k : ∀ x, P x → Q x S) : ixP (.lst l) (.int i) S Q := by
  obtain ⟨x, e, px⟩ := pickL h h0 h1
  exact ⟨x, e, k x px⟩
theorem fa_nil {P : D → Prop} : ∀ x ∈ ([] : List D), P x := fun _ h => nomatch h
theorem fa_cons {P : D → Prop} {a : D} {l : List D} (h : P a) (k : ∀ x ∈ l, P x) : ∀ x ∈ a :: l, P x := fun x hx => by
  rcases List.mem_cons.mp hx with e | e
  · rw [e]
    exact h
  · exact k x e
theorem Bd.ite {a b : Nat} {c : Prop} [Decidable c] {x y : Int} (h : Bd a x) (k : Bd b y) : Bd (max a b) (if c then x else y) := by
  split
  · exact h.up (Nat.le_max_left _ _)
  · exact k.up (Nat.le_max_right _ _)
theorem spin_turn {p q : Int} (h : 1 ≤ p) (hq : q ≤ p - 1) (z : 1 < ((Nat.gcd p.natAbs q.natAbs : Nat) : Int) ∨ (p + q) % 2 = 0) : q + 1 < p := by
  by_cases e : q = p - 1
  · subst e
    obtain ⟨e1, e2⟩ := spin_end h
    rcases z with z | z
    · rw [e1] at z
      exact absurd z (by decide)
    · omega
  · omega
theorem gcd_one {p q : Int} (h : 1 ≤ p) (z : ¬ 1 < ((Nat.gcd p.natAbs q.natAbs : Nat) : Int)) : Nat.gcd p.natAbs q.natAbs = 1 := by
  have : 0 < Nat.gcd p.natAbs q.natAbs := Nat.gcd_pos_of_pos_left _ (by omega)
  omega

theorem setS_self {p : Addr} {l : List D} : ∀ {S : Sto}, getS p S = some l → setS p l S = S
  | [], h => by cases h
  | (q, m) :: S, h => by
    by_cases e : q = p
    · subst e
      rw [getS_hd] at h
      cases h
      rw [setS_hd]
    · rw [getS_tl e] at h
      rw [setS_tl e, setS_self h]

theorem eq_strT {i j : Str} {S : Sto} {Q : Bool → Sto → Prop} (e : i = j) (q : Q true S) : eqP (.str i) (.str j) S Q := by
  refine eq_str ?_
  rw [decide_eq_true e]
  exact q
theorem tn_b3 {p q k : Int} (h : Tn p q k) : Bd 3 k := by
  have := h.k1
  have := h.k2
  unfold Bd
  omega

/-! ### further helpers of the laws -/
def con_ltimes : Con := fun ds S Q => ∃ x y r s, ds = [.tup [.int x, .int y], .tup [.int r, .int s]] ∧ (Bd 1500 x ∧ Bd 1500 y ∧ Bd 1500 r ∧ Bd 1500 s) ∧ Q (.tup [.int (x * r - y * s), .int (x * s + y * r)]) S
def con_llegs : Con := fun ds S Q => ∃ (l : List D) (p q : Int), ds = [.tup l] ∧ atI l 0 = some (.int p) ∧ atI l 1 = some (.int q) ∧ (Bd 60 p ∧ Bd 60 q) ∧ Q (.tup [.int (p * p - q * q), .int (2 * p * q), .int (p * p + q * q)]) S
def con_close : Con := fun ds S Q => ∃ t l : Int, ds = [.int t, .int l] ∧ (Bd 3000 t ∧ Bd 500 l ∧ 0 < l) ∧ Q (.int (nrr t l)) S
def con_seen : Con := fun ds S Q => ∃ p q k x y : Int, ds = [.tup [.int p, .int q, .int k], .tup [.int x, .int y]] ∧ Tn p q k ∧ (Bd 1200 x ∧ Bd 1200 y) ∧ Q (.tup [.int (imX p q k x y), .int (imY p q k x y)]) S
theorem close_eq {t l : Int} (h : 0 < l) : (if 2 * (t - t / l * l) < l then t / l else t / l + 1) = nrr t l := by
  unfold nrr
  have e := Int.emod_add_mul_ediv t l
  have r0 := Int.emod_nonneg t (show l ≠ 0 by omega)
  have r1 := Int.emod_lt_of_pos t h
  generalize t % l = r at *
  generalize t / l = m at *
  have c1 : m * l = l * m := Int.mul_comm _ _
  split
  · have e3 : 2 * t + l = (2 * r + l) + 2 * l * m := by
      have : 2 * l * m = 2 * (l * m) := Int.mul_assoc _ _ _
      omega
    rw [e3, Int.add_mul_ediv_left _ _ (by omega), Int.ediv_eq_zero_of_lt (by omega) (by omega)]
    omega
  · have e3 : 2 * t + l = (2 * r - l) + 2 * l * (m + 1) := by
      have : 2 * l * (m + 1) = 2 * (l * m) + 2 * l := by rw [Int.mul_add, Int.mul_assoc, Int.mul_one]
      omega
    rw [e3, Int.add_mul_ediv_left _ _ (by omega), Int.ediv_eq_zero_of_lt (by omega) (by omega)]
    omega
theorem ex_raw (p q k x y : Int) : exX p q k x y = rtX k.toNat ((p * p - q * q) * x - 2 * p * q * y) ((p * p - q * q) * y + 2 * p * q * x) ∧ exY p q k x y = rtY k.toNat ((p * p - q * q) * x - 2 * p * q * y) ((p * p - q * q) * y + 2 * p * q * x) := by
  unfold exX exY lgA lgB
  generalize k.toNat = j
  match j with
  | 0 => simp only [rtX, rtY]; constructor <;> grind
  | 1 => simp only [rtX, rtY]; constructor <;> grind
  | 2 => simp only [rtX, rtY]; constructor <;> grind
  | _ + 3 => simp only [rtX, rtY]; constructor <;> grind
theorem tup2 {a b c d : Int} (h : a = c) (g : b = d) : D.tup [.int a, .int b] = D.tup [.int c, .int d] := by rw [h, g]
def rat (x c : Int) : D := .tup [.int (x / ((Nat.gcd x.natAbs c.natAbs : Nat) : Int)), .int (c / ((Nat.gcd x.natAbs c.natAbs : Nat) : Int))]
theorem Bd.isq {n : Nat} {i : Int} (h : Bd n i) : Bd n ((Float64.isqrt i.toNat : Nat) : Int) := by
  obtain ⟨s1, _⟩ := Float64.isqrt_spec i.toNat
  generalize Float64.isqrt i.toNat = r at *
  unfold Bd at h ⊢
  have h1 : r ≤ r * r := by
    rcases Nat.eq_zero_or_pos r with z | z
    · subst z; decide
    · exact Nat.le_mul_of_pos_left r z
  have : (r : Int).natAbs = r := by omega
  omega

end Tp
namespace Tp
open PySem PySem.Spec PyProof.Rows L2 DL
/-! ### turns by quarters, and back -/
theorem cc_odd {p q k : Int} (h : Tn p q k) : cc p q % 2 = 1 := by
  obtain ⟨t, ht⟩ : ∃ t, p + q = 2 * t + 1 := ⟨(p + q) / 2, by have := h.o; omega⟩
  have e : cc p q = 2 * (2 * t * t + 2 * t - 2 * t * q - q + q * q) + 1 := by
    have : p = 2 * t + 1 - q := by omega
    subst this
    unfold cc
    grind
  omega
theorem nrr_neg {n c : Int} (h : c % 2 = 1) (h0 : 0 < c) : nrr (-n) c = -nrr n c := by
  unfold nrr
  have e := Int.emod_add_mul_ediv (2 * n + c) (2 * c)
  have r0 := Int.emod_nonneg (2 * n + c) (show 2 * c ≠ 0 by omega)
  have r1 := Int.emod_lt_of_pos (2 * n + c) (show 0 < 2 * c by omega)
  generalize (2 * n + c) % (2 * c) = r at *
  generalize hm : (2 * n + c) / (2 * c) = m at *
  have e2 : 2 * c * m = 2 * (c * m) := by rw [Int.mul_assoc]
  have rn : r ≠ 0 := by omega
  have e3 : 2 * -n + c = (2 * c - r) + 2 * c * -m := by
    have e4 : 2 * c * -m = -(2 * c * m) := Int.mul_neg _ _
    omega
  rw [e3, Int.add_mul_ediv_left _ _ (by omega), Int.ediv_eq_zero_of_lt (by omega) (by omega)]
  omega
theorem four {k : Int} (h : 0 ≤ k ∧ k < 4) : k = 0 ∨ k = 1 ∨ k = 2 ∨ k = 3 := by omega
theorem lg_rot (p q : Int) {k j : Int} (hk : 0 ≤ k ∧ k < 4) (hj : 0 ≤ j ∧ j < 4) : lgA p q ((k + j) % 4) = rtX j.toNat (lgA p q k) (lgB p q k) ∧ lgB p q ((k + j) % 4) = rtY j.toNat (lgA p q k) (lgB p q k) := by
  rcases four hk with h | h | h | h <;> rcases four hj with g | g | g | g <;> subst h <;> subst g <;> simp [lgA, lgB, rtX, rtY]
theorem ex_rot (p q x y : Int) {k j : Int} (hk : 0 ≤ k ∧ k < 4) (hj : 0 ≤ j ∧ j < 4) : exX p q ((k + j) % 4) x y = rtX j.toNat (exX p q k x y) (exY p q k x y) ∧ exY p q ((k + j) % 4) x y = rtY j.toNat (exX p q k x y) (exY p q k x y) := by
  obtain ⟨e1, e2⟩ := lg_rot p q hk hj
  unfold exX exY
  rw [e1, e2]
  generalize lgA p q k = a
  generalize lgB p q k = b
  rcases four hj with g | g | g | g <;> subst g <;> simp [rtX, rtY] <;> grind
theorem nrr_rot {p q k : Int} (h : Tn p q k) (j : Nat) (x y : Int) : nrr (rtX j x y) (cc p q) = rtX j (nrr x (cc p q)) (nrr y (cc p q)) ∧ nrr (rtY j x y) (cc p q) = rtY j (nrr x (cc p q)) (nrr y (cc p q)) := by
  have n1 := nrr_neg (n := x) (cc_odd h) (cc_pos h)
  have n2 := nrr_neg (n := y) (cc_odd h) (cc_pos h)
  match j with
  | 0 => simp [rtX, rtY]
  | 1 => simp [rtX, rtY, n2]
  | 2 => simp [rtX, rtY, n1, n2]
  | _ + 3 => simp [rtX, rtY, n1]
theorem im_rot {p q k j : Int} (h : Tn p q k) (hj : 0 ≤ j ∧ j < 4) (x y : Int) : imX p q ((k + j) % 4) x y = rtX (j % 4).toNat (imX p q k x y) (imY p q k x y) ∧ imY p q ((k + j) % 4) x y = rtY (j % 4).toNat (imX p q k x y) (imY p q k x y) := by
  have hk : 0 ≤ k ∧ k < 4 := ⟨h.k1, by have := h.k2; omega⟩
  have e : j % 4 = j := Int.emod_eq_of_lt hj.1 hj.2
  obtain ⟨e1, e2⟩ := ex_rot p q x y hk hj
  obtain ⟨n1, n2⟩ := nrr_rot h j.toNat (exX p q k x y) (exY p q k x y)
  unfold imX imY
  rw [e, e1, e2]
  exact ⟨n1, n2⟩
theorem tn_bk {p q k : Int} (h : Tn p q k) : Tn p (-q) ((4 - k) % 4) := by
  have := h.q1
  have := h.q2
  have := h.o
  exact ⟨h.p1, h.p2, by omega, by omega, by rw [Int.natAbs_neg]; exact h.g, by omega, by omega, by omega⟩
theorem bk_1 {p q k : Int} (h : Tn p q k) : -k % 4 = (4 - k) % 4 := by omega
theorem cc_neg (p q : Int) : cc p (-q) = cc p q := by unfold cc; grind
theorem seen_eq {p q k : Int} (h : Tn p q k) (x y : Int) : D.tup [.int (rtX k.toNat (nrr ((p * p - q * q) * x - 2 * p * q * y) (p * p + q * q)) (nrr ((p * p - q * q) * y + 2 * p * q * x) (p * p + q * q))), .int (rtY k.toNat (nrr ((p * p - q * q) * x - 2 * p * q * y) (p * p + q * q)) (nrr ((p * p - q * q) * y + 2 * p * q * x) (p * p + q * q)))] = D.tup [.int (imX p q k x y), .int (imY p q k x y)] := by
  obtain ⟨e1, e2⟩ := ex_raw p q k x y
  obtain ⟨n1, n2⟩ := nrr_rot h k.toNat ((p * p - q * q) * x - 2 * p * q * y) ((p * p - q * q) * y + 2 * p * q * x)
  refine tup2 ?_ ?_
  · unfold imX
    rw [e1, n1] <;> rfl
  · unfold imY
    rw [e2, n2] <;> rfl
theorem nrr_near {n c : Int} (h : c % 2 = 1) (h0 : 0 < c) : -c < 2 * (n - c * nrr n c) ∧ 2 * (n - c * nrr n c) < c := by
  unfold nrr
  have e := Int.emod_add_mul_ediv (2 * n + c) (2 * c)
  have r0 := Int.emod_nonneg (2 * n + c) (show 2 * c ≠ 0 by omega)
  have r1 := Int.emod_lt_of_pos (2 * n + c) (show 0 < 2 * c by omega)
  generalize (2 * n + c) % (2 * c) = r at *
  generalize (2 * n + c) / (2 * c) = m at *
  have e2 : 2 * c * m = 2 * (c * m) := by rw [Int.mul_assoc]
  have rn : r ≠ 0 := by omega
  omega
theorem im_near {p q k : Int} (h : Tn p q k) (x y : Int) : (-(cc p q) < 2 * (exX p q k x y - cc p q * imX p q k x y) ∧ 2 * (exX p q k x y - cc p q * imX p q k x y) < cc p q) ∧ -(cc p q) < 2 * (exY p q k x y - cc p q * imY p q k x y) ∧ 2 * (exY p q k x y - cc p q * imY p q k x y) < cc p q :=
  by unfold imX imY; exact ⟨nrr_near (cc_odd h) (cc_pos h), nrr_near (cc_odd h) (cc_pos h)⟩

/-- a pixel within a bound -/
def DotB (n : Nat) (d : D) : Prop := ∃ x y : Int, d = .tup [.int x, .int y] ∧ Bd n x ∧ Bd n y
theorem DotB.up {n m : Nat} {d : D} (h : DotB n d) (k : n ≤ m) : DotB m d := by
  obtain ⟨x, y, e, a, b⟩ := h
  exact ⟨x, y, e, a.up k, b.up k⟩
theorem fa_app {P : D → Prop} {l m : List D} (h : ∀ x ∈ l, P x) (g : ∀ x ∈ m, P x) : ∀ x ∈ l ++ m, P x := fun x z => by
  rcases List.mem_append.mp z with z | z
  · exact h x z
  · exact g x z
end Tp
namespace Tp
open PySem PySem.Spec PyProof.Rows L2 DL
/-! ### rests -/
def reX (p q x y : Int) : Int := p * x - q * y - (p * imX p q 0 x y - -q * imY p q 0 x y)
def reY (p q x y : Int) : Int := p * y + q * x - (p * imY p q 0 x y + -q * imX p q 0 x y)
def isR (p q m n : Int) : Prop := (-(cc p q) < 2 * (p * m - q * n) ∧ 2 * (p * m - q * n) < cc p q) ∧ -(cc p q) < 2 * (p * n + q * m) ∧ 2 * (p * n + q * m) < cc p q
theorem bez_nat (m n : Nat) : ∃ s t : Int, s * (m : Int) + t * (n : Int) = (Nat.gcd m n : Int) := by
  induction m, n using Nat.gcd.induction with
  | H0 n => exact ⟨0, 1, by simp⟩
  | H1 m n hm ih =>
    obtain ⟨s, t, e⟩ := ih
    rw [← Nat.gcd_rec] at e
    have d : ((n % m : Nat) : Int) = (n : Int) - (m : Int) * ((n / m : Nat) : Int) := by
      have := Nat.mod_add_div n m
      omega
    refine ⟨t - s * ((n / m : Nat) : Int), s, ?_⟩
    rw [← e, d]
    grind
theorem bez {p q : Int} (g : Nat.gcd p.natAbs q.natAbs = 1) : ∃ s t : Int, s * p + t * q = 1 := by
  obtain ⟨s, t, e⟩ := bez_nat p.natAbs q.natAbs
  rw [g] at e
  rcases Int.natAbs_eq p with h | h <;> rcases Int.natAbs_eq q with h' | h'
  · exact ⟨s, t, by rw [h, h']; exact e⟩
  · exact ⟨s, -t, by rw [h, h', Int.neg_mul_neg]; exact e⟩
  · exact ⟨-s, t, by rw [h, h', Int.neg_mul_neg]; exact e⟩
  · exact ⟨-s, -t, by rw [h, h', Int.neg_mul_neg, Int.neg_mul_neg]; exact e⟩
theorem nrr_add {n c k : Int} (h : 0 < c) : nrr (n + c * k) c = nrr n c + k := by
  unfold nrr
  have e : 2 * (n + c * k) + c = (2 * n + c) + 2 * c * k := by rw [Int.mul_add, Int.mul_assoc]; omega
  rw [e, Int.add_mul_ediv_left _ _ (by omega)]
theorem nrr_of {r c k : Int} (h : -c < 2 * r ∧ 2 * r < c) : nrr (r + c * k) c = k := by
  rw [nrr_add (by omega)]
  unfold nrr
  rw [Int.ediv_eq_zero_of_lt (by omega) (by omega)]
  omega
theorem ex0 (p q x y : Int) : exX p q 0 x y = (p * p - q * q) * x - 2 * p * q * y ∧ exY p q 0 x y = (p * p - q * q) * y + 2 * p * q * x := by have h := ex_raw p q 0 x y; simpa [rtX, rtY] using h
theorem cancel {c a b : Int} (h : 0 < c) (e : c * a = c * b) : a = b := Int.eq_of_mul_eq_mul_left (by omega) e
/-- u times the rest is what the exact place has over c times the image -/
theorem u_re (p q x y : Int) : p * reX p q x y - q * reY p q x y = exX p q 0 x y - cc p q * imX p q 0 x y ∧ p * reY p q x y + q * reX p q x y = exY p q 0 x y - cc p q * imY p q 0 x y := by
  unfold reX reY
  rw [(ex0 p q x y).1, (ex0 p q x y).2]
  unfold cc
  generalize imX p q 0 x y = X
  generalize imY p q 0 x y = Y
  constructor <;> grind
theorem re_is {p q k : Int} (h : Tn p q k) (x y : Int) : isR p q (reX p q x y) (reY p q x y) := by
  unfold isR
  rw [(u_re p q x y).1, (u_re p q x y).2]
  have h0 : Tn p q 0 := ⟨h.p1, h.p2, h.q1, h.q2, h.g, h.o, by decide, by decide⟩
  exact im_near h0 x y
/-- what has the same rest differs by p - q i times a pixel -/
theorem re_div {p q k : Int} (h : Tn p q k) {x y z w : Int} (e1 : reX p q x y = reX p q z w) (e2 : reY p q x y = reY p q z w) : ∃ t u, x = z + (p * t + q * u) ∧ y = w + (p * u - q * t) := by
  obtain ⟨s, t, b⟩ := bez h.g
  obtain ⟨j, hj⟩ : ∃ j, cc p q = 2 * j + 1 := ⟨cc p q / 2, by have := cc_odd h; omega⟩
  unfold cc at hj
  unfold reX at e1
  unfold reY at e2
  generalize hX : imX p q 0 x y = X at *
  generalize hY : imY p q 0 x y = Y at *
  generalize hZ : imX p q 0 z w = Z at *
  generalize hW : imY p q 0 z w = W at *
  have f1 : p * (X - Z) + q * (Y - W) = p * (x - z) - q * (y - w) := by grind
  have f2 : p * (Y - W) - q * (X - Z) = p * (y - w) + q * (x - z) := by grind
  generalize hE : X - Z = E at *
  generalize hF : Y - W = F at *
  obtain ⟨d, rfl⟩ : ∃ d, x = z + d := ⟨x - z, by omega⟩
  obtain ⟨f, rfl⟩ : ∃ f, y = w + f := ⟨y - w, by omega⟩
  have g1 : z + d - z = d := by omega
  have g2 : w + f - w = f := by omega
  rw [g1, g2] at f1 f2
  clear hX hY hZ hW e1 e2 hE hF g1 g2 h
  refine ⟨-j * (s * E + t * F) + (p - j * s) * d - (q - j * t) * f, -j * (s * F - t * E) + (p - j * s) * f + (q - j * t) * d, ?_, ?_⟩
  · have r : p * (-j * (s * E + t * F) + (p - j * s) * d - (q - j * t) * f) + q * (-j * (s * F - t * E) + (p - j * s) * f + (q - j * t) * d) = -j * (s * (p * E + q * F) + t * (p * F - q * E)) + ((p * p + q * q) - j * (s * p + t * q)) * d + j * (t * p - s * q) * f := by grind
    have r2 : -j * (s * (p * d - q * f) + t * (p * f + q * d)) + ((p * p + q * q) - j * (s * p + t * q)) * d + j * (t * p - s * q) * f = ((p * p + q * q) - 2 * j * (s * p + t * q)) * d := by grind
    rw [r, f1, f2, r2, b, hj]
    have : (2 * j + 1 - 2 * j * 1) * d = d := by rw [Int.mul_one, show 2 * j + 1 - 2 * j = 1 by omega, Int.one_mul]
    rw [this]
  · have r : p * (-j * (s * F - t * E) + (p - j * s) * f + (q - j * t) * d) - q * (-j * (s * E + t * F) + (p - j * s) * d - (q - j * t) * f) = -j * (s * (p * F - q * E) - t * (p * E + q * F)) + ((p * p + q * q) - j * (s * p + t * q)) * f - j * (t * p - s * q) * d := by grind
    have r2 : -j * (s * (p * f + q * d) - t * (p * d - q * f)) + ((p * p + q * q) - j * (s * p + t * q)) * f - j * (t * p - s * q) * d = ((p * p + q * q) - 2 * j * (s * p + t * q)) * f := by grind
    rw [r, f1, f2, r2, b, hj]
    have : (2 * j + 1 - 2 * j * 1) * f = f := by rw [Int.mul_one, show 2 * j + 1 - 2 * j = 1 by omega, Int.one_mul]
    rw [this]
theorem u_cancel {p q a b c d : Int} (h : 0 < cc p q) (e1 : p * a - q * b = p * c - q * d) (e2 : p * b + q * a = p * d + q * c) : a = c ∧ b = d := by
  constructor
  · refine cancel h ?_
    unfold cc
    have : (p * p + q * q) * a = p * (p * a - q * b) + q * (p * b + q * a) := by grind
    rw [this, e1, e2]
    grind
  · refine cancel h ?_
    unfold cc
    have : (p * p + q * q) * b = p * (p * b + q * a) - q * (p * a - q * b) := by grind
    rw [this, e1, e2]
    grind
/-- the pixel (f, 0) has the rest (m, n), if u * u * f is u times the rest modulo c -/
theorem re_of {p q k m n f v w : Int} (h : Tn p q k) (hr : isR p q m n) (e1 : (p * p - q * q) * f = (p * m - q * n) + cc p q * v) (e2 : 2 * p * q * f = (p * n + q * m) + cc p q * w) : reX p q f 0 = m ∧ reY p q f 0 = n := by
  have i1 : imX p q 0 f 0 = v := by
    unfold imX
    rw [(ex0 p q f 0).1, Int.mul_zero, Int.sub_zero, e1, nrr_of hr.1]
  have i2 : imY p q 0 f 0 = w := by
    unfold imY
    rw [(ex0 p q f 0).2, Int.mul_zero, Int.zero_add, e2, nrr_of hr.2]
  have u := u_re p q f 0
  rw [i1, i2, (ex0 p q f 0).1, (ex0 p q f 0).2, Int.mul_zero, Int.mul_zero, Int.sub_zero, Int.zero_add, e1, e2] at u
  exact u_cancel (cc_pos h) (by omega) (by omega)
/-- a and c have no common divisor -/
theorem co_ac {p q k : Int} (h : Tn p q k) : ∃ s t : Int, s * (p * p - q * q) + t * cc p q = 1 := by
  obtain ⟨s, t, b⟩ := bez h.g
  obtain ⟨j, hj⟩ : ∃ j, cc p q = 2 * j + 1 := ⟨cc p q / 2, by have := cc_odd h; omega⟩
  obtain ⟨α, hα⟩ : ∃ α, α = s * s * s * p + 3 * s * s * t * q := ⟨_, rfl⟩
  obtain ⟨β, hβ⟩ : ∃ β, β = 3 * s * t * t * p + t * t * t * q := ⟨_, rfl⟩
  have e : p * p * α + q * q * β = 1 := by
    have : p * p * α + q * q * β = (s * p + t * q) * (s * p + t * q) * (s * p + t * q) := by rw [hα, hβ]; grind
    rw [this, b] <;> rfl
  refine ⟨-j * (α - β), 1 - j * (α + β), ?_⟩
  have e2 : -j * (α - β) * (p * p - q * q) + (1 - j * (α + β)) * cc p q = cc p q - 2 * j * (p * p * α + q * q * β) := by unfold cc; grind
  rw [e2, e, hj]
  omega
theorem co_pc {p q k : Int} (h : Tn p q k) : ∃ s t : Int, s * p + t * cc p q = 1 := by
  obtain ⟨s, t, b⟩ := bez h.g
  refine ⟨s * (1 + t * q) - t * t * p, t * t, ?_⟩
  have : (s * (1 + t * q) - t * t * p) * p + t * t * cc p q = s * p * (1 + t * q) + t * q * (t * q) := by unfold cc; grind
  rw [this]
  have z : s * p = 1 - t * q := by omega
  rw [z]
  grind
/-- what the first pixel of a row with a rest is: v is the inverse of a -/
theorem first_re {p q k m n v : Int} (h : Tn p q k) (hr : isR p q m n) (hv : (v * (p * p - q * q) - 1) % cc p q = 0) : reX p q ((p * m - q * n) * v % cc p q) 0 = m ∧ reY p q ((p * m - q * n) * v % cc p q) 0 = n := by
  have hc := cc_pos h
  obtain ⟨z, hz⟩ : ∃ z, v * (p * p - q * q) - 1 = cc p q * z := ⟨_, (Int.mul_ediv_cancel' (Int.dvd_of_emod_eq_zero hv)).symm⟩
  have hf := Int.emod_add_mul_ediv ((p * m - q * n) * v) (cc p q)
  generalize (p * m - q * n) * v % cc p q = f at *
  generalize (p * m - q * n) * v / cc p q = g at *
  -- a f = r + c (..)
  have e1 : (p * p - q * q) * f = (p * m - q * n) + cc p q * ((p * m - q * n) * z - (p * p - q * q) * g) := by
    have : f = (p * m - q * n) * v - cc p q * g := by omega
    rw [this]
    have : (p * p - q * q) * ((p * m - q * n) * v - cc p q * g) = (p * m - q * n) * (v * (p * p - q * q) - 1) + (p * m - q * n) - cc p q * ((p * p - q * q) * g) := by grind
    rw [this, hz]
    grind
  obtain ⟨s, t, b⟩ := co_pc h
  generalize hV : (p * m - q * n) * z - (p * p - q * q) * g = V at *
  -- p (b f - s') = c (q f + q V - n)
  have e3 : p * (2 * p * q * f - (p * n + q * m)) = cc p q * (q * f + q * V - n) := by
    have x1 : p * (2 * p * q * f - (p * n + q * m)) = q * ((p * p - q * q) * f) + cc p q * (q * f) - q * (p * m - q * n) - cc p q * n := by unfold cc; grind
    rw [x1, e1]
    grind
  have e2 : 2 * p * q * f = (p * n + q * m) + cc p q * (s * (q * f + q * V - n) + t * (2 * p * q * f - (p * n + q * m))) := by
    have x2 : 2 * p * q * f - (p * n + q * m) = s * (p * (2 * p * q * f - (p * n + q * m))) + t * cc p q * (2 * p * q * f - (p * n + q * m)) := by
      have : s * (p * (2 * p * q * f - (p * n + q * m))) + t * cc p q * (2 * p * q * f - (p * n + q * m)) = (s * p + t * cc p q) * (2 * p * q * f - (p * n + q * m)) := by grind
      rw [this, b, Int.one_mul]
    rw [e3] at x2
    generalize 2 * p * q * f = F at *
    generalize p * n + q * m = G at *
    grind
  exact re_of h hr e1 e2
theorem first_only {p q k f g : Int} (h : Tn p q k) (hf : 0 ≤ f ∧ f < cc p q) (hg : 0 ≤ g ∧ g < cc p q) (e1 : reX p q f 0 = reX p q g 0) (e2 : reY p q f 0 = reY p q g 0) : f = g := by
  obtain ⟨t, u, a, b⟩ := re_div h e1 e2
  obtain ⟨s, w, z⟩ := bez h.g
  -- p (f - g) = c t, q (f - g) = c u
  have e : f - g = cc p q * (s * t + w * u) := by
    have d : f - g = p * t + q * u := by omega
    have d0 : p * u - q * t = 0 := by omega
    have p1 : p * (f - g) = cc p q * t := by
      rw [d]
      have : p * (p * t + q * u) = cc p q * t + q * (p * u - q * t) := by unfold cc; grind
      rw [this, d0]
      omega
    have q1 : q * (f - g) = cc p q * u := by
      rw [d]
      have : q * (p * t + q * u) = cc p q * u - p * (p * u - q * t) := by unfold cc; grind
      rw [this, d0]
      omega
    have : f - g = s * (p * (f - g)) + w * (q * (f - g)) := by
      have : s * (p * (f - g)) + w * (q * (f - g)) = (s * p + w * q) * (f - g) := by grind
      rw [this, z, Int.one_mul]
    rw [p1, q1] at this
    rw [this]
    grind
  generalize s * t + w * u = r at e
  have : r = 0 := by
    rcases Int.lt_trichotomy r 0 with hh | hh | hh
    · have : cc p q * r ≤ cc p q * (-1) := Int.mul_le_mul_of_nonneg_left (by omega) (by omega)
      omega
    · exact hh
    · have : cc p q * 1 ≤ cc p q * r := Int.mul_le_mul_of_nonneg_left (by omega) (by omega)
      omega
  subst this
  omega
theorem eqB_t2 (a b c d : Int) : eqB (.tup [.int a, .int b]) (.tup [.int c, .int d]) = (decide (a = c) && decide (b = d)) := by
  unfold eqB
  simp [toPy, toPyL, PyData.eqv, PyData.eqvAll] <;> rfl
theorem eq_t2 {a b c d : Int} {S : Sto} {Q : Bool → Sto → Prop} (q : ∀ v : Bool, (v = true ↔ a = c ∧ b = d) → Q v S) : eqP (.tup [.int a, .int b]) (.tup [.int c, .int d]) S Q := by
  refine eq_tup ?_
  exact q _ (by rw [eqB_t2, Bool.and_eq_true, decide_eq_true_eq, decide_eq_true_eq])
theorem nb {b : Bool} (h : (!b) = true) (k : b = true) : False := by subst k; cases h
theorem half_le {x c : Int} : (if x < 0 then -x else x) ≤ (c - 1) / 2 ↔ -c < 2 * x ∧ 2 * x < c := by split <;> omega
def con_check_rest : Con := fun ds S Q => ∃ p q k m n : Int, ds = [.tup [.int p, .int q, .int k], .tup [.int m, .int n]] ∧ Tn p q k ∧ isR p q m n ∧ (Bd 1200 m ∧ Bd 1200 n) ∧ Q .non S
def con_inverse : Con := fun ds S Q => ∃ n m : Int, ds = [.int n, .int m] ∧ (Bd 300 n ∧ Bd 110 m ∧ 0 < m ∧ ∃ s t, s * n + t * m = 1) ∧ ∀ v, 0 ≤ v → v < m → (v * n - 1) % m = 0 → Q (.int v) S
def con_first : Con := fun ds S Q => ∃ p q k m n : Int, ds = [.tup [.int p, .int q, .int k], .tup [.int m, .int n]] ∧ Tn p q k ∧ isR p q m n ∧ (Bd 1200 m ∧ Bd 1200 n) ∧ ∀ f, 0 ≤ f → f < cc p q → reX p q f 0 = m → reY p q f 0 = n → Q (.tup [.int f, .int 0]) S
theorem Bd.reX {p q x y : Int} {n : Nat} (h : Bd 50 p) (g : Bd 50 q) (hx : Bd n x) (hy : Bd n y) : Bd (160 + n) (reX p q x y) :=
  (((h.mul hx).sub (g.mul hy)).sub ((h.mul (Bd.imX 0 h g hx hy)).sub (g.neg.mul (Bd.imY 0 h g hx hy)))).up (by omega)
theorem Bd.reY {p q x y : Int} {n : Nat} (h : Bd 50 p) (g : Bd 50 q) (hx : Bd n x) (hy : Bd n y) : Bd (160 + n) (reY p q x y) :=
  (((h.mul hy).add (g.mul hx)).sub ((h.mul (Bd.imY 0 h g hx hy)).add (g.neg.mul (Bd.imX 0 h g hx hy)))).up (by omega)
/-- the rounds that find an inverse -/
structure InvI (n m h l a b : Int) : Prop where
  h0 : 0 < h
  l0 : 0 ≤ l
  az : ∃ z, a * n - h = m * z
  bz : ∃ z, b * n - l = m * z
  co : ∀ d, d ∣ h → d ∣ l → d ∣ 1
  sg : (0 ≤ a ∧ b ≤ 0 ∧ a * l - b * h = m) ∨ (a ≤ 0 ∧ 0 ≤ b ∧ b * h - a * l = m)
  hm : h ≤ m
  lm : l ≤ m
  ab : -m ≤ a ∧ a ≤ m
theorem InvI.start {n m s t : Int} (hm : 0 < m) (e : s * n + t * m = 1) : InvI n m m (n % m) 0 1 := by
  have r0 := Int.emod_nonneg n (show m ≠ 0 by omega)
  have r1 := Int.emod_lt_of_pos n hm
  have r2 := Int.emod_add_mul_ediv n m
  refine ⟨hm, r0, ⟨-1, by omega⟩, ⟨n / m, by omega⟩, fun d h1 h2 => ?_, .inr ⟨by omega, by omega, by omega⟩, by omega, by omega, by omega⟩
  have h3 : d ∣ n := by rw [← r2]; exact Int.dvd_add h2 (Int.dvd_trans h1 (Int.dvd_mul_right _ _))
  rw [← e]
  exact Int.dvd_add (Int.dvd_trans h3 (Int.dvd_mul_left _ _)) (Int.dvd_trans h1 (Int.dvd_mul_left _ _))
theorem InvI.b_le {n m h l a b : Int} (I : InvI n m h l a b) : -m ≤ b ∧ b ≤ m := by
  have h0 := I.h0
  have l0 := I.l0
  rcases I.sg with ⟨a0, b0, e⟩ | ⟨a0, b0, e⟩
  · have x1 : 0 ≤ a * l := Int.mul_nonneg a0 l0
    have x2 : (-b) * 1 ≤ (-b) * h := Int.mul_le_mul_of_nonneg_left (by omega) (by omega)
    have x3 : (-b) * h = -(b * h) := Int.neg_mul _ _
    omega
  · have x1 : 0 ≤ (-a) * l := Int.mul_nonneg (by omega) l0
    have x2 : b * 1 ≤ b * h := Int.mul_le_mul_of_nonneg_left (by omega) (by omega)
    have x3 : (-a) * l = -(a * l) := Int.neg_mul _ _
    omega
theorem InvI.less {h l : Int} (h0 : 0 < l) : 0 ≤ h - h / l * l ∧ h - h / l * l < l := by
  have r0 := Int.emod_nonneg h (show l ≠ 0 by omega)
  have r1 := Int.emod_lt_of_pos h h0
  have r2 := Int.emod_add_mul_ediv h l
  have r3 : h / l * l = l * (h / l) := Int.mul_comm _ _
  omega
theorem InvI.step {n m h l a b : Int} (I : InvI n m h l a b) (hl : 0 < l) : InvI n m l (h - h / l * l) b (a - h / l * b) := by
  obtain ⟨l1, l2⟩ := InvI.less (h := h) hl
  have q0 : 0 ≤ h / l := Int.ediv_nonneg (by have := I.h0; omega) (by omega)
  have hlm := I.lm
  obtain ⟨z, hz⟩ := I.az
  obtain ⟨w, hw⟩ := I.bz
  refine ⟨hl, l1, I.bz, ⟨z - h / l * w, ?_⟩, fun d h1 h2 => I.co d ?_ h1, ?_, hlm, by omega, I.b_le⟩
  · have : (a - h / l * b) * n - (h - h / l * l) = (a * n - h) - h / l * (b * n - l) := by grind
    rw [this, hz, hw]
    grind
  · have : h = (h - h / l * l) + h / l * l := by omega
    rw [this]
    exact Int.dvd_add h2 (Int.dvd_trans h1 (Int.dvd_mul_left _ _))
  · generalize h / l = k at *
    rcases I.sg with ⟨a0, b0, e⟩ | ⟨a0, b0, e⟩
    · have x : 0 ≤ k * (-b) := Int.mul_nonneg q0 (by omega)
      have x2 : k * (-b) = -(k * b) := Int.mul_neg _ _
      exact .inr ⟨b0, by omega, by rw [← e]; grind⟩
    · have x : 0 ≤ k * b := Int.mul_nonneg q0 b0
      exact .inl ⟨b0, by omega, by rw [← e]; grind⟩
theorem InvI.fin {n m h a b : Int} (I : InvI n m h 0 a b) (hm : 0 < m) : (a % m * n - 1) % m = 0 := by
  have h1 : h ∣ 1 := I.co h (Int.dvd_refl h) (Int.dvd_zero h)
  have h2 : h = 1 := by
    have := Int.le_of_dvd (by decide) h1
    have := I.h0
    omega
  obtain ⟨z, hz⟩ := I.az
  rw [h2] at hz
  have r2 := Int.emod_add_mul_ediv a m
  have : a % m * n - 1 = m * (z - a / m * n) := by
    have e : a % m = a - m * (a / m) := by omega
    rw [e]
    have : (a - m * (a / m)) * n - 1 = (a * n - 1) - m * (a / m * n) := by grind
    rw [this, hz]
    grind
  rw [this]
  exact Int.mul_emod_right _ _
theorem Tn.zero {p q k : Int} (h : Tn p q k) : Tn p q 0 := ⟨h.p1, h.p2, h.q1, h.q2, h.g, h.o, by decide, by decide⟩
theorem Bd.of_le' {n : Nat} {m h : Int} (b : Bd n m) (h0 : 0 < h) (h1 : h ≤ m) : Bd n h := Bd.of_le (by omega) h1 b
theorem Bd.of_le'' {n : Nat} {m h : Int} (b : Bd n m) (h0 : 0 ≤ h) (h1 : h ≤ m) : Bd n h := Bd.of_le h0 h1 b
theorem Bd.of_ab {n : Nat} {m h : Int} (b : Bd n m) (h0 : -m ≤ h ∧ h ≤ m) : Bd n h := by
  have := (show 0 ≤ m by omega)
  unfold Bd at *
  omega

theorem bd_cc {p q : Int} (h : Bd 101 (cc p q)) : Bd 101 (cc p q) := h

end Tp
namespace Tp
open PySem PySem.Spec PyProof.Rows L2 DL

/-! ### pixels with one rest -/
end Tp
namespace Tp
open PySem PySem.Spec PyProof.Rows L2 DL
/-! ### the nearest pixel with a rest -/
theorem abs_sq' (q : Int) : q * q = (q.natAbs : Int) * (q.natAbs : Int) := by
  rcases Int.natAbs_eq q with h | h
  · rw [← h]
  · have : q * q = -q * -q := by rw [Int.neg_mul_neg]
    rw [this]
    have : -q = (q.natAbs : Int) := by omega
    rw [this]
theorem three {i : Nat} {d : D} (h : [D.int (-1), D.int 0, D.int 1][i]? = some d) : i < 3 ∧ d = .int ((i : Int) - 1) := by
  have hi : i < 3 := (List.getElem?_eq_some_iff.mp h).1
  refine ⟨hi, ?_⟩
  rcases (by omega : i = 0 ∨ i = 1 ∨ i = 2) with e | e | e <;> subst e <;> exact (Option.some.inj h).symm
end Tp
namespace Tp
open PySem PySem.Spec PyProof.Rows L2 DL
/-! ### turns of legs, and joined turns -/
theorem sum_sq_odd {x y : Int} (h : (x * x + y * y) % 2 = 1) : (x + y) % 2 = 1 := by
  have e : (x + y) * (x + y) = x * x + y * y + 2 * (x * y) := by grind
  rcases Int.emod_two_eq (x + y) with z | z
  · obtain ⟨t, ht⟩ : ∃ t, x + y = 2 * t := ⟨(x + y) / 2, by omega⟩
    rw [ht] at e
    have : 2 * t * (2 * t) = 2 * (2 * t * t) := by grind
    omega
  · exact z
/-- the last step of what finds a turn of legs -/
theorem root_p (p q : Int) : (cc p q + (p * p - q * q)) / 2 = p * p := by unfold cc; omega
theorem root_q (p q : Int) : (cc p q - (p * p - q * q)) / 2 = q * q := by unfold cc; omega
/-- the turn that two turns make: what is over is a whole number and quarters -/
structure Jn (p q k r s l a b m : Int) : Prop where
  t : Tn a b m
  ex : ∃ (g : Int) (j : Nat), 1 ≤ g ∧ j < 4 ∧ p * r - q * s = g * rtX j a b ∧ p * s + q * r = g * rtY j a b ∧ m = (k + l + 2 * (j : Int)) % 4
theorem rt_mul {k l : Int} (hk : 0 ≤ k ∧ k < 4) (hl : 0 ≤ l ∧ l < 4) (A B C D : Int) : rtX k.toNat A B * rtX l.toNat C D - rtY k.toNat A B * rtY l.toNat C D = rtX ((k + l) % 4).toNat (A * C - B * D) (A * D + B * C) ∧ rtX k.toNat A B * rtY l.toNat C D + rtY k.toNat A B * rtX l.toNat C D = rtY ((k + l) % 4).toNat (A * C - B * D) (A * D + B * C) := by
  rcases four hk with h | h | h | h <;> rcases four hl with g | g | g | g <;> subst h <;> subst g <;> simp [rtX, rtY] <;> grind
theorem rt_two {n : Int} (hn : 0 ≤ n ∧ n < 4) (j : Nat) (hj : j < 4) (g a b : Int) : rtX n.toNat ((g * rtX j a b) * (g * rtX j a b) - (g * rtY j a b) * (g * rtY j a b)) ((g * rtX j a b) * (g * rtY j a b) + (g * rtY j a b) * (g * rtX j a b)) = g * g * rtX ((n + 2 * (j : Int)) % 4).toNat (a * a - b * b) (a * b + b * a) ∧ rtY n.toNat ((g * rtX j a b) * (g * rtX j a b) - (g * rtY j a b) * (g * rtY j a b)) ((g * rtX j a b) * (g * rtY j a b) + (g * rtY j a b) * (g * rtX j a b)) = g * g * rtY ((n + 2 * (j : Int)) % 4).toNat (a * a - b * b) (a * b + b * a) := by
  rcases four hn with h | h | h | h <;> rcases (by omega : j = 0 ∨ j = 1 ∨ j = 2 ∨ j = 3) with e | e | e | e <;> subst h <;> subst e <;> simp [rtX, rtY] <;> grind
/-- the legs of what two turns make -/
theorem jn_legs {p q k r s l a b m : Int} (h : Tn p q k) (h' : Tn r s l) (J : Jn p q k r s l a b m) : ∃ g : Int, 1 ≤ g ∧ lgA p q k * lgA r s l - lgB p q k * lgB r s l = g * lgA a b m ∧ lgA p q k * lgB r s l + lgB p q k * lgA r s l = g * lgB a b m ∧ cc p q * cc r s = g * cc a b := by
  obtain ⟨g, j, g1, hj, e1, e2, e3⟩ := J.ex
  have gg : 1 * 1 ≤ g * g := Int.mul_le_mul g1 g1 (by decide) (by omega)
  have k1 := h.k1
  have k2 := h.k2
  have l1 := h'.k1
  have l2 := h'.k2
  refine ⟨g * g, by omega, ?_, ?_, ?_⟩
  · unfold lgA lgB
    rw [(rt_mul ⟨k1, by omega⟩ ⟨l1, by omega⟩ _ _ _ _).1]
    have x1 : (p * p - q * q) * (r * r - s * s) - (p * q + q * p) * (r * s + s * r) = (p * r - q * s) * (p * r - q * s) - (p * s + q * r) * (p * s + q * r) := by grind
    have x2 : (p * p - q * q) * (r * s + s * r) + (p * q + q * p) * (r * r - s * s) = (p * r - q * s) * (p * s + q * r) + (p * s + q * r) * (p * r - q * s) := by grind
    rw [x1, x2, e1, e2, (rt_two ⟨by omega, by omega⟩ j hj g a b).1, e3, show ((k + l) % 4 + 2 * (j : Int)) % 4 = (k + l + 2 * (j : Int)) % 4 by omega]
  · unfold lgA lgB
    rw [(rt_mul ⟨k1, by omega⟩ ⟨l1, by omega⟩ _ _ _ _).2]
    have x1 : (p * p - q * q) * (r * r - s * s) - (p * q + q * p) * (r * s + s * r) = (p * r - q * s) * (p * r - q * s) - (p * s + q * r) * (p * s + q * r) := by grind
    have x2 : (p * p - q * q) * (r * s + s * r) + (p * q + q * p) * (r * r - s * s) = (p * r - q * s) * (p * s + q * r) + (p * s + q * r) * (p * r - q * s) := by grind
    rw [x1, x2, e1, e2, (rt_two ⟨by omega, by omega⟩ j hj g a b).2, e3, show ((k + l) % 4 + 2 * (j : Int)) % 4 = (k + l + 2 * (j : Int)) % 4 by omega]
  · have : cc p q * cc r s = (p * r - q * s) * (p * r - q * s) + (p * s + q * r) * (p * s + q * r) := by unfold cc; grind
    rw [this, e1, e2]
    unfold cc
    rcases (by omega : j = 0 ∨ j = 1 ∨ j = 2 ∨ j = 3) with e | e | e | e <;> subst e <;> simp only [rtX, rtY] <;> grind

/-- one turn alone makes u up to a number and quarters -/
theorem one_of {a b m c d n g h : Int} {i j : Nat} (ha : Tn a b m) (hc : Tn c d n) (hg : 1 ≤ g) (hh : 1 ≤ h) (hi : i < 4) (hj : j < 4) (e1 : g * rtX i a b = h * rtX j c d) (e2 : g * rtY i a b = h * rtY j c d) : i = j ∧ a = c ∧ b = d := by
  have ga := ha.p1
  have gb := ha.q1
  have gb' := ha.q2
  have gc := hc.p1
  have gd := hc.q1
  have gd' := hc.q2
  -- first the same quarters
  have lt1 : -(g * a) < g * b ∧ g * b < g * a := by
    have x : g * (-a) < g * b := Int.mul_lt_mul_of_pos_left (by omega) (by omega)
    have y : g * b < g * a := Int.mul_lt_mul_of_pos_left gb' (by omega)
    rw [Int.mul_neg] at x
    exact ⟨x, y⟩
  have lt2 : -(h * c) < h * d ∧ h * d < h * c := by
    have x : h * (-c) < h * d := Int.mul_lt_mul_of_pos_left (by omega) (by omega)
    have y : h * d < h * c := Int.mul_lt_mul_of_pos_left gd' (by omega)
    rw [Int.mul_neg] at x
    exact ⟨x, y⟩
  have p1 : 0 < g * a := Int.mul_pos (by omega) (by omega)
  have p2 : 0 < h * c := Int.mul_pos (by omega) (by omega)
  have same : i = j ∧ g * a = h * c ∧ g * b = h * d := by
    rcases (by omega : i = 0 ∨ i = 1 ∨ i = 2 ∨ i = 3) with e | e | e | e <;> rcases (by omega : j = 0 ∨ j = 1 ∨ j = 2 ∨ j = 3) with f | f | f | f <;> subst e <;> subst f <;> simp only [rtX, rtY, Int.mul_neg] at e1 e2 <;> first | (refine ⟨rfl, ?_, ?_⟩ <;> omega) | (exfalso; omega)
  obtain ⟨s1, s2, s3⟩ := same
  -- then the same numbers
  have key : ∀ {u v w x y z : Int}, 1 ≤ u → 1 ≤ v → Nat.gcd w.natAbs x.natAbs = 1 → Nat.gcd y.natAbs z.natAbs = 1 → u * w = v * y → u * x = v * z → u = v := fun {u v w x y z} hu hv c1 c2 f1 f2 => by
    have n1 : Nat.gcd (u * w).natAbs (u * x).natAbs = u.natAbs := by rw [Int.natAbs_mul, Int.natAbs_mul, Nat.gcd_mul_left, c1, Nat.mul_one]
    have n2 : Nat.gcd (v * y).natAbs (v * z).natAbs = v.natAbs := by rw [Int.natAbs_mul, Int.natAbs_mul, Nat.gcd_mul_left, c2, Nat.mul_one]
    rw [f1, f2, n2] at n1
    omega
  have gh := key hg hh ha.g hc.g s2 s3
  subst gh
  exact ⟨s1, Int.eq_of_mul_eq_mul_left (by omega) s2, Int.eq_of_mul_eq_mul_left (by omega) s3⟩
theorem lg_sq (p q k : Int) : lgA p q k * lgA p q k + lgB p q k * lgB p q k = cc p q * cc p q := by
  unfold lgA lgB cc
  generalize k.toNat = j
  match j with
  | 0 => simp only [rtX, rtY]; grind
  | 1 => simp only [rtX, rtY]; grind
  | 2 => simp only [rtX, rtY]; grind
  | _ + 3 => simp only [rtX, rtY]; grind
theorem tn_bk2 {p q k : Int} (h : Tn p q k) : Tn p (-q) (-k % 4) := by
  have := tn_bk h
  have e := bk_1 h
  rw [e]
  exact this
theorem isq_ok {i p : Int} (e : i = p * p) (b : Bd 100 (p * p)) : 0 ≤ i ∧ i.natAbs < 2 ^ 3000 := by
  subst e
  exact ⟨sq_nn p, b.up (by decide)⟩
theorem sq_bd {p : Int} (h : Bd 50 p) : Bd 100 (p * p) := h.mul h
end Tp
namespace Tp
open PySem PySem.Spec PyProof.Rows L2 DL
/-! ### misses -/
def absI (v : Int) : Int := if v < 0 then -v else v
theorem take_step {α β : Type} (f : α → β) {os : List α} {k : Nat} {v : α} (h : os[k]? = some v) : (os.map f).take (k + 1) = (os.map f).take k ++ [f v] := by
  rw [List.take_add_one, List.getElem?_map, h] <;> rfl
end Tp
namespace Tp
open PySem PySem.Spec PyProof.Rows L2 DL
/-! ### how many turns keep all -/
def con_keeps : Con := fun ds S Q => ∃ p q k : Int, ds = [.tup [.int p, .int q, .int k]] ∧ Tn p q k ∧ Q (.bl (decide (p = (if q < 0 then -q else q) + 1))) S
end Tp
namespace Tp
open PySem PySem.Spec PyProof.Rows L2 DL
/-! ### pixels with one image; bare pixels -/
theorem sq_lt {a c : Int} (h : -c < a ∧ a < c) : a * a < c * c := by
  have n : a.natAbs * a.natAbs < c.natAbs * c.natAbs := Nat.mul_self_lt_mul_self (by omega)
  have p1 := abs_sq' a
  have p2 := abs_sq' c
  rw [p1, p2]
  exact_mod_cast n
theorem lg_sq2 {p q : Int} (k : Int) : lgA p q k * lgA p q k + lgB p q k * lgB p q k = cc p q * cc p q := by
  unfold lgA lgB cc
  generalize k.toNat = j
  match j with
  | 0 => simp only [rtX, rtY]; grind
  | 1 => simp only [rtX, rtY]; grind
  | 2 => simp only [rtX, rtY]; grind
  | _ + 3 => simp only [rtX, rtY]; grind
/-- what a pixel gives that is turned and turned back -/
theorem back_ex {p q k : Int} (h : Tn p q k) (x y : Int) : exX p (-q) (-k % 4) (imX p q k x y) (imY p q k x y) = cc p q * x - (p * reX p q x y + q * reY p q x y) ∧ exY p (-q) (-k % 4) (imX p q k x y) (imY p q k x y) = cc p q * y - (p * reY p q x y - q * reX p q x y) := by
  have h0 : Tn p q 0 := Tn.zero h
  have hk : 0 ≤ k ∧ k < 4 := ⟨h.k1, by have := h.k2; omega⟩
  have e := im_rot h0 hk x y
  have z1 : (0 + k) % 4 = k := by omega
  have z2 : k % 4 = k := by omega
  rw [z1, z2] at e
  obtain ⟨a1, a2⟩ := ex_raw p (-q) (-k % 4) (imX p q k x y) (imY p q k x y)
  rw [a1, a2, e.1, e.2]
  have r1 : reX p q x y = p * x - q * y - (p * imX p q 0 x y - -q * imY p q 0 x y) := rfl
  have r2 : reY p q x y = p * y + q * x - (p * imY p q 0 x y + -q * imX p q 0 x y) := rfl
  rw [r1, r2]
  generalize imX p q 0 x y = a
  generalize imY p q 0 x y = b
  unfold cc
  rcases four hk with g | g | g | g <;> subst g
  · show rtX 0 _ _ = _ ∧ rtY 0 _ _ = _
    simp only [rtX, rtY]
    constructor <;> grind
  · show rtX 3 ((p * p - -q * -q) * rtX 1 a b - 2 * p * -q * rtY 1 a b) ((p * p - -q * -q) * rtY 1 a b + 2 * p * -q * rtX 1 a b) = _ ∧ rtY 3 ((p * p - -q * -q) * rtX 1 a b - 2 * p * -q * rtY 1 a b) ((p * p - -q * -q) * rtY 1 a b + 2 * p * -q * rtX 1 a b) = _
    simp only [rtX, rtY]
    constructor <;> grind
  · show rtX 2 ((p * p - -q * -q) * rtX 2 a b - 2 * p * -q * rtY 2 a b) ((p * p - -q * -q) * rtY 2 a b + 2 * p * -q * rtX 2 a b) = _ ∧ rtY 2 ((p * p - -q * -q) * rtX 2 a b - 2 * p * -q * rtY 2 a b) ((p * p - -q * -q) * rtY 2 a b + 2 * p * -q * rtX 2 a b) = _
    simp only [rtX, rtY]
    constructor <;> grind
  · show rtX 1 ((p * p - -q * -q) * rtX 3 a b - 2 * p * -q * rtY 3 a b) ((p * p - -q * -q) * rtY 3 a b + 2 * p * -q * rtX 3 a b) = _ ∧ rtY 1 ((p * p - -q * -q) * rtX 3 a b - 2 * p * -q * rtY 3 a b) ((p * p - -q * -q) * rtY 3 a b + 2 * p * -q * rtX 3 a b) = _
    simp only [rtX, rtY]
    constructor <;> grind
/-- a rest of a pixel that comes back -/
def isC (p q m n : Int) : Prop := (-(cc p q) < 2 * (p * m + q * n) ∧ 2 * (p * m + q * n) < cc p q) ∧ -(cc p q) < 2 * (p * n - q * m) ∧ 2 * (p * n - q * m) < cc p q
theorem nrr_iff {c r x : Int} (h : c % 2 = 1) (h0 : 0 < c) : nrr (c * x - r) c = x ↔ -c < 2 * r ∧ 2 * r < c := by
  constructor
  · intro e
    have := nrr_near (n := c * x - r) h h0
    rw [e] at this
    omega
  · intro e
    have := nrr_of (r := -r) (c := c) (k := x) (by omega)
    have e2 : -r + c * x = c * x - r := by omega
    rw [e2] at this
    exact this
/-! ### turns that keep all -/
theorem isR_mir (p q m n : Int) : isR p (-q) m n ↔ isC p q m n := by
  unfold isC isR
  have e1 : p * m - -q * n = p * m + q * n := by grind
  have e2 : p * n + -q * m = p * n - q * m := by grind
  rw [e1, e2, cc_neg]
/-! ### a bare pixel of each turn that does not keep all -/
theorem odd_far {a b s t A B : Int} (ha : 0 ≤ a) (hb : 0 ≤ b) (hA : A % 2 = 1) (hB : B % 2 = 1) {c : Int} (h1 : c + s < a + b) (h2 : c - s < a + b) (h3 : c + t < a + b) (h4 : c - t < a + b) :
    ¬ ((-c < s - (a * A - b * B) ∧ s - (a * A - b * B) < c) ∧ -c < t - (a * B + b * A) ∧ t - (a * B + b * A) < c) := by
  rintro ⟨⟨x1, x2⟩, x3, x4⟩
  have pos : ∀ {u v : Int}, 0 ≤ u → 1 ≤ v → u ≤ u * v := fun {u v} hu hv => by
    have := Int.mul_le_mul_of_nonneg_left hv hu
    omega
  rcases (by omega : 1 ≤ A ∨ A ≤ -1) with zA | zA <;> rcases (by omega : 1 ≤ B ∨ B ≤ -1) with zB | zB
  · have := pos ha zB
    have := pos hb zA
    omega
  · have := pos ha zA
    have := pos hb (show 1 ≤ -B by omega)
    rw [Int.mul_neg] at this
    omega
  · have := pos ha (show 1 ≤ -A by omega)
    have := pos hb zB
    rw [Int.mul_neg] at *
    omega
  · have := pos ha (show 1 ≤ -B by omega)
    have := pos hb (show 1 ≤ -A by omega)
    rw [Int.mul_neg] at *
    omega
theorem gap_pos {p q k : Int} (h : Tn p q k) (hk : p ≠ (if q < 0 then -q else q) + 1) : p + (if q < 0 then -q else q) < 2 * (if q < 0 then -q else q) * (p - (if q < 0 then -q else q)) := by
  have hq1 := h.q1
  have hq2 := h.q2
  have ho := h.o
  have hq0 : q ≠ 0 := fun z => by
    subst z
    have g := h.g
    rw [show (0 : Int).natAbs = 0 from rfl, Nat.gcd_zero_right] at g
    have := h.p1
    simp at hk
    omega
  generalize hQ : (if q < 0 then -q else q) = Q at *
  have Q1 : 1 ≤ Q := by rw [← hQ]; split <;> omega
  have d3 : 3 ≤ p - Q := by
    have : p - Q ≠ 2 := fun z => by
      have : (p + q) % 2 = 0 := by rw [← hQ] at z; split at z <;> omega
      omega
    have : 0 < p - Q := by rw [← hQ]; split <;> omega
    omega
  have m1 : (2 * Q) * 3 ≤ (2 * Q) * (p - Q) := Int.mul_le_mul_of_nonneg_left d3 (by omega)
  have m2 : 2 * (p - Q) ≤ (2 * Q) * (p - Q) := Int.mul_le_mul_of_nonneg_right (by omega) (by omega)
  rcases (by omega : p - Q = 3 ∨ 4 ≤ p - Q) with z | z
  · rw [z]; omega
  · have m3 : (2 * Q) * 4 ≤ (2 * Q) * (p - Q) := Int.mul_le_mul_of_nonneg_left z (by omega)
    have m4 : (p - Q) ≤ Q * (p - Q) := by
      have := Int.mul_le_mul_of_nonneg_right (c := p - Q) Q1 (by omega)
      omega
    have e : 2 * Q * (p - Q) = Q * (p - Q) + Q * (p - Q) := by grind
    have m5 : 4 * Q ≤ Q * (p - Q) := by
      have := Int.mul_le_mul_of_nonneg_left z (show 0 ≤ Q by omega)
      omega
    omega
/-- w is no image -/
def bareP (p q k w v : Int) : Prop := ∀ x y, ¬ (imX p q k x y = w ∧ imY p q k x y = v)
/-! ### where some are bare, some meet -/
end Tp
namespace Tp
open PySem PySem.Spec PyProof.Rows L2 DL
/-! ### where a pixel comes from -/
theorem lg_back {p q k : Int} (h : Tn p q k) (x y : Int) : exX p (-q) (-k % 4) x y = lgA p q k * x + lgB p q k * y ∧ exY p (-q) (-k % 4) x y = lgA p q k * y - lgB p q k * x := by
  have hk : 0 ≤ k ∧ k < 4 := ⟨h.k1, by have := h.k2; omega⟩
  obtain ⟨a1, a2⟩ := ex_raw p (-q) (-k % 4) x y
  rw [a1, a2]
  unfold lgA lgB
  rcases four hk with g | g | g | g <;> subst g
  · show rtX 0 _ _ = _ ∧ rtY 0 _ _ = _
    simp only [rtX, rtY]
    constructor <;> grind
  · show rtX 3 _ _ = rtX 1 _ _ * _ + rtY 1 _ _ * _ ∧ rtY 3 _ _ = rtX 1 _ _ * _ - rtY 1 _ _ * _
    simp only [rtX, rtY]
    constructor <;> grind
  · show rtX 2 _ _ = rtX 2 _ _ * _ + rtY 2 _ _ * _ ∧ rtY 2 _ _ = rtX 2 _ _ * _ - rtY 2 _ _ * _
    simp only [rtX, rtY]
    constructor <;> grind
  · show rtX 1 _ _ = rtX 3 _ _ * _ + rtY 3 _ _ * _ ∧ rtY 1 _ _ = rtX 3 _ _ * _ - rtY 3 _ _ * _
    simp only [rtX, rtY]
    constructor <;> grind
def ar5 : List (Int × Int) := [(-1, 0), (0, -1), (0, 0), (0, 1), (1, 0)]
theorem lg_sqb {p q k m n : Int} (hr : isR p q m n) : 2 * ((p * m + q * n) * (p * m + q * n)) + 2 * ((p * n - q * m) * (p * n - q * m)) < cc p q * cc p q := by
  obtain ⟨⟨a1, a2⟩, b1, b2⟩ := hr
  have s1 := sq_lt (a := 2 * (p * m - q * n)) (c := cc p q) ⟨a1, a2⟩
  have s2 := sq_lt (a := 2 * (p * n + q * m)) (c := cc p q) ⟨b1, b2⟩
  have e : 4 * ((p * m + q * n) * (p * m + q * n)) + 4 * ((p * n - q * m) * (p * n - q * m)) = 2 * (p * m - q * n) * (2 * (p * m - q * n)) + 2 * (p * n + q * m) * (2 * (p * n + q * m)) := by grind
  omega
/-- a number that is nearest, for one that is off by d -/
theorem off_far {c d P : Int} (h0 : 0 < c) (h : -c < 2 * (c * d - P) ∧ 2 * (c * d - P) < c) (hd : d ≠ 0) : c * c < 2 * P * (2 * P) ∧ (d ≠ 1 → d ≠ -1 → 9 * (c * c) < 2 * P * (2 * P)) := by
  have big : ∀ t : Int, 0 < t → ∀ u : Int, t < u → t * t < u * u := fun t ht u hu => by
    have m1 : t * t < t * u := Int.mul_lt_mul_of_pos_left hu ht
    have m2 : t * u < u * u := Int.mul_lt_mul_of_pos_right hu (by omega)
    omega
  have e9 : 3 * c * (3 * c) = 9 * (c * c) := by grind
  have en : -(2 * P) * -(2 * P) = 2 * P * (2 * P) := Int.neg_mul_neg _ _
  rcases (by omega : 1 ≤ d ∨ d ≤ -1) with z | z
  · have m1 : c * 1 ≤ c * d := Int.mul_le_mul_of_nonneg_left z (by omega)
    have := big c h0 (2 * P) (by omega)
    refine ⟨this, fun z1 z2 => ?_⟩
    have m2 : c * 2 ≤ c * d := Int.mul_le_mul_of_nonneg_left (by omega) (by omega)
    have := big (3 * c) (by omega) (2 * P) (by omega)
    omega
  · have m1 : c * 1 ≤ c * -d := Int.mul_le_mul_of_nonneg_left (by omega) (by omega)
    rw [Int.mul_neg] at m1
    have := big c h0 (-(2 * P)) (by omega)
    rw [en] at this
    refine ⟨this, fun z1 z2 => ?_⟩
    have m2 : c * 2 ≤ c * -d := Int.mul_le_mul_of_nonneg_left (by omega) (by omega)
    rw [Int.mul_neg] at m2
    have := big (3 * c) (by omega) (-(2 * P)) (by omega)
    rw [en] at this
    omega
/-- the image turned back is the pixel or one of its neighbours -/
theorem src_near {p q k : Int} (h : Tn p q k) (x y : Int) : (x - imX p (-q) (-k % 4) (imX p q k x y) (imY p q k x y), y - imY p (-q) (-k % 4) (imX p q k x y) (imY p q k x y)) ∈ ar5 := by
  obtain ⟨a, b⟩ := back_ex h x y
  have hb := im_near (tn_bk2 h) (imX p q k x y) (imY p q k x y)
  have hr := lg_sqb (k := k) (re_is h x y)
  have h0 := cc_pos h
  rw [a, b, cc_neg] at hb
  generalize imX p (-q) (-k % 4) (imX p q k x y) (imY p q k x y) = r at *
  generalize imY p (-q) (-k % 4) (imX p q k x y) (imY p q k x y) = s at *
  generalize p * reX p q x y + q * reY p q x y = P at *
  generalize p * reY p q x y - q * reX p q x y = N at *
  generalize cc p q = c at *
  have e1 : c * (x - r) - P = c * x - P - c * r := by rw [Int.mul_sub]; omega
  have e2 : c * (y - s) - N = c * y - N - c * s := by rw [Int.mul_sub]; omega
  have f1 := off_far (c := c) (d := x - r) (P := P) h0 (by rw [e1]; omega)
  have f2 := off_far (c := c) (d := y - s) (P := N) h0 (by rw [e2]; omega)
  have g1 : 2 * P * (2 * P) = 4 * (P * P) := by grind
  have g2 : 2 * N * (2 * N) = 4 * (N * N) := by grind
  have n1 := sq_nn P
  have n2 := sq_nn N
  have nc : 0 < c * c := Int.mul_pos h0 h0
  rw [g1] at f1
  rw [g2] at f2
  show (x - r, y - s) ∈ [((-1 : Int), (0 : Int)), (0, -1), (0, 0), (0, 1), (1, 0)]
  generalize x - r = d at *
  generalize y - s = e at *
  have d3 : d = 0 ∨ d = 1 ∨ d = -1 := Decidable.byContradiction fun z => by
    have := (f1 (by omega)).2 (by omega) (by omega)
    omega
  have e3 : e = 0 ∨ e = 1 ∨ e = -1 := Decidable.byContradiction fun z => by
    have := (f2 (by omega)).2 (by omega) (by omega)
    omega
  have one : d = 0 ∨ e = 0 := Decidable.byContradiction fun z => by
    have := (f1 (by omega)).1
    have := (f2 (by omega)).1
    omega
  rcases d3 with z | z | z <;> rcases e3 with w | w | w <;> subst z <;> subst w <;> first | decide | (rcases one with o | o <;> cases o)
/-- the list of the sources -/
def srcA (p q k x y : Int) : List (Int × Int) := ar5.map fun t => (imX p (-q) (-k % 4) x y + t.1, imY p (-q) (-k % 4) x y + t.2)
def fS (p q k x y : Int) (t : Int × Int) : Bool := decide (imX p q k t.1 t.2 = x ∧ imY p q k t.1 t.2 = y)
def srcL (p q k x y : Int) : List (Int × Int) := (srcA p q k x y).filter (fS p q k x y)
theorem srcL_mem {p q k x y : Int} (h : Tn p q k) {z w : Int} : (z, w) ∈ srcL p q k x y ↔ imX p q k z w = x ∧ imY p q k z w = y := by
  unfold srcL srcA fS
  rw [List.mem_filter]
  constructor
  · exact fun z => of_decide_eq_true z.2
  · intro e
    refine ⟨?_, decide_eq_true e⟩
    have := src_near h z w
    rw [e.1, e.2] at this
    refine List.mem_map.mpr ⟨_, this, ?_⟩
    show (_ + (z - _), _ + (w - _)) = (z, w)
    rw [show ∀ a b : Int, a + (b - a) = b from fun a b => by omega, show ∀ a b : Int, a + (b - a) = b from fun a b => by omega]
theorem pr_at {os : List (Int × Int)} {k : Nat} {d : D} (h : (os.map pr2)[k]? = some d) : ∃ t, os[k]? = some t ∧ d = .tup [.int t.1, .int t.2] := by
  rw [List.getElem?_map] at h
  cases e : os[k]? with
  | none => rw [e] at h; cases h
  | some t => rw [e] at h; exact ⟨t, rfl, (Option.some.inj h).symm⟩
theorem flt_step {α β : Type} (P : α → Bool) (g : α → β) {os : List α} {k : Nat} {v : α} (h : os[k]? = some v) : ((os.take (k + 1)).filter P).map g = ((os.take k).filter P).map g ++ (if P v = true then [g v] else []) := by
  obtain ⟨hk, e⟩ := List.getElem?_eq_some_iff.mp h
  rw [List.take_succ, h, List.filter_append, List.map_append]
  congr 1
  show List.map g (List.filter P [v]) = _
  by_cases z : P v = true
  · rw [List.filter_cons_of_pos z, if_pos z] <;> rfl
  · rw [List.filter_cons_of_neg z, if_neg z] <;> rfl
end Tp
namespace Tp
open PySem PySem.Spec PyProof.Rows L2 DL
/-! ### the gaps between the exact places -/
theorem gap_E {a b c D E s t : Int} (ha : 0 < a) (hb : 0 < b) (hc : 0 < c) (hs : a * a + b * b = c * c) (h1 : c * s = a * D + b * E) (h2 : c * t = a * E - b * D) (s1 : -c ≤ s) (s2 : s ≤ c) (t1 : -c ≤ t) (t2 : t ≤ c) (hD : a + b - c < D) :
    ∃ m n : Int, (m = 1 ∨ m = -1) ∧ (n = 1 ∨ n = -1) ∧ (-c < D - (a * m - b * n) ∧ D - (a * m - b * n) < c) ∧ -c < E - (b * m + a * n) ∧ E - (b * m + a * n) < c := by
  have e1 : c * (a * s - b * t) = c * (c * D) := by
    have : c * (a * s - b * t) = a * (c * s) - b * (c * t) := by grind
    rw [this, h1, h2]; grind
  have e2 : c * (b * s + a * t) = c * (c * E) := by
    have : c * (b * s + a * t) = b * (c * s) + a * (c * t) := by grind
    rw [this, h1, h2]; grind
  have f1 : a * s - b * t = c * D := Int.eq_of_mul_eq_mul_left (by omega) e1
  have f2 : b * s + a * t = c * E := Int.eq_of_mul_eq_mul_left (by omega) e2
  have la : a < c := by
    refine Decidable.byContradiction fun z => ?_
    have : c * c ≤ a * a := Int.mul_le_mul (by omega) (by omega) (by omega) (by omega)
    have : 0 < b * b := Int.mul_pos hb hb
    omega
  have lb : b < c := by
    refine Decidable.byContradiction fun z => ?_
    have : c * c ≤ b * b := Int.mul_le_mul (by omega) (by omega) (by omega) (by omega)
    have : 0 < a * a := Int.mul_pos ha ha
    omega
  have as2 : a * s ≤ a * c := Int.mul_le_mul_of_nonneg_left s2 (by omega)
  have as1 : a * -c ≤ a * s := Int.mul_le_mul_of_nonneg_left s1 (by omega)
  have bs2 : b * s ≤ b * c := Int.mul_le_mul_of_nonneg_left s2 (by omega)
  have bs1 : b * -c ≤ b * s := Int.mul_le_mul_of_nonneg_left s1 (by omega)
  have at2 : a * t ≤ a * c := Int.mul_le_mul_of_nonneg_left t2 (by omega)
  have at1 : a * -c ≤ a * t := Int.mul_le_mul_of_nonneg_left t1 (by omega)
  have bt2 : b * t ≤ b * c := Int.mul_le_mul_of_nonneg_left t2 (by omega)
  have bt1 : b * -c ≤ b * t := Int.mul_le_mul_of_nonneg_left t1 (by omega)
  have ec : ∀ u : Int, u * -c = -(c * u) := fun u => by grind
  have ed : ∀ u : Int, u * c = c * u := fun u => Int.mul_comm _ _
  rw [ec] at as1 bs1 at1 bt1
  rw [ed] at as2 bs2 at2 bt2
  have D2 : D ≤ a + b := by
    refine Int.le_of_mul_le_mul_left (a := c) ?_ hc
    rw [Int.mul_add]; omega
  have E2 : E ≤ a + b := by
    refine Int.le_of_mul_le_mul_left (a := c) ?_ hc
    rw [Int.mul_add]; omega
  have E1 : -(a + b) ≤ E := by
    refine Int.le_of_mul_le_mul_left (a := c) ?_ hc
    rw [Int.mul_neg, Int.mul_add]; omega
  have k0 : 2 * (a * b) ≤ c * c := by
    have : 0 ≤ (a - b) * (a - b) := by
      rcases Int.le_total 0 (a - b) with z | z
      · exact Int.mul_nonneg z z
      · exact Int.mul_nonneg_of_nonpos_of_nonpos z z
    have : (a - b) * (a - b) = a * a + b * b - 2 * (a * b) := by grind
    omega
  have k1 : c < a + b := by
    refine Decidable.byContradiction fun z => ?_
    have : (a + b) * (a + b) ≤ c * c := Int.mul_le_mul (by omega) (by omega) (by omega) (by omega)
    have : (a + b) * (a + b) = a * a + b * b + 2 * (a * b) := by grind
    have : 0 < a * b := Int.mul_pos ha hb
    omega
  have k2 : 2 * (a * b) < c * (a + b) := by
    have : c * c < c * (a + b) := Int.mul_lt_mul_of_pos_left k1 hc
    omega
  by_cases u1 : E - (b - a) < c
  · by_cases u2 : -c < E - (b - a)
    · exact ⟨1, -1, .inl rfl, .inr rfl, ⟨by omega, by omega⟩, by omega, by omega⟩
    · -- S: m = -1, n = -1
      refine ⟨-1, -1, .inr rfl, .inr rfl, ⟨by omega, ?_⟩, by omega, by omega⟩
      have g1 : b * D ≤ c * c + a * E := by
        have : c * -c ≤ c * t := Int.mul_le_mul_of_nonneg_left t1 (by omega)
        rw [Int.mul_neg] at this
        omega
      have g2 : a * E ≤ a * (b - a - c) := Int.mul_le_mul_of_nonneg_left (by omega) (by omega)
      have g3 : a * (b - a - c) = a * b - a * a - a * c := by grind
      refine Int.lt_of_mul_lt_mul_left (a := b) ?_ (by omega)
      have g4 : b * c + a * c = c * (a + b) := by grind
      have g5 : b * (D - (a * -1 - b * -1)) = b * D + a * b - b * b := by grind
      rw [g5]; omega
  · refine ⟨1, 1, .inl rfl, .inl rfl, ⟨by omega, ?_⟩, by omega, by omega⟩
    have g1 : a * D ≤ c * c - b * E := by
      have : c * s ≤ c * c := Int.mul_le_mul_of_nonneg_left s2 (by omega)
      omega
    have g2 : b * (b - a + c) ≤ b * E := Int.mul_le_mul_of_nonneg_left (by omega) (by omega)
    have g3 : b * (b - a + c) = b * b - a * b + b * c := by grind
    refine Int.lt_of_mul_lt_mul_left (a := a) ?_ (by omega)
    have g4 : b * c + a * c = c * (a + b) := by grind
    have g5 : a * (D - (a * 1 - b * 1)) = a * D - a * a + a * b := by grind
    rw [g5]; omega
/-- the four ways a point lies out of the gap -/
def Hit (a b c D E : Int) : Prop := ∃ m n : Int, (m = 1 ∨ m = -1) ∧ (n = 1 ∨ n = -1) ∧ (-c < D - (a * m - b * n) ∧ D - (a * m - b * n) < c) ∧ -c < E - (b * m + a * n) ∧ E - (b * m + a * n) < c
theorem Hit.rot {a b c D E : Int} (h : Hit a b c E (-D)) : Hit a b c D E := by
  obtain ⟨m, n, hm, hn, h1, h2⟩ := h
  refine ⟨-n, m, by omega, hm, ?_⟩
  have e1 : D - (a * -n - b * m) = -(-D - (b * m + a * n)) := by grind
  have e2 : E - (b * -n + a * m) = E - (a * m - b * n) := by grind
  rw [e1, e2]; omega
theorem Hit.turn {a b c D E : Int} (h : Hit b (-a) c D E) : Hit a b c D E := by
  obtain ⟨m, n, hm, hn, h1, h2⟩ := h
  refine ⟨n, -m, hn, by omega, ?_⟩
  have e1 : D - (a * n - b * -m) = D - (b * m - -a * n) := by grind
  have e2 : E - (b * n + a * -m) = E - (-a * m + b * n) := by grind
  rw [e1, e2]; omega
theorem gap_pos4 {a b c D E s t : Int} (ha : 0 < a) (hb : 0 < b) (hc : 0 < c) (hs : a * a + b * b = c * c) (h1 : c * s = a * D + b * E) (h2 : c * t = a * E - b * D) (s1 : -c ≤ s ∧ s ≤ c) (t1 : -c ≤ t ∧ t ≤ c)
    (hD : a + b - c < D ∨ a + b - c < -D ∨ a + b - c < E ∨ a + b - c < -E) : Hit a b c D E := by
  rcases hD with h | h | h | h
  · exact gap_E ha hb hc hs h1 h2 s1.1 s1.2 t1.1 t1.2 h
  · refine Hit.rot (Hit.rot ?_)
    exact gap_E (s := -s) (t := -t) ha hb hc hs (by grind) (by grind) (by omega) (by omega) (by omega) (by omega) h
  · refine Hit.rot ?_
    exact gap_E (s := t) (t := -s) ha hb hc hs (by grind) (by grind) (by omega) (by omega) (by omega) (by omega) h
  · refine Hit.rot (Hit.rot (Hit.rot ?_))
    exact gap_E (s := -t) (t := s) ha hb hc hs (by grind) (by grind) (by omega) (by omega) (by omega) (by omega) h
theorem gap_all {a b c D E s t : Int} (ha : a ≠ 0) (hb : b ≠ 0) (hc : 0 < c) (hs : a * a + b * b = c * c) (h1 : c * s = a * D + b * E) (h2 : c * t = a * E - b * D) (s1 : -c ≤ s ∧ s ≤ c) (t1 : -c ≤ t ∧ t ≤ c)
    (hD : absI a + absI b - c < D ∨ absI a + absI b - c < -D ∨ absI a + absI b - c < E ∨ absI a + absI b - c < -E) : Hit a b c D E := by
  unfold absI at hD
  rcases (by omega : 0 < a ∨ a < 0) with za | za <;> rcases (by omega : 0 < b ∨ b < 0) with zb | zb
  · rw [if_neg (by omega), if_neg (by omega)] at hD
    exact gap_pos4 za zb hc hs h1 h2 s1 t1 hD
  · rw [if_neg (by omega), if_pos (by omega)] at hD
    refine Hit.turn (Hit.turn (Hit.turn ?_))
    rw [Int.neg_neg]
    exact gap_pos4 (s := t) (t := -s) (by omega) za hc (by grind) (by grind) (by grind) t1 (by omega) (by omega)
  · rw [if_pos (by omega), if_neg (by omega)] at hD
    refine Hit.turn ?_
    exact gap_pos4 (s := -t) (t := s) zb (by omega) hc (by grind) (by grind) (by grind) (by omega) s1 (by omega)
  · rw [if_pos (by omega), if_pos (by omega)] at hD
    refine Hit.turn (Hit.turn ?_)
    exact gap_pos4 (s := -s) (t := -t) (by omega) (by omega) hc (by grind) (by grind) (by grind) (by omega) (by omega) (by omega)

theorem odd_far4 {a b D E m n c : Int} (hm : m % 2 = 1) (hn : n % 2 = 1) (h1 : c + D < absI a + absI b) (h2 : c - D < absI a + absI b) (h3 : c + E < absI a + absI b) (h4 : c - E < absI a + absI b) :
    ¬ ((-c < D - (a * m - b * n) ∧ D - (a * m - b * n) < c) ∧ -c < E - (b * m + a * n) ∧ E - (b * m + a * n) < c) := by
  unfold absI at h1 h2 h3 h4
  by_cases za : a < 0 <;> by_cases zb : b < 0
  · rw [if_pos za, if_pos zb] at h1 h2 h3 h4
    have := odd_far (a := -a) (b := -b) (s := D) (t := E) (A := -m) (B := -n) (c := c) (by omega) (by omega) (by omega) (by omega) h1 h2 h3 h4
    rw [show -a * -m - -b * -n = a * m - b * n by grind, show -a * -n + -b * -m = b * m + a * n by grind] at this
    exact this
  · rw [if_pos za, if_neg zb] at h1 h2 h3 h4
    have := odd_far (a := b) (b := -a) (s := D) (t := E) (A := -n) (B := m) (c := c) (by omega) (by omega) (by omega) (by omega) (by omega) (by omega) (by omega) (by omega)
    rw [show b * -n - -a * m = a * m - b * n by grind, show b * m + -a * -n = b * m + a * n by grind] at this
    exact this
  · rw [if_neg za, if_pos zb] at h1 h2 h3 h4
    have := odd_far (a := -b) (b := a) (s := D) (t := E) (A := n) (B := -m) (c := c) (by omega) (by omega) (by omega) (by omega) (by omega) (by omega) (by omega) (by omega)
    rw [show -b * n - a * -m = a * m - b * n by grind, show -b * -m + a * n = b * m + a * n by grind] at this
    exact this
  · rw [if_neg za, if_neg zb] at h1 h2 h3 h4
    have := odd_far (a := a) (b := b) (s := D) (t := E) (A := m) (B := n) (c := c) (by omega) (by omega) (by omega) (by omega) h1 h2 h3 h4
    rw [show a * n + b * m = b * m + a * n by grind] at this
    exact this
theorem absI_neg (x : Int) : absI (-x) = absI x := by unfold absI; split <;> split <;> omega
theorem absI_pos {x : Int} (h : 0 < x) : absI x = x := by unfold absI; split <;> omega
theorem lie_ring {a b c x y f g : Int} (hs : a * a + b * b = c * c) : c * (2 * (a * x + b * y) - c * (2 * f + 1)) = a * (2 * (c * x) - (a * (2 * f + 1) - b * (2 * g + 1))) + b * (2 * (c * y) - (b * (2 * f + 1) + a * (2 * g + 1))) ∧ c * (2 * (a * y - b * x) - c * (2 * g + 1)) = a * (2 * (c * y) - (b * (2 * f + 1) + a * (2 * g + 1))) - b * (2 * (c * x) - (a * (2 * f + 1) - b * (2 * g + 1))) := by
  have h1 : (a * a + b * b) * (2 * f + 1) = c * c * (2 * f + 1) := by rw [hs]
  have h2 : (a * a + b * b) * (2 * g + 1) = c * c * (2 * g + 1) := by rw [hs]
  clear hs
  constructor <;> grind
def gapI (p q : Int) : Int := 2 * absI q * (p - absI q)
theorem lg_or {p q k : Int} (h : Tn p q k) : (absI (lgA p q k) = p * p - q * q ∧ absI (lgB p q k) = absI (p * q + q * p)) ∨ (absI (lgB p q k) = p * p - q * q ∧ absI (lgA p q k) = absI (p * q + q * p)) := by
  have a0 : 0 < p * p - q * q := by
    have : p * p - q * q = (p - q) * (p + q) := by grind
    rw [this]
    exact Int.mul_pos (by have := h.q2; omega) (by have := h.q1; omega)
  unfold lgA lgB
  generalize p * p - q * q = a at *
  generalize p * q + q * p = b at *
  rcases four ⟨h.k1, by have := h.k2; omega⟩ with g | g | g | g <;> subst g <;> simp only [show (0 : Int).toNat = 0 from rfl, show (1 : Int).toNat = 1 from rfl, show (2 : Int).toNat = 2 from rfl, show (3 : Int).toNat = 3 from rfl, rtX, rtY, absI_neg, absI_pos a0, and_self, true_or, or_true]
theorem gap_eq {p q k : Int} (h : Tn p q k) : absI (lgA p q k) + absI (lgB p q k) - cc p q = gapI p q := by
  have e : p * p - q * q + absI (p * q + q * p) - cc p q = gapI p q := by
    unfold gapI cc absI
    have hp := h.p1
    by_cases z : q < 0
    · have : p * q + q * p < 0 := by
        have : p * q < 0 := Int.mul_neg_of_pos_of_neg (by omega) z
        have e2 : q * p = p * q := Int.mul_comm _ _
        omega
      rw [if_pos this, if_pos z]; grind
    · have : ¬ p * q + q * p < 0 := by
        have : 0 ≤ p * q := Int.mul_nonneg (by omega) (by omega)
        have e2 : q * p = p * q := Int.mul_comm _ _
        omega
      rw [if_neg this, if_neg z]; grind
  rcases lg_or h with ⟨e1, e2⟩ | ⟨e1, e2⟩ <;> rw [e1, e2] <;> omega
theorem lg_odd {p q k : Int} (h : Tn p q k) : (lgA p q k + lgB p q k) % 2 = 1 := by
  have a0 : (p * p - q * q) % 2 = 1 := by
    have e : p * p - q * q = (p - q) * (p + q) := by grind
    rw [e, Int.mul_emod, h.o, show (p - q) % 2 = 1 by have := h.o; omega] <;> rfl
  have b0 : (p * q + q * p) % 2 = 0 := by
    have e2 : q * p = p * q := Int.mul_comm _ _
    omega
  unfold lgA lgB
  generalize p * p - q * q = a at *
  generalize p * q + q * p = b at *
  rcases four ⟨h.k1, by have := h.k2; omega⟩ with g | g | g | g <;> subst g <;> simp only [show (0 : Int).toNat = 0 from rfl, show (1 : Int).toNat = 1 from rfl, show (2 : Int).toNat = 2 from rfl, show (3 : Int).toNat = 3 from rfl, rtX, rtY] <;> omega
theorem lg_ne {p q k : Int} (h : Tn p q k) (hq : q ≠ 0) : lgA p q k ≠ 0 ∧ lgB p q k ≠ 0 := by
  have a0 : 0 < p * p - q * q := by
    have : p * p - q * q = (p - q) * (p + q) := by grind
    rw [this]
    exact Int.mul_pos (by have := h.q2; omega) (by have := h.q1; omega)
  have b0 : p * q + q * p ≠ 0 := by
    have e2 : q * p = p * q := Int.mul_comm _ _
    have : p * q ≠ 0 := Int.mul_ne_zero (by have := h.p1; omega) hq
    omega
  have n : ∀ x : Int, x = 0 ↔ absI x = 0 := fun x => by unfold absI; split <;> omega
  have b1 : absI (p * q + q * p) ≠ 0 := fun z => b0 ((n _).mpr z)
  rcases lg_or h with ⟨e1, e2⟩ | ⟨e1, e2⟩
  · exact ⟨fun z => by rw [n, e1] at z; omega, fun z => by rw [n, e2] at z; exact b1 z⟩
  · exact ⟨fun z => by rw [n, e2] at z; exact b1 z, fun z => by rw [n, e1] at z; omega⟩
/-- what the program's own reckoning by the gaps says -/
def lieD (a b c x r s : Int) : Int := 2 * c * x - a * r + b * s
def lieE (a b c y r s : Int) : Int := 2 * c * y - b * r - a * s
theorem absI_lt {x g : Int} : absI x < g ↔ x < g ∧ -x < g := by unfold absI; split <;> omega
theorem gap_iff {p q k : Int} (h : Tn p q k) (x y : Int) : (absI (lieD (lgA p q k) (lgB p q k) (cc p q) x (2 * ((lgA p q k * x + lgB p q k * y) / cc p q) + 1) (2 * ((lgA p q k * y - lgB p q k * x) / cc p q) + 1)) < gapI p q ∧ absI (lieE (lgA p q k) (lgB p q k) (cc p q) y (2 * ((lgA p q k * x + lgB p q k * y) / cc p q) + 1) (2 * ((lgA p q k * y - lgB p q k * x) / cc p q) + 1)) < gapI p q) ↔ bareP p q k x y := by
  have hc := cc_pos h
  have ho := cc_odd h
  have hsq := lg_sq2 (p := p) (q := q) k
  have hodd := lg_odd h
  have hge := gap_eq h
  have hne := lg_ne h
  have hev : gapI p q % 2 = 0 := by unfold gapI; rw [Int.mul_assoc]; omega
  have img : ∀ z w : Int, (imX p q k z w = x ∧ imY p q k z w = y) ↔ (-(cc p q) < 2 * (cc p q * x - exX p q k z w) ∧ 2 * (cc p q * x - exX p q k z w) < cc p q) ∧ -(cc p q) < 2 * (cc p q * y - exY p q k z w) ∧ 2 * (cc p q * y - exY p q k z w) < cc p q := fun z w => by
    have t1 := nrr_iff (c := cc p q) (r := cc p q * x - exX p q k z w) (x := x) ho hc
    have t2 := nrr_iff (c := cc p q) (r := cc p q * y - exY p q k z w) (x := y) ho hc
    rw [show cc p q * x - (cc p q * x - exX p q k z w) = exX p q k z w by omega] at t1
    rw [show cc p q * y - (cc p q * y - exY p q k z w) = exY p q k z w by omega] at t2
    unfold imX imY
    exact and_congr t1 t2
  have hex : ∀ z w : Int, exX p q k z w = lgA p q k * z - lgB p q k * w ∧ exY p q k z w = lgB p q k * z + lgA p q k * w := fun z w => by
    unfold exX exY
    constructor <;> omega
  unfold bareP
  have e1 := Int.emod_add_mul_ediv (lgA p q k * x + lgB p q k * y) (cc p q)
  have e2 := Int.emod_add_mul_ediv (lgA p q k * y - lgB p q k * x) (cc p q)
  have r1 := Int.emod_nonneg (lgA p q k * x + lgB p q k * y) (show cc p q ≠ 0 by omega)
  have r2 := Int.emod_nonneg (lgA p q k * y - lgB p q k * x) (show cc p q ≠ 0 by omega)
  have r3 := Int.emod_lt_of_pos (lgA p q k * x + lgB p q k * y) hc
  have r4 := Int.emod_lt_of_pos (lgA p q k * y - lgB p q k * x) hc
  generalize (lgA p q k * x + lgB p q k * y) % cc p q = m1 at *
  generalize (lgA p q k * y - lgB p q k * x) % cc p q = m2 at *
  generalize (lgA p q k * x + lgB p q k * y) / cc p q = f at *
  generalize (lgA p q k * y - lgB p q k * x) / cc p q = g at *
  have key : q ≠ 0 → ∀ z w : Int, exX p q k z w = lgA p q k * z - lgB p q k * w ∧ exY p q k z w = lgB p q k * z + lgA p q k * w := fun _ => hex
  obtain ⟨D, hD⟩ : ∃ D, D = lieD (lgA p q k) (lgB p q k) (cc p q) x (2 * f + 1) (2 * g + 1) := ⟨_, rfl⟩
  obtain ⟨E, hE⟩ : ∃ E, E = lieE (lgA p q k) (lgB p q k) (cc p q) y (2 * f + 1) (2 * g + 1) := ⟨_, rfl⟩
  rw [← hD, ← hE]
  have hD' : D = 2 * (cc p q * x) - (lgA p q k * (2 * f + 1) - lgB p q k * (2 * g + 1)) := by rw [hD]; unfold lieD; grind
  have hE' : E = 2 * (cc p q * y) - (lgB p q k * (2 * f + 1) + lgA p q k * (2 * g + 1)) := by rw [hE]; unfold lieE; grind
  clear hD hE
  constructor
  · rintro ⟨g1, g2⟩ z w hi
    rw [absI_lt] at g1 g2
    have hi := (img z w).mp hi
    rw [(hex z w).1, (hex z w).2] at hi
    refine odd_far4 (a := lgA p q k) (b := lgB p q k) (D := D) (E := E) (m := 2 * (z - f) - 1) (n := 2 * (w - g) - 1) (c := cc p q) (by omega) (by omega) (by omega) (by omega) (by omega) (by omega) ?_
    have u1 : D - (lgA p q k * (2 * (z - f) - 1) - lgB p q k * (2 * (w - g) - 1)) = 2 * (cc p q * x - (lgA p q k * z - lgB p q k * w)) := by rw [hD']; grind
    have u2 : E - (lgB p q k * (2 * (z - f) - 1) + lgA p q k * (2 * (w - g) - 1)) = 2 * (cc p q * y - (lgB p q k * z + lgA p q k * w)) := by rw [hE']; grind
    rw [u1, u2]
    exact hi
  · intro hb
    refine Decidable.byContradiction fun hno => ?_
    rw [absI_lt, absI_lt] at hno
    by_cases hq : q = 0
    · -- a turn by quarters alone
      have hp1 : p = 1 := by
        have g := h.g
        rw [hq, show (0 : Int).natAbs = 0 from rfl, Nat.gcd_zero_right] at g
        have := h.p1
        omega
      have c1 : cc p q = 1 := by unfold cc; rw [hq, hp1] <;> rfl
      rw [c1] at hsq
      refine hb (lgA p q k * x + lgB p q k * y) (lgA p q k * y - lgB p q k * x) ((img _ _).mpr ?_)
      rw [(hex _ _).1, (hex _ _).2, c1]
      have u1 : lgA p q k * (lgA p q k * x + lgB p q k * y) - lgB p q k * (lgA p q k * y - lgB p q k * x) = (lgA p q k * lgA p q k + lgB p q k * lgB p q k) * x := by grind
      have u2 : lgB p q k * (lgA p q k * x + lgB p q k * y) + lgA p q k * (lgA p q k * y - lgB p q k * x) = (lgA p q k * lgA p q k + lgB p q k * lgB p q k) * y := by grind
      rw [u1, u2, hsq]
      omega
    · have pD : D % 2 = 1 := by
        have u : lgA p q k * (2 * f + 1) - lgB p q k * (2 * g + 1) = 2 * (lgA p q k * f - lgB p q k * g) + (lgA p q k - lgB p q k) := by grind
        rw [hD', u]; omega
      have pE : E % 2 = 1 := by
        have u : lgB p q k * (2 * f + 1) + lgA p q k * (2 * g + 1) = 2 * (lgB p q k * f + lgA p q k * g) + (lgA p q k + lgB p q k) := by grind
        rw [hE', u]; omega
      obtain ⟨m, n, hm, hn, h1, h2⟩ := gap_all (a := lgA p q k) (b := lgB p q k) (c := cc p q) (D := D) (E := E) (s := 2 * (lgA p q k * x + lgB p q k * y) - cc p q * (2 * f + 1)) (t := 2 * (lgA p q k * y - lgB p q k * x) - cc p q * (2 * g + 1)) (hne hq).1 (hne hq).2 hc hsq
        (by rw [hD', hE']; exact (lie_ring hsq).1) (by rw [hD', hE']; exact (lie_ring hsq).2)
        (by have : cc p q * (2 * f + 1) = 2 * (cc p q * f) + cc p q := by grind
            omega)
        (by have : cc p q * (2 * g + 1) = 2 * (cc p q * g) + cc p q := by grind
            omega)
        (by omega)
      obtain ⟨z, hz⟩ : ∃ z, 2 * z = 2 * f + 1 + m := ⟨(2 * f + 1 + m) / 2, by omega⟩
      obtain ⟨w, hw⟩ : ∃ w, 2 * w = 2 * g + 1 + n := ⟨(2 * g + 1 + n) / 2, by omega⟩
      refine hb z w ((img z w).mpr ?_)
      rw [(hex z w).1, (hex z w).2]
      have em : m = 2 * z - (2 * f + 1) := by omega
      have en : n = 2 * w - (2 * g + 1) := by omega
      have u1 : 2 * (cc p q * x - (lgA p q k * z - lgB p q k * w)) = D - (lgA p q k * m - lgB p q k * n) := by rw [hD', em, en]; grind
      have u2 : 2 * (cc p q * y - (lgB p q k * z + lgA p q k * w)) = E - (lgB p q k * m + lgA p q k * n) := by rw [hE', em, en]; grind
      rw [u1, u2]
      exact ⟨h1, h2⟩
def bareB (p q k x y : Int) : Bool := (srcL p q k x y).isEmpty
theorem bareB_iff {p q k : Int} (h : Tn p q k) (x y : Int) : bareB p q k x y = true ↔ bareP p q k x y := by
  unfold bareB bareP
  rw [List.isEmpty_iff]
  constructor
  · intro e z w hi
    have := (srcL_mem h).mpr hi
    rw [e] at this
    cases this
  · intro hb
    refine List.eq_nil_iff_forall_not_mem.mpr fun t ht => ?_
    exact hb t.1 t.2 ((srcL_mem h).mp ht)
/-! ### the law's own lists of pixels around a place -/
def off25 : List (Int × Int) := (List.range 25).map fun k : Nat => (-2 + (k : Int) / 5, -2 + (k : Int) % 5)
def near25 (x y : Int) : List (Int × Int) := off25.map fun t => (x + t.1, y + t.2)
theorem off25_at {i : Nat} (h : i < 25) : off25[i]? = some (-2 + (i : Int) / 5, -2 + (i : Int) % 5) := by
  unfold off25
  rw [List.getElem?_map, List.getElem?_range h] <;> rfl
theorem off25_bd {t : Int × Int} (h : t ∈ off25) : Bd 2 t.1 ∧ Bd 2 t.2 := by
  obtain ⟨i, hi, rfl⟩ := List.mem_map.mp h
  have hi := List.mem_range.mp hi
  unfold Bd
  omega
theorem near25_at {x y : Int} {i : Nat} {t : Int × Int} (h : off25[i]? = some t) : (near25 x y)[i]? = some (x + t.1, y + t.2) := by
  unfold near25
  rw [List.getElem?_map, h] <;> rfl
theorem off25_ar5 : off25.filter (fun t => decide (t ∈ ar5)) = ar5 := by decide +kernel
theorem off25_up : off25.Pairwise fun a b => le2 a b = true := by decide +kernel
theorem flt_sub {α : Type} {P R : α → Bool} (l : List α) (h : ∀ t, P t = true → R t = true) : l.filter P = (l.filter R).filter P := by
  rw [List.filter_filter]
  refine List.filter_congr fun t _ => ?_
  cases e : P t with
  | true => rw [h t e] <;> rfl
  | false => rfl
theorem tried_src {p q k : Int} (h : Tn p q k) (x y : Int) : (near25 (imX p (-q) (-k % 4) x y) (imY p (-q) (-k % 4) x y)).filter (fS p q k x y) = srcL p q k x y := by
  unfold srcL srcA near25
  rw [List.filter_map, List.filter_map, flt_sub (R := fun t => decide (t ∈ ar5)) off25 (fun t ht => ?_), off25_ar5]
  have e := of_decide_eq_true ht
  have s := src_near h (imX p (-q) (-k % 4) x y + t.1) (imY p (-q) (-k % 4) x y + t.2)
  rw [e.1, e.2] at s
  refine decide_eq_true ?_
  rw [show ∀ a b : Int, a + b - a = b from fun a b => by omega, show ∀ a b : Int, a + b - a = b from fun a b => by omega] at s
  exact s
theorem near25_up (x y : Int) : (near25 x y).Pairwise fun a b => le2 a b = true := by
  refine List.Pairwise.map _ (fun a b hab => ?_) off25_up
  have := of_decide_eq_true hab
  exact decide_eq_true (by show x + a.1 < x + b.1 ∨ (x + a.1 = x + b.1 ∧ y + a.2 ≤ y + b.2); omega)
theorem near25_sort {x y : Int} (P : Int × Int → Bool) : ((near25 x y).filter P).mergeSort le2 = (near25 x y).filter P := sort2_self ((near25_up x y).filter _)
def con_tried : Con := fun ds S Q => ∃ p q k x y : Int, ds = [.tup [.int p, .int q, .int k], .tup [.int x, .int y]] ∧ Tn p q k ∧ (Bd 300 x ∧ Bd 300 y) ∧ Q (.lst ((srcL p q k x y).map pr2)) S
/-! ### pixels that meet a pixel, of those around -/
theorem eqB_nil (l : List D) : eqB (.lst l) (.lst []) = l.isEmpty := by cases l <;> rfl
theorem eq_nil {l : List D} {S : Sto} {Q : Bool → Sto → Prop} (h : flatOkL 8 l = true) (q : Q l.isEmpty S) : eqP (.lst l) (.lst []) S Q := ⟨⟨by simpa [flatOk] using h, rfl⟩, by rw [eqB_nil]; exact q⟩
theorem flat_pr2 : ∀ l : List (Int × Int), flatOkL 8 (l.map pr2) = true
  | [] => rfl
  | t :: l => by
    show (flatOk 8 (pr2 t) && flatOkL 8 (l.map pr2)) = true
    rw [flat_pr2 l] <;> rfl
theorem isE_map {α β : Type} (f : α → β) (l : List α) : (l.map f).isEmpty = l.isEmpty := by cases l <;> rfl
def con_lies : Con := fun ds S Q => ∃ p q k x y : Int, ds = [.tup [.int (lgA p q k), .int (lgB p q k), .int (cc p q)], .int (gapI p q), .tup [.int x, .int y]] ∧ Tn p q k ∧ (Bd 300 x ∧ Bd 300 y) ∧ Q (.bl (bareB p q k x y)) S
def con_gapof : Con := fun ds S Q => ∃ p q k : Int, ds = [.tup [.int p, .int q, .int k]] ∧ Tn p q k ∧ Q (.int (gapI p q)) S
def con_isbare : Con := fun ds S Q => ∃ p q k x y : Int, ds = [.tup [.int p, .int q, .int k], .tup [.int x, .int y]] ∧ Tn p q k ∧ (Bd 300 x ∧ Bd 300 y) ∧ Q (.bl (bareB p q k x y)) S
theorem lie_no {p q k x y : Int} (h : Tn p q k) (z : ¬ absI (lieD (lgA p q k) (lgB p q k) (cc p q) x (2 * ((lgA p q k * x + lgB p q k * y) / cc p q) + 1) (2 * ((lgA p q k * y - lgB p q k * x) / cc p q) + 1)) < gapI p q) : bareB p q k x y = false := by
  cases e : bareB p q k x y with
  | false => rfl
  | true => exact absurd ((gap_iff h x y).mpr ((bareB_iff h x y).mp e)).1 z
theorem lie_yes {p q k x y : Int} (h : Tn p q k) (z : absI (lieD (lgA p q k) (lgB p q k) (cc p q) x (2 * ((lgA p q k * x + lgB p q k * y) / cc p q) + 1) (2 * ((lgA p q k * y - lgB p q k * x) / cc p q) + 1)) < gapI p q) : bareB p q k x y = decide (absI (lieE (lgA p q k) (lgB p q k) (cc p q) y (2 * ((lgA p q k * x + lgB p q k * y) / cc p q) + 1) (2 * ((lgA p q k * y - lgB p q k * x) / cc p q) + 1)) < gapI p q) := by
  cases e : bareB p q k x y with
  | true => exact (decide_eq_true ((gap_iff h x y).mpr ((bareB_iff h x y).mp e)).2).symm
  | false => exact (decide_eq_false fun w => by
      have := (bareB_iff h x y).mpr ((gap_iff h x y).mp ⟨z, w⟩)
      rw [e] at this
      cases this).symm
theorem near25_bd {n : Nat} {x y : Int} {t : Int × Int} (bx : Bd n x) (by' : Bd n y) (h : t ∈ near25 x y) : Bd (n + 3) t.1 ∧ Bd (n + 3) t.2 := by
  obtain ⟨u, hu, rfl⟩ := List.mem_map.mp h
  have b := off25_bd hu
  exact ⟨(bx.add b.1).up (by omega), (by'.add b.2).up (by omega)⟩
theorem take25 : off25.take (rngD 0 (Int.toNat 25)).length = off25 := by rw [rngD_len]; rfl
theorem take_near (x y : Int) : (near25 x y).take (off25.map pr2).length = near25 x y := by
  refine List.take_of_length_le ?_
  unfold near25
  rw [List.length_map, List.length_map]
  exact Nat.le_refl _
theorem take_all {α β : Type} (f : α → β) (l : List α) : l.take (l.map f).length = l := by
  refine List.take_of_length_le ?_
  rw [List.length_map]
  exact Nat.le_refl _
theorem near_len {x y : Int} (P : Int × Int → Bool) : ((near25 x y).filter P).length ≤ 100000 := by
  refine Nat.le_trans (List.length_filter_le _ _) ?_
  unfold near25
  rw [List.length_map]
  decide
end Tp
namespace Tp
open PySem PySem.Spec PyProof.Rows L2 DL
/-! ### sources, with lists that may be changed -/
end Tp
namespace Tp
open PySem PySem.Spec PyProof.Rows L2 DL
/-! ### sums over rows of pixels -/
def sumN : Nat → (Nat → Int) → Int
  | 0, _ => 0
  | n + 1, f => sumN n f + f n
theorem sumN_congr {f g : Nat → Int} : ∀ {n : Nat}, (∀ i, i < n → f i = g i) → sumN n f = sumN n g
  | 0, _ => rfl
  | n + 1, h => by
    show sumN n f + f n = sumN n g + g n
    rw [sumN_congr fun i hi => h i (by omega), h n (by omega)]
theorem sumN_add (f g : Nat → Int) : ∀ n : Nat, sumN n (fun i => f i + g i) = sumN n f + sumN n g
  | 0 => rfl
  | n + 1 => by
    show sumN n _ + (f n + g n) = sumN n f + f n + (sumN n g + g n)
    rw [sumN_add f g n]
    omega
theorem sumN_mul (k : Int) (f : Nat → Int) : ∀ n : Nat, sumN n (fun i => k * f i) = k * sumN n f
  | 0 => (Int.mul_zero k).symm
  | n + 1 => by
    show sumN n _ + k * f n = k * (sumN n f + f n)
    rw [sumN_mul k f n, Int.mul_add]
theorem sumN_const (k : Int) : ∀ n : Nat, sumN n (fun _ => k) = n * k
  | 0 => by show (0 : Int) = ((0 : Nat) : Int) * k; simp
  | n + 1 => by
    show sumN n _ + k = _
    rw [sumN_const k n]
    have : (((n + 1 : Nat) : Int)) = (n : Int) + 1 := by omega
    rw [this, Int.add_mul, Int.one_mul]
end Tp
namespace Tp
open PySem PySem.Spec PyProof.Rows L2 DL
/-! ### bare pixels in a row -/
def keepsP (p q : Int) : Prop := p = (if q < 0 then -q else q) + 1
instance (p q : Int) : Decidable (keepsP p q) := by unfold keepsP; infer_instance
end Tp
namespace Tp
open PySem PySem.Spec PyProof.Rows L2 DL
/-! ### sums of floors -/
theorem sumN_head (f : Nat → Int) : ∀ n : Nat, sumN (n + 1) f = f 0 + sumN n fun i => f (i + 1)
  | 0 => by show (0 : Int) + f 0 = f 0 + 0; omega
  | n + 1 => by
    show sumN (n + 1) f + f (n + 1) = f 0 + (sumN n (fun i => f (i + 1)) + f (n + 1))
    rw [sumN_head f n]
    omega
theorem sumN_rev : ∀ (n : Nat) (f : Nat → Int), sumN n f = sumN n fun j => f (n - 1 - j)
  | 0, _ => rfl
  | n + 1, f => by
    rw [sumN_head f n, sumN_rev n fun i => f (i + 1)]
    show f 0 + _ = sumN n (fun j => f (n + 1 - 1 - j)) + f (n + 1 - 1 - n)
    rw [show n + 1 - 1 - n = 0 by omega, Int.add_comm]
    congr 1
    refine sumN_congr fun i hi => ?_
    rw [show n - 1 - i + 1 = n + 1 - 1 - i by omega]
theorem sumN_split (f : Nat → Int) (n : Nat) : ∀ m : Nat, sumN (n + m) f = sumN n f + sumN m fun i => f (n + i)
  | 0 => by show sumN n f = sumN n f + 0; omega
  | m + 1 => by
    show sumN (n + m) f + f (n + m) = sumN n f + (sumN m (fun i => f (n + i)) + f (n + m))
    rw [sumN_split f n m]
    omega
theorem sumN_zero {f : Nat → Int} {n : Nat} (h : ∀ i, i < n → f i = 0) : sumN n f = 0 := by
  rw [sumN_congr h, sumN_const, Int.mul_zero]
/-- what is nought from n on -/
theorem sumN_cut {f : Nat → Int} {n m : Nat} (hn : n ≤ m) (h : ∀ i, n ≤ i → i < m → f i = 0) : sumN m f = sumN n f := by
  obtain ⟨k, rfl⟩ : ∃ k, m = n + k := ⟨m - n, by omega⟩
  rw [sumN_split, sumN_zero (f := fun i => f (n + i)) fun i hi => h _ (by omega) (by omega)]
  omega
theorem sumN_id : ∀ n : Nat, sumN n (fun k => (k : Int)) = (n : Int) * ((n : Int) - 1) / 2
  | 0 => rfl
  | n + 1 => by
    show sumN n (fun k => (k : Int)) + (n : Int) = _
    rw [sumN_id n]
    have e1 : (((n + 1 : Nat) : Int)) = (n : Int) + 1 := by omega
    rw [e1, show ((n : Int) + 1) * ((n : Int) + 1 - 1) = (n : Int) * ((n : Int) - 1) + n * 2 by grind, Int.add_mul_ediv_right _ _ (by decide)]
def fs (n : Nat) (d s b : Int) : Int := sumN n fun k => (s * (k : Int) + b) / d
theorem fs_red (n : Nat) {d : Int} (s b : Int) (hd : 0 < d) : fs n d s b = (n : Int) * ((n : Int) - 1) / 2 * (s / d) + (n : Int) * (b / d) + fs n d (s % d) (b % d) := by
  unfold fs
  rw [sumN_congr (g := fun k => ((s / d) * (k : Int) + b / d) + (s % d * (k : Int) + b % d) / d) fun k _ => ?_]
  · rw [sumN_add, sumN_add, sumN_mul, sumN_const, sumN_id, Int.mul_comm (s / d)]
  · have e : s * (k : Int) + b = (s % d * (k : Int) + b % d) + d * ((s / d) * (k : Int) + b / d) := by
      have h1 := Int.emod_add_mul_ediv s d
      have h2 := Int.emod_add_mul_ediv b d
      generalize s % d = s1 at *
      generalize b % d = b1 at *
      generalize s / d = s2 at *
      generalize b / d = b2 at *
      subst h1 h2
      grind
    rw [e, Int.add_mul_ediv_left _ _ (by omega)]
    omega
def fsH (d s b : Int) (n m : Nat) : Int := sumN m fun j => (n : Int) + (b - ((j : Int) + 1) * d) / s
theorem fsH_succ (d s b : Int) (n m : Nat) : fsH d s b (n + 1) m = fsH d s b n m + (m : Int) := by
  unfold fsH
  rw [sumN_congr (g := fun j : Nat => ((n : Int) + (b - ((j : Int) + 1) * d) / s) + 1) fun j _ => by
    have e1 : (((n + 1 : Nat) : Int)) = (n : Int) + 1 := by omega
    rw [e1]
    omega]
  rw [sumN_add, sumN_const, Int.mul_one]
theorem fs_H {d s b : Int} (hd : 0 < d) (hs : 0 < s) (hb : 0 ≤ b ∧ b < d) : ∀ n : Nat, fsH d s b n ((s * (n : Int) + b) / d).toNat = fs n d s b
  | 0 => by
    have e : (s * ((0 : Nat) : Int) + b) / d = 0 := by
      rw [show s * ((0 : Nat) : Int) + b = b by simp]
      exact Int.ediv_eq_zero_of_lt hb.1 hb.2
    rw [e]
    rfl
  | n + 1 => by
    have e1 : (((n + 1 : Nat) : Int)) = (n : Int) + 1 := by omega
    have hm0 : 0 ≤ (s * (n : Int) + b) / d := Int.ediv_nonneg (Int.add_nonneg (Int.mul_nonneg (by omega) (by omega)) hb.1) (by omega)
    have hle : (s * (n : Int) + b) / d ≤ (s * (((n + 1 : Nat) : Int)) + b) / d := Int.ediv_le_ediv hd (by rw [e1]; grind)
    rw [show fs (n + 1) d s b = fs n d s b + (s * (n : Int) + b) / d from rfl, ← fs_H hd hs hb n]
    have e2 : fsH d s b (n + 1) ((s * (((n + 1 : Nat) : Int)) + b) / d).toNat = fsH d s b (n + 1) ((s * (n : Int) + b) / d).toNat := by
      unfold fsH
      refine sumN_cut (by omega) fun j h1 h2 => ?_
      have q1 : (s * (n : Int) + b) / d < (j : Int) + 1 := by omega
      have q2 : (j : Int) + 1 ≤ (s * (((n + 1 : Nat) : Int)) + b) / d := by omega
      have q3 := (Int.ediv_lt_iff_lt_mul hd).mp q1
      have q4 := (Int.le_ediv_iff_mul_le hd).mp q2
      rw [e1] at q4
      rw [e1]
      have : (b - ((j : Int) + 1) * d) / s = -((n : Int) + 1) := by
        have r1 : -((n : Int) + 1) ≤ (b - ((j : Int) + 1) * d) / s := (Int.le_ediv_iff_mul_le hs).mpr (by grind)
        have r2 : (b - ((j : Int) + 1) * d) / s < -((n : Int) + 1) + 1 := (Int.ediv_lt_iff_lt_mul hs).mpr (by grind)
        omega
      omega
    rw [e2, fsH_succ]
    omega
/-- the points under a line, counted from the other side -/
theorem fs_flip {d s b : Int} {n : Nat} (hd : 0 < d) (hs : 0 < s) (hb : 0 ≤ b ∧ b < d) : fs n d s b = fs ((s * (n : Int) + b) / d).toNat s d ((s * (n : Int) + b) % d) := by
  rw [← fs_H hd hs hb n]
  unfold fsH fs
  rw [sumN_rev]
  refine sumN_congr fun j hj => ?_
  have h1 := Int.emod_add_mul_ediv (s * (n : Int) + b) d
  generalize (s * (n : Int) + b) % d = r at *
  generalize (s * (n : Int) + b) / d = m at *
  have e : (((m.toNat - 1 - j : Nat) : Int)) = m - 1 - (j : Int) := by omega
  rw [e, show d * (j : Int) + r = (b - (m - 1 - (j : Int) + 1) * d) + s * (n : Int) by grind, Int.add_mul_ediv_left _ _ (by omega)]
  omega
theorem fs_zero {d s b : Int} {n : Nat} (hs : 0 ≤ s) (hb : 0 ≤ b) (h : s * (n : Int) + b < d) : fs n d s b = 0 := by
  refine sumN_zero fun k hk => Int.ediv_eq_zero_of_lt (Int.add_nonneg (Int.mul_nonneg hs (by omega)) hb) ?_
  have := Int.mul_le_mul_of_nonneg_left (show (k : Int) ≤ (n : Int) by omega) hs
  omega
theorem fs_stepI {n d : Int} (s b : Int) (hn : 0 ≤ n) (hd : 0 < d) : fs n.toNat d s b = n * (n - 1) / 2 * (s / d) + n * (b / d) + fs n.toNat d (s % d) (b % d) := by
  have e : ((n.toNat : Nat) : Int) = n := by omega
  have := fs_red n.toNat s b hd
  rw [e] at this
  exact this
theorem fs_flipI {n d s b : Int} (hn : 0 ≤ n) (hd : 0 < d) (hs : 0 < s) (hb : 0 ≤ b ∧ b < d) : fs n.toNat d s b = fs ((s * n + b) / d).toNat s d ((s * n + b) % d) := by
  have e : ((n.toNat : Nat) : Int) = n := by omega
  have := fs_flip (n := n.toNat) hd hs hb
  rw [e] at this
  exact this
theorem fs_zeroI {n d s b : Int} (hn : 0 ≤ n) (hs : 0 ≤ s) (hb : 0 ≤ b) (h : s * n + b < d) : fs n.toNat d s b = 0 := fs_zero hs hb (by rw [show ((n.toNat : Nat) : Int) = n by omega]; exact h)
theorem abs_sumN {f : Nat → Int} {M : Nat} : ∀ {n : Nat}, (∀ i, i < n → (f i).natAbs ≤ M) → (sumN n f).natAbs ≤ n * M
  | 0, _ => by show (0 : Int).natAbs ≤ _; simp
  | n + 1, h => by
    have h1 := abs_sumN (n := n) fun i hi => h i (by omega)
    have h2 := h n (by omega)
    have h3 := Int.natAbs_add_le (sumN n f) (f n)
    rw [Nat.add_mul, Nat.one_mul]
    show (sumN n f + f n).natAbs ≤ _
    omega
theorem bd_sumN {f : Nat → Int} {n m k : Nat} (h : ∀ i, i < n → Bd m (f i)) (hn : n ≤ 2 ^ k) : Bd (m + k) (sumN n f) := by
  have h1 := abs_sumN (f := f) (M := 2 ^ m - 1) (n := n) fun i hi => by
    have := h i hi
    unfold Bd at this
    omega
  have p : 0 < 2 ^ m := Nat.pow_pos (by decide)
  have p2 : 0 < 2 ^ k := Nat.pow_pos (by decide)
  have h2 : n * (2 ^ m - 1) ≤ 2 ^ k * (2 ^ m - 1) := Nat.mul_le_mul_right _ hn
  have h3 : 2 ^ k * (2 ^ m - 1) < 2 ^ k * 2 ^ m := (Nat.mul_lt_mul_left p2).mpr (by omega)
  unfold Bd
  rw [Nat.pow_add, Nat.mul_comm]
  omega
theorem bd_fs {n d s b : Int} {k m : Nat} (hn : 0 ≤ n) (bn : Bd k n) (bs : Bd m s) (bb : Bd (k + m) b) : Bd (m + k + k + 1) (fs n.toNat d s b) := by
  refine (bd_sumN (m := m + k + 1) (k := k) (fun i hi => ?_) (by unfold Bd at bn; omega)).up (by omega)
  have bi : Bd k (i : Int) := by unfold Bd at *; omega
  exact ((bs.mul bi).add bb).div.up (by omega)
structure FsI (T t n d s b : Int) : Prop where
  e : t + fs n.toNat d s b = T
  n0 : 0 ≤ n
  d0 : 0 < d
  bt : Bd 320 t
  bn : Bd 102 n
  bd : Bd 102 d
  bs : Bd 102 s
  bb : Bd 204 b
theorem FsI.start {n d s b : Int} (n0 : 0 ≤ n) (d0 : 0 < d) (h : Bd 102 n ∧ Bd 102 d ∧ Bd 102 s ∧ Bd 204 b) : FsI (fs n.toNat d s b) 0 n d s b :=
  ⟨Int.zero_add _, n0, d0, by unfold Bd; decide +kernel, h.1, h.2.1, h.2.2.1, h.2.2.2⟩
theorem FsI.fin {T t n d s b : Int} (h : FsI T t n d s b) (g : s % d * n + b % d < d) : t + (n * (n - 1) / 2 * (s / d) + n * (b / d)) = T := by
  have e := h.e
  rw [fs_stepI s b h.n0 h.d0, fs_zeroI h.n0 (Int.emod_nonneg _ (by have := h.d0; omega)) (Int.emod_nonneg _ (by have := h.d0; omega)) g] at e
  omega
theorem FsI.pos {T t n d s b : Int} (h : FsI T t n d s b) (g : ¬ s % d * n + b % d < d) : 0 < s % d := by
  have d0 := h.d0
  have n0 := Int.emod_nonneg s (show d ≠ 0 by omega)
  have n1 := Int.emod_lt_of_pos b d0
  rcases Int.lt_or_eq_of_le n0 with z | z
  · exact z
  · rw [← z, Int.zero_mul] at g; omega
theorem FsI.step {T t n d s b : Int} (bT : Bd 315 T) (h : FsI T t n d s b) (g : ¬ s % d * n + b % d < d) : FsI T (t + (n * (n - 1) / 2 * (s / d) + n * (b / d))) ((s % d * n + b % d) / d) (s % d) d ((s % d * n + b % d) % d) ∧ s % d < d := by
  have d0 := h.d0
  have n0 := h.n0
  have hp := h.pos g
  have h1 := Int.emod_lt_of_pos s d0
  have h2 := Int.emod_nonneg b (show d ≠ 0 by omega)
  have h3 := Int.emod_lt_of_pos b d0
  have e := h.e
  rw [fs_stepI s b n0 d0] at e
  have e2 := fs_flipI n0 d0 hp ⟨h2, h3⟩
  have m0 : 0 ≤ s % d * n := Int.mul_nonneg (by omega) n0
  have t0 : 0 ≤ (s % d * n + b % d) / d := Int.ediv_nonneg (by omega) (by omega)
  have t1 : (s % d * n + b % d) / d ≤ n := by
    refine Int.lt_add_one_iff.mp ((Int.ediv_lt_iff_lt_mul d0).mpr ?_)
    have := Int.mul_le_mul_of_nonneg_right (show s % d ≤ d - 1 by omega) n0
    rw [Int.add_mul, Int.one_mul, Int.mul_comm n d]
    rw [Int.sub_mul, Int.one_mul] at this
    omega
  have bs1 : Bd 102 (s % d) := Bd.mod h.bd d0
  have bb1 : Bd 204 (b % d) := (Bd.mod h.bd d0).up (by decide)
  have bf : Bd 310 (fs n.toNat d (s % d) (b % d)) := (bd_fs n0 h.bn bs1 bb1).up (by decide)
  refine ⟨⟨by rw [← e2]; omega, t0, hp, ?_, Bd.of_le t0 t1 h.bn, bs1, h.bd, (Bd.mod h.bd d0).up (by decide)⟩, h1⟩
  have : t + (n * (n - 1) / 2 * (s / d) + n * (b / d)) = T - fs n.toNat d (s % d) (b % d) := by omega
  rw [this]
  exact (bT.sub bf).up (by decide)

end Tp
namespace Tp
open PySem PySem.Spec PyProof.Rows L2 DL
/-! ### rests of a row -/
instance (p q m n : Int) : Decidable (isR p q m n) := by unfold isR; infer_instance
instance (p q m n : Int) : Decidable (isC p q m n) := by unfold isC; infer_instance
end Tp
namespace Tp
open PySem PySem.Spec PyProof.Rows L2 DL
/-! ### counting rests -/
def octP (p Q h m n : Int) : Prop := p * absI m + Q * absI n ≤ h ∧ Q * absI m + p * absI n ≤ h
instance (p Q h m n : Int) : Decidable (octP p Q h m n) := by unfold octP; infer_instance
end Tp
namespace Tp
open PySem PySem.Spec PyProof.Rows L2 DL
end Tp
namespace Tp
open PySem PySem.Spec PyProof.Rows L2 DL
/-! ### pairs of a row -/
def isH (c v : Int) : Prop := -c < 2 * v ∧ 2 * v < c
instance (c v : Int) : Decidable (isH c v) := by unfold isH; infer_instance
/-- the condition that a pixel and the one beside it have one image -/
def meetO (p q dx dy X Y : Int) : Prop := isH (cc p q) (X + ((p * p - q * q) * dx - 2 * p * q * dy)) ∧ isH (cc p q) (Y + ((p * p - q * q) * dy + 2 * p * q * dx))
instance (p q dx dy X Y : Int) : Decidable (meetO p q dx dy X Y) := by unfold meetO; infer_instance
end Tp
namespace Tp
open PySem PySem.Spec PyProof.Rows L2 DL
/-! ### places of a row and what comes to them -/
end Tp
namespace Tp
open PySem PySem.Spec PyProof.Rows L2 DL
/-! ### k13 -/
end Tp
namespace Tp
open PySem PySem.Spec PyProof.Rows L2 DL
/-! ### kinds of pixels -/
def metR (p q : Int) (t : Int × Int) : Prop := meetO p q 1 0 (p * t.1 - q * t.2) (p * t.2 + q * t.1) ∨ meetO p q (-1) 0 (p * t.1 - q * t.2) (p * t.2 + q * t.1) ∨ meetO p q 0 1 (p * t.1 - q * t.2) (p * t.2 + q * t.1) ∨ meetO p q 0 (-1) (p * t.1 - q * t.2) (p * t.2 + q * t.1)
instance (p q : Int) (t : Int × Int) : Decidable (metR p q t) := by unfold metR; infer_instance
end Tp
namespace Tp
open PySem PySem.Spec PyProof.Rows L2 DL
/-! ### mirrored and turned by a quarter -/
end Tp
namespace Tp
open PySem PySem.Spec PyProof.Rows L2 DL
/-! ### all rests, row by row -/
end Tp
namespace Tp
open PySem PySem.Spec PyProof.Rows L2 DL
end Tp
namespace Tp
open PySem PySem.Spec PyProof.Rows L2 DL
/-! ### a row as a whole -/
/-- the first pixel with a rest -/
def fstF (p q : Int) (t : Int × Int) : Int := (((List.range (cc p q).toNat).find? fun j : Nat => decide (reX p q (j : Int) 0 = t.1 ∧ reY p q (j : Int) 0 = t.2)).getD 0 : Nat)
theorem fstF_eq {p q k f : Int} {t : Int × Int} (h : Tn p q k) (h0 : 0 ≤ f) (h1 : f < cc p q) (e1 : reX p q f 0 = t.1) (e2 : reY p q f 0 = t.2) : fstF p q t = f := by
  unfold fstF
  cases e : (List.range (cc p q).toNat).find? fun j : Nat => decide (reX p q (j : Int) 0 = t.1 ∧ reY p q (j : Int) 0 = t.2) with
  | none =>
    have := List.find?_eq_none.mp e f.toNat (List.mem_range.mpr (by omega))
    refine absurd (decide_eq_true ?_) this
    rw [show ((f.toNat : Nat) : Int) = f by omega]
    exact ⟨e1, e2⟩
  | some g =>
    have g0 : decide (reX p q (g : Int) 0 = t.1 ∧ reY p q (g : Int) 0 = t.2) = true := List.find?_some (p := fun j : Nat => decide (reX p q (j : Int) 0 = t.1 ∧ reY p q (j : Int) 0 = t.2)) e
    have g1 := of_decide_eq_true g0
    have g2 := List.mem_range.mp (List.mem_of_find?_eq_some e)
    show ((g : Nat) : Int) = f
    exact first_only h ⟨by omega, by omega⟩ ⟨h0, h1⟩ (g1.1.trans e1.symm) (g1.2.trans e2.symm)
end Tp
namespace Tp
open PySem PySem.Spec PyProof.Rows L2 DL
/-! ### k10 -/
def isRb (p q : Int) (t : Int × Int) : Bool := decide (isR p q t.1 t.2)
end Tp
namespace Tp
open PySem PySem.Spec PyProof.Rows L2 DL
/-! ### greatest misses -/
/-- the ends of a row, as the law takes them -/
def lawLo (p q m : Int) : Int × Int := (0 - ((p * p + q * q) / 2 + q * m) / p, if 0 < q then 0 - ((p * p + q * q) / 2 - p * m) / q else 0 - p)
def lawHi (p q m : Int) : Int × Int := (((p * p + q * q) / 2 - q * m) / p, if 0 < q then ((p * p + q * q) / 2 + p * m) / q else p)
end Tp
namespace Tp
open PySem PySem.Spec PyProof.Rows L2 DL
/-! ### greatest misses: the program's list, the law's rows -/
/-- the law's rows -/
def loI (p q m : Int) : Int := max (lawLo p q m).1 (lawLo p q m).2
def hiI (p q m : Int) : Int := min (lawHi p q m).1 (lawHi p q m).2
def rowC (p q m : Int) : Prop := loI p q m ≤ hiI p q m ∧ (0 < q ∨ absI (p * m) ≤ (p * p + q * q) / 2)
instance (p q m : Int) : Decidable (rowC p q m) := by unfold rowC; infer_instance
end Tp
namespace Tp
open PySem PySem.Spec PyProof.Rows L2 DL
/-! ### misses by rests -/
end Tp
namespace Tp
open PySem PySem.Spec PyProof.Rows L2 DL
/-! ### a loss told; numbers of no loss -/
/-- the rest of the pixel that is told -/
theorem loss_rest {p q k : Int} (h : Tn p q k) : isR p (-q) ((1 - p + q) / 2) ((1 - p - q) / 2) := by
  have h1 := h.p1
  have h2 := h.q1
  have h3 := h.q2
  have ho := h.o
  have hc := cc_odd h
  rw [isR_mir]
  obtain ⟨m, hm⟩ : ∃ m, m = (1 - p + q) / 2 := ⟨_, rfl⟩
  obtain ⟨n, hn⟩ : ∃ n, n = (1 - p - q) / 2 := ⟨_, rfl⟩
  rw [← hm, ← hn]
  have em : 2 * m = 1 - p + q := by omega
  have en : 2 * n = 1 - p - q := by omega
  have c0 : p * p + q * q = cc p q := rfl
  have e1 : 2 * (p * m + q * n) = p + q - cc p q := by
    have : 2 * (p * m + q * n) = p * (2 * m) + q * (2 * n) := by grind
    rw [this, em, en, ← c0]
    grind
  have e2 : 2 * (p * n - q * m) = p - q - cc p q := by
    have : 2 * (p * n - q * m) = p * (2 * n) - q * (2 * m) := by grind
    rw [this, em, en, ← c0]
    grind
  have hp : p ≤ p * p := by
    have := Int.mul_le_mul_of_nonneg_left h1 (show 0 ≤ p by omega)
    rw [Int.mul_one] at this
    exact this
  have hq : 0 ≤ q * q := by
    rcases Int.le_total 0 q with z | z
    · exact Int.mul_nonneg z z
    · have := Int.mul_nonneg (show 0 ≤ -q by omega) (show 0 ≤ -q by omega)
      rw [Int.neg_mul_neg] at this
      exact this
  unfold isC
  omega
theorem floor_at {a c X r : Int} (hc : 0 < c) (e : a = c * X + r) (h1 : -c ≤ r) (h2 : r < 0) : a / c = X - 1 := by
  have e2 : a = (r + c) + c * (X - 1) := by rw [e, Int.mul_sub]; omega
  rw [e2, Int.add_mul_ediv_left _ _ (show c ≠ 0 by omega), Int.ediv_eq_zero_of_lt (by omega) (by omega)]
  omega
theorem loss_bare0 {p q k f : Int} (h : Tn p q k) (hk : ¬ keepsP p q) (e1 : reX p (-q) f 0 = (1 - p + q) / 2) (e2 : reY p (-q) f 0 = (1 - p - q) / 2) : bareP p q 0 f 0 := by
  have h1 := h.p1
  have h2 := h.q1
  have h3 := h.q2
  have ho := h.o
  have hc := cc_pos h
  have hod := cc_odd h
  have hg := gap_pos h hk
  have hgI : gapI p q = 2 * (if q < 0 then -q else q) * (p - (if q < 0 then -q else q)) := rfl
  rw [← hgI] at hg
  obtain ⟨m, hm⟩ : ∃ m, m = (1 - p + q) / 2 := ⟨_, rfl⟩
  obtain ⟨n, hn⟩ : ∃ n, n = (1 - p - q) / 2 := ⟨_, rfl⟩
  rw [← hm] at e1
  rw [← hn] at e2
  have em : 2 * m = 1 - p + q := by omega
  have en : 2 * n = 1 - p - q := by omega
  unfold reX at e1
  unfold reY at e2
  obtain ⟨X, hX⟩ : ∃ X, X = imX p (-q) 0 f 0 := ⟨_, rfl⟩
  obtain ⟨Y, hY⟩ : ∃ Y, Y = imY p (-q) 0 f 0 := ⟨_, rfl⟩
  rw [← hX, ← hY] at e1 e2
  have c0 : p * p + q * q = cc p q := rfl
  have la : lgA p q 0 = p * p - q * q := by unfold lgA; rfl
  have lb : lgB p q 0 = p * q + q * p := by unfold lgB; rfl
  have hp : p ≤ p * p := by
    have := Int.mul_le_mul_of_nonneg_left h1 (show 0 ≤ p by omega)
    rw [Int.mul_one] at this
    exact this
  have hq : 0 ≤ q * q := by
    rcases Int.le_total 0 q with z | z
    · exact Int.mul_nonneg z z
    · have := Int.mul_nonneg (show 0 ≤ -q by omega) (show 0 ≤ -q by omega)
      rw [Int.neg_mul_neg] at this
      exact this
  have s1 : (p * p - q * q) * f = cc p q * X + (p * m + q * n) := by rw [← c0]; grind
  have s2 : -((p * q + q * p) * f) = cc p q * Y + (p * n - q * m) := by rw [← c0]; grind
  have t1 : 2 * (p * m + q * n) = p + q - cc p q := by
    have : 2 * (p * m + q * n) = p * (2 * m) + q * (2 * n) := by grind
    rw [this, em, en, ← c0]
    grind
  have t2 : 2 * (p * n - q * m) = p - q - cc p q := by
    have : 2 * (p * n - q * m) = p * (2 * n) - q * (2 * m) := by grind
    rw [this, em, en, ← c0]
    grind
  have hp3 : 3 ≤ p := by
    have hk' : p ≠ (if q < 0 then -q else q) + 1 := hk
    split at hk' <;> omega
  have hpp : 3 * p ≤ p * p := Int.mul_le_mul_of_nonneg_right hp3 (by omega)
  have f1 := floor_at hc s1 (by omega) (by omega)
  have f2 := floor_at hc s2 (by omega) (by omega)
  rw [← gap_iff (Tn.zero h), la, lb]
  rw [show (p * p - q * q) * f + (p * q + q * p) * 0 = (p * p - q * q) * f by rw [Int.mul_zero, Int.add_zero], show (p * p - q * q) * 0 - (p * q + q * p) * f = -((p * q + q * p) * f) by rw [Int.mul_zero, Int.zero_sub], f1, f2]
  have u1 : 2 * (p * m - q * n) = p - q - (p * p - q * q) + (p * q + q * p) := by
    have : 2 * (p * m - q * n) = p * (2 * m) - q * (2 * n) := by grind
    rw [this, em, en]
    grind
  have u2 : 2 * (q * m + p * n) = p + q - (p * p - q * q) - (p * q + q * p) := by
    have : 2 * (q * m + p * n) = q * (2 * m) + p * (2 * n) := by grind
    rw [this, em, en]
    grind
  have v1 : cc p q * f = (p * p - q * q) * X - (p * q + q * p) * Y + (p * m - q * n) := by rw [← c0]; grind
  have v2 : 0 = (p * q + q * p) * X + (p * p - q * q) * Y + (q * m + p * n) := by grind
  have w1 : lieD (p * p - q * q) (p * q + q * p) (cc p q) f (2 * (X - 1) + 1) (2 * (Y - 1) + 1) = p - q := by
    unfold lieD
    have : 2 * cc p q * f - (p * p - q * q) * (2 * (X - 1) + 1) + (p * q + q * p) * (2 * (Y - 1) + 1) = 2 * (cc p q * f) - 2 * ((p * p - q * q) * X - (p * q + q * p) * Y) + (p * p - q * q) - (p * q + q * p) := by grind
    rw [this]
    omega
  have w2 : lieE (p * p - q * q) (p * q + q * p) (cc p q) 0 (2 * (X - 1) + 1) (2 * (Y - 1) + 1) = p + q := by
    unfold lieE
    have : 2 * cc p q * 0 - (p * q + q * p) * (2 * (X - 1) + 1) - (p * p - q * q) * (2 * (Y - 1) + 1) = -(2 * ((p * q + q * p) * X + (p * p - q * q) * Y)) + (p * q + q * p) + (p * p - q * q) := by grind
    rw [this]
    omega
  rw [w1, w2, absI_lt, absI_lt]
  split at hg <;> omega
theorem im_turned {p q k : Int} (h : Tn p q k) (j : Nat) (x y : Int) : imX p q 0 (rtX j x y) (rtY j x y) = rtX j (imX p q 0 x y) (imY p q 0 x y) ∧ imY p q 0 (rtX j x y) (rtY j x y) = rtY j (imX p q 0 x y) (imY p q 0 x y) := by
  have e : exX p q 0 (rtX j x y) (rtY j x y) = rtX j (exX p q 0 x y) (exY p q 0 x y) ∧ exY p q 0 (rtX j x y) (rtY j x y) = rtY j (exX p q 0 x y) (exY p q 0 x y) := by
    unfold exX exY
    match j with
    | 0 => exact ⟨rfl, rfl⟩
    | 1 => simp only [rtX, rtY]; constructor <;> grind
    | 2 => simp only [rtX, rtY]; constructor <;> grind
    | _ + 3 => simp only [rtX, rtY]; constructor <;> grind
  unfold imX imY
  rw [e.1, e.2]
  exact nrr_rot h j _ _
theorem bare_any {p q k w v : Int} (h : Tn p q k) (hb : bareP p q 0 w v) : bareP p q k w v := fun x y hi => by
  have hk4 : 0 ≤ k ∧ k < 4 := ⟨h.k1, by have := h.k2; omega⟩
  have e := im_rot (Tn.zero h) hk4 x y
  rw [show (0 + k) % 4 = k by omega, show k % 4 = k by omega] at e
  have t := im_turned h k.toNat x y
  exact hb _ _ ⟨t.1.trans (e.1.symm.trans hi.1), t.2.trans (e.2.symm.trans hi.2)⟩
def lossX (p q : Int) : Int := fstF p (-q) ((1 - p + q) / 2, (1 - p - q) / 2)
theorem lossX_of {p q k f : Int} (h : Tn p q k) (h0 : 0 ≤ f) (h1 : f < cc p (-q)) (e1 : reX p (-q) f 0 = (1 - p + q) / 2) (e2 : reY p (-q) f 0 = (1 - p - q) / 2) : f = lossX p q := (fstF_eq (t := ((1 - p + q) / 2, (1 - p - q) / 2)) (tn_bk h) h0 h1 e1 e2).symm
theorem bd_lossX {p q k : Int} (h : Tn p q k) : Bd 110 (lossX p q) := by
  have hc := cc_pos h
  unfold lossX fstF
  cases e : (List.range (cc p (-q)).toNat).find? fun j : Nat => decide (reX p (-q) (j : Int) 0 = ((1 - p + q) / 2, (1 - p - q) / 2).1 ∧ reY p (-q) (j : Int) 0 = ((1 - p + q) / 2, (1 - p - q) / 2).2) with
  | none => show Bd 110 ((0 : Nat) : Int); unfold Bd; decide
  | some j =>
    have := List.mem_range.mp (List.mem_of_find?_eq_some e)
    show Bd 110 (j : Int)
    rw [cc_neg] at this
    exact Bd.of_lt (by omega) (show (j : Int) < cc p q by omega) ((Bd.cc h.bp h.bq).up (by decide))
def con_alossX (CK : Addr) : ConX := fun ds S Q R => ∃ p q k : Int, ds = [.tup [.int p, .int q, .int k]] ∧ Tn p q k ∧ (keepsP p q → R ⟨.ref CK, none⟩ S) ∧ (¬ keepsP p q → bareB p q k (lossX p q) 0 = true → Q (.tup [.str "bare", .tup [.int (lossX p q), .int 0]]) S)
theorem loss_bare {p q k f : Int} (h : Tn p q k) (hk : ¬ keepsP p q) (e1 : reX p (-q) f 0 = (1 - p + q) / 2) (e2 : reY p (-q) f 0 = (1 - p - q) / 2) : bareB p q k f 0 = true := (bareB_iff h f 0).mpr (bare_any h (loss_bare0 h hk e1 e2))
end Tp
namespace Tp
open PySem PySem.Spec PyProof.Rows L2 DL
/-! ### turns whose p may be a little too great -/
structure Tw (p q k : Int) : Prop where
  p1 : 1 ≤ p
  p2 : p ≤ 1100000000000000
  q1 : -p < q
  q2 : q < p
  g : Nat.gcd p.natAbs q.natAbs = 1
  o : (p + q) % 2 = 1
  k1 : 0 ≤ k
  k2 : k ≤ 3
theorem Tw.bp {p q k : Int} (h : Tw p q k) : Bd 50 p := by
  have := h.p1
  have := h.p2
  unfold Bd
  omega
theorem Tw.bq {p q k : Int} (h : Tw p q k) : Bd 50 q := by
  have := h.p1
  have := h.p2
  have := h.q1
  have := h.q2
  unfold Bd
  omega
theorem Tw.zero {p q k : Int} (h : Tw p q k) : Tw p q 0 := ⟨h.p1, h.p2, h.q1, h.q2, h.g, h.o, by decide, by decide⟩
theorem Tn.w {p q k : Int} (h : Tn p q k) : Tw p q k := ⟨h.p1, by have := h.p2; omega, h.q1, h.q2, h.g, h.o, h.k1, h.k2⟩
theorem Tw.n {p q k : Int} (h : Tw p q k) (hp : p ≤ 1000000000000000) : Tn p q k := ⟨h.p1, hp, h.q1, h.q2, h.g, h.o, h.k1, h.k2⟩
end Tp
namespace Tp
open PySem PySem.Spec PyProof.Rows L2 DL
/-! ### joined turns -/
structure Tv (p q k : Int) : Prop where
  p1 : 1 ≤ p
  p2 : p ≤ 2535301200456458802993406410752
  q1 : -p < q
  q2 : q < p
  g : Nat.gcd p.natAbs q.natAbs = 1
  o : (p + q) % 2 = 1
  k1 : 0 ≤ k
  k2 : k ≤ 3
theorem Tv.bp {p q k : Int} (h : Tv p q k) : Bd 102 p := by
  have := h.p1
  have := h.p2
  unfold Bd
  omega
theorem Tv.bq {p q k : Int} (h : Tv p q k) : Bd 102 q := by
  have := h.p1
  have := h.p2
  have := h.q1
  have := h.q2
  unfold Bd
  omega
theorem Tv.zero {p q k : Int} (h : Tv p q k) : Tv p q 0 := ⟨h.p1, h.p2, h.q1, h.q2, h.g, h.o, by decide, by decide⟩
theorem sq_root {x n : Int} (h : x * x ≤ n * n) (hn : 0 ≤ n := by decide) : x.natAbs ≤ n.natAbs := by
  rcases Nat.lt_or_ge n.natAbs x.natAbs with z | z
  · have m := Nat.mul_lt_mul_of_lt_of_lt z z
    rw [← Int.natAbs_mul, ← Int.natAbs_mul] at m
    have a := sq_nn x
    have b := sq_nn n
    omega
  · exact z
theorem jn_exC {p q k r s l : Int} (h : Tn p q k) (h' : Tn r s l) (hb : cc p q * cc r s ≤ 1000000000000000 * 1000000000000000) : ∃ a b m, Jn p q k r s l a b m := by
  obtain ⟨P, hP⟩ : ∃ P, P = p * r - q * s := ⟨_, rfl⟩
  obtain ⟨R, hR⟩ : ∃ R, R = p * s + q * r := ⟨_, rfl⟩
  have hcc : P * P + R * R = cc p q * cc r s := by rw [hP, hR]; unfold cc; grind
  have odd : (P * P + R * R) % 2 = 1 := by
    rw [hcc, Int.mul_emod, cc_odd h, cc_odd h'] <;> rfl
  obtain ⟨g, hg⟩ : ∃ g : Nat, g = Nat.gcd P.natAbs R.natAbs := ⟨_, rfl⟩
  have d1 : (g : Int) ∣ P := by rw [hg]; exact PySem.W.mg_dvd_left P R
  have d2 : (g : Int) ∣ R := by rw [hg]; exact PySem.W.mg_dvd_right P R
  obtain ⟨x, hx⟩ := d1
  obtain ⟨y, hy⟩ := d2
  have g0 : 0 < g := by
    rcases Nat.eq_zero_or_pos g with z | z
    · rw [z] at hx hy
      have z1 : P = 0 := by rw [hx]; exact Int.zero_mul _
      have z2 : R = 0 := by rw [hy]; exact Int.zero_mul _
      rw [z1, z2] at odd
      exact absurd odd (by decide)
    · exact z
  have co : Nat.gcd x.natAbs y.natAbs = 1 := by
    have : g * Nat.gcd x.natAbs y.natAbs = g := by
      rw [← Nat.gcd_mul_left]
      have e1 : g * x.natAbs = P.natAbs := by rw [hx, Int.natAbs_mul, Int.natAbs_natCast]
      have e2 : g * y.natAbs = R.natAbs := by rw [hy, Int.natAbs_mul, Int.natAbs_natCast]
      rw [e1, e2, ← hg]
    exact Nat.eq_of_mul_eq_mul_left g0 (by omega)
  have oxy : (x + y) % 2 = 1 := by
    refine sum_sq_odd ?_
    have e : P * P + R * R = (g : Int) * g * (x * x + y * y) := by rw [hx, hy]; grind
    rw [e] at odd
    rcases Int.emod_two_eq (x * x + y * y) with z | z
    · rw [Int.mul_emod, z, Int.mul_zero] at odd
      exact absurd odd (by decide)
    · exact z
  have bP := sq_root (show P * P ≤ 1000000000000000 * 1000000000000000 by have := sq_nn R; omega)
  have bR := sq_root (show R * R ≤ 1000000000000000 * 1000000000000000 by have := sq_nn P; omega)
  have xb : x.natAbs ≤ P.natAbs := by rw [hx, Int.natAbs_mul, Int.natAbs_natCast]; exact Nat.le_mul_of_pos_left _ g0
  have yb : y.natAbs ≤ R.natAbs := by rw [hy, Int.natAbs_mul, Int.natAbs_natCast]; exact Nat.le_mul_of_pos_left _ g0
  have ne : x.natAbs ≠ y.natAbs := fun z => by
    rw [z, Nat.gcd_self] at co
    rcases Int.natAbs_eq x with e1 | e1 <;> rcases Int.natAbs_eq y with e2 | e2 <;> omega
  have cy : Nat.gcd y.natAbs x.natAbs = 1 := by rw [Nat.gcd_comm]; exact co
  have mk : ∀ j : Nat, j < 4 → ∀ a b : Int, 1 ≤ a → a ≤ 1000000000000000 → -a < b → b < a → Nat.gcd a.natAbs b.natAbs = 1 → (a + b) % 2 = 1 → x = rtX j a b → y = rtY j a b → ∃ a b m, Jn p q k r s l a b m := fun j hj a b c1 c2 c3 c4 c5 c6 ex ey =>
    ⟨a, b, (k + l + 2 * (j : Int)) % 4, ⟨c1, c2, c3, c4, c5, c6, by omega, by omega⟩, g, j, by omega, hj, by rw [← hP, hx, ex], by rw [← hR, hy, ey], rfl⟩
  rcases Nat.lt_or_ge y.natAbs x.natAbs with z | z
  · rcases Int.le_total 0 x with e | e
    · exact mk 0 (by decide) x y (by omega) (by omega) (by omega) (by omega) co oxy rfl rfl
    · exact mk 2 (by decide) (-x) (-y) (by omega) (by omega) (by omega) (by omega) (by rw [Int.natAbs_neg, Int.natAbs_neg]; exact co) (by omega) (by show x = - -x; omega) (by show y = - -y; omega)
  · rcases Int.le_total 0 y with e | e
    · exact mk 1 (by decide) y (-x) (by omega) (by omega) (by omega) (by omega) (by rw [Int.natAbs_neg]; exact cy) (by omega) (by show x = - -x; omega) rfl
    · exact mk 3 (by decide) (-y) x (by omega) (by omega) (by omega) (by omega) (by rw [Int.natAbs_neg]; exact cy) (by omega) rfl (by show y = - -y; omega)
def Pj (P R K a b m : Int) : Prop := Tn a b m ∧ ∃ (g : Int) (j : Nat), 1 ≤ g ∧ j < 4 ∧ P = g * rtX j a b ∧ R = g * rtY j a b ∧ m = (K + 2 * (j : Int)) % 4
theorem jn_pj {p q k r s l a b m : Int} (J : Jn p q k r s l a b m) : Pj (p * r - q * s) (p * s + q * r) (k + l) a b m := ⟨J.t, J.ex⟩
theorem pj_uniq {P R K K' a b m c d n : Int} (h : Pj P R K a b m) (h' : Pj P R K' c d n) (e : K % 4 = K' % 4) : a = c ∧ b = d ∧ m = n := by
  obtain ⟨t, g, j, g1, hj, e1, e2, e3⟩ := h
  obtain ⟨t', f, i, f1, hi, o1, o2, o3⟩ := h'
  obtain ⟨w1, w2, w3⟩ := one_of t t' g1 f1 hj hi (e1.symm.trans o1) (e2.symm.trans o2)
  exact ⟨w2, w3, by omega⟩
end Tp
namespace Tp
open PySem PySem.Spec PyProof.Rows L2 DL
/-! ### chains -/
abbrev Stp := Bool × Int × Int
def OkS (t : Stp) : Prop := 1 ≤ t.2.2 ∧ Bd 150 t.2.1 ∧ Bd 150 t.2.2
def led1 (t : Stp) (v : Int × Int) : Int × Int := if t.1 then (v.1 + nrr (t.2.1 * v.2) t.2.2, v.2) else (v.1, v.2 + nrr (t.2.1 * v.1) t.2.2)
def unl1 (t : Stp) (v : Int × Int) : Int × Int := if t.1 then (v.1 - nrr (t.2.1 * v.2) t.2.2, v.2) else (v.1, v.2 - nrr (t.2.1 * v.1) t.2.2)
def ledN (l : List Stp) (v : Int × Int) : Int × Int := l.foldl (fun v t => led1 t v) v
def unlN (l : List Stp) (v : Int × Int) : Int × Int := l.reverse.foldl (fun v t => unl1 t v) v
def BdP (n : Nat) (v : Int × Int) : Prop := Bd n v.1 ∧ Bd n v.2
theorem BdP.up {n m : Nat} {v : Int × Int} (h : BdP n v) (k : n ≤ m) : BdP m v := ⟨h.1.up k, h.2.up k⟩
/-! the chains that are drawn -/
def OkT (t : Stp) : Prop := 1 ≤ t.2.2 ∧ Bd 145 t.2.1 ∧ Bd 145 t.2.2
theorem OkT.s {t : Stp} (h : OkT t) : OkS t := ⟨h.1, h.2.1.up (by decide), h.2.2.up (by decide)⟩
/-! steps in lowest terms -/
def nz (t : Stp) : Bool := decide (t.2.1 ≠ 0)
theorem bt_list : bootBuiltins "list" = some (.type "list") := by rfl
theorem k_ll : kitB "list" "list" = some true := by decide +kernel
theorem sl_t31 {a b c : D} {S : Sto} {Q : D → Sto → Prop} (q : Q (.tup [b, c]) S) : slP (.tup [a, b, c]) (some 1) none S Q := ⟨by show ¬ ((1 : Nat) = 0 ∧ _); omega, q⟩
end Tp
namespace Tp
open PySem PySem.Spec PyProof.Rows L2 DL
/-! ### where chains part -/
theorem drc_list {K : PySem.W.Frag} {l : List D} {S : Sto} {Q : D → Sto → Prop} (q : Q (.lst l) S) : DRC K (fun xs H Q => ∃ p ys, xs = [.ref p] ∧ (SqL K H p ys ∨ SqT K H p ys) ∧ ∀ l, H l = none → Q (.ref l) (upd H l (.lst ys))) [.lst l] S Q := fun H Hd vs Qv st rr k => by
  obtain ⟨v, e1, p, xs, f1, f2, f3⟩ := one_rp rr
  subst e1 f1
  exact ⟨p, xs, rfl, .inl (.of (st.sub _ _ f2)), fun a ha => k _ _ (new_lst st f3 ha q)⟩
theorem cut_from {l : List D} {n : Int} (h : 0 ≤ n) (h2 : n ≤ l.length) : DL.cutD l (some n) none = l.drop n.toNat := by
  unfold DL.cutD HT.sIx
  have e1 : ¬ n < 0 := by omega
  simp only [e1, if_false]
  rw [show min n.toNat l.length = n.toNat by omega]
  exact List.take_of_length_le (by rw [List.length_drop]; omega)
instance (t : Stp) : Decidable (OkS t) := by unfold OkS Bd; infer_instance
end Tp
namespace Tp
open PySem PySem.Spec PyProof.Rows L2 DL
/-! ### how many unlike tuples -/
section
variable {X : Cx}
end
/-! ### chains done and undone -/
end Tp
namespace Tp
open PySem PySem.Spec PyProof.Rows L2 DL
/-! ### matrices of chains -/
abbrev Mt := Int × Int × Int × Int × Int
def ml (m : Mt) : List Int := [m.1, m.2.1, m.2.2.1, m.2.2.2.1, m.2.2.2.2]
def detM (m : Mt) : Int := m.1 * m.2.2.2.1 - m.2.1 * m.2.2.1
/-! common divisors -/
def foldG (ns : List Int) : Nat := ns.foldl (fun g n => Nat.gcd g n.natAbs) 0
def IsM (m : Mt) : Prop := 1 ≤ m.2.2.2.2 ∧ detM m = m.2.2.2.2 * m.2.2.2.2 ∧ foldG (ml m) = 1
/-! the way back, scaled, crossed -/
/-! pixels that are led without rounding -/
end Tp
namespace Tp
open PySem PySem.Spec PyProof.Rows L2 DL
def BdM (n : Nat) (m : Mt) : Prop := Bd n m.1 ∧ Bd n m.2.1 ∧ Bd n m.2.2.1 ∧ Bd n m.2.2.2.1 ∧ Bd n m.2.2.2.2
theorem BdM.up {n k : Nat} {m : Mt} (b : BdM n m) (h : n ≤ k) : BdM k m := ⟨b.1.up h, b.2.1.up h, b.2.2.1.up h, b.2.2.2.1.up h, b.2.2.2.2.up h⟩
end Tp
namespace Tp
open PySem PySem.Spec PyProof.Rows L2 DL
/-! ### fewest shears -/
instance (m : Mt) : Decidable (IsM m) := by unfold IsM; infer_instance
instance (n : Nat) (m : Mt) : Decidable (BdM n m) := by unfold BdM Bd; infer_instance
end Tp
namespace Tp
open PySem PySem.Spec PyProof.Rows L2 DL
/-! ### scales: each pixel to the nearest place -/
structure Sc (a b n : Int) : Prop where
  n1 : 1 ≤ n
  n2 : n ≤ 1000000000000000000000000000000
  a1 : -1000000000000000000000000000000 ≤ a
  a2 : a ≤ 1000000000000000000000000000000
  b1 : -1000000000000000000000000000000 ≤ b
  b2 : b ≤ 1000000000000000000000000000000
  s : n * n ≤ a * a + b * b
theorem bd_30 {x : Int} (h : -1000000000000000000000000000000 ≤ x ∧ x ≤ 1000000000000000000000000000000) : Bd 100 x := by unfold Bd; omega
theorem Sc.ba {a b n : Int} (h : Sc a b n) : Bd 100 a := bd_30 ⟨h.a1, h.a2⟩
theorem Sc.bb {a b n : Int} (h : Sc a b n) : Bd 100 b := bd_30 ⟨h.b1, h.b2⟩
theorem Sc.bn {a b n : Int} (h : Sc a b n) : Bd 100 n := bd_30 ⟨by have := h.n1; omega, h.n2⟩
theorem Sc.np {a b n : Int} (h : Sc a b n) : 0 < n := by have := h.n1; omega
theorem sc_great {a b r : Int} (h1 : 0 ≤ a ∧ a < 10 ^ (Int.toNat 30)) (h2 : 0 ≤ b ∧ b < 10 ^ (Int.toNat 29)) (h3 : 0 ≤ r ∧ r < 9) : Sc (10 ^ (Int.toNat 30) - a) (10 ^ (Int.toNat 29) + b) (1 + r) := by
  have e1 : (10 : Int) ^ (Int.toNat 30) = 1000000000000000000000000000000 := by decide +kernel
  have e2 : (10 : Int) ^ (Int.toNat 29) = 100000000000000000000000000000 := by decide +kernel
  rw [e1] at h1 ⊢
  rw [e2] at h2 ⊢
  refine ⟨by omega, by omega, by omega, by omega, by omega, by omega, ?_⟩
  have s1 := sq_nn (1000000000000000000000000000000 - a)
  have s2 : 100000000000000000000000000000 * 100000000000000000000000000000 ≤ (100000000000000000000000000000 + b) * (100000000000000000000000000000 + b) := Int.mul_le_mul (by omega) (by omega) (by omega) (by omega)
  have s3 : (1 + r) * (1 + r) ≤ 9 * 9 := Int.mul_le_mul (by omega) (by omega) (by omega) (by omega)
  omega
end Tp
namespace Tp
open PySem PySem.Spec PyProof.Rows L2 DL
/-! ### three shears -/
def shC (p q : Int) (o : Bool) : List Stp := if o then [(true, -q, p), (false, 2 * p * q, p * p + q * q), (true, -q, p)] else [(false, q, p), (true, -(2 * p * q), p * p + q * q), (false, q, p)]
theorem shC_len (p q : Int) (o : Bool) : (shC p q o).length = 3 := by cases o <;> rfl
def rt2 (j : Nat) (v : Int × Int) : Int × Int := (rtX j v.1 v.2, rtY j v.1 v.2)
@[irreducible] def shV (p q k : Int) (o : Bool) (x y : Int) : Int × Int := rt2 k.toNat (ledN (shC p q o) (x, y))
@[irreducible] def usV (p q k : Int) (o : Bool) (x y : Int) : Int × Int := unlN (shC p q o) (rt2 (-k % 4).toNat (x, y))
theorem tn_one {r : Int} (h0 : 0 ≤ r) (h1 : r < 4) : Tn 1 0 r := ⟨by decide, by decide, by decide, by decide, by decide, by decide, h0, by omega⟩
end Tp
namespace Tp
open PySem PySem.Spec PyProof.Rows L2 DL
/-! ### ways -/
abbrev Trn := Int × Int × Int
def TnT (t : Trn) : Prop := Tn t.1 t.2.1 t.2.2
def KW (t : Trn) : Prop := TnT t ∧ keepsP t.1 t.2.1
def bkT (t : Trn) : Trn := (t.1, -t.2.1, -t.2.2 % 4)
theorem tnT_bk {t : Trn} (h : TnT t) : TnT (bkT t) := tn_bk2 h
theorem kw_bk {t : Trn} (h : KW t) : KW (bkT t) := by
  refine ⟨tnT_bk h.1, ?_⟩
  have h2 : t.1 = (if t.2.1 < 0 then -t.2.1 else t.2.1) + 1 := h.2
  show t.1 = (if -t.2.1 < 0 then - -t.2.1 else -t.2.1) + 1
  split at h2 <;> split <;> omega
/-! how far an image may lie -/
theorem kw_tn {l : List Trn} (h : ∀ t ∈ l, KW t) : ∀ t ∈ l, TnT t := fun t ht => (h t ht).1
theorem kw_rev {l : List Trn} (h : ∀ t ∈ l, KW t) : ∀ t ∈ l.reverse.map bkT, KW t := fun t ht => by
  obtain ⟨s, hs, rfl⟩ := List.mem_map.mp ht
  exact kw_bk (h s (List.mem_reverse.mp hs))
end Tp
namespace Tp
open PySem PySem.Spec PyProof.Rows L2 DL
/-! ### six-cornered turns -/
structure Sx (p q k : Int) : Prop where
  p1 : -1000000000000000 ≤ p
  p2 : p ≤ 1000000000000000
  q1 : -1000000000000000 ≤ q
  q2 : q ≤ 1000000000000000
  d1 : -1000000000000000 ≤ p - q
  d2 : p - q ≤ 1000000000000000
  o : (p + q) % 3 ≠ 0
  g : Nat.gcd p.natAbs q.natAbs = 1
  k1 : 0 ≤ k
  k2 : k ≤ 5
theorem Sx.bp {p q k : Int} (h : Sx p q k) : Bd 50 p := by have := h.p1; have := h.p2; unfold Bd; omega
theorem Sx.bq {p q k : Int} (h : Sx p q k) : Bd 50 q := by have := h.q1; have := h.q2; unfold Bd; omega
theorem Sx.b3 {p q k : Int} (h : Sx p q k) : Bd 3 k := by have := h.k1; have := h.k2; unfold Bd; omega
def r6X (k : Nat) (x y : Int) : Int := match k with | 0 => x | 1 => x - y | 2 => -y | 3 => -x | 4 => y - x | _ => y
def r6Y (k : Nat) (x y : Int) : Int := match k with | 0 => y | 1 => x | 2 => x - y | 3 => -y | 4 => -x | _ => y - x
theorem six {k : Int} (h : 0 ≤ k ∧ k ≤ 5) : k = 0 ∨ k = 1 ∨ k = 2 ∨ k = 3 ∨ k = 4 ∨ k = 5 := by omega
@[irreducible] def sz (p q : Int) : Int := p * p - p * q + q * q
theorem sz_eq (p q : Int) : sz p q = p * p - p * q + q * q := by unfold sz; rfl
def sqA (p q : Int) : Int := p * p - q * q
def sqB (p q : Int) : Int := p * q + q * p - q * q
@[irreducible] def spX (p q k x y : Int) : Int := r6X k.toNat (sqA p q * x - sqB p q * y) (sqA p q * y + sqB p q * x - sqB p q * y)
@[irreducible] def spY (p q k x y : Int) : Int := r6Y k.toNat (sqA p q * x - sqB p q * y) (sqA p q * y + sqB p q * x - sqB p q * y)
/-! the hexagon about (0, 0) -/
def HexC (c x y : Int) : Prop := (-c ≤ 2 * x - y ∧ 2 * x - y ≤ c) ∧ (-c ≤ 2 * y - x ∧ 2 * y - x ≤ c) ∧ -c ≤ x + y ∧ x + y ≤ c
def HexS (c x y : Int) : Prop := (-c < 2 * x - y ∧ 2 * x - y < c) ∧ (-c < 2 * y - x ∧ 2 * y - x < c) ∧ -c < x + y ∧ x + y < c
theorem HexC.r1 {c x y : Int} (h : HexC c x y) : HexC c (x - y) x := by unfold HexC at *; omega
theorem HexS.r1 {c x y : Int} (h : HexS c x y) : HexS c (x - y) x := by unfold HexS at *; omega
theorem HexS.neg {c x y : Int} (h : HexS c x y) : HexS c (-x) (-y) := by unfold HexS at *; omega
def mxI (f h : Int) : Int := if h > f then h else f
def mnI (f h : Int) : Int := if h < f then h else f
@[irreducible] def hexI (c X Y : Int) : Int × Int :=
  if 2 * mxI (X - c * (X / c)) (Y - c * (Y / c)) - mnI (X - c * (X / c)) (Y - c * (Y / c)) < c ∧ X - c * (X / c) + (Y - c * (Y / c)) < c then (X / c, Y / c)
  else if 2 * mnI (X - c * (X / c)) (Y - c * (Y / c)) > mxI (X - c * (X / c)) (Y - c * (Y / c)) then (X / c + 1, Y / c + 1)
  else if X - c * (X / c) > Y - c * (Y / c) then (X / c + 1, Y / c) else (X / c, Y / c + 1)
end Tp
namespace Tp
open PySem PySem.Spec PyProof.Rows L2 DL
/-! ### six-cornered images -/
theorem gcd_bez {p q s t : Int} (h : s * p + t * q = 1) : Nat.gcd p.natAbs q.natAbs = 1 := by
  have d1 : ((Nat.gcd p.natAbs q.natAbs : Nat) : Int) ∣ p := Int.ofNat_dvd_left.mpr (Nat.gcd_dvd_left _ _)
  have d2 : ((Nat.gcd p.natAbs q.natAbs : Nat) : Int) ∣ q := Int.ofNat_dvd_left.mpr (Nat.gcd_dvd_right _ _)
  have d3 : ((Nat.gcd p.natAbs q.natAbs : Nat) : Int) ∣ 1 := by
    rw [← h]
    exact Int.dvd_add (Int.dvd_mul_of_dvd_right d1) (Int.dvd_mul_of_dvd_right d2)
  have := Int.le_of_dvd (by decide) d3
  have g0 : Nat.gcd p.natAbs q.natAbs ≠ 0 := fun z => by
    rw [z] at d3
    have := Int.zero_dvd.mp d3
    cases this
  omega
@[irreducible] def siX (p q k x y : Int) : Int := (hexI (sz p q) (spX p q k x y) (spY p q k x y)).1
@[irreducible] def siY (p q k x y : Int) : Int := (hexI (sz p q) (spX p q k x y) (spY p q k x y)).2
/-! the sixths -/
theorem sx_rot {p q k : Int} (h : Sx p q k) (j : Int) : Sx p q ((k + j) % 6) := ⟨h.p1, h.p2, h.q1, h.q2, h.d1, h.d2, h.o, h.g, by omega, by omega⟩
/-! back -/
theorem sx_bk {p q k : Int} (h : Sx p q k) : Sx (p - q) (-q) (-k % 6) := by
  have := h.o
  have := h.p1
  have := h.p2
  have := h.q1
  have := h.q2
  have := h.d1
  have := h.d2
  obtain ⟨s, t, b⟩ := bez h.g
  exact ⟨by omega, by omega, by omega, by omega, by omega, by omega, by omega, gcd_bez (s := s) (t := -(s + t)) (by rw [← b]; grind), by omega, by omega⟩
/-! kin: u times a sixth -/
theorem sx_kin {p q k : Int} (h : Sx p q k) (j : Nat) (l : Int) (hl : 0 ≤ l ∧ l ≤ 5) : Sx (r6X j p q) (r6Y j p q) l := by
  have := h.o
  have := h.p1
  have := h.p2
  have := h.q1
  have := h.q2
  have := h.d1
  have := h.d2
  obtain ⟨s, t, b⟩ := bez h.g
  match j with
  | 0 => show Sx p q l; exact ⟨h.p1, h.p2, h.q1, h.q2, h.d1, h.d2, h.o, h.g, hl.1, hl.2⟩
  | 1 => exact ⟨by show _ ≤ p - q; omega, by show p - q ≤ _; omega, by show _ ≤ p; omega, by show p ≤ _; omega, by show _ ≤ p - q - p; omega, by show p - q - p ≤ _; omega, by show (p - q + p) % 3 ≠ 0; omega, gcd_bez (p := p - q) (q := p) (s := -t) (t := s + t) (by rw [← b]; grind), hl.1, hl.2⟩
  | 2 => exact ⟨by show _ ≤ -q; omega, by show -q ≤ _; omega, by show _ ≤ p - q; omega, by show p - q ≤ _; omega, by show _ ≤ -q - (p - q); omega, by show -q - (p - q) ≤ _; omega, by show (-q + (p - q)) % 3 ≠ 0; omega, gcd_bez (p := -q) (q := p - q) (s := -(s + t)) (t := s) (by rw [← b]; grind), hl.1, hl.2⟩
  | 3 => exact ⟨by show _ ≤ -p; omega, by show -p ≤ _; omega, by show _ ≤ -q; omega, by show -q ≤ _; omega, by show _ ≤ -p - -q; omega, by show -p - -q ≤ _; omega, by show (-p + -q) % 3 ≠ 0; omega, gcd_bez (p := -p) (q := -q) (s := -s) (t := -t) (by rw [← b]; grind), hl.1, hl.2⟩
  | 4 => exact ⟨by show _ ≤ q - p; omega, by show q - p ≤ _; omega, by show _ ≤ -p; omega, by show -p ≤ _; omega, by show _ ≤ q - p - -p; omega, by show q - p - -p ≤ _; omega, by show (q - p + -p) % 3 ≠ 0; omega, gcd_bez (p := q - p) (q := -p) (s := t) (t := -(s + t)) (by rw [← b]; grind), hl.1, hl.2⟩
  | _ + 5 => exact ⟨by show _ ≤ q; omega, by show q ≤ _; omega, by show _ ≤ q - p; omega, by show q - p ≤ _; omega, by show _ ≤ q - (q - p); omega, by show q - (q - p) ≤ _; omega, by show (q + (q - p)) % 3 ≠ 0; omega, gcd_bez (p := q) (q := q - p) (s := s + t) (t := -s) (by rw [← b]; grind), hl.1, hl.2⟩
end Tp
namespace Tp
open PySem PySem.Spec PyProof.Rows L2 DL
/-! ### a number without a common divisor is never far -/
/-! what the defs of six-cornered turns and the laws' helpers promise -/
theorem Sx.bc {p q k : Int} (h : Sx p q k) : Bd 110 (sz p q) := by rw [sz_eq]; exact (((h.bp.mul h.bp).sub (h.bp.mul h.bq)).add (h.bq.mul h.bq)).up (by decide)
end Tp
namespace Tp
open PySem PySem.Spec PyProof.Rows L2 DL
/-! ### six-cornered turns: what is near -/
/-! moved pixels -/
end Tp
namespace Tp
open PySem PySem.Spec PyProof.Rows L2 DL
/-! ### six-cornered: the laws' own words -/
/-! nearest -/
end Tp
namespace Tp
open PySem PySem.Spec PyProof.Rows L2 DL
/-! ### scales: which classes meet -/
def cmT (a b n : Int) : Int := ((Nat.gcd ((Nat.gcd a.natAbs b.natAbs : Nat) : Int).natAbs n.natAbs : Nat) : Int)
def cmN (a b n : Int) : Int := ((Nat.gcd (n / cmT a b n).natAbs (a / cmT a b n * (a / cmT a b n) + b / cmT a b n * (b / cmT a b n)).natAbs : Nat) : Int)
theorem cmT_dvd (a b n : Int) : cmT a b n ∣ a ∧ cmT a b n ∣ b ∧ cmT a b n ∣ n := by
  unfold cmT
  have h1 : Nat.gcd ((Nat.gcd a.natAbs b.natAbs : Nat) : Int).natAbs n.natAbs ∣ Nat.gcd a.natAbs b.natAbs := Nat.gcd_dvd_left _ _
  refine ⟨Int.ofNat_dvd_left.mpr (Nat.dvd_trans h1 (Nat.gcd_dvd_left _ _)), Int.ofNat_dvd_left.mpr (Nat.dvd_trans h1 (Nat.gcd_dvd_right _ _)), Int.ofNat_dvd_left.mpr (Nat.gcd_dvd_right _ _)⟩
theorem cmT_pos {a b n : Int} (h : 1 ≤ n) : 1 ≤ cmT a b n := by
  unfold cmT
  have := Nat.gcd_pos_of_pos_right ((Nat.gcd a.natAbs b.natAbs : Nat) : Int).natAbs (show 0 < n.natAbs by omega)
  omega
/-- k: Y is k X, modulo N, for the multiples of a + b i -/
def IsK (a b n k : Int) : Prop := 0 ≤ k ∧ k < cmN a b n ∧ (b / cmT a b n * k + a / cmT a b n) % cmN a b n = 0
/-! the box of what is rounded to 0, together with what is r further -/
end Tp
namespace Tp
open PySem PySem.Spec PyProof.Rows L2 DL
/-! ### scales: the pixels that are led to one -/
def ltP (s t : Int × Int) : Prop := s.1 < t.1 ∨ (s.1 = t.1 ∧ s.2 < t.2)
instance (s t : Int × Int) : Decidable (ltP s t) := by unfold ltP; infer_instance
end Tp
namespace Tp
open PySem PySem.Spec PyProof.Rows L2 DL
/-! ### scales: what the defs promise -/
theorem cmN_le {a b n : Int} (h : 1 ≤ n) : cmT a b n ≤ n ∧ cmN a b n ≤ n := by
  obtain ⟨t1, t2, t3⟩ := cmT_dvd a b n
  have tp := cmT_pos (a := a) (b := b) h
  refine ⟨Int.le_of_dvd (by omega) t3, ?_⟩
  have e := Int.mul_ediv_cancel' t3
  have np : 0 < n / cmT a b n := by
    rcases Int.lt_or_le 0 (n / cmT a b n) with z | z
    · exact z
    · have := Int.mul_le_mul_of_nonneg_left z (show 0 ≤ cmT a b n by omega)
      omega
  have d : cmN a b n ∣ n / cmT a b n := by
    unfold cmN
    exact Int.ofNat_dvd_left.mpr (Nat.gcd_dvd_left _ _)
  have l1 := Int.le_of_dvd np d
  have l2 : n / cmT a b n ≤ n := Int.ediv_le_self _ (by omega)
  omega
theorem IsK.bk {a b n k : Int} (h : 1 ≤ n) (bn : Bd 100 n) (hk : IsK a b n k) : Bd 100 k := Bd.of_le hk.1 (show k ≤ n by have := hk.2.1; have := (cmN_le (a := a) (b := b) h).2; omega) bn
end Tp
namespace Tp
open PySem PySem.Spec PyProof.Rows L2 DL
/-! ### scales: the law of sources -/
theorem atI_0 (x : D) (l : List D) : atI (x :: l) 0 = some x := atI_nat (xs := x :: l) (j := 0) rfl
end Tp
namespace Tp
open PySem PySem.Spec PyProof.Rows L2 DL
/-! ### two bare pixels are never neighbours -/
end Tp
namespace Tp
open PySem PySem.Spec PyProof.Rows L2 DL
/-! ### bare pixels, meetings and sources along a row -/
end Tp
namespace Tp
open PySem PySem.Spec PyProof.Rows L2 DL
/-! ### scales that are turns: the lattice, meeting numbers -/
end Tp
namespace Tp
open PySem PySem.Spec PyProof.Rows L2 DL
/-! ### scales that are turns: what the program says of both -/
end Tp
namespace Tp
open PySem PySem.Spec PyProof.Rows L2 DL
/-! ### lattice points in a box -/
end Tp
namespace Tp
open PySem PySem.Spec PyProof.Rows L2 DL
/-! ### the meeting numbers of a scale's kin -/
def hiR (n r : Int) : Int := if (n - 1) / 2 - r < (n - 1) / 2 then (n - 1) / 2 - r else (n - 1) / 2
end Tp
namespace Tp
open PySem PySem.Spec PyProof.Rows L2 DL
/-! ### a scale's kin -/
end Tp
namespace Tp
open PySem PySem.Spec PyProof.Rows L2 DL
/-! ### the meeting numbers of a scale as boxes -/
end Tp
namespace Tp
open PySem PySem.Spec PyProof.Rows L2 DL
/-! ### k87: bounds, more than once around, whole factors -/
end Tp
namespace Tp
open PySem PySem.Spec PyProof.Rows L2 DL
/-! ### whole factors: one class, no meeting, one source; k87's helpers -/
end Tp
namespace Tp
open PySem PySem.Spec PyProof.Rows L2 DL
/-! ### any values: kinds, texts -/
def isIntD : D → Bool
  | .int _ => true
  | .bl _ => true
  | _ => false
def isBlD : D → Bool
  | .bl _ => true
  | _ => false
def isTupD : D → Bool
  | .tup _ => true
  | _ => false
def isLstD : D → Bool
  | .lst _ => true
  | _ => false
def isStrD : D → Bool
  | .str _ => true
  | _ => false
def wholeD : D → Bool
  | .int _ => true
  | _ => false
structure AnyV (K : PySem.W.Frag) (d : D) : Prop where
  ex : ∃ t, TyV K d t ∧ PySem.W.kitOne K t (.type "int") = some (isIntD d) ∧ PySem.W.kitOne K t (.type "bool") = some (isBlD d) ∧ PySem.W.kitOne K t (.type "tuple") = some (isTupD d) ∧ PySem.W.kitOne K t (.type "list") = some (isLstD d) ∧ PySem.W.kitOne K t (.type "str") = some (isStrD d)
def pvD : D → Bool
  | .non => true
  | .bl _ => true
  | .int _ => true
  | .str _ => true
  | .tup _ => true
  | .lst _ => true
  | _ => false
theorem kt_NoneType : kitB "NoneType" "int" = some false ∧ kitB "NoneType" "bool" = some false ∧ kitB "NoneType" "tuple" = some false ∧ kitB "NoneType" "list" = some false ∧ kitB "NoneType" "str" = some false := by decide +kernel
theorem kt_bool : kitB "bool" "int" = some true ∧ kitB "bool" "bool" = some true ∧ kitB "bool" "tuple" = some false ∧ kitB "bool" "list" = some false ∧ kitB "bool" "str" = some false := by decide +kernel
theorem kt_int : kitB "int" "int" = some true ∧ kitB "int" "bool" = some false ∧ kitB "int" "tuple" = some false ∧ kitB "int" "list" = some false ∧ kitB "int" "str" = some false := by decide +kernel
theorem kt_str : kitB "str" "int" = some false ∧ kitB "str" "bool" = some false ∧ kitB "str" "tuple" = some false ∧ kitB "str" "list" = some false ∧ kitB "str" "str" = some true := by decide +kernel
theorem kt_tuple : kitB "tuple" "int" = some false ∧ kitB "tuple" "bool" = some false ∧ kitB "tuple" "tuple" = some true ∧ kitB "tuple" "list" = some false ∧ kitB "tuple" "str" = some false := by decide +kernel
theorem kt_list : kitB "list" "int" = some false ∧ kitB "list" "bool" = some false ∧ kitB "list" "tuple" = some false ∧ kitB "list" "list" = some true ∧ kitB "list" "str" = some false := by decide +kernel
theorem kt_dict : kitB "dict" "int" = some false ∧ kitB "dict" "bool" = some false ∧ kitB "dict" "tuple" = some false ∧ kitB "dict" "list" = some false ∧ kitB "dict" "str" = some false := by decide +kernel
theorem any_pv {K : PySem.W.Frag} {d : D} (h : pvD d = true) : AnyV K d := by
  cases d with
  | non => exact ⟨_, ⟨_, rfl, rfl⟩, kit_ty kt_NoneType.1, kit_ty kt_NoneType.2.1, kit_ty kt_NoneType.2.2.1, kit_ty kt_NoneType.2.2.2.1, kit_ty kt_NoneType.2.2.2.2⟩
  | bl b => exact ⟨_, ⟨_, rfl, rfl⟩, kit_ty kt_bool.1, kit_ty kt_bool.2.1, kit_ty kt_bool.2.2.1, kit_ty kt_bool.2.2.2.1, kit_ty kt_bool.2.2.2.2⟩
  | int b => exact ⟨_, ⟨_, rfl, rfl⟩, kit_ty kt_int.1, kit_ty kt_int.2.1, kit_ty kt_int.2.2.1, kit_ty kt_int.2.2.2.1, kit_ty kt_int.2.2.2.2⟩
  | str b => exact ⟨_, ⟨_, rfl, rfl⟩, kit_ty kt_str.1, kit_ty kt_str.2.1, kit_ty kt_str.2.2.1, kit_ty kt_str.2.2.2.1, kit_ty kt_str.2.2.2.2⟩
  | tup b => exact ⟨_, ⟨_, rfl, rfl⟩, kit_ty kt_tuple.1, kit_ty kt_tuple.2.1, kit_ty kt_tuple.2.2.1, kit_ty kt_tuple.2.2.2.1, kit_ty kt_tuple.2.2.2.2⟩
  | lst b => exact ⟨_, ⟨_, rfl, rfl⟩, kit_ty kt_list.1, kit_ty kt_list.2.1, kit_ty kt_list.2.2.1, kit_ty kt_list.2.2.2.1, kit_ty kt_list.2.2.2.2⟩
  | raw b => cases h
  | ext b => cases h
  | scr b => cases h
theorem any_dic {K : PySem.W.Frag} {kvs : List (Key × Int)} : AnyV K (dicD kvs) := ⟨_, kty_dic, kit_ty kt_dict.1, kit_ty kt_dict.2.1, kit_ty kt_dict.2.2.1, kit_ty kt_dict.2.2.2.1, kit_ty kt_dict.2.2.2.2⟩
/-- its parts, if it is a tuple, as well -/
structure AnyT (K : PySem.W.Frag) (d : D) : Prop where
  v : AnyV K d
  p : ∀ l, d = .tup l → ∀ x ∈ l, AnyV K x
def ptD : D → Bool
  | .tup l => l.all pvD
  | d => pvD d
theorem any_pt {K : PySem.W.Frag} {d : D} (h : ptD d = true) : AnyT K d := by
  refine ⟨any_pv ?_, fun l e x hx => ?_⟩
  · cases d <;> first | rfl | exact h
  · subst e
    exact any_pv (List.all_eq_true.mp h x hx)
theorem any_ext {K : PySem.W.Frag} {Q : Hp → V → Prop} (h : AnyV K (.ext Q)) : AnyT K (.ext Q) := ⟨h, fun _ e => nomatch e⟩
/-! ### what is shown -/
mutual
def shQ : D → Prop
  | .int i => i.natAbs < 2 ^ 1900
  | .str x => (reprText x).length ≤ 90000
  | .tup l => shQL l
  | .lst l => shQL l
  | .non => True
  | .bl _ => True
  | .raw _ => False
  | .ext _ => False
  | .scr _ => False
def shQL : List D → Prop
  | [] => True
  | d :: ds => shQ d ∧ shQL ds
end
mutual
def dpD : D → Nat
  | .tup l => dpL l + 1
  | .lst l => dpL l + 1
  | _ => 0
def dpL : List D → Nat
  | [] => 0
  | d :: ds => max (dpD d) (dpL ds)
end
mutual
def wtS : D → Nat
  | .int _ => 1930
  | .str x => (reprText x).length
  | .tup l => wtL l + 3
  | .lst l => wtL l + 3
  | _ => 8
def wtL : List D → Nat
  | [] => 0
  | d :: ds => wtS d + 2 + wtL ds
end
section
variable {P : Program} {w : World} {K : PySem.W.Frag}
mutual
theorem shq_of : ∀ d : D, shQ d → ∃ t n, ShD P w K d t n (wtS d) ∧ n ≤ dpD d
  | .non, _ => ⟨_, 0, ⟨rfl, rfl, Nat.le_refl _⟩, Nat.zero_le _⟩
  | .bl b, _ => ⟨_, 0, ⟨rfl, rfl, Nat.le_refl _⟩, Nat.zero_le _⟩
  | .int i, h => ⟨_, 0, ⟨rfl, by simpa only [shQ] using h, rfl, Nat.le_refl _⟩, Nat.zero_le _⟩
  | .str x, h => ⟨_, 0, ⟨rfl, Nat.le_refl _, rfl, Nat.le_trans (show (reprText x).length ≤ 90000 by simpa only [shQ] using h) (by decide)⟩, Nat.zero_le _⟩
  | .tup l, h => by
    obtain ⟨ts, n, h1, h2⟩ := shql_of l (by simpa only [shQ] using h)
    exact ⟨_, _, ⟨ts, n, wtL l, h1, rfl, rfl, by simp only [wtS]; omega⟩, by simp only [dpD]; omega⟩
  | .lst l, h => by
    obtain ⟨ts, n, h1, h2⟩ := shql_of l (by simpa only [shQ] using h)
    exact ⟨_, _, ⟨ts, n, wtL l, h1, rfl, rfl, by simp only [wtS]; omega⟩, by simp only [dpD]; omega⟩
  | .raw _, h => by simp only [shQ] at h
  | .ext _, h => by simp only [shQ] at h
  | .scr _, h => by simp only [shQ] at h
theorem shql_of : ∀ l : List D, shQL l → ∃ ts n, ShDL P w K l ts n (wtL l) ∧ n ≤ dpL l
  | [], _ => ⟨[], 0, ⟨rfl, rfl⟩, Nat.zero_le _⟩
  | d :: ds, h => by
    rw [shQL] at h
    obtain ⟨t, j, h1, h2⟩ := shq_of d h.1
    obtain ⟨ts, k, h3, h4⟩ := shql_of ds h.2
    exact ⟨_, _, ⟨t, ts, j, k, wtS d, wtL ds, rfl, h1, h3, rfl, by simp only [wtL]; omega⟩, by simp only [dpL]; omega⟩
end
end
/-- d is shown, in at most N signs -/
def Shw (P : Program) (w : World) (K : PySem.W.Frag) (d : D) (N : Nat) : Prop := ∃ t n m, ShD P w K d t n m ∧ n ≤ 8 ∧ m ≤ N
section
variable {P : Program} {w : World} {K : PySem.W.Frag}
theorem shw_q {d : D} {N : Nat} (h : shQ d) (h1 : dpD d ≤ 8) (h2 : wtS d ≤ N) : Shw P w K d N := by
  obtain ⟨t, n, h3, h4⟩ := shq_of (P := P) (w := w) (K := K) d h
  exact ⟨t, n, _, h3, by omega, h2⟩
theorem shw_dic0 {N : Nat} (h : 10 ≤ N) : Shw P w K (dicD []) N := ⟨_, 1, 10, ⟨shx_dic (fun _ z => nomatch z), by decide +kernel⟩, by decide, h⟩
end
/-! ### what values are -/
def wtB (n : Int) : D → Bool
  | .tup l => decide ((l.length : Int) = n) && l.all wholeD
  | _ => false
def tnB (p q k : Int) : Bool := decide (1 ≤ p ∧ p ≤ 1000000000000000 ∧ -p < q ∧ q < p ∧ 0 ≤ k ∧ k ≤ 3 ∧ (p + q) % 2 = 1 ∧ Nat.gcd p.natAbs q.natAbs = 1)
theorem tnB_iff {p q k : Int} : tnB p q k = true ↔ Tn p q k := by
  unfold tnB
  rw [decide_eq_true_iff]
  exact ⟨fun ⟨h1, h2, h3, h4, h5, h6, h7, h8⟩ => ⟨h1, h2, h3, h4, h8, h7, h5, h6⟩, fun h => ⟨h.p1, h.p2, h.q1, h.q2, h.k1, h.k2, h.o, h.g⟩⟩
def turnB : D → Bool
  | .tup [.int p, .int q, .int k] => tnB p q k
  | _ => false
def pixB (d : D) : Bool := wtB 2 d
theorem whole_int {d : D} (h : wholeD d = true) : ∃ i, d = .int i := by
  cases d <;> first | exact ⟨_, rfl⟩ | cases h
theorem all_whole : ∀ {l : List D}, l.all wholeD = true → ∃ ns : List Int, l = ns.map D.int
  | [], _ => ⟨[], rfl⟩
  | d :: ds, h => by
    rw [List.all_cons, Bool.and_eq_true] at h
    obtain ⟨i, rfl⟩ := whole_int h.1
    obtain ⟨ns, rfl⟩ := all_whole h.2
    exact ⟨i :: ns, rfl⟩
theorem wt_ints {d : D} {n : Int} (h : wtB n d = true) : ∃ ns : List Int, d = .tup (ns.map D.int) ∧ (ns.length : Int) = n := by
  cases d with
  | tup l =>
    rw [wtB, Bool.and_eq_true] at h
    obtain ⟨ns, rfl⟩ := all_whole h.2
    exact ⟨ns, rfl, by have := of_decide_eq_true h.1; rwa [List.length_map] at this⟩
  | _ => cases h
theorem wt2 {d : D} (h : pixB d = true) : ∃ x y, d = .tup [.int x, .int y] := by
  obtain ⟨ns, rfl, e⟩ := wt_ints h
  match ns, e with
  | [x, y], _ => exact ⟨x, y, rfl⟩
  | [], e => cases e
  | [_], e => cases e
  | _ :: _ :: _ :: _, e => simp at e; omega
theorem wt3 {d : D} (h : wtB 3 d = true) : ∃ x y z, d = .tup [.int x, .int y, .int z] := by
  obtain ⟨ns, rfl, e⟩ := wt_ints h
  match ns, e with
  | [x, y, z], _ => exact ⟨x, y, z, rfl⟩
  | [], e => cases e
  | [_], e => cases e
  | [_, _], e => cases e
  | _ :: _ :: _ :: _ :: _, e => simp at e; omega
theorem turnB_no {d : D} (h : wtB 3 d = false) : turnB d = false := by
  unfold turnB
  split
  · cases h
  · rfl
theorem tn_turnB {p q k : Int} (h : Tn p q k) : turnB (.tup [.int p, .int q, .int k]) = true := tnB_iff.mpr h
theorem wt_map : ∀ (l : List D), (l.map fun d => D.bl (wholeD d)) = (l.map wholeD).map D.bl := fun l => by rw [List.map_map]; rfl
theorem all_id (l : List D) : (l.map wholeD).all id = l.all wholeD := by
  induction l with
  | nil => rfl
  | cons d ds ih => rw [List.map_cons, List.all_cons, List.all_cons, ih]; rfl
/-! ### contracts of the checks over any values -/
def con_wholeA (K : PySem.W.Frag) : Con := fun ds S Q => ∃ d, ds = [d] ∧ AnyV K d ∧ Q (.bl (wholeD d)) S
def con_wtA (K : PySem.W.Frag) : Con := fun ds S Q => ∃ d n, ds = [d, .int n] ∧ AnyT K d ∧ (∀ l, d = .tup l → l.length ≤ 1000) ∧ Q (.bl (wtB n d)) S
def con_pixA (K : PySem.W.Frag) : Con := fun ds S Q => ∃ d, ds = [d] ∧ AnyT K d ∧ (∀ l, d = .tup l → l.length ≤ 1000) ∧ Q (.bl (pixB d)) S
def con_turnA (K : PySem.W.Frag) : Con := fun ds S Q => ∃ d, ds = [d] ∧ AnyT K d ∧ (∀ l, d = .tup l → l.length ≤ 1000) ∧ Q (.bl (turnB d)) S
/-- any value that is handed to the program -/
structure Any (K : PySem.W.Frag) (d : D) : Prop where
  t : AnyT K d
  l : ∀ l, d = .tup l → l.length ≤ 1000
theorem Any.pt {K : PySem.W.Frag} {d : D} (h : ptD d = true) (k : ∀ l, d = .tup l → l.length ≤ 1000 := by intro l e; first | (cases e; decide) | cases e) : Any K d := ⟨any_pt h, k⟩
theorem Any.ext {K : PySem.W.Frag} {Q : Hp → V → Prop} (h : AnyV K (.ext Q)) : Any K (.ext Q) := ⟨any_ext h, fun _ e => nomatch e⟩
theorem Any.i3 {K : PySem.W.Frag} {p q k : Int} : Any K (.tup [.int p, .int q, .int k]) := .pt rfl (fun l e => by cases e; exact Nat.le_add_left 3 997)
theorem Any.i2 {K : PySem.W.Frag} {p q : Int} : Any K (.tup [.int p, .int q]) := .pt rfl (fun l e => by cases e; exact Nat.le_add_left 2 998)
def con_chkX (K : PySem.W.Frag) (b : D → Bool) (C : Addr) : ConX := fun ds S Q R => ∃ d, ds = [d] ∧ Any K d ∧ (b d = false → R ⟨.ref C, none⟩ S) ∧ (b d = true → Q .non S)
/-! ### errors told apart -/
/-! ### plain values, looked at by the kernel -/
mutual
def shQb : D → Bool
  | .int i => decide (i.natAbs < 2 ^ 1900)
  | .str x => decide ((reprText x).length ≤ 90000)
  | .tup l => shQbL l
  | .lst l => shQbL l
  | .non => true
  | .bl _ => true
  | .raw _ => false
  | .ext _ => false
  | .scr _ => false
def shQbL : List D → Bool
  | [] => true
  | d :: ds => shQb d && shQbL ds
end
mutual
theorem shQb_of : ∀ d : D, shQb d = true → shQ d
  | .int i, h => by simpa only [shQ] using of_decide_eq_true (show decide (i.natAbs < 2 ^ 1900) = true by simpa only [shQb] using h)
  | .str x, h => by simpa only [shQ] using of_decide_eq_true (show decide ((reprText x).length ≤ 90000) = true by simpa only [shQb] using h)
  | .tup l, h => by simpa only [shQ] using shQbL_of l (by simpa only [shQb] using h)
  | .lst l, h => by simpa only [shQ] using shQbL_of l (by simpa only [shQb] using h)
  | .non, _ => by simp only [shQ]
  | .bl _, _ => by simp only [shQ]
  | .raw _, h => by simp only [shQb] at h; cases h
  | .ext _, h => by simp only [shQb] at h; cases h
  | .scr _, h => by simp only [shQb] at h; cases h
theorem shQbL_of : ∀ l : List D, shQbL l = true → shQL l
  | [], _ => by simp only [shQL]
  | d :: ds, h => by
    simp only [shQbL, Bool.and_eq_true] at h
    rw [shQL]
    exact ⟨shQb_of d h.1, shQbL_of ds h.2⟩
end
/-- plain, shown in N signs at most, no long tuple -/
def plB (N : Nat) (d : D) : Bool := ptD d && shQb d && decide (wtS d ≤ N) && decide (dpD d ≤ 8) && (match d with | .tup l => decide (l.length ≤ 1000) | _ => true)
theorem plB_any {K : PySem.W.Frag} {N : Nat} {d : D} (h : plB N d = true) : Any K d := by
  unfold plB at h
  simp only [Bool.and_eq_true] at h
  refine .pt h.1.1.1.1 fun l e => ?_
  subst e
  exact of_decide_eq_true h.2
theorem plB_shw {P : Program} {w : World} {K : PySem.W.Frag} {N : Nat} {d : D} (h : plB N d = true) : Shw P w K d N := by
  unfold plB at h
  simp only [Bool.and_eq_true] at h
  exact shw_q (shQb_of d h.1.1.1.2) (of_decide_eq_true h.1.2) (of_decide_eq_true h.1.1.2)
end Tp
namespace Tp
open PySem PySem.Spec PyProof.Rows L2 DL
/-! ### k06: what is told -/
/-! ### the eight answers -/
end Tp
namespace Tp
open PySem PySem.Spec PyProof.Rows L2 DL
/-! ### k18: what is told of losses -/
end Tp
namespace Tp
open PySem PySem.Spec PyProof.Rows L2 DL
/-! ### arguments that are checked one behind the other -/
/-- bounds of a pair -/
def PB (B : Nat) (d : D) : Prop := ∀ x y : Int, d = .tup [.int x, .int y] → Bd B x ∧ Bd B y
def i2BB (B : Nat) : D → Bool
  | .tup [.int a, .int b] => decide (a.natAbs < 2 ^ B ∧ b.natAbs < 2 ^ B)
  | _ => true
theorem pB_of {B : Nat} {d : D} (h : i2BB B d = true) : PB B d := fun x y e => by
  subst e
  exact of_decide_eq_true (p := x.natAbs < 2 ^ B ∧ y.natAbs < 2 ^ B) h
theorem PB.up {A B : Nat} {d : D} (h : PB A d) (k : A ≤ B) : PB B d := fun x y e => ⟨(h x y e).1.up k, (h x y e).2.up k⟩
theorem pB_2 {B : Nat} {x y : Int} (bx : Bd B x) (by' : Bd B y) : PB B (.tup [.int x, .int y]) := fun _ _ e => by cases e; exact ⟨bx, by'⟩
/-! ### rests, of any value -/
def restB (p q : Int) : D → Bool
  | .tup [.int x, .int y] => isRb p q (x, y)
  | _ => false
theorem restB_no {p q : Int} {d : D} (h : pixB d = false) : restB p q d = false := by
  unfold restB
  split
  · cases h
  · rfl
def con_isrestA (K : PySem.W.Frag) : Con := fun ds S Q => ∃ (p q k : Int) (d : D), ds = [.tup [.int p, .int q, .int k], d] ∧ Tn p q k ∧ Any K d ∧ PB 1200 d ∧ Q (.bl (restB p q d)) S
/-! ### k11: what is told -/
end Tp
namespace Tp
open PySem PySem.Spec PyProof.Rows L2 DL
/-! ### errors with a field, told -/
/-! ### one turn checked first -/
/-! ### k28: what is told of misses -/
end Tp
namespace Tp
open PySem PySem.Spec PyProof.Rows L2 DL
/-! ### k24: what is told of losses and sources -/
theorem len_2 {l : List D} (h : ((l.length : Nat) : Int) = 2) : ∃ a b, l = [a, b] := by
  match l, h with
  | [a, b], _ => exact ⟨a, b, rfl⟩
  | [], h => exact absurd h (by decide)
  | [a], h => exact absurd h (by simp only [List.length_cons, List.length_nil]; omega)
  | a :: b :: c :: l, h => exact absurd h (by simp only [List.length_cons]; omega)
theorem len_3 {l : List D} (h : ((l.length : Nat) : Int) = 3) : ∃ a b c, l = [a, b, c] := by
  match l, h with
  | [a, b, c], _ => exact ⟨a, b, c, rfl⟩
  | [], h => exact absurd h (by decide)
  | [a], h => exact absurd h (by simp only [List.length_cons, List.length_nil]; omega)
  | [a, b], h => exact absurd h (by simp only [List.length_cons, List.length_nil]; omega)
  | a :: b :: c :: d :: l, h => exact absurd h (by simp only [List.length_cons]; omega)
end Tp
namespace Tp
open PySem PySem.Spec PyProof.Rows L2 DL
/-! ### k50: scales, of any value -/
section
variable {P : Program} {w : World} {K : PySem.W.Frag}
end
theorem bt_str : bootBuiltins "str" = some (.type "str") := by decide +kernel

end Tp
namespace Tp
open PySem PySem.Spec PyProof.Rows L2 DL
/-! ### k55: six-cornered turns, of any value -/
/-! strips, and what lies within -/
/-! contracts -/
/-! what is told -/
section
variable {P : Program} {w : World} {K : PySem.W.Frag}
end
end Tp
namespace Tp
open PySem PySem.Spec PyProof.Rows L2 DL
/-! ### k01: any thing, recognized -/
def flB : D → Bool
  | .tup l => flatOkL 8 l
  | _ => true
section
variable {P : Program} {w : World} {K : PySem.W.Frag}
end
theorem flatL_filter {n : Nat} (f : D → Bool) : ∀ l : List D, flatOkL n l = true → flatOkL n (l.filter f) = true
  | [], _ => rfl
  | d :: ds, h => by
    rw [flatOkL, Bool.and_eq_true] at h
    rw [List.filter_cons]
    split
    · rw [flatOkL, Bool.and_eq_true]
      exact ⟨h.1, flatL_filter f ds h.2⟩
    · exact flatL_filter f ds h.2
theorem filter_empty (f : D → Bool) : ∀ l : List D, (l.filter f).isEmpty = l.all fun d => !f d
  | [] => rfl
  | d :: ds => by
    rw [List.filter_cons, List.all_cons]
    cases h : f d with
    | true => rfl
    | false => simpa using filter_empty f ds
theorem whole_eq (l : List D) : (l.filter fun d => !wholeD d).isEmpty = l.all wholeD := by
  rw [filter_empty]
  congr 1
  funext d
  simp
theorem flt_step2 {α : Type} (f : α → Bool) {l : List α} {k : Nat} {v : α} (h : l[k]? = some v) : (l.take (k + 1)).filter f = (l.take k).filter f ++ if f v = true then [v] else [] := by
  rw [List.take_add_one, h, List.filter_append]
  congr 1
  simp only [Option.toList_some, List.filter_cons, List.filter_nil]
end Tp
namespace Tp
open PySem PySem.Spec PyProof.Rows L2 DL
/-! ### k07: rests, told of any thing -/
section
variable {P : Program} {w : World} {K : PySem.W.Frag}
end
theorem shw_b2 {P : Program} {w : World} {K : PySem.W.Frag} (a b : Bool) : Shw P w K (.lst [.bl a, .bl b]) 100 := shw_q (by simp only [shQ, shQL, and_true]) (Nat.le_of_ble_eq_true rfl) (Nat.le_of_ble_eq_true rfl)
end Tp
namespace Tp
open PySem PySem.Spec PyProof.Rows L2 DL
/-! ### ways: what turns come to, one behind the other -/
def mulL (x y : Int × Int × Int) : Int × Int × Int := (x.1 * y.1 - x.2.1 * y.2.1, x.1 * y.2.1 + x.2.1 * y.1, x.2.2 * y.2.2)
def lgT (t : Trn) : Int × Int × Int := (lgA t.1 t.2.1 t.2.2, lgB t.1 t.2.1 t.2.2, cc t.1 t.2.1)
def EqR (x y : Int × Int × Int) : Prop := x.1 * y.2.2 = y.1 * x.2.2 ∧ x.2.1 * y.2.2 = y.2.1 * x.2.2
theorem EqR.symm {x y : Int × Int × Int} (h : EqR x y) : EqR y x := ⟨h.1.symm, h.2.symm⟩
theorem EqR.tr {x y z : Int × Int × Int} (hy : 0 < y.2.2) (h : EqR x y) (k : EqR y z) : EqR x z := by
  obtain ⟨h1, h2⟩ := h
  obtain ⟨k1, k2⟩ := k
  refine ⟨Int.eq_of_mul_eq_mul_right (Int.ne_of_gt hy) ?_, Int.eq_of_mul_eq_mul_right (Int.ne_of_gt hy) ?_⟩
  · grind
  · grind
theorem EqR.mulr {x y : Int × Int × Int} (h : EqR x y) (z : Int × Int × Int) : EqR (mulL x z) (mulL y z) := by
  obtain ⟨h1, h2⟩ := h
  unfold EqR mulL
  dsimp only
  constructor <;> grind
theorem EqR.mull {x y : Int × Int × Int} (z : Int × Int × Int) (h : EqR x y) : EqR (mulL z x) (mulL z y) := by
  obtain ⟨h1, h2⟩ := h
  unfold EqR mulL
  dsimp only
  constructor <;> grind
theorem mulL_assoc (x y z : Int × Int × Int) : mulL (mulL x y) z = mulL x (mulL y z) := by
  unfold mulL
  dsimp only
  refine Prod.ext ?_ (Prod.ext ?_ ?_) <;> dsimp only <;> grind
theorem mulL_one (x : Int × Int × Int) : mulL x (1, 0, 1) = x := by
  unfold mulL
  dsimp only
  refine Prod.ext ?_ (Prod.ext ?_ ?_) <;> dsimp only <;> omega
theorem mulL_pos {x y : Int × Int × Int} (h : 0 < x.2.2) (k : 0 < y.2.2) : 0 < (mulL x y).2.2 := Int.mul_pos h k
theorem lgT_pos {t : Trn} (h : TnT t) : 0 < (lgT t).2.2 := cc_pos h
def sumL (l : List Trn) : Int × Int × Int := l.foldl (fun a t => mulL a (lgT t)) (1, 0, 1)
theorem sumL_app (l : List Trn) (t : Trn) : sumL (l ++ [t]) = mulL (sumL l) (lgT t) := by
  unfold sumL
  rw [List.foldl_append]
  rfl
theorem fold_pos : ∀ (l : List Trn) (x : Int × Int × Int), 0 < x.2.2 → (∀ t ∈ l, TnT t) → 0 < (l.foldl (fun a t => mulL a (lgT t)) x).2.2
  | [], _, h, _ => h
  | t :: l, x, h, k => fold_pos l _ (mulL_pos h (lgT_pos (k t List.mem_cons_self))) fun u hu => k u (List.mem_cons_of_mem _ hu)
theorem sumL_pos {l : List Trn} (h : ∀ t ∈ l, TnT t) : 0 < (sumL l).2.2 := fold_pos l _ (by decide) h
theorem lg_bk2 {p q k : Int} (h : Tn p q k) : lgA p (-q) (-k % 4) = lgA p q k ∧ lgB p (-q) (-k % 4) = -lgB p q k := by
  obtain ⟨h1, h2⟩ := lg_back h 1 0
  unfold exX at h1
  unfold exY at h2
  exact ⟨by omega, by omega⟩
theorem lgT_bk {t : Trn} (h : TnT t) : lgT (bkT t) = ((lgT t).1, -(lgT t).2.1, (lgT t).2.2) := by
  obtain ⟨h1, h2⟩ := lg_bk2 h
  unfold lgT bkT
  dsimp only
  rw [h1, h2, cc_neg]
theorem lgT_sq {t : Trn} : (lgT t).1 * (lgT t).1 + (lgT t).2.1 * (lgT t).2.1 = (lgT t).2.2 * (lgT t).2.2 := lg_sq _ _ _
theorem lg_cancel {t : Trn} (h : TnT t) : EqR (mulL (lgT t) (lgT (bkT t))) (1, 0, 1) ∧ EqR (mulL (lgT (bkT t)) (lgT t)) (1, 0, 1) := by
  have e := lgT_sq (t := t)
  rw [lgT_bk h]
  unfold EqR mulL
  dsimp only
  refine ⟨⟨?_, ?_⟩, ?_, ?_⟩ <;> grind
theorem bk_tn {t : Trn} (h : TnT t) : TnT (bkT t) := tn_bk2 h
theorem jn_eqR {t u w : Trn} (h : TnT t) (h' : TnT u) (J : Jn t.1 t.2.1 t.2.2 u.1 u.2.1 u.2.2 w.1 w.2.1 w.2.2) : EqR (mulL (lgT t) (lgT u)) (lgT w) := by
  obtain ⟨g, g1, e1, e2, e3⟩ := jn_legs h h' J
  unfold EqR mulL lgT
  dsimp only
  rw [e1, e2, e3]
  constructor <;> grind
/-- the current turn, as it stands -/
def curL (forth : Bool) (t : Trn) : Int × Int × Int := if forth then lgT t else lgT (bkT t)
theorem conj_eqR {u c v : Trn} (hu : TnT u) (hc : TnT c) (hv : TnT v) (h : EqR (mulL (lgT u) (lgT (bkT c))) (lgT v)) : EqR (mulL (lgT (bkT u)) (lgT c)) (lgT (bkT v)) := by
  obtain ⟨h1, h2⟩ := h
  rw [lgT_bk hc] at h1 h2
  rw [lgT_bk hu, lgT_bk hv]
  unfold EqR mulL at *
  dsimp only at *
  constructor <;> grind
theorem way_step {W T : Int × Int × Int} {u c v : Trn} (b : Bool) (hW : 0 < W.2.2) (hu : TnT u) (hc : TnT c) (hv : TnT v) (h : EqR (mulL (lgT u) (lgT (bkT c))) (lgT v)) (I : EqR (mulL W (curL b c)) T) :
    EqR (mulL (mulL W (lgT (if b then u else bkT u))) (curL (!b) v)) T := by
  have pu := lgT_pos hu
  have pc := lgT_pos hc
  have pbu := lgT_pos (bk_tn hu)
  have pbc := lgT_pos (bk_tn hc)
  cases b with
  | true =>
    have h2 := conj_eqR hu hc hv h
    show EqR (mulL (mulL W (lgT u)) (lgT (bkT v))) T
    refine EqR.tr (mulL_pos hW pc) ?_ (show EqR (mulL W (lgT c)) T from I)
    refine EqR.tr (mulL_pos (mulL_pos hW pu) (mulL_pos pbu pc)) (EqR.mull _ h2.symm) ?_
    rw [← mulL_assoc]
    refine EqR.mulr ?_ _
    rw [mulL_assoc]
    have z := EqR.mull W (lg_cancel hu).1
    rw [mulL_one] at z
    exact z
  | false =>
    show EqR (mulL (mulL W (lgT (bkT u))) (lgT v)) T
    refine EqR.tr (mulL_pos hW pbc) ?_ (show EqR (mulL W (lgT (bkT c))) T from I)
    refine EqR.tr (mulL_pos (mulL_pos hW pbu) (mulL_pos pu pbc)) (EqR.mull _ h.symm) ?_
    rw [← mulL_assoc]
    refine EqR.mulr ?_ _
    rw [mulL_assoc]
    have z := EqR.mull W (lg_cancel hu).2
    rw [mulL_one] at z
    exact z
end Tp
namespace Tp
open PySem PySem.Spec PyProof.Rows L2 DL
/-! ### k41: ways for turns -/
def kOf (m : Int) : Int := (if m < 0 then -m else m) / 2
def ItR (t u : Trn) : Prop := ∃ m : Int, m % 2 = 1 ∧ (-(cc t.1 t.2.1) < m ∧ m < cc t.1 t.2.1) ∧ (m * t.2.1 + t.1) % cc t.1 t.2.1 = 0 ∧ u = (kOf m + 1, (if m > 0 then kOf m else -kOf m), 0)
theorem co_qc {p q k : Int} (h : Tn p q k) : ∃ s t : Int, s * q + t * cc p q = 1 := by
  obtain ⟨s, t, e⟩ := bez h.g
  refine ⟨2 * s * t * p + t * t * q - s * s * q, s * s, ?_⟩
  unfold cc
  have : (s * p + t * q) * (s * p + t * q) = 1 := by rw [e] <;> rfl
  grind
theorem it_div {p q c m w s t : Int} (hc : c = p * p + q * q) (h : m * q + p = c * w) (hb : s * q + t * c = 1) : ∃ w2, m * p - q = c * w2 := by
  refine ⟨s * (p * w - 1) + t * (m * p - q), ?_⟩
  have e1 : q * (m * p - q) = c * (p * w - 1) := by grind
  have e2 : (s * q + t * c) * (m * p - q) = s * (q * (m * p - q)) + t * c * (m * p - q) := by grind
  rw [hb, e1] at e2
  grind
theorem odd_half35 {c P z : Int} (hc : c % 2 = 1) (h : 2 * P = c * z) : ∃ w, P = c * w := by
  rcases Int.emod_two_eq z with e | e
  · refine ⟨z / 2, ?_⟩
    have hz : z = 2 * (z / 2) := by omega
    have : 2 * P = 2 * (c * (z / 2)) := by rw [h]; conv => lhs; rw [hz]
                                           grind
    omega
  · have : (c * z) % 2 = 1 := by rw [Int.mul_emod, hc, e] <;> rfl
    omega
theorem k_abs {m : Int} (h : m % 2 = 1) : 0 ≤ kOf m ∧ (m > 0 ∧ m = 2 * kOf m + 1 ∨ ¬ m > 0 ∧ m = -(2 * kOf m + 1)) := by
  unfold kOf
  split <;> omega
theorem it_uniq {t u u' : Trn} (hT : TnT t) (h : ItR t u) (h' : ItR t u') : u = u' := by
  obtain ⟨m, o, ⟨b1, b2⟩, d, e⟩ := h
  obtain ⟨m', o', ⟨b1', b2'⟩, d', e'⟩ := h'
  obtain ⟨s, w, hb⟩ := co_qc hT
  have hcc := cc_odd hT
  have hc0 := cc_pos hT
  generalize cc t.1 t.2.1 = c at *
  obtain ⟨x, hx⟩ := Int.dvd_of_emod_eq_zero d
  obtain ⟨y, hy⟩ := Int.dvd_of_emod_eq_zero d'
  have e1 : (m - m') * t.2.1 = c * (x - y) := by grind
  have e2 : m - m' = c * (s * (x - y) + w * (m - m')) := by
    have : (m - m') * (s * t.2.1 + w * c) = s * ((m - m') * t.2.1) + c * (w * (m - m')) := by grind
    rw [hb, e1] at this
    grind
  generalize s * (x - y) + w * (m - m') = z at e2
  have hz : z = 0 := by
    have l1 : z < 2 := by
      refine Decidable.byContradiction fun n => ?_
      have := Int.mul_le_mul_of_nonneg_left (show 2 ≤ z by omega) (show 0 ≤ c by omega)
      omega
    have l2 : -2 < z := by
      refine Decidable.byContradiction fun n => ?_
      have := Int.mul_le_mul_of_nonneg_left (show z ≤ -2 by omega) (show 0 ≤ c by omega)
      omega
    rcases (by omega : z = 0 ∨ z = 1 ∨ z = -1) with r | r | r
    · exact r
    · rw [r] at e2; omega
    · rw [r] at e2; omega
  rw [hz] at e2
  have : m = m' := by omega
  rw [e, e', this]
theorem rt_dv {c g a b s t x y : Int} {j : Nat} (hj : j < 4) (e : s * a + t * b = 1) (h1 : g * rtX j a b = c * x) (h2 : g * rtY j a b = c * y) : ∃ z, g = c * z := by
  rcases (by omega : j = 0 ∨ j = 1 ∨ j = 2 ∨ j = 3) with r | r | r | r <;> subst r <;> simp only [rtX, rtY] at h1 h2
  · refine ⟨s * x + t * y, ?_⟩
    have : g * (s * a + t * b) = s * (g * a) + t * (g * b) := by grind
    rw [e, h1, h2] at this
    grind
  · refine ⟨s * y - t * x, ?_⟩
    have : g * (s * a + t * b) = s * (g * a) - t * (g * -b) := by grind
    rw [e, h1, h2] at this
    grind
  · refine ⟨-(s * x) - t * y, ?_⟩
    have : g * (s * a + t * b) = -(s * (g * -a)) - t * (g * -b) := by grind
    rw [e, h1, h2] at this
    grind
  · refine ⟨t * x - s * y, ?_⟩
    have : g * (s * a + t * b) = t * (g * b) - s * (g * -a) := by grind
    rw [e, h1, h2] at this
    grind
theorem rt_sq2 (j : Nat) (a b : Int) : rtX j a b * rtX j a b + rtY j a b * rtY j a b = cc a b := by
  unfold cc
  match j with
  | 0 => simp only [rtX, rtY]
  | 1 => simp only [rtX, rtY]; grind
  | 2 => simp only [rtX, rtY]; grind
  | _ + 3 => simp only [rtX, rtY]; grind
theorem gg35 {P R g X Y V : Int} (e1 : P = g * X) (e2 : R = g * Y) (h : X * X + Y * Y = V) : P * P + R * R = g * g * V := by rw [e1, e2, ← h]; grind
theorem ee35 {U c g z V : Int} (h : U * c = g * g * V) (e : g = c * z) : c * (c * (z * z * V)) = c * U := by rw [e] at h; grind
theorem it_less {c U V g m : Int} (hc : 3 ≤ c) (hm : m * m ≤ (c - 2) * (c - 2)) (hg : 1 ≤ g) (hV : 1 ≤ V) (hU : 2 * U = m * m + 1) (e : c * (g * g * V) = U) : 2 * V < c := by
  refine Decidable.byContradiction fun n => ?_
  have h1 : c * V ≤ c * (g * g * V) := by
    refine Int.mul_le_mul_of_nonneg_left ?_ (by omega)
    have : 1 * 1 ≤ g * g := Int.mul_le_mul hg hg (by decide) (by omega)
    have := Int.mul_le_mul_of_nonneg_right (show 1 ≤ g * g by omega) (show 0 ≤ V by omega)
    omega
  have h2 : c * c ≤ c * (2 * V) := Int.mul_le_mul_of_nonneg_left (by omega) (by omega)
  have h3 : c * (2 * V) = 2 * (c * V) := by grind
  have h4 : (c - 2) * (c - 2) = c * c - 4 * c + 4 := by grind
  omega
theorem it_main {t u : Trn} (hT : TnT t) (hq : t.2.1 ≠ 0) (hcc : cc t.1 t.2.1 ≤ 10000000000) (h : ItR t u) : KW u ∧ u.2.1 ≠ 0 ∧ (u.1 ≤ 10000000000 ∧ -10000000000 ≤ u.2.1 ∧ u.2.1 ≤ 10000000000) ∧
    ∃ v : Trn, Jn u.1 u.2.1 u.2.2 t.1 (-t.2.1) (-t.2.2 % 4) v.1 v.2.1 v.2.2 ∧ 2 * cc v.1 v.2.1 < cc t.1 t.2.1 := by
  obtain ⟨p, q, kk⟩ := t
  obtain ⟨m, om, ⟨b1, b2⟩, d, e⟩ := h
  have hT : Tn p q kk := hT
  have hq : q ≠ 0 := hq
  dsimp only at b1 b2 d e hcc ⊢
  obtain ⟨hk0, hk⟩ := k_abs om
  obtain ⟨s, w, hb⟩ := co_qc hT
  have hodd := cc_odd hT
  have hp1 := hT.p1
  have hq1 := hT.q1
  have hq2 := hT.q2
  obtain ⟨c, hc⟩ : ∃ c, c = cc p q := ⟨_, rfl⟩
  rw [← hc] at b1 b2 d hcc hodd hb ⊢
  have hc' : c = p * p + q * q := hc
  have hp2 : 2 ≤ p := by omega
  have hsq := sq_nn q
  have hcp : 2 * p + 1 ≤ c := by
    have h1 : 2 * p ≤ p * p := Int.mul_le_mul_of_nonneg_right hp2 (by omega)
    have h2 : 0 < q * q := by
      rcases Int.lt_or_gt_of_ne hq with z | z
      · exact Int.mul_pos_of_neg_of_neg z z
      · exact Int.mul_pos z z
    omega
  obtain ⟨x, hx⟩ := Int.dvd_of_emod_eq_zero d
  obtain ⟨y, hy⟩ := it_div hc' hx hb
  obtain ⟨k, hkk⟩ : ∃ k, k = kOf m := ⟨_, rfl⟩
  rw [← hkk] at hk0 hk e
  -- k is not 0
  have hk1 : 1 ≤ k := by
    refine Decidable.byContradiction fun n => ?_
    have kz : k = 0 := by omega
    have key : ∀ r : Int, 0 < r → r < c → r = c * x → False := fun r r1 r2 r3 => by
      rcases Decidable.em (x < 1) with z | z
      · have := Int.mul_le_mul_of_nonneg_left (show x ≤ 0 by omega) (show 0 ≤ c by omega)
        omega
      · have := Int.mul_le_mul_of_nonneg_left (show 1 ≤ x by omega) (show 0 ≤ c by omega)
        omega
    rcases hk with ⟨_, z⟩ | ⟨_, z⟩
    · rw [show m = 1 by omega] at hx
      exact key (1 * q + p) (by omega) (by omega) hx
    · rw [show m = -1 by omega] at hx
      exact key (-1 * q + p) (by omega) (by omega) hx
  -- what it is
  obtain ⟨j, hj⟩ : ∃ j, j = (if m > 0 then k else -k) := ⟨_, rfl⟩
  rw [← hj] at e
  have hjk : j = k ∧ m = 2 * k + 1 ∨ j = -k ∧ m = -(2 * k + 1) := by
    rcases hk with ⟨z1, z2⟩ | ⟨z1, z2⟩
    · rw [if_pos z1] at hj; exact .inl ⟨hj, z2⟩
    · rw [if_neg z1] at hj; exact .inr ⟨hj, z2⟩
  have hkb : 2 * k + 1 < c := by omega
  have hg1 : Nat.gcd (k + 1).natAbs k.natAbs = 1 := by
    have := (spin_end (p := k + 1) (by omega)).1
    rwa [show k + 1 - 1 = k by omega] at this
  have hgj : Nat.gcd (k + 1).natAbs j.natAbs = 1 := by
    rcases hjk with ⟨z, _⟩ | ⟨z, _⟩ <;> rw [z]
    · exact hg1
    · rw [Int.natAbs_neg]; exact hg1
  have tu : Tn (k + 1) j 0 := ⟨by omega, by omega, by omega, by omega, hgj, by omega, by decide, by decide⟩
  have ej : j * j = k * k := by rcases hjk with ⟨z, _⟩ | ⟨z, _⟩ <;> rw [z] <;> grind
  have em : m * m = (2 * k + 1) * (2 * k + 1) := by rcases hjk with ⟨_, z⟩ | ⟨_, z⟩ <;> rw [z] <;> grind
  obtain ⟨U, hU⟩ : ∃ U, U = cc (k + 1) j := ⟨_, rfl⟩
  have h2U : 2 * U = m * m + 1 := by rw [hU, em]; unfold cc; rw [ej]; grind
  -- the product is a multiple of c
  obtain ⟨P, hP⟩ : ∃ P, P = (k + 1) * p - j * -q := ⟨_, rfl⟩
  obtain ⟨R, hR⟩ : ∃ R, R = (k + 1) * -q + j * p := ⟨_, rfl⟩
  obtain ⟨zP, hzP⟩ : ∃ z, P = c * z := by
    refine odd_half35 hodd (z := if m > 0 then x + y else x - y) ?_
    rcases hjk with ⟨z, z2⟩ | ⟨z, z2⟩
    · rw [if_pos (by omega), hP, z]
      have : 2 * ((k + 1) * p - k * -q) = ((2 * k + 1) * q + p) + ((2 * k + 1) * p - q) := by grind
      rw [this, ← z2, hx, hy]; grind
    · rw [if_neg (by omega), hP, z]
      have : 2 * ((k + 1) * p - -k * -q) = (-(2 * k + 1) * q + p) - (-(2 * k + 1) * p - q) := by grind
      rw [this, ← z2, hx, hy]; grind
  obtain ⟨zR, hzR⟩ : ∃ z, R = c * z := by
    refine odd_half35 hodd (z := if m > 0 then y - x else y + x) ?_
    rcases hjk with ⟨z, z2⟩ | ⟨z, z2⟩
    · rw [if_pos (by omega), hR, z]
      have : 2 * ((k + 1) * -q + k * p) = ((2 * k + 1) * p - q) - ((2 * k + 1) * q + p) := by grind
      rw [this, ← z2, hx, hy]; grind
    · rw [if_neg (by omega), hR, z]
      have : 2 * ((k + 1) * -q + -k * p) = (-(2 * k + 1) * p - q) + (-(2 * k + 1) * q + p) := by grind
      rw [this, ← z2, hx, hy]; grind
  have tb := tn_bk2 hT
  have ecb : cc p (-q) = c := by rw [hc]; unfold cc; grind
  have hbig : U * c ≤ 1000000000000000 * 1000000000000000 := by
    have h1 : m * m ≤ 10000000000 * 10000000000 := by
      have hn : m.natAbs ≤ 10000000000 := by omega
      have := Nat.mul_le_mul hn hn
      have e9 : m * m = ((m.natAbs * m.natAbs : Nat) : Int) := by rw [Int.natAbs_mul_self]
      rw [e9]; omega
    have h2 : U ≤ 10000000000 * 10000000000 := by omega
    have := Int.mul_le_mul h2 hcc (by omega) (by decide)
    omega
  obtain ⟨a, b, mm, J⟩ := jn_exC tu tb (by rw [ecb, ← hU]; exact hbig)
  have hv := J.t
  have J2 := J
  obtain ⟨⟨_, _, _, _, gv, _, _, _⟩, g, jj, g1, hjj, e1, e2, _⟩ := J
  rw [← hP] at e1
  rw [← hR] at e2
  obtain ⟨s2, t2, hb2⟩ := bez gv
  obtain ⟨z, hz⟩ := rt_dv hjj hb2 (e1.symm.trans hzP) (e2.symm.trans hzR)
  have hc3 : 3 ≤ c := by omega
  have hPR : P * P + R * R = U * c := by rw [hP, hR, hU, hc']; unfold cc; grind
  have hgg : P * P + R * R = g * g * cc a b := gg35 e1 e2 (rt_sq2 jj a b)
  have hz1 : 1 ≤ z := by
    rcases Decidable.em (z < 1) with n | n
    · have := Int.mul_le_mul_of_nonneg_left (show z ≤ 0 by omega) (show 0 ≤ c by omega)
      omega
    · omega
  have hE : c * (z * z * cc a b) = U := by
    have : c * (c * (z * z * cc a b)) = c * U := by
      exact ee35 (hPR.symm.trans hgg) hz
    exact Int.eq_of_mul_eq_mul_left (by omega) this
  have hlm : m * m ≤ (c - 2) * (c - 2) := by
    rw [em]
    exact Int.mul_le_mul (by omega) (by omega) (by omega) (by omega)
  rw [e]
  refine ⟨⟨tu, ?_⟩, ?_, ⟨?_, ?_, ?_⟩, (a, b, mm), J2, it_less hc3 hlm hz1 (cc_one hv) h2U hE⟩
  · show keepsP (k + 1) j
    unfold keepsP
    rcases hjk with ⟨z, _⟩ | ⟨z, _⟩ <;> rw [z] <;> split <;> omega
  · show j ≠ 0; omega
  · show k + 1 ≤ _; omega
  · show _ ≤ j; omega
  · show j ≤ _; omega

end Tp
namespace Tp
open PySem PySem.Spec PyProof.Rows L2 DL
/-! ### k41: the way, item by item -/
open Classical in
noncomputable def nxT (t : Trn) : Trn × Trn := if h : ∃ uv : Trn × Trn, ItR t uv.1 ∧ Jn uv.1.1 uv.1.2.1 uv.1.2.2 t.1 (-t.2.1) (-t.2.2 % 4) uv.2.1 uv.2.2.1 uv.2.2.2 then Classical.choose h else (t, t)
theorem nxT_eq {t u v : Trn} (hT : TnT t) (hI : ItR t u) (J : Jn u.1 u.2.1 u.2.2 t.1 (-t.2.1) (-t.2.2 % 4) v.1 v.2.1 v.2.2) : nxT t = (u, v) := by
  have h : ∃ uv : Trn × Trn, ItR t uv.1 ∧ Jn uv.1.1 uv.1.2.1 uv.1.2.2 t.1 (-t.2.1) (-t.2.2 % 4) uv.2.1 uv.2.2.1 uv.2.2.2 := ⟨(u, v), hI, J⟩
  unfold nxT
  rw [dif_pos h]
  have sp := Classical.choose_spec h
  generalize Classical.choose h = c at sp
  obtain ⟨u', v'⟩ := c
  obtain ⟨h1, h2⟩ := sp
  have eu : u = u' := it_uniq hT hI h1
  subst eu
  obtain ⟨e1, e2, e3⟩ := pj_uniq (jn_pj J) (jn_pj h2) rfl
  exact Prod.ext rfl (Prod.ext e1.symm (Prod.ext e2.symm e3.symm))
noncomputable def tN (t : Trn) : Nat → Trn
  | 0 => t
  | n + 1 => (nxT (tN t n)).2
noncomputable def uN (t : Trn) (n : Nat) : Trn := (nxT (tN t n)).1
def fwB (n : Nat) : Bool := n % 2 == 0
theorem fwB_succ (n : Nat) : fwB (n + 1) = !fwB n := by
  unfold fwB
  rcases Nat.mod_two_eq_zero_or_one n with h | h
  · rw [show (n + 1) % 2 = 1 by omega, h] <;> rfl
  · rw [show (n + 1) % 2 = 0 by omega, h] <;> rfl
noncomputable def iN (t : Trn) (n : Nat) : Trn := if fwB n then uN t n else bkT (uN t n)
noncomputable def wN (t : Trn) (n : Nat) : List Trn := (List.range n).map (iN t)
theorem wN_succ (t : Trn) (n : Nat) : wN t (n + 1) = wN t n ++ [iN t n] := by
  unfold wN
  rw [List.range_succ, List.map_append]
  rfl
def SmT (u : Trn) : Prop := u.1 ≤ 10000000000 ∧ -10000000000 ≤ u.2.1 ∧ u.2.1 ≤ 10000000000
structure WSt (t : Trn) (n : Nat) : Prop where
  tn : TnT (tN t n)
  sz : ((2 ^ n : Nat) : Int) * cc (tN t n).1 (tN t n).2.1 ≤ cc t.1 t.2.1
  its : ∀ u ∈ wN t n, KW u ∧ u.2.1 ≠ 0 ∧ SmT u
  eq : EqR (mulL (sumL (wN t n)) (curL (fwB n) (tN t n))) (lgT t)
  nz : ∀ i, i < n → (tN t i).2.1 ≠ 0
theorem cc_pT {t : Trn} (h : TnT t) : 1 ≤ cc t.1 t.2.1 := cc_one h
theorem WSt.le {t : Trn} {n : Nat} (h : WSt t n) : cc (tN t n).1 (tN t n).2.1 ≤ cc t.1 t.2.1 := by
  have h1 := h.sz
  have h2 := cc_pT h.tn
  have h3 : (1 : Int) ≤ ((2 ^ n : Nat) : Int) := by have := Nat.one_le_two_pow (n := n); omega
  have := Int.mul_le_mul_of_nonneg_right h3 (show 0 ≤ cc (tN t n).1 (tN t n).2.1 by omega)
  omega
theorem it_sm {u : Trn} (h : SmT u) : SmT (bkT u) := ⟨h.1, by have := h.2.2; show _ ≤ -u.2.1; omega, by have := h.2.1; show -u.2.1 ≤ _; omega⟩
theorem WSt.step {t u : Trn} {n : Nat} (h : WSt t n) (hc : cc t.1 t.2.1 ≤ 10000000000) (hq : (tN t n).2.1 ≠ 0) (hI : ItR (tN t n) u) :
    ∃ v : Trn, uN t n = u ∧ KW u ∧ Jn u.1 u.2.1 u.2.2 (tN t n).1 (-(tN t n).2.1) (-(tN t n).2.2 % 4) v.1 v.2.1 v.2.2 ∧ tN t (n + 1) = v ∧ WSt t (n + 1) ∧ cc v.1 v.2.1 < cc (tN t n).1 (tN t n).2.1 := by
  have hle := h.le
  obtain ⟨kw, nz, sm, v, J, less⟩ := it_main h.tn hq (by omega) hI
  have hnx := nxT_eq h.tn hI J
  have e1 : uN t n = u := congrArg Prod.fst hnx
  have e2 : tN t (n + 1) = v := congrArg Prod.snd hnx
  have hv : TnT v := J.t
  have h1 := cc_pT hv
  refine ⟨v, e1, kw, J, e2, ⟨by rw [e2]; exact hv, ?_, ?_, ?_, fun i hi => ?_⟩, by omega⟩
  · have hs := h.sz
    rw [e2, Nat.pow_succ, Int.natCast_mul, Int.mul_assoc]
    have := Int.mul_le_mul_of_nonneg_left (show ((2 : Nat) : Int) * cc v.1 v.2.1 ≤ cc (tN t n).1 (tN t n).2.1 by omega) (Int.natCast_nonneg (2 ^ n))
    omega
  · intro w hw
    rw [wN_succ] at hw
    rcases List.mem_append.mp hw with z | z
    · exact h.its w z
    · have z := List.mem_singleton.mp z
      subst z
      unfold iN
      rw [e1]
      split
      · exact ⟨kw, nz, sm⟩
      · exact ⟨kw_bk kw, by show -u.2.1 ≠ 0; omega, it_sm sm⟩
  · rw [wN_succ, sumL_app, fwB_succ, e2]
    unfold iN
    rw [e1]
    exact way_step (fwB n) (sumL_pos fun w hw => (h.its w hw).1.1) kw.1 h.tn hv (jn_eqR kw.1 (bk_tn h.tn) J) h.eq
  · rcases Nat.lt_or_ge i n with z | z
    · exact h.nz i z
    · rw [show i = n by omega]; exact hq
open Classical in
structure WayOk (t : Trn) (W : List Trn) : Prop where
  kw : ∀ u ∈ W, KW u
  sm : ∀ u ∈ W, SmT u
  len : W.length ≤ 34
  eq : EqR (sumL W) (lgT t)
  cnt : ((2 ^ (W.filter fun u => !decide (u.2.1 = 0)).length : Nat) : Int) ≤ cc t.1 t.2.1
/-! ### the legs that a way comes to -/
def gst (v : Int × Int) (t : Trn) : Int × Int := (v.1 * t.1 - v.2 * t.2.1, v.1 * t.2.1 + v.2 * t.1)
def gpr (l : List Trn) : Int × Int := l.foldl gst (1, 0)
def qsm (l : List Trn) : Int := l.foldl (fun a t => a + t.2.2) 0
def legP (x y K : Int) : Int × Int × Int := (rtX (K % 4).toNat (x * x - y * y) (x * y + y * x), rtY (K % 4).toNat (x * x - y * y) (x * y + y * x), x * x + y * y)
theorem legP_mul {x y K : Int} {t : Trn} (h : TnT t) : mulL (legP x y K) (lgT t) = legP (gst (x, y) t).1 (gst (x, y) t).2 (K + t.2.2) := by
  obtain ⟨p, q, k⟩ := t
  have k1 := h.k1
  have k2 := h.k2
  have k1 : 0 ≤ k := k1
  have k2 : k ≤ 3 := k2
  obtain ⟨e1, e2⟩ := rt_mul (k := K % 4) (l := k) ⟨by omega, by omega⟩ ⟨k1, by omega⟩ (x * x - y * y) (x * y + y * x) (p * p - q * q) (p * q + q * p)
  unfold mulL legP lgT lgA lgB gst
  dsimp only
  have em : (K % 4 + k) % 4 = (K + k) % 4 := by omega
  refine Prod.ext ?_ (Prod.ext ?_ ?_) <;> dsimp only
  · rw [e1, em]
    congr 1 <;> grind
  · rw [e2, em]
    congr 1 <;> grind
  · unfold cc
    grind
theorem sum_leg (l : List Trn) (h : ∀ t ∈ l, TnT t) : sumL l = legP (gpr l).1 (gpr l).2 (qsm l) := by
  have key : ∀ (l : List Trn) (v : Int × Int) (K : Int), (∀ t ∈ l, TnT t) → l.foldl (fun a t => mulL a (lgT t)) (legP v.1 v.2 K) = legP (l.foldl gst v).1 (l.foldl gst v).2 (l.foldl (fun a t => a + t.2.2) K) := by
    intro l
    induction l with
    | nil => intro v K _; rfl
    | cons t l ih =>
      intro v K h
      rw [List.foldl_cons, List.foldl_cons, List.foldl_cons, legP_mul (h t List.mem_cons_self)]
      exact ih (gst v t) _ fun u hu => h u (List.mem_cons_of_mem _ hu)
  have := key l (1, 0) 0 h
  unfold sumL gpr qsm
  rw [← this]
  rfl
end Tp
namespace Tp
open PySem PySem.Spec PyProof.Rows L2 DL
/-! ### k41: what is promised -/
structure BdW (k : Nat) (l : List Trn) : Prop where
  tn : ∀ t ∈ l, TnT t
  bd : ∀ t ∈ l, Bd k t.1 ∧ Bd k t.2.1
  len : l.length ≤ 1000
  all : (k + 1) * l.length ≤ 6000
theorem gok_two {P : Program} {w : World} {K : PySem.W.Frag} {mg : Str → Option Value} {base : Heap} {k : Nat} {f : Addr} {fd : FuncData} {ps : List Str} {C A B : Con} (a : GOk P w K mg base k f fd ps (spD K A)) (b : GOk P w K mg base k f fd ps (spD K B)) (h : ∀ ds S Q, C ds S Q → A ds S Q ∨ B ds S Q) :
    GOk P w K mg base k f fd ps (spD K C) :=
  ⟨fun vs H Q E ⟨ds, S, Hd, Qd, z1, z2, z3, z4⟩ => (h ds S Qd z3).elim (fun z => a.len vs H Q E ⟨ds, S, Hd, Qd, z1, z2, z, z4⟩) (fun z => b.len vs H Q E ⟨ds, S, Hd, Qd, z1, z2, z, z4⟩),
   fun A9 fr s H ar us vs Q E gd hr e0 hb r ⟨ds, S, Hd, Qd, z1, z2, z3, z4⟩ => (h ds S Qd z3).elim (fun z => a.run A9 fr s H ar us vs Q E gd hr e0 hb r ⟨ds, S, Hd, Qd, z1, z2, z, z4⟩) (fun z => b.run A9 fr s H ar us vs Q E gd hr e0 hb r ⟨ds, S, Hd, Qd, z1, z2, z, z4⟩)⟩
theorem noS_src1 {p : Addr} {l : List D} {m : Nat} (h : Src m l) : noS [(p, l)] := by
  obtain ⟨a, b, c, e, _⟩ := h
  exact noS_cons (by rw [e] <;> rfl) noS_nil
theorem sm_bd {u : Trn} (h : SmT u) (hT : TnT u) : Bd 34 u.1 ∧ Bd 34 u.2.1 := by
  have := h.1
  have := h.2.1
  have := h.2.2
  have := hT.p1
  constructor <;> unfold Bd <;> omega
theorem WayOk.bw {t : Trn} {W : List Trn} (h : WayOk t W) : BdW 34 W := ⟨fun u hu => (h.kw u hu).1, fun u hu => sm_bd (h.sm u hu) (h.kw u hu).1, by have := h.len; omega, by have := h.len; omega⟩
end Tp
namespace Tp
open PySem PySem.Spec PyProof.Rows L2 DL
/-! ### k80: products of ways -/
theorem mulL_comm (x y : Int × Int × Int) : mulL x y = mulL y x := by
  unfold mulL
  refine Prod.ext ?_ (Prod.ext ?_ ?_) <;> dsimp only <;> grind
theorem one_mulL (x : Int × Int × Int) : mulL (1, 0, 1) x = x := by rw [mulL_comm, mulL_one]
theorem fold_mul : ∀ (m : List Trn) (x : Int × Int × Int), m.foldl (fun a t => mulL a (lgT t)) x = mulL x (sumL m)
  | [], x => (mulL_one x).symm
  | t :: m, x => by
    unfold sumL
    rw [List.foldl_cons, List.foldl_cons, fold_mul m, fold_mul m, one_mulL, mulL_assoc]
theorem sumL_append (l m : List Trn) : sumL (l ++ m) = mulL (sumL l) (sumL m) := by
  unfold sumL
  rw [List.foldl_append]
  exact fold_mul m _
theorem sumL_cons (t : Trn) (l : List Trn) : sumL (t :: l) = mulL (lgT t) (sumL l) := by
  have := fold_mul l (mulL (1, 0, 1) (lgT t))
  rw [one_mulL] at this
  unfold sumL
  rw [List.foldl_cons, one_mulL]
  exact this
def conjL (z : Int × Int × Int) : Int × Int × Int := (z.1, -z.2.1, z.2.2)
theorem conj_mul (x y : Int × Int × Int) : conjL (mulL x y) = mulL (conjL x) (conjL y) := by
  unfold conjL mulL
  refine Prod.ext ?_ (Prod.ext ?_ ?_) <;> dsimp only <;> grind
theorem sumL_away : ∀ (l : List Trn), (∀ t ∈ l, TnT t) → sumL (l.reverse.map bkT) = conjL (sumL l)
  | [], _ => by decide
  | t :: l, h => by
    rw [List.reverse_cons, List.map_append, sumL_append, sumL_away l fun u hu => h u (List.mem_cons_of_mem _ hu), sumL_cons, conj_mul, mulL_comm]
    congr 1
    show sumL [bkT t] = _
    rw [sumL_cons, show sumL [] = (1, 0, 1) from rfl, mulL_one, lgT_bk (h t List.mem_cons_self)]
    rfl
theorem leg_sq (x y K : Int) : (legP x y K).1 * (legP x y K).1 + (legP x y K).2.1 * (legP x y K).2.1 = (legP x y K).2.2 * (legP x y K).2.2 := by
  unfold legP
  dsimp only
  rw [rt_sq2]
  unfold cc
  grind
theorem sum_unit {l : List Trn} (h : ∀ t ∈ l, TnT t) : EqR (mulL (sumL l) (conjL (sumL l))) (1, 0, 1) := by
  rw [sum_leg l h]
  have e := leg_sq (gpr l).1 (gpr l).2 (qsm l)
  generalize legP (gpr l).1 (gpr l).2 (qsm l) = z at e
  unfold EqR mulL conjL
  dsimp only
  constructor <;> grind
structure RdOk (n : Nat) (t : Trn) (l : List Trn) : Prop where
  tn : TnT t
  kw : ∀ u ∈ l, KW u
  sm : ∀ u ∈ l, SmT u
  len : l.length ≤ n
  eq : EqR (sumL l) (lgT t)
theorem RdOk.bw {n : Nat} {t : Trn} {l : List Trn} (h : RdOk n t l) (hn : n ≤ 120) : BdW 34 l := ⟨fun u hu => (h.kw u hu).1, fun u hu => sm_bd (h.sm u hu) (h.kw u hu).1, by have := h.len; omega, by have := h.len; omega⟩
theorem RdOk.of {t : Trn} {W : List Trn} (hT : TnT t) (h : WayOk t W) : RdOk 34 t W := ⟨hT, h.kw, h.sm, h.len, h.eq⟩
theorem mem_app {α : Type} {P : α → Prop} {l m : List α} (h : ∀ x ∈ l, P x) (k : ∀ x ∈ m, P x) : ∀ x ∈ l ++ m, P x := fun x hx => (List.mem_append.mp hx).elim (h x) (k x)
theorem RdOk.away {n : Nat} {t : Trn} {l : List Trn} (h : RdOk n t l) : RdOk n (bkT t) (l.reverse.map bkT) := by
  refine ⟨bk_tn h.tn, kw_rev h.kw, fun u hu => ?_, by rw [List.length_map, List.length_reverse]; exact h.len, ?_⟩
  · obtain ⟨v, hv, rfl⟩ := List.mem_map.mp hu
    exact it_sm (h.sm v (List.mem_reverse.mp hv))
  · rw [sumL_away l fun u hu => (h.kw u hu).1, lgT_bk h.tn]
    obtain ⟨e1, e2⟩ := h.eq
    unfold EqR conjL
    dsimp only
    exact ⟨e1, by rw [Int.neg_mul, Int.neg_mul, e2]⟩
theorem tn_unit : TnT (1, 0, 0) := ⟨by decide, by decide, by decide, by decide, by decide, by decide, by decide, by decide⟩
theorem lg_unit80 : lgT (1, 0, 0) = (1, 0, 1) := by decide +kernel
theorem RdOk.none {n : Nat} {t : Trn} {l : List Trn} (h : RdOk n t l) : RdOk (n + n) (1, 0, 0) (l ++ l.reverse.map bkT) := by
  have k := h.away
  refine ⟨tn_unit, mem_app h.kw k.kw, mem_app h.sm k.sm, by rw [List.length_append]; have := h.len; have := k.len; omega, ?_⟩
  rw [sumL_append, sumL_away l fun u hu => (h.kw u hu).1, lg_unit80]
  exact sum_unit fun u hu => (h.kw u hu).1
end Tp
namespace Tp
open PySem PySem.Spec PyProof.Rows L2 DL
/-! ### k54: balls -/
/-! the image of the image by the back turn, where the hexagons are alike -/
/-! rows of strips, reckoned -/
end Tp
namespace Tp
open PySem PySem.Spec PyProof.Rows L2 DL
/-! ### k54: what is promised -/
end Tp
namespace Tp
open PySem PySem.Spec PyProof.Rows L2 DL
/-! ### k23: losses, of any value -/
def pixI : D → Int × Int
  | .tup [.int x, .int y] => (x, y)
  | _ => (0, 0)
def sameB (p q k : Int) (v w : Int × Int) : Bool := decide (imX p q k v.1 v.2 = imX p q k w.1 w.2 ∧ imY p q k v.1 v.2 = imY p q k w.1 w.2)
def isStr (w : Str) : D → Bool
  | .str s => decide (s = w)
  | _ => false
def lossB (p q k : Int) : List D → Bool
  | [a, e] => isStr "bare" a && pixB e && bareB p q k (pixI e).1 (pixI e).2
  | [a, e, f] => isStr "meet" a && pixB e && pixB f && lt2 (pixI e) (pixI f) && sameB p q k (pixI e) (pixI f)
  | _ => false
def lossD (p q k : Int) : D → Bool
  | .tup l => lossB p q k l
  | _ => false
structure LsE (x : D) : Prop where
  pt : ptD x = true
  fl : flatOk 8 x = true
  f9 : flatOk 9 x = true
  fb : flB x = true
  ln : ∀ l, x = .tup l → l.length ≤ 1000
  bd : PB 280 x
  sh : shQ x
  dp : dpD x ≤ 3
  wt : wtS x ≤ 9000
theorem LsE.any {K : PySem.W.Frag} {x : D} (h : LsE x) : Any K x := .pt h.pt h.ln
structure LsT (P : Program) (w : World) (K : PySem.W.Frag) (d : D) : Prop where
  v : AnyV K d
  p : ∀ l, d = .tup l → ∀ x ∈ l, LsE x
  s : Shw P w K d 40000
theorem isStr_eq {w : Str} {d : D} : isStr w d = true ↔ d = .str w := by
  cases d <;> simp [isStr]
theorem eq_wrd {w : Str} {d : D} {S : Sto} {Q : Bool → Sto → Prop} (h : LsE d) (hw : flatOk 9 (.str w) = true) (q : Q (isStr w d) S) : eqP d (.str w) S Q := by
  have hf := h.f9
  cases d with
  | str s => exact q
  | non => exact ⟨⟨hf, hw⟩, q⟩
  | bl b => exact ⟨⟨hf, hw⟩, q⟩
  | int b => exact ⟨⟨hf, hw⟩, q⟩
  | tup l => exact ⟨⟨hf, hw⟩, (show eqB (.tup l) (.str w) = false by unfold eqB; rfl) ▸ q⟩
  | lst l => exact ⟨⟨hf, hw⟩, (show eqB (.lst l) (.str w) = false by unfold eqB; rfl) ▸ q⟩
  | raw v => exact nomatch (show false = true from h.pt)
  | ext v => exact nomatch (show false = true from h.pt)
  | scr v => exact nomatch (show false = true from h.pt)

theorem pixB_bd {x : D} (h : LsE x) (hp : pixB x = true) : ∃ a b : Int, x = .tup [.int a, .int b] ∧ Bd 280 a ∧ Bd 280 b := by
  obtain ⟨a, b, rfl⟩ := wt2 hp
  exact ⟨a, b, rfl, h.bd a b rfl⟩
theorem loss_2 {p q k : Int} {a e : D} : lossB p q k [a, e] = (isStr "bare" a && pixB e && bareB p q k (pixI e).1 (pixI e).2) := rfl
theorem loss_3 {p q k : Int} {a e f : D} : lossB p q k [a, e, f] = (isStr "meet" a && pixB e && pixB f && lt2 (pixI e) (pixI f) && sameB p q k (pixI e) (pixI f)) := rfl
theorem loss_no {p q k : Int} {l : List D} (h2 : ∀ e, l ≠ [.str "bare", e]) (h3 : ∀ e f, l ≠ [.str "meet", e, f]) : lossB p q k l = false := by
  unfold lossB
  split
  · rename_i a e
    cases h : isStr "bare" a with
    | true => exact absurd (by rw [isStr_eq.mp h]) (h2 e)
    | false => rfl
  · rename_i a e f
    cases h : isStr "meet" a with
    | true => exact absurd (by rw [isStr_eq.mp h]) (h3 e f)
    | false => rfl
  · rfl
theorem loss_len {p q k : Int} {l : List D} (h2 : (l.length : Int) ≠ 2) (h3 : (l.length : Int) ≠ 3) : lossB p q k l = false :=
  loss_no (fun e z => h2 (by rw [z]; rfl)) (fun e f z => h3 (by rw [z]; rfl))
theorem loss_str {p q k : Int} {v : D} {r : List D} (h : isStrD v = false) : lossB p q k (v :: r) = false :=
  loss_no (fun e z => by rw [List.cons.inj z |>.1] at h; cases h) (fun e f z => by rw [List.cons.inj z |>.1] at h; cases h)
theorem loss_pix {p q k : Int} {v : D} {r : List D} (h : r.all pixB = false) : lossB p q k (v :: r) = false := by
  unfold lossB
  split
  · rename_i a e he
    cases he
    rw [List.all_cons, List.all_nil, Bool.and_true] at h
    rw [h, Bool.and_false]; rfl
  · rename_i a e f he
    cases he
    rw [List.all_cons, List.all_cons, List.all_nil, Bool.and_true] at h
    cases h1 : pixB e with
    | false => rw [Bool.and_false]; rfl
    | true =>
      rw [h1, Bool.true_and] at h
      rw [h, Bool.and_false]; rfl
  · rfl
theorem lossD_no {p q k : Int} {d : D} (h : isTupD d = false) : lossD p q k d = false := by cases d <;> first | rfl | cases h
theorem len_23 {l : List D} (h : (l.length : Int) = 2 ∨ (l.length : Int) = 3) : ∃ v r, l = v :: r ∧ (r.length = 1 ∨ r.length = 2) := by
  match l, h with
  | [], h => exact absurd h (by decide)
  | v :: r, h => exact ⟨v, r, rfl, by rw [List.length_cons] at h; omega⟩
theorem in_23 (n : Int) : ([D.int 2, D.int 3].any fun z => eqB z (.int n)) = (decide (n = 2) || decide (n = 3)) := by
  have e : ∀ a : Int, eqB (.int a) (.int n) = decide (n = a) := fun a => by
    unfold eqB
    simp [toPy, PyData.eqv]
    by_cases z : a = n
    · subst z; simp
    · rw [decide_eq_false (fun y => z y.symm)]; simpa using z
  rw [List.any_cons, List.any_cons, List.any_nil, e, e, Bool.or_false]
theorem cut_1 {v : D} {r : List D} : DL.cutD (v :: r) (some 1) none = r := by
  rw [cut_from (by decide) (by rw [List.length_cons]; omega)]
  rfl
theorem sl_1 {v : D} {r : List D} {S : Sto} {Q : D → Sto → Prop} (q : Q (.tup r) S) : slP (.tup (v :: r)) (some 1) none S Q := by
  refine ⟨fun h => ?_, by rw [cut_1]; exact q⟩
  have h1 := h.1
  unfold HT.sIx at h1
  simp at h1
def con_showsA (P : Program) (w : World) (K : PySem.W.Frag) : Con := fun ds S Q => ∃ (p q k : Int) (d : D), ds = [.tup [.int p, .int q, .int k], d] ∧ Tn p q k ∧ LsT P w K d ∧ Q (.bl (lossD p q k d)) S
def con_isdotA (K : PySem.W.Frag) : Con := fun ds S Q => ∃ d, ds = [d] ∧ LsE d ∧ Q (.bl (pixB d)) S
theorem loss_bare_f {p q k : Int} {e : D} (h : pixB e = false) : lossB p q k [.str "bare", e] = false := by rw [loss_2, h, Bool.and_false]; rfl
theorem loss_bare_t {p q k x y : Int} : lossB p q k [.str "bare", .tup [.int x, .int y]] = bareB p q k x y := by
  rw [loss_2, show isStr "bare" (.str "bare") = true from isStr_eq.mpr rfl, show pixB (.tup [.int x, .int y]) = true from rfl]
  rfl
theorem loss_meet_t {p q k x y z w : Int} : lossB p q k [.str "meet", .tup [.int x, .int y], .tup [.int z, .int w]] = (lt2 (x, y) (z, w) && sameB p q k (x, y) (z, w)) := by
  rw [loss_3, show isStr "meet" (.str "meet") = true from isStr_eq.mpr rfl, show pixB (.tup [.int x, .int y]) = true from rfl, show pixB (.tup [.int z, .int w]) = true from rfl]
  rfl
theorem loss_meet_f {p q k : Int} {e f : D} (h : pixB e = false ∨ pixB f = false) : lossB p q k [.str "meet", e, f] = false := by
  rw [loss_3]
  rcases h with z | z <;> rw [z] <;> simp
theorem same_v {p q k : Int} {v w : Int × Int} {b : Bool} (h : b = true ↔ imX p q k v.1 v.2 = imX p q k w.1 w.2 ∧ imY p q k v.1 v.2 = imY p q k w.1 w.2) : b = sameB p q k v w := by
  unfold sameB
  cases b with
  | true => exact (decide_eq_true (h.mp rfl)).symm
  | false => exact (decide_eq_false fun z => nomatch h.mpr z).symm
def con_judged (P : Program) (w : World) (K : PySem.W.Frag) : Con := con_showsA P w K
theorem lost_2 {p q k : Int} {s : Str} {e : D} : lossB p q k [.str s, e] = (decide (s = "bare") && pixB e && bareB p q k (pixI e).1 (pixI e).2) := rfl
theorem lost_3 {p q k : Int} {s : Str} {e f : D} : lossB p q k [.str s, e, f] = (decide (s = "meet") && pixB e && pixB f && lt2 (pixI e) (pixI f) && sameB p q k (pixI e) (pixI f)) := rfl
theorem all_flt (l : List D) (h : (l.filter fun d => !pixB d).isEmpty = true) : l.all pixB = true := by
  rw [filter_empty] at h
  simpa using h
theorem all_flt_f (l : List D) (h : (l.filter fun d => !pixB d).isEmpty = false) : l.all pixB = false := by
  cases e : l.all pixB with
  | false => rfl
  | true =>
    rw [filter_empty] at h
    have : (l.all fun d => !(!pixB d)) = l.all pixB := by congr 1; funext d; simp
    rw [this, e] at h
    cases h
theorem flat_all {n : Nat} : ∀ {l : List D}, (∀ x ∈ l, flatOk n x = true) → flatOkL n l = true
  | [], _ => by unfold flatOkL; rfl
  | d :: ds, h => by
    unfold flatOkL
    rw [h d List.mem_cons_self, flat_all fun x hx => h x (List.mem_cons_of_mem _ hx)]
    rfl
def con_aloss23 : Con := fun ds S Q => ∃ p q k : Int, ds = [.tup [.int p, .int q, .int k]] ∧ Tn p q k ∧ ¬ keepsP p q ∧ (bareB p q k (lossX p q) 0 = true → Q (.tup [.str "bare", .tup [.int (lossX p q), .int 0]]) S)
theorem lossD_t {p q k : Int} {l : List D} : lossD p q k (.tup l) = lossB p q k l := by unfold lossD; rfl

/-! things -/
section
variable {P : Program} {w : World} {K : PySem.W.Frag}
theorem shL_of : ∀ {l : List D}, (∀ x ∈ l, LsE x) → shQL l ∧ dpL l ≤ 3 ∧ wtL l ≤ 9002 * l.length
  | [], _ => ⟨by simp only [shQL], by simp only [dpL]; omega, by simp only [wtL]; omega⟩
  | d :: ds, h => by
    obtain ⟨h1, h2, h3⟩ := shL_of fun x hx => h x (List.mem_cons_of_mem _ hx)
    have e := h d List.mem_cons_self
    have e2 := e.dp
    have e3 := e.wt
    refine ⟨by rw [shQL]; exact ⟨e.sh, h1⟩, by simp only [dpL]; omega, ?_⟩
    simp only [wtL, List.length_cons]
    omega
theorem lsT_t {l : List D} (h : ∀ x ∈ l, LsE x) (hl : l.length ≤ 4) : LsT P w K (.tup l) := by
  obtain ⟨h1, h2, h3⟩ := shL_of h
  exact ⟨any_pv rfl, fun m e => by cases e; exact h, shw_q (by rw [shQ]; exact h1) (by simp only [dpD]; omega) (by simp only [wtS]; omega)⟩
theorem lsT_l {l : List D} (h : ∀ x ∈ l, LsE x) (hl : l.length ≤ 4) : LsT P w K (.lst l) := by
  obtain ⟨h1, h2, h3⟩ := shL_of h
  exact ⟨any_pv rfl, (fun m e => nomatch e), shw_q (by rw [shQ]; exact h1) (by simp only [dpD]; omega) (by simp only [wtS]; omega)⟩
theorem lsT_pl {d : D} (h : (plB 40000 d && !isTupD d) = true) : LsT P w K d := by
  rw [Bool.and_eq_true] at h
  exact ⟨(plB_any h.1).t.v, fun l e => (by rw [e] at h; exact (Bool.noConfusion (show false = true from h.2))), plB_shw h.1⟩
theorem lsT_dic : LsT P w K (dicD []) := ⟨any_dic, (fun _ e => nomatch e), shw_dic0 (by decide)⟩
end
def lsB (d : D) : Bool := ptD d && flatOk 8 d && flatOk 9 d && flB d && shQb d && decide (dpD d ≤ 3) && decide (wtS d ≤ 9000) && i2BB 280 d && (match d with | .tup l => decide (l.length ≤ 1000) | _ => true)
theorem lsE_pl {d : D} (h : lsB d = true) : LsE d := by
  unfold lsB at h
  simp only [Bool.and_eq_true] at h
  obtain ⟨⟨⟨⟨⟨⟨⟨⟨h1, h2⟩, h3⟩, h4⟩, h5⟩, h6⟩, h7⟩, h8⟩, h9⟩ := h
  exact ⟨h1, h2, h3, h4, fun l e => by subst e; exact of_decide_eq_true h9, pB_of h8, shQb_of d h5, of_decide_eq_true h6, of_decide_eq_true h7⟩
theorem lsE_p {a b : Int} (h1 : Bd 280 a) (h2 : Bd 280 b) : LsE (.tup [.int a, .int b]) :=
  ⟨rfl, rfl, rfl, rfl, fun l e => by cases e; exact Nat.le_add_left 2 998, pB_2 h1 h2, by simp only [shQ, shQL, and_true]; exact ⟨h1.up (by decide), h2.up (by decide)⟩, by simp only [dpD, dpL]; decide, by simp only [wtS, wtL]; decide⟩
theorem lsE_lp {a b : Int} (h1 : Bd 280 a) (h2 : Bd 280 b) : LsE (.lst [.int a, .int b]) :=
  ⟨rfl, rfl, rfl, rfl, (fun l e => nomatch e), (fun _ _ e => nomatch e), by simp only [shQ, shQL, and_true]; exact ⟨h1.up (by decide), h2.up (by decide)⟩, by simp only [dpD, dpL]; decide, by simp only [wtS, wtL]; decide⟩
theorem lsE_pb {a : Int} (h1 : Bd 280 a) : LsE (.tup [.int a, .bl true]) :=
  ⟨rfl, rfl, rfl, rfl, fun l e => by cases e; exact Nat.le_add_left 2 998, (fun _ _ e => nomatch e), by simp only [shQ, shQL, and_true]; exact h1.up (by decide), by simp only [dpD, dpL]; decide, by simp only [wtS, wtL]; decide⟩
theorem lsE_p3 {a b : Int} (h1 : Bd 280 a) (h2 : Bd 280 b) : LsE (.tup [.int a, .int b, .int 0]) :=
  ⟨rfl, rfl, rfl, rfl, fun l e => by cases e; exact Nat.le_add_left 3 997, (fun _ _ e => nomatch e), by simp only [shQ, shQL, and_true]; exact ⟨h1.up (by decide), h2.up (by decide), by decide +kernel⟩, by simp only [dpD, dpL]; decide, by simp only [wtS, wtL]; decide⟩
theorem sl_m2 {a b : D} {S : Sto} {Q : D → Sto → Prop} (q : Q (.tup [a]) S) : slP (.tup [a, b]) none (some (-1)) S Q := ⟨(show ¬ (HT.sIx 2 0 none = 0 ∧ HT.sIx 2 2 (some (-1)) = 2) by decide), q⟩
theorem sl_m3 {a b c : D} {S : Sto} {Q : D → Sto → Prop} (q : Q (.tup [a, b]) S) : slP (.tup [a, b, c]) none (some (-1)) S Q := ⟨(show ¬ (HT.sIx 3 0 none = 0 ∧ HT.sIx 3 3 (some (-1)) = 3) by decide), q⟩
theorem drc_listT {K : PySem.W.Frag} {l : List D} {S : Sto} {Q : D → Sto → Prop} (q : Q (.lst l) S) : DRC K (fun xs H Q => ∃ p ys, xs = [.ref p] ∧ (SqL K H p ys ∨ SqT K H p ys) ∧ ∀ l, H l = none → Q (.ref l) (upd H l (.lst ys))) [.tup l] S Q := fun H Hd vs Qv st rr k => by
  obtain ⟨v, e1, p, xs, f1, f2, f3⟩ := one_rp rr
  subst e1 f1
  exact ⟨p, xs, rfl, .inr (same_t st.sub f2), fun a ha => k _ _ (new_lst st f3 ha q)⟩
def LossOf (p q k : Int) (d : D) : Prop := (∃ x y : Int, d = .tup [.str "bare", .tup [.int x, .int y]] ∧ Bd 120 x ∧ Bd 120 y) ∨ d = .tup [.str "meet", .tup [.int 0, .int 0], .tup [.int 1, .int 0]]
def conTh (P : Program) (w : World) (K : PySem.W.Frag) (L : Int → Int → Int → D → Prop) : Con := fun ds S Q => ∃ (pp : Addr) (p q k : Int) (d : D) (l : List D) (m : Nat), ds = [.raw (.ref pp), .tup [.int p, .int q, .int k], d] ∧ getS pp S = some l ∧ Src m l ∧ m ≤ 800000 ∧ Tn p q k ∧ L p q k d ∧ ∀ ts l', (∀ x ∈ ts, LsT P w K x) → ts.length ≤ 60 → Src (m + 2) l' → Q (.lst ts) (setS pp l' S)

def con_r23 : Con := fun ds S Q => ∃ (pp : Addr) (p q k : Int) (l : List D) (m : Nat), ds = [.raw (.ref pp), .tup [.int p, .int q, .int k]] ∧ getS pp S = some l ∧ Src m l ∧ m ≤ 700000 ∧ Tn p q k ∧ ∀ l', Src (m + 2) l' → Q (.bl true) (setS pp l' S)
def con_r23_0 : Con := fun ds S Q => ∃ (pp : Addr) (p q k : Int) (l : List D) (m : Nat), ds = [.raw (.ref pp), .tup [.int p, .int q, .int k]] ∧ getS pp S = some l ∧ Src m l ∧ m ≤ 700000 ∧ Tn p q k ∧ keepsP p q ∧ ∀ l', Src (m + 2) l' → Q (.bl true) (setS pp l' S)
def con_r23_1 : Con := fun ds S Q => ∃ (pp : Addr) (p q k : Int) (l : List D) (m : Nat), ds = [.raw (.ref pp), .tup [.int p, .int q, .int k]] ∧ getS pp S = some l ∧ Src m l ∧ m ≤ 700000 ∧ Tn p q k ∧ ¬ keepsP p q ∧ ∀ l', Src (m + 2) l' → Q (.bl true) (setS pp l' S)
theorem far_60 {a b : Int} (ha : Bd 110 a) (hb : Bd 110 b) : ¬ (if (if b < 0 then -b else b) > (if a < 0 then -a else a) then (if b < 0 then -b else b) else (if a < 0 then -a else a)) ≥ 10 ^ (Int.toNat 60) := by
  have e : (10 : Int) ^ (Int.toNat 60) = 1000000000000000000000000000000000000000000000000000000000000 := by decide +kernel
  have f : (2 : Nat) ^ 110 = 1298074214633706907132624082305024 := by decide +kernel
  unfold Bd at ha hb
  rw [f] at ha hb
  rw [e]
  split <;> split <;> omega
theorem fl_bare (x y : Int) : flatOk 9 (.tup [.str "bare", .tup [.int x, .int y]]) = true := by
  have h : flatOk 8 (.str "bare") = true := by decide +kernel
  show flatOkL 8 [.str "bare", .tup [.int x, .int y]] = true
  unfold flatOkL
  rw [h]
  rfl

end Tp
namespace Tp
open PySem PySem.Spec PyProof.Rows L2 DL
def top (i : Nat) : Stmt := PySem.Challenge.pw_turnedpixels_k23_losses_judged_and_told.main.body.getD i (.Pass ⟨0, 0, 0, 0⟩)
local macro_rules | `(tactic| walk_at "bd") => `(tactic| first
  | assumption
  | (with_reducible refine' Bd.exX _ (by assumption) (by assumption) ?a1 ?a2; (case a1 => walk_at "bd"); (case a2 => walk_at "bd"))
  | (with_reducible refine' Bd.exY _ (by assumption) (by assumption) ?a1 ?a2; (case a1 => walk_at "bd"); (case a2 => walk_at "bd"))
  | (with_reducible refine' Bd.imX _ (by assumption) (by assumption) ?a1 ?a2; (case a1 => walk_at "bd"); (case a2 => walk_at "bd"))
  | (with_reducible refine' Bd.imY _ (by assumption) (by assumption) ?a1 ?a2; (case a1 => walk_at "bd"); (case a2 => walk_at "bd"))
  | (with_reducible refine' Bd.reX (by assumption) (by assumption) ?a1 ?a2; (case a1 => walk_at "bd"); (case a2 => walk_at "bd"))
  | (with_reducible refine' Bd.reY (by assumption) (by assumption) ?a1 ?a2; (case a1 => walk_at "bd"); (case a2 => walk_at "bd"))
  | (with_reducible refine' Bd.rtX _ ?a1 ?a2; (case a1 => walk_at "bd"); (case a2 => walk_at "bd"))
  | (with_reducible refine' Bd.rtY _ ?a1 ?a2; (case a1 => walk_at "bd"); (case a2 => walk_at "bd"))
  | (with_reducible refine' Bd.nrr ?a1 ?a2; (case a1 => walk_at "bd"); (case a2 => walk_at "bd"))
  | with_reducible exact Bd.lgA _ (by assumption) (by assumption)
  | with_reducible exact Bd.lgB _ (by assumption) (by assumption)
  | with_reducible exact Bd.cc (by assumption) (by assumption)
  | with_reducible exact bd_cc (by unfold Bd; decide)
  | with_reducible exact Bd.lit (OfNat.ofNat _)
  | (with_reducible refine' Bd.isq ?a1; (case a1 => walk_at "bd"))
  | with_reducible exact Bd.lit ((OfNat.ofNat _) ^ _)
  | (with_reducible refine' Bd.abs ?a1; (case a1 => walk_at "bd"))
  | (with_reducible refine' Bd.neg ?a1; (case a1 => walk_at "bd"))
  | (with_reducible refine' Bd.mul ?a1 ?a2; (case a1 => walk_at "bd"); (case a2 => walk_at "bd"))
  | (with_reducible refine' Bd.add ?a1 ?a2; (case a1 => walk_at "bd"); (case a2 => walk_at "bd"))
  | (with_reducible refine' Bd.sub ?a1 ?a2; (case a1 => walk_at "bd"); (case a2 => walk_at "bd"))
  | (with_reducible refine' Bd.pow ?a1 _; (case a1 => walk_at "bd"))
  | (with_reducible refine' Bd.ite ?a1 ?a2; (case a1 => walk_at "bd"); (case a2 => walk_at "bd"))
  | (with_reducible refine' Bd.of_lt ?z1 ?z2 ?z3; (case z1 => assumption); (case z2 => assumption); (case z3 => walk_at "bd"))
  | (with_reducible refine' Bd.of_le ?z1 ?z2 ?z3; (case z1 => assumption); (case z2 => assumption); (case z3 => walk_at "bd"))
  | (with_reducible refine' Bd.div ?a1; (case a1 => walk_at "bd"))
  | (with_reducible refine' Bd.mod ?a1 ?a2; (case a1 => walk_at "bd"); (case a2 => walk_at "pos")))
local macro_rules | `(tactic| walk_at "bdu") => `(tactic| (refine' Bd.up ?u1 ?u2; (case u1 => walk_at "bd"); (case u2 => decide +kernel)))
local macro_rules | `(tactic| walk_at "tn") => `(tactic| first | assumption | exact tn_bk2 (by assumption) | exact Tn.zero (by assumption) | exact tn_one (by assumption) (by assumption) | exact ⟨by decide, by decide, by decide, by decide, by decide, by decide, by decide, by decide⟩)
local macro_rules | `(tactic| walk_at "m") => `(tactic| first | assumption | omega)
local macro_rules | `(tactic| walk_at "isi") => `(tactic| first | refine drc_isi rfl k_ii ?_ | refine drc_isi rfl k_ib ?_ | refine drc_isi rfl k_tt ?_ | refine drc_isi rfl k_bi ?_ | refine drc_isi rfl k_bb ?_ | refine drc_isi rfl k_it ?_ | refine drc_isi rfl k_st ?_ | refine drc_isi rfl k_nt ?_ | refine drc_isi rfl k_lt ?_ | refine drc_isi rfl k_bt ?_ | refine drc_isi rfl k_si ?_ | refine drc_isi rfl k_ni ?_ | refine drc_isi rfl k_ti ?_ | refine drc_isi rfl k_li ?_ | refine drc_isi rfl k_ll ?_)
local macro_rules | `(tactic| walk_at "no") => `(tactic| exact absurd hc (by simp))
local macro_rules | `(tactic| walk_at "cmw") => `(tactic| (refine' cmw ?h1 ?h2 ?h3; (case h1 => walk_at "bd"); (case h2 => walk_at "bd"); (case h3 => decide +kernel)))
local macro_rules | `(tactic| walk_at "cdw") => `(tactic| (refine' cdw ?h1 ?h2 ?h3; (case h1 => walk_at "bd"); (case h2 => walk_at "pos"); (case h3 => decide +kernel)))
local macro_rules | `(tactic| walk_at "cpw") => `(tactic| (refine' cpw ?h1 ?h2 ?h3; (case h1 => walk_at "bd"); (case h2 => exact ⟨by decide, by decide⟩); (case h3 => decide +kernel)))
local macro_rules | `(tactic| walk_at "pos") => `(tactic| first | assumption | exact of_decide_eq_true (by assumption) | exact cc_pos (by assumption) | exact Int.mul_pos (cc_pos (by assumption)) (cc_pos (by assumption)) | omega | (split <;> omega) | decide +kernel)
local macro_rules | `(tactic| walk_at "len") => `(tactic| first | decide | omega | (simp; done) | (simp; omega) | (simp only [List.length_map, shC_len]; decide) | (show 3 + 3 ≤ 100000; decide))
local macro_rules | `(tactic| walk_at "len3") => `(tactic| first | decide | exact ⟨by simp, by simp, by simp⟩)
local macro_rules | `(tactic| walk_at "slice") => `(tactic| first | refine sl_1 ?_ | refine sl_m2 ?_ | refine sl_m3 ?_ | refine sl_t31 ?_ | refine sl_t2 ?_ | refine sl_l ?_)
local macro_rules | `(tactic| walk_at "ix") => `(tactic| first | refine ix_t ?_ | refine ix_t ?_ (by assumption) | refine ix_l ?_ | refine ix_o getS_hd ?_ | (refine ix_o (by walk_at "gets") ?_))
local macro_rules | `(tactic| walk_at "gets") => `(tactic| first | exact getS_hd | assumption | (rw [getS_tl (by assumption)]; first | exact getS_hd | assumption | exact getS_setS_same (by assumption)) | exact getS_setS_same (by assumption))
local macro_rules | `(tactic| walk_at "sets") => `(tactic| first | rw [setS_hd] | rw [setS_setS] | rw [setS_tl (by assumption)] | skip)
local macro_rules | `(tactic| walk_at "eq") => `(tactic| first | refine eq_int ?_ | refine eq_tup ?_ | refine eq_lst ?_ | refine eq_scr ?_ | refine eq_str ?_)
local macro_rules | `(tactic| walk_at "flat") => `(tactic| first | rfl | decide)
local macro_rules | `(tactic| walk_at "sho") => `(tactic| (simp only [rat, shoP, shoL, List.cons_append, List.nil_append, true_and, and_true] <;> walk_at "shos"))
local macro_rules | `(tactic| walk_at "shos") => `(tactic| first | trivial | (refine ⟨?_, ?_⟩ <;> walk_at "shos") | (refine' shw ?h1 ?h2; (case h1 => walk_at "bd"); (case h2 => decide +kernel)))
local macro_rules | `(tactic| walk_at "big") => `(tactic| (simp only [rat, bigD, bigL, List.cons_append, List.nil_append]; decide))
local macro_rules | `(tactic| walk_at "obj") => `(tactic| first | exact .inl ⟨_, rfl⟩ | exact .inr ⟨_, rfl⟩)
local macro_rules | `(tactic| walk_at "lenP") => `(tactic| first | refine (show lenP (.tup _) _ _ from ?_) | refine (show lenP (.lst _) _ _ from ?_) | refine (show lenP (.scr _) _ _ from ?_) | skip)
local macro_rules | `(tactic| walk_at "rng") => `(tactic| first | decide | omega)
local macro_rules | `(tactic| walk_at "ord") => `(tactic| skip)
local macro_rules | `(tactic| walk_at "wk") => `(tactic| (repeat (first | refine ⟨rfl, ?_⟩ | exact trivial)))
local macro_rules | `(tactic| walk_at "spx") => `(tactic| first | exact ⟨by assumption, by assumption⟩ | (refine ⟨?_, ?_⟩ <;> first | omega | (split <;> omega)))
local macro_rules | `(tactic| walk_at "at") => `(tactic| first | rfl | assumption)
local macro_rules | `(tactic| walk_at "isr") => `(tactic| first | assumption | exact re_is (by assumption) _ _ | exact ⟨⟨by decide, by decide⟩, by decide, by decide⟩)
local macro_rules | `(tactic| walk_at "isq") => `(tactic| first | exact isq_ok (root_p _ _) (sq_bd (by assumption)) | exact isq_ok (root_q _ _) (sq_bd (by assumption)) | exact ⟨by omega, (show Bd 3000 _ by walk_at "bdu")⟩)
local macro_rules | `(tactic| walk_at "n0") => `(tactic| first | assumption | omega | decide)
local macro_rules | `(tactic| walk_at "cfl") => `(tactic| first | exact flat_ints _ | exact flat_bls _ | rfl)
local macro_rules | `(tactic| walk_at "cpl") => `(tactic| first | exact plain_ints _ | exact plain_bls _ | rfl)
local macro_rules | `(tactic| walk_at "zl") => `(tactic| first | (rw [List.length_map, List.length_map]; assumption) | (simp only [List.length_map, List.length_range]; done) | (simp; done))
local macro_rules | `(tactic| walk_at "sets2") => `(tactic| first | rw [setS_hd] | (rw [setS_tl (by assumption)]; first | rw [setS_hd] | rw [setS_setS] | skip) | rw [setS_setS] | skip)
local macro_rules | `(tactic| walk_at "sc") => `(tactic| first | assumption | exact sc_great ⟨by assumption, by assumption⟩ ⟨by assumption, by assumption⟩ ⟨by assumption, by assumption⟩ | exact ⟨by decide, by decide, by decide, by decide, by decide, by decide, by decide⟩ | exact ⟨by decide +kernel, by decide +kernel, by decide +kernel, by decide +kernel, by decide +kernel, by decide +kernel, by decide +kernel⟩)
local macro_rules | `(tactic| walk_at "gi") => `(tactic| first | exact ⟨by assumption, by assumption⟩ | exact ⟨by omega, by omega⟩ | (refine ⟨?_, ?_⟩ <;> (try dsimp only) <;> split <;> omega) | (dsimp only; omega) | (refine ⟨?_, ?_⟩ <;> dsimp only <;> omega))
local macro_rules | `(tactic| walk_at "kw1") => `(tactic| first | assumption | exact ⟨by assumption, by assumption⟩)
local macro_rules | `(tactic| walk_at "kw") => `(tactic| first | assumption)
local macro_rules | `(tactic| walk_at "kwt") => `(tactic| first | assumption | exact kw_tn (by assumption))
local macro_rules | `(tactic| walk_at "kwl") => `(tactic| first | assumption | omega | (simp only [List.length_map, List.length_reverse]; omega))
local macro_rules | `(tactic| walk_at "rd") => `(tactic| first | (refine ⟨?_, ?_⟩ <;> first | assumption | omega | decide +kernel))
local macro_rules | `(tactic| walk_at "sx") => `(tactic| first | assumption | exact sx_bk (by assumption) | exact sx_rot (by assumption) _ | exact sx_kin (by assumption) _ _ ⟨by omega, by omega⟩ | exact ⟨by decide, by decide, by decide, by decide, by decide, by decide, by decide, by decide, by decide, by decide⟩)
local macro_rules | `(tactic| walk_at "k6") => `(tactic| first | exact ⟨by assumption, by assumption⟩ | exact ⟨by omega, by omega⟩)
local macro_rules | `(tactic| walk_at "shl") => `(tactic| first | omega | (simp only [List.length_map]; omega) | (rw [List.length_replicate]; omega))
local macro_rules | `(tactic| walk_at "nos") => `(tactic| first | assumption | exact noS_nil | exact noS_cons rfl noS_nil | exact noS_src1 (by assumption))
local macro_rules | `(tactic| walk_at "mlen") => `(tactic| (rw [List.length_map]; show _ * 2 ≤ _; omega))
section
variable {P : Program} {w : World} {K : PySem.W.Frag} {mg : Str → Option Value} {base : Heap}
abbrev s_is_whole : Stmt := top 8
theorem sc_is_whole : FnScope ["value"] ["value"] (defScope s_is_whole) := ⟨rfl, rfl, rfl, by decide +kernel, rfl, by decide +kernel, by decide +kernel⟩
set_option maxHeartbeats 40000000 in
theorem ok_is_whole {f : Addr} {fd : FuncData} (F : Fun K "is_whole" "is_whole" s_is_whole f fd) (n_bool : mg "bool" = none) (n_int : mg "int" = none) (n_isinstance : mg "isinstance" = none) : GOk P w K mg base 1 f fd ["value"] (spD K (con_wholeA K)) := by
  refine gok_ds F sc_is_whole (m := 0) rfl (fun ds S0 Q h => ?_) fun cdv A fr s0 H0 E0' gd hr ds S0 Q h => ?_
  · obtain ⟨_, rfl, _⟩ := h
    rfl
  obtain ⟨d, rfl, ⟨t9, hty, hi9, hb9, htu, hls, hst⟩, q⟩ := h
  refine ds_nrm ?_ (by set_option simprocs false in dsimp only [List.map, List.replicate, List.cons_append, List.nil_append])
  refine ds_cons ?_
  refine ds_ret ?_
  refine de_and ?_
  refine de_B call_isi_D n_isinstance bt_isinstance ?_
  refine da_cons ?_
  refine de_name 0 ?_
  refine da_cons ?_
  refine de_ty n_int bt_int ?_
  refine da_nil ?_
  refine drc_isiD hty hi9 ?_
  refine ⟨_, rfl, fun hb => ?_, fun hb => ?_⟩
  · rw [show wholeD d = false by cases d <;> first | rfl | cases hb] at q; exact q
  refine de_one ?_
  refine de_not ?_
  refine de_B call_isi_D n_isinstance bt_isinstance ?_
  refine da_cons ?_
  refine de_name 0 ?_
  refine da_cons ?_
  refine de_ty n_bool bt_bool ?_
  refine da_nil ?_
  refine drc_isiD hty hb9 ?_
  refine ⟨_, rfl, ?_⟩
  rw [show (!isBlD d) = wholeD d by cases d <;> first | rfl | cases hb]
  exact q
abbrev s_is_whole_tuple : Stmt := top 9
theorem sc_is_whole_tuple : FnScope ["value", "size", "part"] ["value", "size"] (defScope s_is_whole_tuple) := ⟨rfl, rfl, rfl, by decide +kernel, rfl, by decide +kernel, by decide +kernel⟩
set_option maxHeartbeats 40000000 in
theorem ok_is_whole_tuple {f : Addr} {fd : FuncData} (F : Fun K "is_whole_tuple" "is_whole_tuple" s_is_whole_tuple f fd) (c_is_whole : Cal P w K mg base 1 "is_whole" ["value"] [] (con_wholeA K)) (n_all : mg "all" = none) (n_isinstance : mg "isinstance" = none) (n_len : mg "len" = none) (n_tuple : mg "tuple" = none) : GOk P w K mg base 2 f fd ["value", "size"] (spD K (con_wtA K)) := by
  refine gok_ds F sc_is_whole_tuple (m := 1) rfl (fun ds S0 Q h => ?_) fun cdv A fr s0 H0 E0' gd hr ds S0 Q h => ?_
  · obtain ⟨_, _, rfl, _⟩ := h
    rfl
  obtain ⟨d, n, rfl, hA, hl9, q⟩ := h
  obtain ⟨t9, hty, hi9, hb9, htu, hls, hst⟩ := hA.v
  refine ds_nrm ?_ (by set_option simprocs false in dsimp only [List.map, List.replicate, List.cons_append, List.nil_append])
  refine ds_cons ?_
  refine ds_ret ?_
  refine de_and ?_
  refine de_B call_isi_D n_isinstance bt_isinstance ?_
  refine da_cons ?_
  refine de_name 0 ?_
  refine da_cons ?_
  refine de_ty n_tuple bt_tuple ?_
  refine da_nil ?_
  refine drc_isiD hty htu ?_
  refine ⟨_, rfl, fun hb => ?_, fun hb => ?_⟩
  · rw [show wtB n d = false by cases d <;> first | rfl | cases hb] at q; exact q
  obtain ⟨l9, rfl⟩ : ∃ l, d = .tup l := by cases d <;> first | exact ⟨_, rfl⟩ | cases hb
  refine de_and ?_
  refine de_eq (hr.units) ?_
  refine de_B call_len_seq n_len bt_len ?_
  refine da_cons ?_
  refine de_name 0 ?_
  refine da_nil ?_
  refine drc_len ?_
  walk_at "lenP"
  refine de_name 1 ?_
  refine eq_int ?_
  refine ⟨_, rfl, fun hb => ?_, fun hb => ?_⟩
  · rw [show wtB n (.tup l9) = false by rw [wtB, hb]; rfl] at q; exact q
  refine de_one ?_
  refine de_B (cr_all rfl) n_all bt_all ?_
  refine da_cons ?_
  refine de_lc 2 rfl sc_is_whole_tuple.nd (blkOk_by (N := ["value", "size", "part"]) (sc := defScope s_is_whole_tuple) (by decide +kernel)) ?_ (fun _ _ _ _ _ => pg_name sc_is_whole_tuple.nd rfl (Or.inl rfl))
  refine di_tup ?_
  refine de_name 0 ?_
  refine ⟨_, rfl, ?_⟩
  refine ⟨fun k acc S' => S' = S0 ∧ acc = (l9.map (fun z => D.bl (wholeD z))).take k, ⟨rfl, rfl⟩, fun k d9 acc S' p hk hP hp hl s H C cl fp => ?_, by have := hl9 l9 rfl; omega, fun acc S' hl hP => ?_⟩
  · obtain ⟨rfl, rfl⟩ := hP
    refine de_call c_is_whole gd (hr.mono (by decide)) ?_
    refine da_cons ?_
    refine de_name 2 ?_
    refine da_nil ?_
    refine ⟨_, rfl, hA.p _ rfl _ (List.mem_of_getElem? hk), ?_⟩
    exact ⟨_, rfl, rfl, by rw [take_step (fun z => D.bl (wholeD z)) hk]⟩
  obtain ⟨rfl, rfl⟩ := hP
  rw [List.take_of_length_le (by rw [List.length_map]; exact Nat.le_refl _), wt_map]
  refine da_nil ?_
  refine drc_all ?_
  rw [all_id]
  have q9 := q
  rw [wtB, hb, Bool.true_and] at q9
  exact q9
abbrev s_is_pixel : Stmt := top 15
theorem sc_is_pixel : FnScope ["value"] ["value"] (defScope s_is_pixel) := ⟨rfl, rfl, rfl, by decide +kernel, rfl, by decide +kernel, by decide +kernel⟩
set_option maxHeartbeats 40000000 in
theorem ok_is_pixel {f : Addr} {fd : FuncData} (F : Fun K "is_pixel" "is_pixel" s_is_pixel f fd) (c_is_whole_tuple : Cal P w K mg base 2 "is_whole_tuple" ["value", "size"] [] (con_wtA K)) : GOk P w K mg base 3 f fd ["value"] (spD K (con_pixA K)) := by
  refine gok_ds F sc_is_pixel (m := 0) rfl (fun ds S0 Q h => ?_) fun cdv A fr s0 H0 E0' gd hr ds S0 Q h => ?_
  · obtain ⟨_, rfl, _⟩ := h
    rfl
  obtain ⟨d, rfl, hA, hl9, q⟩ := h
  refine ds_nrm ?_ (by set_option simprocs false in dsimp only [List.map, List.replicate, List.cons_append, List.nil_append])
  refine ds_cons ?_
  refine ds_ret ?_
  refine de_call c_is_whole_tuple gd (hr.mono (by decide)) ?_
  refine da_cons ?_
  refine de_name 0 ?_
  refine da_cons ?_
  refine de_int ?_
  refine da_nil ?_
  refine ⟨_, _, rfl, hA, hl9, ?_⟩
  exact q
abbrev s_is_turn : Stmt := top 16
theorem sc_is_turn : FnScope ["value", "p", "q", "quarters"] ["value"] (defScope s_is_turn) := ⟨rfl, rfl, rfl, by decide +kernel, rfl, by decide +kernel, by decide +kernel⟩
set_option maxHeartbeats 40000000 in
theorem ok_is_turn {f : Addr} {fd : FuncData} (F : Fun K "is_turn" "is_turn" s_is_turn f fd) (b_gcd : mg "gcd" = some (.builtin "math.gcd")) (c_is_whole_tuple : Cal P w K mg base 2 "is_whole_tuple" ["value", "size"] [] (con_wtA K)) (g_GREATEST_P : ∃ u, mg "GREATEST_P" = some (.int (1000000000000000) u)) (n_abs : mg "abs" = none) : GOk P w K mg base 3 f fd ["value"] (spD K (con_turnA K)) := by
  refine gok_ds F sc_is_turn (m := 3) rfl (fun ds S0 Q h => ?_) fun cdv A fr s0 H0 E0' gd hr ds S0 Q h => ?_
  · obtain ⟨_, rfl, _⟩ := h
    rfl
  obtain ⟨d, rfl, hA, hl9, q⟩ := h
  obtain ⟨u0, gP⟩ := g_GREATEST_P
  refine ds_nrm ?_ (by set_option simprocs false in dsimp only [List.map, List.replicate, List.cons_append, List.nil_append])
  refine ds_cons ?_
  refine ds_if ?_
  refine dt_not ?_
  refine dt_val (h := ?_)
  refine de_call c_is_whole_tuple gd (hr.mono (by decide)) ?_
  refine da_cons ?_
  refine de_name 0 ?_
  refine da_cons ?_
  refine de_int ?_
  refine da_nil ?_
  refine ⟨_, _, rfl, hA, hl9, ?_⟩
  refine ⟨_, rfl, ?_⟩
  refine ⟨fun ht => ?_, fun ht => ?_⟩
  · rw [turnB_no (by simpa using ht)] at q
    refine ds_cons ?_
    refine ds_ret ?_
    refine de_bl ?_
    exact q
  obtain ⟨p, q', k, rfl⟩ := wt3 (d := d) (by simpa using ht)
  refine ds_nil ?_
  refine ds_cons ?_
  refine ds_asg (h := ?_)
  refine de_name 0 ?_
  first | refine dg_tup rfl rfl ?_ | refine dg_tupL rfl rfl ?_ (fun h => pg_lst rfl h)
  refine dgs_cons (h := ?_)
  refine dg_name 1 ?_ sc_is_turn.nd
  refine dgs_cons (h := ?_)
  refine dg_name 2 ?_ sc_is_turn.nd
  refine dgs_cons (h := ?_)
  refine dg_name 3 ?_ sc_is_turn.nd
  refine dgs_nil ?_
  refine ds_cons ?_
  refine ds_if ?_
  refine DT.mono (Q := fun b' S' => S0 = S' ∧ (b' = true → turnB (.tup [.int p, .int q', .int k]) = false) ∧ (b' = false → 1 ≤ p ∧ p ≤ 1000000000000000 ∧ -p < q' ∧ q' < p ∧ 0 ≤ k ∧ k ≤ 3)) ?_ ?_
  · refine dt_w ?_
    refine dw_or ?_
    refine dt_lt ?_
    refine de_name 1 ?_
    refine de_int ?_
    refine ⟨_, _, rfl, rfl, ?_⟩
    refine ⟨fun hb => ?_, fun hc1 => ?_⟩
    · exact ⟨rfl, fun _ => by have z := of_decide_eq_true hb; unfold turnB tnB; exact decide_eq_false (by (try split at z) <;> omega), fun z => nomatch z⟩
    refine dw_or ?_
    refine dt_gt ?_
    refine de_name 1 ?_
    refine de_globI gP ?_
    refine ⟨_, _, rfl, rfl, ?_⟩
    refine ⟨fun hb => ?_, fun hc2 => ?_⟩
    · exact ⟨rfl, fun _ => by have z := of_decide_eq_true hb; unfold turnB tnB; exact decide_eq_false (by (try split at z) <;> omega), fun z => nomatch z⟩
    refine dw_or ?_
    refine dt_ge ?_
    refine de_B call_abs n_abs bt_abs ?_
    refine da_cons ?_
    refine de_name 2 ?_
    refine da_nil ?_
    refine drc_abs ?_
    refine de_name 1 ?_
    refine ⟨_, _, rfl, rfl, ?_⟩
    refine ⟨fun hb => ?_, fun hc3 => ?_⟩
    · exact ⟨rfl, fun _ => by have z := of_decide_eq_true hb; unfold turnB tnB; exact decide_eq_false (by (try split at z) <;> omega), fun z => nomatch z⟩
    refine dw_or ?_
    refine dt_lt ?_
    refine de_name 3 ?_
    refine de_int ?_
    refine ⟨_, _, rfl, rfl, ?_⟩
    refine ⟨fun hb => ?_, fun hc4 => ?_⟩
    · exact ⟨rfl, fun _ => by have z := of_decide_eq_true hb; unfold turnB tnB; exact decide_eq_false (by (try split at z) <;> omega), fun z => nomatch z⟩
    refine dw_or1 ?_
    refine dt_gt ?_
    refine de_name 3 ?_
    refine de_int ?_
    refine ⟨_, _, rfl, rfl, ?_⟩
    refine ⟨rfl, fun z => ?_, fun z => ?_⟩
    · have z := of_decide_eq_true z
      unfold turnB tnB
      exact decide_eq_false (by omega)
    · have c1 := of_decide_eq_false hc1; have c2 := of_decide_eq_false hc2; have c3 := of_decide_eq_false hc3; have c4 := of_decide_eq_false hc4; have c5 := of_decide_eq_false z; split at c3 <;> omega
  rintro b' _ ⟨rfl, hbt, hbf⟩
  refine ⟨fun ht => ?_, fun ht => ?_⟩
  · rw [hbt ht] at q
    refine ds_cons ?_
    refine ds_ret ?_
    refine de_bl ?_
    exact q
  obtain ⟨h1, h2, h3, h4, h5, h6⟩ := hbf ht
  refine ds_nil ?_
  refine ds_cons ?_
  refine ds_ret ?_
  refine de_and ?_
  refine de_eq (hr.units) ?_
  refine de_mod ?_
  refine de_add ?_
  refine de_name 1 ?_
  refine de_name 2 ?_
  first | refine add_int ?_ | refine add_lst ?_ (by walk_at "len") | refine add_tup ?_ (by walk_at "len3") | refine add_scr ?_ (by walk_at "len") | refine (show addP (.str _) (.str _) _ _ from ⟨by decide +kernel, ?_⟩)
  refine de_int ?_
  refine ⟨_, _, rfl, rfl, (by walk_at "pos"), ?_⟩
  refine de_int ?_
  refine eq_int ?_
  refine ⟨_, rfl, fun hb => ?_, fun hb => ?_⟩
  · rw [show turnB (.tup [.int p, .int q', .int k]) = false by unfold turnB tnB; exact decide_eq_false (fun z => (of_decide_eq_false hb) z.2.2.2.2.2.2.1)] at q; exact q
  refine de_one ?_
  refine de_eq (hr.units) ?_
  refine de_gcd b_gcd ?_
  refine da_cons ?_
  refine de_name 1 ?_
  refine da_cons ?_
  refine de_name 2 ?_
  refine da_nil ?_
  refine ⟨_, _, rfl, ?_⟩
  refine de_int ?_
  refine eq_int ?_
  rw [show decide (((Nat.gcd p.natAbs q'.natAbs : Nat) : Int) = 1) = turnB (.tup [.int p, .int q', .int k]) by unfold turnB tnB; exact decide_eq_decide.mpr ⟨fun z => ⟨h1, h2, h3, h4, h5, h6, of_decide_eq_true hb, by omega⟩, fun z => by have := z.2.2.2.2.2.2.2; omega⟩]
  exact q
abbrev s_check_pixel : Stmt := top 17
theorem sc_check_pixel : FnScope ["pixel"] ["pixel"] (defScope s_check_pixel) := ⟨rfl, rfl, rfl, by decide +kernel, rfl, by decide +kernel, by decide +kernel⟩
set_option maxHeartbeats 40000000 in
theorem ok_check_pixel {f : Addr} {fd : FuncData} (F : Fun K "check_pixel" "check_pixel" s_check_pixel f fd) (c_is_pixel : Cal P w K mg base 3 "is_pixel" ["value"] [] (con_pixA K)) : GOk P w K mg base 4 f fd ["pixel"] (spD K con_check_pixel) := by
  refine gok_ds F sc_check_pixel (m := 0) rfl (fun ds S0 Q h => ?_) fun cdv A fr s0 H0 E0' gd hr ds S0 Q h => ?_
  · obtain ⟨_, _, rfl, _⟩ := h
    rfl
  obtain ⟨x, y, rfl, q⟩ := h
  refine ds_nrm ?_ (by set_option simprocs false in dsimp only [List.map, List.replicate, List.cons_append, List.nil_append])
  refine ds_cons ?_
  refine ds_if ?_
  refine dt_not ?_
  refine dt_val (h := ?_)
  refine de_call c_is_pixel gd (hr.mono (by decide)) ?_
  refine da_cons ?_
  refine de_name 0 ?_
  refine da_nil ?_
  refine ⟨_, rfl, any_pt rfl, (fun l e => by cases e; exact Nat.le_add_left 2 998), ?_⟩
  refine ⟨_, rfl, ?_⟩
  refine ⟨fun ht => ?_, fun ht => ?_⟩
  · cases ht
  refine ds_nil ?_
  refine ds_nil ?_
  exact q
abbrev s_check_turn : Stmt := top 18
theorem sc_check_turn : FnScope ["turn"] ["turn"] (defScope s_check_turn) := ⟨rfl, rfl, rfl, by decide +kernel, rfl, by decide +kernel, by decide +kernel⟩
set_option maxHeartbeats 40000000 in
theorem ok_check_turn {f : Addr} {fd : FuncData} (F : Fun K "check_turn" "check_turn" s_check_turn f fd) (c_is_turn : Cal P w K mg base 3 "is_turn" ["value"] [] (con_turnA K)) : GOk P w K mg base 4 f fd ["turn"] (spD K con_check_turn) := by
  refine gok_ds F sc_check_turn (m := 0) rfl (fun ds S0 Q h => ?_) fun cdv A fr s0 H0 E0' gd hr ds S0 Q h => ?_
  · obtain ⟨_, _, _, rfl, _⟩ := h
    rfl
  obtain ⟨p, q, k, rfl, hT, qq⟩ := h
  refine ds_nrm ?_ (by set_option simprocs false in dsimp only [List.map, List.replicate, List.cons_append, List.nil_append])
  refine ds_cons ?_
  refine ds_if ?_
  refine dt_not ?_
  refine dt_val (h := ?_)
  refine de_call c_is_turn gd (hr.mono (by decide)) ?_
  refine da_cons ?_
  refine de_name 0 ?_
  refine da_nil ?_
  refine ⟨_, rfl, any_pt rfl, (fun l e => by cases e; exact Nat.le_add_left 3 997), ?_⟩
  rw [tn_turnB hT]
  refine ⟨_, rfl, ?_⟩
  refine ⟨fun ht => ?_, fun ht => ?_⟩
  · cases ht
  refine ds_nil ?_
  refine ds_nil ?_
  exact qq
set_option maxHeartbeats 40000000 in
theorem okx_check_pixel {f : Addr} {fd : FuncData} (F : Fun K "check_pixel" "check_pixel" s_check_pixel f fd) {C_InvalidPixel : Addr} (c_is_pixel : Cal P w K mg base 3 "is_pixel" ["value"] [] (con_pixA K)) (o_InvalidPixel : OwnErr K mg "InvalidPixel" C_InvalidPixel) : GOkX P w K mg base 4 f fd ["pixel"] (spDX K (con_chkX K pixB C_InvalidPixel)) := by
  refine gokx_ds F sc_check_pixel (m := 0) rfl (fun ds S0 Q R h => ?_) fun cdv A fr s0 H0 E0' gd hr ds S0 Q R h => ?_
  · obtain ⟨_, rfl, _⟩ := h
    rfl
  obtain ⟨d, rfl, hA, q1, q2⟩ := h
  refine dsx_nrm ?_ (by set_option simprocs false in dsimp only [List.map, List.replicate, List.cons_append, List.nil_append])
  refine dsx_cons ?_
  refine dsx_if ?_
  refine dt_not ?_
  refine dt_val (h := ?_)
  refine de_call c_is_pixel gd (hr.mono (by decide)) ?_
  refine da_cons ?_
  refine de_name 0 ?_
  refine da_nil ?_
  refine ⟨_, rfl, hA.t, hA.l, ?_⟩
  refine ⟨_, rfl, ?_⟩
  refine ⟨fun ht => ?_, fun ht => ?_⟩
  · refine dsx_cons ?_
    refine dsx_raise_own o_InvalidPixel rfl ?_
    exact q1 (by simpa using ht)
  refine dsx_nil ?_
  refine dsx_nil ?_
  exact q2 (by simpa using ht)
set_option maxHeartbeats 40000000 in
theorem okx_check_turn {f : Addr} {fd : FuncData} (F : Fun K "check_turn" "check_turn" s_check_turn f fd) {C_InvalidTurn : Addr} (c_is_turn : Cal P w K mg base 3 "is_turn" ["value"] [] (con_turnA K)) (o_InvalidTurn : OwnErr K mg "InvalidTurn" C_InvalidTurn) : GOkX P w K mg base 4 f fd ["turn"] (spDX K (con_chkX K turnB C_InvalidTurn)) := by
  refine gokx_ds F sc_check_turn (m := 0) rfl (fun ds S0 Q R h => ?_) fun cdv A fr s0 H0 E0' gd hr ds S0 Q R h => ?_
  · obtain ⟨_, rfl, _⟩ := h
    rfl
  obtain ⟨d, rfl, hA, q1, q2⟩ := h
  refine dsx_nrm ?_ (by set_option simprocs false in dsimp only [List.map, List.replicate, List.cons_append, List.nil_append])
  refine dsx_cons ?_
  refine dsx_if ?_
  refine dt_not ?_
  refine dt_val (h := ?_)
  refine de_call c_is_turn gd (hr.mono (by decide)) ?_
  refine da_cons ?_
  refine de_name 0 ?_
  refine da_nil ?_
  refine ⟨_, rfl, hA.t, hA.l, ?_⟩
  refine ⟨_, rfl, ?_⟩
  refine ⟨fun ht => ?_, fun ht => ?_⟩
  · refine dsx_cons ?_
    refine dsx_raise_own o_InvalidTurn rfl ?_
    exact q1 (by simpa using ht)
  refine dsx_nil ?_
  refine dsx_nil ?_
  exact q2 (by simpa using ht)
abbrev s_nearest : Stmt := top 10
theorem sc_nearest : FnScope ["number", "divisor"] ["number", "divisor"] (defScope s_nearest) := ⟨rfl, rfl, rfl, by decide +kernel, rfl, by decide +kernel, by decide +kernel⟩
set_option maxHeartbeats 40000000 in
theorem ok_nearest {f : Addr} {fd : FuncData} (F : Fun K "nearest" "nearest" s_nearest f fd)  : GOk P w K mg base 1 f fd ["number", "divisor"] (spD K con_nearest) := by
  refine gok_ds F sc_nearest (m := 0) rfl (fun ds S0 Q h => ?_) fun cdv A fr s0 H0 E0' gd hr ds S0 Q h => ?_
  · obtain ⟨_, _, rfl, _⟩ := h
    rfl
  obtain ⟨n, d, rfl, ⟨b1, b2, b3⟩, q⟩ := h
  refine ds_nrm ?_ (by set_option simprocs false in dsimp only [List.map, List.replicate, List.cons_append, List.nil_append])
  refine ds_cons ?_
  refine ds_ret ?_
  refine de_fdiv ?_
  refine de_add ?_
  refine de_mul ?_
  refine de_int ?_
  refine de_name 0 ?_
  first | refine mul_i ?_ (by walk_at "cmw") | refine mul_l ?_ ⟨by decide, by decide, by first | decide | exact Nat.le_of_ble_eq_true rfl | walk_at "mlen"⟩
  refine de_name 1 ?_
  first | refine add_int ?_ | refine add_lst ?_ (by walk_at "len") | refine add_tup ?_ (by walk_at "len3") | refine add_scr ?_ (by walk_at "len") | refine (show addP (.str _) (.str _) _ _ from ⟨by decide +kernel, ?_⟩)
  refine de_mul ?_
  refine de_int ?_
  refine de_name 1 ?_
  first | refine mul_i ?_ (by walk_at "cmw") | refine mul_l ?_ ⟨by decide, by decide, by first | decide | exact Nat.le_of_ble_eq_true rfl | walk_at "mlen"⟩
  refine ⟨_, _, rfl, rfl, (by walk_at "cdw"), ?_⟩
  unfold nrr at q
  exact q
abbrev s_times : Stmt := top 11
theorem sc_times : FnScope ["one", "other", "x", "y", "r", "s"] ["one", "other"] (defScope s_times) := ⟨rfl, rfl, rfl, by decide +kernel, rfl, by decide +kernel, by decide +kernel⟩
set_option maxHeartbeats 40000000 in
theorem ok_times {f : Addr} {fd : FuncData} (F : Fun K "times" "times" s_times f fd)  : GOk P w K mg base 1 f fd ["one", "other"] (spD K con_times) := by
  refine gok_ds F sc_times (m := 4) rfl (fun ds S0 Q h => ?_) fun cdv A fr s0 H0 E0' gd hr ds S0 Q h => ?_
  · obtain ⟨_, _, _, _, rfl, _⟩ := h
    rfl
  obtain ⟨x, y, r, s, rfl, ⟨b1, b2, b3, b4⟩, q⟩ := h
  refine ds_nrm ?_ (by set_option simprocs false in dsimp only [List.map, List.replicate, List.cons_append, List.nil_append])
  refine ds_cons ?_
  refine ds_asg (h := ?_)
  refine de_name 0 ?_
  first | refine dg_tup rfl rfl ?_ | refine dg_tupL rfl rfl ?_ (fun h => pg_lst rfl h)
  refine dgs_cons (h := ?_)
  refine dg_name 2 ?_ sc_times.nd
  refine dgs_cons (h := ?_)
  refine dg_name 3 ?_ sc_times.nd
  refine dgs_nil ?_
  refine ds_cons ?_
  refine ds_asg (h := ?_)
  refine de_name 1 ?_
  first | refine dg_tup rfl rfl ?_ | refine dg_tupL rfl rfl ?_ (fun h => pg_lst rfl h)
  refine dgs_cons (h := ?_)
  refine dg_name 4 ?_ sc_times.nd
  refine dgs_cons (h := ?_)
  refine dg_name 5 ?_ sc_times.nd
  refine dgs_nil ?_
  refine ds_cons ?_
  refine ds_ret ?_
  refine de_tup ?_
  refine da_cons ?_
  refine de_sub ?_
  refine de_mul ?_
  refine de_name 2 ?_
  refine de_name 4 ?_
  first | refine mul_i ?_ (by walk_at "cmw") | refine mul_l ?_ ⟨by decide, by decide, by first | decide | exact Nat.le_of_ble_eq_true rfl | walk_at "mlen"⟩
  refine de_mul ?_
  refine de_name 3 ?_
  refine de_name 5 ?_
  first | refine mul_i ?_ (by walk_at "cmw") | refine mul_l ?_ ⟨by decide, by decide, by first | decide | exact Nat.le_of_ble_eq_true rfl | walk_at "mlen"⟩
  refine ⟨_, _, rfl, rfl, ?_⟩
  refine da_cons ?_
  refine de_add ?_
  refine de_mul ?_
  refine de_name 2 ?_
  refine de_name 5 ?_
  first | refine mul_i ?_ (by walk_at "cmw") | refine mul_l ?_ ⟨by decide, by decide, by first | decide | exact Nat.le_of_ble_eq_true rfl | walk_at "mlen"⟩
  refine de_mul ?_
  refine de_name 3 ?_
  refine de_name 4 ?_
  first | refine mul_i ?_ (by walk_at "cmw") | refine mul_l ?_ ⟨by decide, by decide, by first | decide | exact Nat.le_of_ble_eq_true rfl | walk_at "mlen"⟩
  first | refine add_int ?_ | refine add_lst ?_ (by walk_at "len") | refine add_tup ?_ (by walk_at "len3") | refine add_scr ?_ (by walk_at "len") | refine (show addP (.str _) (.str _) _ _ from ⟨by decide +kernel, ?_⟩)
  refine da_nil ?_
  refine ⟨by walk_at "len", ?_⟩
  exact q
abbrev s_legs_of : Stmt := top 19
theorem sc_legs_of : FnScope ["turn", "p", "q", "quarters", "a", "b", "_"] ["turn"] (defScope s_legs_of) := ⟨rfl, rfl, rfl, by decide +kernel, rfl, by decide +kernel, by decide +kernel⟩
set_option maxHeartbeats 40000000 in
theorem ok_legs_of {f : Addr} {fd : FuncData} (F : Fun K "legs_of" "legs_of" s_legs_of f fd) (c_check_turn : Cal P w K mg base 4 "check_turn" ["turn"] [] con_check_turn) (c_times : Cal P w K mg base 1 "times" ["one", "other"] [] con_times) (n_range : mg "range" = none) : GOk P w K mg base 5 f fd ["turn"] (spD K con_legs_of) := by
  refine gok_ds F sc_legs_of (m := 6) rfl (fun ds S0 Q h => ?_) fun cdv A fr s0 H0 E0' gd hr ds S0 Q h => ?_
  · obtain ⟨_, _, _, rfl, _⟩ := h
    rfl
  obtain ⟨p, q, k, rfl, hT, qq⟩ := h
  have h5 := hT.k1
  have h6 := hT.k2
  have b1 := hT.bp
  have b2 := hT.bq
  refine ds_nrm ?_ (by set_option simprocs false in dsimp only [List.map, List.replicate, List.cons_append, List.nil_append])
  refine ds_cons ?_
  refine ds_expr (h := ?_)
  refine de_call c_check_turn gd (hr.mono (by decide)) ?_
  refine da_cons ?_
  refine de_name 0 ?_
  refine da_nil ?_
  refine ⟨_, _, _, rfl, by walk_at "tn", ?_⟩
  refine ds_cons ?_
  refine ds_asg (h := ?_)
  refine de_name 0 ?_
  first | refine dg_tup rfl rfl ?_ | refine dg_tupL rfl rfl ?_ (fun h => pg_lst rfl h)
  refine dgs_cons (h := ?_)
  refine dg_name 1 ?_ sc_legs_of.nd
  refine dgs_cons (h := ?_)
  refine dg_name 2 ?_ sc_legs_of.nd
  refine dgs_cons (h := ?_)
  refine dg_name 3 ?_ sc_legs_of.nd
  refine dgs_nil ?_
  refine ds_cons ?_
  refine ds_asg (h := ?_)
  refine de_call c_times gd (hr.mono (by decide)) ?_
  refine da_cons ?_
  refine de_tup ?_
  refine da_cons ?_
  refine de_name 1 ?_
  refine da_cons ?_
  refine de_name 2 ?_
  refine da_nil ?_
  refine ⟨by walk_at "len", ?_⟩
  refine da_cons ?_
  refine de_tup ?_
  refine da_cons ?_
  refine de_name 1 ?_
  refine da_cons ?_
  refine de_name 2 ?_
  refine da_nil ?_
  refine ⟨by walk_at "len", ?_⟩
  refine da_nil ?_
  refine ⟨_, _, _, _, rfl, ⟨by walk_at "bdu", by walk_at "bdu", by walk_at "bdu", by walk_at "bdu"⟩, ?_⟩
  first | refine dg_tup rfl rfl ?_ | refine dg_tupL rfl rfl ?_ (fun h => pg_lst rfl h)
  refine dgs_cons (h := ?_)
  refine dg_name 4 ?_ sc_legs_of.nd
  refine dgs_cons (h := ?_)
  refine dg_name 5 ?_ sc_legs_of.nd
  refine dgs_nil ?_
  refine ds_cons ?_
  refine ds_for (γ := Nat) PassesOwn.never rfl ?_
  refine di_rng1 n_range ?_
  refine da_cons ?_
  refine de_name 3 ?_
  refine da_nil ?_
  refine ⟨_, rfl, (by walk_at "rng"), ?_⟩
  refine ⟨fun j : Nat => [some (.tup [.int p, .int q, .int k]), some (.int p), some (.int q), some (.int k), some (.int (rtX j (p * p - q * q) (p * q + q * p))), some (.int (rtY j (p * p - q * q) (p * q + q * p))), none], fun i j S' => j = i ∧ S' = S0, 0, ⟨rfl, rfl, rfl, rfl, rfl, rfl, trivial⟩, ⟨rfl, rfl⟩, fun i d j S' hi hP => ?_, fun j S' hP => ?_⟩
  · obtain ⟨rfl, rfl⟩ := hP
    obtain ⟨hlt, rfl⟩ := rngD_get hi
    have hj : j < 3 := by omega
    refine dg_name 6 ?_ sc_legs_of.nd
    refine ds_cons ?_
    refine ds_par (i := 4) (j := 5) rfl sc_legs_of.nd rfl rfl (by decide) ?_
    refine da_cons ?_
    refine de_neg ?_
    refine de_name 5 ?_
    refine ⟨_, rfl, ?_⟩
    refine da_cons ?_
    refine de_name 4 ?_
    refine da_nil ?_
    refine ⟨_, _, rfl, ?_⟩
    refine ds_nrm ?_
    refine ds_nil ?_
    exact ⟨j + 1, ⟨rfl, rfl, rfl, rfl, by rw [(rt_step j hj _ _).1] <;> rfl, by rw [(rt_step j hj _ _).2] <;> rfl, trivial⟩, rfl, rfl⟩
  obtain ⟨rfl, rfl⟩ := hP
  rw [rngD_len]
  refine ds_cons ?_
  refine ds_ret ?_
  refine de_tup ?_
  refine da_cons ?_
  refine de_name 4 ?_
  refine da_cons ?_
  refine de_name 5 ?_
  refine da_cons ?_
  refine de_add ?_
  refine de_mul ?_
  refine de_name 1 ?_
  refine de_name 1 ?_
  first | refine mul_i ?_ (by walk_at "cmw") | refine mul_l ?_ ⟨by decide, by decide, by first | decide | exact Nat.le_of_ble_eq_true rfl | walk_at "mlen"⟩
  refine de_mul ?_
  refine de_name 2 ?_
  refine de_name 2 ?_
  first | refine mul_i ?_ (by walk_at "cmw") | refine mul_l ?_ ⟨by decide, by decide, by first | decide | exact Nat.le_of_ble_eq_true rfl | walk_at "mlen"⟩
  first | refine add_int ?_ | refine add_lst ?_ (by walk_at "len") | refine add_tup ?_ (by walk_at "len3") | refine add_scr ?_ (by walk_at "len") | refine (show addP (.str _) (.str _) _ _ from ⟨by decide +kernel, ?_⟩)
  refine da_nil ?_
  refine ⟨by walk_at "len", ?_⟩
  unfold lgA lgB at qq
  exact qq
abbrev s_exact_place : Stmt := top 20
theorem sc_exact_place : FnScope ["turn", "pixel", "a", "b", "c", "x", "y"] ["turn", "pixel"] (defScope s_exact_place) := ⟨rfl, rfl, rfl, by decide +kernel, rfl, by decide +kernel, by decide +kernel⟩
set_option maxHeartbeats 40000000 in
theorem ok_exact_place {f : Addr} {fd : FuncData} (F : Fun K "exact_place" "exact_place" s_exact_place f fd) (c_check_pixel : Cal P w K mg base 4 "check_pixel" ["pixel"] [] con_check_pixel) (c_check_turn : Cal P w K mg base 4 "check_turn" ["turn"] [] con_check_turn) (c_legs_of : Cal P w K mg base 5 "legs_of" ["turn"] [] con_legs_of) (c_times : Cal P w K mg base 1 "times" ["one", "other"] [] con_times) : GOk P w K mg base 6 f fd ["turn", "pixel"] (spD K con_exact_place) := by
  refine gok_ds F sc_exact_place (m := 5) rfl (fun ds S0 Q h => ?_) fun cdv A fr s0 H0 E0' gd hr ds S0 Q h => ?_
  · obtain ⟨_, _, _, _, _, rfl, _⟩ := h
    rfl
  obtain ⟨p, q, k, x, y, rfl, hT, ⟨bx, by'⟩, qq⟩ := h
  have b1 := hT.bp
  have b2 := hT.bq
  refine ds_nrm ?_ (by set_option simprocs false in dsimp only [List.map, List.replicate, List.cons_append, List.nil_append])
  refine ds_cons ?_
  refine ds_expr (h := ?_)
  refine de_call c_check_turn gd (hr.mono (by decide)) ?_
  refine da_cons ?_
  refine de_name 0 ?_
  refine da_nil ?_
  refine ⟨_, _, _, rfl, by walk_at "tn", ?_⟩
  refine ds_cons ?_
  refine ds_expr (h := ?_)
  refine de_call c_check_pixel gd (hr.mono (by decide)) ?_
  refine da_cons ?_
  refine de_name 1 ?_
  refine da_nil ?_
  refine ⟨_, _, rfl, ?_⟩
  refine ds_cons ?_
  refine ds_asg (h := ?_)
  refine de_call c_legs_of gd (hr.mono (by decide)) ?_
  refine da_cons ?_
  refine de_name 0 ?_
  refine da_nil ?_
  refine ⟨_, _, _, rfl, by walk_at "tn", ?_⟩
  first | refine dg_tup rfl rfl ?_ | refine dg_tupL rfl rfl ?_ (fun h => pg_lst rfl h)
  refine dgs_cons (h := ?_)
  refine dg_name 2 ?_ sc_exact_place.nd
  refine dgs_cons (h := ?_)
  refine dg_name 3 ?_ sc_exact_place.nd
  refine dgs_cons (h := ?_)
  refine dg_name 4 ?_ sc_exact_place.nd
  refine dgs_nil ?_
  refine ds_cons ?_
  refine ds_asg (h := ?_)
  refine de_call c_times gd (hr.mono (by decide)) ?_
  refine da_cons ?_
  refine de_tup ?_
  refine da_cons ?_
  refine de_name 2 ?_
  refine da_cons ?_
  refine de_name 3 ?_
  refine da_nil ?_
  refine ⟨by walk_at "len", ?_⟩
  refine da_cons ?_
  refine de_name 1 ?_
  refine da_nil ?_
  refine ⟨_, _, _, _, rfl, ⟨by walk_at "bdu", by walk_at "bdu", by walk_at "bdu", by walk_at "bdu"⟩, ?_⟩
  first | refine dg_tup rfl rfl ?_ | refine dg_tupL rfl rfl ?_ (fun h => pg_lst rfl h)
  refine dgs_cons (h := ?_)
  refine dg_name 5 ?_ sc_exact_place.nd
  refine dgs_cons (h := ?_)
  refine dg_name 6 ?_ sc_exact_place.nd
  refine dgs_nil ?_
  refine ds_cons ?_
  refine ds_ret ?_
  refine de_tup ?_
  refine da_cons ?_
  refine de_name 5 ?_
  refine da_cons ?_
  refine de_name 6 ?_
  refine da_cons ?_
  refine de_name 4 ?_
  refine da_nil ?_
  refine ⟨by walk_at "len", ?_⟩
  unfold exX exY at qq
  exact qq
abbrev s_image : Stmt := top 21
theorem sc_image : FnScope ["turn", "pixel", "x", "y", "c"] ["turn", "pixel"] (defScope s_image) := ⟨rfl, rfl, rfl, by decide +kernel, rfl, by decide +kernel, by decide +kernel⟩
set_option maxHeartbeats 40000000 in
theorem ok_image {f : Addr} {fd : FuncData} (F : Fun K "image" "image" s_image f fd) (c_exact_place : Cal P w K mg base 6 "exact_place" ["turn", "pixel"] [] con_exact_place) (c_nearest : Cal P w K mg base 1 "nearest" ["number", "divisor"] [] con_nearest) : GOk P w K mg base 7 f fd ["turn", "pixel"] (spD K con_image) := by
  refine gok_ds F sc_image (m := 3) rfl (fun ds S0 Q h => ?_) fun cdv A fr s0 H0 E0' gd hr ds S0 Q h => ?_
  · obtain ⟨_, _, _, _, _, rfl, _⟩ := h
    rfl
  obtain ⟨p, q, k, x, y, rfl, hT, ⟨bx, by'⟩, qq⟩ := h
  have b1 := hT.bp
  have b2 := hT.bq
  refine ds_nrm ?_ (by set_option simprocs false in dsimp only [List.map, List.replicate, List.cons_append, List.nil_append])
  refine ds_cons ?_
  refine ds_asg (h := ?_)
  refine de_call c_exact_place gd (hr.mono (by decide)) ?_
  refine da_cons ?_
  refine de_name 0 ?_
  refine da_cons ?_
  refine de_name 1 ?_
  refine da_nil ?_
  refine ⟨_, _, _, _, _, rfl, by walk_at "tn", ⟨by walk_at "bdu", by walk_at "bdu"⟩, ?_⟩
  first | refine dg_tup rfl rfl ?_ | refine dg_tupL rfl rfl ?_ (fun h => pg_lst rfl h)
  refine dgs_cons (h := ?_)
  refine dg_name 2 ?_ sc_image.nd
  refine dgs_cons (h := ?_)
  refine dg_name 3 ?_ sc_image.nd
  refine dgs_cons (h := ?_)
  refine dg_name 4 ?_ sc_image.nd
  refine dgs_nil ?_
  refine ds_cons ?_
  refine ds_ret ?_
  refine de_tup ?_
  refine da_cons ?_
  refine de_call c_nearest gd (hr.mono (by decide)) ?_
  refine da_cons ?_
  refine de_name 2 ?_
  refine da_cons ?_
  refine de_name 4 ?_
  refine da_nil ?_
  refine ⟨_, _, rfl, ⟨by walk_at "bdu", by walk_at "bdu", by walk_at "pos"⟩, ?_⟩
  refine da_cons ?_
  refine de_call c_nearest gd (hr.mono (by decide)) ?_
  refine da_cons ?_
  refine de_name 3 ?_
  refine da_cons ?_
  refine de_name 4 ?_
  refine da_nil ?_
  refine ⟨_, _, rfl, ⟨by walk_at "bdu", by walk_at "bdu", by walk_at "pos"⟩, ?_⟩
  refine da_nil ?_
  refine ⟨by walk_at "len", ?_⟩
  unfold imX imY at qq
  exact qq
abbrev s_back : Stmt := top 22
theorem sc_back : FnScope ["turn", "p", "q", "quarters"] ["turn"] (defScope s_back) := ⟨rfl, rfl, rfl, by decide +kernel, rfl, by decide +kernel, by decide +kernel⟩
set_option maxHeartbeats 40000000 in
theorem ok_back {f : Addr} {fd : FuncData} (F : Fun K "back" "back" s_back f fd) (c_check_turn : Cal P w K mg base 4 "check_turn" ["turn"] [] con_check_turn) : GOk P w K mg base 5 f fd ["turn"] (spD K con_back) := by
  refine gok_ds F sc_back (m := 3) rfl (fun ds S0 Q h => ?_) fun cdv A fr s0 H0 E0' gd hr ds S0 Q h => ?_
  · obtain ⟨_, _, _, rfl, _⟩ := h
    rfl
  obtain ⟨p, q, k, rfl, hT, qq⟩ := h
  refine ds_nrm ?_ (by set_option simprocs false in dsimp only [List.map, List.replicate, List.cons_append, List.nil_append])
  refine ds_cons ?_
  refine ds_expr (h := ?_)
  refine de_call c_check_turn gd (hr.mono (by decide)) ?_
  refine da_cons ?_
  refine de_name 0 ?_
  refine da_nil ?_
  refine ⟨_, _, _, rfl, by walk_at "tn", ?_⟩
  refine ds_cons ?_
  refine ds_asg (h := ?_)
  refine de_name 0 ?_
  first | refine dg_tup rfl rfl ?_ | refine dg_tupL rfl rfl ?_ (fun h => pg_lst rfl h)
  refine dgs_cons (h := ?_)
  refine dg_name 1 ?_ sc_back.nd
  refine dgs_cons (h := ?_)
  refine dg_name 2 ?_ sc_back.nd
  refine dgs_cons (h := ?_)
  refine dg_name 3 ?_ sc_back.nd
  refine dgs_nil ?_
  refine ds_cons ?_
  refine ds_ret ?_
  refine de_tup ?_
  refine da_cons ?_
  refine de_name 1 ?_
  refine da_cons ?_
  refine de_neg ?_
  refine de_name 2 ?_
  refine ⟨_, rfl, ?_⟩
  refine da_cons ?_
  refine de_mod ?_
  refine de_neg ?_
  refine de_name 3 ?_
  refine ⟨_, rfl, ?_⟩
  refine de_int ?_
  refine ⟨_, _, rfl, rfl, (by walk_at "pos"), ?_⟩
  refine da_nil ?_
  refine ⟨by walk_at "len", ?_⟩
  exact qq
abbrev s__law_source : Stmt := top 36
theorem sc__law_source : FnScope ["_law_entry", "_law_k", "_law_great"] ["_law_entry", "_law_k"] (defScope s__law_source) := ⟨rfl, rfl, rfl, by decide +kernel, rfl, by decide +kernel, by decide +kernel⟩
set_option maxHeartbeats 40000000 in
theorem ok__law_source {f : Addr} {fd : FuncData} (F : Fun K "_law_source" "_law_source" s__law_source f fd) (n_abs : mg "abs" = none) (n_int : mg "int" = none) (n_max : mg "max" = none) : GOk P w K mg base 1 f fd ["_law_entry", "_law_k"] (spD K con_source) := by
  refine gok_ds F sc__law_source (m := 1) rfl (fun ds S0 Q h => ?_) fun cdv A fr s0 H0 E0' gd hr ds S0 Q h => ?_
  · obtain ⟨_, _, rfl, _⟩ := h
    rfl
  obtain ⟨e, k, rfl, ⟨k1, k2⟩, q⟩ := h
  have bk : Bd 7 k := by unfold Bd; omega
  refine ds_nrm ?_ (by set_option simprocs false in dsimp only [List.map, List.replicate, List.cons_append, List.nil_append])
  refine ds_cons ?_
  refine ds_asg (h := ?_)
  refine de_B call_abs n_abs bt_abs ?_
  refine da_cons ?_
  refine de_name 0 ?_
  refine da_nil ?_
  refine drc_abs ?_
  refine dg_name 2 ?_ sc__law_source.nd
  refine ds_cons ?_
  refine ds_ret ?_
  refine de_lstO ?_
  refine da_cons ?_
  refine de_B (call_max2 rfl) n_max bt_max ?_
  refine da_cons ?_
  refine de_int ?_
  refine da_cons ?_
  refine de_sub ?_
  refine de_name 2 ?_
  refine de_pow ?_
  refine de_int ?_
  refine de_int ?_
  refine ⟨_, _, rfl, rfl, (by walk_at "cpw"), ?_⟩
  refine ⟨_, _, rfl, rfl, ?_⟩
  refine da_nil ?_
  refine drc_max ?_
  refine da_cons ?_
  refine de_add ?_
  refine de_add ?_
  refine de_mul ?_
  refine de_mod ?_
  refine de_T call_int1 n_int bt_int ?_
  refine da_cons ?_
  refine de_name 2 ?_
  refine da_nil ?_
  first | refine drc_int ?_ | refine drc_intb ?_
  refine de_add ?_
  refine de_pow ?_
  refine de_int ?_
  refine de_int ?_
  refine ⟨_, _, rfl, rfl, (by walk_at "cpw"), ?_⟩
  refine de_int ?_
  first | refine add_int ?_ | refine add_lst ?_ (by walk_at "len") | refine add_tup ?_ (by walk_at "len3") | refine add_scr ?_ (by walk_at "len") | refine (show addP (.str _) (.str _) _ _ from ⟨by decide +kernel, ?_⟩)
  refine ⟨_, _, rfl, rfl, (by walk_at "pos"), ?_⟩
  refine de_int ?_
  first | refine mul_i ?_ (by walk_at "cmw") | refine mul_l ?_ ⟨by decide, by decide, by first | decide | exact Nat.le_of_ble_eq_true rfl | walk_at "mlen"⟩
  refine de_mul ?_
  refine de_int ?_
  refine de_name 1 ?_
  first | refine mul_i ?_ (by walk_at "cmw") | refine mul_l ?_ ⟨by decide, by decide, by first | decide | exact Nat.le_of_ble_eq_true rfl | walk_at "mlen"⟩
  first | refine add_int ?_ | refine add_lst ?_ (by walk_at "len") | refine add_tup ?_ (by walk_at "len3") | refine add_scr ?_ (by walk_at "len") | refine (show addP (.str _) (.str _) _ _ from ⟨by decide +kernel, ?_⟩)
  refine de_T call_int1 n_int bt_int ?_
  refine da_cons ?_
  refine de_lt ?_
  refine de_name 0 ?_
  refine de_int ?_
  refine ⟨_, _, rfl, rfl, ?_⟩
  refine da_nil ?_
  first | refine drc_int ?_ | refine drc_intb ?_
  first | refine add_int ?_ | refine add_lst ?_ (by walk_at "len") | refine add_tup ?_ (by walk_at "len3") | refine add_scr ?_ (by walk_at "len") | refine (show addP (.str _) (.str _) _ _ from ⟨by decide +kernel, ?_⟩)
  refine da_cons ?_
  refine de_int ?_
  refine da_nil ?_
  refine ⟨by walk_at "len", fun p1 hp1 => ?_⟩
  exact q _ _ (by assumption) (src_mk (src_a _ _) (src_b _ _ _ ⟨k1, k2⟩))
abbrev s__law_draw : Stmt := top 37
theorem sc__law_draw : FnScope ["_law_source_here", "_law_count", "_law_digit", "_law_mixed"] ["_law_source_here", "_law_count"] (defScope s__law_draw) := ⟨rfl, rfl, rfl, by decide +kernel, rfl, by decide +kernel, by decide +kernel⟩
set_option maxHeartbeats 40000000 in
theorem ok__law_draw {f : Addr} {fd : FuncData} (F : Fun K "_law_draw" "_law_draw" s__law_draw f fd) (n_int : mg "int" = none) : GOk P w K mg base 1 f fd ["_law_source_here", "_law_count"] (spD K con_draw) := by
  refine gok_ds F sc__law_draw (m := 2) rfl (fun ds S0 Q h => ?_) fun cdv A fr s0 H0 E0' gd hr ds S0 Q h => ?_
  · obtain ⟨_, _, _, _, rfl, _⟩ := h
    rfl
  obtain ⟨p, n, l, m, rfl, hg, ⟨a, b, c, rfl, ha, hb, hc, hb0⟩, hm, hn, bn, qq⟩ := h
  have bc : Bd 30 c := by unfold Bd; omega
  have bc1 : Bd 30 (c + 1) := by unfold Bd; omega
  refine ds_nrm ?_ (by set_option simprocs false in dsimp only [List.map, List.replicate, List.cons_append, List.nil_append])
  refine ds_cons ?_
  refine ds_if ?_
  refine dt_gt ?_
  refine de_ix (h := ?_)
  refine de_name 0 ?_
  refine de_int ?_
  walk_at "ix"
  refine de_int ?_
  refine ⟨_, _, rfl, rfl, ?_⟩
  refine ⟨fun ht => ?_, fun ht => ?_⟩
  · refine ds_cons ?_
    refine ds_asg (h := ?_)
    refine de_mod ?_
    refine de_T call_int1 n_int bt_int ?_
    refine da_cons ?_
    refine de_ix (h := ?_)
    refine de_name 0 ?_
    refine de_int ?_
    walk_at "ix"
    refine da_nil ?_
    first | refine drc_int ?_ | refine drc_intb ?_
    refine de_name 1 ?_
    refine ⟨_, _, rfl, rfl, (by walk_at "pos"), ?_⟩
    refine dg_name 2 ?_ sc__law_draw.nd
    refine ds_cons ?_
    refine ds_asg (h := ?_)
    refine de_fdiv ?_
    refine de_ix (h := ?_)
    refine de_name 0 ?_
    refine de_int ?_
    walk_at "ix"
    refine de_name 1 ?_
    refine ⟨_, _, rfl, rfl, (by walk_at "cdw"), ?_⟩
    refine dg_sub ?_
    refine de_name 0 ?_
    refine de_int ?_
    refine ⟨_, _, _, _, rfl, rfl, (by walk_at "gets"), rfl, ?_⟩
    walk_at "sets"
    refine ds_cons ?_
    refine ds_ret ?_
    refine de_name 2 ?_
    exact qq _ _ (Int.emod_nonneg _ (by omega)) (Int.emod_lt_of_pos _ hn) (src_div ha hb hc hb0 hn)
  refine ds_nil ?_
  refine ds_cons ?_
  refine ds_asg (h := ?_)
  refine de_add ?_
  refine de_ix (h := ?_)
  refine de_name 0 ?_
  refine de_int ?_
  walk_at "ix"
  refine de_int ?_
  first | refine add_int ?_ | refine add_lst ?_ (by walk_at "len") | refine add_tup ?_ (by walk_at "len3") | refine add_scr ?_ (by walk_at "len") | refine (show addP (.str _) (.str _) _ _ from ⟨by decide +kernel, ?_⟩)
  refine dg_sub ?_
  refine de_name 0 ?_
  refine de_int ?_
  refine ⟨_, _, _, _, rfl, rfl, (by walk_at "gets"), rfl, ?_⟩
  walk_at "sets"
  refine ds_cons ?_
  refine ds_asg (h := ?_)
  refine de_mod ?_
  refine de_T call_int1 n_int bt_int ?_
  refine da_cons ?_
  refine de_pow ?_
  refine de_add ?_
  refine de_ix (h := ?_)
  refine de_name 0 ?_
  refine de_int ?_
  walk_at "ix"
  refine de_mul ?_
  refine de_int ?_
  refine de_ix (h := ?_)
  refine de_name 0 ?_
  refine de_int ?_
  walk_at "ix"
  first | refine mul_i ?_ (by walk_at "cmw") | refine mul_l ?_ ⟨by decide, by decide, by first | decide | exact Nat.le_of_ble_eq_true rfl | walk_at "mlen"⟩
  first | refine add_int ?_ | refine add_lst ?_ (by walk_at "len") | refine add_tup ?_ (by walk_at "len3") | refine add_scr ?_ (by walk_at "len") | refine (show addP (.str _) (.str _) _ _ from ⟨by decide +kernel, ?_⟩)
  refine de_int ?_
  refine ⟨_, _, rfl, rfl, (by walk_at "cpw"), ?_⟩
  refine da_nil ?_
  first | refine drc_int ?_ | refine drc_intb ?_
  refine de_add ?_
  refine de_pow ?_
  refine de_int ?_
  refine de_int ?_
  refine ⟨_, _, rfl, rfl, (by walk_at "cpw"), ?_⟩
  refine de_int ?_
  first | refine add_int ?_ | refine add_lst ?_ (by walk_at "len") | refine add_tup ?_ (by walk_at "len3") | refine add_scr ?_ (by walk_at "len") | refine (show addP (.str _) (.str _) _ _ from ⟨by decide +kernel, ?_⟩)
  refine ⟨_, _, rfl, rfl, (by walk_at "pos"), ?_⟩
  refine dg_name 3 ?_ sc__law_draw.nd
  refine ds_cons ?_
  refine ds_asg (h := ?_)
  refine de_mod ?_
  refine de_T call_int1 n_int bt_int ?_
  refine da_cons ?_
  refine de_pow ?_
  refine de_add ?_
  refine de_mul ?_
  refine de_name 3 ?_
  refine de_ix (h := ?_)
  refine de_name 0 ?_
  refine de_int ?_
  walk_at "ix"
  first | refine mul_i ?_ (by walk_at "cmw") | refine mul_l ?_ ⟨by decide, by decide, by first | decide | exact Nat.le_of_ble_eq_true rfl | walk_at "mlen"⟩
  refine de_int ?_
  first | refine add_int ?_ | refine add_lst ?_ (by walk_at "len") | refine add_tup ?_ (by walk_at "len3") | refine add_scr ?_ (by walk_at "len") | refine (show addP (.str _) (.str _) _ _ from ⟨by decide +kernel, ?_⟩)
  refine de_int ?_
  refine ⟨_, _, rfl, rfl, (by walk_at "cpw"), ?_⟩
  refine da_nil ?_
  first | refine drc_int ?_ | refine drc_intb ?_
  refine de_add ?_
  refine de_pow ?_
  refine de_int ?_
  refine de_int ?_
  refine ⟨_, _, rfl, rfl, (by walk_at "cpw"), ?_⟩
  refine de_int ?_
  first | refine add_int ?_ | refine add_lst ?_ (by walk_at "len") | refine add_tup ?_ (by walk_at "len3") | refine add_scr ?_ (by walk_at "len") | refine (show addP (.str _) (.str _) _ _ from ⟨by decide +kernel, ?_⟩)
  refine ⟨_, _, rfl, rfl, (by walk_at "pos"), ?_⟩
  refine dg_name 3 ?_ sc__law_draw.nd
  refine ds_cons ?_
  refine ds_ret ?_
  refine de_mod ?_
  refine de_T call_int1 n_int bt_int ?_
  refine da_cons ?_
  refine de_fdiv ?_
  refine de_name 3 ?_
  refine de_int ?_
  refine ⟨_, _, rfl, rfl, (by walk_at "cdw"), ?_⟩
  refine da_nil ?_
  first | refine drc_int ?_ | refine drc_intb ?_
  refine de_name 1 ?_
  refine ⟨_, _, rfl, rfl, (by walk_at "pos"), ?_⟩
  exact qq _ _ (Int.emod_nonneg _ (by omega)) (Int.emod_lt_of_pos _ hn) (src_next ha hb hc hb0)
abbrev s__law_common : Stmt := top 38
theorem sc__law_common : FnScope ["_law_one", "_law_two"] ["_law_one", "_law_two"] (defScope s__law_common) := ⟨rfl, rfl, rfl, by decide +kernel, rfl, by decide +kernel, by decide +kernel⟩
set_option maxHeartbeats 40000000 in
theorem ok__law_common {f : Addr} {fd : FuncData} (F : Fun K "_law_common" "_law_common" s__law_common f fd) (n_abs : mg "abs" = none) (n_int : mg "int" = none) : GOk P w K mg base 1 f fd ["_law_one", "_law_two"] (spD K con_common) := by
  refine gok_ds F sc__law_common (m := 0) rfl (fun ds S0 Q h => ?_) fun cdv A fr s0 H0 E0' gd hr ds S0 Q h => ?_
  · obtain ⟨_, _, rfl, _⟩ := h
    rfl
  obtain ⟨a, b, rfl, qq⟩ := h
  refine ds_nrm ?_ (by set_option simprocs false in dsimp only [List.map, List.replicate, List.cons_append, List.nil_append])
  refine ds_cons ?_
  refine ds_par (i := 0) (j := 1) rfl sc__law_common.nd rfl rfl (by decide) ?_
  refine da_cons ?_
  refine de_B call_abs n_abs bt_abs ?_
  refine da_cons ?_
  refine de_name 0 ?_
  refine da_nil ?_
  refine drc_abs ?_
  refine da_cons ?_
  refine de_B call_abs n_abs bt_abs ?_
  refine da_cons ?_
  refine de_name 1 ?_
  refine da_nil ?_
  refine drc_abs ?_
  refine da_nil ?_
  refine ⟨_, _, rfl, ?_⟩
  refine ds_nrm ?_
  refine ds_cons ?_
  refine ds_while (γ := Nat × Nat) PassesOwn.never (fun g => [some (.int g.1), some (.int g.2)]) (fun g S' => S' = S0 ∧ Nat.gcd g.1 g.2 = Nat.gcd a.natAbs b.natAbs) (fun g => g.2) (a.natAbs, b.natAbs) ⟨by rw [abs_nat] <;> rfl, by rw [abs_nat] <;> rfl, trivial⟩ ⟨rfl, rfl⟩ (fun g S' hP => ?_)
  obtain ⟨rfl, hG⟩ := hP
  obtain ⟨x, y⟩ := g
  refine dt_gt ?_
  refine de_name 1 ?_
  refine de_int ?_
  refine ⟨_, _, rfl, rfl, ?_⟩
  refine ⟨fun ht => ?_, fun ht => ?_⟩
  · have hy : 0 < y := by have := of_decide_eq_true ht; omega
    refine ds_cons ?_
    refine ds_par (i := 0) (j := 1) rfl sc__law_common.nd rfl rfl (by decide) ?_
    refine da_cons ?_
    refine de_name 1 ?_
    refine da_cons ?_
    refine de_mod ?_
    refine de_T call_int1 n_int bt_int ?_
    refine da_cons ?_
    refine de_name 0 ?_
    refine da_nil ?_
    first | refine drc_int ?_ | refine drc_intb ?_
    refine de_name 1 ?_
    refine ⟨_, _, rfl, rfl, (by walk_at "pos"), ?_⟩
    refine da_nil ?_
    refine ⟨_, _, rfl, ?_⟩
    refine ds_nrm ?_
    refine ds_nil ?_
    exact ⟨(y, x % y), ⟨rfl, rfl, trivial⟩, ⟨rfl, by rw [← hG]; exact gcd_step x y⟩, Nat.mod_lt x hy⟩
  have hy : y = 0 := by have := of_decide_eq_false ht; omega
  subst hy
  have hG : x = Nat.gcd a.natAbs b.natAbs := by rw [← hG] <;> exact (Nat.gcd_zero_right x).symm
  refine ds_cons ?_
  refine ds_ret ?_
  refine de_name 0 ?_
  rw [hG]
  exact qq
abbrev s__law_spin : Stmt := top 39
theorem sc__law_spin : FnScope ["_law_source_here", "_law_most", "_law_p", "_law_sort", "_law_q"] ["_law_source_here", "_law_most"] (defScope s__law_spin) := ⟨rfl, rfl, rfl, by decide +kernel, rfl, by decide +kernel, by decide +kernel⟩
set_option maxHeartbeats 40000000 in
theorem ok__law_spin {f : Addr} {fd : FuncData} (F : Fun K "_law_spin" "_law_spin" s__law_spin f fd) (c__law_common : Cal P w K mg base 1 "_law_common" ["_law_one", "_law_two"] [] con_common) (c__law_draw : Cal P w K mg base 1 "_law_draw" ["_law_source_here", "_law_count"] [] con_draw) (n_int : mg "int" = none) (n_max : mg "max" = none) (n_min : mg "min" = none) : GOk P w K mg base 2 f fd ["_law_source_here", "_law_most"] (spD K con_spin) := by
  refine gok_ds F sc__law_spin (m := 3) rfl (fun ds S0 Q h => ?_) fun cdv A fr s0 H0 E0' gd hr ds S0 Q h => ?_
  · obtain ⟨_, _, _, _, rfl, _⟩ := h
    rfl
  obtain ⟨pp, n, l, m, rfl, hg, hS, hm, hn, hn2, qq⟩ := h
  have bn : Bd 50 n := by unfold Bd; omega
  refine ds_nrm ?_ (by set_option simprocs false in dsimp only [List.map, List.replicate, List.cons_append, List.nil_append])
  refine ds_cons ?_
  refine ds_par (i := 2) (j := 3) rfl sc__law_spin.nd rfl rfl (by decide) ?_
  refine da_cons ?_
  refine de_add ?_
  refine de_int ?_
  refine de_call c__law_draw gd (hr.mono (by decide)) ?_
  refine da_cons ?_
  refine de_name 0 ?_
  refine da_cons ?_
  refine de_name 1 ?_
  refine da_nil ?_
  refine ⟨_, _, _, _, rfl, (by walk_at "gets"), (by assumption), (by walk_at "m"), (by walk_at "pos"), (by walk_at "bdu"), fun r1 l1 hr1 hn1 hs1 => ?_⟩
  walk_at "sets"
  first | refine add_int ?_ | refine add_lst ?_ (by walk_at "len") | refine add_tup ?_ (by walk_at "len3") | refine add_scr ?_ (by walk_at "len") | refine (show addP (.str _) (.str _) _ _ from ⟨by decide +kernel, ?_⟩)
  refine da_cons ?_
  refine de_call c__law_draw gd (hr.mono (by decide)) ?_
  refine da_cons ?_
  refine de_name 0 ?_
  refine da_cons ?_
  refine de_int ?_
  refine da_nil ?_
  refine ⟨_, _, _, _, rfl, (by walk_at "gets"), (by assumption), (by walk_at "m"), (by walk_at "pos"), (by walk_at "bdu"), fun r2 l2 hr2 hn2 hs2 => ?_⟩
  walk_at "sets"
  refine da_nil ?_
  refine ⟨_, _, rfl, ?_⟩
  refine ds_nrm ?_
  refine ds_cons ?_
  refine ds_asg (h := ?_)
  refine de_ix (h := ?_)
  refine de_lst ?_
  refine da_cons ?_
  refine de_call c__law_draw gd (hr.mono (by decide)) ?_
  refine da_cons ?_
  refine de_name 0 ?_
  refine da_cons ?_
  refine de_name 2 ?_
  refine da_nil ?_
  refine ⟨_, _, _, _, rfl, (by walk_at "gets"), (by assumption), (by walk_at "m"), (by walk_at "pos"), (by walk_at "bdu"), fun r3 l3 hr3 hn3 hs3 => ?_⟩
  walk_at "sets"
  refine da_cons ?_
  refine de_sub ?_
  refine de_name 2 ?_
  refine de_int ?_
  refine ⟨_, _, rfl, rfl, ?_⟩
  refine da_cons ?_
  refine de_B (call_max2 rfl) n_max bt_max ?_
  refine da_cons ?_
  refine de_int ?_
  refine da_cons ?_
  refine de_sub ?_
  refine de_name 2 ?_
  refine de_int ?_
  refine ⟨_, _, rfl, rfl, ?_⟩
  refine da_nil ?_
  refine drc_max ?_
  refine da_cons ?_
  refine de_call c__law_draw gd (hr.mono (by decide)) ?_
  refine da_cons ?_
  refine de_name 0 ?_
  refine da_cons ?_
  refine de_B (call_min2 rfl) n_min bt_min ?_
  refine da_cons ?_
  refine de_name 2 ?_
  refine da_cons ?_
  refine de_int ?_
  refine da_nil ?_
  refine drc_min ?_
  refine da_nil ?_
  refine ⟨_, _, _, _, rfl, (by walk_at "gets"), (by assumption), (by walk_at "m"), (by walk_at "pos"), (by walk_at "bdu"), fun r4 l4 hr4 hn4 hs4 => ?_⟩
  walk_at "sets"
  refine da_cons ?_
  refine de_call c__law_draw gd (hr.mono (by decide)) ?_
  refine da_cons ?_
  refine de_name 0 ?_
  refine da_cons ?_
  refine de_name 2 ?_
  refine da_nil ?_
  refine ⟨_, _, _, _, rfl, (by walk_at "gets"), (by assumption), (by walk_at "m"), (by walk_at "pos"), (by walk_at "bdu"), fun r5 l5 hr5 hn5 hs5 => ?_⟩
  walk_at "sets"
  refine da_nil ?_
  refine ⟨by walk_at "len", ?_⟩
  refine de_name 3 ?_
  first | refine ix_pick (fun d => ∃ x : Int, d = .int x ∧ 0 ≤ x ∧ x < 1 + r1) (fa_cons ⟨_, rfl, by walk_at "spx"⟩ (fa_cons ⟨_, rfl, by walk_at "spx"⟩ (fa_cons ⟨_, rfl, by walk_at "spx"⟩ (fa_cons ⟨_, rfl, by walk_at "spx"⟩ (fa_cons ⟨_, rfl, by walk_at "spx"⟩ fa_nil))))) (by assumption) (by show r2 < 5; assumption) ?_ | refine ix_pick (fun d => ∃ x : Int, d = .int x ∧ (x = q0 ∨ x = -q0)) (fa_cons ⟨_, rfl, .inl rfl⟩ (fa_cons ⟨_, rfl, .inr rfl⟩ fa_nil)) (by assumption) (by assumption) ?_
  rintro _ ⟨xq, rfl, hxq⟩
  refine dg_name 4 ?_ sc__law_spin.nd
  refine ds_cons ?_
  refine ds_while (γ := Int) PassesOwn.never (fun q => [some (.raw (.ref pp)), some (.int n), some (.int (1 + r1)), some (.int r2), some (.int q)]) (fun q S' => S' = setS pp l5 S0 ∧ 0 ≤ q ∧ q < 1 + r1) (fun q => (1 + r1 - q).toNat) xq ⟨rfl, rfl, rfl, rfl, rfl, trivial⟩ ⟨rfl, hxq⟩ (fun q S' hP => ?_)
  obtain ⟨rfl, hq0, hq1⟩ := hP
  refine dt_w ?_
  refine dw_or ?_
  refine dt_gt ?_
  refine de_call c__law_common gd (hr.mono (by decide)) ?_
  refine da_cons ?_
  refine de_name 2 ?_
  refine da_cons ?_
  refine de_name 4 ?_
  refine da_nil ?_
  refine ⟨_, _, rfl, ?_⟩
  refine de_int ?_
  refine ⟨_, _, rfl, rfl, ?_⟩
  refine ⟨fun hb => ?_, fun hb => ?_⟩
  · refine ⟨fun _ => ?_, fun h => absurd h (by simp)⟩
    refine ds_cons ?_
    refine ds_asg (h := ?_)
    refine de_add ?_
    refine de_name 4 ?_
    refine de_int ?_
    refine add_int ?_
    refine dg_name 4 ?_ sc__law_spin.nd
    refine ds_nil ?_
    have hq2 := spin_turn (p := 1 + r1) (q := q) (by omega) (by omega) (.inl (of_decide_eq_true hb))
    exact ⟨q + 1, ⟨rfl, rfl, rfl, rfl, rfl, trivial⟩, ⟨rfl, by omega, hq2⟩, by omega⟩
  refine dw_or1 ?_
  refine dt_eq (hr.units) ?_
  refine de_mod ?_
  refine de_T call_int1 n_int bt_int ?_
  refine da_cons ?_
  refine de_add ?_
  refine de_name 2 ?_
  refine de_name 4 ?_
  first | refine add_int ?_ | refine add_lst ?_ (by walk_at "len") | refine add_tup ?_ (by walk_at "len3") | refine add_scr ?_ (by walk_at "len") | refine (show addP (.str _) (.str _) _ _ from ⟨by decide +kernel, ?_⟩)
  refine da_nil ?_
  first | refine drc_int ?_ | refine drc_intb ?_
  refine de_int ?_
  refine ⟨_, _, rfl, rfl, (by walk_at "pos"), ?_⟩
  refine de_int ?_
  walk_at "eq"
  refine ⟨fun ht => ?_, fun ht => ?_⟩
  · refine ds_cons ?_
    refine ds_asg (h := ?_)
    refine de_add ?_
    refine de_name 4 ?_
    refine de_int ?_
    first | refine add_int ?_ | refine add_lst ?_ (by walk_at "len") | refine add_tup ?_ (by walk_at "len3") | refine add_scr ?_ (by walk_at "len") | refine (show addP (.str _) (.str _) _ _ from ⟨by decide +kernel, ?_⟩)
    refine dg_name 4 ?_ sc__law_spin.nd
    refine ds_nil ?_
    have hq2 := spin_turn (p := 1 + r1) (q := q) (by omega) (by omega) (.inr (of_decide_eq_true ht))
    exact ⟨q + 1, ⟨rfl, rfl, rfl, rfl, rfl, trivial⟩, ⟨rfl, by omega, hq2⟩, by omega⟩
  have hgc := gcd_one (p := 1 + r1) (q := q) (by omega) (of_decide_eq_false hb)
  have hod : (1 + r1 + q) % 2 = 1 := by have := of_decide_eq_false ht; omega
  obtain ⟨q0, hq0'⟩ : ∃ q0, q0 = q := ⟨q, rfl⟩
  subst hq0'
  refine ds_cons ?_
  refine ds_ret ?_
  refine de_tup ?_
  refine da_cons ?_
  refine de_name 2 ?_
  refine da_cons ?_
  refine de_ix (h := ?_)
  refine de_lst ?_
  refine da_cons ?_
  refine de_name 4 ?_
  refine da_cons ?_
  refine de_neg ?_
  refine de_name 4 ?_
  refine ⟨_, rfl, ?_⟩
  refine da_nil ?_
  refine ⟨by walk_at "len", ?_⟩
  refine de_call c__law_draw gd (hr.mono (by decide)) ?_
  refine da_cons ?_
  refine de_name 0 ?_
  refine da_cons ?_
  refine de_int ?_
  refine da_nil ?_
  refine ⟨_, _, _, _, rfl, (by walk_at "gets"), (by assumption), (by walk_at "m"), (by walk_at "pos"), (by walk_at "bdu"), fun r7 l7 hr7 hn7 hs7 => ?_⟩
  walk_at "sets"
  first | refine ix_pick (fun d => ∃ x : Int, d = .int x ∧ 0 ≤ x ∧ x < 1 + r1) (fa_cons ⟨_, rfl, by walk_at "spx"⟩ (fa_cons ⟨_, rfl, by walk_at "spx"⟩ (fa_cons ⟨_, rfl, by walk_at "spx"⟩ (fa_cons ⟨_, rfl, by walk_at "spx"⟩ (fa_cons ⟨_, rfl, by walk_at "spx"⟩ fa_nil))))) (by assumption) (by show r2 < 5; assumption) ?_ | refine ix_pick (fun d => ∃ x : Int, d = .int x ∧ (x = q0 ∨ x = -q0)) (fa_cons ⟨_, rfl, .inl rfl⟩ (fa_cons ⟨_, rfl, .inr rfl⟩ fa_nil)) (by assumption) (by assumption) ?_
  rintro _ ⟨xq, rfl, hxq⟩
  refine da_cons ?_
  refine de_call c__law_draw gd (hr.mono (by decide)) ?_
  refine da_cons ?_
  refine de_name 0 ?_
  refine da_cons ?_
  refine de_int ?_
  refine da_nil ?_
  refine ⟨_, _, _, _, rfl, (by walk_at "gets"), (by assumption), (by walk_at "m"), (by walk_at "pos"), (by walk_at "bdu"), fun r8 l8 hr8 hn8 hs8 => ?_⟩
  walk_at "sets"
  refine da_nil ?_
  refine ⟨by walk_at "len", ?_⟩
  refine qq _ _ _ _ ?_ (by omega) ((by assumption : Src _ _).up (by omega))
  have tt := tn_mk (p := 1 + r1) (q := q0) (by omega) (by omega) hq0 hq1 hgc hod ⟨by assumption, by assumption⟩
  rcases hxq with e | e
  · rw [e]; exact tt.1
  · rw [e]; exact tt.2
abbrev s__law_dot : Stmt := top 40
theorem sc__law_dot : FnScope ["_law_source_here", "_law_wide", "_law_spots", "_law_k"] ["_law_source_here", "_law_wide"] (defScope s__law_dot) := ⟨rfl, rfl, rfl, by decide +kernel, rfl, by decide +kernel, by decide +kernel⟩
set_option maxHeartbeats 40000000 in
theorem ok__law_dot {f : Addr} {fd : FuncData} (F : Fun K "_law_dot" "_law_dot" s__law_dot f fd) (c__law_draw : Cal P w K mg base 1 "_law_draw" ["_law_source_here", "_law_count"] [] con_draw) (n_range : mg "range" = none) (n_tuple : mg "tuple" = none) : GOk P w K mg base 2 f fd ["_law_source_here", "_law_wide"] (spD K con_dot) := by
  refine gok_ds F sc__law_dot (m := 2) rfl (fun ds S0 Q h => ?_) fun cdv A fr s0 H0 E0' gd hr ds S0 Q h => ?_
  · obtain ⟨_, _, _, _, rfl, _⟩ := h
    rfl
  obtain ⟨pp, n, l, m, rfl, hg, hS, hm, hn, bn, qq⟩ := h
  refine ds_nrm ?_ (by set_option simprocs false in dsimp only [List.map, List.replicate, List.cons_append, List.nil_append])
  refine ds_cons ?_
  refine ds_asg (h := ?_)
  refine de_lstO ?_
  refine da_nil ?_
  refine ⟨by walk_at "len", fun p1 hp1 => ?_⟩
  refine dg_name 2 ?_ sc__law_dot.nd
  refine ds_cons ?_
  refine ds_for (γ := Unit) PassesOwn.never rfl ?_
  refine di_rng1 n_range ?_
  refine da_cons ?_
  refine de_int ?_
  refine da_nil ?_
  refine ⟨_, rfl, (by walk_at "rng"), ?_⟩
  have hne : p1 ≠ pp := fun z => by rw [z, hg] at hp1; cases hp1
  refine ⟨fun _ => [some (.raw (.ref pp)), some (.int n), some (.raw (.ref p1)), none], fun i _ S' => ∃ (xs : List Int) (l' : List D), S' = (p1, xs.map D.int) :: setS pp l' S0 ∧ xs.length = i ∧ (∀ x ∈ xs, -n ≤ x ∧ x ≤ n) ∧ Src (m + i) l' ∧ getS pp (setS pp l' S0) = some l', (), ⟨rfl, rfl, rfl, trivial⟩, ⟨[], l, by rw [setS_self hg] <;> rfl, rfl, (fun _ h => nomatch h), hS, getS_setS_same hg⟩, fun i d _ S' hi hP => ?_, fun _ S' hP => ?_⟩
  · obtain ⟨xs, l', rfl, hl, hx, hS', hg'⟩ := hP
    obtain ⟨hi2, rfl⟩ := rngD_get hi
    have hi3 : i < 2 := hi2
    refine dg_name 3 ?_ sc__law_dot.nd
    refine ds_cons ?_
    refine ds_expr (h := ?_)
    refine de_append ?_
    refine de_name 2 ?_
    refine ⟨_, _, rfl, (by walk_at "gets"), ?_⟩
    refine da_cons ?_
    refine de_sub ?_
    refine de_call c__law_draw gd (hr.mono (by decide)) ?_
    refine da_cons ?_
    refine de_name 0 ?_
    refine da_cons ?_
    refine de_add ?_
    refine de_mul ?_
    refine de_int ?_
    refine de_name 1 ?_
    first | refine mul_i ?_ (by walk_at "cmw") | refine mul_l ?_ ⟨by decide, by decide, by first | decide | exact Nat.le_of_ble_eq_true rfl | walk_at "mlen"⟩
    refine de_int ?_
    first | refine add_int ?_ | refine add_lst ?_ (by walk_at "len") | refine add_tup ?_ (by walk_at "len3") | refine add_scr ?_ (by walk_at "len") | refine (show addP (.str _) (.str _) _ _ from ⟨by decide +kernel, ?_⟩)
    refine da_nil ?_
    refine ⟨_, _, _, _, rfl, (by walk_at "gets"), (by assumption), (by walk_at "m"), (by walk_at "pos"), (by walk_at "bdu"), fun r2 l2 hr2 hn2 hs2 => ?_⟩
    walk_at "sets"
    refine de_name 1 ?_
    refine ⟨_, _, rfl, rfl, ?_⟩
    refine da_nil ?_
    refine ⟨_, _, rfl, (by walk_at "gets"), (by walk_at "len"), ?_⟩
    walk_at "sets"
    refine ds_nil ?_
    rw [setS_setS]
    refine ⟨(), ⟨rfl, rfl, rfl, trivial⟩, xs ++ [r2 - n], l2, by rw [List.map_append] <;> rfl, by rw [List.length_append, hl] <;> rfl, fun x hx' => ?_, (by assumption : Src _ _).up (by omega), getS_setS_same hg⟩
    rcases List.mem_append.mp hx' with z | z
    · exact hx x z
    · have z : x = r2 - n := by simpa using z
      omega
  obtain ⟨xs, l', rfl, hl, hx, hS', hg'⟩ := hP
  have hl : xs.length = 2 := hl
  obtain ⟨x, y, rfl⟩ : ∃ x y, xs = [x, y] := by
    match xs, hl with
    | [x, y], _ => exact ⟨x, y, rfl⟩
  refine ds_freeze 2 rfl (ds_nrm ?_) rfl
  refine ds_cons ?_
  refine ds_ret ?_
  refine de_T call_tuple_of n_tuple bt_tuple ?_
  refine da_cons ?_
  refine de_name 2 ?_
  refine da_nil ?_
  first | refine drc_tuple ?_ | refine drc_tupleO getS_hd ?_
  exact qq x y l' (hx x (by simp)) (hx y (by simp)) hS'
abbrev s__law_times : Stmt := top 41
theorem sc__law_times : FnScope ["_law_one", "_law_two"] ["_law_one", "_law_two"] (defScope s__law_times) := ⟨rfl, rfl, rfl, by decide +kernel, rfl, by decide +kernel, by decide +kernel⟩
set_option maxHeartbeats 40000000 in
theorem ok__law_times {f : Addr} {fd : FuncData} (F : Fun K "_law_times" "_law_times" s__law_times f fd)  : GOk P w K mg base 1 f fd ["_law_one", "_law_two"] (spD K con_ltimes) := by
  refine gok_ds F sc__law_times (m := 0) rfl (fun ds S0 Q h => ?_) fun cdv A fr s0 H0 E0' gd hr ds S0 Q h => ?_
  · obtain ⟨_, _, _, _, rfl, _⟩ := h
    rfl
  obtain ⟨x, y, r, s, rfl, ⟨b1, b2, b3, b4⟩, q⟩ := h
  refine ds_nrm ?_ (by set_option simprocs false in dsimp only [List.map, List.replicate, List.cons_append, List.nil_append])
  refine ds_cons ?_
  refine ds_ret ?_
  refine de_tup ?_
  refine da_cons ?_
  refine de_sub ?_
  refine de_mul ?_
  refine de_ix (h := ?_)
  refine de_name 0 ?_
  refine de_int ?_
  walk_at "ix"
  refine de_ix (h := ?_)
  refine de_name 1 ?_
  refine de_int ?_
  walk_at "ix"
  first | refine mul_i ?_ (by walk_at "cmw") | refine mul_l ?_ ⟨by decide, by decide, by first | decide | exact Nat.le_of_ble_eq_true rfl | walk_at "mlen"⟩
  refine de_mul ?_
  refine de_ix (h := ?_)
  refine de_name 0 ?_
  refine de_int ?_
  walk_at "ix"
  refine de_ix (h := ?_)
  refine de_name 1 ?_
  refine de_int ?_
  walk_at "ix"
  first | refine mul_i ?_ (by walk_at "cmw") | refine mul_l ?_ ⟨by decide, by decide, by first | decide | exact Nat.le_of_ble_eq_true rfl | walk_at "mlen"⟩
  refine ⟨_, _, rfl, rfl, ?_⟩
  refine da_cons ?_
  refine de_add ?_
  refine de_mul ?_
  refine de_ix (h := ?_)
  refine de_name 0 ?_
  refine de_int ?_
  walk_at "ix"
  refine de_ix (h := ?_)
  refine de_name 1 ?_
  refine de_int ?_
  walk_at "ix"
  first | refine mul_i ?_ (by walk_at "cmw") | refine mul_l ?_ ⟨by decide, by decide, by first | decide | exact Nat.le_of_ble_eq_true rfl | walk_at "mlen"⟩
  refine de_mul ?_
  refine de_ix (h := ?_)
  refine de_name 0 ?_
  refine de_int ?_
  walk_at "ix"
  refine de_ix (h := ?_)
  refine de_name 1 ?_
  refine de_int ?_
  walk_at "ix"
  first | refine mul_i ?_ (by walk_at "cmw") | refine mul_l ?_ ⟨by decide, by decide, by first | decide | exact Nat.le_of_ble_eq_true rfl | walk_at "mlen"⟩
  first | refine add_int ?_ | refine add_lst ?_ (by walk_at "len") | refine add_tup ?_ (by walk_at "len3") | refine add_scr ?_ (by walk_at "len") | refine (show addP (.str _) (.str _) _ _ from ⟨by decide +kernel, ?_⟩)
  refine da_nil ?_
  refine ⟨by walk_at "len", ?_⟩
  exact q
abbrev s__law_legs : Stmt := top 42
theorem sc__law_legs : FnScope ["_law_spin_here", "_law_p", "_law_q"] ["_law_spin_here"] (defScope s__law_legs) := ⟨rfl, rfl, rfl, by decide +kernel, rfl, by decide +kernel, by decide +kernel⟩
set_option maxHeartbeats 40000000 in
theorem ok__law_legs {f : Addr} {fd : FuncData} (F : Fun K "_law_legs" "_law_legs" s__law_legs f fd)  : GOk P w K mg base 1 f fd ["_law_spin_here"] (spD K con_llegs) := by
  refine gok_ds F sc__law_legs (m := 2) rfl (fun ds S0 Q h => ?_) fun cdv A fr s0 H0 E0' gd hr ds S0 Q h => ?_
  · obtain ⟨_, _, _, rfl, _⟩ := h
    rfl
  obtain ⟨l, p, q, rfl, e0, e1, ⟨b1, b2⟩, qq⟩ := h
  refine ds_nrm ?_ (by set_option simprocs false in dsimp only [List.map, List.replicate, List.cons_append, List.nil_append])
  refine ds_cons ?_
  refine ds_par (i := 1) (j := 2) rfl sc__law_legs.nd rfl rfl (by decide) ?_
  refine da_cons ?_
  refine de_ix (h := ?_)
  refine de_name 0 ?_
  refine de_int ?_
  first | refine ix_t ?_ e0 | refine ix_t ?_ e1
  refine da_cons ?_
  refine de_ix (h := ?_)
  refine de_name 0 ?_
  refine de_int ?_
  first | refine ix_t ?_ e0 | refine ix_t ?_ e1
  refine da_nil ?_
  refine ⟨_, _, rfl, ?_⟩
  refine ds_nrm ?_
  refine ds_cons ?_
  refine ds_ret ?_
  refine de_tup ?_
  refine da_cons ?_
  refine de_sub ?_
  refine de_mul ?_
  refine de_name 1 ?_
  refine de_name 1 ?_
  first | refine mul_i ?_ (by walk_at "cmw") | refine mul_l ?_ ⟨by decide, by decide, by first | decide | exact Nat.le_of_ble_eq_true rfl | walk_at "mlen"⟩
  refine de_mul ?_
  refine de_name 2 ?_
  refine de_name 2 ?_
  first | refine mul_i ?_ (by walk_at "cmw") | refine mul_l ?_ ⟨by decide, by decide, by first | decide | exact Nat.le_of_ble_eq_true rfl | walk_at "mlen"⟩
  refine ⟨_, _, rfl, rfl, ?_⟩
  refine da_cons ?_
  refine de_mul ?_
  refine de_mul ?_
  refine de_int ?_
  refine de_name 1 ?_
  first | refine mul_i ?_ (by walk_at "cmw") | refine mul_l ?_ ⟨by decide, by decide, by first | decide | exact Nat.le_of_ble_eq_true rfl | walk_at "mlen"⟩
  refine de_name 2 ?_
  first | refine mul_i ?_ (by walk_at "cmw") | refine mul_l ?_ ⟨by decide, by decide, by first | decide | exact Nat.le_of_ble_eq_true rfl | walk_at "mlen"⟩
  refine da_cons ?_
  refine de_add ?_
  refine de_mul ?_
  refine de_name 1 ?_
  refine de_name 1 ?_
  first | refine mul_i ?_ (by walk_at "cmw") | refine mul_l ?_ ⟨by decide, by decide, by first | decide | exact Nat.le_of_ble_eq_true rfl | walk_at "mlen"⟩
  refine de_mul ?_
  refine de_name 2 ?_
  refine de_name 2 ?_
  first | refine mul_i ?_ (by walk_at "cmw") | refine mul_l ?_ ⟨by decide, by decide, by first | decide | exact Nat.le_of_ble_eq_true rfl | walk_at "mlen"⟩
  first | refine add_int ?_ | refine add_lst ?_ (by walk_at "len") | refine add_tup ?_ (by walk_at "len3") | refine add_scr ?_ (by walk_at "len") | refine (show addP (.str _) (.str _) _ _ from ⟨by decide +kernel, ?_⟩)
  refine da_nil ?_
  refine ⟨by walk_at "len", ?_⟩
  exact qq
abbrev s__law_close : Stmt := top 43
theorem sc__law_close : FnScope ["_law_top", "_law_low", "_law_down"] ["_law_top", "_law_low"] (defScope s__law_close) := ⟨rfl, rfl, rfl, by decide +kernel, rfl, by decide +kernel, by decide +kernel⟩
set_option maxHeartbeats 40000000 in
theorem ok__law_close {f : Addr} {fd : FuncData} (F : Fun K "_law_close" "_law_close" s__law_close f fd)  : GOk P w K mg base 1 f fd ["_law_top", "_law_low"] (spD K con_close) := by
  refine gok_ds F sc__law_close (m := 1) rfl (fun ds S0 Q h => ?_) fun cdv A fr s0 H0 E0' gd hr ds S0 Q h => ?_
  · obtain ⟨_, _, rfl, _⟩ := h
    rfl
  obtain ⟨t, l, rfl, ⟨b1, b2, b3⟩, q⟩ := h
  have ce := close_eq (t := t) b3
  refine ds_nrm ?_ (by set_option simprocs false in dsimp only [List.map, List.replicate, List.cons_append, List.nil_append])
  refine ds_cons ?_
  refine ds_asg (h := ?_)
  refine de_fdiv ?_
  refine de_name 0 ?_
  refine de_name 1 ?_
  refine ⟨_, _, rfl, rfl, (by walk_at "cdw"), ?_⟩
  refine dg_name 2 ?_ sc__law_close.nd
  refine ds_cons ?_
  refine ds_ret ?_
  refine de_ifE ?_
  refine dt_lt ?_
  refine de_mul ?_
  refine de_int ?_
  refine de_sub ?_
  refine de_name 0 ?_
  refine de_mul ?_
  refine de_name 2 ?_
  refine de_name 1 ?_
  first | refine mul_i ?_ (by walk_at "cmw") | refine mul_l ?_ ⟨by decide, by decide, by first | decide | exact Nat.le_of_ble_eq_true rfl | walk_at "mlen"⟩
  refine ⟨_, _, rfl, rfl, ?_⟩
  first | refine mul_i ?_ (by walk_at "cmw") | refine mul_l ?_ ⟨by decide, by decide, by first | decide | exact Nat.le_of_ble_eq_true rfl | walk_at "mlen"⟩
  refine de_name 1 ?_
  refine ⟨_, _, rfl, rfl, ?_⟩
  refine ⟨fun ht => ?_, fun ht => ?_⟩
  · refine de_name 2 ?_
    rw [if_pos (of_decide_eq_true ht)] at ce
    rw [ce]
    exact q
  refine de_add ?_
  refine de_name 2 ?_
  refine de_int ?_
  first | refine add_int ?_ | refine add_lst ?_ (by walk_at "len") | refine add_tup ?_ (by walk_at "len3") | refine add_scr ?_ (by walk_at "len") | refine (show addP (.str _) (.str _) _ _ from ⟨by decide +kernel, ?_⟩)
  rw [if_neg (of_decide_eq_false ht)] at ce
  rw [ce]
  exact q
abbrev s__law_seen : Stmt := top 44
theorem sc__law_seen : FnScope ["_law_spin_here", "_law_dot_here", "_law_a", "_law_b", "_law_c", "_law_x", "_law_y", "_law_found", "_law_turned_here"] ["_law_spin_here", "_law_dot_here"] (defScope s__law_seen) := ⟨rfl, rfl, rfl, by decide +kernel, rfl, by decide +kernel, by decide +kernel⟩
set_option maxHeartbeats 40000000 in
theorem ok__law_seen {f : Addr} {fd : FuncData} (F : Fun K "_law_seen" "_law_seen" s__law_seen f fd) (c__law_close : Cal P w K mg base 1 "_law_close" ["_law_top", "_law_low"] [] con_close) (c__law_legs : Cal P w K mg base 1 "_law_legs" ["_law_spin_here"] [] con_llegs) (c__law_times : Cal P w K mg base 1 "_law_times" ["_law_one", "_law_two"] [] con_ltimes) (n_range : mg "range" = none) : GOk P w K mg base 2 f fd ["_law_spin_here", "_law_dot_here"] (spD K con_seen) := by
  refine gok_ds F sc__law_seen (m := 7) rfl (fun ds S0 Q h => ?_) fun cdv A fr s0 H0 E0' gd hr ds S0 Q h => ?_
  · obtain ⟨_, _, _, _, _, rfl, _⟩ := h
    rfl
  obtain ⟨p, q, k, x, y, rfl, hT, ⟨bx, by'⟩, qq⟩ := h
  have b1 := hT.bp
  have b2 := hT.bq
  have b3 := tn_b3 hT
  have k1 := hT.k1
  have k2 := hT.k2
  have cp : 0 < p * p + q * q := cc_pos hT
  refine ds_nrm ?_ (by set_option simprocs false in dsimp only [List.map, List.replicate, List.cons_append, List.nil_append])
  refine ds_cons ?_
  refine ds_asg (h := ?_)
  refine de_call c__law_legs gd (hr.mono (by decide)) ?_
  refine da_cons ?_
  refine de_name 0 ?_
  refine da_nil ?_
  refine ⟨_, _, _, rfl, (by walk_at "at"), (by walk_at "at"), ⟨by walk_at "bdu", by walk_at "bdu"⟩, ?_⟩
  first | refine dg_tup rfl rfl ?_ | refine dg_tupL rfl rfl ?_ (fun h => pg_lst rfl h)
  refine dgs_cons (h := ?_)
  refine dg_name 2 ?_ sc__law_seen.nd
  refine dgs_cons (h := ?_)
  refine dg_name 3 ?_ sc__law_seen.nd
  refine dgs_cons (h := ?_)
  refine dg_name 4 ?_ sc__law_seen.nd
  refine dgs_nil ?_
  refine ds_cons ?_
  refine ds_asg (h := ?_)
  refine de_call c__law_times gd (hr.mono (by decide)) ?_
  refine da_cons ?_
  refine de_tup ?_
  refine da_cons ?_
  refine de_name 2 ?_
  refine da_cons ?_
  refine de_name 3 ?_
  refine da_nil ?_
  refine ⟨by walk_at "len", ?_⟩
  refine da_cons ?_
  refine de_name 1 ?_
  refine da_nil ?_
  refine ⟨_, _, _, _, rfl, ⟨by walk_at "bdu", by walk_at "bdu", by walk_at "bdu", by walk_at "bdu"⟩, ?_⟩
  first | refine dg_tup rfl rfl ?_ | refine dg_tupL rfl rfl ?_ (fun h => pg_lst rfl h)
  refine dgs_cons (h := ?_)
  refine dg_name 5 ?_ sc__law_seen.nd
  refine dgs_cons (h := ?_)
  refine dg_name 6 ?_ sc__law_seen.nd
  refine dgs_nil ?_
  refine ds_cons ?_
  refine ds_asg (h := ?_)
  refine de_tup ?_
  refine da_cons ?_
  refine de_call c__law_close gd (hr.mono (by decide)) ?_
  refine da_cons ?_
  refine de_name 5 ?_
  refine da_cons ?_
  refine de_name 4 ?_
  refine da_nil ?_
  refine ⟨_, _, rfl, ⟨by walk_at "bdu", by walk_at "bdu", by walk_at "pos"⟩, ?_⟩
  refine da_cons ?_
  refine de_call c__law_close gd (hr.mono (by decide)) ?_
  refine da_cons ?_
  refine de_name 6 ?_
  refine da_cons ?_
  refine de_name 4 ?_
  refine da_nil ?_
  refine ⟨_, _, rfl, ⟨by walk_at "bdu", by walk_at "bdu", by walk_at "pos"⟩, ?_⟩
  refine da_nil ?_
  refine ⟨by walk_at "len", ?_⟩
  refine dg_name 7 ?_ sc__law_seen.nd
  refine ds_cons ?_
  refine ds_for (γ := Nat) PassesOwn.never rfl ?_
  refine di_rng1 n_range ?_
  refine da_cons ?_
  refine de_ix (h := ?_)
  refine de_name 0 ?_
  refine de_int ?_
  walk_at "ix"
  refine da_nil ?_
  refine ⟨_, rfl, (by walk_at "rng"), ?_⟩
  refine ⟨fun j : Nat => [some (.tup [.int p, .int q, .int k]), some (.tup [.int x, .int y]), some (.int (p * p - q * q)), some (.int (2 * p * q)), some (.int (p * p + q * q)), some (.int ((p * p - q * q) * x - 2 * p * q * y)), some (.int ((p * p - q * q) * y + 2 * p * q * x)), some (.tup [.int (rtX j (nrr ((p * p - q * q) * x - 2 * p * q * y) (p * p + q * q)) (nrr ((p * p - q * q) * y + 2 * p * q * x) (p * p + q * q))), .int (rtY j (nrr ((p * p - q * q) * x - 2 * p * q * y) (p * p + q * q)) (nrr ((p * p - q * q) * y + 2 * p * q * x) (p * p + q * q)))]), none], fun i j S' => j = i ∧ S' = S0, 0, ⟨rfl, rfl, rfl, rfl, rfl, rfl, rfl, rfl, trivial⟩, ⟨rfl, rfl⟩, fun i d j S' hi hP => ?_, fun j S' hP => ?_⟩
  · obtain ⟨rfl, rfl⟩ := hP
    obtain ⟨hlt, rfl⟩ := rngD_get hi
    have hj : j < 3 := by omega
    refine dg_name 8 ?_ sc__law_seen.nd
    refine ds_cons ?_
    refine ds_asg (h := ?_)
    refine de_tup ?_
    refine da_cons ?_
    refine de_neg ?_
    refine de_ix (h := ?_)
    refine de_name 7 ?_
    refine de_int ?_
    walk_at "ix"
    refine ⟨_, rfl, ?_⟩
    refine da_cons ?_
    refine de_ix (h := ?_)
    refine de_name 7 ?_
    refine de_int ?_
    walk_at "ix"
    refine da_nil ?_
    refine ⟨by walk_at "len", ?_⟩
    refine dg_name 7 ?_ sc__law_seen.nd
    refine ds_nil ?_
    exact ⟨j + 1, ⟨rfl, rfl, rfl, rfl, rfl, rfl, rfl, by rw [(rt_step j hj _ _).1, (rt_step j hj _ _).2] <;> rfl, trivial⟩, rfl, rfl⟩
  obtain ⟨rfl, rfl⟩ := hP
  rw [rngD_len]
  refine ds_cons ?_
  refine ds_ret ?_
  refine de_name 7 ?_
  exact (congrArg (fun d => Q d _) (seen_eq hT x y)).mpr qq
abbrev s_is_rest : Stmt := top 26
theorem sc_is_rest : FnScope ["turn", "value", "p", "q", "_", "half", "x", "y"] ["turn", "value"] (defScope s_is_rest) := ⟨rfl, rfl, rfl, by decide +kernel, rfl, by decide +kernel, by decide +kernel⟩
set_option maxHeartbeats 40000000 in
theorem ok_is_rest {f : Addr} {fd : FuncData} (F : Fun K "is_rest" "is_rest" s_is_rest f fd) (c_check_turn : Cal P w K mg base 4 "check_turn" ["turn"] [] con_check_turn) (c_is_whole_tuple : Cal P w K mg base 2 "is_whole_tuple" ["value", "size"] [] (con_wtA K)) (c_times : Cal P w K mg base 1 "times" ["one", "other"] [] con_times) (n_abs : mg "abs" = none) : GOk P w K mg base 5 f fd ["turn", "value"] (spD K (con_isrestA K)) := by
  refine gok_ds F sc_is_rest (m := 6) rfl (fun ds S0 Q h => ?_) fun cdv A fr s0 H0 E0' gd hr ds S0 Q h => ?_
  · obtain ⟨_, _, _, _, rfl, _⟩ := h
    rfl
  obtain ⟨p, q, k, d, rfl, hT, hA, hbd, qq⟩ := h
  have b1 := hT.bp
  have b2 := hT.bq
  refine ds_nrm ?_ (by set_option simprocs false in dsimp only [List.map, List.replicate, List.cons_append, List.nil_append])
  refine ds_cons ?_
  refine ds_expr (h := ?_)
  refine de_call c_check_turn gd (hr.mono (by decide)) ?_
  refine da_cons ?_
  refine de_name 0 ?_
  refine da_nil ?_
  refine ⟨_, _, _, rfl, by walk_at "tn", ?_⟩
  refine ds_cons ?_
  refine ds_if ?_
  refine dt_not ?_
  refine dt_val (h := ?_)
  refine de_call c_is_whole_tuple gd (hr.mono (by decide)) ?_
  refine da_cons ?_
  refine de_name 1 ?_
  refine da_cons ?_
  refine de_int ?_
  refine da_nil ?_
  refine ⟨_, _, rfl, hA.t, hA.l, ?_⟩
  refine ⟨_, rfl, ?_⟩
  refine ⟨fun ht => ?_, fun ht => ?_⟩
  · rw [restB_no (by unfold pixB; simpa using ht)] at qq
    refine ds_cons ?_
    refine ds_ret ?_
    refine de_bl ?_
    exact qq
  obtain ⟨x, y, rfl⟩ := wt2 (d := d) (by unfold pixB; simpa using ht)
  obtain ⟨bx, by'⟩ := hbd x y rfl
  refine ds_nil ?_
  refine ds_cons ?_
  refine ds_asg (h := ?_)
  refine de_name 0 ?_
  first | refine dg_tup rfl rfl ?_ | refine dg_tupL rfl rfl ?_ (fun h => pg_lst rfl h)
  refine dgs_cons (h := ?_)
  refine dg_name 2 ?_ sc_is_rest.nd
  refine dgs_cons (h := ?_)
  refine dg_name 3 ?_ sc_is_rest.nd
  refine dgs_cons (h := ?_)
  refine dg_name 4 ?_ sc_is_rest.nd
  refine dgs_nil ?_
  refine ds_cons ?_
  refine ds_asg (h := ?_)
  refine de_fdiv ?_
  refine de_sub ?_
  refine de_add ?_
  refine de_mul ?_
  refine de_name 2 ?_
  refine de_name 2 ?_
  first | refine mul_i ?_ (by walk_at "cmw") | refine mul_l ?_ ⟨by decide, by decide, by first | decide | exact Nat.le_of_ble_eq_true rfl | walk_at "mlen"⟩
  refine de_mul ?_
  refine de_name 3 ?_
  refine de_name 3 ?_
  first | refine mul_i ?_ (by walk_at "cmw") | refine mul_l ?_ ⟨by decide, by decide, by first | decide | exact Nat.le_of_ble_eq_true rfl | walk_at "mlen"⟩
  first | refine add_int ?_ | refine add_lst ?_ (by walk_at "len") | refine add_tup ?_ (by walk_at "len3") | refine add_scr ?_ (by walk_at "len") | refine (show addP (.str _) (.str _) _ _ from ⟨by decide +kernel, ?_⟩)
  refine de_int ?_
  refine ⟨_, _, rfl, rfl, ?_⟩
  refine de_int ?_
  refine ⟨_, _, rfl, rfl, (by walk_at "cdw"), ?_⟩
  refine dg_name 5 ?_ sc_is_rest.nd
  refine ds_cons ?_
  refine ds_asg (h := ?_)
  refine de_call c_times gd (hr.mono (by decide)) ?_
  refine da_cons ?_
  refine de_tup ?_
  refine da_cons ?_
  refine de_name 2 ?_
  refine da_cons ?_
  refine de_name 3 ?_
  refine da_nil ?_
  refine ⟨by walk_at "len", ?_⟩
  refine da_cons ?_
  refine de_name 1 ?_
  refine da_nil ?_
  refine ⟨_, _, _, _, rfl, ⟨by walk_at "bdu", by walk_at "bdu", by walk_at "bdu", by walk_at "bdu"⟩, ?_⟩
  first | refine dg_tup rfl rfl ?_ | refine dg_tupL rfl rfl ?_ (fun h => pg_lst rfl h)
  refine dgs_cons (h := ?_)
  refine dg_name 6 ?_ sc_is_rest.nd
  refine dgs_cons (h := ?_)
  refine dg_name 7 ?_ sc_is_rest.nd
  refine dgs_nil ?_
  refine ds_cons ?_
  refine ds_ret ?_
  refine de_and ?_
  refine de_le ?_
  refine de_B call_abs n_abs bt_abs ?_
  refine da_cons ?_
  refine de_name 6 ?_
  refine da_nil ?_
  refine drc_abs ?_
  refine de_name 5 ?_
  refine ⟨_, _, rfl, rfl, ?_⟩
  refine ⟨_, rfl, fun hb => ?_, fun hb => ?_⟩
  · rw [show restB p q (.tup [.int x, .int y]) = false from decide_eq_false fun z => (of_decide_eq_false hb) (half_le.mpr z.1)] at qq
    exact qq
  refine de_one ?_
  refine de_le ?_
  refine de_B call_abs n_abs bt_abs ?_
  refine da_cons ?_
  refine de_name 7 ?_
  refine da_nil ?_
  refine drc_abs ?_
  refine de_name 5 ?_
  refine ⟨_, _, rfl, rfl, ?_⟩
  refine (congrArg (fun v => Q (.bl v) _) (show restB p q (.tup [.int x, .int y]) = _ from decide_eq_decide.mpr ⟨fun z => half_le.mpr z.2, fun z => ⟨half_le.mp (of_decide_eq_true hb), half_le.mp z⟩⟩)).mp qq
abbrev s__check_rest : Stmt := top 28
theorem sc__check_rest : FnScope ["turn", "rest"] ["turn", "rest"] (defScope s__check_rest) := ⟨rfl, rfl, rfl, by decide +kernel, rfl, by decide +kernel, by decide +kernel⟩
set_option maxHeartbeats 40000000 in
theorem ok__check_rest {f : Addr} {fd : FuncData} (F : Fun K "_check_rest" "_check_rest" s__check_rest f fd) (c_is_rest : Cal P w K mg base 5 "is_rest" ["turn", "value"] [] (con_isrestA K)) : GOk P w K mg base 6 f fd ["turn", "rest"] (spD K con_check_rest) := by
  refine gok_ds F sc__check_rest (m := 0) rfl (fun ds S0 Q h => ?_) fun cdv A fr s0 H0 E0' gd hr ds S0 Q h => ?_
  · obtain ⟨_, _, _, _, _, rfl, _⟩ := h
    rfl
  obtain ⟨p, q, k, x, y, rfl, hT, hR, ⟨bx, by'⟩, qq⟩ := h
  have b1 := hT.bp
  have b2 := hT.bq
  refine ds_nrm ?_ (by set_option simprocs false in dsimp only [List.map, List.replicate, List.cons_append, List.nil_append])
  refine ds_cons ?_
  refine ds_if ?_
  refine dt_not ?_
  refine dt_val (h := ?_)
  refine de_call c_is_rest gd (hr.mono (by decide)) ?_
  refine da_cons ?_
  refine de_name 0 ?_
  refine da_cons ?_
  refine de_name 1 ?_
  refine da_nil ?_
  refine ⟨_, _, _, _, rfl, (by walk_at "tn"), .i2, (fun _ _ e => by cases e; exact ⟨by walk_at "bdu", by walk_at "bdu"⟩), ?_⟩
  refine ⟨_, rfl, ?_⟩
  refine ⟨fun ht => ?_, fun ht => ?_⟩
  · rw [show restB p q (.tup [.int x, .int y]) = true from decide_eq_true hR] at ht
    cases ht
  refine ds_nil ?_
  refine ds_nil ?_
  exact qq
abbrev s_inverse : Stmt := top 12
theorem sc_inverse : FnScope ["number", "modulus", "high", "low", "past", "now", "part"] ["number", "modulus"] (defScope s_inverse) := ⟨rfl, rfl, rfl, by decide +kernel, rfl, by decide +kernel, by decide +kernel⟩
set_option maxHeartbeats 40000000 in
theorem ok_inverse {f : Addr} {fd : FuncData} (F : Fun K "inverse" "inverse" s_inverse f fd)  : GOk P w K mg base 1 f fd ["number", "modulus"] (spD K con_inverse) := by
  refine gok_ds F sc_inverse (m := 5) rfl (fun ds S0 Q h => ?_) fun cdv A fr s0 H0 E0' gd hr ds S0 Q h => ?_
  · obtain ⟨_, _, rfl, _⟩ := h
    rfl
  obtain ⟨n, m, rfl, ⟨bn, bm, hm, s, t, hst⟩, qq⟩ := h
  refine ds_nrm ?_ (by set_option simprocs false in dsimp only [List.map, List.replicate, List.cons_append, List.nil_append])
  refine ds_cons ?_
  refine ds_par (i := 2) (j := 3) rfl sc_inverse.nd rfl rfl (by decide) ?_
  refine da_cons ?_
  refine de_name 1 ?_
  refine da_cons ?_
  refine de_mod ?_
  refine de_name 0 ?_
  refine de_name 1 ?_
  refine ⟨_, _, rfl, rfl, (by walk_at "pos"), ?_⟩
  refine da_nil ?_
  refine ⟨_, _, rfl, ?_⟩
  refine ds_nrm ?_
  refine ds_cons ?_
  refine ds_asg (h := ?_)
  refine de_tup ?_
  refine da_cons ?_
  refine de_int ?_
  refine da_cons ?_
  refine de_int ?_
  refine da_nil ?_
  refine ⟨by walk_at "len", ?_⟩
  first | refine dg_tup rfl rfl ?_ | refine dg_tupL rfl rfl ?_ (fun h => pg_lst rfl h)
  refine dgs_cons (h := ?_)
  refine dg_name 4 ?_ sc_inverse.nd
  refine dgs_cons (h := ?_)
  refine dg_name 5 ?_ sc_inverse.nd
  refine dgs_nil ?_
  refine ds_cons ?_
  refine ds_while (γ := Int × Int × Int × Int) PassesOwn.never (fun g => [some (.int n), some (.int m), some (.int g.1), some (.int g.2.1), some (.int g.2.2.1), some (.int g.2.2.2), none]) (fun g S' => S' = S0 ∧ InvI n m g.1 g.2.1 g.2.2.1 g.2.2.2) (fun g => g.2.1.toNat) (m, n % m, 0, 1) ⟨rfl, rfl, rfl, rfl, rfl, rfl, trivial⟩ ⟨rfl, InvI.start hm hst⟩ (fun g S' hP => ?_)
  obtain ⟨rfl, I⟩ := hP
  obtain ⟨hh, l, a, b⟩ := g
  have I : InvI n m hh l a b := I
  have bh : Bd 110 hh := Bd.of_le' bm I.h0 I.hm
  have bl : Bd 110 l := Bd.of_le'' bm I.l0 I.lm
  have ba : Bd 110 a := Bd.of_ab bm I.ab
  have bb : Bd 110 b := Bd.of_ab bm I.b_le
  refine dt_gt ?_
  refine de_name 3 ?_
  refine de_int ?_
  refine ⟨_, _, rfl, rfl, ?_⟩
  refine ⟨fun ht => ?_, fun ht => ?_⟩
  · have hl : 0 < l := of_decide_eq_true ht
    refine ds_cons ?_
    refine ds_asg (h := ?_)
    refine de_fdiv ?_
    refine de_name 2 ?_
    refine de_name 3 ?_
    refine ⟨_, _, rfl, rfl, (by walk_at "cdw"), ?_⟩
    refine dg_name 6 ?_ sc_inverse.nd
    refine ds_cons ?_
    refine ds_par (i := 2) (j := 3) rfl sc_inverse.nd rfl rfl (by decide) ?_
    refine da_cons ?_
    refine de_name 3 ?_
    refine da_cons ?_
    refine de_sub ?_
    refine de_name 2 ?_
    refine de_mul ?_
    refine de_name 6 ?_
    refine de_name 3 ?_
    first | refine mul_i ?_ (by walk_at "cmw") | refine mul_l ?_ ⟨by decide, by decide, by first | decide | exact Nat.le_of_ble_eq_true rfl | walk_at "mlen"⟩
    refine ⟨_, _, rfl, rfl, ?_⟩
    refine da_nil ?_
    refine ⟨_, _, rfl, ?_⟩
    refine ds_nrm ?_
    refine ds_cons ?_
    refine ds_par (i := 4) (j := 5) rfl sc_inverse.nd rfl rfl (by decide) ?_
    refine da_cons ?_
    refine de_name 5 ?_
    refine da_cons ?_
    refine de_sub ?_
    refine de_name 4 ?_
    refine de_mul ?_
    refine de_name 6 ?_
    refine de_name 5 ?_
    first | refine mul_i ?_ (by walk_at "cmw") | refine mul_l ?_ ⟨by decide, by decide, by first | decide | exact Nat.le_of_ble_eq_true rfl | walk_at "mlen"⟩
    refine ⟨_, _, rfl, rfl, ?_⟩
    refine da_nil ?_
    refine ⟨_, _, rfl, ?_⟩
    refine ds_nrm ?_
    refine ds_nil ?_
    exact ⟨(l, hh - hh / l * l, b, a - hh / l * b), ⟨rfl, rfl, rfl, rfl, rfl, rfl, trivial⟩, ⟨rfl, I.step hl⟩, by have := InvI.less (h := hh) hl; show (hh - hh / l * l).toNat < l.toNat; omega⟩
  have hl : l = 0 := by have z : ¬ l > 0 := of_decide_eq_false ht; have := I.l0; omega
  subst hl
  refine ds_cons ?_
  refine ds_ret ?_
  refine de_mod ?_
  refine de_name 4 ?_
  refine de_name 1 ?_
  refine ⟨_, _, rfl, rfl, (by walk_at "pos"), ?_⟩
  exact qq _ (Int.emod_nonneg _ (by omega)) (Int.emod_lt_of_pos _ hm) (I.fin hm)
abbrev s_first_with : Stmt := top 27
theorem sc_first_with : FnScope ["turn", "rest", "p", "q", "_", "c", "a", "r"] ["turn", "rest"] (defScope s_first_with) := ⟨rfl, rfl, rfl, by decide +kernel, rfl, by decide +kernel, by decide +kernel⟩
set_option maxHeartbeats 40000000 in
theorem ok_first_with {f : Addr} {fd : FuncData} (F : Fun K "first_with" "first_with" s_first_with f fd) (c__check_rest : Cal P w K mg base 6 "_check_rest" ["turn", "rest"] [] con_check_rest) (c_check_turn : Cal P w K mg base 4 "check_turn" ["turn"] [] con_check_turn) (c_inverse : Cal P w K mg base 1 "inverse" ["number", "modulus"] [] con_inverse) (c_times : Cal P w K mg base 1 "times" ["one", "other"] [] con_times) : GOk P w K mg base 7 f fd ["turn", "rest"] (spD K con_first) := by
  refine gok_ds F sc_first_with (m := 6) rfl (fun ds S0 Q h => ?_) fun cdv A fr s0 H0 E0' gd hr ds S0 Q h => ?_
  · obtain ⟨_, _, _, _, _, rfl, _⟩ := h
    rfl
  obtain ⟨p, q, k, x, y, rfl, hT, hR, ⟨bx, by'⟩, qq⟩ := h
  have b1 := hT.bp
  have b2 := hT.bq
  refine ds_nrm ?_ (by set_option simprocs false in dsimp only [List.map, List.replicate, List.cons_append, List.nil_append])
  refine ds_cons ?_
  refine ds_expr (h := ?_)
  refine de_call c_check_turn gd (hr.mono (by decide)) ?_
  refine da_cons ?_
  refine de_name 0 ?_
  refine da_nil ?_
  refine ⟨_, _, _, rfl, by walk_at "tn", ?_⟩
  refine ds_cons ?_
  refine ds_expr (h := ?_)
  refine de_call c__check_rest gd (hr.mono (by decide)) ?_
  refine da_cons ?_
  refine de_name 0 ?_
  refine da_cons ?_
  refine de_name 1 ?_
  refine da_nil ?_
  refine ⟨_, _, _, _, _, rfl, by walk_at "tn", by walk_at "isr", ⟨by walk_at "bdu", by walk_at "bdu"⟩, ?_⟩
  refine ds_cons ?_
  refine ds_asg (h := ?_)
  refine de_name 0 ?_
  first | refine dg_tup rfl rfl ?_ | refine dg_tupL rfl rfl ?_ (fun h => pg_lst rfl h)
  refine dgs_cons (h := ?_)
  refine dg_name 2 ?_ sc_first_with.nd
  refine dgs_cons (h := ?_)
  refine dg_name 3 ?_ sc_first_with.nd
  refine dgs_cons (h := ?_)
  refine dg_name 4 ?_ sc_first_with.nd
  refine dgs_nil ?_
  refine ds_cons ?_
  refine ds_asg (h := ?_)
  refine de_add ?_
  refine de_mul ?_
  refine de_name 2 ?_
  refine de_name 2 ?_
  first | refine mul_i ?_ (by walk_at "cmw") | refine mul_l ?_ ⟨by decide, by decide, by first | decide | exact Nat.le_of_ble_eq_true rfl | walk_at "mlen"⟩
  refine de_mul ?_
  refine de_name 3 ?_
  refine de_name 3 ?_
  first | refine mul_i ?_ (by walk_at "cmw") | refine mul_l ?_ ⟨by decide, by decide, by first | decide | exact Nat.le_of_ble_eq_true rfl | walk_at "mlen"⟩
  first | refine add_int ?_ | refine add_lst ?_ (by walk_at "len") | refine add_tup ?_ (by walk_at "len3") | refine add_scr ?_ (by walk_at "len") | refine (show addP (.str _) (.str _) _ _ from ⟨by decide +kernel, ?_⟩)
  refine dg_name 5 ?_ sc_first_with.nd
  refine ds_cons ?_
  refine ds_asg (h := ?_)
  refine de_sub ?_
  refine de_mul ?_
  refine de_name 2 ?_
  refine de_name 2 ?_
  first | refine mul_i ?_ (by walk_at "cmw") | refine mul_l ?_ ⟨by decide, by decide, by first | decide | exact Nat.le_of_ble_eq_true rfl | walk_at "mlen"⟩
  refine de_mul ?_
  refine de_name 3 ?_
  refine de_name 3 ?_
  first | refine mul_i ?_ (by walk_at "cmw") | refine mul_l ?_ ⟨by decide, by decide, by first | decide | exact Nat.le_of_ble_eq_true rfl | walk_at "mlen"⟩
  refine ⟨_, _, rfl, rfl, ?_⟩
  refine dg_name 6 ?_ sc_first_with.nd
  refine ds_cons ?_
  refine ds_asg (h := ?_)
  refine de_call c_times gd (hr.mono (by decide)) ?_
  refine da_cons ?_
  refine de_tup ?_
  refine da_cons ?_
  refine de_name 2 ?_
  refine da_cons ?_
  refine de_name 3 ?_
  refine da_nil ?_
  refine ⟨by walk_at "len", ?_⟩
  refine da_cons ?_
  refine de_name 1 ?_
  refine da_nil ?_
  refine ⟨_, _, _, _, rfl, ⟨by walk_at "bdu", by walk_at "bdu", by walk_at "bdu", by walk_at "bdu"⟩, ?_⟩
  first | refine dg_tup rfl rfl ?_ | refine dg_tupL rfl rfl ?_ (fun h => pg_lst rfl h)
  refine dgs_cons (h := ?_)
  refine dg_name 7 ?_ sc_first_with.nd
  refine dgs_cons (h := ?_)
  refine dg_name 4 ?_ sc_first_with.nd
  refine dgs_nil ?_
  refine ds_cons ?_
  refine ds_ret ?_
  refine de_tup ?_
  refine da_cons ?_
  refine de_mod ?_
  refine de_mul ?_
  refine de_name 7 ?_
  refine de_call c_inverse gd (hr.mono (by decide)) ?_
  refine da_cons ?_
  refine de_name 6 ?_
  refine da_cons ?_
  refine de_name 5 ?_
  refine da_nil ?_
  refine ⟨_, _, rfl, ⟨by walk_at "bdu", by walk_at "bdu", by walk_at "pos", co_ac hT⟩, fun v hv0 hv1 hv => ?_⟩
  have hbv : Bd 110 v := Bd.of_lt hv0 hv1 (by walk_at "bdu")
  first | refine mul_i ?_ (by walk_at "cmw") | refine mul_l ?_ ⟨by decide, by decide, by first | decide | exact Nat.le_of_ble_eq_true rfl | walk_at "mlen"⟩
  refine de_name 5 ?_
  refine ⟨_, _, rfl, rfl, (by walk_at "pos"), ?_⟩
  refine da_cons ?_
  refine de_int ?_
  refine da_nil ?_
  refine ⟨by walk_at "len", ?_⟩
  exact qq _ (Int.emod_nonneg _ (by have := cc_pos hT; unfold cc at this; omega)) (Int.emod_lt_of_pos _ (cc_pos hT)) (first_re hT hR hv).1 (first_re hT hR hv).2
abbrev s__gap_of : Stmt := top 33
theorem sc__gap_of : FnScope ["turn", "p", "q", "_"] ["turn"] (defScope s__gap_of) := ⟨rfl, rfl, rfl, by decide +kernel, rfl, by decide +kernel, by decide +kernel⟩
set_option maxHeartbeats 40000000 in
theorem ok__gap_of {f : Addr} {fd : FuncData} (F : Fun K "_gap_of" "_gap_of" s__gap_of f fd) (n_abs : mg "abs" = none) : GOk P w K mg base 1 f fd ["turn"] (spD K con_gapof) := by
  refine gok_ds F sc__gap_of (m := 3) rfl (fun ds S0 Q h => ?_) fun cdv A fr s0 H0 E0' gd hr ds S0 Q h => ?_
  · obtain ⟨_, _, _, rfl, _⟩ := h
    rfl
  obtain ⟨p, q, k, rfl, hT, qq⟩ := h
  have b1 := hT.bp
  have b2 := hT.bq
  refine ds_nrm ?_ (by set_option simprocs false in dsimp only [List.map, List.replicate, List.cons_append, List.nil_append])
  refine ds_cons ?_
  refine ds_asg (h := ?_)
  refine de_name 0 ?_
  first | refine dg_tup rfl rfl ?_ | refine dg_tupL rfl rfl ?_ (fun h => pg_lst rfl h)
  refine dgs_cons (h := ?_)
  refine dg_name 1 ?_ sc__gap_of.nd
  refine dgs_cons (h := ?_)
  refine dg_name 2 ?_ sc__gap_of.nd
  refine dgs_cons (h := ?_)
  refine dg_name 3 ?_ sc__gap_of.nd
  refine dgs_nil ?_
  refine ds_cons ?_
  refine ds_ret ?_
  refine de_mul ?_
  refine de_mul ?_
  refine de_int ?_
  refine de_B call_abs n_abs bt_abs ?_
  refine da_cons ?_
  refine de_name 2 ?_
  refine da_nil ?_
  refine drc_abs ?_
  first | refine mul_i ?_ (by walk_at "cmw") | refine mul_l ?_ ⟨by decide, by decide, by first | decide | exact Nat.le_of_ble_eq_true rfl | walk_at "mlen"⟩
  refine de_sub ?_
  refine de_name 1 ?_
  refine de_B call_abs n_abs bt_abs ?_
  refine da_cons ?_
  refine de_name 2 ?_
  refine da_nil ?_
  refine drc_abs ?_
  refine ⟨_, _, rfl, rfl, ?_⟩
  first | refine mul_i ?_ (by walk_at "cmw") | refine mul_l ?_ ⟨by decide, by decide, by first | decide | exact Nat.le_of_ble_eq_true rfl | walk_at "mlen"⟩
  exact qq
abbrev s__lies_in_gap : Stmt := top 34
theorem sc__lies_in_gap : FnScope ["legs", "gap", "pixel", "a", "b", "c", "x", "y", "r", "s"] ["legs", "gap", "pixel"] (defScope s__lies_in_gap) := ⟨rfl, rfl, rfl, by decide +kernel, rfl, by decide +kernel, by decide +kernel⟩
set_option maxHeartbeats 40000000 in
theorem ok__lies_in_gap {f : Addr} {fd : FuncData} (F : Fun K "_lies_in_gap" "_lies_in_gap" s__lies_in_gap f fd) (n_abs : mg "abs" = none) : GOk P w K mg base 1 f fd ["legs", "gap", "pixel"] (spD K con_lies) := by
  refine gok_ds F sc__lies_in_gap (m := 7) rfl (fun ds S0 Q h => ?_) fun cdv A fr s0 H0 E0' gd hr ds S0 Q h => ?_
  · obtain ⟨_, _, _, _, _, rfl, _⟩ := h
    rfl
  obtain ⟨p, q, k, x, y, rfl, hT, ⟨bx, by'⟩, qq⟩ := h
  have b1 := hT.bp
  have b2 := hT.bq
  have hc := cc_pos hT
  refine ds_nrm ?_ (by set_option simprocs false in dsimp only [List.map, List.replicate, List.cons_append, List.nil_append])
  refine ds_cons ?_
  refine ds_asg (h := ?_)
  refine de_name 0 ?_
  first | refine dg_tup rfl rfl ?_ | refine dg_tupL rfl rfl ?_ (fun h => pg_lst rfl h)
  refine dgs_cons (h := ?_)
  refine dg_name 3 ?_ sc__lies_in_gap.nd
  refine dgs_cons (h := ?_)
  refine dg_name 4 ?_ sc__lies_in_gap.nd
  refine dgs_cons (h := ?_)
  refine dg_name 5 ?_ sc__lies_in_gap.nd
  refine dgs_nil ?_
  refine ds_cons ?_
  refine ds_asg (h := ?_)
  refine de_name 2 ?_
  first | refine dg_tup rfl rfl ?_ | refine dg_tupL rfl rfl ?_ (fun h => pg_lst rfl h)
  refine dgs_cons (h := ?_)
  refine dg_name 6 ?_ sc__lies_in_gap.nd
  refine dgs_cons (h := ?_)
  refine dg_name 7 ?_ sc__lies_in_gap.nd
  refine dgs_nil ?_
  refine ds_cons ?_
  refine ds_par (i := 8) (j := 9) rfl sc__lies_in_gap.nd rfl rfl (by decide) ?_
  refine da_cons ?_
  refine de_add ?_
  refine de_mul ?_
  refine de_int ?_
  refine de_fdiv ?_
  refine de_add ?_
  refine de_mul ?_
  refine de_name 3 ?_
  refine de_name 6 ?_
  first | refine mul_i ?_ (by walk_at "cmw") | refine mul_l ?_ ⟨by decide, by decide, by first | decide | exact Nat.le_of_ble_eq_true rfl | walk_at "mlen"⟩
  refine de_mul ?_
  refine de_name 4 ?_
  refine de_name 7 ?_
  first | refine mul_i ?_ (by walk_at "cmw") | refine mul_l ?_ ⟨by decide, by decide, by first | decide | exact Nat.le_of_ble_eq_true rfl | walk_at "mlen"⟩
  first | refine add_int ?_ | refine add_lst ?_ (by walk_at "len") | refine add_tup ?_ (by walk_at "len3") | refine add_scr ?_ (by walk_at "len") | refine (show addP (.str _) (.str _) _ _ from ⟨by decide +kernel, ?_⟩)
  refine de_name 5 ?_
  refine ⟨_, _, rfl, rfl, (by walk_at "cdw"), ?_⟩
  first | refine mul_i ?_ (by walk_at "cmw") | refine mul_l ?_ ⟨by decide, by decide, by first | decide | exact Nat.le_of_ble_eq_true rfl | walk_at "mlen"⟩
  refine de_int ?_
  first | refine add_int ?_ | refine add_lst ?_ (by walk_at "len") | refine add_tup ?_ (by walk_at "len3") | refine add_scr ?_ (by walk_at "len") | refine (show addP (.str _) (.str _) _ _ from ⟨by decide +kernel, ?_⟩)
  refine da_cons ?_
  refine de_add ?_
  refine de_mul ?_
  refine de_int ?_
  refine de_fdiv ?_
  refine de_sub ?_
  refine de_mul ?_
  refine de_name 3 ?_
  refine de_name 7 ?_
  first | refine mul_i ?_ (by walk_at "cmw") | refine mul_l ?_ ⟨by decide, by decide, by first | decide | exact Nat.le_of_ble_eq_true rfl | walk_at "mlen"⟩
  refine de_mul ?_
  refine de_name 4 ?_
  refine de_name 6 ?_
  first | refine mul_i ?_ (by walk_at "cmw") | refine mul_l ?_ ⟨by decide, by decide, by first | decide | exact Nat.le_of_ble_eq_true rfl | walk_at "mlen"⟩
  refine ⟨_, _, rfl, rfl, ?_⟩
  refine de_name 5 ?_
  refine ⟨_, _, rfl, rfl, (by walk_at "cdw"), ?_⟩
  first | refine mul_i ?_ (by walk_at "cmw") | refine mul_l ?_ ⟨by decide, by decide, by first | decide | exact Nat.le_of_ble_eq_true rfl | walk_at "mlen"⟩
  refine de_int ?_
  first | refine add_int ?_ | refine add_lst ?_ (by walk_at "len") | refine add_tup ?_ (by walk_at "len3") | refine add_scr ?_ (by walk_at "len") | refine (show addP (.str _) (.str _) _ _ from ⟨by decide +kernel, ?_⟩)
  refine da_nil ?_
  refine ⟨_, _, rfl, ?_⟩
  refine ds_nrm ?_
  refine ds_cons ?_
  refine ds_ret ?_
  refine de_and ?_
  refine de_lt ?_
  refine de_B call_abs n_abs bt_abs ?_
  refine da_cons ?_
  refine de_add ?_
  refine de_sub ?_
  refine de_mul ?_
  refine de_mul ?_
  refine de_int ?_
  refine de_name 5 ?_
  first | refine mul_i ?_ (by walk_at "cmw") | refine mul_l ?_ ⟨by decide, by decide, by first | decide | exact Nat.le_of_ble_eq_true rfl | walk_at "mlen"⟩
  refine de_name 6 ?_
  first | refine mul_i ?_ (by walk_at "cmw") | refine mul_l ?_ ⟨by decide, by decide, by first | decide | exact Nat.le_of_ble_eq_true rfl | walk_at "mlen"⟩
  refine de_mul ?_
  refine de_name 3 ?_
  refine de_name 8 ?_
  first | refine mul_i ?_ (by walk_at "cmw") | refine mul_l ?_ ⟨by decide, by decide, by first | decide | exact Nat.le_of_ble_eq_true rfl | walk_at "mlen"⟩
  refine ⟨_, _, rfl, rfl, ?_⟩
  refine de_mul ?_
  refine de_name 4 ?_
  refine de_name 9 ?_
  first | refine mul_i ?_ (by walk_at "cmw") | refine mul_l ?_ ⟨by decide, by decide, by first | decide | exact Nat.le_of_ble_eq_true rfl | walk_at "mlen"⟩
  first | refine add_int ?_ | refine add_lst ?_ (by walk_at "len") | refine add_tup ?_ (by walk_at "len3") | refine add_scr ?_ (by walk_at "len") | refine (show addP (.str _) (.str _) _ _ from ⟨by decide +kernel, ?_⟩)
  refine da_nil ?_
  refine drc_abs ?_
  refine de_name 1 ?_
  refine ⟨_, _, rfl, rfl, ?_⟩
  refine ⟨_, rfl, fun hb => ?_, fun hb => ?_⟩
  · exact (congrArg (fun v => Q (.bl v) _) (lie_no hT (of_decide_eq_false hb))).mp qq
  refine de_one ?_
  refine de_lt ?_
  refine de_B call_abs n_abs bt_abs ?_
  refine da_cons ?_
  refine de_sub ?_
  refine de_sub ?_
  refine de_mul ?_
  refine de_mul ?_
  refine de_int ?_
  refine de_name 5 ?_
  first | refine mul_i ?_ (by walk_at "cmw") | refine mul_l ?_ ⟨by decide, by decide, by first | decide | exact Nat.le_of_ble_eq_true rfl | walk_at "mlen"⟩
  refine de_name 7 ?_
  first | refine mul_i ?_ (by walk_at "cmw") | refine mul_l ?_ ⟨by decide, by decide, by first | decide | exact Nat.le_of_ble_eq_true rfl | walk_at "mlen"⟩
  refine de_mul ?_
  refine de_name 4 ?_
  refine de_name 8 ?_
  first | refine mul_i ?_ (by walk_at "cmw") | refine mul_l ?_ ⟨by decide, by decide, by first | decide | exact Nat.le_of_ble_eq_true rfl | walk_at "mlen"⟩
  refine ⟨_, _, rfl, rfl, ?_⟩
  refine de_mul ?_
  refine de_name 3 ?_
  refine de_name 9 ?_
  first | refine mul_i ?_ (by walk_at "cmw") | refine mul_l ?_ ⟨by decide, by decide, by first | decide | exact Nat.le_of_ble_eq_true rfl | walk_at "mlen"⟩
  refine ⟨_, _, rfl, rfl, ?_⟩
  refine da_nil ?_
  refine drc_abs ?_
  refine de_name 1 ?_
  refine ⟨_, _, rfl, rfl, ?_⟩
  exact (congrArg (fun v => Q (.bl v) _) (lie_yes hT (of_decide_eq_true hb))).mp qq
abbrev s_is_bare : Stmt := top 30
theorem sc_is_bare : FnScope ["turn", "pixel"] ["turn", "pixel"] (defScope s_is_bare) := ⟨rfl, rfl, rfl, by decide +kernel, rfl, by decide +kernel, by decide +kernel⟩
set_option maxHeartbeats 40000000 in
theorem ok_is_bare {f : Addr} {fd : FuncData} (F : Fun K "is_bare" "is_bare" s_is_bare f fd) (c__gap_of : Cal P w K mg base 1 "_gap_of" ["turn"] [] con_gapof) (c__lies_in_gap : Cal P w K mg base 1 "_lies_in_gap" ["legs", "gap", "pixel"] [] con_lies) (c_check_pixel : Cal P w K mg base 4 "check_pixel" ["pixel"] [] con_check_pixel) (c_check_turn : Cal P w K mg base 4 "check_turn" ["turn"] [] con_check_turn) (c_legs_of : Cal P w K mg base 5 "legs_of" ["turn"] [] con_legs_of) : GOk P w K mg base 6 f fd ["turn", "pixel"] (spD K con_isbare) := by
  refine gok_ds F sc_is_bare (m := 0) rfl (fun ds S0 Q h => ?_) fun cdv A fr s0 H0 E0' gd hr ds S0 Q h => ?_
  · obtain ⟨_, _, _, _, _, rfl, _⟩ := h
    rfl
  obtain ⟨p, q, k, x, y, rfl, hT, ⟨bx, by'⟩, qq⟩ := h
  have b1 := hT.bp
  have b2 := hT.bq
  have b3 := tn_b3 hT
  have hc := cc_pos hT
  refine ds_nrm ?_ (by set_option simprocs false in dsimp only [List.map, List.replicate, List.cons_append, List.nil_append])
  refine ds_cons ?_
  refine ds_expr (h := ?_)
  refine de_call c_check_turn gd (hr.mono (by decide)) ?_
  refine da_cons ?_
  refine de_name 0 ?_
  refine da_nil ?_
  refine ⟨_, _, _, rfl, by walk_at "tn", ?_⟩
  refine ds_cons ?_
  refine ds_expr (h := ?_)
  refine de_call c_check_pixel gd (hr.mono (by decide)) ?_
  refine da_cons ?_
  refine de_name 1 ?_
  refine da_nil ?_
  refine ⟨_, _, rfl, ?_⟩
  refine ds_cons ?_
  refine ds_ret ?_
  refine de_call c__lies_in_gap gd (hr.mono (by decide)) ?_
  refine da_cons ?_
  refine de_call c_legs_of gd (hr.mono (by decide)) ?_
  refine da_cons ?_
  refine de_name 0 ?_
  refine da_nil ?_
  refine ⟨_, _, _, rfl, by walk_at "tn", ?_⟩
  refine da_cons ?_
  refine de_call c__gap_of gd (hr.mono (by decide)) ?_
  refine da_cons ?_
  refine de_name 0 ?_
  refine da_nil ?_
  refine ⟨_, _, _, rfl, by walk_at "tn", ?_⟩
  refine da_cons ?_
  refine de_name 1 ?_
  refine da_nil ?_
  refine ⟨_, _, _, _, _, rfl, by walk_at "tn", ⟨by walk_at "bdu", by walk_at "bdu"⟩, ?_⟩
  exact qq
abbrev s__law_tried : Stmt := top 45
theorem sc__law_tried : FnScope ["_law_spin_here", "_law_dot_here", "_law_x", "_law_y", "_law_near", "_law_k", "_law_j", "_law_one"] ["_law_spin_here", "_law_dot_here"] (defScope s__law_tried) := ⟨rfl, rfl, rfl, by decide +kernel, rfl, by decide +kernel, by decide +kernel⟩
set_option maxHeartbeats 40000000 in
theorem ok__law_tried {f : Addr} {fd : FuncData} (F : Fun K "_law_tried" "_law_tried" s__law_tried f fd) (c__law_seen : Cal P w K mg base 2 "_law_seen" ["_law_spin_here", "_law_dot_here"] [] con_seen) (n_int : mg "int" = none) (n_range : mg "range" = none) (n_sorted : mg "sorted" = none) : GOk P w K mg base 3 f fd ["_law_spin_here", "_law_dot_here"] (spD K con_tried) := by
  refine gok_ds F sc__law_tried (m := 6) rfl (fun ds S0 Q h => ?_) fun cdv A fr s0 H0 E0' gd hr ds S0 Q h => ?_
  · obtain ⟨_, _, _, _, _, rfl, _⟩ := h
    rfl
  obtain ⟨p, q, k, x, y, rfl, hT, ⟨bx, by'⟩, qq⟩ := h
  have b1 := hT.bp
  have b2 := hT.bq
  have b3 := tn_b3 hT
  have hc := cc_pos hT
  have k1 := hT.k1
  have k2 := hT.k2
  have htb := tn_bk hT
  refine ds_nrm ?_ (by set_option simprocs false in dsimp only [List.map, List.replicate, List.cons_append, List.nil_append])
  refine ds_cons ?_
  refine ds_asg (h := ?_)
  refine de_call c__law_seen gd (hr.mono (by decide)) ?_
  refine da_cons ?_
  refine de_tup ?_
  refine da_cons ?_
  refine de_ix (h := ?_)
  refine de_name 0 ?_
  refine de_int ?_
  walk_at "ix"
  refine da_cons ?_
  refine de_neg ?_
  refine de_ix (h := ?_)
  refine de_name 0 ?_
  refine de_int ?_
  walk_at "ix"
  refine ⟨_, rfl, ?_⟩
  refine da_cons ?_
  refine de_mod ?_
  refine de_T call_int1 n_int bt_int ?_
  refine da_cons ?_
  refine de_sub ?_
  refine de_int ?_
  refine de_ix (h := ?_)
  refine de_name 0 ?_
  refine de_int ?_
  walk_at "ix"
  refine ⟨_, _, rfl, rfl, ?_⟩
  refine da_nil ?_
  first | refine drc_int ?_ | refine drc_intb ?_
  refine de_int ?_
  refine ⟨_, _, rfl, rfl, (by walk_at "pos"), ?_⟩
  refine da_nil ?_
  refine ⟨by walk_at "len", ?_⟩
  refine da_cons ?_
  refine de_name 1 ?_
  refine da_nil ?_
  refine ⟨_, _, _, _, _, rfl, by walk_at "tn", ⟨by walk_at "bdu", by walk_at "bdu"⟩, ?_⟩
  first | refine dg_tup rfl rfl ?_ | refine dg_tupL rfl rfl ?_ (fun h => pg_lst rfl h)
  refine dgs_cons (h := ?_)
  refine dg_name 2 ?_ sc__law_tried.nd
  refine dgs_cons (h := ?_)
  refine dg_name 3 ?_ sc__law_tried.nd
  refine dgs_nil ?_
  rw [← bk_1 hT]
  obtain ⟨r0, er⟩ : ∃ r0, r0 = imX p (-q) (-k % 4) x y := ⟨_, rfl⟩
  obtain ⟨s0, es⟩ : ∃ s0, s0 = imY p (-q) (-k % 4) x y := ⟨_, rfl⟩
  rw [← er, ← es]
  have br : Bd 410 r0 := by rw [er]; exact (Bd.imX _ b1 b2.neg bx by').up (by decide)
  have bs : Bd 410 s0 := by rw [es]; exact (Bd.imY _ b1 b2.neg bx by').up (by decide)
  refine ds_cons ?_
  refine ds_setLcT (own := [("_law_k", 5), ("_law_j", 6)]) 4 [5, 6] rfl sc__law_tried.nd rfl rfl (sw_true rfl rfl rfl (by decide +kernel)) (blkOk_by (N := ["_law_spin_here", "_law_dot_here", "_law_x", "_law_y", "_law_near", "_law_k", "_law_j", "_law_one"]) (sc := defScope s__law_tried) (by decide +kernel)) rfl rfl ?_ (fun _ _ _ _ _ => pg_tup rfl (pgs_cons (pg_name sc__law_tried.nd rfl (Or.inl rfl)) (pgs_cons (pg_name sc__law_tried.nd rfl (Or.inl rfl)) pgs_nil)))
  refine di_lst ?_
  refine de_lc 5 rfl sc__law_tried.nd (blkOk_by (N := ["_law_spin_here", "_law_dot_here", "_law_x", "_law_y", "_law_near", "_law_k", "_law_j", "_law_one"]) (sc := defScope s__law_tried) (by decide +kernel)) ?_ (fun _ _ _ _ _ => pg_name sc__law_tried.nd rfl (Or.inl rfl))
  refine di_rng1 n_range ?_
  refine da_cons ?_
  refine de_int ?_
  refine da_nil ?_
  refine ⟨_, rfl, (by walk_at "rng"), ?_⟩
  refine ⟨fun i9 acc S' => S0 = S' ∧ acc = (off25.take i9).map pr2, ⟨rfl, rfl⟩, fun k9 d acc S' p9 hk hP hp hl s5 H5 C5 cl5 fp5 => ?_, by simp [rngD_len], fun acc S' hl hP => ?_⟩
  · obtain ⟨rfl, rfl⟩ := hP
    obtain ⟨hlt9, rfl⟩ := rngD_get hk
    have hlt9 : k9 < 25 := hlt9
    have b9 : Bd 5 (0 + (k9 : Int)) := by unfold Bd; omega
    refine de_tup ?_
    refine da_cons ?_
    refine de_add ?_
    refine de_neg ?_
    refine de_int ?_
    refine ⟨_, rfl, ?_⟩
    refine de_fdiv ?_
    refine de_T call_int1 n_int bt_int ?_
    refine da_cons ?_
    refine de_name 5 ?_
    refine da_nil ?_
    first | refine drc_int ?_ | refine drc_intb ?_
    refine de_int ?_
    refine ⟨_, _, rfl, rfl, (by walk_at "cdw"), ?_⟩
    first | refine add_int ?_ | refine add_lst ?_ (by walk_at "len") | refine add_tup ?_ (by walk_at "len3") | refine add_scr ?_ (by walk_at "len") | refine (show addP (.str _) (.str _) _ _ from ⟨by decide +kernel, ?_⟩)
    refine da_cons ?_
    refine de_add ?_
    refine de_neg ?_
    refine de_int ?_
    refine ⟨_, rfl, ?_⟩
    refine de_mod ?_
    refine de_T call_int1 n_int bt_int ?_
    refine da_cons ?_
    refine de_name 5 ?_
    refine da_nil ?_
    first | refine drc_int ?_ | refine drc_intb ?_
    refine de_int ?_
    refine ⟨_, _, rfl, rfl, (by walk_at "pos"), ?_⟩
    first | refine add_int ?_ | refine add_lst ?_ (by walk_at "len") | refine add_tup ?_ (by walk_at "len3") | refine add_scr ?_ (by walk_at "len") | refine (show addP (.str _) (.str _) _ _ from ⟨by decide +kernel, ?_⟩)
    refine da_nil ?_
    refine ⟨by walk_at "len", ?_⟩
    exact ⟨_, rfl, rfl, by rw [List.map_take, List.map_take, take_step pr2 (off25_at hlt9), Int.zero_add] <;> rfl⟩
  obtain ⟨rfl, rfl⟩ := hP
  rw [take25]
  refine ⟨_, rfl, ?_⟩
  refine ⟨fun i9 acc S' => S0 = S' ∧ acc = ((near25 r0 s0).take i9).map pr2, ⟨rfl, rfl⟩, fun k9 d acc S' p9 hk hP hp hl => ?_, by rw [List.length_map]; decide, fun acc S' hl hP => ?_⟩
  · obtain ⟨rfl, rfl⟩ := hP
    obtain ⟨⟨i, j⟩, ht9, rfl⟩ := pr_at (os := off25) hk
    have hm9 := off25_bd (List.mem_of_getElem? ht9)
    have bi9 : Bd 2 i := hm9.1
    have bj9 : Bd 2 j := hm9.2
    refine ⟨_, rfl, rfl, _, by set_option simprocs false in dsimp only [setV, wipeE, List.set], ?_⟩
    intro s H C cl fp
    refine de_tup ?_
    refine da_cons ?_
    refine de_add ?_
    refine de_name 2 ?_
    refine de_name 5 ?_
    first | refine add_int ?_ | refine add_lst ?_ (by walk_at "len") | refine add_tup ?_ (by walk_at "len3") | refine add_scr ?_ (by walk_at "len") | refine (show addP (.str _) (.str _) _ _ from ⟨by decide +kernel, ?_⟩)
    refine da_cons ?_
    refine de_add ?_
    refine de_name 3 ?_
    refine de_name 6 ?_
    first | refine add_int ?_ | refine add_lst ?_ (by walk_at "len") | refine add_tup ?_ (by walk_at "len3") | refine add_scr ?_ (by walk_at "len") | refine (show addP (.str _) (.str _) _ _ from ⟨by decide +kernel, ?_⟩)
    refine da_nil ?_
    refine ⟨by walk_at "len", ?_⟩
    exact ⟨_, rfl, rfl, by rw [List.map_take, List.map_take, take_step pr2 (near25_at ht9)] <;> rfl⟩
  obtain ⟨rfl, rfl⟩ := hP
  rw [take_near]
  refine ds_nrm ?_
  refine ds_cons ?_
  refine ds_ret ?_
  refine de_B (cr_sortD (hu65 hr)) n_sorted bt_sorted ?_
  refine da_cons ?_
  refine de_lcIf 7 rfl sc__law_tried.nd (blkOk_by (N := ["_law_spin_here", "_law_dot_here", "_law_x", "_law_y", "_law_near", "_law_k", "_law_j", "_law_one"]) (sc := defScope s__law_tried) (by decide +kernel)) ?_ (fun _ _ _ _ _ => pg_name sc__law_tried.nd rfl (Or.inl rfl))
  refine di_lst ?_
  refine de_name 4 ?_
  refine ⟨_, rfl, ?_⟩
  refine ⟨fun i9 acc S' => S0 = S' ∧ acc = (((near25 r0 s0).take i9).filter (fS p q k x y)).map pr2, ⟨rfl, rfl⟩, fun k9 d acc S' p9 hk hP hp hl s5 H5 C5 cl5 fp5 => ?_, by simp [near25, off25], fun acc S' hl hP => ?_⟩
  · obtain ⟨rfl, rfl⟩ := hP
    obtain ⟨⟨z, w⟩, ht9, rfl⟩ := pr_at (os := near25 r0 s0) hk
    obtain ⟨bz, bw⟩ := near25_bd br bs (List.mem_of_getElem? ht9)
    refine dt_eq (hr.units) ?_
    refine de_call c__law_seen gd (hr.mono (by decide)) ?_
    refine da_cons ?_
    refine de_name 0 ?_
    refine da_cons ?_
    refine de_name 7 ?_
    refine da_nil ?_
    refine ⟨_, _, _, _, _, rfl, by walk_at "tn", ⟨by walk_at "bdu", by walk_at "bdu"⟩, ?_⟩
    refine de_name 1 ?_
    refine eq_t2 fun v hv => ?_
    refine ⟨_, rfl, fun ht s6 H6 C6 cl6 fp6 => ?_, fun ht => ⟨rfl, by rw [flt_step _ _ ht9, if_neg (fun c : fS p q k x y (z, w) = true => by rw [hv.mpr (of_decide_eq_true c)] at ht; cases ht), List.append_nil]⟩⟩
    refine de_name 7 ?_
    exact ⟨_, rfl, rfl, by rw [flt_step _ _ ht9, if_pos (show fS p q k x y (z, w) = true from decide_eq_true (hv.mp ht))] <;> rfl⟩
  obtain ⟨rfl, rfl⟩ := hP
  rw [take_all]
  refine da_nil ?_
  refine drc_sort2 _ (near_len _) ?_
  rw [near25_sort, er, es, tried_src hT]
  exact qq
abbrev s_keeps_all : Stmt := top 24
theorem sc_keeps_all : FnScope ["turn", "p", "q", "_"] ["turn"] (defScope s_keeps_all) := ⟨rfl, rfl, rfl, by decide +kernel, rfl, by decide +kernel, by decide +kernel⟩
set_option maxHeartbeats 40000000 in
theorem ok_keeps_all {f : Addr} {fd : FuncData} (F : Fun K "keeps_all" "keeps_all" s_keeps_all f fd) (c_check_turn : Cal P w K mg base 4 "check_turn" ["turn"] [] con_check_turn) (n_abs : mg "abs" = none) : GOk P w K mg base 5 f fd ["turn"] (spD K con_keeps) := by
  refine gok_ds F sc_keeps_all (m := 3) rfl (fun ds S0 Q h => ?_) fun cdv A fr s0 H0 E0' gd hr ds S0 Q h => ?_
  · obtain ⟨_, _, _, rfl, _⟩ := h
    rfl
  obtain ⟨p, q, k, rfl, hT, qq⟩ := h
  refine ds_nrm ?_ (by set_option simprocs false in dsimp only [List.map, List.replicate, List.cons_append, List.nil_append])
  refine ds_cons ?_
  refine ds_expr (h := ?_)
  refine de_call c_check_turn gd (hr.mono (by decide)) ?_
  refine da_cons ?_
  refine de_name 0 ?_
  refine da_nil ?_
  refine ⟨_, _, _, rfl, by walk_at "tn", ?_⟩
  refine ds_cons ?_
  refine ds_asg (h := ?_)
  refine de_name 0 ?_
  first | refine dg_tup rfl rfl ?_ | refine dg_tupL rfl rfl ?_ (fun h => pg_lst rfl h)
  refine dgs_cons (h := ?_)
  refine dg_name 1 ?_ sc_keeps_all.nd
  refine dgs_cons (h := ?_)
  refine dg_name 2 ?_ sc_keeps_all.nd
  refine dgs_cons (h := ?_)
  refine dg_name 3 ?_ sc_keeps_all.nd
  refine dgs_nil ?_
  refine ds_cons ?_
  refine ds_ret ?_
  refine de_eq (hr.units) ?_
  refine de_name 1 ?_
  refine de_add ?_
  refine de_B call_abs n_abs bt_abs ?_
  refine da_cons ?_
  refine de_name 2 ?_
  refine da_nil ?_
  refine drc_abs ?_
  refine de_int ?_
  first | refine add_int ?_ | refine add_lst ?_ (by walk_at "len") | refine add_tup ?_ (by walk_at "len3") | refine add_scr ?_ (by walk_at "len") | refine (show addP (.str _) (.str _) _ _ from ⟨by decide +kernel, ?_⟩)
  refine eq_int ?_
  exact qq
abbrev s_a_loss : Stmt := top 31
theorem sc_a_loss : FnScope ["turn", "p", "q", "_"] ["turn"] (defScope s_a_loss) := ⟨rfl, rfl, rfl, by decide +kernel, rfl, by decide +kernel, by decide +kernel⟩
set_option maxHeartbeats 40000000 in
theorem ok_a_loss {f : Addr} {fd : FuncData} (F : Fun K "a_loss" "a_loss" s_a_loss f fd) (c_back : Cal P w K mg base 5 "back" ["turn"] [] con_back) (c_first_with : Cal P w K mg base 7 "first_with" ["turn", "rest"] [] con_first) (c_keeps_all : Cal P w K mg base 5 "keeps_all" ["turn"] [] con_keeps) : GOk P w K mg base 8 f fd ["turn"] (spD K con_aloss23) := by
  refine gok_ds F sc_a_loss (m := 3) rfl (fun ds S0 Q h => ?_) fun cdv A fr s0 H0 E0' gd hr ds S0 Q h => ?_
  · obtain ⟨_, _, _, rfl, _⟩ := h
    rfl
  obtain ⟨p, q, k, rfl, hT, hk, q2⟩ := h
  have b1 := hT.bp
  have b2 := hT.bq
  have hp1 := hT.p1
  have hc := cc_pos hT
  have hiR := loss_rest hT
  refine ds_nrm ?_ (by set_option simprocs false in dsimp only [List.map, List.replicate, List.cons_append, List.nil_append])
  refine ds_cons ?_
  refine ds_if ?_
  refine dt_val (h := ?_)
  refine de_call c_keeps_all gd (hr.mono (by decide)) ?_
  refine da_cons ?_
  refine de_name 0 ?_
  refine da_nil ?_
  refine ⟨_, _, _, rfl, hT, ?_⟩
  refine ⟨_, rfl, ?_⟩
  refine ⟨fun ht => ?_, fun ht => ?_⟩
  · exact absurd (of_decide_eq_true ht) hk
  refine ds_nil ?_
  refine ds_cons ?_
  refine ds_asg (h := ?_)
  refine de_name 0 ?_
  first | refine dg_tup rfl rfl ?_ | refine dg_tupL rfl rfl ?_ (fun h => pg_lst rfl h)
  refine dgs_cons (h := ?_)
  refine dg_name 1 ?_ sc_a_loss.nd
  refine dgs_cons (h := ?_)
  refine dg_name 2 ?_ sc_a_loss.nd
  refine dgs_cons (h := ?_)
  refine dg_name 3 ?_ sc_a_loss.nd
  refine dgs_nil ?_
  refine ds_cons ?_
  refine ds_ret ?_
  refine de_tup ?_
  refine da_cons ?_
  refine de_str ?_
  refine da_cons ?_
  refine de_call c_first_with gd (hr.mono (by decide)) ?_
  refine da_cons ?_
  refine de_call c_back gd (hr.mono (by decide)) ?_
  refine da_cons ?_
  refine de_name 0 ?_
  refine da_nil ?_
  refine ⟨_, _, _, rfl, by walk_at "tn", ?_⟩
  refine da_cons ?_
  refine de_tup ?_
  refine da_cons ?_
  refine de_fdiv ?_
  refine de_add ?_
  refine de_sub ?_
  refine de_int ?_
  refine de_name 1 ?_
  refine ⟨_, _, rfl, rfl, ?_⟩
  refine de_name 2 ?_
  first | refine add_int ?_ | refine add_lst ?_ (by walk_at "len") | refine add_tup ?_ (by walk_at "len3") | refine add_scr ?_ (by walk_at "len") | refine (show addP (.str _) (.str _) _ _ from ⟨by decide +kernel, ?_⟩)
  refine de_int ?_
  refine ⟨_, _, rfl, rfl, (by walk_at "cdw"), ?_⟩
  refine da_cons ?_
  refine de_fdiv ?_
  refine de_sub ?_
  refine de_sub ?_
  refine de_int ?_
  refine de_name 1 ?_
  refine ⟨_, _, rfl, rfl, ?_⟩
  refine de_name 2 ?_
  refine ⟨_, _, rfl, rfl, ?_⟩
  refine de_int ?_
  refine ⟨_, _, rfl, rfl, (by walk_at "cdw"), ?_⟩
  refine da_nil ?_
  refine ⟨by walk_at "len", ?_⟩
  refine da_nil ?_
  refine ⟨_, _, _, _, _, rfl, by walk_at "tn", (by assumption), ⟨by walk_at "bdu", by walk_at "bdu"⟩, fun f9 hf9 hg9 hx9 hy9 => ?_⟩
  refine da_nil ?_
  refine ⟨by walk_at "len", ?_⟩
  have hb9 := loss_bare hT hk hx9 hy9
  obtain rfl : f9 = lossX p q := lossX_of hT hf9 hg9 hx9 hy9
  exact q2 hb9
set_option maxHeartbeats 40000000 in
theorem okx_a_loss {f : Addr} {fd : FuncData} (F : Fun K "a_loss" "a_loss" s_a_loss f fd) {C_KeepsAll : Addr} (c_back : Cal P w K mg base 5 "back" ["turn"] [] con_back) (c_first_with : Cal P w K mg base 7 "first_with" ["turn", "rest"] [] con_first) (c_keeps_all : Cal P w K mg base 5 "keeps_all" ["turn"] [] con_keeps) (o_KeepsAll : OwnErr K mg "KeepsAll" C_KeepsAll) : GOkX P w K mg base 8 f fd ["turn"] (spDX K (con_alossX C_KeepsAll)) := by
  refine gokx_ds F sc_a_loss (m := 3) rfl (fun ds S0 Q R h => ?_) fun cdv A fr s0 H0 E0' gd hr ds S0 Q R h => ?_
  · obtain ⟨_, _, _, rfl, _⟩ := h
    rfl
  obtain ⟨p, q, k, rfl, hT, q1, q2⟩ := h
  have b1 := hT.bp
  have b2 := hT.bq
  have hp1 := hT.p1
  have hc := cc_pos hT
  have hiR := loss_rest hT
  refine dsx_nrm ?_ (by set_option simprocs false in dsimp only [List.map, List.replicate, List.cons_append, List.nil_append])
  refine dsx_cons ?_
  refine dsx_if ?_
  refine dt_val (h := ?_)
  refine de_call c_keeps_all gd (hr.mono (by decide)) ?_
  refine da_cons ?_
  refine de_name 0 ?_
  refine da_nil ?_
  refine ⟨_, _, _, rfl, hT, ?_⟩
  refine ⟨_, rfl, ?_⟩
  refine ⟨fun ht => ?_, fun ht => ?_⟩
  · refine dsx_cons ?_
    refine dsx_raise_own o_KeepsAll rfl ?_
    exact q1 (of_decide_eq_true ht)
  have hk : ¬ keepsP p q := of_decide_eq_false ht
  refine dsx_nil ?_
  refine dsx_cons ?_
  refine ds1x_of ?_
  refine ds_asg (h := ?_)
  refine de_name 0 ?_
  first | refine dg_tup rfl rfl ?_ | refine dg_tupL rfl rfl ?_ (fun h => pg_lst rfl h)
  refine dgs_cons (h := ?_)
  refine dg_name 1 ?_ sc_a_loss.nd
  refine dgs_cons (h := ?_)
  refine dg_name 2 ?_ sc_a_loss.nd
  refine dgs_cons (h := ?_)
  refine dg_name 3 ?_ sc_a_loss.nd
  refine dgs_nil ?_
  refine dsx_cons ?_
  refine dsx_ret ?_
  refine dex_of ?_
  refine de_tup ?_
  refine da_cons ?_
  refine de_str ?_
  refine da_cons ?_
  refine de_call c_first_with gd (hr.mono (by decide)) ?_
  refine da_cons ?_
  refine de_call c_back gd (hr.mono (by decide)) ?_
  refine da_cons ?_
  refine de_name 0 ?_
  refine da_nil ?_
  refine ⟨_, _, _, rfl, by walk_at "tn", ?_⟩
  refine da_cons ?_
  refine de_tup ?_
  refine da_cons ?_
  refine de_fdiv ?_
  refine de_add ?_
  refine de_sub ?_
  refine de_int ?_
  refine de_name 1 ?_
  refine ⟨_, _, rfl, rfl, ?_⟩
  refine de_name 2 ?_
  first | refine add_int ?_ | refine add_lst ?_ (by walk_at "len") | refine add_tup ?_ (by walk_at "len3") | refine add_scr ?_ (by walk_at "len") | refine (show addP (.str _) (.str _) _ _ from ⟨by decide +kernel, ?_⟩)
  refine de_int ?_
  refine ⟨_, _, rfl, rfl, (by walk_at "cdw"), ?_⟩
  refine da_cons ?_
  refine de_fdiv ?_
  refine de_sub ?_
  refine de_sub ?_
  refine de_int ?_
  refine de_name 1 ?_
  refine ⟨_, _, rfl, rfl, ?_⟩
  refine de_name 2 ?_
  refine ⟨_, _, rfl, rfl, ?_⟩
  refine de_int ?_
  refine ⟨_, _, rfl, rfl, (by walk_at "cdw"), ?_⟩
  refine da_nil ?_
  refine ⟨by walk_at "len", ?_⟩
  refine da_nil ?_
  refine ⟨_, _, _, _, _, rfl, by walk_at "tn", (by assumption), ⟨by walk_at "bdu", by walk_at "bdu"⟩, fun f9 hf9 hg9 hx9 hy9 => ?_⟩
  refine da_nil ?_
  refine ⟨by walk_at "len", ?_⟩
  have hb9 := loss_bare hT hk hx9 hy9
  obtain rfl : f9 = lossX p q := lossX_of hT hf9 hg9 hx9 hy9
  exact q2 hk hb9
abbrev s_shows_loss : Stmt := top 32
theorem sc_shows_loss : FnScope ["turn", "value"] ["turn", "value"] (defScope s_shows_loss) := ⟨rfl, rfl, rfl, by decide +kernel, rfl, by decide +kernel, by decide +kernel⟩
set_option maxHeartbeats 40000000 in
theorem ok_shows_loss {f : Addr} {fd : FuncData} (F : Fun K "shows_loss" "shows_loss" s_shows_loss f fd) (c_check_turn : Cal P w K mg base 4 "check_turn" ["turn"] [] con_check_turn) (c_image : Cal P w K mg base 7 "image" ["turn", "pixel"] [] con_image) (c_is_bare : Cal P w K mg base 6 "is_bare" ["turn", "pixel"] [] con_isbare) (c_is_pixel : Cal P w K mg base 3 "is_pixel" ["value"] [] (con_pixA K)) (n_isinstance : mg "isinstance" = none) (n_len : mg "len" = none) (n_tuple : mg "tuple" = none) : GOk P w K mg base 8 f fd ["turn", "value"] (spD K (con_showsA P w K)) := by
  refine gok_ds F sc_shows_loss (m := 0) rfl (fun ds S0 Q h => ?_) fun cdv A fr s0 H0 E0' gd hr ds S0 Q h => ?_
  · obtain ⟨_, _, _, _, rfl, _⟩ := h
    rfl
  obtain ⟨p, q, k, d, rfl, hT, hL, qq⟩ := h
  obtain ⟨t9, hty, hi9, hb9, htu, hls, hst⟩ := hL.v
  have b1 := hT.bp
  have b2 := hT.bq
  have hc := cc_pos hT
  refine ds_nrm ?_ (by set_option simprocs false in dsimp only [List.map, List.replicate, List.cons_append, List.nil_append])
  refine ds_cons ?_
  refine ds_expr (h := ?_)
  refine de_call c_check_turn gd (hr.mono (by decide)) ?_
  refine da_cons ?_
  refine de_name 0 ?_
  refine da_nil ?_
  refine ⟨_, _, _, rfl, by walk_at "tn", ?_⟩
  refine ds_cons ?_
  refine ds_if ?_
  refine dt_not ?_
  refine dt_val (h := ?_)
  refine de_B call_isi_D n_isinstance bt_isinstance ?_
  refine da_cons ?_
  refine de_name 1 ?_
  refine da_cons ?_
  refine de_ty n_tuple bt_tuple ?_
  refine da_nil ?_
  refine drc_isiD hty htu ?_
  refine ⟨_, rfl, ?_⟩
  refine ⟨fun ht => ?_, fun ht => ?_⟩
  · have e9 : lossD p q k d = false := lossD_no (by simpa using ht)
    refine ds_cons ?_
    refine ds_ret ?_
    refine de_bl ?_
    exact (congrArg (fun b => Q (.bl b) S0) (e9)).mp qq
  obtain ⟨l9, rfl⟩ : ∃ l, d = .tup l := by cases d <;> first | exact ⟨_, rfl⟩ | cases ht
  have hE := hL.p l9 rfl
  refine ds_nil ?_
  refine ds_cons ?_
  refine ds_if ?_
  refine DT.mono (Q := fun b' S' => S0 = S' ∧ (b' = true → ∃ e, l9 = [.str "bare", e]) ∧ (b' = false → ∀ e, l9 ≠ [.str "bare", e])) ?_ ?_
  · refine dt_w ?_
    refine dw_and ?_
    refine dt_eq (hr.units) ?_
    refine de_B call_len_seq n_len bt_len ?_
    refine da_cons ?_
    refine de_name 1 ?_
    refine da_nil ?_
    refine drc_len ?_
    walk_at "lenP"
    refine de_int ?_
    refine eq_int ?_
    refine ⟨fun hb => ?_, fun hb => ?_⟩
    · exact ⟨rfl, (fun z => nomatch z), fun _ e z => by rw [z] at hb; exact absurd hb (by simp)⟩
    obtain ⟨v0, v1, rfl⟩ := len_2 (of_decide_eq_true hb)
    refine dw_and1 ?_
    refine dt_eq (hr.units) ?_
    refine de_ix (h := ?_)
    refine de_name 1 ?_
    refine de_int ?_
    walk_at "ix"
    refine de_str ?_
    refine eq_wrd (hE _ (by simp)) (by decide +kernel) ?_
    exact ⟨rfl, fun z => ⟨v1, by rw [isStr_eq.mp z]⟩, fun z e y => by cases y; exact absurd z (by decide)⟩
  rintro b' _ ⟨rfl, hbt, hbf⟩
  refine ⟨fun ht => ?_, fun ht => ?_⟩
  · obtain ⟨e9, rfl⟩ := hbt ht
    have hE1 := hE e9 (by simp)
    refine ds_cons ?_
    refine ds_ret ?_
    refine de_and ?_
    refine de_call c_is_pixel gd (hr.mono (by decide)) ?_
    refine da_cons ?_
    refine de_ix (h := ?_)
    refine de_name 1 ?_
    refine de_int ?_
    walk_at "ix"
    refine da_nil ?_
    refine ⟨_, rfl, hE1.any.t, hE1.ln, ?_⟩
    refine ⟨_, rfl, fun hb => ?_, fun hb => ?_⟩
    · exact (congrArg (fun b => Q (.bl b) S0) (show lossD p q k (.tup [.str "bare", e9]) = false by rw [lossD_t]; exact loss_bare_f hb)).mp qq
    obtain ⟨x, y, rfl, bx, by'⟩ := pixB_bd hE1 hb
    refine de_one ?_
    refine de_call c_is_bare gd (hr.mono (by decide)) ?_
    refine da_cons ?_
    refine de_name 0 ?_
    refine da_cons ?_
    refine de_ix (h := ?_)
    refine de_name 1 ?_
    refine de_int ?_
    walk_at "ix"
    refine da_nil ?_
    refine ⟨_, _, _, _, _, rfl, by walk_at "tn", ⟨by walk_at "bdu", by walk_at "bdu"⟩, ?_⟩
    exact (congrArg (fun b => Q (.bl b) S0) (show lossD p q k (.tup [.str "bare", .tup [.int x, .int y]]) = bareB p q k x y by rw [lossD_t]; exact loss_bare_t)).mp qq
  have hn2 := hbf ht
  refine ds_nil ?_
  refine ds_cons ?_
  refine ds_if ?_
  refine DT.mono (Q := fun b' S' => S0 = S' ∧ (b' = true → ∃ x y z w : Int, l9 = [.str "meet", .tup [.int x, .int y], .tup [.int z, .int w]] ∧ (Bd 280 x ∧ Bd 280 y) ∧ Bd 280 z ∧ Bd 280 w) ∧ (b' = false → lossB p q k l9 = false)) ?_ ?_
  · refine dt_w ?_
    refine dw_and ?_
    refine dt_eq (hr.units) ?_
    refine de_B call_len_seq n_len bt_len ?_
    refine da_cons ?_
    refine de_name 1 ?_
    refine da_nil ?_
    refine drc_len ?_
    walk_at "lenP"
    refine de_int ?_
    refine eq_int ?_
    refine ⟨fun hb => ?_, fun hb => ?_⟩
    · exact ⟨rfl, (fun z => nomatch z), fun _ => loss_no hn2 fun e f z => by rw [z] at hb; exact absurd hb (by simp)⟩
    obtain ⟨v0, v1, v2, rfl⟩ := len_3 (of_decide_eq_true hb)
    have hE1 := hE v1 (by simp)
    have hE2 := hE v2 (by simp)
    refine dw_and ?_
    refine dt_eq (hr.units) ?_
    refine de_ix (h := ?_)
    refine de_name 1 ?_
    refine de_int ?_
    walk_at "ix"
    refine de_str ?_
    refine eq_wrd (hE _ (by simp)) (by decide +kernel) ?_
    refine ⟨fun hb => ?_, fun hb => ?_⟩
    · exact ⟨rfl, (fun z => nomatch z), fun _ => loss_no hn2 fun e f z => by cases z; exact absurd hb (by decide)⟩
    obtain rfl := isStr_eq.mp hb
    refine dw_and ?_
    refine dt_val (h := ?_)
    refine de_call c_is_pixel gd (hr.mono (by decide)) ?_
    refine da_cons ?_
    refine de_ix (h := ?_)
    refine de_name 1 ?_
    refine de_int ?_
    walk_at "ix"
    refine da_nil ?_
    refine ⟨_, rfl, hE1.any.t, hE1.ln, ?_⟩
    refine ⟨_, rfl, ?_⟩
    refine ⟨fun hb => ?_, fun hb => ?_⟩
    · exact ⟨rfl, (fun z => nomatch z), fun _ => loss_meet_f (.inl hb)⟩
    obtain ⟨x, y, rfl, bx, by'⟩ := pixB_bd hE1 hb
    refine dw_and1 ?_
    refine dt_val (h := ?_)
    refine de_call c_is_pixel gd (hr.mono (by decide)) ?_
    refine da_cons ?_
    refine de_ix (h := ?_)
    refine de_name 1 ?_
    refine de_int ?_
    walk_at "ix"
    refine da_nil ?_
    refine ⟨_, rfl, hE2.any.t, hE2.ln, ?_⟩
    refine ⟨_, rfl, ?_⟩
    exact ⟨rfl, fun z => (let ⟨a, b, e, ba, bb⟩ := pixB_bd hE2 z; ⟨x, y, a, b, by rw [e], ⟨bx, by'⟩, ba, bb⟩), fun z => loss_meet_f (.inr z)⟩
  rintro b' _ ⟨rfl, hbt, hbf⟩
  refine ⟨fun ht => ?_, fun ht => ?_⟩
  · obtain ⟨x, y, z, w9, rfl, ⟨bx, by'⟩, bz, bw⟩ := hbt ht
    refine ds_cons ?_
    refine ds_ret ?_
    refine de_and ?_
    refine de_lt2 (hu65 hr) ?_
    refine de_ix (h := ?_)
    refine de_name 1 ?_
    refine de_int ?_
    walk_at "ix"
    refine de_ix (h := ?_)
    refine de_name 1 ?_
    refine de_int ?_
    walk_at "ix"
    refine ⟨_, _, _, _, rfl, rfl, ?_⟩
    refine ⟨_, rfl, fun hb => ?_, fun hb => ?_⟩
    · exact (congrArg (fun b => Q (.bl b) S0) (show lossD p q k (.tup [.str "meet", .tup [.int x, .int y], .tup [.int z, .int w9]]) = false by rw [lossD_t, loss_meet_t, show lt2 (x, y) (z, w9) = false from hb]; rfl)).mp qq
    refine de_one ?_
    refine de_eq (hr.units) ?_
    refine de_call c_image gd (hr.mono (by decide)) ?_
    refine da_cons ?_
    refine de_name 0 ?_
    refine da_cons ?_
    refine de_ix (h := ?_)
    refine de_name 1 ?_
    refine de_int ?_
    walk_at "ix"
    refine da_nil ?_
    refine ⟨_, _, _, _, _, rfl, by walk_at "tn", ⟨by walk_at "bdu", by walk_at "bdu"⟩, ?_⟩
    refine de_call c_image gd (hr.mono (by decide)) ?_
    refine da_cons ?_
    refine de_name 0 ?_
    refine da_cons ?_
    refine de_ix (h := ?_)
    refine de_name 1 ?_
    refine de_int ?_
    walk_at "ix"
    refine da_nil ?_
    refine ⟨_, _, _, _, _, rfl, by walk_at "tn", ⟨by walk_at "bdu", by walk_at "bdu"⟩, ?_⟩
    refine eq_t2 fun v9 hv9 => ?_
    have e9 := same_v (v := (x, y)) (w := (z, w9)) hv9
    subst e9
    exact (congrArg (fun b => Q (.bl b) S0) (show lossD p q k (.tup [.str "meet", .tup [.int x, .int y], .tup [.int z, .int w9]]) = sameB p q k (x, y) (z, w9) by rw [lossD_t, loss_meet_t, show lt2 (x, y) (z, w9) = true from hb]; rfl)).mp qq
  have e9 := hbf ht
  refine ds_nil ?_
  refine ds_cons ?_
  refine ds_ret ?_
  refine de_bl ?_
  exact (congrArg (fun b => Q (.bl b) S0) (show lossD p q k (.tup l9) = false by rw [lossD_t]; exact e9)).mp qq
abbrev s__law_is_dot : Stmt := top 46
theorem sc__law_is_dot : FnScope ["_law_thing", "_law_one"] ["_law_thing"] (defScope s__law_is_dot) := ⟨rfl, rfl, rfl, by decide +kernel, rfl, by decide +kernel, by decide +kernel⟩
set_option maxHeartbeats 40000000 in
theorem ok__law_is_dot {f : Addr} {fd : FuncData} (F : Fun K "_law_is_dot" "_law_is_dot" s__law_is_dot f fd) (n_bool : mg "bool" = none) (n_int : mg "int" = none) (n_isinstance : mg "isinstance" = none) (n_len : mg "len" = none) (n_tuple : mg "tuple" = none) : GOk P w K mg base 1 f fd ["_law_thing"] (spD K (con_isdotA K)) := by
  refine gok_ds F sc__law_is_dot (m := 1) rfl (fun ds S0 Q h => ?_) fun cdv A fr s0 H0 E0' gd hr ds S0 Q h => ?_
  · obtain ⟨_, rfl, _⟩ := h
    rfl
  obtain ⟨d, rfl, hE, q⟩ := h
  obtain ⟨t9, hty, hi9, hb9, htu, hls, hst⟩ := (hE.any (K := K)).t.v
  refine ds_nrm ?_ (by set_option simprocs false in dsimp only [List.map, List.replicate, List.cons_append, List.nil_append])
  refine ds_cons ?_
  refine ds_if ?_
  refine DT.mono (Q := fun b' S' => S0 = S' ∧ (b' = true → pixB d = false) ∧ (b' = false → ∃ l, d = .tup l ∧ decide ((l.length : Int) = 2) = true)) ?_ ?_
  · refine dt_w ?_
    refine dw_or ?_
    refine dt_not ?_
    refine dt_val (h := ?_)
    refine de_B call_isi_D n_isinstance bt_isinstance ?_
    refine da_cons ?_
    refine de_name 0 ?_
    refine da_cons ?_
    refine de_ty n_tuple bt_tuple ?_
    refine da_nil ?_
    refine drc_isiD hty htu ?_
    refine ⟨_, rfl, ?_⟩
    refine ⟨fun hb => ?_, fun hb => ?_⟩
    · exact ⟨rfl, (fun _ => by cases d <;> first | rfl | cases hb), fun z => nomatch z⟩
    obtain ⟨l9, rfl⟩ : ∃ l, d = .tup l := by cases d <;> first | exact ⟨_, rfl⟩ | cases hb
    refine dw_or1 ?_
    refine dt_ne (hr.units) ?_
    refine de_B call_len_seq n_len bt_len ?_
    refine da_cons ?_
    refine de_name 0 ?_
    refine da_nil ?_
    refine drc_len ?_
    walk_at "lenP"
    refine de_int ?_
    refine eq_int ?_
    exact ⟨rfl, fun z => by rw [pixB, wtB, show decide ((l9.length : Int) = 2) = false by simpa using z]; rfl, fun z => ⟨l9, rfl, by simpa using z⟩⟩
  rintro b' _ ⟨rfl, hbt, hbf⟩
  refine ⟨fun ht => ?_, fun ht => ?_⟩
  · rw [hbt ht] at q
    refine ds_cons ?_
    refine ds_ret ?_
    refine de_bl ?_
    exact q
  obtain ⟨l9, rfl, hl9⟩ := hbf ht
  have hlen := hE.ln l9 rfl
  refine ds_nil ?_
  refine ds_cons ?_
  refine ds_ret ?_
  refine de_eq (hr.units) ?_
  refine de_lcIf 1 rfl sc__law_is_dot.nd (blkOk_by (N := ["_law_thing", "_law_one"]) (sc := defScope s__law_is_dot) (by decide +kernel)) ?_ (fun _ _ _ _ _ => pg_name sc__law_is_dot.nd rfl (Or.inl rfl))
  refine di_tup ?_
  refine de_name 0 ?_
  refine ⟨_, rfl, ?_⟩
  refine ⟨fun k acc S' => S0 = S' ∧ acc = (l9.take k).filter fun d => !wholeD d, ⟨rfl, rfl⟩, fun k9 d9 acc S' p9 hk hP hp hl s5 H5 C5 cl5 fp5 => ?_, by omega, fun acc S' hl hP => ?_⟩
  · obtain ⟨rfl, rfl⟩ := hP
    obtain ⟨u9, gty, gi9, gb9, gtu, gls, gst⟩ := (hE.any (K := K)).t.p l9 rfl d9 (List.mem_of_getElem? hk)
    refine DT.mono (Q := fun b' S' => (p9, (l9.take k9).filter fun d => !wholeD d) :: S0 = S' ∧ b' = !wholeD d9) ?_ ?_
    · refine dt_w ?_
      refine dw_or ?_
      refine dt_not ?_
      refine dt_val (h := ?_)
      refine de_B call_isi_D n_isinstance bt_isinstance ?_
      refine da_cons ?_
      refine de_name 1 ?_
      refine da_cons ?_
      refine de_ty n_int bt_int ?_
      refine da_nil ?_
      refine drc_isiD gty gi9 ?_
      refine ⟨_, rfl, ?_⟩
      refine ⟨fun hb => ?_, fun hb => ?_⟩
      · exact ⟨rfl, by cases d9 <;> first | rfl | cases hb⟩
      refine dw_or1 ?_
      refine dt_val (h := ?_)
      refine de_B call_isi_D n_isinstance bt_isinstance ?_
      refine da_cons ?_
      refine de_name 1 ?_
      refine da_cons ?_
      refine de_ty n_bool bt_bool ?_
      refine da_nil ?_
      refine drc_isiD gty gb9 ?_
      refine ⟨_, rfl, ?_⟩
      exact ⟨rfl, by cases d9 <;> first | rfl | cases hb⟩
    rintro b' _ ⟨rfl, rfl⟩
    refine ⟨_, rfl, fun ht s6 H6 C6 cl6 fp6 => ?_, fun ht => ⟨rfl, by rw [flt_step2 _ hk, if_neg (by rw [ht]; decide), List.append_nil]⟩⟩
    refine de_name 1 ?_
    exact ⟨_, rfl, rfl, by rw [flt_step2 _ hk, if_pos ht]⟩
  obtain ⟨rfl, rfl⟩ := hP
  rw [List.take_of_length_le (Nat.le_refl _)]
  refine de_lst ?_
  refine da_nil ?_
  refine ⟨by walk_at "len", ?_⟩
  refine eq_nil (flatL_filter _ _ hE.fb) ?_
  rw [whole_eq]
  rw [pixB, wtB, hl9, Bool.true_and] at q
  exact q
abbrev s__law_judged : Stmt := top 47
theorem sc__law_judged : FnScope ["_law_spin_here", "_law_thing", "_law_one"] ["_law_spin_here", "_law_thing"] (defScope s__law_judged) := ⟨rfl, rfl, rfl, by decide +kernel, rfl, by decide +kernel, by decide +kernel⟩
set_option maxHeartbeats 40000000 in
theorem ok__law_judged {f : Addr} {fd : FuncData} (F : Fun K "_law_judged" "_law_judged" s__law_judged f fd) (c__law_is_dot : Cal P w K mg base 1 "_law_is_dot" ["_law_thing"] [] (con_isdotA K)) (c__law_seen : Cal P w K mg base 2 "_law_seen" ["_law_spin_here", "_law_dot_here"] [] con_seen) (c__law_tried : Cal P w K mg base 3 "_law_tried" ["_law_spin_here", "_law_dot_here"] [] con_tried) (n_isinstance : mg "isinstance" = none) (n_len : mg "len" = none) (n_str : mg "str" = none) (n_tuple : mg "tuple" = none) : GOk P w K mg base 4 f fd ["_law_spin_here", "_law_thing"] (spD K (con_judged P w K)) := by
  refine gok_ds F sc__law_judged (m := 1) rfl (fun ds S0 Q h => ?_) fun cdv A fr s0 H0 E0' gd hr ds S0 Q h => ?_
  · obtain ⟨_, _, _, _, rfl, _⟩ := h
    rfl
  obtain ⟨p, q, k, d, rfl, hT, hL, qq⟩ := h
  obtain ⟨t9, hty, hi9, hb9, htu, hls, hst⟩ := hL.v
  have b1 := hT.bp
  have b2 := hT.bq
  have hc := cc_pos hT
  refine ds_nrm ?_ (by set_option simprocs false in dsimp only [List.map, List.replicate, List.cons_append, List.nil_append])
  refine ds_cons ?_
  refine ds_if ?_
  refine DT.mono (Q := fun b' S' => S0 = S' ∧ (b' = true → lossD p q k d = false) ∧ (b' = false → ∃ s r, d = .tup (.str s :: r) ∧ (r.length = 1 ∨ r.length = 2))) ?_ ?_
  · refine dt_w ?_
    refine dw_or ?_
    refine dt_not ?_
    refine dt_val (h := ?_)
    refine de_B call_isi_D n_isinstance bt_isinstance ?_
    refine da_cons ?_
    refine de_name 1 ?_
    refine da_cons ?_
    refine de_ty n_tuple bt_tuple ?_
    refine da_nil ?_
    refine drc_isiD hty htu ?_
    refine ⟨_, rfl, ?_⟩
    refine ⟨fun hb => ?_, fun hb => ?_⟩
    · exact ⟨rfl, (fun _ => lossD_no (by simpa using hb)), fun z => nomatch z⟩
    obtain ⟨l9, rfl⟩ : ∃ l, d = .tup l := by cases d <;> first | exact ⟨_, rfl⟩ | cases hb
    have hE := hL.p l9 rfl
    refine dw_or ?_
    refine dt_notin (hu65 hr) ?_
    refine de_B call_len_seq n_len bt_len ?_
    refine da_cons ?_
    refine de_name 1 ?_
    refine da_nil ?_
    refine drc_len ?_
    walk_at "lenP"
    refine de_tup ?_
    refine da_cons ?_
    refine de_int ?_
    refine da_cons ?_
    refine de_int ?_
    refine da_nil ?_
    refine ⟨by walk_at "len", ?_⟩
    refine ⟨⟨rfl, rfl⟩, ?_⟩
    rw [in_23]
    refine ⟨fun hb => ?_, fun hb => ?_⟩
    · exact ⟨rfl, (fun _ => by simp only [Bool.not_eq_true', Bool.or_eq_false_iff, decide_eq_false_iff_not] at hb; exact loss_len hb.1 hb.2), fun z => nomatch z⟩
    obtain ⟨v0, r9, rfl, hr9⟩ := len_23 (l := l9) (by simp only [Bool.not_eq_false', Bool.or_eq_true, decide_eq_true_eq] at hb; exact hb)
    obtain ⟨u9, gty, gi9, gb9, gtu, gls, gst⟩ := ((hE v0 List.mem_cons_self).any (K := K)).t.v
    refine dw_or1 ?_
    refine dt_not ?_
    refine dt_val (h := ?_)
    refine de_B call_isi_D n_isinstance bt_isinstance ?_
    refine da_cons ?_
    refine de_ix (h := ?_)
    refine de_name 1 ?_
    refine de_int ?_
    refine ix_t ?_ (atI_0 _ _)
    refine da_cons ?_
    refine de_ty n_str bt_str ?_
    refine da_nil ?_
    refine drc_isiD gty gst ?_
    refine ⟨_, rfl, ?_⟩
    refine ⟨rfl, fun z => loss_str (by simpa using z), fun z => ?_⟩
    cases v0 <;> first | exact ⟨_, r9, rfl, hr9⟩ | cases z
  rintro b' _ ⟨rfl, hbt, hbf⟩
  refine ⟨fun ht => ?_, fun ht => ?_⟩
  · have e9 := hbt ht
    refine ds_cons ?_
    refine ds_ret ?_
    refine de_bl ?_
    exact (congrArg (fun b => Q (.bl b) S0) (e9)).mp qq
  obtain ⟨s9, r9, rfl, hr9⟩ := hbf ht
  have hE := hL.p _ rfl
  have hr3 : r9.length ≤ 2 := by omega
  refine ds_nil ?_
  refine ds_cons ?_
  refine ds_if ?_
  refine dt_ne (hr.units) ?_
  refine de_lcIf 2 rfl sc__law_judged.nd (blkOk_by (N := ["_law_spin_here", "_law_thing", "_law_one"]) (sc := defScope s__law_judged) (by decide +kernel)) ?_ (fun _ _ _ _ _ => pg_name sc__law_judged.nd rfl (Or.inl rfl))
  refine di_tup ?_
  refine de_slice ?_
  refine de_name 1 ?_
  refine do_some ?_
  refine de_int ?_
  refine ⟨rfl, _, rfl, ?_⟩
  refine do_none ?_
  walk_at "slice"
  refine ⟨_, rfl, ?_⟩
  refine ⟨fun k acc S' => S0 = S' ∧ acc = (r9.take k).filter fun d => !pixB d, ⟨rfl, rfl⟩, fun k9 d9 acc S' p9 hk hP hp hl s5 H5 C5 cl5 fp5 => ?_, by omega, fun acc S' hl hP => ?_⟩
  · obtain ⟨rfl, rfl⟩ := hP
    have hEd := hE d9 (List.mem_cons_of_mem _ (List.mem_of_getElem? hk))
    refine dt_not ?_
    refine dt_val (h := ?_)
    refine de_call c__law_is_dot gd (hr.mono (by decide)) ?_
    refine da_cons ?_
    refine de_name 2 ?_
    refine da_nil ?_
    refine ⟨_, rfl, hEd, ?_⟩
    refine ⟨_, rfl, ?_⟩
    refine ⟨_, rfl, fun ht s6 H6 C6 cl6 fp6 => ?_, fun ht => ⟨rfl, by rw [flt_step2 _ hk, if_neg (by rw [ht]; decide), List.append_nil]⟩⟩
    refine de_name 2 ?_
    exact ⟨_, rfl, rfl, by rw [flt_step2 _ hk, if_pos ht]⟩
  obtain ⟨rfl, rfl⟩ := hP
  rw [List.take_of_length_le (Nat.le_refl _)]
  refine de_lst ?_
  refine da_nil ?_
  refine ⟨by walk_at "len", ?_⟩
  refine eq_nil (flatL_filter _ _ (flat_all fun x hx => (hE x (List.mem_cons_of_mem _ hx)).fl)) ?_
  refine ⟨fun ht => ?_, fun ht => ?_⟩
  · have e9 : lossD p q k (.tup (.str s9 :: r9)) = false := lossD_t.trans (loss_pix (all_flt_f _ (by simpa using ht)))
    refine ds_cons ?_
    refine ds_ret ?_
    refine de_bl ?_
    exact (congrArg (fun b => Q (.bl b) S0) (e9)).mp qq
  have hall := all_flt r9 (by simpa using ht)
  refine ds_nil ?_
  refine ds_cons ?_
  refine ds_if ?_
  refine dt_eq (hr.units) ?_
  refine de_B call_len_seq n_len bt_len ?_
  refine da_cons ?_
  refine de_name 1 ?_
  refine da_nil ?_
  refine drc_len ?_
  walk_at "lenP"
  refine de_int ?_
  refine eq_int ?_
  refine ⟨fun ht => ?_, fun ht => ?_⟩
  · obtain ⟨e1, rfl⟩ : ∃ e, r9 = [e] := by match r9, of_decide_eq_true ht with | [e], _ => exact ⟨e, rfl⟩
    obtain ⟨x, y, rfl, bx, by'⟩ := pixB_bd (hE e1 (by simp)) (by simpa using hall)
    refine ds_cons ?_
    refine ds_ret ?_
    refine de_and ?_
    refine de_eq (hr.units) ?_
    refine de_ix (h := ?_)
    refine de_name 1 ?_
    refine de_int ?_
    walk_at "ix"
    refine de_str ?_
    refine eq_str ?_
    refine ⟨_, rfl, fun hb => ?_, fun hb => ?_⟩
    · exact (congrArg (fun b => Q (.bl b) S0) (show lossD p q k (.tup [.str s9, .tup [.int x, .int y]]) = false by rw [lossD_t, lost_2, hb]; rfl)).mp qq
    refine de_one ?_
    refine de_eq (hr.units) ?_
    refine de_call c__law_tried gd (hr.mono (by decide)) ?_
    refine da_cons ?_
    refine de_name 0 ?_
    refine da_cons ?_
    refine de_ix (h := ?_)
    refine de_name 1 ?_
    refine de_int ?_
    walk_at "ix"
    refine da_nil ?_
    refine ⟨_, _, _, _, _, rfl, by walk_at "tn", ⟨by walk_at "bdu", by walk_at "bdu"⟩, ?_⟩
    refine de_lst ?_
    refine da_nil ?_
    refine ⟨by walk_at "len", ?_⟩
    refine eq_nil (flat_pr2 _) ?_
    rw [isE_map]
    exact (congrArg (fun b => Q (.bl b) S0) (show lossD p q k (.tup [.str s9, .tup [.int x, .int y]]) = bareB p q k x y by rw [lossD_t, lost_2, hb]; rfl)).mp qq
  obtain ⟨e1, e2, rfl⟩ : ∃ e f, r9 = [e, f] := by match r9, hr9, of_decide_eq_false ht with | [e, f], _, _ => exact ⟨e, f, rfl⟩ | [e], _, z => exact absurd rfl z
  obtain ⟨x, y, rfl, bx, by'⟩ := pixB_bd (hE e1 (by simp)) (by simp at hall; exact hall.1)
  obtain ⟨z, w9, rfl, bz, bw⟩ := pixB_bd (hE e2 (by simp)) (by simp at hall; exact hall.2)
  refine ds_nil ?_
  refine ds_cons ?_
  refine ds_ret ?_
  refine de_and ?_
  refine de_eq (hr.units) ?_
  refine de_ix (h := ?_)
  refine de_name 1 ?_
  refine de_int ?_
  walk_at "ix"
  refine de_str ?_
  refine eq_str ?_
  refine ⟨_, rfl, fun hb => ?_, fun hb => ?_⟩
  · exact (congrArg (fun b => Q (.bl b) S0) (show lossD p q k (.tup [.str s9, .tup [.int x, .int y], .tup [.int z, .int w9]]) = false by rw [lossD_t, lost_3, hb]; rfl)).mp qq
  have hb1 := hb
  refine de_and ?_
  refine de_lt2 (hu65 hr) ?_
  refine de_ix (h := ?_)
  refine de_name 1 ?_
  refine de_int ?_
  walk_at "ix"
  refine de_ix (h := ?_)
  refine de_name 1 ?_
  refine de_int ?_
  walk_at "ix"
  refine ⟨_, _, _, _, rfl, rfl, ?_⟩
  refine ⟨_, rfl, fun hb => ?_, fun hb => ?_⟩
  · exact (congrArg (fun b => Q (.bl b) S0) (show lossD p q k (.tup [.str s9, .tup [.int x, .int y], .tup [.int z, .int w9]]) = false by rw [lossD_t, lost_3, hb1]; show (lt2 (x, y) (z, w9) && _) = false; rw [show lt2 (x, y) (z, w9) = false from hb]; rfl)).mp qq
  refine de_one ?_
  refine de_eq (hr.units) ?_
  refine de_call c__law_seen gd (hr.mono (by decide)) ?_
  refine da_cons ?_
  refine de_name 0 ?_
  refine da_cons ?_
  refine de_ix (h := ?_)
  refine de_name 1 ?_
  refine de_int ?_
  walk_at "ix"
  refine da_nil ?_
  refine ⟨_, _, _, _, _, rfl, by walk_at "tn", ⟨by walk_at "bdu", by walk_at "bdu"⟩, ?_⟩
  refine de_call c__law_seen gd (hr.mono (by decide)) ?_
  refine da_cons ?_
  refine de_name 0 ?_
  refine da_cons ?_
  refine de_ix (h := ?_)
  refine de_name 1 ?_
  refine de_int ?_
  walk_at "ix"
  refine da_nil ?_
  refine ⟨_, _, _, _, _, rfl, by walk_at "tn", ⟨by walk_at "bdu", by walk_at "bdu"⟩, ?_⟩
  refine eq_t2 fun v9 hv9 => ?_
  have e9 := same_v (v := (x, y)) (w := (z, w9)) hv9
  subst e9
  exact (congrArg (fun b => Q (.bl b) S0) (show lossD p q k (.tup [.str s9, .tup [.int x, .int y], .tup [.int z, .int w9]]) = sameB p q k (x, y) (z, w9) by rw [lossD_t, lost_3, hb1]; show (lt2 (x, y) (z, w9) && _) = _; rw [show lt2 (x, y) (z, w9) = true from hb]; rfl)).mp qq
abbrev s__law_things : Stmt := top 48
theorem sc__law_things : FnScope ["_law_source_here", "_law_spin_here", "_law_loss_here", "_law_one", "_law_two", "_law_dot_here", "_law_p", "_law_q", "_law_x", "_law_y", "_law_away", "_law_moved", "_law_hit", "_law_things_here", "_law_sides", "_law_k", "_law_j"] ["_law_source_here", "_law_spin_here", "_law_loss_here"] (defScope s__law_things) := ⟨rfl, rfl, rfl, by decide +kernel, rfl, by decide +kernel, by decide +kernel⟩
set_option maxHeartbeats 40000000 in
theorem ok__law_things_w0 {f : Addr} {fd : FuncData} (F : Fun K "_law_things" "_law_things" s__law_things f fd) (c__law_dot : Cal P w K mg base 2 "_law_dot" ["_law_source_here", "_law_wide"] [] con_dot) (c__law_seen : Cal P w K mg base 2 "_law_seen" ["_law_spin_here", "_law_dot_here"] [] con_seen) (c__law_times : Cal P w K mg base 1 "_law_times" ["_law_one", "_law_two"] [] con_ltimes) (n_list : mg "list" = none) : GOk P w K mg base 3 f fd ["_law_source_here", "_law_spin_here", "_law_loss_here"] (spD K (conTh P w K (fun _ _ _ d => ∃ x y : Int, d = .tup [.str "bare", .tup [.int x, .int y]] ∧ Bd 120 x ∧ Bd 120 y))) := by
  refine gok_ds F sc__law_things (m := 14) rfl (fun ds S0 Q h => ?_) fun cdv A fr s0 H0 E0' gd hr ds S0 Q h => ?_
  · obtain ⟨_, _, _, _, _, _, _, rfl, _⟩ := h
    rfl
  obtain ⟨pp, p, q, k, d, l, m, rfl, hg, hS, hm, hT, hLo, qq⟩ := h
  have b1 := hT.bp
  have b2 := hT.bq
  have hc := cc_pos hT
  obtain ⟨x0, y0, rfl, bx0, by0⟩ := hLo
  have z1 : Bd 120 (0 : Int) := by unfold Bd; decide
  have z2 : Bd 120 (1 : Int) := by unfold Bd; decide
  refine ds_nrm ?_ (by set_option simprocs false in dsimp only [List.map, List.replicate, List.cons_append, List.nil_append])
  refine ds_cons ?_
  refine ds_par3 (i := 3) (j := 4) (k := 5) rfl sc__law_things.nd rfl rfl rfl ?_
  refine da_cons ?_
  refine de_ix (h := ?_)
  refine de_name 2 ?_
  refine de_int ?_
  walk_at "ix"
  refine da_cons ?_
  refine de_ix (h := ?_)
  refine de_name 2 ?_
  refine de_neg ?_
  refine de_int ?_
  refine ⟨_, rfl, ?_⟩
  walk_at "ix"
  refine da_cons ?_
  refine de_call c__law_dot gd (hr.mono (by decide)) ?_
  refine da_cons ?_
  refine de_name 0 ?_
  refine da_cons ?_
  refine de_int ?_
  refine da_nil ?_
  refine ⟨_, _, _, _, rfl, (by walk_at "gets"), (by assumption), (by walk_at "m"), (by walk_at "pos"), (by walk_at "bdu"), fun x1 y1 l1 hx1 hy1 hs1 => ?_⟩
  have bx1 := Bd.of_abs hx1.1 hx1.2 (by walk_at "bd")
  have by1 := Bd.of_abs hy1.1 hy1.2 (by walk_at "bd")
  walk_at "sets"
  refine da_nil ?_
  refine ⟨_, _, _, rfl, ?_⟩
  refine ds_nrm ?_
  have bX : Bd 60 x1 := bx1.up (by decide +kernel)
  have bY : Bd 60 y1 := by1.up (by decide +kernel)
  refine ds_cons ?_
  refine ds_asg (h := ?_)
  refine de_tup ?_
  refine da_cons ?_
  refine de_ix (h := ?_)
  refine de_name 1 ?_
  refine de_int ?_
  walk_at "ix"
  refine da_cons ?_
  refine de_ix (h := ?_)
  refine de_name 1 ?_
  refine de_int ?_
  walk_at "ix"
  refine da_cons ?_
  refine de_name 3 ?_
  refine da_nil ?_
  refine ⟨by walk_at "len", ?_⟩
  first | refine dg_tup rfl rfl ?_ | refine dg_tupL rfl rfl ?_ (fun h => pg_lst rfl h)
  refine dgs_cons (h := ?_)
  refine dg_name 6 ?_ sc__law_things.nd
  refine dgs_cons (h := ?_)
  refine dg_name 7 ?_ sc__law_things.nd
  refine dgs_cons (h := ?_)
  first | refine dg_tup rfl rfl ?_ | refine dg_tupL rfl rfl ?_ (fun h => pg_lst rfl h)
  refine dgs_cons (h := ?_)
  refine dg_name 8 ?_ sc__law_things.nd
  refine dgs_cons (h := ?_)
  refine dg_name 9 ?_ sc__law_things.nd
  refine dgs_nil ?_
  refine dgs_nil ?_
  refine ds_cons ?_
  refine ds_asg (h := ?_)
  refine de_call c__law_times gd (hr.mono (by decide)) ?_
  refine da_cons ?_
  refine de_tup ?_
  refine da_cons ?_
  refine de_name 6 ?_
  refine da_cons ?_
  refine de_neg ?_
  refine de_name 7 ?_
  refine ⟨_, rfl, ?_⟩
  refine da_nil ?_
  refine ⟨by walk_at "len", ?_⟩
  refine da_cons ?_
  refine de_name 5 ?_
  refine da_nil ?_
  refine ⟨_, _, _, _, rfl, ⟨by walk_at "bdu", by walk_at "bdu", by walk_at "bdu", by walk_at "bdu"⟩, ?_⟩
  refine dg_name 10 ?_ sc__law_things.nd
  refine ds_cons ?_
  refine ds_asg (h := ?_)
  refine de_lst ?_
  refine da_cons ?_
  refine de_tup ?_
  refine da_cons ?_
  refine de_add ?_
  refine de_name 8 ?_
  refine de_ix (h := ?_)
  refine de_name 10 ?_
  refine de_int ?_
  walk_at "ix"
  first | refine add_int ?_ | refine add_lst ?_ (by walk_at "len") | refine add_tup ?_ (by walk_at "len3") | refine add_scr ?_ (by walk_at "len") | refine (show addP (.str _) (.str _) _ _ from ⟨by decide +kernel, ?_⟩)
  refine da_cons ?_
  refine de_add ?_
  refine de_name 9 ?_
  refine de_ix (h := ?_)
  refine de_name 10 ?_
  refine de_int ?_
  walk_at "ix"
  first | refine add_int ?_ | refine add_lst ?_ (by walk_at "len") | refine add_tup ?_ (by walk_at "len3") | refine add_scr ?_ (by walk_at "len") | refine (show addP (.str _) (.str _) _ _ from ⟨by decide +kernel, ?_⟩)
  refine da_nil ?_
  refine ⟨by walk_at "len", ?_⟩
  refine da_cons ?_
  refine de_tup ?_
  refine da_cons ?_
  refine de_add ?_
  refine de_ix (h := ?_)
  refine de_name 4 ?_
  refine de_int ?_
  walk_at "ix"
  refine de_ix (h := ?_)
  refine de_name 10 ?_
  refine de_int ?_
  walk_at "ix"
  first | refine add_int ?_ | refine add_lst ?_ (by walk_at "len") | refine add_tup ?_ (by walk_at "len3") | refine add_scr ?_ (by walk_at "len") | refine (show addP (.str _) (.str _) _ _ from ⟨by decide +kernel, ?_⟩)
  refine da_cons ?_
  refine de_add ?_
  refine de_ix (h := ?_)
  refine de_name 4 ?_
  refine de_int ?_
  walk_at "ix"
  refine de_ix (h := ?_)
  refine de_name 10 ?_
  refine de_int ?_
  walk_at "ix"
  first | refine add_int ?_ | refine add_lst ?_ (by walk_at "len") | refine add_tup ?_ (by walk_at "len3") | refine add_scr ?_ (by walk_at "len") | refine (show addP (.str _) (.str _) _ _ from ⟨by decide +kernel, ?_⟩)
  refine da_nil ?_
  refine ⟨by walk_at "len", ?_⟩
  refine da_nil ?_
  refine ⟨by walk_at "len", ?_⟩
  refine dg_name 11 ?_ sc__law_things.nd
  refine ds_cons ?_
  refine ds_asg (h := ?_)
  refine de_call c__law_seen gd (hr.mono (by decide)) ?_
  refine da_cons ?_
  refine de_name 1 ?_
  refine da_cons ?_
  refine de_name 3 ?_
  refine da_nil ?_
  refine ⟨_, _, _, _, _, rfl, by walk_at "tn", ⟨by walk_at "bdu", by walk_at "bdu"⟩, ?_⟩
  refine dg_name 12 ?_ sc__law_things.nd
  refine ds_cons ?_
  refine ds_asg (h := ?_)
  refine de_lstO ?_
  refine da_cons ?_
  refine de_name 2 ?_
  refine da_cons ?_
  refine de_tup ?_
  refine da_cons ?_
  refine de_str ?_
  refine da_cons ?_
  refine de_ix (h := ?_)
  refine de_name 11 ?_
  refine de_int ?_
  walk_at "ix"
  refine da_cons ?_
  refine de_ix (h := ?_)
  refine de_name 11 ?_
  refine de_int ?_
  walk_at "ix"
  refine da_nil ?_
  refine ⟨by walk_at "len", ?_⟩
  refine da_cons ?_
  refine de_tup ?_
  refine da_cons ?_
  refine de_str ?_
  refine da_cons ?_
  refine de_name 4 ?_
  refine da_cons ?_
  refine de_name 3 ?_
  refine da_nil ?_
  refine ⟨by walk_at "len", ?_⟩
  refine da_cons ?_
  refine de_tup ?_
  refine da_cons ?_
  refine de_str ?_
  refine da_cons ?_
  refine de_name 3 ?_
  refine da_cons ?_
  refine de_name 3 ?_
  refine da_nil ?_
  refine ⟨by walk_at "len", ?_⟩
  refine da_nil ?_
  refine ⟨by walk_at "len", fun p4 hp4 => ?_⟩
  refine dg_name 13 ?_ sc__law_things.nd
  refine ds_cons ?_
  refine ds_expr (h := ?_)
  refine de_append ?_
  refine de_name 13 ?_
  refine ⟨_, _, rfl, (by walk_at "gets"), ?_⟩
  refine da_cons ?_
  refine de_tup ?_
  refine da_cons ?_
  refine de_str ?_
  refine da_cons ?_
  refine de_name 3 ?_
  refine da_cons ?_
  refine de_tup ?_
  refine da_cons ?_
  refine de_name 8 ?_
  refine da_cons ?_
  refine de_add ?_
  refine de_name 9 ?_
  refine de_int ?_
  first | refine add_int ?_ | refine add_lst ?_ (by walk_at "len") | refine add_tup ?_ (by walk_at "len3") | refine add_scr ?_ (by walk_at "len") | refine (show addP (.str _) (.str _) _ _ from ⟨by decide +kernel, ?_⟩)
  refine da_nil ?_
  refine ⟨by walk_at "len", ?_⟩
  refine da_nil ?_
  refine ⟨by walk_at "len", ?_⟩
  refine da_nil ?_
  refine ⟨_, _, rfl, (by walk_at "gets"), (by walk_at "len"), ?_⟩
  walk_at "sets"
  refine ds_freeze 13 rfl (ds_nrm ?_) rfl
  skip
  generalize hT0 : (_ ++ _ : List D) = t0
  have hall0 : ∀ d ∈ t0, LsT P w K d := by rw [← hT0]; exact ((fa_cons (lsT_t (fa_cons (lsE_pl (by decide +kernel)) (fa_cons (lsE_p (by walk_at "bdu") (by walk_at "bdu")) fa_nil)) (by show 2 ≤ 4; decide)) (fa_cons (lsT_t (fa_cons (lsE_pl (by decide +kernel)) (fa_cons (lsE_p (by walk_at "bdu") (by walk_at "bdu")) (fa_cons (lsE_p (by walk_at "bdu") (by walk_at "bdu")) fa_nil))) (by show 3 ≤ 4; decide)) (fa_cons (lsT_t (fa_cons (lsE_pl (by decide +kernel)) (fa_cons (lsE_p (by walk_at "bdu") (by walk_at "bdu")) (fa_cons (lsE_p (by walk_at "bdu") (by walk_at "bdu")) fa_nil))) (by show 3 ≤ 4; decide)) (fa_cons (lsT_t (fa_cons (lsE_pl (by decide +kernel)) (fa_cons (lsE_p (by walk_at "bdu") (by walk_at "bdu")) (fa_cons (lsE_p (by walk_at "bdu") (by walk_at "bdu")) fa_nil))) (by show 3 ≤ 4; decide)) (fa_cons (lsT_t (fa_cons (lsE_pl (by decide +kernel)) (fa_cons (lsE_p (by walk_at "bdu") (by walk_at "bdu")) (fa_cons (lsE_p (by walk_at "bdu") (by walk_at "bdu")) fa_nil))) (by show 3 ≤ 4; decide)) fa_nil))))))
  have hn0 : t0.length ≤ 5 := by rw [← hT0]; exact Nat.le_refl 5
  refine ds_cons ?_
  refine ds_asg (h := ?_)
  refine de_lst ?_
  refine da_cons ?_
  refine de_tup ?_
  refine da_cons ?_
  refine de_int ?_
  refine da_cons ?_
  refine de_int ?_
  refine da_nil ?_
  refine ⟨by walk_at "len", ?_⟩
  refine da_cons ?_
  refine de_tup ?_
  refine da_cons ?_
  refine de_int ?_
  refine da_cons ?_
  refine de_int ?_
  refine da_nil ?_
  refine ⟨by walk_at "len", ?_⟩
  refine da_cons ?_
  refine de_tup ?_
  refine da_cons ?_
  refine de_int ?_
  refine da_cons ?_
  refine de_int ?_
  refine da_nil ?_
  refine ⟨by walk_at "len", ?_⟩
  refine da_cons ?_
  refine de_tup ?_
  refine da_cons ?_
  refine de_neg ?_
  refine de_int ?_
  refine ⟨_, rfl, ?_⟩
  refine da_cons ?_
  refine de_int ?_
  refine da_nil ?_
  refine ⟨by walk_at "len", ?_⟩
  refine da_cons ?_
  refine de_tup ?_
  refine da_cons ?_
  refine de_int ?_
  refine da_cons ?_
  refine de_neg ?_
  refine de_int ?_
  refine ⟨_, rfl, ?_⟩
  refine da_nil ?_
  refine ⟨by walk_at "len", ?_⟩
  refine da_nil ?_
  refine ⟨by walk_at "len", ?_⟩
  refine dg_name 14 ?_ sc__law_things.nd
  refine ds_cons ?_
  refine ds_asg (h := ?_)
  refine de_add ?_
  refine de_name 13 ?_
  refine de_lcT (own := [("_law_k", 15), ("_law_j", 16)]) [15, 16] rfl sc__law_things.nd (blkOk_by (N := ["_law_source_here", "_law_spin_here", "_law_loss_here", "_law_one", "_law_two", "_law_dot_here", "_law_p", "_law_q", "_law_x", "_law_y", "_law_away", "_law_moved", "_law_hit", "_law_things_here", "_law_sides", "_law_k", "_law_j"]) (sc := defScope s__law_things) (by decide +kernel)) rfl rfl ?_ (fun _ _ _ _ _ => pg_tup rfl (pgs_cons (pg_name sc__law_things.nd rfl (Or.inl rfl)) (pgs_cons (pg_name sc__law_things.nd rfl (Or.inl rfl)) pgs_nil)))
  refine di_lst ?_
  refine de_name 14 ?_
  refine ⟨_, rfl, ?_⟩
  refine ⟨fun k9 acc S' => setS pp l1 S0 = S' ∧ acc.length = k9 ∧ ∀ d ∈ acc, LsT P w K d, ⟨rfl, rfl, fun _ z => nomatch z⟩, fun k9 d9 acc S' p9 hk hP hp hl => ?_, by show 5 ≤ 100000; decide, fun accC S' hl hP => ?_⟩
  · obtain ⟨rfl, hn9, hall9⟩ := hP
    obtain ⟨i9, j9, rfl, bi9, bj9⟩ := ((fa_cons ⟨_, _, rfl, by unfold Bd; decide, by unfold Bd; decide⟩ (fa_cons ⟨_, _, rfl, by unfold Bd; decide, by unfold Bd; decide⟩ (fa_cons ⟨_, _, rfl, by unfold Bd; decide, by unfold Bd; decide⟩ (fa_cons ⟨_, _, rfl, by unfold Bd; decide, by unfold Bd; decide⟩ (fa_cons ⟨_, _, rfl, by unfold Bd; decide, by unfold Bd; decide⟩ fa_nil))))) : ∀ x ∈ _, ∃ i j : Int, x = .tup [.int i, .int j] ∧ Bd 1 i ∧ Bd 1 j) _ (List.mem_of_getElem? hk)
    refine ⟨_, rfl, rfl, _, by set_option simprocs false in dsimp only [setV, wipeE, List.set], ?_⟩
    intro s H C cl fp
    refine de_tup ?_
    refine da_cons ?_
    refine de_str ?_
    refine da_cons ?_
    refine de_tup ?_
    refine da_cons ?_
    refine de_add ?_
    refine de_ix (h := ?_)
    refine de_name 12 ?_
    refine de_int ?_
    walk_at "ix"
    refine de_name 15 ?_
    first | refine add_int ?_ | refine add_lst ?_ (by walk_at "len") | refine add_tup ?_ (by walk_at "len3") | refine add_scr ?_ (by walk_at "len") | refine (show addP (.str _) (.str _) _ _ from ⟨by decide +kernel, ?_⟩)
    refine da_cons ?_
    refine de_add ?_
    refine de_ix (h := ?_)
    refine de_name 12 ?_
    refine de_int ?_
    walk_at "ix"
    refine de_name 16 ?_
    first | refine add_int ?_ | refine add_lst ?_ (by walk_at "len") | refine add_tup ?_ (by walk_at "len3") | refine add_scr ?_ (by walk_at "len") | refine (show addP (.str _) (.str _) _ _ from ⟨by decide +kernel, ?_⟩)
    refine da_nil ?_
    refine ⟨by walk_at "len", ?_⟩
    refine da_nil ?_
    refine ⟨by walk_at "len", ?_⟩
    exact ⟨_, rfl, rfl, by rw [List.length_append, hn9] <;> rfl, fa_app hall9 (fa_cons (lsT_t (fa_cons (lsE_pl (by decide +kernel)) (fa_cons (lsE_p (by walk_at "bdu") (by walk_at "bdu")) fa_nil)) (by show 2 ≤ 4; decide)) fa_nil)⟩
  obtain ⟨rfl, hnc, hallc⟩ := hP
  have hnc : accC.length = 5 := hnc
  first | refine add_int ?_ | refine add_lst ?_ (by walk_at "len") | refine add_tup ?_ (by walk_at "len3") | refine add_scr ?_ (by walk_at "len") | refine (show addP (.str _) (.str _) _ _ from ⟨by decide +kernel, ?_⟩)
  refine dg_name 13 ?_ sc__law_things.nd
  generalize hT1 : (_ ++ _ : List D) = t1
  have hall1 : ∀ d ∈ t1, LsT P w K d := by rw [← hT1]; exact fa_app hall0 hallc
  have hn1 : t1.length ≤ 10 := by rw [← hT1, List.length_append]; show _ + accC.length ≤ _; omega
  refine ds_cons ?_
  refine ds_asg (h := ?_)
  refine de_add ?_
  refine de_name 13 ?_
  refine de_lst ?_
  refine da_cons ?_
  refine de_T call_list_of n_list bt_list ?_
  refine da_cons ?_
  refine de_name 2 ?_
  refine da_nil ?_
  first | refine drc_list ?_ | refine drc_listT ?_
  refine da_cons ?_
  refine de_slice ?_
  refine de_name 2 ?_
  refine do_none ?_
  refine do_some ?_
  refine de_neg ?_
  refine de_int ?_
  refine ⟨_, rfl, ?_⟩
  refine ⟨rfl, _, rfl, ?_⟩
  walk_at "slice"
  refine da_cons ?_
  refine de_add ?_
  refine de_name 2 ?_
  refine de_tup ?_
  refine da_cons ?_
  refine de_name 3 ?_
  refine da_nil ?_
  refine ⟨by walk_at "len", ?_⟩
  first | refine add_int ?_ | refine add_lst ?_ (by walk_at "len") | refine add_tup ?_ (by walk_at "len3") | refine add_scr ?_ (by walk_at "len") | refine (show addP (.str _) (.str _) _ _ from ⟨by decide +kernel, ?_⟩)
  refine da_cons ?_
  refine de_add ?_
  refine de_tup ?_
  refine da_cons ?_
  refine de_str ?_
  refine da_nil ?_
  refine ⟨by walk_at "len", ?_⟩
  refine de_slice ?_
  refine de_name 2 ?_
  refine do_some ?_
  refine de_int ?_
  refine ⟨rfl, _, rfl, ?_⟩
  refine do_none ?_
  walk_at "slice"
  first | refine add_int ?_ | refine add_lst ?_ (by walk_at "len") | refine add_tup ?_ (by walk_at "len3") | refine add_scr ?_ (by walk_at "len") | refine (show addP (.str _) (.str _) _ _ from ⟨by decide +kernel, ?_⟩)
  refine da_nil ?_
  refine ⟨by walk_at "len", ?_⟩
  first | refine add_int ?_ | refine add_lst ?_ (by walk_at "len") | refine add_tup ?_ (by walk_at "len3") | refine add_scr ?_ (by walk_at "len") | refine (show addP (.str _) (.str _) _ _ from ⟨by decide +kernel, ?_⟩)
  refine dg_name 13 ?_ sc__law_things.nd
  generalize hT2 : (_ ++ _ : List D) = t2
  have hall2 : ∀ d ∈ t2, LsT P w K d := by rw [← hT2]; exact fa_app hall1 (fa_cons (lsT_l (fa_cons (lsE_pl (by decide +kernel)) (fa_cons (lsE_p (by walk_at "bdu") (by walk_at "bdu")) fa_nil)) (by show 2 ≤ 4; decide)) (fa_cons (lsT_t (fa_cons (lsE_pl (by decide +kernel)) fa_nil) (by show 1 ≤ 4; decide)) (fa_cons (lsT_t (fa_cons (lsE_pl (by decide +kernel)) (fa_cons (lsE_p (by walk_at "bdu") (by walk_at "bdu")) (fa_cons (lsE_p (by walk_at "bdu") (by walk_at "bdu")) fa_nil))) (by show 3 ≤ 4; decide)) (fa_cons (lsT_t (fa_cons (lsE_pl (by decide +kernel)) (fa_cons (lsE_p (by walk_at "bdu") (by walk_at "bdu")) fa_nil)) (by show 2 ≤ 4; decide)) fa_nil))))
  have hn2 : t2.length ≤ 14 := by rw [← hT2, List.length_append]; show _ + 4 ≤ _; omega
  refine ds_cons ?_
  refine ds_asg (h := ?_)
  refine de_add ?_
  refine de_name 13 ?_
  refine de_lst ?_
  refine da_cons ?_
  refine de_tup ?_
  refine da_cons ?_
  refine de_non ?_
  refine da_cons ?_
  refine de_name 3 ?_
  refine da_cons ?_
  refine de_name 4 ?_
  refine da_nil ?_
  refine ⟨by walk_at "len", ?_⟩
  refine da_cons ?_
  refine de_tup ?_
  refine da_cons ?_
  refine de_str ?_
  refine da_cons ?_
  refine de_name 3 ?_
  refine da_cons ?_
  refine de_T call_list_of n_list bt_list ?_
  refine da_cons ?_
  refine de_name 4 ?_
  refine da_nil ?_
  first | refine drc_list ?_ | refine drc_listT ?_
  refine da_nil ?_
  refine ⟨by walk_at "len", ?_⟩
  refine da_cons ?_
  refine de_tup ?_
  refine da_cons ?_
  refine de_str ?_
  refine da_cons ?_
  refine de_lst ?_
  refine da_cons ?_
  refine de_name 8 ?_
  refine da_cons ?_
  refine de_name 9 ?_
  refine da_nil ?_
  refine ⟨by walk_at "len", ?_⟩
  refine da_nil ?_
  refine ⟨by walk_at "len", ?_⟩
  refine da_cons ?_
  refine de_tup ?_
  refine da_cons ?_
  refine de_str ?_
  refine da_cons ?_
  refine de_tup ?_
  refine da_cons ?_
  refine de_name 8 ?_
  refine da_cons ?_
  refine de_bl ?_
  refine da_nil ?_
  refine ⟨by walk_at "len", ?_⟩
  refine da_nil ?_
  refine ⟨by walk_at "len", ?_⟩
  refine da_nil ?_
  refine ⟨by walk_at "len", ?_⟩
  first | refine add_int ?_ | refine add_lst ?_ (by walk_at "len") | refine add_tup ?_ (by walk_at "len3") | refine add_scr ?_ (by walk_at "len") | refine (show addP (.str _) (.str _) _ _ from ⟨by decide +kernel, ?_⟩)
  refine dg_name 13 ?_ sc__law_things.nd
  generalize hT3 : (_ ++ _ : List D) = t3
  have hall3 : ∀ d ∈ t3, LsT P w K d := by rw [← hT3]; exact fa_app hall2 (fa_cons (lsT_t (fa_cons (lsE_pl (by decide +kernel)) (fa_cons (lsE_p (by walk_at "bdu") (by walk_at "bdu")) (fa_cons (lsE_p (by walk_at "bdu") (by walk_at "bdu")) fa_nil))) (by show 3 ≤ 4; decide)) (fa_cons (lsT_t (fa_cons (lsE_pl (by decide +kernel)) (fa_cons (lsE_p (by walk_at "bdu") (by walk_at "bdu")) (fa_cons (lsE_lp (by walk_at "bdu") (by walk_at "bdu")) fa_nil))) (by show 3 ≤ 4; decide)) (fa_cons (lsT_t (fa_cons (lsE_pl (by decide +kernel)) (fa_cons (lsE_lp (by walk_at "bdu") (by walk_at "bdu")) fa_nil)) (by show 2 ≤ 4; decide)) (fa_cons (lsT_t (fa_cons (lsE_pl (by decide +kernel)) (fa_cons (lsE_pb (by walk_at "bdu")) fa_nil)) (by show 2 ≤ 4; decide)) fa_nil))))
  have hn3 : t3.length ≤ 18 := by rw [← hT3, List.length_append]; show _ + 4 ≤ _; omega
  refine ds_cons ?_
  refine ds_asg (h := ?_)
  refine de_add ?_
  refine de_name 13 ?_
  refine de_lst ?_
  refine da_cons ?_
  refine de_tup ?_
  refine da_cons ?_
  refine de_str ?_
  refine da_cons ?_
  refine de_tup ?_
  refine da_cons ?_
  refine de_name 8 ?_
  refine da_cons ?_
  refine de_name 9 ?_
  refine da_cons ?_
  refine de_int ?_
  refine da_nil ?_
  refine ⟨by walk_at "len", ?_⟩
  refine da_nil ?_
  refine ⟨by walk_at "len", ?_⟩
  refine da_cons ?_
  refine de_tup ?_
  refine da_cons ?_
  refine de_str ?_
  refine da_cons ?_
  refine de_name 3 ?_
  refine da_nil ?_
  refine ⟨by walk_at "len", ?_⟩
  refine da_nil ?_
  refine ⟨by walk_at "len", ?_⟩
  first | refine add_int ?_ | refine add_lst ?_ (by walk_at "len") | refine add_tup ?_ (by walk_at "len3") | refine add_scr ?_ (by walk_at "len") | refine (show addP (.str _) (.str _) _ _ from ⟨by decide +kernel, ?_⟩)
  refine dg_name 13 ?_ sc__law_things.nd
  generalize hT4 : (_ ++ _ : List D) = t4
  have hall4 : ∀ d ∈ t4, LsT P w K d := by rw [← hT4]; exact fa_app hall3 (fa_cons (lsT_t (fa_cons (lsE_pl (by decide +kernel)) (fa_cons (lsE_p3 (by walk_at "bdu") (by walk_at "bdu")) fa_nil)) (by show 2 ≤ 4; decide)) (fa_cons (lsT_t (fa_cons (lsE_pl (by decide +kernel)) (fa_cons (lsE_p (by walk_at "bdu") (by walk_at "bdu")) fa_nil)) (by show 2 ≤ 4; decide)) fa_nil))
  have hn4 : t4.length ≤ 20 := by rw [← hT4, List.length_append]; show _ + 2 ≤ _; omega
  refine ds_cons ?_
  refine ds_asg (h := ?_)
  refine de_add ?_
  refine de_name 13 ?_
  refine de_lst ?_
  refine da_cons ?_
  refine de_tup ?_
  refine da_cons ?_
  refine de_str ?_
  refine da_cons ?_
  refine de_name 3 ?_
  refine da_cons ?_
  refine de_name 4 ?_
  refine da_nil ?_
  refine ⟨by walk_at "len", ?_⟩
  refine da_cons ?_
  refine de_tup ?_
  refine da_cons ?_
  refine de_str ?_
  refine da_cons ?_
  refine de_non ?_
  refine da_nil ?_
  refine ⟨by walk_at "len", ?_⟩
  refine da_cons ?_
  refine de_non ?_
  refine da_cons ?_
  refine de_bl ?_
  refine da_cons ?_
  refine de_int ?_
  refine da_cons ?_
  refine de_str ?_
  refine da_cons ?_
  refine de_tup ?_
  refine da_nil ?_
  refine ⟨by walk_at "len", ?_⟩
  refine da_cons ?_
  refine de_lst ?_
  refine da_nil ?_
  refine ⟨by walk_at "len", ?_⟩
  refine da_cons ?_
  refine de_dic0 ?_
  refine da_nil ?_
  refine ⟨by walk_at "len", ?_⟩
  first | refine add_int ?_ | refine add_lst ?_ (by walk_at "len") | refine add_tup ?_ (by walk_at "len3") | refine add_scr ?_ (by walk_at "len") | refine (show addP (.str _) (.str _) _ _ from ⟨by decide +kernel, ?_⟩)
  refine dg_name 13 ?_ sc__law_things.nd
  generalize hT5 : (_ ++ _ : List D) = t5
  have hall5 : ∀ d ∈ t5, LsT P w K d := by rw [← hT5]; exact fa_app hall4 (fa_cons (lsT_t (fa_cons (lsE_pl (by decide +kernel)) (fa_cons (lsE_p (by walk_at "bdu") (by walk_at "bdu")) (fa_cons (lsE_p (by walk_at "bdu") (by walk_at "bdu")) fa_nil))) (by show 3 ≤ 4; decide)) (fa_cons (lsT_t (fa_cons (lsE_pl (by decide +kernel)) (fa_cons (lsE_pl (by decide +kernel)) fa_nil)) (by show 2 ≤ 4; decide)) (fa_cons (lsT_pl (by decide +kernel)) (fa_cons (lsT_pl (by decide +kernel)) (fa_cons (lsT_pl (by decide +kernel)) (fa_cons (lsT_pl (by decide +kernel)) (fa_cons (lsT_t fa_nil (by show 0 ≤ 4; decide)) (fa_cons (lsT_pl (by decide +kernel)) (fa_cons lsT_dic fa_nil)))))))))
  have hn5 : t5.length ≤ 29 := by rw [← hT5, List.length_append]; show _ + 9 ≤ _; omega
  refine ds_cons ?_
  refine ds_ret ?_
  refine de_add ?_
  refine de_name 13 ?_
  refine de_lst ?_
  refine da_cons ?_
  refine de_tup ?_
  refine da_cons ?_
  refine de_str ?_
  refine da_nil ?_
  refine ⟨by walk_at "len", ?_⟩
  refine da_cons ?_
  refine de_tup ?_
  refine da_cons ?_
  refine de_tup ?_
  refine da_nil ?_
  refine ⟨by walk_at "len", ?_⟩
  refine da_cons ?_
  refine de_name 3 ?_
  refine da_nil ?_
  refine ⟨by walk_at "len", ?_⟩
  refine da_nil ?_
  refine ⟨by walk_at "len", ?_⟩
  first | refine add_int ?_ | refine add_lst ?_ (by walk_at "len") | refine add_tup ?_ (by walk_at "len3") | refine add_scr ?_ (by walk_at "len") | refine (show addP (.str _) (.str _) _ _ from ⟨by decide +kernel, ?_⟩)
  refine qq _ _ (fa_app hall5 (fa_cons (lsT_t (fa_cons (lsE_pl (by decide +kernel)) fa_nil) (by show 1 ≤ 4; decide)) (fa_cons (lsT_t (fa_cons (lsE_pl (by decide +kernel)) (fa_cons (lsE_p (by walk_at "bdu") (by walk_at "bdu")) fa_nil)) (by show 2 ≤ 4; decide)) fa_nil))) (by rw [List.length_append]; show _ + 2 ≤ _; omega) ((by assumption : Src _ _).up (by omega))
set_option maxHeartbeats 40000000 in
theorem ok__law_things_w1 {f : Addr} {fd : FuncData} (F : Fun K "_law_things" "_law_things" s__law_things f fd) (c__law_dot : Cal P w K mg base 2 "_law_dot" ["_law_source_here", "_law_wide"] [] con_dot) (c__law_seen : Cal P w K mg base 2 "_law_seen" ["_law_spin_here", "_law_dot_here"] [] con_seen) (c__law_times : Cal P w K mg base 1 "_law_times" ["_law_one", "_law_two"] [] con_ltimes) (n_list : mg "list" = none) : GOk P w K mg base 3 f fd ["_law_source_here", "_law_spin_here", "_law_loss_here"] (spD K (conTh P w K (fun _ _ _ d => d = .tup [.str "meet", .tup [.int 0, .int 0], .tup [.int 1, .int 0]]))) := by
  refine gok_ds F sc__law_things (m := 14) rfl (fun ds S0 Q h => ?_) fun cdv A fr s0 H0 E0' gd hr ds S0 Q h => ?_
  · obtain ⟨_, _, _, _, _, _, _, rfl, _⟩ := h
    rfl
  obtain ⟨pp, p, q, k, d, l, m, rfl, hg, hS, hm, hT, hLo, qq⟩ := h
  have b1 := hT.bp
  have b2 := hT.bq
  have hc := cc_pos hT
  obtain rfl := hLo
  have z1 : Bd 120 (0 : Int) := by unfold Bd; decide
  have z2 : Bd 120 (1 : Int) := by unfold Bd; decide
  refine ds_nrm ?_ (by set_option simprocs false in dsimp only [List.map, List.replicate, List.cons_append, List.nil_append])
  refine ds_cons ?_
  refine ds_par3 (i := 3) (j := 4) (k := 5) rfl sc__law_things.nd rfl rfl rfl ?_
  refine da_cons ?_
  refine de_ix (h := ?_)
  refine de_name 2 ?_
  refine de_int ?_
  walk_at "ix"
  refine da_cons ?_
  refine de_ix (h := ?_)
  refine de_name 2 ?_
  refine de_neg ?_
  refine de_int ?_
  refine ⟨_, rfl, ?_⟩
  walk_at "ix"
  refine da_cons ?_
  refine de_call c__law_dot gd (hr.mono (by decide)) ?_
  refine da_cons ?_
  refine de_name 0 ?_
  refine da_cons ?_
  refine de_int ?_
  refine da_nil ?_
  refine ⟨_, _, _, _, rfl, (by walk_at "gets"), (by assumption), (by walk_at "m"), (by walk_at "pos"), (by walk_at "bdu"), fun x1 y1 l1 hx1 hy1 hs1 => ?_⟩
  have bx1 := Bd.of_abs hx1.1 hx1.2 (by walk_at "bd")
  have by1 := Bd.of_abs hy1.1 hy1.2 (by walk_at "bd")
  walk_at "sets"
  refine da_nil ?_
  refine ⟨_, _, _, rfl, ?_⟩
  refine ds_nrm ?_
  have bX : Bd 60 x1 := bx1.up (by decide +kernel)
  have bY : Bd 60 y1 := by1.up (by decide +kernel)
  refine ds_cons ?_
  refine ds_asg (h := ?_)
  refine de_tup ?_
  refine da_cons ?_
  refine de_ix (h := ?_)
  refine de_name 1 ?_
  refine de_int ?_
  walk_at "ix"
  refine da_cons ?_
  refine de_ix (h := ?_)
  refine de_name 1 ?_
  refine de_int ?_
  walk_at "ix"
  refine da_cons ?_
  refine de_name 3 ?_
  refine da_nil ?_
  refine ⟨by walk_at "len", ?_⟩
  first | refine dg_tup rfl rfl ?_ | refine dg_tupL rfl rfl ?_ (fun h => pg_lst rfl h)
  refine dgs_cons (h := ?_)
  refine dg_name 6 ?_ sc__law_things.nd
  refine dgs_cons (h := ?_)
  refine dg_name 7 ?_ sc__law_things.nd
  refine dgs_cons (h := ?_)
  first | refine dg_tup rfl rfl ?_ | refine dg_tupL rfl rfl ?_ (fun h => pg_lst rfl h)
  refine dgs_cons (h := ?_)
  refine dg_name 8 ?_ sc__law_things.nd
  refine dgs_cons (h := ?_)
  refine dg_name 9 ?_ sc__law_things.nd
  refine dgs_nil ?_
  refine dgs_nil ?_
  refine ds_cons ?_
  refine ds_asg (h := ?_)
  refine de_call c__law_times gd (hr.mono (by decide)) ?_
  refine da_cons ?_
  refine de_tup ?_
  refine da_cons ?_
  refine de_name 6 ?_
  refine da_cons ?_
  refine de_neg ?_
  refine de_name 7 ?_
  refine ⟨_, rfl, ?_⟩
  refine da_nil ?_
  refine ⟨by walk_at "len", ?_⟩
  refine da_cons ?_
  refine de_name 5 ?_
  refine da_nil ?_
  refine ⟨_, _, _, _, rfl, ⟨by walk_at "bdu", by walk_at "bdu", by walk_at "bdu", by walk_at "bdu"⟩, ?_⟩
  refine dg_name 10 ?_ sc__law_things.nd
  refine ds_cons ?_
  refine ds_asg (h := ?_)
  refine de_lst ?_
  refine da_cons ?_
  refine de_tup ?_
  refine da_cons ?_
  refine de_add ?_
  refine de_name 8 ?_
  refine de_ix (h := ?_)
  refine de_name 10 ?_
  refine de_int ?_
  walk_at "ix"
  first | refine add_int ?_ | refine add_lst ?_ (by walk_at "len") | refine add_tup ?_ (by walk_at "len3") | refine add_scr ?_ (by walk_at "len") | refine (show addP (.str _) (.str _) _ _ from ⟨by decide +kernel, ?_⟩)
  refine da_cons ?_
  refine de_add ?_
  refine de_name 9 ?_
  refine de_ix (h := ?_)
  refine de_name 10 ?_
  refine de_int ?_
  walk_at "ix"
  first | refine add_int ?_ | refine add_lst ?_ (by walk_at "len") | refine add_tup ?_ (by walk_at "len3") | refine add_scr ?_ (by walk_at "len") | refine (show addP (.str _) (.str _) _ _ from ⟨by decide +kernel, ?_⟩)
  refine da_nil ?_
  refine ⟨by walk_at "len", ?_⟩
  refine da_cons ?_
  refine de_tup ?_
  refine da_cons ?_
  refine de_add ?_
  refine de_ix (h := ?_)
  refine de_name 4 ?_
  refine de_int ?_
  walk_at "ix"
  refine de_ix (h := ?_)
  refine de_name 10 ?_
  refine de_int ?_
  walk_at "ix"
  first | refine add_int ?_ | refine add_lst ?_ (by walk_at "len") | refine add_tup ?_ (by walk_at "len3") | refine add_scr ?_ (by walk_at "len") | refine (show addP (.str _) (.str _) _ _ from ⟨by decide +kernel, ?_⟩)
  refine da_cons ?_
  refine de_add ?_
  refine de_ix (h := ?_)
  refine de_name 4 ?_
  refine de_int ?_
  walk_at "ix"
  refine de_ix (h := ?_)
  refine de_name 10 ?_
  refine de_int ?_
  walk_at "ix"
  first | refine add_int ?_ | refine add_lst ?_ (by walk_at "len") | refine add_tup ?_ (by walk_at "len3") | refine add_scr ?_ (by walk_at "len") | refine (show addP (.str _) (.str _) _ _ from ⟨by decide +kernel, ?_⟩)
  refine da_nil ?_
  refine ⟨by walk_at "len", ?_⟩
  refine da_nil ?_
  refine ⟨by walk_at "len", ?_⟩
  refine dg_name 11 ?_ sc__law_things.nd
  refine ds_cons ?_
  refine ds_asg (h := ?_)
  refine de_call c__law_seen gd (hr.mono (by decide)) ?_
  refine da_cons ?_
  refine de_name 1 ?_
  refine da_cons ?_
  refine de_name 3 ?_
  refine da_nil ?_
  refine ⟨_, _, _, _, _, rfl, by walk_at "tn", ⟨by walk_at "bdu", by walk_at "bdu"⟩, ?_⟩
  refine dg_name 12 ?_ sc__law_things.nd
  refine ds_cons ?_
  refine ds_asg (h := ?_)
  refine de_lstO ?_
  refine da_cons ?_
  refine de_name 2 ?_
  refine da_cons ?_
  refine de_tup ?_
  refine da_cons ?_
  refine de_str ?_
  refine da_cons ?_
  refine de_ix (h := ?_)
  refine de_name 11 ?_
  refine de_int ?_
  walk_at "ix"
  refine da_cons ?_
  refine de_ix (h := ?_)
  refine de_name 11 ?_
  refine de_int ?_
  walk_at "ix"
  refine da_nil ?_
  refine ⟨by walk_at "len", ?_⟩
  refine da_cons ?_
  refine de_tup ?_
  refine da_cons ?_
  refine de_str ?_
  refine da_cons ?_
  refine de_name 4 ?_
  refine da_cons ?_
  refine de_name 3 ?_
  refine da_nil ?_
  refine ⟨by walk_at "len", ?_⟩
  refine da_cons ?_
  refine de_tup ?_
  refine da_cons ?_
  refine de_str ?_
  refine da_cons ?_
  refine de_name 3 ?_
  refine da_cons ?_
  refine de_name 3 ?_
  refine da_nil ?_
  refine ⟨by walk_at "len", ?_⟩
  refine da_nil ?_
  refine ⟨by walk_at "len", fun p4 hp4 => ?_⟩
  refine dg_name 13 ?_ sc__law_things.nd
  refine ds_cons ?_
  refine ds_expr (h := ?_)
  refine de_append ?_
  refine de_name 13 ?_
  refine ⟨_, _, rfl, (by walk_at "gets"), ?_⟩
  refine da_cons ?_
  refine de_tup ?_
  refine da_cons ?_
  refine de_str ?_
  refine da_cons ?_
  refine de_name 3 ?_
  refine da_cons ?_
  refine de_tup ?_
  refine da_cons ?_
  refine de_name 8 ?_
  refine da_cons ?_
  refine de_add ?_
  refine de_name 9 ?_
  refine de_int ?_
  first | refine add_int ?_ | refine add_lst ?_ (by walk_at "len") | refine add_tup ?_ (by walk_at "len3") | refine add_scr ?_ (by walk_at "len") | refine (show addP (.str _) (.str _) _ _ from ⟨by decide +kernel, ?_⟩)
  refine da_nil ?_
  refine ⟨by walk_at "len", ?_⟩
  refine da_nil ?_
  refine ⟨by walk_at "len", ?_⟩
  refine da_nil ?_
  refine ⟨_, _, rfl, (by walk_at "gets"), (by walk_at "len"), ?_⟩
  walk_at "sets"
  refine ds_freeze 13 rfl (ds_nrm ?_) rfl
  skip
  generalize hT0 : (_ ++ _ : List D) = t0
  have hall0 : ∀ d ∈ t0, LsT P w K d := by rw [← hT0]; exact ((fa_cons (lsT_t (fa_cons (lsE_pl (by decide +kernel)) (fa_cons (lsE_p (by walk_at "bdu") (by walk_at "bdu")) (fa_cons (lsE_p (by walk_at "bdu") (by walk_at "bdu")) fa_nil))) (by show 3 ≤ 4; decide)) (fa_cons (lsT_t (fa_cons (lsE_pl (by decide +kernel)) (fa_cons (lsE_p (by walk_at "bdu") (by walk_at "bdu")) (fa_cons (lsE_p (by walk_at "bdu") (by walk_at "bdu")) fa_nil))) (by show 3 ≤ 4; decide)) (fa_cons (lsT_t (fa_cons (lsE_pl (by decide +kernel)) (fa_cons (lsE_p (by walk_at "bdu") (by walk_at "bdu")) (fa_cons (lsE_p (by walk_at "bdu") (by walk_at "bdu")) fa_nil))) (by show 3 ≤ 4; decide)) (fa_cons (lsT_t (fa_cons (lsE_pl (by decide +kernel)) (fa_cons (lsE_p (by walk_at "bdu") (by walk_at "bdu")) (fa_cons (lsE_p (by walk_at "bdu") (by walk_at "bdu")) fa_nil))) (by show 3 ≤ 4; decide)) (fa_cons (lsT_t (fa_cons (lsE_pl (by decide +kernel)) (fa_cons (lsE_p (by walk_at "bdu") (by walk_at "bdu")) (fa_cons (lsE_p (by walk_at "bdu") (by walk_at "bdu")) fa_nil))) (by show 3 ≤ 4; decide)) fa_nil))))))
  have hn0 : t0.length ≤ 5 := by rw [← hT0]; exact Nat.le_refl 5
  refine ds_cons ?_
  refine ds_asg (h := ?_)
  refine de_lst ?_
  refine da_cons ?_
  refine de_tup ?_
  refine da_cons ?_
  refine de_int ?_
  refine da_cons ?_
  refine de_int ?_
  refine da_nil ?_
  refine ⟨by walk_at "len", ?_⟩
  refine da_cons ?_
  refine de_tup ?_
  refine da_cons ?_
  refine de_int ?_
  refine da_cons ?_
  refine de_int ?_
  refine da_nil ?_
  refine ⟨by walk_at "len", ?_⟩
  refine da_cons ?_
  refine de_tup ?_
  refine da_cons ?_
  refine de_int ?_
  refine da_cons ?_
  refine de_int ?_
  refine da_nil ?_
  refine ⟨by walk_at "len", ?_⟩
  refine da_cons ?_
  refine de_tup ?_
  refine da_cons ?_
  refine de_neg ?_
  refine de_int ?_
  refine ⟨_, rfl, ?_⟩
  refine da_cons ?_
  refine de_int ?_
  refine da_nil ?_
  refine ⟨by walk_at "len", ?_⟩
  refine da_cons ?_
  refine de_tup ?_
  refine da_cons ?_
  refine de_int ?_
  refine da_cons ?_
  refine de_neg ?_
  refine de_int ?_
  refine ⟨_, rfl, ?_⟩
  refine da_nil ?_
  refine ⟨by walk_at "len", ?_⟩
  refine da_nil ?_
  refine ⟨by walk_at "len", ?_⟩
  refine dg_name 14 ?_ sc__law_things.nd
  refine ds_cons ?_
  refine ds_asg (h := ?_)
  refine de_add ?_
  refine de_name 13 ?_
  refine de_lcT (own := [("_law_k", 15), ("_law_j", 16)]) [15, 16] rfl sc__law_things.nd (blkOk_by (N := ["_law_source_here", "_law_spin_here", "_law_loss_here", "_law_one", "_law_two", "_law_dot_here", "_law_p", "_law_q", "_law_x", "_law_y", "_law_away", "_law_moved", "_law_hit", "_law_things_here", "_law_sides", "_law_k", "_law_j"]) (sc := defScope s__law_things) (by decide +kernel)) rfl rfl ?_ (fun _ _ _ _ _ => pg_tup rfl (pgs_cons (pg_name sc__law_things.nd rfl (Or.inl rfl)) (pgs_cons (pg_name sc__law_things.nd rfl (Or.inl rfl)) pgs_nil)))
  refine di_lst ?_
  refine de_name 14 ?_
  refine ⟨_, rfl, ?_⟩
  refine ⟨fun k9 acc S' => setS pp l1 S0 = S' ∧ acc.length = k9 ∧ ∀ d ∈ acc, LsT P w K d, ⟨rfl, rfl, fun _ z => nomatch z⟩, fun k9 d9 acc S' p9 hk hP hp hl => ?_, by show 5 ≤ 100000; decide, fun accC S' hl hP => ?_⟩
  · obtain ⟨rfl, hn9, hall9⟩ := hP
    obtain ⟨i9, j9, rfl, bi9, bj9⟩ := ((fa_cons ⟨_, _, rfl, by unfold Bd; decide, by unfold Bd; decide⟩ (fa_cons ⟨_, _, rfl, by unfold Bd; decide, by unfold Bd; decide⟩ (fa_cons ⟨_, _, rfl, by unfold Bd; decide, by unfold Bd; decide⟩ (fa_cons ⟨_, _, rfl, by unfold Bd; decide, by unfold Bd; decide⟩ (fa_cons ⟨_, _, rfl, by unfold Bd; decide, by unfold Bd; decide⟩ fa_nil))))) : ∀ x ∈ _, ∃ i j : Int, x = .tup [.int i, .int j] ∧ Bd 1 i ∧ Bd 1 j) _ (List.mem_of_getElem? hk)
    refine ⟨_, rfl, rfl, _, by set_option simprocs false in dsimp only [setV, wipeE, List.set], ?_⟩
    intro s H C cl fp
    refine de_tup ?_
    refine da_cons ?_
    refine de_str ?_
    refine da_cons ?_
    refine de_tup ?_
    refine da_cons ?_
    refine de_add ?_
    refine de_ix (h := ?_)
    refine de_name 12 ?_
    refine de_int ?_
    walk_at "ix"
    refine de_name 15 ?_
    first | refine add_int ?_ | refine add_lst ?_ (by walk_at "len") | refine add_tup ?_ (by walk_at "len3") | refine add_scr ?_ (by walk_at "len") | refine (show addP (.str _) (.str _) _ _ from ⟨by decide +kernel, ?_⟩)
    refine da_cons ?_
    refine de_add ?_
    refine de_ix (h := ?_)
    refine de_name 12 ?_
    refine de_int ?_
    walk_at "ix"
    refine de_name 16 ?_
    first | refine add_int ?_ | refine add_lst ?_ (by walk_at "len") | refine add_tup ?_ (by walk_at "len3") | refine add_scr ?_ (by walk_at "len") | refine (show addP (.str _) (.str _) _ _ from ⟨by decide +kernel, ?_⟩)
    refine da_nil ?_
    refine ⟨by walk_at "len", ?_⟩
    refine da_nil ?_
    refine ⟨by walk_at "len", ?_⟩
    exact ⟨_, rfl, rfl, by rw [List.length_append, hn9] <;> rfl, fa_app hall9 (fa_cons (lsT_t (fa_cons (lsE_pl (by decide +kernel)) (fa_cons (lsE_p (by walk_at "bdu") (by walk_at "bdu")) fa_nil)) (by show 2 ≤ 4; decide)) fa_nil)⟩
  obtain ⟨rfl, hnc, hallc⟩ := hP
  have hnc : accC.length = 5 := hnc
  first | refine add_int ?_ | refine add_lst ?_ (by walk_at "len") | refine add_tup ?_ (by walk_at "len3") | refine add_scr ?_ (by walk_at "len") | refine (show addP (.str _) (.str _) _ _ from ⟨by decide +kernel, ?_⟩)
  refine dg_name 13 ?_ sc__law_things.nd
  generalize hT1 : (_ ++ _ : List D) = t1
  have hall1 : ∀ d ∈ t1, LsT P w K d := by rw [← hT1]; exact fa_app hall0 hallc
  have hn1 : t1.length ≤ 10 := by rw [← hT1, List.length_append]; show _ + accC.length ≤ _; omega
  refine ds_cons ?_
  refine ds_asg (h := ?_)
  refine de_add ?_
  refine de_name 13 ?_
  refine de_lst ?_
  refine da_cons ?_
  refine de_T call_list_of n_list bt_list ?_
  refine da_cons ?_
  refine de_name 2 ?_
  refine da_nil ?_
  first | refine drc_list ?_ | refine drc_listT ?_
  refine da_cons ?_
  refine de_slice ?_
  refine de_name 2 ?_
  refine do_none ?_
  refine do_some ?_
  refine de_neg ?_
  refine de_int ?_
  refine ⟨_, rfl, ?_⟩
  refine ⟨rfl, _, rfl, ?_⟩
  walk_at "slice"
  refine da_cons ?_
  refine de_add ?_
  refine de_name 2 ?_
  refine de_tup ?_
  refine da_cons ?_
  refine de_name 3 ?_
  refine da_nil ?_
  refine ⟨by walk_at "len", ?_⟩
  first | refine add_int ?_ | refine add_lst ?_ (by walk_at "len") | refine add_tup ?_ (by walk_at "len3") | refine add_scr ?_ (by walk_at "len") | refine (show addP (.str _) (.str _) _ _ from ⟨by decide +kernel, ?_⟩)
  refine da_cons ?_
  refine de_add ?_
  refine de_tup ?_
  refine da_cons ?_
  refine de_str ?_
  refine da_nil ?_
  refine ⟨by walk_at "len", ?_⟩
  refine de_slice ?_
  refine de_name 2 ?_
  refine do_some ?_
  refine de_int ?_
  refine ⟨rfl, _, rfl, ?_⟩
  refine do_none ?_
  walk_at "slice"
  first | refine add_int ?_ | refine add_lst ?_ (by walk_at "len") | refine add_tup ?_ (by walk_at "len3") | refine add_scr ?_ (by walk_at "len") | refine (show addP (.str _) (.str _) _ _ from ⟨by decide +kernel, ?_⟩)
  refine da_nil ?_
  refine ⟨by walk_at "len", ?_⟩
  first | refine add_int ?_ | refine add_lst ?_ (by walk_at "len") | refine add_tup ?_ (by walk_at "len3") | refine add_scr ?_ (by walk_at "len") | refine (show addP (.str _) (.str _) _ _ from ⟨by decide +kernel, ?_⟩)
  refine dg_name 13 ?_ sc__law_things.nd
  generalize hT2 : (_ ++ _ : List D) = t2
  have hall2 : ∀ d ∈ t2, LsT P w K d := by rw [← hT2]; exact fa_app hall1 (fa_cons (lsT_l (fa_cons (lsE_pl (by decide +kernel)) (fa_cons (lsE_p (by walk_at "bdu") (by walk_at "bdu")) (fa_cons (lsE_p (by walk_at "bdu") (by walk_at "bdu")) fa_nil))) (by show 3 ≤ 4; decide)) (fa_cons (lsT_t (fa_cons (lsE_pl (by decide +kernel)) (fa_cons (lsE_p (by walk_at "bdu") (by walk_at "bdu")) fa_nil)) (by show 2 ≤ 4; decide)) (fa_cons (lsT_t (fa_cons (lsE_pl (by decide +kernel)) (fa_cons (lsE_p (by walk_at "bdu") (by walk_at "bdu")) (fa_cons (lsE_p (by walk_at "bdu") (by walk_at "bdu")) (fa_cons (lsE_p (by walk_at "bdu") (by walk_at "bdu")) fa_nil)))) (by show 4 ≤ 4; decide)) (fa_cons (lsT_t (fa_cons (lsE_pl (by decide +kernel)) (fa_cons (lsE_p (by walk_at "bdu") (by walk_at "bdu")) (fa_cons (lsE_p (by walk_at "bdu") (by walk_at "bdu")) fa_nil))) (by show 3 ≤ 4; decide)) fa_nil))))
  have hn2 : t2.length ≤ 14 := by rw [← hT2, List.length_append]; show _ + 4 ≤ _; omega
  refine ds_cons ?_
  refine ds_asg (h := ?_)
  refine de_add ?_
  refine de_name 13 ?_
  refine de_lst ?_
  refine da_cons ?_
  refine de_tup ?_
  refine da_cons ?_
  refine de_non ?_
  refine da_cons ?_
  refine de_name 3 ?_
  refine da_cons ?_
  refine de_name 4 ?_
  refine da_nil ?_
  refine ⟨by walk_at "len", ?_⟩
  refine da_cons ?_
  refine de_tup ?_
  refine da_cons ?_
  refine de_str ?_
  refine da_cons ?_
  refine de_name 3 ?_
  refine da_cons ?_
  refine de_T call_list_of n_list bt_list ?_
  refine da_cons ?_
  refine de_name 4 ?_
  refine da_nil ?_
  first | refine drc_list ?_ | refine drc_listT ?_
  refine da_nil ?_
  refine ⟨by walk_at "len", ?_⟩
  refine da_cons ?_
  refine de_tup ?_
  refine da_cons ?_
  refine de_str ?_
  refine da_cons ?_
  refine de_lst ?_
  refine da_cons ?_
  refine de_name 8 ?_
  refine da_cons ?_
  refine de_name 9 ?_
  refine da_nil ?_
  refine ⟨by walk_at "len", ?_⟩
  refine da_nil ?_
  refine ⟨by walk_at "len", ?_⟩
  refine da_cons ?_
  refine de_tup ?_
  refine da_cons ?_
  refine de_str ?_
  refine da_cons ?_
  refine de_tup ?_
  refine da_cons ?_
  refine de_name 8 ?_
  refine da_cons ?_
  refine de_bl ?_
  refine da_nil ?_
  refine ⟨by walk_at "len", ?_⟩
  refine da_nil ?_
  refine ⟨by walk_at "len", ?_⟩
  refine da_nil ?_
  refine ⟨by walk_at "len", ?_⟩
  first | refine add_int ?_ | refine add_lst ?_ (by walk_at "len") | refine add_tup ?_ (by walk_at "len3") | refine add_scr ?_ (by walk_at "len") | refine (show addP (.str _) (.str _) _ _ from ⟨by decide +kernel, ?_⟩)
  refine dg_name 13 ?_ sc__law_things.nd
  generalize hT3 : (_ ++ _ : List D) = t3
  have hall3 : ∀ d ∈ t3, LsT P w K d := by rw [← hT3]; exact fa_app hall2 (fa_cons (lsT_t (fa_cons (lsE_pl (by decide +kernel)) (fa_cons (lsE_p (by walk_at "bdu") (by walk_at "bdu")) (fa_cons (lsE_p (by walk_at "bdu") (by walk_at "bdu")) fa_nil))) (by show 3 ≤ 4; decide)) (fa_cons (lsT_t (fa_cons (lsE_pl (by decide +kernel)) (fa_cons (lsE_p (by walk_at "bdu") (by walk_at "bdu")) (fa_cons (lsE_lp (by walk_at "bdu") (by walk_at "bdu")) fa_nil))) (by show 3 ≤ 4; decide)) (fa_cons (lsT_t (fa_cons (lsE_pl (by decide +kernel)) (fa_cons (lsE_lp (by walk_at "bdu") (by walk_at "bdu")) fa_nil)) (by show 2 ≤ 4; decide)) (fa_cons (lsT_t (fa_cons (lsE_pl (by decide +kernel)) (fa_cons (lsE_pb (by walk_at "bdu")) fa_nil)) (by show 2 ≤ 4; decide)) fa_nil))))
  have hn3 : t3.length ≤ 18 := by rw [← hT3, List.length_append]; show _ + 4 ≤ _; omega
  refine ds_cons ?_
  refine ds_asg (h := ?_)
  refine de_add ?_
  refine de_name 13 ?_
  refine de_lst ?_
  refine da_cons ?_
  refine de_tup ?_
  refine da_cons ?_
  refine de_str ?_
  refine da_cons ?_
  refine de_tup ?_
  refine da_cons ?_
  refine de_name 8 ?_
  refine da_cons ?_
  refine de_name 9 ?_
  refine da_cons ?_
  refine de_int ?_
  refine da_nil ?_
  refine ⟨by walk_at "len", ?_⟩
  refine da_nil ?_
  refine ⟨by walk_at "len", ?_⟩
  refine da_cons ?_
  refine de_tup ?_
  refine da_cons ?_
  refine de_str ?_
  refine da_cons ?_
  refine de_name 3 ?_
  refine da_nil ?_
  refine ⟨by walk_at "len", ?_⟩
  refine da_nil ?_
  refine ⟨by walk_at "len", ?_⟩
  first | refine add_int ?_ | refine add_lst ?_ (by walk_at "len") | refine add_tup ?_ (by walk_at "len3") | refine add_scr ?_ (by walk_at "len") | refine (show addP (.str _) (.str _) _ _ from ⟨by decide +kernel, ?_⟩)
  refine dg_name 13 ?_ sc__law_things.nd
  generalize hT4 : (_ ++ _ : List D) = t4
  have hall4 : ∀ d ∈ t4, LsT P w K d := by rw [← hT4]; exact fa_app hall3 (fa_cons (lsT_t (fa_cons (lsE_pl (by decide +kernel)) (fa_cons (lsE_p3 (by walk_at "bdu") (by walk_at "bdu")) fa_nil)) (by show 2 ≤ 4; decide)) (fa_cons (lsT_t (fa_cons (lsE_pl (by decide +kernel)) (fa_cons (lsE_p (by walk_at "bdu") (by walk_at "bdu")) fa_nil)) (by show 2 ≤ 4; decide)) fa_nil))
  have hn4 : t4.length ≤ 20 := by rw [← hT4, List.length_append]; show _ + 2 ≤ _; omega
  refine ds_cons ?_
  refine ds_asg (h := ?_)
  refine de_add ?_
  refine de_name 13 ?_
  refine de_lst ?_
  refine da_cons ?_
  refine de_tup ?_
  refine da_cons ?_
  refine de_str ?_
  refine da_cons ?_
  refine de_name 3 ?_
  refine da_cons ?_
  refine de_name 4 ?_
  refine da_nil ?_
  refine ⟨by walk_at "len", ?_⟩
  refine da_cons ?_
  refine de_tup ?_
  refine da_cons ?_
  refine de_str ?_
  refine da_cons ?_
  refine de_non ?_
  refine da_nil ?_
  refine ⟨by walk_at "len", ?_⟩
  refine da_cons ?_
  refine de_non ?_
  refine da_cons ?_
  refine de_bl ?_
  refine da_cons ?_
  refine de_int ?_
  refine da_cons ?_
  refine de_str ?_
  refine da_cons ?_
  refine de_tup ?_
  refine da_nil ?_
  refine ⟨by walk_at "len", ?_⟩
  refine da_cons ?_
  refine de_lst ?_
  refine da_nil ?_
  refine ⟨by walk_at "len", ?_⟩
  refine da_cons ?_
  refine de_dic0 ?_
  refine da_nil ?_
  refine ⟨by walk_at "len", ?_⟩
  first | refine add_int ?_ | refine add_lst ?_ (by walk_at "len") | refine add_tup ?_ (by walk_at "len3") | refine add_scr ?_ (by walk_at "len") | refine (show addP (.str _) (.str _) _ _ from ⟨by decide +kernel, ?_⟩)
  refine dg_name 13 ?_ sc__law_things.nd
  generalize hT5 : (_ ++ _ : List D) = t5
  have hall5 : ∀ d ∈ t5, LsT P w K d := by rw [← hT5]; exact fa_app hall4 (fa_cons (lsT_t (fa_cons (lsE_pl (by decide +kernel)) (fa_cons (lsE_p (by walk_at "bdu") (by walk_at "bdu")) (fa_cons (lsE_p (by walk_at "bdu") (by walk_at "bdu")) fa_nil))) (by show 3 ≤ 4; decide)) (fa_cons (lsT_t (fa_cons (lsE_pl (by decide +kernel)) (fa_cons (lsE_pl (by decide +kernel)) fa_nil)) (by show 2 ≤ 4; decide)) (fa_cons (lsT_pl (by decide +kernel)) (fa_cons (lsT_pl (by decide +kernel)) (fa_cons (lsT_pl (by decide +kernel)) (fa_cons (lsT_pl (by decide +kernel)) (fa_cons (lsT_t fa_nil (by show 0 ≤ 4; decide)) (fa_cons (lsT_pl (by decide +kernel)) (fa_cons lsT_dic fa_nil)))))))))
  have hn5 : t5.length ≤ 29 := by rw [← hT5, List.length_append]; show _ + 9 ≤ _; omega
  refine ds_cons ?_
  refine ds_ret ?_
  refine de_add ?_
  refine de_name 13 ?_
  refine de_lst ?_
  refine da_cons ?_
  refine de_tup ?_
  refine da_cons ?_
  refine de_str ?_
  refine da_nil ?_
  refine ⟨by walk_at "len", ?_⟩
  refine da_cons ?_
  refine de_tup ?_
  refine da_cons ?_
  refine de_tup ?_
  refine da_nil ?_
  refine ⟨by walk_at "len", ?_⟩
  refine da_cons ?_
  refine de_name 3 ?_
  refine da_nil ?_
  refine ⟨by walk_at "len", ?_⟩
  refine da_nil ?_
  refine ⟨by walk_at "len", ?_⟩
  first | refine add_int ?_ | refine add_lst ?_ (by walk_at "len") | refine add_tup ?_ (by walk_at "len3") | refine add_scr ?_ (by walk_at "len") | refine (show addP (.str _) (.str _) _ _ from ⟨by decide +kernel, ?_⟩)
  refine qq _ _ (fa_app hall5 (fa_cons (lsT_t (fa_cons (lsE_pl (by decide +kernel)) fa_nil) (by show 1 ≤ 4; decide)) (fa_cons (lsT_t (fa_cons (lsE_pl (by decide +kernel)) (fa_cons (lsE_p (by walk_at "bdu") (by walk_at "bdu")) fa_nil)) (by show 2 ≤ 4; decide)) fa_nil))) (by rw [List.length_append]; show _ + 2 ≤ _; omega) ((by assumption : Src _ _).up (by omega))
theorem ok__law_things {f : Addr} {fd : FuncData} (F : Fun K "_law_things" "_law_things" s__law_things f fd) (c__law_dot : Cal P w K mg base 2 "_law_dot" ["_law_source_here", "_law_wide"] [] con_dot) (c__law_seen : Cal P w K mg base 2 "_law_seen" ["_law_spin_here", "_law_dot_here"] [] con_seen) (c__law_times : Cal P w K mg base 1 "_law_times" ["_law_one", "_law_two"] [] con_ltimes) (n_list : mg "list" = none) : GOk P w K mg base 3 f fd ["_law_source_here", "_law_spin_here", "_law_loss_here"] (spD K (conTh P w K LossOf)) := gok_two (ok__law_things_w0 F c__law_dot c__law_seen c__law_times n_list) (ok__law_things_w1 F c__law_dot c__law_seen c__law_times n_list) fun ds S Q ⟨pp, p, q, k, d, l, m, e, h1, h2, h3, h4, hL, h6⟩ => hL.imp (fun z => ⟨pp, p, q, k, d, l, m, e, h1, h2, h3, h4, z, h6⟩) (fun z => ⟨pp, p, q, k, d, l, m, e, h1, h2, h3, h4, z, h6⟩)
abbrev s__law_right : Stmt := top 49
theorem sc__law_right : FnScope ["_law_source_here", "_law_spin_here", "_law_loss_here", "_law_dot_here", "_law_thing", "_law_due", "_law_kept", "_law_told"] ["_law_source_here", "_law_spin_here"] (defScope s__law_right) := ⟨rfl, rfl, rfl, by decide +kernel, rfl, by decide +kernel, by decide +kernel⟩
set_option maxHeartbeats 40000000 in
theorem ok__law_right_w0 {f : Addr} {fd : FuncData} (F : Fun K "_law_right" "_law_right" s__law_right f fd) {C_KeepsAll : Addr} (c__law_judged : Cal P w K mg base 4 "_law_judged" ["_law_spin_here", "_law_thing"] [] (con_judged P w K)) (c__law_things : Cal P w K mg base 3 "_law_things" ["_law_source_here", "_law_spin_here", "_law_loss_here"] [] (conTh P w K LossOf)) (c_shows_loss : Cal P w K mg base 8 "shows_loss" ["turn", "value"] [(0, ["value", "turn"])] (con_showsA P w K)) (m_KeepsAll__KeepsAll : PySem.W.exmOne K (.ref C_KeepsAll) (.ref C_KeepsAll) = some true) (n_abs : mg "abs" = none) (n_max : mg "max" = none) (n_repr : mg "repr" = none) (o_KeepsAll : OwnErr K mg "KeepsAll" C_KeepsAll) (r_a_loss : CalX P w K mg base 8 "a_loss" ["turn"] [(0, ["turn"])] (con_alossX C_KeepsAll)) : GOk P w K mg base 9 f fd ["_law_source_here", "_law_spin_here"] (spD K con_r23_0) := by
  refine gok_ds F sc__law_right (m := 6) rfl (fun ds S0 Q h => ?_) fun cdv A fr s0 H0 E0' gd hr ds S0 Q h => ?_
  · obtain ⟨_, _, _, _, _, _, rfl, _⟩ := h
    rfl
  obtain ⟨pp, p, q, k, l, m, rfl, hg, hS, hm, hT, hkp, qq⟩ := h
  have b1 := hT.bp
  have b2 := hT.bq
  have hc := cc_pos hT
  have blx : Bd 110 (lossX p q) := bd_lossX hT
  have z110 : Bd 110 (0 : Int) := by unfold Bd; decide
  have o110 : Bd 110 (1 : Int) := by unfold Bd; decide
  have hLs : LsT P w K (.tup [.str "meet", .tup [.int 0, .int 0], .tup [.int 1, .int 0]]) := lsT_t (fa_cons (lsE_pl (by decide +kernel)) (fa_cons (lsE_p (z110.up (by decide)) (z110.up (by decide))) (fa_cons (lsE_p (o110.up (by decide)) (z110.up (by decide))) fa_nil))) (by show 3 ≤ 4; decide)
  have hLo9 : LossOf p q k (.tup [.str "meet", .tup [.int 0, .int 0], .tup [.int 1, .int 0]]) := .inr rfl
  refine ds_nrm ?_ (by set_option simprocs false in dsimp only [List.map, List.replicate, List.cons_append, List.nil_append])
  refine ds_cons ?_
  refine ds_asg (h := ?_)
  refine de_non ?_
  refine dg_name 2 ?_ sc__law_right.nd
  refine ds_cons ?_
  refine ds_join (γ := Unit) (fun _ => [some (.raw (.ref pp)), some (.tup [.int p, .int q, .int k]), some (.non), none, none, none, none, none]) (fun _ S' => S0 = S') ?_ ?_
  · refine ds_try rfl rfl (.cons ⟨rfl, by decide, .inl o_KeepsAll.gC⟩ .nil) (fun pn8 xe8 => ?_)
    refine dsx_cons ?_
    refine dsx_asg (h := ?_)
    refine dex_call r_a_loss gd (hr.mono (by decide)) ?_
    refine dax_of ?_
    refine da_cons ?_
    refine de_name 1 ?_
    refine da_nil ?_
    refine ⟨_, _, _, rfl, hT, fun hk1 => ?_, fun hk1 _ => absurd hkp hk1⟩
    · refine ⟨true, m_KeepsAll__KeepsAll, fun _ a9 oe9 d9 pn9 hz9 hf9 => ?_, fun z => (nomatch z)⟩
      refine ds_cons ?_
      refine ds_asg (h := ?_)
      refine de_non ?_
      refine dg_name 2 ?_ sc__law_right.nd
      refine ds_nil ?_
      exact ⟨(), by walk_at "wk", rfl⟩
  rintro _ _ rfl
  refine ds_cons ?_
  refine ds_if ?_
  refine dt_ne (hr.units) ?_
  refine de_isN ?_
  refine de_name 2 ?_
  refine ⟨_, rfl, ?_⟩
  refine de_eq (hr.units) ?_
  refine de_ix (h := ?_)
  refine de_name 1 ?_
  refine de_int ?_
  walk_at "ix"
  refine de_add ?_
  refine de_B call_abs n_abs bt_abs ?_
  refine da_cons ?_
  refine de_ix (h := ?_)
  refine de_name 1 ?_
  refine de_int ?_
  walk_at "ix"
  refine da_nil ?_
  refine drc_abs ?_
  refine de_int ?_
  first | refine add_int ?_ | refine add_lst ?_ (by walk_at "len") | refine add_tup ?_ (by walk_at "len3") | refine add_scr ?_ (by walk_at "len") | refine (show addP (.str _) (.str _) _ _ from ⟨by decide +kernel, ?_⟩)
  refine eq_int ?_
  rw [decide_eq_true (show p = (if q < 0 then -q else q) + 1 from hkp)]
  refine eqP_same rfl rfl ?_
  refine ⟨fun ht => ?_, fun ht => ?_⟩
  · exact (nb ht rfl).elim
  refine ds_nil ?_
  refine ds_cons ?_
  refine ds_join (γ := Unit) (fun _ => [some (.raw (.ref pp)), some (.tup [.int p, .int q, .int k]), some (.tup [.str "meet", .tup [.int 0, .int 0], .tup [.int 1, .int 0]]), none, none, none, none, none]) (fun _ S' => S0 = S') ?_ ?_
  · refine ds_if ?_
    refine dt_isN ?_
    refine de_name 2 ?_
    refine ⟨_, rfl, ?_⟩
    refine ⟨fun ht => ?_, fun ht => ?_⟩
    · refine ds_cons ?_
      refine ds_asg (h := ?_)
      refine de_tup ?_
      refine da_cons ?_
      refine de_str ?_
      refine da_cons ?_
      refine de_tup ?_
      refine da_cons ?_
      refine de_int ?_
      refine da_cons ?_
      refine de_int ?_
      refine da_nil ?_
      refine ⟨by walk_at "len", ?_⟩
      refine da_cons ?_
      refine de_tup ?_
      refine da_cons ?_
      refine de_int ?_
      refine da_cons ?_
      refine de_int ?_
      refine da_nil ?_
      refine ⟨by walk_at "len", ?_⟩
      refine da_nil ?_
      refine ⟨by walk_at "len", ?_⟩
      refine dg_name 2 ?_ sc__law_right.nd
      refine ds_nil ?_
      exact ⟨(), by walk_at "wk", rfl⟩
    exact absurd ht (by decide)
  rintro _ _ rfl
  refine ds_cons ?_
  refine ds_if ?_
  refine dt_ne (hr.units) ?_
  refine de_lcIf 3 rfl sc__law_right.nd (blkOk_by (N := ["_law_source_here", "_law_spin_here", "_law_loss_here", "_law_dot_here", "_law_thing", "_law_due", "_law_kept", "_law_told"]) (sc := defScope s__law_right) (by decide +kernel)) ?_ (fun _ _ _ _ _ => pg_name sc__law_right.nd rfl (Or.inl rfl))
  refine di_tup ?_
  refine de_slice ?_
  refine de_name 2 ?_
  refine do_some ?_
  refine de_int ?_
  refine ⟨rfl, _, rfl, ?_⟩
  refine do_none ?_
  walk_at "slice"
  refine ⟨_, rfl, ?_⟩
  refine ⟨fun k acc S' => S0 = S' ∧ acc = [], ⟨rfl, rfl⟩, fun k9 d9 acc S' p9 hk hP hp hl s5 H5 C5 cl5 fp5 => ?_, by show 2 ≤ 100000; decide, fun acc S' hl hP => ?_⟩
  · obtain ⟨rfl, rfl⟩ := hP
    obtain ⟨a9, b9, rfl, ba9, bb9⟩ := ((fa_cons ⟨_, _, rfl, z110, z110⟩ (fa_cons ⟨_, _, rfl, o110, z110⟩ fa_nil)) : ∀ x ∈ _, ∃ a b : Int, x = .tup [.int a, .int b] ∧ Bd 110 a ∧ Bd 110 b) _ (List.mem_of_getElem? hk)
    refine dt_ge ?_
    refine de_B (call_max2 rfl) n_max bt_max ?_
    refine da_cons ?_
    refine de_B call_abs n_abs bt_abs ?_
    refine da_cons ?_
    refine de_ix (h := ?_)
    refine de_name 3 ?_
    refine de_int ?_
    walk_at "ix"
    refine da_nil ?_
    refine drc_abs ?_
    refine da_cons ?_
    refine de_B call_abs n_abs bt_abs ?_
    refine da_cons ?_
    refine de_ix (h := ?_)
    refine de_name 3 ?_
    refine de_int ?_
    walk_at "ix"
    refine da_nil ?_
    refine drc_abs ?_
    refine da_nil ?_
    refine drc_max ?_
    refine de_pow ?_
    refine de_int ?_
    refine de_int ?_
    refine ⟨_, _, rfl, rfl, (by walk_at "cpw"), ?_⟩
    refine ⟨_, _, rfl, rfl, ?_⟩
    refine ⟨_, rfl, fun ht => absurd (of_decide_eq_true ht) (far_60 ba9 bb9), fun ht => ⟨rfl, rfl⟩⟩
    skip
  obtain ⟨rfl, rfl⟩ := hP
  refine de_lst ?_
  refine da_nil ?_
  refine ⟨by walk_at "len", ?_⟩
  walk_at "eq"
  refine ⟨fun ht => ?_, fun ht => ?_⟩
  · exact absurd ht (by decide)
  refine ds_nil ?_
  refine ds_cons ?_
  refine ds_forG (γ := Unit) [4, 5, 6, 7] PassesOwn.never rfl ?_
  refine di_lst ?_
  refine de_call c__law_things gd (hr.mono (by decide)) ?_
  refine da_cons ?_
  refine de_name 0 ?_
  refine da_cons ?_
  refine de_name 1 ?_
  refine da_cons ?_
  refine de_name 2 ?_
  refine da_nil ?_
  refine ⟨_, _, _, _, _, _, _, rfl, (by walk_at "gets"), (by assumption), (by omega), hT, hLo9, fun ts2 l2 hts2 htl2 hs2 => ?_⟩
  walk_at "sets"
  refine ⟨_, rfl, ?_⟩
  refine ⟨fun _ => [], _, fun _ => (by dsimp only [putU, fgt, List.set]), fun i _ S' => setS pp l2 S0 = S', (), by walk_at "wk", rfl, fun i1 d1 g1 S1 hi1 hP1 => ?_, fun g1 S1 hP1 => ?_⟩
  · subst hP1
    have hL9 : LsT P w K d1 := hts2 d1 (List.mem_of_getElem? hi1)
    obtain ⟨t0, n0, m0, hsh, hn0, hm0⟩ := hL9.s
    obtain ⟨t1, n1, m1, hsh1, hn1, hm1⟩ := shw_b2 (P := P) (w := w) (K := K) (lossD p q k d1) (lossD p q k d1)
    refine dg_name 4 ?_ sc__law_right.nd
    refine ds_cons ?_
    refine ds_par (i := 5) (j := 6) rfl sc__law_right.nd rfl rfl (by decide) ?_
    refine da_cons ?_
    refine de_call c__law_judged gd (hr.mono (by decide)) ?_
    refine da_cons ?_
    refine de_name 1 ?_
    refine da_cons ?_
    refine de_name 4 ?_
    refine da_nil ?_
    refine ⟨_, _, _, _, rfl, hT, hL9, ?_⟩
    refine da_cons ?_
    refine de_B (call_reprW gd hr.units) n_repr bt_repr ?_
    refine da_cons ?_
    refine de_name 4 ?_
    refine da_nil ?_
    refine drc_reprW hsh ?_ (by omega) (by omega)
    refine da_nil ?_
    refine ⟨_, _, rfl, ?_⟩
    refine ds_nrm ?_
    refine ds_cons ?_
    refine ds_asg (h := ?_)
    refine de_lst ?_
    refine da_cons ?_
    refine de_call c_shows_loss gd (hr.mono (by decide)) ?_
    refine da_cons ?_
    refine de_name 1 ?_
    refine da_cons ?_
    refine de_name 4 ?_
    refine da_nil ?_
    refine ⟨_, _, _, _, rfl, hT, hL9, ?_⟩
    refine da_cons ?_
    refine de_callN (ks := ["value", "turn"]) c_shows_loss gd (hr.mono (by decide)) (by decide) ?_
    refine dk_cons (h := ?_)
    refine de_name 4 ?_
    refine dk_cons (h := ?_)
    refine de_name 1 ?_
    refine dk_nil ?_
    refine ⟨rfl, ?_⟩
    walk_at "ord"
    refine ⟨_, _, _, _, rfl, hT, hL9, ?_⟩
    refine da_nil ?_
    refine ⟨by walk_at "len", ?_⟩
    refine dg_name 7 ?_ sc__law_right.nd
    refine ds_cons ?_
    refine ds_if ?_
    refine dt_w ?_
    refine dw_or ?_
    refine dt_ne (hr.units) ?_
    refine de_B (call_reprW gd hr.units) n_repr bt_repr ?_
    refine da_cons ?_
    refine de_name 7 ?_
    refine da_nil ?_
    refine drc_reprW hsh1 ?_ (by omega) (by omega)
    refine de_B (call_reprW gd hr.units) n_repr bt_repr ?_
    refine da_cons ?_
    refine de_lst ?_
    refine da_cons ?_
    refine de_name 5 ?_
    refine da_cons ?_
    refine de_name 5 ?_
    refine da_nil ?_
    refine ⟨by walk_at "len", ?_⟩
    refine da_nil ?_
    refine drc_reprW hsh1 ?_ (by omega) (by omega)
    refine eq_strT rfl ?_
    refine ⟨fun hb => ?_, fun hb => ?_⟩
    · exact (nb hb rfl).elim
    refine dw_or1 ?_
    refine dt_ne (hr.units) ?_
    refine de_B (call_reprW gd hr.units) n_repr bt_repr ?_
    refine da_cons ?_
    refine de_name 4 ?_
    refine da_nil ?_
    refine drc_reprW hsh ?_ (by omega) (by omega)
    refine de_name 6 ?_
    refine eq_strT rfl ?_
    refine ⟨fun ht => ?_, fun ht => ?_⟩
    · exact (nb ht rfl).elim
    refine ds_nil ?_
    refine ds_nil ?_
    exact ⟨(), by walk_at "wk", rfl⟩
  subst hP1
  refine ds_cons ?_
  refine ds_ret ?_
  refine de_bl ?_
  exact qq _ (by assumption)
set_option maxHeartbeats 40000000 in
theorem ok__law_right_w1 {f : Addr} {fd : FuncData} (F : Fun K "_law_right" "_law_right" s__law_right f fd) {C_KeepsAll : Addr} (c__law_judged : Cal P w K mg base 4 "_law_judged" ["_law_spin_here", "_law_thing"] [] (con_judged P w K)) (c__law_things : Cal P w K mg base 3 "_law_things" ["_law_source_here", "_law_spin_here", "_law_loss_here"] [] (conTh P w K LossOf)) (c_a_loss : Cal P w K mg base 8 "a_loss" ["turn"] [(0, ["turn"])] con_aloss23) (c_shows_loss : Cal P w K mg base 8 "shows_loss" ["turn", "value"] [(0, ["value", "turn"])] (con_showsA P w K)) (n_abs : mg "abs" = none) (n_max : mg "max" = none) (n_repr : mg "repr" = none) (o_KeepsAll : OwnErr K mg "KeepsAll" C_KeepsAll) (r_a_loss : CalX P w K mg base 8 "a_loss" ["turn"] [(0, ["turn"])] (con_alossX C_KeepsAll)) : GOk P w K mg base 9 f fd ["_law_source_here", "_law_spin_here"] (spD K con_r23_1) := by
  refine gok_ds F sc__law_right (m := 6) rfl (fun ds S0 Q h => ?_) fun cdv A fr s0 H0 E0' gd hr ds S0 Q h => ?_
  · obtain ⟨_, _, _, _, _, _, rfl, _⟩ := h
    rfl
  obtain ⟨pp, p, q, k, l, m, rfl, hg, hS, hm, hT, hkp, qq⟩ := h
  have b1 := hT.bp
  have b2 := hT.bq
  have hc := cc_pos hT
  have blx : Bd 110 (lossX p q) := bd_lossX hT
  have z110 : Bd 110 (0 : Int) := by unfold Bd; decide
  have o110 : Bd 110 (1 : Int) := by unfold Bd; decide
  have hLs : LsT P w K (.tup [.str "bare", .tup [.int (lossX p q), .int 0]]) := lsT_t (fa_cons (lsE_pl (by decide +kernel)) (fa_cons (lsE_p (blx.up (by decide)) (z110.up (by decide))) fa_nil)) (by show 2 ≤ 4; decide)
  have hLo9 : LossOf p q k (.tup [.str "bare", .tup [.int (lossX p q), .int 0]]) := .inl ⟨_, _, rfl, blx.up (by decide), z110.up (by decide)⟩
  refine ds_nrm ?_ (by set_option simprocs false in dsimp only [List.map, List.replicate, List.cons_append, List.nil_append])
  refine ds_cons ?_
  refine ds_asg (h := ?_)
  refine de_non ?_
  refine dg_name 2 ?_ sc__law_right.nd
  refine ds_cons ?_
  refine ds_join (γ := Unit) (fun _ => [some (.raw (.ref pp)), some (.tup [.int p, .int q, .int k]), some (.tup [.str "bare", .tup [.int (lossX p q), .int 0]]), none, none, none, none, none]) (fun _ S' => S0 = S' ∧ bareB p q k (lossX p q) 0 = true) ?_ ?_
  · refine ds_try rfl rfl (.cons ⟨rfl, by decide, .inl o_KeepsAll.gC⟩ .nil) (fun pn8 xe8 => ?_)
    refine dsx_cons ?_
    refine dsx_asg (h := ?_)
    refine dex_call r_a_loss gd (hr.mono (by decide)) ?_
    refine dax_of ?_
    refine da_cons ?_
    refine de_name 1 ?_
    refine da_nil ?_
    refine ⟨_, _, _, rfl, hT, fun hk1 => absurd hk1 hkp, fun hk1 hbr => ?_⟩
    refine dg_name 2 ?_ sc__law_right.nd
    refine dsx_nil ?_
    exact ⟨(), by walk_at "wk", rfl, hbr⟩
  rintro _ _ ⟨rfl, hbr⟩
  refine ds_cons ?_
  refine ds_if ?_
  refine dt_ne (hr.units) ?_
  refine de_isN ?_
  refine de_name 2 ?_
  refine ⟨_, rfl, ?_⟩
  refine de_eq (hr.units) ?_
  refine de_ix (h := ?_)
  refine de_name 1 ?_
  refine de_int ?_
  walk_at "ix"
  refine de_add ?_
  refine de_B call_abs n_abs bt_abs ?_
  refine da_cons ?_
  refine de_ix (h := ?_)
  refine de_name 1 ?_
  refine de_int ?_
  walk_at "ix"
  refine da_nil ?_
  refine drc_abs ?_
  refine de_int ?_
  first | refine add_int ?_ | refine add_lst ?_ (by walk_at "len") | refine add_tup ?_ (by walk_at "len3") | refine add_scr ?_ (by walk_at "len") | refine (show addP (.str _) (.str _) _ _ from ⟨by decide +kernel, ?_⟩)
  refine eq_int ?_
  rw [decide_eq_false (show ¬ p = (if q < 0 then -q else q) + 1 from hkp)]
  refine eqP_same rfl rfl ?_
  refine ⟨fun ht => ?_, fun ht => ?_⟩
  · exact (nb ht rfl).elim
  refine ds_nil ?_
  refine ds_cons ?_
  refine ds_join (γ := Unit) (fun _ => [some (.raw (.ref pp)), some (.tup [.int p, .int q, .int k]), some (.tup [.str "bare", .tup [.int (lossX p q), .int 0]]), none, none, none, none, none]) (fun _ S' => S0 = S') ?_ ?_
  · refine ds_if ?_
    refine dt_isN ?_
    refine de_name 2 ?_
    refine ⟨_, rfl, ?_⟩
    refine ⟨fun ht => ?_, fun ht => ?_⟩
    · exact absurd ht (by decide)
    refine ds_cons ?_
    refine ds_if ?_
    refine dt_w ?_
    refine dw_or ?_
    refine dt_not ?_
    refine dt_val (h := ?_)
    refine de_call c__law_judged gd (hr.mono (by decide)) ?_
    refine da_cons ?_
    refine de_name 1 ?_
    refine da_cons ?_
    refine de_name 2 ?_
    refine da_nil ?_
    refine ⟨_, _, _, _, rfl, hT, hLs, ?_⟩
    rw [show lossD p q k (.tup [.str "bare", .tup [.int (lossX p q), .int 0]]) = true by rw [lossD_t, loss_bare_t]; exact hbr]
    refine ⟨_, rfl, ?_⟩
    refine ⟨fun hb => ?_, fun hb => ?_⟩
    · exact (nb hb rfl).elim
    refine dw_or1 ?_
    refine dt_ne (hr.units) ?_
    refine de_callN (ks := ["turn"]) c_a_loss gd (hr.mono (by decide)) (by decide) ?_
    refine dk_cons (h := ?_)
    refine de_name 1 ?_
    refine dk_nil ?_
    refine ⟨rfl, ?_⟩
    walk_at "ord"
    refine ⟨_, _, _, rfl, hT, hkp, fun hbr3 => ?_⟩
    refine de_name 2 ?_
    refine eqP_same rfl (fl_bare _ _) ?_
    refine ⟨fun ht => ?_, fun ht => ?_⟩
    · exact (nb ht rfl).elim
    refine ds_nil ?_
    refine ds_nil ?_
    exact ⟨(), by walk_at "wk", rfl⟩
  rintro _ _ rfl
  refine ds_cons ?_
  refine ds_if ?_
  refine dt_ne (hr.units) ?_
  refine de_lcIf 3 rfl sc__law_right.nd (blkOk_by (N := ["_law_source_here", "_law_spin_here", "_law_loss_here", "_law_dot_here", "_law_thing", "_law_due", "_law_kept", "_law_told"]) (sc := defScope s__law_right) (by decide +kernel)) ?_ (fun _ _ _ _ _ => pg_name sc__law_right.nd rfl (Or.inl rfl))
  refine di_tup ?_
  refine de_slice ?_
  refine de_name 2 ?_
  refine do_some ?_
  refine de_int ?_
  refine ⟨rfl, _, rfl, ?_⟩
  refine do_none ?_
  walk_at "slice"
  refine ⟨_, rfl, ?_⟩
  refine ⟨fun k acc S' => S0 = S' ∧ acc = [], ⟨rfl, rfl⟩, fun k9 d9 acc S' p9 hk hP hp hl s5 H5 C5 cl5 fp5 => ?_, by show 1 ≤ 100000; decide, fun acc S' hl hP => ?_⟩
  · obtain ⟨rfl, rfl⟩ := hP
    obtain ⟨a9, b9, rfl, ba9, bb9⟩ := ((fa_cons ⟨_, _, rfl, blx, z110⟩ fa_nil) : ∀ x ∈ _, ∃ a b : Int, x = .tup [.int a, .int b] ∧ Bd 110 a ∧ Bd 110 b) _ (List.mem_of_getElem? hk)
    refine dt_ge ?_
    refine de_B (call_max2 rfl) n_max bt_max ?_
    refine da_cons ?_
    refine de_B call_abs n_abs bt_abs ?_
    refine da_cons ?_
    refine de_ix (h := ?_)
    refine de_name 3 ?_
    refine de_int ?_
    walk_at "ix"
    refine da_nil ?_
    refine drc_abs ?_
    refine da_cons ?_
    refine de_B call_abs n_abs bt_abs ?_
    refine da_cons ?_
    refine de_ix (h := ?_)
    refine de_name 3 ?_
    refine de_int ?_
    walk_at "ix"
    refine da_nil ?_
    refine drc_abs ?_
    refine da_nil ?_
    refine drc_max ?_
    refine de_pow ?_
    refine de_int ?_
    refine de_int ?_
    refine ⟨_, _, rfl, rfl, (by walk_at "cpw"), ?_⟩
    refine ⟨_, _, rfl, rfl, ?_⟩
    refine ⟨_, rfl, fun ht => absurd (of_decide_eq_true ht) (far_60 ba9 bb9), fun ht => ⟨rfl, rfl⟩⟩
    skip
  obtain ⟨rfl, rfl⟩ := hP
  refine de_lst ?_
  refine da_nil ?_
  refine ⟨by walk_at "len", ?_⟩
  walk_at "eq"
  refine ⟨fun ht => ?_, fun ht => ?_⟩
  · exact absurd ht (by decide)
  refine ds_nil ?_
  refine ds_cons ?_
  refine ds_forG (γ := Unit) [4, 5, 6, 7] PassesOwn.never rfl ?_
  refine di_lst ?_
  refine de_call c__law_things gd (hr.mono (by decide)) ?_
  refine da_cons ?_
  refine de_name 0 ?_
  refine da_cons ?_
  refine de_name 1 ?_
  refine da_cons ?_
  refine de_name 2 ?_
  refine da_nil ?_
  refine ⟨_, _, _, _, _, _, _, rfl, (by walk_at "gets"), (by assumption), (by omega), hT, hLo9, fun ts4 l4 hts4 htl4 hs4 => ?_⟩
  walk_at "sets"
  refine ⟨_, rfl, ?_⟩
  refine ⟨fun _ => [], _, fun _ => (by dsimp only [putU, fgt, List.set]), fun i _ S' => setS pp l4 S0 = S', (), by walk_at "wk", rfl, fun i1 d1 g1 S1 hi1 hP1 => ?_, fun g1 S1 hP1 => ?_⟩
  · subst hP1
    have hL9 : LsT P w K d1 := hts4 d1 (List.mem_of_getElem? hi1)
    obtain ⟨t0, n0, m0, hsh, hn0, hm0⟩ := hL9.s
    obtain ⟨t1, n1, m1, hsh1, hn1, hm1⟩ := shw_b2 (P := P) (w := w) (K := K) (lossD p q k d1) (lossD p q k d1)
    refine dg_name 4 ?_ sc__law_right.nd
    refine ds_cons ?_
    refine ds_par (i := 5) (j := 6) rfl sc__law_right.nd rfl rfl (by decide) ?_
    refine da_cons ?_
    refine de_call c__law_judged gd (hr.mono (by decide)) ?_
    refine da_cons ?_
    refine de_name 1 ?_
    refine da_cons ?_
    refine de_name 4 ?_
    refine da_nil ?_
    refine ⟨_, _, _, _, rfl, hT, hL9, ?_⟩
    refine da_cons ?_
    refine de_B (call_reprW gd hr.units) n_repr bt_repr ?_
    refine da_cons ?_
    refine de_name 4 ?_
    refine da_nil ?_
    refine drc_reprW hsh ?_ (by omega) (by omega)
    refine da_nil ?_
    refine ⟨_, _, rfl, ?_⟩
    refine ds_nrm ?_
    refine ds_cons ?_
    refine ds_asg (h := ?_)
    refine de_lst ?_
    refine da_cons ?_
    refine de_call c_shows_loss gd (hr.mono (by decide)) ?_
    refine da_cons ?_
    refine de_name 1 ?_
    refine da_cons ?_
    refine de_name 4 ?_
    refine da_nil ?_
    refine ⟨_, _, _, _, rfl, hT, hL9, ?_⟩
    refine da_cons ?_
    refine de_callN (ks := ["value", "turn"]) c_shows_loss gd (hr.mono (by decide)) (by decide) ?_
    refine dk_cons (h := ?_)
    refine de_name 4 ?_
    refine dk_cons (h := ?_)
    refine de_name 1 ?_
    refine dk_nil ?_
    refine ⟨rfl, ?_⟩
    walk_at "ord"
    refine ⟨_, _, _, _, rfl, hT, hL9, ?_⟩
    refine da_nil ?_
    refine ⟨by walk_at "len", ?_⟩
    refine dg_name 7 ?_ sc__law_right.nd
    refine ds_cons ?_
    refine ds_if ?_
    refine dt_w ?_
    refine dw_or ?_
    refine dt_ne (hr.units) ?_
    refine de_B (call_reprW gd hr.units) n_repr bt_repr ?_
    refine da_cons ?_
    refine de_name 7 ?_
    refine da_nil ?_
    refine drc_reprW hsh1 ?_ (by omega) (by omega)
    refine de_B (call_reprW gd hr.units) n_repr bt_repr ?_
    refine da_cons ?_
    refine de_lst ?_
    refine da_cons ?_
    refine de_name 5 ?_
    refine da_cons ?_
    refine de_name 5 ?_
    refine da_nil ?_
    refine ⟨by walk_at "len", ?_⟩
    refine da_nil ?_
    refine drc_reprW hsh1 ?_ (by omega) (by omega)
    refine eq_strT rfl ?_
    refine ⟨fun hb => ?_, fun hb => ?_⟩
    · exact (nb hb rfl).elim
    refine dw_or1 ?_
    refine dt_ne (hr.units) ?_
    refine de_B (call_reprW gd hr.units) n_repr bt_repr ?_
    refine da_cons ?_
    refine de_name 4 ?_
    refine da_nil ?_
    refine drc_reprW hsh ?_ (by omega) (by omega)
    refine de_name 6 ?_
    refine eq_strT rfl ?_
    refine ⟨fun ht => ?_, fun ht => ?_⟩
    · exact (nb ht rfl).elim
    refine ds_nil ?_
    refine ds_nil ?_
    exact ⟨(), by walk_at "wk", rfl⟩
  subst hP1
  refine ds_cons ?_
  refine ds_ret ?_
  refine de_bl ?_
  exact qq _ (by assumption)
theorem ok__law_right {f : Addr} {fd : FuncData} (F : Fun K "_law_right" "_law_right" s__law_right f fd) {C_KeepsAll : Addr} (c__law_judged : Cal P w K mg base 4 "_law_judged" ["_law_spin_here", "_law_thing"] [] (con_judged P w K)) (c__law_things : Cal P w K mg base 3 "_law_things" ["_law_source_here", "_law_spin_here", "_law_loss_here"] [] (conTh P w K LossOf)) (c_a_loss : Cal P w K mg base 8 "a_loss" ["turn"] [(0, ["turn"])] con_aloss23) (c_shows_loss : Cal P w K mg base 8 "shows_loss" ["turn", "value"] [(0, ["value", "turn"])] (con_showsA P w K)) (m_KeepsAll__KeepsAll : PySem.W.exmOne K (.ref C_KeepsAll) (.ref C_KeepsAll) = some true) (n_abs : mg "abs" = none) (n_max : mg "max" = none) (n_repr : mg "repr" = none) (o_KeepsAll : OwnErr K mg "KeepsAll" C_KeepsAll) (r_a_loss : CalX P w K mg base 8 "a_loss" ["turn"] [(0, ["turn"])] (con_alossX C_KeepsAll)) : GOk P w K mg base 9 f fd ["_law_source_here", "_law_spin_here"] (spD K con_r23) := gok_two (ok__law_right_w0 F c__law_judged c__law_things c_shows_loss m_KeepsAll__KeepsAll n_abs n_max n_repr o_KeepsAll r_a_loss) (ok__law_right_w1 F c__law_judged c__law_things c_a_loss c_shows_loss n_abs n_max n_repr o_KeepsAll r_a_loss) fun ds S Q ⟨pp, p, q, k, l, m, e, h1, h2, h3, h4, h6⟩ => (Classical.em (keepsP p q)).imp (fun z => ⟨pp, p, q, k, l, m, e, h1, h2, h3, h4, z, h6⟩) (fun z => ⟨pp, p, q, k, l, m, e, h1, h2, h3, h4, z, h6⟩)
abbrev s_law : Stmt := top 50
theorem sc_law : FnScope ["_law_script", "_law_k", "_law_entry", "_law_source_here", "_law_most", "_law_top", "_law_spin_here", "_law_told"] ["_law_script"] (defScope s_law) := ⟨rfl, rfl, rfl, by decide +kernel, rfl, by decide +kernel, by decide +kernel⟩
set_option maxHeartbeats 40000000 in
theorem ok_law {f : Addr} {fd : FuncData} (F : Fun K "law" "law" s_law f fd) (c__law_judged : Cal P w K mg base 4 "_law_judged" ["_law_spin_here", "_law_thing"] [] (con_judged P w K)) (c__law_right : Cal P w K mg base 9 "_law_right" ["_law_source_here", "_law_spin_here"] [] con_r23) (c__law_source : Cal P w K mg base 1 "_law_source" ["_law_entry", "_law_k"] [] con_source) (c__law_spin : Cal P w K mg base 2 "_law_spin" ["_law_source_here", "_law_most"] [] con_spin) (c_a_loss : Cal P w K mg base 8 "a_loss" ["turn"] [(0, ["turn"])] con_aloss23) (c_shows_loss : Cal P w K mg base 8 "shows_loss" ["turn", "value"] [(0, ["value", "turn"])] (con_showsA P w K)) (n_enumerate : mg "enumerate" = none) (n_len : mg "len" = none) (n_max : mg "max" = none) (n_min : mg "min" = none) : GOk P w K mg base 10 f fd ["_law_script"] (spD K (conLaw 63)) := by
  refine gok_ds F sc_law (m := 7) rfl (fun ds S0 Q h => ?_) fun cdv A fr s0 H0 E0' gd hr ds S0 Q h => ?_
  · obtain ⟨_, _, rfl, _⟩ := h
    rfl
  obtain ⟨ns, hns, rfl, rfl, qq⟩ := h
  refine ds_nrm ?_ (by set_option simprocs false in dsimp only [List.map, List.replicate, List.cons_append, List.nil_append])
  refine ds_cons ?_
  refine ds_forG (γ := Unit) [1, 2, 3, 4] PassesOwn.never rfl ?_
  refine di_enum n_enumerate ?_
  refine da_cons ?_
  refine de_slice ?_
  refine de_add ?_
  refine de_name 0 ?_
  refine de_lst ?_
  refine da_cons ?_
  refine de_int ?_
  refine da_nil ?_
  refine ⟨by walk_at "len", ?_⟩
  first | refine add_int ?_ | refine add_lst ?_ (by walk_at "len") | refine add_tup ?_ (by walk_at "len3") | refine add_scr ?_ (by walk_at "len") | refine (show addP (.str _) (.str _) _ _ from ⟨by decide +kernel, ?_⟩)
  refine do_none ?_
  refine do_some ?_
  refine de_B (call_max2 rfl) n_max bt_max ?_
  refine da_cons ?_
  refine de_int ?_
  refine da_cons ?_
  refine de_B (call_min2 rfl) n_min bt_min ?_
  refine da_cons ?_
  refine de_B call_len_seq n_len bt_len ?_
  refine da_cons ?_
  refine de_name 0 ?_
  refine da_nil ?_
  refine drc_len ?_
  walk_at "lenP"
  refine da_cons ?_
  refine de_int ?_
  refine da_nil ?_
  refine drc_min ?_
  refine da_nil ?_
  refine drc_max ?_
  refine ⟨rfl, _, rfl, ?_⟩
  walk_at "slice"
  refine da_nil ?_
  refine ⟨_, rfl, ?_⟩
  refine ⟨fun _ => [], _, fun _ => (by dsimp only [putU, fgt, List.set]), fun i _ S' => [] = S', (), by walk_at "wk", rfl, fun i1 d1 g1 S1 hi1 hP1 => ?_, fun g1 S1 hP1 => ?_⟩
  · subst hP1
    obtain ⟨hi64, e, rfl⟩ := scr_turn (by refine ⟨?_, ?_⟩ <;> split <;> (try split) <;> omega) hi1
    first | refine dg_tup rfl rfl ?_ | refine dg_tupL rfl rfl ?_ (fun h => pg_lst rfl h)
    refine dgs_cons (h := ?_)
    refine dg_name 1 ?_ sc_law.nd
    refine dgs_cons (h := ?_)
    refine dg_name 2 ?_ sc_law.nd
    refine dgs_nil ?_
    refine ds_cons ?_
    refine ds_asg (h := ?_)
    refine de_call c__law_source gd (hr.mono (by decide)) ?_
    refine da_cons ?_
    refine de_name 2 ?_
    refine da_cons ?_
    refine de_name 1 ?_
    refine da_nil ?_
    refine ⟨_, _, rfl, (by walk_at "rng"), fun p1 l1 hp1 hs1 => ?_⟩
    refine dg_name 3 ?_ sc_law.nd
    refine ds_cons ?_
    refine ds_forG (γ := Unit) [4] PassesOwn.never rfl ?_
    refine di_tup ?_
    refine de_tup ?_
    refine da_cons ?_
    refine de_int ?_
    refine da_cons ?_
    refine de_int ?_
    refine da_cons ?_
    refine de_pow ?_
    refine de_int ?_
    refine de_int ?_
    refine ⟨_, _, rfl, rfl, (by walk_at "cpw"), ?_⟩
    refine da_nil ?_
    refine ⟨by walk_at "len", ?_⟩
    refine ⟨_, rfl, ?_⟩
    refine ⟨fun _ => [], _, fun _ => (by dsimp only [putU, fgt, List.set]), fun i _ S' => ∃ l, [(p1, l)] = S' ∧ Src (1000 * i) l, (), by walk_at "wk", ⟨l1, rfl, hs1⟩, fun i2 d2 g2 S2 hi2 hP2 => ?_, fun g2 S2 hP2 => ?_⟩
    · obtain ⟨l0, rfl, hs0⟩ := hP2
      have hi6 : i2 < 3 := (List.getElem?_eq_some_iff.mp hi2).1
      obtain ⟨mq, rfl, hmq0, hmq1⟩ := ((fa_cons ⟨_, rfl, by decide +kernel, by decide +kernel⟩ (fa_cons ⟨_, rfl, by decide +kernel, by decide +kernel⟩ (fa_cons ⟨_, rfl, by decide +kernel, by decide +kernel⟩ fa_nil))) : ∀ x ∈ _, ∃ m : Int, x = .int m ∧ 1 ≤ m ∧ m ≤ 1000000000000000) _ (List.mem_of_getElem? hi2)
      refine dg_name 4 ?_ sc_law.nd
      refine ds_cons ?_
      refine ds_if ?_
      refine dt_not ?_
      refine dt_val (h := ?_)
      refine de_call c__law_right gd (hr.mono (by decide)) ?_
      refine da_cons ?_
      refine de_name 3 ?_
      refine da_cons ?_
      refine de_call c__law_spin gd (hr.mono (by decide)) ?_
      refine da_cons ?_
      refine de_name 3 ?_
      refine da_cons ?_
      refine de_name 4 ?_
      refine da_nil ?_
      refine ⟨_, _, _, _, rfl, (by walk_at "gets"), (by assumption), (by walk_at "m"), (by walk_at "pos"), (by walk_at "pos"), fun p3 q3 k3 l3 ht3 hm3 hs3 => ?_⟩
      have bp3 := ht3.bp
      have bq3 := ht3.bq
      have bk3 := tn_b3 ht3
      walk_at "sets"
      refine da_nil ?_
      refine ⟨_, _, _, _, _, _, rfl, (by walk_at "gets"), (by assumption), (by omega), (by walk_at "tn"), fun l2 hs2 => ?_⟩
      walk_at "sets"
      refine ⟨_, rfl, ?_⟩
      refine ⟨fun ht => ?_, fun ht => ?_⟩
      · exact (nb ht rfl).elim
      refine ds_nil ?_
      refine ds_nil ?_
      exact ⟨(), by walk_at "wk", _, rfl, (by assumption : Src (_ + 2) _).up (by omega)⟩
    obtain ⟨l7, rfl, hs7⟩ := hP2
    refine ds_forget ?_ rfl
    refine ds_nil ?_
    exact ⟨(), by walk_at "wk", rfl⟩
  subst hP1
  refine ds_cons ?_
  refine ds_asg (h := ?_)
  refine de_pow ?_
  refine de_int ?_
  refine de_int ?_
  refine ⟨_, _, rfl, rfl, (by walk_at "cpw"), ?_⟩
  refine dg_name 5 ?_ sc_law.nd
  refine ds_cons ?_
  refine ds_forG (γ := Unit) [6] PassesOwn.never rfl ?_
  refine di_lst ?_
  refine de_lst ?_
  refine da_cons ?_
  refine de_tup ?_
  refine da_cons ?_
  refine de_name 5 ?_
  refine da_cons ?_
  refine de_int ?_
  refine da_cons ?_
  refine de_int ?_
  refine da_nil ?_
  refine ⟨by walk_at "len", ?_⟩
  refine da_cons ?_
  refine de_tup ?_
  refine da_cons ?_
  refine de_name 5 ?_
  refine da_cons ?_
  refine de_neg ?_
  refine de_int ?_
  refine ⟨_, rfl, ?_⟩
  refine da_cons ?_
  refine de_int ?_
  refine da_nil ?_
  refine ⟨by walk_at "len", ?_⟩
  refine da_cons ?_
  refine de_tup ?_
  refine da_cons ?_
  refine de_name 5 ?_
  refine da_cons ?_
  refine de_sub ?_
  refine de_name 5 ?_
  refine de_int ?_
  refine ⟨_, _, rfl, rfl, ?_⟩
  refine da_cons ?_
  refine de_int ?_
  refine da_nil ?_
  refine ⟨by walk_at "len", ?_⟩
  refine da_cons ?_
  refine de_tup ?_
  refine da_cons ?_
  refine de_name 5 ?_
  refine da_cons ?_
  refine de_sub ?_
  refine de_int ?_
  refine de_name 5 ?_
  refine ⟨_, _, rfl, rfl, ?_⟩
  refine da_cons ?_
  refine de_int ?_
  refine da_nil ?_
  refine ⟨by walk_at "len", ?_⟩
  refine da_cons ?_
  refine de_tup ?_
  refine da_cons ?_
  refine de_int ?_
  refine da_cons ?_
  refine de_int ?_
  refine da_cons ?_
  refine de_int ?_
  refine da_nil ?_
  refine ⟨by walk_at "len", ?_⟩
  refine da_nil ?_
  refine ⟨by walk_at "len", ?_⟩
  refine ⟨_, rfl, ?_⟩
  refine ⟨fun _ => [], _, fun _ => (by dsimp only [putU, fgt, List.set]), fun i _ S' => ([] : Sto) = S', (), by walk_at "wk", rfl, fun i3 d3 g3 S3 hi3 hP3 => ?_, fun g3 S3 hP3 => ?_⟩
  · subst hP3
    obtain ⟨p9, q9, k9, rfl, hT9, hnk9⟩ := ((fa_cons ⟨_, _, _, rfl, ⟨by decide +kernel, by decide +kernel, by decide +kernel, by decide +kernel, by decide +kernel, by decide +kernel, by decide +kernel, by decide +kernel⟩, by unfold keepsP; decide +kernel⟩ (fa_cons ⟨_, _, _, rfl, ⟨by decide +kernel, by decide +kernel, by decide +kernel, by decide +kernel, by decide +kernel, by decide +kernel, by decide +kernel, by decide +kernel⟩, by unfold keepsP; decide +kernel⟩ (fa_cons ⟨_, _, _, rfl, ⟨by decide +kernel, by decide +kernel, by decide +kernel, by decide +kernel, by decide +kernel, by decide +kernel, by decide +kernel, by decide +kernel⟩, by unfold keepsP; decide +kernel⟩ (fa_cons ⟨_, _, _, rfl, ⟨by decide +kernel, by decide +kernel, by decide +kernel, by decide +kernel, by decide +kernel, by decide +kernel, by decide +kernel, by decide +kernel⟩, by unfold keepsP; decide +kernel⟩ (fa_cons ⟨_, _, _, rfl, ⟨by decide +kernel, by decide +kernel, by decide +kernel, by decide +kernel, by decide +kernel, by decide +kernel, by decide +kernel, by decide +kernel⟩, by unfold keepsP; decide +kernel⟩ fa_nil))))) : ∀ x ∈ _, ∃ p q k : Int, x = .tup [.int p, .int q, .int k] ∧ Tn p q k ∧ ¬ keepsP p q) _ (List.mem_of_getElem? hi3)
    have b19 := hT9.bp
    have b29 := hT9.bq
    refine dg_name 6 ?_ sc_law.nd
    refine ds_cons ?_
    refine ds_if ?_
    refine dt_not ?_
    refine dt_val (h := ?_)
    refine de_call c__law_judged gd (hr.mono (by decide)) ?_
    refine da_cons ?_
    refine de_name 6 ?_
    refine da_cons ?_
    refine de_call c_a_loss gd (hr.mono (by decide)) ?_
    refine da_cons ?_
    refine de_name 6 ?_
    refine da_nil ?_
    refine ⟨p9, q9, k9, rfl, hT9, hnk9, fun hbr => ?_⟩
    refine da_nil ?_
    refine ⟨p9, q9, k9, _, rfl, hT9, lsT_t (fa_cons (lsE_pl (by decide +kernel)) (fa_cons (lsE_p ((bd_lossX hT9).up (by decide)) (by unfold Bd; decide +kernel)) fa_nil)) (by show 2 ≤ 4; decide), ?_⟩
    rw [show lossD p9 q9 k9 (.tup [.str "bare", .tup [.int (lossX p9 q9), .int 0]]) = true by rw [lossD_t, loss_bare_t]; exact hbr]
    refine ⟨_, rfl, ?_⟩
    refine ⟨fun ht => ?_, fun ht => ?_⟩
    · exact (nb ht rfl).elim
    refine ds_nil ?_
    refine ds_nil ?_
    exact ⟨(), by walk_at "wk", rfl⟩
  subst hP3
  refine ds_cons ?_
  refine ds_asg (h := ?_)
  refine de_lst ?_
  refine da_cons ?_
  refine de_call c_shows_loss gd (hr.mono (by decide)) ?_
  refine da_cons ?_
  refine de_tup ?_
  refine da_cons ?_
  refine de_int ?_
  refine da_cons ?_
  refine de_int ?_
  refine da_cons ?_
  refine de_int ?_
  refine da_nil ?_
  refine ⟨by walk_at "len", ?_⟩
  refine da_cons ?_
  refine de_tup ?_
  refine da_cons ?_
  refine de_str ?_
  refine da_cons ?_
  refine de_tup ?_
  refine da_cons ?_
  refine de_int ?_
  refine da_cons ?_
  refine de_int ?_
  refine da_nil ?_
  refine ⟨by walk_at "len", ?_⟩
  refine da_nil ?_
  refine ⟨by walk_at "len", ?_⟩
  refine da_nil ?_
  refine ⟨4, 1, 0, _, rfl, ⟨by decide +kernel, by decide +kernel, by decide +kernel, by decide +kernel, by decide +kernel, by decide +kernel, by decide +kernel, by decide +kernel⟩, lsT_t (fa_cons (lsE_pl (by decide +kernel)) (fa_cons (lsE_p (by unfold Bd; decide +kernel) (by unfold Bd; decide +kernel)) fa_nil)) (by show 2 ≤ 4; decide), ?_⟩
  rw [show lossD 4 1 0 (.tup [.str "bare", .tup [.int 3, .int 2]]) = true by decide +kernel]
  refine da_cons ?_
  refine de_call c_shows_loss gd (hr.mono (by decide)) ?_
  refine da_cons ?_
  refine de_tup ?_
  refine da_cons ?_
  refine de_int ?_
  refine da_cons ?_
  refine de_int ?_
  refine da_cons ?_
  refine de_int ?_
  refine da_nil ?_
  refine ⟨by walk_at "len", ?_⟩
  refine da_cons ?_
  refine de_tup ?_
  refine da_cons ?_
  refine de_str ?_
  refine da_cons ?_
  refine de_tup ?_
  refine da_cons ?_
  refine de_int ?_
  refine da_cons ?_
  refine de_int ?_
  refine da_nil ?_
  refine ⟨by walk_at "len", ?_⟩
  refine da_cons ?_
  refine de_tup ?_
  refine da_cons ?_
  refine de_int ?_
  refine da_cons ?_
  refine de_int ?_
  refine da_nil ?_
  refine ⟨by walk_at "len", ?_⟩
  refine da_nil ?_
  refine ⟨by walk_at "len", ?_⟩
  refine da_nil ?_
  refine ⟨4, 1, 0, _, rfl, ⟨by decide +kernel, by decide +kernel, by decide +kernel, by decide +kernel, by decide +kernel, by decide +kernel, by decide +kernel, by decide +kernel⟩, lsT_t (fa_cons (lsE_pl (by decide +kernel)) (fa_cons (lsE_p (by unfold Bd; decide +kernel) (by unfold Bd; decide +kernel)) (fa_cons (lsE_p (by unfold Bd; decide +kernel) (by unfold Bd; decide +kernel)) fa_nil))) (by show 3 ≤ 4; decide), ?_⟩
  rw [show lossD 4 1 0 (.tup [.str "meet", .tup [.int 5, .int 0], .tup [.int 4, .int 0]]) = false by decide +kernel]
  refine da_nil ?_
  refine ⟨by walk_at "len", ?_⟩
  refine dg_name 7 ?_ sc_law.nd
  refine ds_cons ?_
  refine ds_ret ?_
  refine de_eq (hr.units) ?_
  refine de_add ?_
  refine de_name 7 ?_
  refine de_lst ?_
  refine da_cons ?_
  refine de_call c_shows_loss gd (hr.mono (by decide)) ?_
  refine da_cons ?_
  refine de_tup ?_
  refine da_cons ?_
  refine de_int ?_
  refine da_cons ?_
  refine de_int ?_
  refine da_cons ?_
  refine de_int ?_
  refine da_nil ?_
  refine ⟨by walk_at "len", ?_⟩
  refine da_cons ?_
  refine de_tup ?_
  refine da_cons ?_
  refine de_str ?_
  refine da_cons ?_
  refine de_tup ?_
  refine da_cons ?_
  refine de_int ?_
  refine da_cons ?_
  refine de_int ?_
  refine da_nil ?_
  refine ⟨by walk_at "len", ?_⟩
  refine da_cons ?_
  refine de_tup ?_
  refine da_cons ?_
  refine de_int ?_
  refine da_cons ?_
  refine de_int ?_
  refine da_nil ?_
  refine ⟨by walk_at "len", ?_⟩
  refine da_nil ?_
  refine ⟨by walk_at "len", ?_⟩
  refine da_nil ?_
  refine ⟨4, 1, 0, _, rfl, ⟨by decide +kernel, by decide +kernel, by decide +kernel, by decide +kernel, by decide +kernel, by decide +kernel, by decide +kernel, by decide +kernel⟩, lsT_t (fa_cons (lsE_pl (by decide +kernel)) (fa_cons (lsE_p (by unfold Bd; decide +kernel) (by unfold Bd; decide +kernel)) (fa_cons (lsE_p (by unfold Bd; decide +kernel) (by unfold Bd; decide +kernel)) fa_nil))) (by show 3 ≤ 4; decide), ?_⟩
  rw [show lossD 4 1 0 (.tup [.str "meet", .tup [.int 4, .int 0], .tup [.int 5, .int 0]]) = true by decide +kernel]
  refine da_nil ?_
  refine ⟨by walk_at "len", ?_⟩
  first | refine add_int ?_ | refine add_lst ?_ (by walk_at "len") | refine add_tup ?_ (by walk_at "len3") | refine add_scr ?_ (by walk_at "len") | refine (show addP (.str _) (.str _) _ _ from ⟨by decide +kernel, ?_⟩)
  refine de_lst ?_
  refine da_cons ?_
  refine de_bl ?_
  refine da_cons ?_
  refine de_bl ?_
  refine da_cons ?_
  refine de_bl ?_
  refine da_nil ?_
  refine ⟨by walk_at "len", ?_⟩
  refine eqP_same rfl rfl ?_
  exact qq
end
theorem all_mk {l : PySem.W.OpenLaw} {w : World} {K : PySem.W.Frag} {h : Heap} {mg : Str → Option Value} {fa f0 f1 f2 f3 f4 f5 f6 f7 f8 f9 f10 f11 f12 f13 f14 f15 f16 f17 f18 f19 f20 f21 f22 f23 f24 f25 f26 f27 f28 f29 f30 f31 f32 f33 f34 f35 f36 : Addr} (X : K.In h) (G : h.Ns mainGlobals mg) (hfa : mg "law" = some (.ref fa))
    {od0 an0 od1 an1 od2 an2 od3 an3 od4 an4 od5 an5 od6 an6 od7 an7 od8 an8 od9 an9 od10 an10 od11 an11 od12 an12 od13 an13 od14 an14 od15 an15 od16 an16 od17 an17 od18 an18 od19 an19 od20 an20 od21 an21 od22 an22 od23 an23 od24 an24 od25 an25 od26 an26 od27 an27 od28 an28 od29 an29 od30 an30 od31 an31 od32 an32 od33 an33 od34 an34 od35 an35 od36 an36 : Option Addr} {sl0 sl1 sl2 sl3 sl4 sl5 sl6 sl7 sl8 sl9 sl10 sl11 sl12 sl13 sl14 sl15 sl16 sl17 sl18 sl19 sl20 sl21 sl22 sl23 sl24 sl25 sl26 sl27 sl28 sl29 sl30 sl31 sl32 sl33 sl34 sl35 sl36 : Array (Option Value)} {oc0 kV0 dc0 pm0 cd0 ct0 oc1 kV1 dc1 pm1 cd1 ct1 oc2 kV2 dc2 pm2 cd2 ct2 oc3 kV3 dc3 pm3 cd3 ct3 oc4 kV4 dc4 pm4 cd4 ct4 oc5 kV5 dc5 pm5 cd5 ct5 oc6 kV6 dc6 pm6 cd6 ct6 oc7 kV7 dc7 pm7 cd7 ct7 oc8 kV8 dc8 pm8 cd8 ct8 oc9 kV9 dc9 pm9 cd9 ct9 oc10 kV10 dc10 pm10 cd10 ct10 oc11 kV11 dc11 pm11 cd11 ct11 oc12 kV12 dc12 pm12 cd12 ct12 oc13 kV13 dc13 pm13 cd13 ct13 oc14 kV14 dc14 pm14 cd14 ct14 oc15 kV15 dc15 pm15 cd15 ct15 oc16 kV16 dc16 pm16 cd16 ct16 oc17 kV17 dc17 pm17 cd17 ct17 oc18 kV18 dc18 pm18 cd18 ct18 oc19 kV19 dc19 pm19 cd19 ct19 oc20 kV20 dc20 pm20 cd20 ct20 oc21 kV21 dc21 pm21 cd21 ct21 oc22 kV22 dc22 pm22 cd22 ct22 oc23 kV23 dc23 pm23 cd23 ct23 oc24 kV24 dc24 pm24 cd24 ct24 oc25 kV25 dc25 pm25 cd25 ct25 oc26 kV26 dc26 pm26 cd26 ct26 oc27 kV27 dc27 pm27 cd27 ct27 oc28 kV28 dc28 pm28 cd28 ct28 oc29 kV29 dc29 pm29 cd29 ct29 oc30 kV30 dc30 pm30 cd30 ct30 oc31 kV31 dc31 pm31 cd31 ct31 oc32 kV32 dc32 pm32 cd32 ct32 oc33 kV33 dc33 pm33 cd33 ct33 oc34 kV34 dc34 pm34 cd34 ct34 oc35 kV35 dc35 pm35 cd35 ct35 oc36 kV36 dc36 pm36 cd36 ct36 : Value}
    {C_InvalidPixel C_InvalidTurn C_KeepsAll : Addr}
    (a0 : PySem.W.nsIn K mainGlobals "is_whole" = some (some (.ref f0))) (l0 : K.lookup f0 = some ⟨oc0, od0, .func (PySem.W.fnOf "is_whole" "is_whole" (defArgs s_is_whole) (defBody s_is_whole) (defScope s_is_whole) .none kV0 dc0 pm0 an0 cd0 ct0), sl0⟩) (c0 : PySem.W.codeIn K cd0 "is_whole" = true) (k0 : PySem.W.keepIn K (.ref f0) = true)
    (a1 : PySem.W.nsIn K mainGlobals "is_whole_tuple" = some (some (.ref f1))) (l1 : K.lookup f1 = some ⟨oc1, od1, .func (PySem.W.fnOf "is_whole_tuple" "is_whole_tuple" (defArgs s_is_whole_tuple) (defBody s_is_whole_tuple) (defScope s_is_whole_tuple) .none kV1 dc1 pm1 an1 cd1 ct1), sl1⟩) (c1 : PySem.W.codeIn K cd1 "is_whole_tuple" = true) (k1 : PySem.W.keepIn K (.ref f1) = true)
    (a2 : PySem.W.nsIn K mainGlobals "is_pixel" = some (some (.ref f2))) (l2 : K.lookup f2 = some ⟨oc2, od2, .func (PySem.W.fnOf "is_pixel" "is_pixel" (defArgs s_is_pixel) (defBody s_is_pixel) (defScope s_is_pixel) .none kV2 dc2 pm2 an2 cd2 ct2), sl2⟩) (c2 : PySem.W.codeIn K cd2 "is_pixel" = true) (k2 : PySem.W.keepIn K (.ref f2) = true)
    (a3 : PySem.W.nsIn K mainGlobals "is_turn" = some (some (.ref f3))) (l3 : K.lookup f3 = some ⟨oc3, od3, .func (PySem.W.fnOf "is_turn" "is_turn" (defArgs s_is_turn) (defBody s_is_turn) (defScope s_is_turn) .none kV3 dc3 pm3 an3 cd3 ct3), sl3⟩) (c3 : PySem.W.codeIn K cd3 "is_turn" = true) (k3 : PySem.W.keepIn K (.ref f3) = true)
    (a4 : PySem.W.nsIn K mainGlobals "check_pixel" = some (some (.ref f4))) (l4 : K.lookup f4 = some ⟨oc4, od4, .func (PySem.W.fnOf "check_pixel" "check_pixel" (defArgs s_check_pixel) (defBody s_check_pixel) (defScope s_check_pixel) .none kV4 dc4 pm4 an4 cd4 ct4), sl4⟩) (c4 : PySem.W.codeIn K cd4 "check_pixel" = true) (k4 : PySem.W.keepIn K (.ref f4) = true)
    (a5 : PySem.W.nsIn K mainGlobals "check_turn" = some (some (.ref f5))) (l5 : K.lookup f5 = some ⟨oc5, od5, .func (PySem.W.fnOf "check_turn" "check_turn" (defArgs s_check_turn) (defBody s_check_turn) (defScope s_check_turn) .none kV5 dc5 pm5 an5 cd5 ct5), sl5⟩) (c5 : PySem.W.codeIn K cd5 "check_turn" = true) (k5 : PySem.W.keepIn K (.ref f5) = true)
    (a6 : PySem.W.nsIn K mainGlobals "nearest" = some (some (.ref f6))) (l6 : K.lookup f6 = some ⟨oc6, od6, .func (PySem.W.fnOf "nearest" "nearest" (defArgs s_nearest) (defBody s_nearest) (defScope s_nearest) .none kV6 dc6 pm6 an6 cd6 ct6), sl6⟩) (c6 : PySem.W.codeIn K cd6 "nearest" = true) (k6 : PySem.W.keepIn K (.ref f6) = true)
    (a7 : PySem.W.nsIn K mainGlobals "times" = some (some (.ref f7))) (l7 : K.lookup f7 = some ⟨oc7, od7, .func (PySem.W.fnOf "times" "times" (defArgs s_times) (defBody s_times) (defScope s_times) .none kV7 dc7 pm7 an7 cd7 ct7), sl7⟩) (c7 : PySem.W.codeIn K cd7 "times" = true) (k7 : PySem.W.keepIn K (.ref f7) = true)
    (a8 : PySem.W.nsIn K mainGlobals "legs_of" = some (some (.ref f8))) (l8 : K.lookup f8 = some ⟨oc8, od8, .func (PySem.W.fnOf "legs_of" "legs_of" (defArgs s_legs_of) (defBody s_legs_of) (defScope s_legs_of) .none kV8 dc8 pm8 an8 cd8 ct8), sl8⟩) (c8 : PySem.W.codeIn K cd8 "legs_of" = true) (k8 : PySem.W.keepIn K (.ref f8) = true)
    (a9 : PySem.W.nsIn K mainGlobals "exact_place" = some (some (.ref f9))) (l9 : K.lookup f9 = some ⟨oc9, od9, .func (PySem.W.fnOf "exact_place" "exact_place" (defArgs s_exact_place) (defBody s_exact_place) (defScope s_exact_place) .none kV9 dc9 pm9 an9 cd9 ct9), sl9⟩) (c9 : PySem.W.codeIn K cd9 "exact_place" = true) (k9 : PySem.W.keepIn K (.ref f9) = true)
    (a10 : PySem.W.nsIn K mainGlobals "image" = some (some (.ref f10))) (l10 : K.lookup f10 = some ⟨oc10, od10, .func (PySem.W.fnOf "image" "image" (defArgs s_image) (defBody s_image) (defScope s_image) .none kV10 dc10 pm10 an10 cd10 ct10), sl10⟩) (c10 : PySem.W.codeIn K cd10 "image" = true) (k10 : PySem.W.keepIn K (.ref f10) = true)
    (a11 : PySem.W.nsIn K mainGlobals "back" = some (some (.ref f11))) (l11 : K.lookup f11 = some ⟨oc11, od11, .func (PySem.W.fnOf "back" "back" (defArgs s_back) (defBody s_back) (defScope s_back) .none kV11 dc11 pm11 an11 cd11 ct11), sl11⟩) (c11 : PySem.W.codeIn K cd11 "back" = true) (k11 : PySem.W.keepIn K (.ref f11) = true)
    (a12 : PySem.W.nsIn K mainGlobals "_law_source" = some (some (.ref f12))) (l12 : K.lookup f12 = some ⟨oc12, od12, .func (PySem.W.fnOf "_law_source" "_law_source" (defArgs s__law_source) (defBody s__law_source) (defScope s__law_source) .none kV12 dc12 pm12 an12 cd12 ct12), sl12⟩) (c12 : PySem.W.codeIn K cd12 "_law_source" = true) (k12 : PySem.W.keepIn K (.ref f12) = true)
    (a13 : PySem.W.nsIn K mainGlobals "_law_draw" = some (some (.ref f13))) (l13 : K.lookup f13 = some ⟨oc13, od13, .func (PySem.W.fnOf "_law_draw" "_law_draw" (defArgs s__law_draw) (defBody s__law_draw) (defScope s__law_draw) .none kV13 dc13 pm13 an13 cd13 ct13), sl13⟩) (c13 : PySem.W.codeIn K cd13 "_law_draw" = true) (k13 : PySem.W.keepIn K (.ref f13) = true)
    (a14 : PySem.W.nsIn K mainGlobals "_law_common" = some (some (.ref f14))) (l14 : K.lookup f14 = some ⟨oc14, od14, .func (PySem.W.fnOf "_law_common" "_law_common" (defArgs s__law_common) (defBody s__law_common) (defScope s__law_common) .none kV14 dc14 pm14 an14 cd14 ct14), sl14⟩) (c14 : PySem.W.codeIn K cd14 "_law_common" = true) (k14 : PySem.W.keepIn K (.ref f14) = true)
    (a15 : PySem.W.nsIn K mainGlobals "_law_spin" = some (some (.ref f15))) (l15 : K.lookup f15 = some ⟨oc15, od15, .func (PySem.W.fnOf "_law_spin" "_law_spin" (defArgs s__law_spin) (defBody s__law_spin) (defScope s__law_spin) .none kV15 dc15 pm15 an15 cd15 ct15), sl15⟩) (c15 : PySem.W.codeIn K cd15 "_law_spin" = true) (k15 : PySem.W.keepIn K (.ref f15) = true)
    (a16 : PySem.W.nsIn K mainGlobals "_law_dot" = some (some (.ref f16))) (l16 : K.lookup f16 = some ⟨oc16, od16, .func (PySem.W.fnOf "_law_dot" "_law_dot" (defArgs s__law_dot) (defBody s__law_dot) (defScope s__law_dot) .none kV16 dc16 pm16 an16 cd16 ct16), sl16⟩) (c16 : PySem.W.codeIn K cd16 "_law_dot" = true) (k16 : PySem.W.keepIn K (.ref f16) = true)
    (a17 : PySem.W.nsIn K mainGlobals "_law_times" = some (some (.ref f17))) (l17 : K.lookup f17 = some ⟨oc17, od17, .func (PySem.W.fnOf "_law_times" "_law_times" (defArgs s__law_times) (defBody s__law_times) (defScope s__law_times) .none kV17 dc17 pm17 an17 cd17 ct17), sl17⟩) (c17 : PySem.W.codeIn K cd17 "_law_times" = true) (k17 : PySem.W.keepIn K (.ref f17) = true)
    (a18 : PySem.W.nsIn K mainGlobals "_law_legs" = some (some (.ref f18))) (l18 : K.lookup f18 = some ⟨oc18, od18, .func (PySem.W.fnOf "_law_legs" "_law_legs" (defArgs s__law_legs) (defBody s__law_legs) (defScope s__law_legs) .none kV18 dc18 pm18 an18 cd18 ct18), sl18⟩) (c18 : PySem.W.codeIn K cd18 "_law_legs" = true) (k18 : PySem.W.keepIn K (.ref f18) = true)
    (a19 : PySem.W.nsIn K mainGlobals "_law_close" = some (some (.ref f19))) (l19 : K.lookup f19 = some ⟨oc19, od19, .func (PySem.W.fnOf "_law_close" "_law_close" (defArgs s__law_close) (defBody s__law_close) (defScope s__law_close) .none kV19 dc19 pm19 an19 cd19 ct19), sl19⟩) (c19 : PySem.W.codeIn K cd19 "_law_close" = true) (k19 : PySem.W.keepIn K (.ref f19) = true)
    (a20 : PySem.W.nsIn K mainGlobals "_law_seen" = some (some (.ref f20))) (l20 : K.lookup f20 = some ⟨oc20, od20, .func (PySem.W.fnOf "_law_seen" "_law_seen" (defArgs s__law_seen) (defBody s__law_seen) (defScope s__law_seen) .none kV20 dc20 pm20 an20 cd20 ct20), sl20⟩) (c20 : PySem.W.codeIn K cd20 "_law_seen" = true) (k20 : PySem.W.keepIn K (.ref f20) = true)
    (a21 : PySem.W.nsIn K mainGlobals "is_rest" = some (some (.ref f21))) (l21 : K.lookup f21 = some ⟨oc21, od21, .func (PySem.W.fnOf "is_rest" "is_rest" (defArgs s_is_rest) (defBody s_is_rest) (defScope s_is_rest) .none kV21 dc21 pm21 an21 cd21 ct21), sl21⟩) (c21 : PySem.W.codeIn K cd21 "is_rest" = true) (k21 : PySem.W.keepIn K (.ref f21) = true)
    (a22 : PySem.W.nsIn K mainGlobals "_check_rest" = some (some (.ref f22))) (l22 : K.lookup f22 = some ⟨oc22, od22, .func (PySem.W.fnOf "_check_rest" "_check_rest" (defArgs s__check_rest) (defBody s__check_rest) (defScope s__check_rest) .none kV22 dc22 pm22 an22 cd22 ct22), sl22⟩) (c22 : PySem.W.codeIn K cd22 "_check_rest" = true) (k22 : PySem.W.keepIn K (.ref f22) = true)
    (a23 : PySem.W.nsIn K mainGlobals "inverse" = some (some (.ref f23))) (l23 : K.lookup f23 = some ⟨oc23, od23, .func (PySem.W.fnOf "inverse" "inverse" (defArgs s_inverse) (defBody s_inverse) (defScope s_inverse) .none kV23 dc23 pm23 an23 cd23 ct23), sl23⟩) (c23 : PySem.W.codeIn K cd23 "inverse" = true) (k23 : PySem.W.keepIn K (.ref f23) = true)
    (a24 : PySem.W.nsIn K mainGlobals "first_with" = some (some (.ref f24))) (l24 : K.lookup f24 = some ⟨oc24, od24, .func (PySem.W.fnOf "first_with" "first_with" (defArgs s_first_with) (defBody s_first_with) (defScope s_first_with) .none kV24 dc24 pm24 an24 cd24 ct24), sl24⟩) (c24 : PySem.W.codeIn K cd24 "first_with" = true) (k24 : PySem.W.keepIn K (.ref f24) = true)
    (a25 : PySem.W.nsIn K mainGlobals "_gap_of" = some (some (.ref f25))) (l25 : K.lookup f25 = some ⟨oc25, od25, .func (PySem.W.fnOf "_gap_of" "_gap_of" (defArgs s__gap_of) (defBody s__gap_of) (defScope s__gap_of) .none kV25 dc25 pm25 an25 cd25 ct25), sl25⟩) (c25 : PySem.W.codeIn K cd25 "_gap_of" = true) (k25 : PySem.W.keepIn K (.ref f25) = true)
    (a26 : PySem.W.nsIn K mainGlobals "_lies_in_gap" = some (some (.ref f26))) (l26 : K.lookup f26 = some ⟨oc26, od26, .func (PySem.W.fnOf "_lies_in_gap" "_lies_in_gap" (defArgs s__lies_in_gap) (defBody s__lies_in_gap) (defScope s__lies_in_gap) .none kV26 dc26 pm26 an26 cd26 ct26), sl26⟩) (c26 : PySem.W.codeIn K cd26 "_lies_in_gap" = true) (k26 : PySem.W.keepIn K (.ref f26) = true)
    (a27 : PySem.W.nsIn K mainGlobals "is_bare" = some (some (.ref f27))) (l27 : K.lookup f27 = some ⟨oc27, od27, .func (PySem.W.fnOf "is_bare" "is_bare" (defArgs s_is_bare) (defBody s_is_bare) (defScope s_is_bare) .none kV27 dc27 pm27 an27 cd27 ct27), sl27⟩) (c27 : PySem.W.codeIn K cd27 "is_bare" = true) (k27 : PySem.W.keepIn K (.ref f27) = true)
    (a28 : PySem.W.nsIn K mainGlobals "_law_tried" = some (some (.ref f28))) (l28 : K.lookup f28 = some ⟨oc28, od28, .func (PySem.W.fnOf "_law_tried" "_law_tried" (defArgs s__law_tried) (defBody s__law_tried) (defScope s__law_tried) .none kV28 dc28 pm28 an28 cd28 ct28), sl28⟩) (c28 : PySem.W.codeIn K cd28 "_law_tried" = true) (k28 : PySem.W.keepIn K (.ref f28) = true)
    (a29 : PySem.W.nsIn K mainGlobals "keeps_all" = some (some (.ref f29))) (l29 : K.lookup f29 = some ⟨oc29, od29, .func (PySem.W.fnOf "keeps_all" "keeps_all" (defArgs s_keeps_all) (defBody s_keeps_all) (defScope s_keeps_all) .none kV29 dc29 pm29 an29 cd29 ct29), sl29⟩) (c29 : PySem.W.codeIn K cd29 "keeps_all" = true) (k29 : PySem.W.keepIn K (.ref f29) = true)
    (a30 : PySem.W.nsIn K mainGlobals "a_loss" = some (some (.ref f30))) (l30 : K.lookup f30 = some ⟨oc30, od30, .func (PySem.W.fnOf "a_loss" "a_loss" (defArgs s_a_loss) (defBody s_a_loss) (defScope s_a_loss) .none kV30 dc30 pm30 an30 cd30 ct30), sl30⟩) (c30 : PySem.W.codeIn K cd30 "a_loss" = true) (k30 : PySem.W.keepIn K (.ref f30) = true)
    (a31 : PySem.W.nsIn K mainGlobals "shows_loss" = some (some (.ref f31))) (l31 : K.lookup f31 = some ⟨oc31, od31, .func (PySem.W.fnOf "shows_loss" "shows_loss" (defArgs s_shows_loss) (defBody s_shows_loss) (defScope s_shows_loss) .none kV31 dc31 pm31 an31 cd31 ct31), sl31⟩) (c31 : PySem.W.codeIn K cd31 "shows_loss" = true) (k31 : PySem.W.keepIn K (.ref f31) = true)
    (a32 : PySem.W.nsIn K mainGlobals "_law_is_dot" = some (some (.ref f32))) (l32 : K.lookup f32 = some ⟨oc32, od32, .func (PySem.W.fnOf "_law_is_dot" "_law_is_dot" (defArgs s__law_is_dot) (defBody s__law_is_dot) (defScope s__law_is_dot) .none kV32 dc32 pm32 an32 cd32 ct32), sl32⟩) (c32 : PySem.W.codeIn K cd32 "_law_is_dot" = true) (k32 : PySem.W.keepIn K (.ref f32) = true)
    (a33 : PySem.W.nsIn K mainGlobals "_law_judged" = some (some (.ref f33))) (l33 : K.lookup f33 = some ⟨oc33, od33, .func (PySem.W.fnOf "_law_judged" "_law_judged" (defArgs s__law_judged) (defBody s__law_judged) (defScope s__law_judged) .none kV33 dc33 pm33 an33 cd33 ct33), sl33⟩) (c33 : PySem.W.codeIn K cd33 "_law_judged" = true) (k33 : PySem.W.keepIn K (.ref f33) = true)
    (a34 : PySem.W.nsIn K mainGlobals "_law_things" = some (some (.ref f34))) (l34 : K.lookup f34 = some ⟨oc34, od34, .func (PySem.W.fnOf "_law_things" "_law_things" (defArgs s__law_things) (defBody s__law_things) (defScope s__law_things) .none kV34 dc34 pm34 an34 cd34 ct34), sl34⟩) (c34 : PySem.W.codeIn K cd34 "_law_things" = true) (k34 : PySem.W.keepIn K (.ref f34) = true)
    (a35 : PySem.W.nsIn K mainGlobals "_law_right" = some (some (.ref f35))) (l35 : K.lookup f35 = some ⟨oc35, od35, .func (PySem.W.fnOf "_law_right" "_law_right" (defArgs s__law_right) (defBody s__law_right) (defScope s__law_right) .none kV35 dc35 pm35 an35 cd35 ct35), sl35⟩) (c35 : PySem.W.codeIn K cd35 "_law_right" = true) (k35 : PySem.W.keepIn K (.ref f35) = true)
    (a36 : PySem.W.nsIn K mainGlobals "law" = some (some (.ref f36))) (l36 : K.lookup f36 = some ⟨oc36, od36, .func (PySem.W.fnOf "law" "law" (defArgs s_law) (defBody s_law) (defScope s_law) .none kV36 dc36 pm36 an36 cd36 ct36), sl36⟩) (c36 : PySem.W.codeIn K cd36 "law" = true) (k36 : PySem.W.keepIn K (.ref f36) = true)
    (z_abs : PySem.W.nsIn K mainGlobals "abs" = some none)
    (z_all : PySem.W.nsIn K mainGlobals "all" = some none)
    (z_bool : PySem.W.nsIn K mainGlobals "bool" = some none)
    (z_enumerate : PySem.W.nsIn K mainGlobals "enumerate" = some none)
    (z_int : PySem.W.nsIn K mainGlobals "int" = some none)
    (z_isinstance : PySem.W.nsIn K mainGlobals "isinstance" = some none)
    (z_len : PySem.W.nsIn K mainGlobals "len" = some none)
    (z_list : PySem.W.nsIn K mainGlobals "list" = some none)
    (z_max : PySem.W.nsIn K mainGlobals "max" = some none)
    (z_min : PySem.W.nsIn K mainGlobals "min" = some none)
    (z_range : PySem.W.nsIn K mainGlobals "range" = some none)
    (z_repr : PySem.W.nsIn K mainGlobals "repr" = some none)
    (z_sorted : PySem.W.nsIn K mainGlobals "sorted" = some none)
    (z_str : PySem.W.nsIn K mainGlobals "str" = some none)
    (z_tuple : PySem.W.nsIn K mainGlobals "tuple" = some none)
    (y_gcd : PySem.W.nsIn K mainGlobals "gcd" = some (some (.builtin "math.gcd")))
    (x_GREATEST_P : ∃ u, mg "GREATEST_P" = some (.int (1000000000000000) u))
    (eA_InvalidPixel : PySem.W.nsIn K mainGlobals "InvalidPixel" = some (some (.ref C_InvalidPixel)))
    (eK_InvalidPixel : PySem.W.keepIn K (.ref C_InvalidPixel) = true)
    (eQ_InvalidPixel : PySem.W.excIn K C_InvalidPixel [.type "ValueError", .type "Exception", .type "BaseException", .type "object"] "ValueError.__new__" = true)
    (eX_InvalidPixel : PySem.W.subIn K (.ref C_InvalidPixel) (.type "BaseException") = some true)
    (eT_InvalidPixel : PySem.W.typeIn K (.ref C_InvalidPixel) = some (.type "type"))
    (eA_InvalidTurn : PySem.W.nsIn K mainGlobals "InvalidTurn" = some (some (.ref C_InvalidTurn)))
    (eK_InvalidTurn : PySem.W.keepIn K (.ref C_InvalidTurn) = true)
    (eQ_InvalidTurn : PySem.W.excIn K C_InvalidTurn [.type "ValueError", .type "Exception", .type "BaseException", .type "object"] "ValueError.__new__" = true)
    (eX_InvalidTurn : PySem.W.subIn K (.ref C_InvalidTurn) (.type "BaseException") = some true)
    (eT_InvalidTurn : PySem.W.typeIn K (.ref C_InvalidTurn) = some (.type "type"))
    (eA_KeepsAll : PySem.W.nsIn K mainGlobals "KeepsAll" = some (some (.ref C_KeepsAll)))
    (eK_KeepsAll : PySem.W.keepIn K (.ref C_KeepsAll) = true)
    (eQ_KeepsAll : PySem.W.excIn K C_KeepsAll [.type "ValueError", .type "Exception", .type "BaseException", .type "object"] "ValueError.__new__" = true)
    (eX_KeepsAll : PySem.W.subIn K (.ref C_KeepsAll) (.type "BaseException") = some true)
    (eT_KeepsAll : PySem.W.typeIn K (.ref C_KeepsAll) = some (.type "type"))
    (eC_KeepsAll : PySem.W.isClsIn K C_KeepsAll = true)
    (w_KeepsAll__KeepsAll : PySem.W.subIn K (.ref C_KeepsAll) (.ref C_KeepsAll) = some true)
    : ∃ fd : FuncData, (∀ (s : Shared) (v : Value), BindsTo s fd ⟨[v], []⟩ [("_law_script", v)]) ∧ ∀ base : Heap, K.In base → base.Ns mainGlobals mg → GOk l.prog w K mg base 10 fa fd ["_law_script"] (spD K (conLaw 63)) := by
  have e := hfa.symm.trans (PySem.W.mg_of X G a36)
  cases e
  have F0 := fun_mk (st := s_is_whole) l0 c0 k0
  have F1 := fun_mk (st := s_is_whole_tuple) l1 c1 k1
  have F2 := fun_mk (st := s_is_pixel) l2 c2 k2
  have F3 := fun_mk (st := s_is_turn) l3 c3 k3
  have F4 := fun_mk (st := s_check_pixel) l4 c4 k4
  have F5 := fun_mk (st := s_check_turn) l5 c5 k5
  have F6 := fun_mk (st := s_nearest) l6 c6 k6
  have F7 := fun_mk (st := s_times) l7 c7 k7
  have F8 := fun_mk (st := s_legs_of) l8 c8 k8
  have F9 := fun_mk (st := s_exact_place) l9 c9 k9
  have F10 := fun_mk (st := s_image) l10 c10 k10
  have F11 := fun_mk (st := s_back) l11 c11 k11
  have F12 := fun_mk (st := s__law_source) l12 c12 k12
  have F13 := fun_mk (st := s__law_draw) l13 c13 k13
  have F14 := fun_mk (st := s__law_common) l14 c14 k14
  have F15 := fun_mk (st := s__law_spin) l15 c15 k15
  have F16 := fun_mk (st := s__law_dot) l16 c16 k16
  have F17 := fun_mk (st := s__law_times) l17 c17 k17
  have F18 := fun_mk (st := s__law_legs) l18 c18 k18
  have F19 := fun_mk (st := s__law_close) l19 c19 k19
  have F20 := fun_mk (st := s__law_seen) l20 c20 k20
  have F21 := fun_mk (st := s_is_rest) l21 c21 k21
  have F22 := fun_mk (st := s__check_rest) l22 c22 k22
  have F23 := fun_mk (st := s_inverse) l23 c23 k23
  have F24 := fun_mk (st := s_first_with) l24 c24 k24
  have F25 := fun_mk (st := s__gap_of) l25 c25 k25
  have F26 := fun_mk (st := s__lies_in_gap) l26 c26 k26
  have F27 := fun_mk (st := s_is_bare) l27 c27 k27
  have F28 := fun_mk (st := s__law_tried) l28 c28 k28
  have F29 := fun_mk (st := s_keeps_all) l29 c29 k29
  have F30 := fun_mk (st := s_a_loss) l30 c30 k30
  have F31 := fun_mk (st := s_shows_loss) l31 c31 k31
  have F32 := fun_mk (st := s__law_is_dot) l32 c32 k32
  have F33 := fun_mk (st := s__law_judged) l33 c33 k33
  have F34 := fun_mk (st := s__law_things) l34 c34 k34
  have F35 := fun_mk (st := s__law_right) l35 c35 k35
  have F36 := fun_mk (st := s_law) l36 c36 k36
  have n_abs := PySem.W.mg_none_of X G z_abs
  have n_all := PySem.W.mg_none_of X G z_all
  have n_bool := PySem.W.mg_none_of X G z_bool
  have n_enumerate := PySem.W.mg_none_of X G z_enumerate
  have n_int := PySem.W.mg_none_of X G z_int
  have n_isinstance := PySem.W.mg_none_of X G z_isinstance
  have n_len := PySem.W.mg_none_of X G z_len
  have n_list := PySem.W.mg_none_of X G z_list
  have n_max := PySem.W.mg_none_of X G z_max
  have n_min := PySem.W.mg_none_of X G z_min
  have n_range := PySem.W.mg_none_of X G z_range
  have n_repr := PySem.W.mg_none_of X G z_repr
  have n_sorted := PySem.W.mg_none_of X G z_sorted
  have n_str := PySem.W.mg_none_of X G z_str
  have n_tuple := PySem.W.mg_none_of X G z_tuple
  have b_gcd := PySem.W.mg_of X G y_gcd
  have g_GREATEST_P := x_GREATEST_P
  have o_InvalidPixel : OwnErr K mg "InvalidPixel" C_InvalidPixel := ⟨PySem.W.mg_of X G eA_InvalidPixel, eK_InvalidPixel, eQ_InvalidPixel, eX_InvalidPixel, eT_InvalidPixel⟩
  have o_InvalidTurn : OwnErr K mg "InvalidTurn" C_InvalidTurn := ⟨PySem.W.mg_of X G eA_InvalidTurn, eK_InvalidTurn, eQ_InvalidTurn, eX_InvalidTurn, eT_InvalidTurn⟩
  have o_KeepsAll : OwnErr K mg "KeepsAll" C_KeepsAll := ⟨PySem.W.mg_of X G eA_KeepsAll, eK_KeepsAll, eQ_KeepsAll, eX_KeepsAll, eT_KeepsAll⟩
  have m_KeepsAll__KeepsAll := exm_two eX_KeepsAll eC_KeepsAll eT_KeepsAll w_KeepsAll__KeepsAll
  refine ⟨PySem.W.fnOf "law" "law" (defArgs s_law) (defBody s_law) (defScope s_law) .none kV36 dc36 pm36 an36 cd36 ct36, fun s v => .of_eq rfl, fun base _ _ => ?_⟩
  have c_is_whole := cal_of (kws := []) F0 (ok_is_whole (P := l.prog) (w := w) (base := base) F0 n_bool n_int n_isinstance) (PySem.W.mg_of X G a0) (bargs_of F0 fun _ _ _ _ _ _ us hl => match us, hl with | [_], _ => rfl) (fun _ h => nomatch h)
  have c_is_whole_tuple := cal_of (kws := []) F1 (ok_is_whole_tuple (P := l.prog) (w := w) (base := base) F1 c_is_whole n_all n_isinstance n_len n_tuple) (PySem.W.mg_of X G a1) (bargs_of F1 fun _ _ _ _ _ _ us hl => match us, hl with | [_, _], _ => rfl) (fun _ h => nomatch h)
  have c_is_pixel := cal_of (kws := []) F2 (ok_is_pixel (P := l.prog) (w := w) (base := base) F2 c_is_whole_tuple) (PySem.W.mg_of X G a2) (bargs_of F2 fun _ _ _ _ _ _ us hl => match us, hl with | [_], _ => rfl) (fun _ h => nomatch h)
  have c_is_turn := cal_of (kws := []) F3 (ok_is_turn (P := l.prog) (w := w) (base := base) F3 b_gcd c_is_whole_tuple g_GREATEST_P n_abs) (PySem.W.mg_of X G a3) (bargs_of F3 fun _ _ _ _ _ _ us hl => match us, hl with | [_], _ => rfl) (fun _ h => nomatch h)
  have c_check_pixel := cal_of (kws := []) F4 (ok_check_pixel (P := l.prog) (w := w) (base := base) F4 c_is_pixel) (PySem.W.mg_of X G a4) (bargs_of F4 fun _ _ _ _ _ _ us hl => match us, hl with | [_], _ => rfl) (fun _ h => nomatch h)
  have c_check_turn := cal_of (kws := []) F5 (ok_check_turn (P := l.prog) (w := w) (base := base) F5 c_is_turn) (PySem.W.mg_of X G a5) (bargs_of F5 fun _ _ _ _ _ _ us hl => match us, hl with | [_], _ => rfl) (fun _ h => nomatch h)
  have r_check_pixel := calx_of (kws := []) F4 (okx_check_pixel (P := l.prog) (w := w) (base := base) F4 c_is_pixel o_InvalidPixel) (PySem.W.mg_of X G a4) (bargs_of F4 fun _ _ _ _ _ _ us hl => match us, hl with | [_], _ => rfl) (fun _ h => nomatch h)
  have r_check_turn := calx_of (kws := []) F5 (okx_check_turn (P := l.prog) (w := w) (base := base) F5 c_is_turn o_InvalidTurn) (PySem.W.mg_of X G a5) (bargs_of F5 fun _ _ _ _ _ _ us hl => match us, hl with | [_], _ => rfl) (fun _ h => nomatch h)
  have c_nearest := cal_of (kws := []) F6 (ok_nearest (P := l.prog) (w := w) (base := base) F6 ) (PySem.W.mg_of X G a6) (bargs_of F6 fun _ _ _ _ _ _ us hl => match us, hl with | [_, _], _ => rfl) (fun _ h => nomatch h)
  have c_times := cal_of (kws := []) F7 (ok_times (P := l.prog) (w := w) (base := base) F7 ) (PySem.W.mg_of X G a7) (bargs_of F7 fun _ _ _ _ _ _ us hl => match us, hl with | [_, _], _ => rfl) (fun _ h => nomatch h)
  have c_legs_of := cal_of (kws := []) F8 (ok_legs_of (P := l.prog) (w := w) (base := base) F8 c_check_turn c_times n_range) (PySem.W.mg_of X G a8) (bargs_of F8 fun _ _ _ _ _ _ us hl => match us, hl with | [_], _ => rfl) (fun _ h => nomatch h)
  have c_exact_place := cal_of (kws := []) F9 (ok_exact_place (P := l.prog) (w := w) (base := base) F9 c_check_pixel c_check_turn c_legs_of c_times) (PySem.W.mg_of X G a9) (bargs_of F9 fun _ _ _ _ _ _ us hl => match us, hl with | [_, _], _ => rfl) (fun _ h => nomatch h)
  have c_image := cal_of (kws := []) F10 (ok_image (P := l.prog) (w := w) (base := base) F10 c_exact_place c_nearest) (PySem.W.mg_of X G a10) (bargs_of F10 fun _ _ _ _ _ _ us hl => match us, hl with | [_, _], _ => rfl) (fun _ h => nomatch h)
  have c_back := cal_of (kws := []) F11 (ok_back (P := l.prog) (w := w) (base := base) F11 c_check_turn) (PySem.W.mg_of X G a11) (bargs_of F11 fun _ _ _ _ _ _ us hl => match us, hl with | [_], _ => rfl) (fun _ h => nomatch h)
  have c__law_source := cal_of (kws := []) F12 (ok__law_source (P := l.prog) (w := w) (base := base) F12 n_abs n_int n_max) (PySem.W.mg_of X G a12) (bargs_of F12 fun _ _ _ _ _ _ us hl => match us, hl with | [_, _], _ => rfl) (fun _ h => nomatch h)
  have c__law_draw := cal_of (kws := []) F13 (ok__law_draw (P := l.prog) (w := w) (base := base) F13 n_int) (PySem.W.mg_of X G a13) (bargs_of F13 fun _ _ _ _ _ _ us hl => match us, hl with | [_, _], _ => rfl) (fun _ h => nomatch h)
  have c__law_common := cal_of (kws := []) F14 (ok__law_common (P := l.prog) (w := w) (base := base) F14 n_abs n_int) (PySem.W.mg_of X G a14) (bargs_of F14 fun _ _ _ _ _ _ us hl => match us, hl with | [_, _], _ => rfl) (fun _ h => nomatch h)
  have c__law_spin := cal_of (kws := []) F15 (ok__law_spin (P := l.prog) (w := w) (base := base) F15 c__law_common c__law_draw n_int n_max n_min) (PySem.W.mg_of X G a15) (bargs_of F15 fun _ _ _ _ _ _ us hl => match us, hl with | [_, _], _ => rfl) (fun _ h => nomatch h)
  have c__law_dot := cal_of (kws := []) F16 (ok__law_dot (P := l.prog) (w := w) (base := base) F16 c__law_draw n_range n_tuple) (PySem.W.mg_of X G a16) (bargs_of F16 fun _ _ _ _ _ _ us hl => match us, hl with | [_, _], _ => rfl) (fun _ h => nomatch h)
  have c__law_times := cal_of (kws := []) F17 (ok__law_times (P := l.prog) (w := w) (base := base) F17 ) (PySem.W.mg_of X G a17) (bargs_of F17 fun _ _ _ _ _ _ us hl => match us, hl with | [_, _], _ => rfl) (fun _ h => nomatch h)
  have c__law_legs := cal_of (kws := []) F18 (ok__law_legs (P := l.prog) (w := w) (base := base) F18 ) (PySem.W.mg_of X G a18) (bargs_of F18 fun _ _ _ _ _ _ us hl => match us, hl with | [_], _ => rfl) (fun _ h => nomatch h)
  have c__law_close := cal_of (kws := []) F19 (ok__law_close (P := l.prog) (w := w) (base := base) F19 ) (PySem.W.mg_of X G a19) (bargs_of F19 fun _ _ _ _ _ _ us hl => match us, hl with | [_, _], _ => rfl) (fun _ h => nomatch h)
  have c__law_seen := cal_of (kws := []) F20 (ok__law_seen (P := l.prog) (w := w) (base := base) F20 c__law_close c__law_legs c__law_times n_range) (PySem.W.mg_of X G a20) (bargs_of F20 fun _ _ _ _ _ _ us hl => match us, hl with | [_, _], _ => rfl) (fun _ h => nomatch h)
  have c_is_rest := cal_of (kws := []) F21 (ok_is_rest (P := l.prog) (w := w) (base := base) F21 c_check_turn c_is_whole_tuple c_times n_abs) (PySem.W.mg_of X G a21) (bargs_of F21 fun _ _ _ _ _ _ us hl => match us, hl with | [_, _], _ => rfl) (fun _ h => nomatch h)
  have c__check_rest := cal_of (kws := []) F22 (ok__check_rest (P := l.prog) (w := w) (base := base) F22 c_is_rest) (PySem.W.mg_of X G a22) (bargs_of F22 fun _ _ _ _ _ _ us hl => match us, hl with | [_, _], _ => rfl) (fun _ h => nomatch h)
  have c_inverse := cal_of (kws := []) F23 (ok_inverse (P := l.prog) (w := w) (base := base) F23 ) (PySem.W.mg_of X G a23) (bargs_of F23 fun _ _ _ _ _ _ us hl => match us, hl with | [_, _], _ => rfl) (fun _ h => nomatch h)
  have c_first_with := cal_of (kws := []) F24 (ok_first_with (P := l.prog) (w := w) (base := base) F24 c__check_rest c_check_turn c_inverse c_times) (PySem.W.mg_of X G a24) (bargs_of F24 fun _ _ _ _ _ _ us hl => match us, hl with | [_, _], _ => rfl) (fun _ h => nomatch h)
  have c__gap_of := cal_of (kws := []) F25 (ok__gap_of (P := l.prog) (w := w) (base := base) F25 n_abs) (PySem.W.mg_of X G a25) (bargs_of F25 fun _ _ _ _ _ _ us hl => match us, hl with | [_], _ => rfl) (fun _ h => nomatch h)
  have c__lies_in_gap := cal_of (kws := []) F26 (ok__lies_in_gap (P := l.prog) (w := w) (base := base) F26 n_abs) (PySem.W.mg_of X G a26) (bargs_of F26 fun _ _ _ _ _ _ us hl => match us, hl with | [_, _, _], _ => rfl) (fun _ h => nomatch h)
  have c_is_bare := cal_of (kws := []) F27 (ok_is_bare (P := l.prog) (w := w) (base := base) F27 c__gap_of c__lies_in_gap c_check_pixel c_check_turn c_legs_of) (PySem.W.mg_of X G a27) (bargs_of F27 fun _ _ _ _ _ _ us hl => match us, hl with | [_, _], _ => rfl) (fun _ h => nomatch h)
  have c__law_tried := cal_of (kws := []) F28 (ok__law_tried (P := l.prog) (w := w) (base := base) F28 c__law_seen n_int n_range n_sorted) (PySem.W.mg_of X G a28) (bargs_of F28 fun _ _ _ _ _ _ us hl => match us, hl with | [_, _], _ => rfl) (fun _ h => nomatch h)
  have c_keeps_all := cal_of (kws := []) F29 (ok_keeps_all (P := l.prog) (w := w) (base := base) F29 c_check_turn n_abs) (PySem.W.mg_of X G a29) (bargs_of F29 fun _ _ _ _ _ _ us hl => match us, hl with | [_], _ => rfl) (fun _ h => nomatch h)
  have c_a_loss := cal_of (kws := [(0, ["turn"])]) F30 (ok_a_loss (P := l.prog) (w := w) (base := base) F30 c_back c_first_with c_keeps_all) (PySem.W.mg_of X G a30) (bargs_of F30 fun _ _ _ _ _ _ us hl => match us, hl with | [_], _ => rfl) (kws_cons (kw_of F30 rfl (by decide) fun _ _ _ _ _ _ us ws h1 h2 => match us, ws, h1, h2 with | [], [_], _, _ => rfl) (fun _ h => nomatch h))
  have r_a_loss := calx_of (kws := [(0, ["turn"])]) F30 (okx_a_loss (P := l.prog) (w := w) (base := base) F30 c_back c_first_with c_keeps_all o_KeepsAll) (PySem.W.mg_of X G a30) (bargs_of F30 fun _ _ _ _ _ _ us hl => match us, hl with | [_], _ => rfl) (kws_cons (kw_of F30 rfl (by decide) fun _ _ _ _ _ _ us ws h1 h2 => match us, ws, h1, h2 with | [], [_], _, _ => rfl) (fun _ h => nomatch h))
  have c_shows_loss := cal_of (kws := [(0, ["value", "turn"])]) F31 (ok_shows_loss (P := l.prog) (w := w) (base := base) F31 c_check_turn c_image c_is_bare c_is_pixel n_isinstance n_len n_tuple) (PySem.W.mg_of X G a31) (bargs_of F31 fun _ _ _ _ _ _ us hl => match us, hl with | [_, _], _ => rfl) (kws_cons (kw_of F31 rfl (by decide) fun _ _ _ _ _ _ us ws h1 h2 => match us, ws, h1, h2 with | [], [_, _], _, _ => rfl) (fun _ h => nomatch h))
  have c__law_is_dot := cal_of (kws := []) F32 (ok__law_is_dot (P := l.prog) (w := w) (base := base) F32 n_bool n_int n_isinstance n_len n_tuple) (PySem.W.mg_of X G a32) (bargs_of F32 fun _ _ _ _ _ _ us hl => match us, hl with | [_], _ => rfl) (fun _ h => nomatch h)
  have c__law_judged := cal_of (kws := []) F33 (ok__law_judged (P := l.prog) (w := w) (base := base) F33 c__law_is_dot c__law_seen c__law_tried n_isinstance n_len n_str n_tuple) (PySem.W.mg_of X G a33) (bargs_of F33 fun _ _ _ _ _ _ us hl => match us, hl with | [_, _], _ => rfl) (fun _ h => nomatch h)
  have c__law_things := cal_of (kws := []) F34 (ok__law_things (P := l.prog) (w := w) (base := base) F34 c__law_dot c__law_seen c__law_times n_list) (PySem.W.mg_of X G a34) (bargs_of F34 fun _ _ _ _ _ _ us hl => match us, hl with | [_, _, _], _ => rfl) (fun _ h => nomatch h)
  have c__law_right := cal_of (kws := []) F35 (ok__law_right (P := l.prog) (w := w) (base := base) F35 c__law_judged c__law_things c_a_loss c_shows_loss m_KeepsAll__KeepsAll n_abs n_max n_repr o_KeepsAll r_a_loss) (PySem.W.mg_of X G a35) (bargs_of F35 fun _ _ _ _ _ _ us hl => match us, hl with | [_, _], _ => rfl) (fun _ h => nomatch h)
  exact ok_law (P := l.prog) (w := w) (base := base) F36 c__law_judged c__law_right c__law_source c__law_spin c_a_loss c_shows_loss n_enumerate n_len n_max n_min
end Tp
set_option maxRecDepth 100000 in
set_option maxHeartbeats 0 in
theorem PySem.Challenge.cw_turnedpixels_k23_losses_judged_and_told_holds : PySem.Challenge.rw_turnedpixels_k23_losses_judged_and_told.Holds := by
  w_on; o_law; k_head; (case hw => w_witness2)
  k_fill
  refine DL.law_end (l := PySem.Challenge.rw_turnedpixels_k23_losses_judged_and_told) (n := 63) (k := 10) (x := "_law_script") rfl (by decide) rfl ⟨rfl, by decide, by decide⟩ (fun w h Y => PySem.W.kIn_of Y) ?F
  case F =>
    intro w mg fa h KX G hmg
    refine' Tp.all_mk KX G hmg ?a0 ?l0 ?c0 ?k0 ?a1 ?l1 ?c1 ?k1 ?a2 ?l2 ?c2 ?k2 ?a3 ?l3 ?c3 ?k3 ?a4 ?l4 ?c4 ?k4 ?a5 ?l5 ?c5 ?k5 ?a6 ?l6 ?c6 ?k6 ?a7 ?l7 ?c7 ?k7 ?a8 ?l8 ?c8 ?k8 ?a9 ?l9 ?c9 ?k9 ?a10 ?l10 ?c10 ?k10 ?a11 ?l11 ?c11 ?k11 ?a12 ?l12 ?c12 ?k12 ?a13 ?l13 ?c13 ?k13 ?a14 ?l14 ?c14 ?k14 ?a15 ?l15 ?c15 ?k15 ?a16 ?l16 ?c16 ?k16 ?a17 ?l17 ?c17 ?k17 ?a18 ?l18 ?c18 ?k18 ?a19 ?l19 ?c19 ?k19 ?a20 ?l20 ?c20 ?k20 ?a21 ?l21 ?c21 ?k21 ?a22 ?l22 ?c22 ?k22 ?a23 ?l23 ?c23 ?k23 ?a24 ?l24 ?c24 ?k24 ?a25 ?l25 ?c25 ?k25 ?a26 ?l26 ?c26 ?k26 ?a27 ?l27 ?c27 ?k27 ?a28 ?l28 ?c28 ?k28 ?a29 ?l29 ?c29 ?k29 ?a30 ?l30 ?c30 ?k30 ?a31 ?l31 ?c31 ?k31 ?a32 ?l32 ?c32 ?k32 ?a33 ?l33 ?c33 ?k33 ?a34 ?l34 ?c34 ?k34 ?a35 ?l35 ?c35 ?k35 ?a36 ?l36 ?c36 ?k36 ?z_abs ?z_all ?z_bool ?z_enumerate ?z_int ?z_isinstance ?z_len ?z_list ?z_max ?z_min ?z_range ?z_repr ?z_sorted ?z_str ?z_tuple ?y_gcd ?x_GREATEST_P ?eA_InvalidPixel ?eK_InvalidPixel ?eQ_InvalidPixel ?eX_InvalidPixel ?eT_InvalidPixel ?eA_InvalidTurn ?eK_InvalidTurn ?eQ_InvalidTurn ?eX_InvalidTurn ?eT_InvalidTurn ?eA_KeepsAll ?eK_KeepsAll ?eQ_KeepsAll ?eX_KeepsAll ?eT_KeepsAll ?eC_KeepsAll ?w_KeepsAll__KeepsAll
    (case a0 => k_is)
    (case l0 => k_is)
    (case c0 => k_is)
    (case k0 => k_is)
    (case a1 => k_is)
    (case l1 => k_is)
    (case c1 => k_is)
    (case k1 => k_is)
    (case a2 => k_is)
    (case l2 => k_is)
    (case c2 => k_is)
    (case k2 => k_is)
    (case a3 => k_is)
    (case l3 => k_is)
    (case c3 => k_is)
    (case k3 => k_is)
    (case a4 => k_is)
    (case l4 => k_is)
    (case c4 => k_is)
    (case k4 => k_is)
    (case a5 => k_is)
    (case l5 => k_is)
    (case c5 => k_is)
    (case k5 => k_is)
    (case a6 => k_is)
    (case l6 => k_is)
    (case c6 => k_is)
    (case k6 => k_is)
    (case a7 => k_is)
    (case l7 => k_is)
    (case c7 => k_is)
    (case k7 => k_is)
    (case a8 => k_is)
    (case l8 => k_is)
    (case c8 => k_is)
    (case k8 => k_is)
    (case a9 => k_is)
    (case l9 => k_is)
    (case c9 => k_is)
    (case k9 => k_is)
    (case a10 => k_is)
    (case l10 => k_is)
    (case c10 => k_is)
    (case k10 => k_is)
    (case a11 => k_is)
    (case l11 => k_is)
    (case c11 => k_is)
    (case k11 => k_is)
    (case a12 => k_is)
    (case l12 => k_is)
    (case c12 => k_is)
    (case k12 => k_is)
    (case a13 => k_is)
    (case l13 => k_is)
    (case c13 => k_is)
    (case k13 => k_is)
    (case a14 => k_is)
    (case l14 => k_is)
    (case c14 => k_is)
    (case k14 => k_is)
    (case a15 => k_is)
    (case l15 => k_is)
    (case c15 => k_is)
    (case k15 => k_is)
    (case a16 => k_is)
    (case l16 => k_is)
    (case c16 => k_is)
    (case k16 => k_is)
    (case a17 => k_is)
    (case l17 => k_is)
    (case c17 => k_is)
    (case k17 => k_is)
    (case a18 => k_is)
    (case l18 => k_is)
    (case c18 => k_is)
    (case k18 => k_is)
    (case a19 => k_is)
    (case l19 => k_is)
    (case c19 => k_is)
    (case k19 => k_is)
    (case a20 => k_is)
    (case l20 => k_is)
    (case c20 => k_is)
    (case k20 => k_is)
    (case a21 => k_is)
    (case l21 => k_is)
    (case c21 => k_is)
    (case k21 => k_is)
    (case a22 => k_is)
    (case l22 => k_is)
    (case c22 => k_is)
    (case k22 => k_is)
    (case a23 => k_is)
    (case l23 => k_is)
    (case c23 => k_is)
    (case k23 => k_is)
    (case a24 => k_is)
    (case l24 => k_is)
    (case c24 => k_is)
    (case k24 => k_is)
    (case a25 => k_is)
    (case l25 => k_is)
    (case c25 => k_is)
    (case k25 => k_is)
    (case a26 => k_is)
    (case l26 => k_is)
    (case c26 => k_is)
    (case k26 => k_is)
    (case a27 => k_is)
    (case l27 => k_is)
    (case c27 => k_is)
    (case k27 => k_is)
    (case a28 => k_is)
    (case l28 => k_is)
    (case c28 => k_is)
    (case k28 => k_is)
    (case a29 => k_is)
    (case l29 => k_is)
    (case c29 => k_is)
    (case k29 => k_is)
    (case a30 => k_is)
    (case l30 => k_is)
    (case c30 => k_is)
    (case k30 => k_is)
    (case a31 => k_is)
    (case l31 => k_is)
    (case c31 => k_is)
    (case k31 => k_is)
    (case a32 => k_is)
    (case l32 => k_is)
    (case c32 => k_is)
    (case k32 => k_is)
    (case a33 => k_is)
    (case l33 => k_is)
    (case c33 => k_is)
    (case k33 => k_is)
    (case a34 => k_is)
    (case l34 => k_is)
    (case c34 => k_is)
    (case k34 => k_is)
    (case a35 => k_is)
    (case l35 => k_is)
    (case c35 => k_is)
    (case k35 => k_is)
    (case a36 => k_is)
    (case l36 => k_is)
    (case c36 => k_is)
    (case k36 => k_is)
    (case z_abs => k_is)
    (case z_all => k_is)
    (case z_bool => k_is)
    (case z_enumerate => k_is)
    (case z_int => k_is)
    (case z_isinstance => k_is)
    (case z_len => k_is)
    (case z_list => k_is)
    (case z_max => k_is)
    (case z_min => k_is)
    (case z_range => k_is)
    (case z_repr => k_is)
    (case z_sorted => k_is)
    (case z_str => k_is)
    (case z_tuple => k_is)
    (case y_gcd => k_is)
    (case x_GREATEST_P => exact ⟨_, PySem.W.mg_of KX G (by k_is)⟩)
    (case eA_InvalidPixel => k_is)
    (case eK_InvalidPixel => k_is)
    (case eQ_InvalidPixel => k_exc)
    (case eX_InvalidPixel => k_is)
    (case eT_InvalidPixel => k_is)
    (case eA_InvalidTurn => k_is)
    (case eK_InvalidTurn => k_is)
    (case eQ_InvalidTurn => k_exc)
    (case eX_InvalidTurn => k_is)
    (case eT_InvalidTurn => k_is)
    (case eA_KeepsAll => k_is)
    (case eK_KeepsAll => k_is)
    (case eQ_KeepsAll => k_exc)
    (case eX_KeepsAll => k_is)
    (case eT_KeepsAll => k_is)
    (case eC_KeepsAll => k_is)
    (case w_KeepsAll__KeepsAll => first | rfl | k_is)
#print axioms PySem.Challenge.cw_turnedpixels_k23_losses_judged_and_told_holds
