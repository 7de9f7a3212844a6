import PyProof.Rows.All
import Wide.All
import OpenK.AllK
import Wide.FinOn
import HandS.ForMost
import HandS.Wide
import HandS.Gcd
import HandS.IsInst
import HandS.RaiseMore
import HandS.ForExc
import KE.DatumOrd
import HandS.Deep
import HandS.Style
import HandS.Sort
import KE.SortData
import HandS.FStr
import HandS.ExcField
import KE.KExcSuper
import KE.KExcMake
import HandS.TryMany
import HandS.ExcOwn
import KE.DataFind
import KE.KTupSum
import HandS.Zip
import PyProof.MaxThree
import PyProof.LongRange
import PySem.Challenge.RW_turnedpixels_k03_legs_there_and_back
set_option Elab.async false
set_option linter.all false
set_option exponentiation.threshold 3000
set_option maxRecDepth 100000
set_option maxHeartbeats 4000000
/-! Data in place of the heap: what a value is as data, kept while the heap grows; lists that are changed stand apart. -/
namespace DL
open PySem PySem.Spec PyProof.Rows L2

/-! ### the readings that the semantics itself gives -/
def wE (X : Cx) (e : Expr) : TE := fun σ H Q => ∀ pins s, Inv X pins σ H s → wpAny (model X.prog X.w) X.A (eval e X.env) (EP X pins σ Q) X.xe s
def wT (X : Cx) (e : Expr) : TT := fun σ H Q => ∀ pins s, Inv X pins σ H s → wpAny (model X.prog X.w) X.A (isTrue e X.env (eval e X.env)) (TP X pins σ Q) X.xe s
def wW (X : Cx) (e : Expr) : TT := fun σ H Q => ∀ whole pins s, Inv X pins σ H s → wpAny (model X.prog X.w) X.A (isTrue e X.env whole) (TP X pins σ Q) X.xe s
def wA (X : Cx) (es : List Expr) : TA := fun σ H Q => ∀ pos pins s, Inv X pins σ H s → wpAny (model X.prog X.w) X.A (spliced (backTo pos (starEach es X.env))) (AP X pins σ Q) X.xe s
def wS (X : Cx) (st : Stmt) : TS := fun D σ H => ∀ pins s, Inv X pins σ H s → wpAny (model X.prog X.w) X.A (exec st X.env) (SP X pins D) X.xe s
def wSs (X : Cx) (st : List Stmt) : TS := fun D σ H => ∀ pins s, Inv X pins σ H s → wpAny (model X.prog X.w) X.A (execs st X.env) (SP X pins D) X.xe s
def wG (X : Cx) (tg : Expr) : TG := fun v σ H Q => ∀ pins s u, Inv X pins σ H s → RelV v u →
  wpAny (model X.prog X.w) X.A (assign tg X.env u) (fun _ s' => ∃ σ' H', Inv X pins σ' H' s' ∧ Q σ' H') X.xe s
section
variable {X : Cx} {e : Expr} {es : List Expr} {st : Stmt} {sts : List Stmt} {σ : L2.St} {H : Hp}
theorem peW : PE X e (wE X e) := ⟨fun pins s _ _ _ I h => h pins s I⟩
theorem ptW : PT X e (wT X e) := ⟨fun pins s _ _ _ I h => h pins s I⟩
theorem pwW : PW X e (wW X e) := ⟨fun wh pins s _ _ _ I h => h wh pins s I⟩
theorem paW : PA X es (wA X es) := ⟨fun pos pins s _ _ _ I h => h pos pins s I⟩
theorem psW : PS X st (wS X st) := ⟨fun pins s _ _ _ I h => h pins s I⟩
theorem pssW : PSs X sts (wSs X sts) := ⟨fun pins s _ _ _ I h => h pins s I⟩
theorem pgW {tg : Expr} : PG X tg (wG X tg) := ⟨fun pins s _ _ _ u _ I r h => h pins s u I r⟩
theorem wE_of {t : TE} {Q : VK} (h : PE X e t) (q : t σ H Q) : wE X e σ H Q := fun pins s I => h.run pins s σ H Q I q
theorem wT_of {t : TT} {Q : Bool → Hp → Prop} (h : PT X e t) (q : t σ H Q) : wT X e σ H Q := fun pins s I => h.run pins s σ H Q I q
theorem wW_of {t : TT} {Q : Bool → Hp → Prop} (h : PW X e t) (q : t σ H Q) : wW X e σ H Q := fun wh pins s I => h.run wh pins s σ H Q I q
theorem wA_of {t : TA} {Q : List V → Hp → Prop} (h : PA X es t) (q : t σ H Q) : wA X es σ H Q := fun pos pins s I => h.run pos pins s σ H Q I q
theorem wS_of {t : TS} {De : Ends} (h : PS X st t) (q : t De σ H) : wS X st De σ H := fun pins s I => h.run pins s σ H De I q
theorem wSs_of {t : TS} {De : Ends} (h : PSs X sts t) (q : t De σ H) : wSs X sts De σ H := fun pins s I => h.run pins s σ H De I q
theorem wG_of {tg : Expr} {t : TG} {v : V} {Q : L2.St → Hp → Prop} (h : PG X tg t) (q : t v σ H Q) : wG X tg v σ H Q := fun pins s u I r => h.run pins s σ H v u Q I r q
theorem wE_mono {Q Q' : VK} (h : wE X e σ H Q) (k : ∀ v H', Q v H' → Q' v H') : wE X e σ H Q' := fun pins s I =>
  thn (h pins s I) fun _ _ ⟨v, H', I', r, q⟩ => ⟨v, H', I', r, k v H' q⟩
theorem wT_mono {Q Q' : Bool → Hp → Prop} (h : wT X e σ H Q) (k : ∀ b H', Q b H' → Q' b H') : wT X e σ H Q' := fun pins s I =>
  thn (h pins s I) fun b _ ⟨H', I', q⟩ => ⟨H', I', k b H' q⟩
theorem wW_mono {Q Q' : Bool → Hp → Prop} (h : wW X e σ H Q) (k : ∀ b H', Q b H' → Q' b H') : wW X e σ H Q' := fun wh pins s I =>
  thn (h wh pins s I) fun b _ ⟨H', I', q⟩ => ⟨H', I', k b H' q⟩
theorem wA_mono {Q Q' : List V → Hp → Prop} (h : wA X es σ H Q) (k : ∀ v H', Q v H' → Q' v H') : wA X es σ H Q' := fun pos pins s I =>
  thn (h pos pins s I) fun _ _ ⟨v, H', I', r, q⟩ => ⟨v, H', I', r, k v H' q⟩
theorem wG_mono {tg : Expr} {v : V} {Q Q' : L2.St → Hp → Prop} (h : wG X tg v σ H Q) (k : ∀ σ' H', Q σ' H' → Q' σ' H') : wG X tg v σ H Q' := fun pins s u I r =>
  thn (h pins s u I r) fun _ _ ⟨σ', H', I', q⟩ => ⟨σ', H', I', k σ' H' q⟩
end

/-! ### data -/
inductive D where
  | non
  | bl (b : Bool)
  | int (i : Int)
  | str (x : Str)
  | tup (l : List D)
  | lst (l : List D)
  | raw (v : V)
  | ext (P : Hp → V → Prop)
  | scr (ns : List Int)

mutual
def Rp (K : PySem.W.Frag) (H : Hp) : D → V → Prop
  | .non, v => v = .non
  | .bl b, v => v = .bl b
  | .int i, v => v = .int i
  | .str x, v => v = .str x
  | .tup l, v => ∃ (a : Addr) (xs : List V), v = .ref a ∧ SqT K H a xs ∧ RpL K H l xs
  | .lst l, v => ∃ (a : Addr) (xs : List V), v = .ref a ∧ H a = some (.lst xs) ∧ RpL K H l xs
  | .raw u, v => v = u
  | .ext P, v => ∃ H0 : Hp, Same H0 H ∧ P H0 v
  | .scr ns, v => ∃ a : Addr, v = .ref a ∧ SqL K H a (ns.map V.int)
def RpL (K : PySem.W.Frag) (H : Hp) : List D → List V → Prop
  | [], vs => vs = []
  | d :: ds, vs => ∃ (x : V) (xs : List V), vs = x :: xs ∧ Rp K H d x ∧ RpL K H ds xs
end
theorem same_l {K : PySem.W.Frag} {H H' : Hp} (e : Same H H') {a : Addr} {xs : List V} (h : SqL K H a xs) : SqL K H' a xs := e.seq h
theorem same_t {K : PySem.W.Frag} {H H' : Hp} (e : Same H H') {a : Addr} {xs : List V} (h : SqT K H a xs) : SqT K H' a xs := by
  rcases h with (h | ⟨o, h⟩) | h
  · exact .inl (.inl (e _ _ h))
  · exact .inl (.inr ⟨o, e _ _ h⟩)
  · exact .inr h
mutual
theorem Rp.mono {K : PySem.W.Frag} {H H' : Hp} (e : Same H H') : ∀ (d : D) (v : V), Rp K H d v → Rp K H' d v
  | .non, _, h => h
  | .bl _, _, h => h
  | .int _, _, h => h
  | .str _, _, h => h
  | .tup l, _, h => let ⟨a, xs, e1, e2, e3⟩ := h; ⟨a, xs, e1, same_t e e2, RpL.mono e l xs e3⟩
  | .lst l, _, h => let ⟨a, xs, e1, e2, e3⟩ := h; ⟨a, xs, e1, e _ _ e2, RpL.mono e l xs e3⟩
  | .raw _, _, h => h
  | .ext _, _, h => let ⟨H0, e0, p⟩ := h; ⟨H0, e0.trans e, p⟩
  | .scr _, _, h => let ⟨a, e1, e2⟩ := h; ⟨a, e1, same_l e e2⟩
theorem RpL.mono {K : PySem.W.Frag} {H H' : Hp} (e : Same H H') : ∀ (l : List D) (vs : List V), RpL K H l vs → RpL K H' l vs
  | [], _, h => h
  | d :: ds, _, h => let ⟨x, xs, e1, e2, e3⟩ := h; ⟨x, xs, e1, Rp.mono e d x e2, RpL.mono e ds xs e3⟩
end
theorem RpL.length {K : PySem.W.Frag} {H : Hp} : ∀ {l : List D} {vs : List V}, RpL K H l vs → vs.length = l.length
  | [], _, h => by
    have h : _ = [] := h
    rw [h] <;> rfl
  | d :: ds, _, h => by
    obtain ⟨x, xs, rfl, _, h3⟩ := h
    rw [List.length_cons, List.length_cons, RpL.length h3]
theorem RpL.get {K : PySem.W.Frag} {H : Hp} : ∀ {l : List D} {vs : List V} {i : Nat} {d : D}, RpL K H l vs → l[i]? = some d → ∃ v, vs[i]? = some v ∧ Rp K H d v
  | [], _, _, _, _, e => by simp at e
  | d :: ds, _, 0, d', h, e => by
    obtain ⟨x, xs, rfl, h2, h3⟩ := h
    have e : d = d' := by simpa using e
    subst e
    exact ⟨x, rfl, h2⟩
  | d :: ds, _, i + 1, d', h, e => by
    obtain ⟨x, xs, rfl, h2, h3⟩ := h
    obtain ⟨v, e1, e2⟩ := RpL.get (i := i) h3 (by simpa using e)
    exact ⟨v, by simpa using e1, e2⟩
theorem RpL.back {K : PySem.W.Frag} {H : Hp} {l : List D} {vs : List V} {i : Nat} {v : V} (h : RpL K H l vs) (e : vs[i]? = some v) : ∃ d, l[i]? = some d ∧ Rp K H d v := by
  have hl := h.length
  have hi : i < vs.length := (List.getElem?_eq_some_iff.mp e).1
  obtain ⟨d, hd⟩ : ∃ d, l[i]? = some d := ⟨l[i]'(by omega), List.getElem?_eq_getElem (by omega)⟩
  obtain ⟨w, e1, r⟩ := h.get hd
  rw [e] at e1
  cases e1
  exact ⟨d, hd, r⟩
theorem RpL.append {K : PySem.W.Frag} {H : Hp} : ∀ {l m : List D} {vs ws : List V}, RpL K H l vs → RpL K H m ws → RpL K H (l ++ m) (vs ++ ws)
  | [], _, _, _, h, k => by
    have h : _ = [] := h
    subst h
    exact k
  | d :: ds, _, _, _, h, k => by
    obtain ⟨x, xs, rfl, h2, h3⟩ := h
    exact ⟨x, xs ++ _, rfl, h2, RpL.append h3 k⟩
theorem RpL.take {K : PySem.W.Frag} {H : Hp} : ∀ {l : List D} {vs : List V} (n : Nat), RpL K H l vs → RpL K H (l.take n) (vs.take n)
  | _, _, 0, _ => by rw [List.take_zero, List.take_zero]; rfl
  | [], _, n + 1, h => by
    have h : _ = [] := h
    subst h
    rfl
  | d :: ds, _, n + 1, h => by
    obtain ⟨x, xs, rfl, h2, h3⟩ := h
    exact ⟨x, xs.take n, rfl, h2, RpL.take n h3⟩
theorem RpL.drop {K : PySem.W.Frag} {H : Hp} : ∀ {l : List D} {vs : List V} (n : Nat), RpL K H l vs → RpL K H (l.drop n) (vs.drop n)
  | _, _, 0, h => h
  | [], _, n + 1, h => by
    have h : _ = [] := h
    subst h
    rfl
  | d :: ds, _, n + 1, h => by
    obtain ⟨x, xs, rfl, h2, h3⟩ := h
    exact RpL.drop n h3
theorem RpL.set {K : PySem.W.Frag} {H : Hp} {d : D} {v : V} (r : Rp K H d v) : ∀ {l : List D} {vs : List V} (i : Nat), RpL K H l vs → RpL K H (l.set i d) (vs.set i v)
  | [], _, _, h => by
    have h : _ = [] := h
    subst h
    exact h
  | d :: ds, _, 0, h => by
    obtain ⟨x, xs, rfl, h2, h3⟩ := h
    exact ⟨v, xs, rfl, r, h3⟩
  | d :: ds, _, i + 1, h => by
    obtain ⟨x, xs, rfl, h2, h3⟩ := h
    exact ⟨x, xs.set i v, rfl, h2, RpL.set r i h3⟩
theorem RpL.ints {K : PySem.W.Frag} {H : Hp} : ∀ (ns : List Int), RpL K H (ns.map D.int) (ns.map V.int)
  | [] => rfl
  | n :: ns => ⟨.int n, ns.map V.int, rfl, rfl, RpL.ints ns⟩

/-! ### lists that are changed; the slots -/
abbrev Sto := List (Addr × List D)
def getS (p : Addr) : Sto → Option (List D)
  | [] => none
  | (q, l) :: S => if q = p then some l else getS p S
def setS (p : Addr) (n : List D) : Sto → Sto
  | [] => []
  | (q, l) :: S => if q = p then (q, n) :: S else (q, l) :: setS p n S
def Own (K : PySem.W.Frag) (Hd H : Hp) : Sto → Prop
  | [] => True
  | (p, l) :: S => Hd p = none ∧ getS p S = none ∧ (∃ xs, H p = some (.lst xs) ∧ RpL K Hd l xs) ∧ Own K Hd H S
structure St0 (K : PySem.W.Frag) (S : Sto) (Hd H : Hp) : Prop where
  sub : Same Hd H
  own : Own K Hd H S
theorem getS_hd {p : Addr} {l : List D} {S : Sto} : getS p ((p, l) :: S) = some l := by
  show (if p = p then some l else getS p S) = some l
  rw [if_pos rfl]
theorem setS_hd {p : Addr} {l n : List D} {S : Sto} : setS p n ((p, l) :: S) = (p, n) :: S := by
  show (if p = p then (p, n) :: S else (p, l) :: setS p n S) = _
  rw [if_pos rfl]
theorem getS_tl {p q : Addr} {l : List D} {S : Sto} (h : q ≠ p) : getS p ((q, l) :: S) = getS p S := by
  show (if q = p then some l else getS p S) = _
  rw [if_neg h]
theorem setS_tl {p q : Addr} {l n : List D} {S : Sto} (h : q ≠ p) : setS p n ((q, l) :: S) = (q, l) :: setS p n S := by
  show (if q = p then (q, n) :: S else (q, l) :: setS p n S) = _
  rw [if_neg h]
theorem getS_setS {p : Addr} {n : List D} : ∀ {S : Sto} {q : Addr}, getS q (setS p n S) = if q = p then (getS p S).map (fun _ => n) else getS q S
  | [], q => by split <;> rfl
  | (r, l) :: S, q => by
    by_cases h1 : r = p
    · subst h1
      rw [setS_hd]
      by_cases h2 : q = r
      · subst h2
        rw [getS_hd, if_pos rfl, getS_hd] <;> rfl
      · rw [getS_tl (Ne.symm h2), if_neg h2, getS_tl (Ne.symm h2)]
    · rw [setS_tl h1, getS_tl (S := S) h1]
      by_cases h2 : r = q
      · subst h2
        rw [getS_hd, if_neg h1, getS_hd]
      · rw [getS_tl h2, getS_tl h2]
        exact getS_setS
section
variable {K : PySem.W.Frag} {Hd Hd' H H' : Hp} {S : Sto} {p : Addr}
theorem Own.at : ∀ {S : Sto} {l : List D}, Own K Hd H S → getS p S = some l → Hd p = none ∧ ∃ xs, H p = some (.lst xs) ∧ RpL K Hd l xs
  | [], _, _, e => by cases e
  | (q, m) :: S, l, o, e => by
    by_cases h : q = p
    · subst h
      rw [getS_hd] at e
      cases e
      exact ⟨o.1, o.2.2.1⟩
    · rw [getS_tl h] at e
      exact Own.at o.2.2.2 e
/-- new things are laid: none of the changed lists' own -/
theorem Own.grow : ∀ {S : Sto}, Own K Hd H S → Same Hd Hd' → (∀ q l, getS q S = some l → Hd' q = none) → (∀ q xs l, getS q S = some l → H q = some (.lst xs) → H' q = some (.lst xs)) → Own K Hd' H' S
  | [], _, _, _, _ => trivial
  | (q, l) :: S, o, e, f, k => by
    obtain ⟨o1, o2, ⟨xs, o3, o4⟩, o5⟩ := o
    refine ⟨f q l getS_hd, o2, ⟨xs, k q xs l getS_hd o3, o4.mono e⟩, o5.grow e (fun r m hr => ?_) (fun r ys m hr => ?_)⟩
    · by_cases h : q = r
      · subst h
        rw [o2] at hr; cases hr
      · exact f r m (by rw [getS_tl h]; exact hr)
    · by_cases h : q = r
      · subst h
        rw [o2] at hr; cases hr
      · exact k r ys m (by rw [getS_tl h]; exact hr)
/-- one changed list is written -/
theorem Own.write {l' : List D} {ys : List V} : ∀ {S : Sto} {l : List D}, Own K Hd H S → getS p S = some l → RpL K Hd l' ys → Own K Hd (upd H p (.lst ys)) (setS p l' S)
  | [], _, _, e, _ => by cases e
  | (q, m) :: S, l, o, e, r => by
    obtain ⟨o1, o2, ⟨xs, o3, o4⟩, o5⟩ := o
    by_cases h : q = p
    · subst h
      rw [setS_hd]
      refine ⟨o1, o2, ⟨ys, upd_same, r⟩, o5.grow (fun _ _ z => z) (fun b w hb => (o5.at hb).1) (fun b zs w hb hz => ?_)⟩
      rw [upd_ne]
      · exact hz
      · intro z
        subst z
        rw [o2] at hb; cases hb
    · rw [getS_tl h] at e
      rw [setS_tl h]
      refine ⟨o1, ?_, ⟨xs, (upd_ne h).trans o3, o4⟩, o5.write e r⟩
      rw [getS_setS, if_neg h]
      exact o2
theorem St0.tracked (s : St0 K S Hd H) {l : List D} (h : getS p S = some l) : H p ≠ none := by
  obtain ⟨_, xs, e, _⟩ := s.own.at h
  rw [e]
  exact fun z => nomatch z
/-- a new object that is not changed any more -/
theorem St0.laid {o : HO} (s : St0 K S Hd H) (hp : H p = none) : Same Hd (upd Hd p o) ∧ St0 K S (upd Hd p o) (upd H p o) := by
  have hd : Hd p = none := s.sub.free hp
  have e : Same Hd (upd Hd p o) := fun b u q => by rw [upd_ne (ne_of_none q hd)]; exact q
  refine ⟨e, fun b u q => ?_, s.own.grow e (fun q l h => ?_) (fun q xs l h z => ?_)⟩
  · by_cases hb : b = p
    · subst hb
      rw [upd_same] at q ⊢
      exact q
    · rw [upd_ne hb] at q ⊢
      exact s.sub b u q
  · rw [upd_ne (fun z => s.tracked h (by rw [z]; exact hp))]
    exact (s.own.at h).1
  · rw [upd_ne (ne_of_none z hp)]
    exact z
/-- a new list that will be changed -/
theorem St0.laidO {l : List D} {xs : List V} (s : St0 K S Hd H) (hp : H p = none) (r : RpL K Hd l xs) : getS p S = none ∧ St0 K ((p, l) :: S) Hd (upd H p (.lst xs)) := by
  have hd : Hd p = none := s.sub.free hp
  have g : getS p S = none := by
    cases q : getS p S with
    | none => rfl
    | some m => exact absurd hp (s.tracked q)
  refine ⟨g, fun b u q => ?_, hd, g, ⟨xs, upd_same, r⟩, s.own.grow (fun _ _ z => z) (fun q l h => (s.own.at h).1) (fun q xs l h z => ?_)⟩
  · rw [upd_ne (ne_of_none q hd)]
    exact s.sub b u q
  · rw [upd_ne (ne_of_none z hp)]
    exact z
theorem St0.written {l l' : List D} {ys : List V} (s : St0 K S Hd H) (h : getS p S = some l) (r : RpL K Hd l' ys) : St0 K (setS p l' S) Hd (upd H p (.lst ys)) := by
  refine ⟨fun b u q => ?_, s.own.write h r⟩
  rw [upd_ne (ne_of_none q (s.own.at h).1)]
  exact s.sub b u q
/-- a changed list is changed no more -/
theorem St0.frozen {l : List D} (s : St0 K ((p, l) :: S) Hd H) : ∃ xs, RpL K Hd l xs ∧ Same Hd (upd Hd p (.lst xs)) ∧ St0 K S (upd Hd p (.lst xs)) H := by
  obtain ⟨sub, o1, o2, ⟨xs, o3, o4⟩, o5⟩ := s
  have e : Same Hd (upd Hd p (.lst xs)) := fun b u q => by rw [upd_ne (ne_of_none q o1)]; exact q
  refine ⟨xs, o4, e, fun b u q => ?_, o5.grow e (fun q l h => ?_) (fun q xs l h z => z)⟩
  · by_cases hb : b = p
    · subst hb
      rw [upd_same] at q
      cases q
      exact o3
    · rw [upd_ne hb] at q
      exact sub b u q
  · rw [upd_ne (fun z => by rw [z, o2] at h; cases h)]
    exact (o5.at h).1
theorem St0.drop {l : List D} (s : St0 K ((p, l) :: S) Hd H) : St0 K S Hd H := ⟨s.sub, s.own.2.2.2⟩
end

/-- the slots as data; none: not known -/
abbrev DEnv := List (Option D)
def RpE (K : PySem.W.Frag) (H : Hp) : DEnv → L2.St → Prop
  | [], σ => σ = []
  | none :: es, σ => ∃ (o : Option V) (σ' : L2.St), σ = o :: σ' ∧ RpE K H es σ'
  | some d :: es, σ => ∃ (v : V) (σ' : L2.St), σ = some v :: σ' ∧ Rp K H d v ∧ RpE K H es σ'
theorem RpE.mono {K : PySem.W.Frag} {H H' : Hp} (e : Same H H') : ∀ {en : DEnv} {σ : L2.St}, RpE K H en σ → RpE K H' en σ
  | [], _, h => h
  | none :: es, _, h => let ⟨o, σ', e1, e2⟩ := h; ⟨o, σ', e1, RpE.mono e e2⟩
  | some d :: es, _, h => let ⟨v, σ', e1, e2, e3⟩ := h; ⟨v, σ', e1, Rp.mono e d v e2, RpE.mono e e3⟩
theorem RpE.get {K : PySem.W.Frag} {H : Hp} : ∀ {en : DEnv} {σ : L2.St} {i : Nat} {d : D}, RpE K H en σ → en[i]? = some (some d) → ∃ v, σ[i]? = some (some v) ∧ Rp K H d v
  | [], _, _, _, _, e => by simp at e
  | none :: es, _, 0, _, h, e => by simp at e
  | none :: es, _, i + 1, d, h, e => by
    obtain ⟨o, σ', rfl, h2⟩ := h
    obtain ⟨v, e1, e2⟩ := RpE.get (i := i) h2 (by simpa using e)
    exact ⟨v, by simpa using e1, e2⟩
  | some x :: es, _, 0, d, h, e => by
    obtain ⟨v, σ', rfl, h2, _⟩ := h
    have e : x = d := by simpa using e
    subst e
    exact ⟨v, rfl, h2⟩
  | some x :: es, _, i + 1, d, h, e => by
    obtain ⟨o, σ', rfl, _, h2⟩ := h
    obtain ⟨v, e1, e2⟩ := RpE.get (i := i) h2 (by simpa using e)
    exact ⟨v, by simpa using e1, e2⟩
theorem RpE.set {K : PySem.W.Frag} {H : Hp} {d : D} {v : V} (r : Rp K H d v) : ∀ {en : DEnv} {σ : L2.St} (i : Nat), RpE K H en σ → RpE K H (en.set i (some d)) (σ.set i (some v))
  | [], _, _, h => by
    have h : _ = [] := h
    subst h
    rfl
  | none :: es, _, 0, h => let ⟨o, σ', e1, e2⟩ := h; ⟨v, σ', by rw [e1] <;> rfl, r, e2⟩
  | some x :: es, _, 0, h => let ⟨o, σ', e1, _, e2⟩ := h; ⟨v, σ', by rw [e1] <;> rfl, r, e2⟩
  | none :: es, _, i + 1, h => let ⟨o, σ', e1, e2⟩ := h; ⟨o, σ'.set i (some v), by rw [e1] <;> rfl, e2.set r i⟩
  | some x :: es, _, i + 1, h => let ⟨o, σ', e1, e0, e2⟩ := h; ⟨o, σ'.set i (some v), by rw [e1] <;> rfl, e0, e2.set r i⟩
/-- less is known -/
def Wk : DEnv → DEnv → Prop
  | [], [] => True
  | _ :: xs, none :: ys => Wk xs ys
  | x :: xs, some d :: ys => x = some d ∧ Wk xs ys
  | _, _ => False
theorem Wk.refl : ∀ (en : DEnv), Wk en en
  | [] => trivial
  | none :: es => Wk.refl es
  | some _ :: es => ⟨rfl, Wk.refl es⟩
theorem Wk.use {K : PySem.W.Frag} {H : Hp} : ∀ {a b : DEnv} {σ : L2.St}, Wk a b → RpE K H a σ → RpE K H b σ
  | [], [], _, _, h => h
  | none :: xs, none :: ys, _, w, h => let ⟨o, σ', e1, e2⟩ := h; ⟨o, σ', e1, Wk.use (a := xs) (b := ys) w e2⟩
  | some x :: xs, none :: ys, _, w, h => let ⟨v, σ', e1, _, e2⟩ := h; ⟨some v, σ', e1, Wk.use (a := xs) (b := ys) w e2⟩
  | x :: xs, some d :: ys, _, w, h => by
    obtain ⟨w1, w2⟩ := w
    subst w1
    obtain ⟨v, σ', e1, e2, e3⟩ := h
    exact ⟨v, σ', e1, e2, Wk.use w2 e3⟩
  | [], none :: _, _, w, _ => w.elim
  | [], some _ :: _, _, w, _ => w.elim
  | _ :: _, [], _, w, _ => w.elim
theorem RpE.start {K : PySem.W.Frag} {H : Hp} : ∀ {ds : List D} {vs : List V} (n : Nat), RpL K H ds vs → RpE K H (ds.map some ++ List.replicate n none) (vs.map some ++ List.replicate n none)
  | [], _, 0, h => by
    have h : _ = [] := h
    subst h
    rfl
  | [], _, n + 1, h => by
    have h : _ = [] := h
    subst h
    exact ⟨none, List.replicate n none, rfl, RpE.start (ds := []) (vs := []) n rfl⟩
  | d :: ds, _, n, h => by
    obtain ⟨x, xs, rfl, h2, h3⟩ := h
    exact ⟨x, xs.map some ++ List.replicate n none, rfl, h2, RpE.start n h3⟩
end DL
namespace DL
open PySem PySem.Spec PyProof.Rows L2

/-! ### what the semantics asks of the form of an expression, quickly answered -/
def nSet : Expr → Bool
  | .Set _ _ _ => false
  | _ => true
theorem fset {e : Expr} {env : Env} (h : nSet e = true) : ∀ x, foldedSetIterable e env x = pure x := fun x => by
  cases e <;> first | rfl | cases h
def nComp : Expr → Bool
  | .ListComp _ _ _ _ => false
  | .SetComp _ _ _ _ => false
  | .DictComp _ _ _ _ _ => false
  | _ => true
theorem sw0 {e : Expr} {t : Option Expr} {l : Nat} {env : Env} (h : nComp e = true) : swapsWith e t l env = pure false := by
  cases e <;> first | rfl | cases h
theorem sws1 {e t : Expr} {l : Nat} {env : Env} (h : nComp e = true) : swapsWithSole [t] e l env = pure false := sw0 h
def nTup2 : Expr → Expr → Bool
  | .Tuple _ _ _, .Tuple _ _ _ => false
  | .List _ _, .Tuple _ _ _ => false
  | _, _ => true
theorem sst {t e : Expr} {env : Env} (h : nTup2 t e = true) : swappedStores [t] e env = pure none := by
  cases t <;> first | rfl | (cases e <;> first | rfl | cases h)

/-! ### what an expression, a test, a list of arguments is as data -/
def QD (K : PySem.W.Frag) (Hd : Hp) (Q : D → Sto → Prop) : VK := fun v H' => ∃ d S' Hd', Same Hd Hd' ∧ St0 K S' Hd' H' ∧ Rp K Hd' d v ∧ Q d S'
def QB (K : PySem.W.Frag) (Hd : Hp) (Q : Bool → Sto → Prop) : Bool → Hp → Prop := fun b H' => ∃ S' Hd', Same Hd Hd' ∧ St0 K S' Hd' H' ∧ Q b S'
def QA (K : PySem.W.Frag) (Hd : Hp) (Q : List D → Sto → Prop) : List V → Hp → Prop := fun vs H' => ∃ ds S' Hd', Same Hd Hd' ∧ St0 K S' Hd' H' ∧ RpL K Hd' ds vs ∧ Q ds S'
structure DE (X : Cx) (e : Expr) (en : DEnv) (S : Sto) (Q : D → Sto → Prop) : Prop where
  run : ∀ (σ : L2.St) (H Hd : Hp), St0 X.K S Hd H → RpE X.K Hd en σ → wE X e σ H (QD X.K Hd Q)
instance {X : Cx} {e : Expr} {en : DEnv} {S : Sto} {Q : D → Sto → Prop} : CoeFun (DE X e en S Q) (fun _ => ∀ (σ : L2.St) (H Hd : Hp), St0 X.K S Hd H → RpE X.K Hd en σ → wE X e σ H (QD X.K Hd Q)) := ⟨fun h => h.run⟩
structure DT (X : Cx) (e : Expr) (en : DEnv) (S : Sto) (Q : Bool → Sto → Prop) : Prop where
  run : ∀ (σ : L2.St) (H Hd : Hp), St0 X.K S Hd H → RpE X.K Hd en σ → wT X e σ H (QB X.K Hd Q)
instance {X : Cx} {e : Expr} {en : DEnv} {S : Sto} {Q : Bool → Sto → Prop} : CoeFun (DT X e en S Q) (fun _ => ∀ (σ : L2.St) (H Hd : Hp), St0 X.K S Hd H → RpE X.K Hd en σ → wT X e σ H (QB X.K Hd Q)) := ⟨fun h => h.run⟩
structure DW (X : Cx) (e : Expr) (en : DEnv) (S : Sto) (Q : Bool → Sto → Prop) : Prop where
  run : ∀ (σ : L2.St) (H Hd : Hp), St0 X.K S Hd H → RpE X.K Hd en σ → wW X e σ H (QB X.K Hd Q)
instance {X : Cx} {e : Expr} {en : DEnv} {S : Sto} {Q : Bool → Sto → Prop} : CoeFun (DW X e en S Q) (fun _ => ∀ (σ : L2.St) (H Hd : Hp), St0 X.K S Hd H → RpE X.K Hd en σ → wW X e σ H (QB X.K Hd Q)) := ⟨fun h => h.run⟩
structure DA (X : Cx) (es : List Expr) (en : DEnv) (S : Sto) (Q : List D → Sto → Prop) : Prop where
  run : ∀ (σ : L2.St) (H Hd : Hp), St0 X.K S Hd H → RpE X.K Hd en σ → wA X es σ H (QA X.K Hd Q)
instance {X : Cx} {es : List Expr} {en : DEnv} {S : Sto} {Q : List D → Sto → Prop} : CoeFun (DA X es en S Q) (fun _ => ∀ (σ : L2.St) (H Hd : Hp), St0 X.K S Hd H → RpE X.K Hd en σ → wA X es σ H (QA X.K Hd Q)) := ⟨fun h => h.run⟩
theorem QD.up {K : PySem.W.Frag} {Hd Hd' H' : Hp} {Q : D → Sto → Prop} {v : V} (e : Same Hd Hd') (h : QD K Hd' Q v H') : QD K Hd Q v H' :=
  let ⟨d, S, Hd2, e2, st, r, q⟩ := h; ⟨d, S, Hd2, e.trans e2, st, r, q⟩
theorem QB.up {K : PySem.W.Frag} {Hd Hd' H' : Hp} {Q : Bool → Sto → Prop} {b : Bool} (e : Same Hd Hd') (h : QB K Hd' Q b H') : QB K Hd Q b H' :=
  let ⟨S, Hd2, e2, st, q⟩ := h; ⟨S, Hd2, e.trans e2, st, q⟩
theorem QA.up {K : PySem.W.Frag} {Hd Hd' H' : Hp} {Q : List D → Sto → Prop} {v : List V} (e : Same Hd Hd') (h : QA K Hd' Q v H') : QA K Hd Q v H' :=
  let ⟨d, S, Hd2, e2, st, r, q⟩ := h; ⟨d, S, Hd2, e.trans e2, st, r, q⟩
/-- a value that is there -/
theorem QD.here {K : PySem.W.Frag} {S : Sto} {Hd H : Hp} {Q : D → Sto → Prop} {d : D} {v : V} (st : St0 K S Hd H) (r : Rp K Hd d v) (q : Q d S) : QD K Hd Q v H := ⟨d, S, Hd, Same.refl _, st, r, q⟩

section
variable {X : Cx} {a b c e : Expr} {es : List Expr} {en : DEnv} {S : Sto} {Q : D → Sto → Prop} {pos : Pos}
theorem DE.mono {Q' : D → Sto → Prop} (h : DE X e en S Q) (k : ∀ d S', Q d S' → Q' d S') : DE X e en S Q' := ⟨fun σ H Hd st re =>
  wE_mono (h σ H Hd st re) fun _ _ ⟨d, S', Hd', e', st', r, q⟩ => ⟨d, S', Hd', e', st', r, k d S' q⟩⟩
theorem DT.mono {Q Q' : Bool → Sto → Prop} (h : DT X e en S Q) (k : ∀ d S', Q d S' → Q' d S') : DT X e en S Q' := ⟨fun σ H Hd st re =>
  wT_mono (h σ H Hd st re) fun b _ ⟨S', Hd', e', st', q⟩ => ⟨S', Hd', e', st', k b S' q⟩⟩
/-- less is known of the slots -/
theorem DE.weak {en' : DEnv} (w : Wk en en') (h : DE X e en' S Q) : DE X e en S Q := ⟨fun σ H Hd st re => h σ H Hd st (w.use re)⟩
/-! ### names and constants -/
theorem de_name (i : Nat) {x : Str} {d : D} (q : Q d S) (he : en[i]? = some (some d) := by rfl) (hN : X.N[i]? = some x := by rfl)
    (hv : Vis X.env.scope x := by first | exact Or.inl rfl | exact Or.inr (Or.inl rfl) | exact Or.inr (Or.inr rfl)) (hd : (x == ("__debug__" : Str)) = false := by decide)
    (hcd : (x == ("__classdict__" : Str)) = false := by decide) : DE X (.Name x pos) en S Q := ⟨fun σ H Hd st re => by
  obtain ⟨v, e1, r⟩ := re.get he
  exact wE_of (pe_var hN hv hd hcd) ⟨v, e1, .here st r q⟩⟩
theorem de_int {i : Int} {j} (q : Q (.int i) S) : DE X (.Constant (.int i) j pos) en S Q := ⟨fun _ _ _ st _ => wE_of pe_int (.here (d := .int i) st rfl q)⟩
theorem de_bl {i : Bool} {j} (q : Q (.bl i) S) : DE X (.Constant (.bool i) j pos) en S Q := ⟨fun _ _ _ st _ => wE_of pe_bl (.here (d := .bl i) st rfl q)⟩
theorem de_non {j} (q : Q .non S) : DE X (.Constant .none j pos) en S Q := ⟨fun _ _ _ st _ => wE_of pe_non (.here (d := .non) st rfl q)⟩
theorem de_str {i : Str} {j} (q : Q (.str i) S) : DE X (.Constant (.str i) j pos) en S Q := ⟨fun _ _ _ st _ => wE_of pe_str (.here (d := .str i) st rfl q)⟩
/-- a thing of the module by its name -/
theorem de_glob {x : Str} {v : V} {u : Value} (hm : X.mg x = some u) (r : RelV v u) (q : Q (.raw v) S) (hg : Gl X x := by rfl) (hd : (x == ("__debug__" : Str)) = false := by decide) : DE X (.Name x pos) en S Q := ⟨fun _ _ _ st _ => wE_of (pe_glob hg hm r hd) (.here (d := .raw v) st rfl q)⟩
theorem de_globI {x : Str} {i : Int} {u : Tok} (hm : X.mg x = some (.int i u)) (q : Q (.int i) S) (hg : Gl X x := by rfl) (hd : (x == ("__debug__" : Str)) = false := by decide) : DE X (.Name x pos) en S Q := ⟨fun _ _ _ st _ => wE_of (pe_glob (v := .int i) hg hm ⟨u, rfl⟩ hd) (.here (d := .int i) st rfl q)⟩
/-! ### operators -/
def DR2 (K : PySem.W.Frag) (r : R2) (x y : D) (S : Sto) (Q : D → Sto → Prop) : Prop :=
  ∀ (H Hd : Hp) (vx vy : V) (Qv : VK), St0 K S Hd H → Rp K Hd x vx → Rp K Hd y vy → (∀ v H', QD K Hd Q v H' → Qv v H') → r vx vy H Qv
theorem de_two {f : Value → Value → Sem Value} {r : R2} (mk : ∀ {ta tb : TE}, PE X a ta → PE X b tb → PE X e (tOp r ta tb))
    (h : DE X a en S fun x S1 => DE X b en S1 fun y S2 => DR2 X.K r x y S2 Q) : DE X e en S Q := ⟨fun σ H Hd st re => by
  refine wE_of (mk peW peW) ?_
  refine wE_mono (h σ H Hd st re) fun v H1 ⟨x, S1, Hd1, e1, st1, r1, q1⟩ => ?_
  refine wE_mono (q1 σ H1 Hd1 st1 (re.mono e1)) fun u H2 ⟨y, S2, Hd2, e2, st2, r2, q2⟩ => ?_
  exact q2 H2 Hd2 v u _ st2 (Rp.mono e2 x v r1) r2 fun w H3 z => .up (e1.trans e2) z⟩
theorem de_op {op : Operator} {r : R2} (ho : OpR X (binaryOp op) r) (h : DE X a en S fun x S1 => DE X b en S1 fun y S2 => DR2 X.K r x y S2 Q) : DE X (.BinOp a op b pos) en S Q :=
  de_two (f := binaryOp op) (pe_op ho) h
theorem de_cmpR {op : CmpOp} {r : R2} (ho : OpR X (compareOp op) r) (hm : behindInMarks op b = false) (h : DE X a en S fun x S1 => DE X b en S1 fun y S2 => DR2 X.K r x y S2 Q) : DE X (.Compare a [op] [b] pos) en S Q :=
  de_two (f := compareOp op) (fun ha hb => pe_cmpR ho ha hb hm) h
theorem dr_I {C : Int → Int → Prop} {g : Int → Int → Int} {i j : Int} {K : PySem.W.Frag} (hc : C i j) (q : Q (.int (g i j)) S) : DR2 K (rI C fun i j => .int (g i j)) (.int i) (.int j) S Q :=
  fun H Hd vx vy Qv st rx ry k => ⟨i, j, rx, ry, hc, k _ _ (.here (d := .int (g i j)) st rfl q)⟩
theorem dr_I0 {g : Int → Int → Int} {i j : Int} {K : PySem.W.Frag} (q : Q (.int (g i j)) S) : DR2 K (rI0 fun i j => .int (g i j)) (.int i) (.int j) S Q :=
  fun H Hd vx vy Qv st rx ry k => ⟨i, j, rx, ry, k _ _ (.here (d := .int (g i j)) st rfl q)⟩
theorem dr_B0 {g : Int → Int → Bool} {i j : Int} {K : PySem.W.Frag} (q : Q (.bl (g i j)) S) : DR2 K (rI0 fun i j => .bl (g i j)) (.int i) (.int j) S Q :=
  fun H Hd vx vy Qv st rx ry k => ⟨i, j, rx, ry, k _ _ (.here (d := .bl (g i j)) st rfl q)⟩

/-- list + list, lists of any kind -/
def rCatL (K : PySem.W.Frag) : R2 := fun x y H Q => ∃ l b xs zs, x = .ref l ∧ y = .ref b ∧ SqL K H l xs ∧ SqL K H b zs ∧ xs.length + zs.length ≤ sizeLine ∧ ∀ p, H p = none → Q (.ref p) (upd H p (.lst (xs ++ zs)))
theorem op_catL : OpR X (binaryOp .Add) (rCatL X.K) := by
  intro pins s σ H x y v u Q I rx ry h
  obtain ⟨l, b, xs, zs, rfl, rfl, hl, hb, hz, q⟩ := h
  cases rx
  cases ry
  obtain ⟨its, r, ⟨⟨c1, d1, da1, s1⟩, n1, g1, k1, k2, k3⟩, _⟩ := I.list hl
  obtain ⟨its2, r2, ⟨⟨c2, d2, da2, s2⟩, n2, g2, j1, j2, j3⟩, _⟩ := I.list hb
  simp only at k1 k2 k3 j1 j2 j3
  subst k1 k2 k3 j1 j2 j3
  have ez : its.toArray.size + its2.toArray.size ≤ sizeLine := by
    rw [List.size_toArray, List.size_toArray, ← r.length, ← r2.length]
    exact hz
  refine concat_meets ⟨_, g1, rfl⟩ ⟨_, g2, rfl⟩ noFill_list_add seq_list_add PySem.F.slot_list_add PySem.F.entry_list_add (PySem.F.args_list_add_2 _ _) (PyProof.Rows.list_addW l b its.toArray its2.toArray n1 n2 none none s1 s2 ez) ⟨g1, g2, ?_⟩
  have ea : its.toArray ++ its2.toArray = (its ++ its2).toArray := by simp
  rw [ea]
  exact ⟨.ref _, _, I.lnew (t' := s.toks) (r.append r2) (by rw [List.length_append]; exact hz), rfl, q _ I.fresh⟩

/-- a + b -/
def addP (x y : D) (S : Sto) (Q : D → Sto → Prop) : Prop := match x, y with
  | .int i, .int j => Q (.int (i + j)) S
  | .lst l, .lst m => l.length + m.length ≤ 100000 ∧ Q (.lst (l ++ m)) S
  | .scr l, .lst m => l.length + m.length ≤ 100000 ∧ Q (.lst (l.map D.int ++ m)) S
  | .tup l, .tup m => (l.length ≠ 0 ∧ m.length ≠ 0 ∧ l.length + m.length ≤ 100000) ∧ Q (.tup (l ++ m)) S
  | .str i, .str j => i.length + j.length ≤ sizeLine ∧ Q (.str (i ++ j)) S
  | _, _ => False
theorem RpL.ne_nil {K : PySem.W.Frag} {H : Hp} {l : List D} {vs : List V} (h : RpL K H l vs) (n : l.length ≠ 0) : vs ≠ [] := fun z => by
  have := h.length
  rw [z] at this
  exact n this.symm
theorem sz5 {n : Nat} (h : n ≤ 100000) : n ≤ sizeLine := Nat.le_trans h (by decide)
/-- the reading of a new tuple, of a new list -/
theorem new_tup {K : PySem.W.Frag} {Hd H : Hp} {l : List D} {xs : List V} {p : Addr} (st : St0 K S Hd H) (r : RpL K Hd l xs) (hp : H p = none) (q : Q (.tup l) S) : QD K Hd Q (.ref p) (upd H p (.tup xs)) := by
  obtain ⟨e, st'⟩ := st.laid (o := .tup xs) hp
  exact ⟨.tup l, S, _, e, st', ⟨p, xs, rfl, SqT.of upd_same, r.mono e⟩, q⟩
theorem new_lst {K : PySem.W.Frag} {Hd H : Hp} {l : List D} {xs : List V} {p : Addr} (st : St0 K S Hd H) (r : RpL K Hd l xs) (hp : H p = none) (q : Q (.lst l) S) : QD K Hd Q (.ref p) (upd H p (.lst xs)) := by
  obtain ⟨e, st'⟩ := st.laid (o := .lst xs) hp
  exact ⟨.lst l, S, _, e, st', ⟨p, xs, rfl, upd_same, r.mono e⟩, q⟩
theorem OpR.or {f : Value → Value → Sem Value} {r r' : R2} (h : OpR X f r) (h' : OpR X f r') : OpR X f (fun x y H Q => r x y H Q ∨ r' x y H Q) := by
  intro pins s σ H x y v u Q I rx ry q
  rcases q with q | q
  · exact h pins s σ H x y v u Q I rx ry q
  · exact h' pins s σ H x y v u Q I rx ry q
theorem de_add (h : DE X a en S fun x S1 => DE X b en S1 fun y S2 => addP x y S2 Q) : DE X (.BinOp a .Add b pos) en S Q := by
  refine de_op (OpR.or op_add (OpR.or op_catL (OpR.or op_catT op_add_str))) (h.mono fun x S1 h1 => h1.mono fun y S2 h2 => ?_)
  intro H Hd vx vy Qv st rx ry k
  unfold addP at h2
  split at h2
  · exact .inl ⟨_, _, rx, ry, k _ _ (.here (d := .int _) st rfl h2)⟩
  · rename_i l m
    obtain ⟨p, xs, e1, e2, e3⟩ := rx
    obtain ⟨p', ys, f1, f2, f3⟩ := ry
    exact .inr (.inl ⟨p, p', xs, ys, e1, f1, .of (st.sub _ _ e2), .of (st.sub _ _ f2), by rw [e3.length, f3.length]; exact sz5 h2.1, fun q hq => k _ _ (new_lst st (e3.append f3) hq h2.2)⟩)
  · rename_i l m
    obtain ⟨p, e1, e2⟩ := rx
    obtain ⟨p', ys, f1, f2, f3⟩ := ry
    exact .inr (.inl ⟨p, p', l.map V.int, ys, e1, f1, same_l st.sub e2, .of (st.sub _ _ f2), by rw [List.length_map, f3.length]; exact sz5 h2.1, fun q hq => k _ _ (new_lst st (RpL.append (RpL.ints l) f3) hq h2.2)⟩)
  · rename_i l m
    obtain ⟨p, xs, e1, e2, e3⟩ := rx
    obtain ⟨p', ys, f1, f2, f3⟩ := ry
    obtain ⟨⟨n1, n2, n3⟩, h2⟩ := h2
    refine .inr (.inr (.inl ⟨p, p', xs, ys, e1, f1, same_t st.sub e2, same_t st.sub f2, e3.ne_nil n1, by rw [e3.length, f3.length]; exact sz5 n3, fun z => absurd z (f3.ne_nil n2), fun _ q hq => k _ _ (new_tup st (e3.append f3) hq h2)⟩))
  · exact .inr (.inr (.inr ⟨_, _, rx, ry, h2.1, k _ _ (.here (d := .str _) st rfl h2.2)⟩))
  · exact h2.elim
theorem add_int {i j : Int} (q : Q (.int (i + j)) S) : addP (.int i) (.int j) S Q := q
theorem add_lst {l m : List D} (q : Q (.lst (l ++ m)) S) (h : l.length + m.length ≤ 100000) : addP (.lst l) (.lst m) S Q := ⟨h, q⟩
theorem add_scr {l : List Int} {m : List D} (q : Q (.lst (l.map D.int ++ m)) S) (h : l.length + m.length ≤ 100000) : addP (.scr l) (.lst m) S Q := ⟨h, q⟩
theorem add_tup {l m : List D} (q : Q (.tup (l ++ m)) S) (h : l.length ≠ 0 ∧ m.length ≠ 0 ∧ l.length + m.length ≤ 100000) : addP (.tup l) (.tup m) S Q := ⟨h, q⟩
/-- a - b, a * b, a // b, a % b, a ** b -/
theorem de_sub (h : DE X a en S fun x S1 => DE X b en S1 fun y S2 => ∃ i j, x = .int i ∧ y = .int j ∧ Q (.int (i - j)) S2) : DE X (.BinOp a .Sub b pos) en S Q :=
  de_op op_sub (h.mono fun _ _ h1 => h1.mono fun _ _ ⟨_, _, e1, e2, q⟩ => by subst e1 e2; exact dr_I0 q)
def mulP (x y : D) (S : Sto) (Q : D → Sto → Prop) : Prop := match x, y with
  | .int i, .int j => CMulW i j ∧ Q (.int (i * j)) S
  | .lst l, .int k => (-(2 ^ 63) ≤ k ∧ k < 2 ^ 63 ∧ l.length * k.toNat ≤ 100000) ∧ Q (.lst (List.replicate k.toNat l).flatten) S
  | _, _ => False
theorem RpL.rep {K : PySem.W.Frag} {H : Hp} {l : List D} {vs : List V} (h : RpL K H l vs) : ∀ n : Nat, RpL K H (List.replicate n l).flatten (List.replicate n vs).flatten
  | 0 => rfl
  | n + 1 => by
    rw [List.replicate_succ, List.replicate_succ, List.flatten_cons, List.flatten_cons]
    exact h.append (RpL.rep h n)
theorem de_mul (h : DE X a en S fun x S1 => DE X b en S1 fun y S2 => mulP x y S2 Q) : DE X (.BinOp a .Mult b pos) en S Q := by
  refine de_op (OpR.or op_mulW op_rep) (h.mono fun x S1 h1 => h1.mono fun y S2 h2 => ?_)
  intro H Hd vx vy Qv st rx ry k
  unfold mulP at h2
  split at h2
  · exact .inl ⟨_, _, rx, ry, h2.1, k _ _ (.here (d := .int _) st rfl h2.2)⟩
  · obtain ⟨p, xs, e1, e2, e3⟩ := rx
    obtain ⟨⟨n1, n2, n3⟩, h2⟩ := h2
    exact .inr ⟨p, _, xs, e1, ry, st.sub _ _ e2, n1, n2, by rw [e3.length]; exact sz5 n3, fun q hq => k _ _ (new_lst st (e3.rep _) hq h2)⟩
  · exact h2.elim
theorem mul_i {i j : Int} (q : Q (.int (i * j)) S) (h : CMulW i j) : mulP (.int i) (.int j) S Q := ⟨h, q⟩
theorem mul_l {l : List D} {k : Int} (q : Q (.lst (List.replicate k.toNat l).flatten) S) (h : -(2 ^ 63) ≤ k ∧ k < 2 ^ 63 ∧ l.length * k.toNat ≤ 100000) : mulP (.lst l) (.int k) S Q := ⟨h, q⟩
theorem de_fdiv (h : DE X a en S fun x S1 => DE X b en S1 fun y S2 => ∃ i j, x = .int i ∧ y = .int j ∧ CDivW i j ∧ Q (.int (i / j)) S2) : DE X (.BinOp a .FloorDiv b pos) en S Q :=
  de_op op_fdivW (h.mono fun _ _ h1 => h1.mono fun _ _ ⟨_, _, e1, e2, hc, q⟩ => by subst e1 e2; exact dr_I hc q)
theorem de_mod (h : DE X a en S fun x S1 => DE X b en S1 fun y S2 => ∃ i j, x = .int i ∧ y = .int j ∧ 0 < j ∧ Q (.int (i % j)) S2) : DE X (.BinOp a .Mod b pos) en S Q :=
  de_op op_mod (h.mono fun _ _ h1 => h1.mono fun _ _ ⟨_, _, e1, e2, hc, q⟩ => by subst e1 e2; exact dr_I hc q)
/-- a ** b, b small, a of less than 2 ^ 20 bits -/
def CPowW (i j : Int) : Prop := 0 ≤ j ∧ j ≤ 64 ∧ i.natAbs.log2 < 1000000
theorem op_powW : OpR X (binaryOp .Pow) (rI CPowW fun i j => .int (i ^ j.toNat)) := opI fun i j _ _ _ _ _ hc q => by
  obtain ⟨h1, h2, h3⟩ := hc
  refine pow_int h1 ?_ q
  have b : Builtin.Int.intBits i ≤ i.natAbs.log2 + 1 := by
    unfold Builtin.Int.intBits
    split <;> omega
  have b2 : (Builtin.Int.intBits i : Int) ≤ 1000000 := by omega
  have b3 : (Builtin.Int.intBits i : Int) * j ≤ 1000000 * 64 := Int.mul_le_mul b2 h2 h1 (by decide)
  have b4 : (1000000 * 64 : Int) ≤ 2 ^ 27 := by decide
  omega
theorem de_pow (h : DE X a en S fun x S1 => DE X b en S1 fun y S2 => ∃ i j, x = .int i ∧ y = .int j ∧ CPowW i j ∧ Q (.int (i ^ j.toNat)) S2) : DE X (.BinOp a .Pow b pos) en S Q :=
  de_op op_powW (h.mono fun _ _ h1 => h1.mono fun _ _ ⟨_, _, e1, e2, hc, q⟩ => by subst e1 e2; exact dr_I hc q)
theorem de_neg (h : DE X a en S fun x S1 => ∃ i, x = .int i ∧ Q (.int (-i)) S1) : DE X (.UnaryOp .USub a pos) en S Q := ⟨fun σ H Hd st re => by
  refine wE_of (pe_un un_neg peW) ?_
  refine wE_mono (h σ H Hd st re) fun v H1 ⟨x, S1, Hd1, e1, st1, r1, i, e2, q1⟩ => ?_
  subst e2
  exact ⟨i, r1, .up e1 (.here (d := .int (-i)) st1 rfl q1)⟩⟩
end
end DL
namespace DL
open PySem PySem.Spec PyProof.Rows L2

/-! ### data as the library's data -/
mutual
def toPy : D → PyData
  | .non => .none
  | .bl b => .bool b
  | .int i => .int i
  | .str x => .str x
  | .tup l => .tuple (toPyL l)
  | .lst l => .list (toPyL l)
  | .raw _ => .none
  | .ext _ => .none
  | .scr ns => .list (ns.map PyData.int)
def toPyL : List D → List PyData
  | [] => []
  | d :: ds => toPy d :: toPyL ds
end
mutual
/-- plain data of at most this depth -/
def flatOk : Nat → D → Bool
  | _, .non => true
  | _, .bl _ => true
  | _, .int _ => true
  | _, .str x => PyData.strOk x
  | n + 1, .tup l => flatOkL n l
  | n + 1, .lst l => flatOkL n l
  | n + 1, .scr _ => true
  | _, _ => false
def flatOkL : Nat → List D → Bool
  | _, [] => true
  | n, d :: ds => flatOk n d && flatOkL n ds
end
theorem dpAll_ints {K : PySem.W.Frag} {H : Hp} : ∀ ns : List Int, DpAll K H (ns.map V.int) (ns.map PyData.int)
  | [] => .nil
  | n :: ns => .cons (.int n) (dpAll_ints ns)
mutual
theorem dp_of {K : PySem.W.Frag} {H : Hp} : ∀ (n : Nat) (d : D) (v : V), flatOk n d = true → Rp K H d v → Dp K H v (toPy d)
  | _, .non, v, _, r => by
    have r : v = _ := r
    subst r
    exact .non
  | _, .bl b, v, _, r => by
    have r : v = _ := r
    subst r
    exact .bl b
  | _, .int i, v, _, r => by
    have r : v = _ := r
    subst r
    exact .int i
  | _, .str x, v, _, r => by
    have r : v = _ := r
    subst r
    exact .str x
  | 0, .tup l, v, h, r => by simp [flatOk] at h
  | n + 1, .tup l, v, h, r => by
    obtain ⟨a, xs, rfl, h1, h2⟩ := r
    exact .tup h1 (dpAll_of n l xs (by simpa [flatOk] using h) h2)
  | 0, .lst l, v, h, r => by simp [flatOk] at h
  | n + 1, .lst l, v, h, r => by
    obtain ⟨a, xs, rfl, h1, h2⟩ := r
    exact .lst (.of h1) (dpAll_of n l xs (by simpa [flatOk] using h) h2)
  | 0, .scr l, v, h, r => by simp [flatOk] at h
  | n + 1, .scr ns, v, h, r => by
    obtain ⟨a, rfl, h1⟩ := r
    exact .lst h1 (dpAll_ints ns)
  | 0, .raw _, v, h, r => by simp [flatOk] at h
  | _ + 1, .raw _, v, h, r => by simp [flatOk] at h
  | 0, .ext _, v, h, r => by simp [flatOk] at h
  | _ + 1, .ext _, v, h, r => by simp [flatOk] at h
theorem dpAll_of {K : PySem.W.Frag} {H : Hp} : ∀ (n : Nat) (l : List D) (vs : List V), flatOkL n l = true → RpL K H l vs → DpAll K H vs (toPyL l)
  | _, [], vs, _, r => by
    have r : vs = [] := r
    subst r
    exact .nil
  | n, d :: ds, vs, h, r => by
    obtain ⟨x, xs, rfl, h1, h2⟩ := r
    rw [flatOkL, Bool.and_eq_true] at h
    exact .cons (dp_of n d x h.1 h1) (dpAll_of n ds xs h.2 h2)
end
theorem canLay_ints : ∀ ns : List Int, PyData.canLayAll0 (ns.map PyData.int) = true
  | [] => rfl
  | n :: ns => by
    show (PyData.canLay0 (.int n) && PyData.canLayAll0 (ns.map PyData.int)) = true
    rw [canLay_ints ns] <;> rfl
theorem depth_ints : ∀ ns : List Int, PyData.depthAll (ns.map PyData.int) = 0
  | [] => rfl
  | n :: ns => by
    show max (PyData.depth (.int n)) (PyData.depthAll (ns.map PyData.int)) = 0
    rw [depth_ints ns] <;> rfl
mutual
theorem lay_of : ∀ (n : Nat) (d : D), flatOk n d = true → (toPy d).canLay0 = true ∧ (toPy d).depth ≤ n
  | _, .non, _ => ⟨rfl, Nat.zero_le _⟩
  | _, .bl b, _ => ⟨rfl, Nat.zero_le _⟩
  | _, .int b, _ => ⟨rfl, Nat.zero_le _⟩
  | _, .str b, h => ⟨by simpa [flatOk, toPy, PyData.canLay0] using h, Nat.zero_le _⟩
  | 0, .tup l, h => by simp [flatOk] at h
  | n + 1, .tup l, h => by
    obtain ⟨h1, h2⟩ := layAll_of n l (by simpa [flatOk] using h)
    exact ⟨by simpa [toPy, PyData.canLay0] using h1, by simpa [toPy, PyData.depth] using h2⟩
  | 0, .lst l, h => by simp [flatOk] at h
  | n + 1, .lst l, h => by
    obtain ⟨h1, h2⟩ := layAll_of n l (by simpa [flatOk] using h)
    exact ⟨by simpa [toPy, PyData.canLay0] using h1, by simpa [toPy, PyData.depth] using h2⟩
  | 0, .scr l, h => by simp [flatOk] at h
  | n + 1, .scr ns, h => by
    refine ⟨by simpa [toPy, PyData.canLay0] using canLay_ints ns, ?_⟩
    show PyData.depthAll (ns.map PyData.int) + 1 ≤ n + 1
    rw [depth_ints]
    omega
  | 0, .raw _, h => by simp [flatOk] at h
  | _ + 1, .raw _, h => by simp [flatOk] at h
  | 0, .ext _, h => by simp [flatOk] at h
  | _ + 1, .ext _, h => by simp [flatOk] at h
theorem layAll_of : ∀ (n : Nat) (l : List D), flatOkL n l = true → PyData.canLayAll0 (toPyL l) = true ∧ PyData.depthAll (toPyL l) ≤ n
  | _, [], _ => ⟨rfl, Nat.zero_le _⟩
  | n, d :: ds, h => by
    rw [flatOkL, Bool.and_eq_true] at h
    obtain ⟨h1, h2⟩ := lay_of n d h.1
    obtain ⟨h3, h4⟩ := layAll_of n ds h.2
    refine ⟨?_, ?_⟩
    · show (PyData.canLay0 (toPy d) && PyData.canLayAll0 (toPyL ds)) = true
      rw [h1, h3] <;> rfl
    · show max (PyData.depth (toPy d)) (PyData.depthAll (toPyL ds)) ≤ n
      omega
end
theorem shaped_of {n : Nat} {d : D} (h : flatOk n d = true) (hn : n ≤ 64) : SeqAt.shaped (toPy d) = true := by
  obtain ⟨h1, h2⟩ := lay_of n d h
  unfold SeqAt.shaped
  rw [h1, decide_eq_true (show (toPy d).depth ≤ 64 by omega)] <;> rfl
theorem flatOkL_mem {n : Nat} : ∀ {l : List D}, (∀ d ∈ l, flatOk n d = true) → flatOkL n l = true
  | [], _ => by simp [flatOkL]
  | d :: ds, h => by
    rw [flatOkL, h d List.mem_cons_self, flatOkL_mem fun x hx => h x (List.mem_cons_of_mem _ hx)] <;> rfl
/-- how data is compared -/
def eqB (x y : D) : Bool := PyData.eqv (toPy x) (toPy y)
theorem eqB_refl {n : Nat} {d : D} (h : flatOk n d = true) : eqB d d = true := PySem.SeqAt.eqv_refl _ (lay_of n d h).1
theorem eqB_of {n : Nat} {d e : D} (h : flatOk n d = true) (z : d = e) : eqB d e = true := by
  subst z
  exact eqB_refl h

section
variable {X : Cx} {a b c e : Expr} {es : List Expr} {en : DEnv} {S : Sto} {Q : D → Sto → Prop} {pos : Pos}
/-! ### comparisons as values -/
def eqP (x y : D) (S : Sto) (Q : Bool → Sto → Prop) : Prop := match x, y with
  | .int i, .int j => Q (decide (i = j)) S
  | .str i, .str j => Q (decide (i = j)) S
  | x, y => (flatOk 9 x = true ∧ flatOk 9 y = true) ∧ Q (eqB x y) S
theorem dr_eq {K : PySem.W.Frag} {x y : D} (h : eqP x y S fun b S' => Q (.bl b) S') : DR2 K (fun x y H Q => rEq x y H Q ∨ rEqD K x y H Q) x y S Q := by
  intro H Hd vx vy Qv st rx ry k
  have deep : (flatOk 9 x = true ∧ flatOk 9 y = true) ∧ Q (.bl (eqB x y)) S → rEqD K vx vy H Qv := fun ⟨⟨h1, h2⟩, q⟩ =>
    ⟨toPy x, toPy y, dp_of 9 x vx h1 (Rp.mono st.sub x vx rx), dp_of 9 y vy h2 (Rp.mono st.sub y vy ry), shaped_of h1 (by decide), shaped_of h2 (by decide), k _ _ (.here (d := .bl (eqB x y)) st rfl q)⟩
  unfold eqP at h
  split at h
  · rename_i i j
    have e1 : vx = .int i := rx
    have e2 : vy = .int j := ry
    subst e1 e2
    refine .inl ⟨rfl, ?_⟩
    have e : decide (V.int i = V.int j) = decide (i = j) := by simp
    rw [e]
    exact k _ _ (.here (d := .bl (decide (i = j))) st rfl h)
  · rename_i i j
    have e1 : vx = .str i := rx
    have e2 : vy = .str j := ry
    subst e1 e2
    refine .inl ⟨rfl, ?_⟩
    have e : decide (V.str i = V.str j) = decide (i = j) := by simp
    rw [e]
    exact k _ _ (.here (d := .bl (decide (i = j))) st rfl h)
  · exact .inr (deep h)
theorem dr_ne {K : PySem.W.Frag} {x y : D} (h : eqP x y S fun b S' => Q (.bl (!b)) S') : DR2 K (fun x y H Q => rNe x y H Q ∨ rNeD K x y H Q) x y S Q := by
  intro H Hd vx vy Qv st rx ry k
  have deep : (flatOk 9 x = true ∧ flatOk 9 y = true) ∧ Q (.bl (!eqB x y)) S → rNeD K vx vy H Qv := fun ⟨⟨h1, h2⟩, q⟩ =>
    ⟨toPy x, toPy y, dp_of 9 x vx h1 (Rp.mono st.sub x vx rx), dp_of 9 y vy h2 (Rp.mono st.sub y vy ry), shaped_of h1 (by decide), shaped_of h2 (by decide), k _ _ (.here (d := .bl (!eqB x y)) st rfl q)⟩
  unfold eqP at h
  split at h
  · rename_i i j
    have e1 : vx = .int i := rx
    have e2 : vy = .int j := ry
    subst e1 e2
    refine .inl ⟨rfl, ?_⟩
    have e : decide (V.int i = V.int j) = decide (i = j) := by simp
    rw [e]
    exact k _ _ (.here (d := .bl (!decide (i = j))) st rfl h)
  · rename_i i j
    have e1 : vx = .str i := rx
    have e2 : vy = .str j := ry
    subst e1 e2
    refine .inl ⟨rfl, ?_⟩
    have e : decide (V.str i = V.str j) = decide (i = j) := by simp
    rw [e]
    exact k _ _ (.here (d := .bl (!decide (i = j))) st rfl h)
  · exact .inr (deep h)
theorem eq_int {i j : Int} {Q : Bool → Sto → Prop} (q : Q (decide (i = j)) S) : eqP (.int i) (.int j) S Q := q
theorem eq_str {i j : Str} {Q : Bool → Sto → Prop} (q : Q (decide (i = j)) S) : eqP (.str i) (.str j) S Q := q
theorem eq_tup {l m : List D} {Q : Bool → Sto → Prop} (q : Q (eqB (.tup l) (.tup m)) S) (h : flatOk 9 (.tup l) = true ∧ flatOk 9 (.tup m) = true := by exact ⟨rfl, rfl⟩) : eqP (.tup l) (.tup m) S Q := ⟨h, q⟩
theorem eq_lst {l m : List D} {Q : Bool → Sto → Prop} (q : Q (eqB (.lst l) (.lst m)) S) (h : flatOk 9 (.lst l) = true ∧ flatOk 9 (.lst m) = true := by exact ⟨rfl, rfl⟩) : eqP (.lst l) (.lst m) S Q := ⟨h, q⟩
theorem eq_scr {l : List Int} {m : List D} {Q : Bool → Sto → Prop} (q : Q (eqB (.scr l) (.lst m)) S) (h : flatOk 9 (.scr l) = true ∧ flatOk 9 (.lst m) = true := by exact ⟨rfl, rfl⟩) : eqP (.scr l) (.lst m) S Q := ⟨h, q⟩
theorem eq_deep {x y : D} {Q : Bool → Sto → Prop} (q : Q (eqB x y) S) (h : flatOk 9 x = true ∧ flatOk 9 y = true) (n1 : ∀ i j, x = .int i → y = .int j → False) (n2 : ∀ i j, x = .str i → y = .str j → False) : eqP x y S Q := by
  unfold eqP
  split
  · exact (n1 _ _ rfl rfl).elim
  · exact (n2 _ _ rfl rfl).elim
  · exact ⟨h, q⟩
/-- two equal data -/
theorem eqP_same {x y : D} {Q : Bool → Sto → Prop} (z : x = y) (h : flatOk 9 x = true) (q : Q true S) : eqP x y S Q := by
  subst z
  have e := eqB_refl h
  cases x <;> first
    | (refine ⟨⟨h, h⟩, ?_⟩
       rw [e]
       exact q)
    | (show Q (decide (_ = _)) S
       rw [decide_eq_true rfl]
       exact q)
theorem de_eq (hu : X.A.units + 64 < cLine) (h : DE X a en S fun x S1 => DE X b en S1 fun y S2 => eqP x y S2 fun b S' => Q (.bl b) S') : DE X (.Compare a [.Eq] [b] pos) en S Q :=
  de_cmpR (OpR.or op_eq (op_eqD hu)) (nobehind _ (by decide) (by decide)) (h.mono fun _ _ h1 => h1.mono fun _ _ h2 => dr_eq h2)
theorem de_ne (hu : X.A.units + 64 < cLine) (h : DE X a en S fun x S1 => DE X b en S1 fun y S2 => eqP x y S2 fun b S' => Q (.bl (!b)) S') : DE X (.Compare a [.NotEq] [b] pos) en S Q :=
  de_cmpR (OpR.or op_ne (op_neD hu)) (nobehind _ (by decide) (by decide)) (h.mono fun _ _ h1 => h1.mono fun _ _ h2 => dr_ne h2)
theorem de_lt (h : DE X a en S fun x S1 => DE X b en S1 fun y S2 => ∃ i j, x = .int i ∧ y = .int j ∧ Q (.bl (decide (i < j))) S2) : DE X (.Compare a [.Lt] [b] pos) en S Q :=
  de_cmpR op_lt (nobehind _ (by decide) (by decide)) (h.mono fun _ _ h1 => h1.mono fun _ _ ⟨_, _, e1, e2, q⟩ => by subst e1 e2; exact dr_B0 q)
theorem de_le (h : DE X a en S fun x S1 => DE X b en S1 fun y S2 => ∃ i j, x = .int i ∧ y = .int j ∧ Q (.bl (decide (i ≤ j))) S2) : DE X (.Compare a [.LtE] [b] pos) en S Q :=
  de_cmpR op_le (nobehind _ (by decide) (by decide)) (h.mono fun _ _ h1 => h1.mono fun _ _ ⟨_, _, e1, e2, q⟩ => by subst e1 e2; exact dr_B0 q)
theorem de_gt (h : DE X a en S fun x S1 => DE X b en S1 fun y S2 => ∃ i j, x = .int i ∧ y = .int j ∧ Q (.bl (decide (j < i))) S2) : DE X (.Compare a [.Gt] [b] pos) en S Q :=
  de_cmpR op_gt (nobehind _ (by decide) (by decide)) (h.mono fun _ _ h1 => h1.mono fun _ _ ⟨_, _, e1, e2, q⟩ => by subst e1 e2; exact dr_B0 q)
theorem de_ge (h : DE X a en S fun x S1 => DE X b en S1 fun y S2 => ∃ i j, x = .int i ∧ y = .int j ∧ Q (.bl (decide (j ≤ i))) S2) : DE X (.Compare a [.GtE] [b] pos) en S Q :=
  de_cmpR op_ge (nobehind _ (by decide) (by decide)) (h.mono fun _ _ h1 => h1.mono fun _ _ ⟨_, _, e1, e2, q⟩ => by subst e1 e2; exact dr_B0 q)
/-- a op b op' c of ints -/
theorem de_chain {op op' : CmpOp} {g g' : Int → Int → Bool} (ho : OpR X (compareOp op) (rI0 fun i j => .bl (g i j))) (ho' : OpR X (compareOp op') (rI0 fun i j => .bl (g' i j))) (hm : lastMarks [op, op'] [b, c] = false := by rfl)
    (h : DE X a en S fun x S1 => DE X b en S1 fun y S2 => ∃ i j, x = .int i ∧ y = .int j ∧ (g i j = false → Q (.bl false) S2) ∧ (g i j = true → DE X c en S2 fun z S3 => ∃ k, z = .int k ∧ Q (.bl (g' j k)) S3)) :
    DE X (.Compare a [op, op'] [b, c] pos) en S Q := ⟨fun σ H Hd st re => by
  refine wE_of (pe_chain ho ho' peW peW peW (hm := hm)) ?_
  refine wE_mono (h σ H Hd st re) fun v H1 ⟨x, S1, Hd1, e1, st1, r1, q1⟩ => ?_
  refine wE_mono (q1 σ H1 Hd1 st1 (re.mono e1)) fun u H2 ⟨y, S2, Hd2, e2, st2, r2, i, j, ex, ey, q2, q3⟩ => ?_
  subst ex ey
  refine ⟨i, j, r1, r2, g i j, rfl, ?_⟩
  by_cases hg : g i j = true
  · rw [if_pos hg]
    refine wE_mono (q3 hg σ H2 Hd2 st2 (re.mono (e1.trans e2))) fun w H3 ⟨z, S3, Hd3, e3, st3, r3, k, ez, q4⟩ => ?_
    subst ez
    exact ⟨j, k, r2, r3, .up ((e1.trans e2).trans e3) (.here (d := .bl (g' j k)) st3 rfl q4)⟩
  · rw [if_neg hg]
    exact .up (e1.trans e2) (.here (d := .bl false) st2 rfl (q2 (by simpa using hg)))⟩
/-! ### truths as values -/
theorem de_not (h : DE X a en S fun x S1 => ∃ c, x = .bl c ∧ Q (.bl (!c)) S1) : DE X (.UnaryOp .Not a pos) en S Q := ⟨fun σ H Hd st re => by
  refine wE_of (pe_not peW) ?_
  refine wE_mono (h σ H Hd st re) fun v H1 ⟨x, S1, Hd1, e1, st1, r1, i, e2, q1⟩ => ?_
  subst e2
  exact ⟨i, r1, .up e1 (.here (d := .bl (!i)) st1 rfl q1)⟩⟩
theorem de_one {op} (h : DE X a en S Q) : DE X (.BoolOp op [a] pos) en S Q := ⟨fun σ H Hd st re => wE_of (pe_one peW) (h σ H Hd st re)⟩
theorem de_and {rest : List Expr} (h : DE X a en S fun x S1 => ∃ c, x = .bl c ∧ (c = false → Q (.bl false) S1) ∧ (c = true → DE X (.BoolOp .And (b :: rest) pos) en S1 Q)) : DE X (.BoolOp .And (a :: b :: rest) pos) en S Q := ⟨fun σ H Hd st re => by
  refine wE_of (pe_and peW peW) ?_
  refine wE_mono (h σ H Hd st re) fun v H1 ⟨x, S1, Hd1, e1, st1, r1, i, e2, q1, q2⟩ => ?_
  subst e2
  refine ⟨i, r1, ?_⟩
  cases i with
  | true =>
    rw [if_pos rfl]
    exact wE_mono (q2 rfl σ H1 Hd1 st1 (re.mono e1)) fun _ _ z => .up e1 z
  | false =>
    rw [if_neg Bool.false_ne_true]
    exact .up e1 (.here (d := .bl false) st1 rfl (q1 rfl))⟩
theorem de_or {rest : List Expr} (h : DE X a en S fun x S1 => ∃ c, x = .bl c ∧ (c = true → Q (.bl true) S1) ∧ (c = false → DE X (.BoolOp .Or (b :: rest) pos) en S1 Q)) : DE X (.BoolOp .Or (a :: b :: rest) pos) en S Q := ⟨fun σ H Hd st re => by
  refine wE_of (pe_or peW peW) ?_
  refine wE_mono (h σ H Hd st re) fun v H1 ⟨x, S1, Hd1, e1, st1, r1, i, e2, q1, q2⟩ => ?_
  subst e2
  refine ⟨i, r1, ?_⟩
  cases i with
  | false =>
    rw [if_neg Bool.false_ne_true]
    exact wE_mono (q2 rfl σ H1 Hd1 st1 (re.mono e1)) fun _ _ z => .up e1 z
  | true =>
    rw [if_pos rfl]
    exact .up e1 (.here (d := .bl true) st1 rfl (q1 rfl))⟩
theorem de_ifE (h : DT X c en S fun t S1 => (t = true → DE X a en S1 Q) ∧ (t = false → DE X b en S1 Q)) : DE X (.IfExp c a b pos) en S Q := ⟨fun σ H Hd st re => by
  refine wE_of (pe_ifExp ptW peW peW) ?_
  refine wT_mono (h σ H Hd st re) fun t H1 ⟨S1, Hd1, e1, st1, q1, q2⟩ => ?_
  cases t with
  | true =>
    rw [if_pos rfl]
    exact wE_mono (q1 rfl σ H1 Hd1 st1 (re.mono e1)) fun _ _ z => .up e1 z
  | false =>
    rw [if_neg Bool.false_ne_true]
    exact wE_mono (q2 rfl σ H1 Hd1 st1 (re.mono e1)) fun _ _ z => .up e1 z⟩
/-! ### tests -/
variable {P : Bool → Sto → Prop}
theorem dt_val (h : DE X a en S fun x S1 => ∃ c, x = .bl c ∧ P c S1) (he : ∀ whole, isTrue a X.env whole = (do let v ← whole; standAt a.pos; holding [v] (truthy v)) := by intro _; rfl) : DT X a en S P := ⟨fun σ H Hd st re => by
  refine wT_of (pt_val peW he) ?_
  refine wE_mono (h σ H Hd st re) fun v H1 ⟨x, S1, Hd1, e1, st1, r1, i, e2, q1⟩ => ?_
  subst e2
  exact ⟨i, r1, S1, Hd1, e1, st1, q1⟩⟩
theorem dt_not (h : DT X a en S fun c S1 => P (!c) S1) : DT X (.UnaryOp .Not a pos) en S P := ⟨fun σ H Hd st re => by
  refine wT_of (pt_not ptW) ?_
  exact wT_mono (h σ H Hd st re) fun c H1 ⟨S1, Hd1, e1, st1, q⟩ => ⟨S1, Hd1, e1, st1, q⟩⟩
theorem dt_w (h : DW X a en S P) : DT X a en S P := ⟨fun σ H Hd st re => wT_of (PW.pt pwW) (h σ H Hd st re)⟩
theorem dw_and1 (h : DT X a en S P) : DW X (.BoolOp .And [a] pos) en S P := ⟨fun σ H Hd st re => wW_of (pw_and1 ptW) (h σ H Hd st re)⟩
theorem dw_or1 (h : DT X a en S P) : DW X (.BoolOp .Or [a] pos) en S P := ⟨fun σ H Hd st re => wW_of (pw_or1 ptW) (h σ H Hd st re)⟩
theorem dw_and {rest : List Expr} (h : DT X a en S fun c S1 => (c = false → P false S1) ∧ (c = true → DW X (.BoolOp .And (b :: rest) pos) en S1 P)) : DW X (.BoolOp .And (a :: b :: rest) pos) en S P := ⟨fun σ H Hd st re => by
  refine wW_of (pw_and ptW pwW) ?_
  refine wT_mono (h σ H Hd st re) fun c H1 ⟨S1, Hd1, e1, st1, q1, q2⟩ => ?_
  cases c with
  | true =>
    rw [if_pos rfl]
    exact wW_mono (q2 rfl σ H1 Hd1 st1 (re.mono e1)) fun _ _ z => .up e1 z
  | false =>
    rw [if_neg Bool.false_ne_true]
    exact ⟨S1, Hd1, e1, st1, q1 rfl⟩⟩
theorem dw_or {rest : List Expr} (h : DT X a en S fun c S1 => (c = true → P true S1) ∧ (c = false → DW X (.BoolOp .Or (b :: rest) pos) en S1 P)) : DW X (.BoolOp .Or (a :: b :: rest) pos) en S P := ⟨fun σ H Hd st re => by
  refine wW_of (pw_or ptW pwW) ?_
  refine wT_mono (h σ H Hd st re) fun c H1 ⟨S1, Hd1, e1, st1, q1, q2⟩ => ?_
  cases c with
  | false =>
    rw [if_neg Bool.false_ne_true]
    exact wW_mono (q2 rfl σ H1 Hd1 st1 (re.mono e1)) fun _ _ z => .up e1 z
  | true =>
    rw [if_pos rfl]
    exact ⟨S1, Hd1, e1, st1, q1 rfl⟩⟩
/-- a comparison as a test -/
theorem dt_cmp {op : CmpOp} {r : R2} (ho : OpR X (compareOp op) r) (hm : behindInMarks op b = false) (h : DE X a en S fun x S1 => DE X b en S1 fun y S2 => DR2 X.K r x y S2 fun d S' => ∃ c, d = .bl c ∧ P c S') : DT X (.Compare a [op] [b] pos) en S P := ⟨fun σ H Hd st re => by
  refine wT_of (pt_cmpR ho peW peW hm) ?_
  refine wE_mono (h σ H Hd st re) fun v H1 ⟨x, S1, Hd1, e1, st1, r1, q1⟩ => ?_
  refine wE_mono (q1 σ H1 Hd1 st1 (re.mono e1)) fun u H2 ⟨y, S2, Hd2, e2, st2, r2, q2⟩ => ?_
  refine q2 H2 Hd2 v u _ st2 (Rp.mono e2 x v r1) r2 fun w H3 ⟨d, S3, Hd3, e3, st3, r3, c, ed, q3⟩ => ?_
  subst ed
  exact ⟨c, r3, S3, Hd3, (e1.trans e2).trans e3, st3, q3⟩⟩
theorem dt_lt (h : DE X a en S fun x S1 => DE X b en S1 fun y S2 => ∃ i j, x = .int i ∧ y = .int j ∧ P (decide (i < j)) S2) : DT X (.Compare a [.Lt] [b] pos) en S P :=
  dt_cmp op_lt (nobehind _ (by decide) (by decide)) (h.mono fun _ _ h1 => h1.mono fun _ _ ⟨_, _, e1, e2, q⟩ => by subst e1 e2; exact dr_B0 ⟨_, rfl, q⟩)
theorem dt_le (h : DE X a en S fun x S1 => DE X b en S1 fun y S2 => ∃ i j, x = .int i ∧ y = .int j ∧ P (decide (i ≤ j)) S2) : DT X (.Compare a [.LtE] [b] pos) en S P :=
  dt_cmp op_le (nobehind _ (by decide) (by decide)) (h.mono fun _ _ h1 => h1.mono fun _ _ ⟨_, _, e1, e2, q⟩ => by subst e1 e2; exact dr_B0 ⟨_, rfl, q⟩)
theorem dt_gt (h : DE X a en S fun x S1 => DE X b en S1 fun y S2 => ∃ i j, x = .int i ∧ y = .int j ∧ P (decide (j < i)) S2) : DT X (.Compare a [.Gt] [b] pos) en S P :=
  dt_cmp op_gt (nobehind _ (by decide) (by decide)) (h.mono fun _ _ h1 => h1.mono fun _ _ ⟨_, _, e1, e2, q⟩ => by subst e1 e2; exact dr_B0 ⟨_, rfl, q⟩)
theorem dt_ge (h : DE X a en S fun x S1 => DE X b en S1 fun y S2 => ∃ i j, x = .int i ∧ y = .int j ∧ P (decide (j ≤ i)) S2) : DT X (.Compare a [.GtE] [b] pos) en S P :=
  dt_cmp op_ge (nobehind _ (by decide) (by decide)) (h.mono fun _ _ h1 => h1.mono fun _ _ ⟨_, _, e1, e2, q⟩ => by subst e1 e2; exact dr_B0 ⟨_, rfl, q⟩)
theorem dt_eq (hu : X.A.units + 64 < cLine) (h : DE X a en S fun x S1 => DE X b en S1 fun y S2 => eqP x y S2 P) : DT X (.Compare a [.Eq] [b] pos) en S P :=
  dt_cmp (OpR.or op_eq (op_eqD hu)) (nobehind _ (by decide) (by decide)) (h.mono fun _ _ h1 => h1.mono fun x y h2 => dr_eq (by
    unfold eqP at h2 ⊢
    split at h2 <;> first | exact ⟨_, rfl, h2⟩ | exact ⟨h2.1, _, rfl, h2.2⟩))
theorem dt_ne (hu : X.A.units + 64 < cLine) (h : DE X a en S fun x S1 => DE X b en S1 fun y S2 => eqP x y S2 fun b S' => P (!b) S') : DT X (.Compare a [.NotEq] [b] pos) en S P :=
  dt_cmp (OpR.or op_ne (op_neD hu)) (nobehind _ (by decide) (by decide)) (h.mono fun _ _ h1 => h1.mono fun x y h2 => dr_ne (by
    unfold eqP at h2 ⊢
    split at h2 <;> first | exact ⟨_, rfl, h2⟩ | exact ⟨h2.1, _, rfl, h2.2⟩))
theorem dt_chain {op op' : CmpOp} {g g' : Int → Int → Bool} (ho : OpR X (compareOp op) (rI0 fun i j => .bl (g i j))) (ho' : OpR X (compareOp op') (rI0 fun i j => .bl (g' i j))) (hm : lastMarks [op, op'] [b, c] = false := by rfl)
    (h : DE X a en S fun x S1 => DE X b en S1 fun y S2 => ∃ i j, x = .int i ∧ y = .int j ∧ (g i j = false → P false S2) ∧ (g i j = true → DE X c en S2 fun z S3 => ∃ k, z = .int k ∧ P (g' j k) S3)) :
    DT X (.Compare a [op, op'] [b, c] pos) en S P := ⟨fun σ H Hd st re => by
  refine wT_of (pt_chain ho ho' peW peW peW (hm := hm)) ?_
  refine wE_mono (h σ H Hd st re) fun v H1 ⟨x, S1, Hd1, e1, st1, r1, q1⟩ => ?_
  refine wE_mono (q1 σ H1 Hd1 st1 (re.mono e1)) fun u H2 ⟨y, S2, Hd2, e2, st2, r2, i, j, ex, ey, q2, q3⟩ => ?_
  subst ex ey
  refine ⟨i, j, r1, r2, g i j, rfl, ?_⟩
  by_cases hg : g i j = true
  · rw [if_pos hg]
    refine wE_mono (q3 hg σ H2 Hd2 st2 (re.mono (e1.trans e2))) fun w H3 ⟨z, S3, Hd3, e3, st3, r3, k, ez, q4⟩ => ?_
    subst ez
    exact ⟨j, k, r2, r3, g' j k, rfl, S3, Hd3, (e1.trans e2).trans e3, st3, q4⟩
  · rw [if_neg hg]
    exact ⟨false, rfl, S2, Hd2, e1.trans e2, st2, q2 (by simpa using hg)⟩⟩
/-! ### displays, subscripts, slices -/
variable {R : List D → Sto → Prop}
theorem da_nil (q : R [] S) : DA X [] en S R := ⟨fun σ H Hd st _ => wA_of pa_nil ⟨[], S, Hd, Same.refl _, st, rfl, q⟩⟩
theorem da_cons (h : DE X e en S fun x S1 => DA X es en S1 fun xs S2 => R (x :: xs) S2) (hs : starEach (e :: es) X.env = (false, eval e X.env) :: starEach es X.env := by rfl) : DA X (e :: es) en S R := ⟨fun σ H Hd st re => by
  refine wA_of (pa_cons peW paW hs) ?_
  refine wE_mono (h σ H Hd st re) fun v H1 ⟨x, S1, Hd1, e1, st1, r1, q1⟩ => ?_
  refine wA_mono (q1 σ H1 Hd1 st1 (re.mono e1)) fun vs H2 ⟨xs, S2, Hd2, e2, st2, r2, q2⟩ => ?_
  exact ⟨x :: xs, S2, Hd2, e1.trans e2, st2, ⟨v, vs, rfl, Rp.mono e2 x v r1, r2⟩, q2⟩⟩
theorem DA.mono {R' : List D → Sto → Prop} (h : DA X es en S R) (k : ∀ d S', R d S' → R' d S') : DA X es en S R' := ⟨fun σ H Hd st re =>
  wA_mono (h σ H Hd st re) fun _ _ ⟨d, S', Hd', e', st', r, q⟩ => ⟨d, S', Hd', e', st', r, k d S' q⟩⟩
theorem de_tup {x1} (h : DA X es en S fun xs S1 => xs.length ≤ 100000 ∧ Q (.tup xs) S1) : DE X (.Tuple es x1 pos) en S Q := ⟨fun σ H Hd st re => by
  refine wE_of (pe_tup paW) ?_
  refine wA_mono (h σ H Hd st re) fun vs H1 ⟨xs, S1, Hd1, e1, st1, r1, n1, q1⟩ => ?_
  exact ⟨by rw [r1.length]; exact sz5 n1, fun p hp => .up e1 (new_tup st1 r1 hp q1)⟩⟩
theorem de_lst (h : DA X es en S fun xs S1 => xs.length ≤ 100000 ∧ Q (.lst xs) S1) : DE X (.List es pos) en S Q := ⟨fun σ H Hd st re => by
  refine wE_of (pe_lst paW) ?_
  refine wA_mono (h σ H Hd st re) fun vs H1 ⟨xs, S1, Hd1, e1, st1, r1, n1, q1⟩ => ?_
  exact ⟨by rw [r1.length]; exact sz5 n1, fun p hp => .up e1 (new_lst st1 r1 hp q1)⟩⟩
/-- a list that will be changed -/
theorem de_lstO (h : DA X es en S fun xs S1 => xs.length ≤ 100000 ∧ ∀ p, getS p S1 = none → Q (.raw (.ref p)) ((p, xs) :: S1)) : DE X (.List es pos) en S Q := ⟨fun σ H Hd st re => by
  refine wE_of (pe_lst paW) ?_
  refine wA_mono (h σ H Hd st re) fun vs H1 ⟨xs, S1, Hd1, e1, st1, r1, n1, q1⟩ => ?_
  refine ⟨by rw [r1.length]; exact sz5 n1, fun p hp => ?_⟩
  obtain ⟨g, st2⟩ := st1.laidO hp r1
  exact ⟨.raw (.ref p), _, Hd1, e1, st2, rfl, q1 p g⟩⟩
def ixP (x y : D) (S : Sto) (Q : D → Sto → Prop) : Prop := match x, y with
  | .tup l, .int i => ∃ d, atI l i = some d ∧ Q d S
  | .lst l, .int i => ∃ d, atI l i = some d ∧ Q d S
  | .raw (.ref p), .int i => ∃ l d, getS p S = some l ∧ atI l i = some d ∧ Q d S
  | _, _ => False
theorem RpL.at {K : PySem.W.Frag} {H : Hp} {l : List D} {vs : List V} {i : Int} {d : D} (h : RpL K H l vs) (e : atI l i = some d) : ∃ v, atI vs i = some v ∧ Rp K H d v := by
  unfold atI at e ⊢
  rw [h.length]
  cases q : ixN l.length i with
  | none =>
    rw [q] at e
    cases e
  | some j =>
    rw [q] at e
    exact h.get e
theorem de_ix (hs : PlainIx b := by exact fun _ _ => rfl) (h : DE X a en S fun x S1 => DE X b en S1 fun y S2 => ixP x y S2 Q) : DE X (.Subscript a b pos) en S Q := by
  refine de_two (f := fun _ _ => pure .none) (fun ha hb => pe_ix (IxR.or ix_list ix_tup) ha hb hs) (h.mono fun x S1 h1 => h1.mono fun y S2 h2 => ?_)
  intro H Hd vx vy Qv st rx ry k
  unfold ixP at h2
  split at h2
  · obtain ⟨p, xs, e1, e2, e3⟩ := rx
    obtain ⟨d, ed, q⟩ := h2
    obtain ⟨v, ev, rv⟩ := e3.at ed
    exact .inr ⟨p, xs, _, v, e1, ry, same_t st.sub e2, ev, k _ _ (.here st rv q)⟩
  · obtain ⟨p, xs, e1, e2, e3⟩ := rx
    obtain ⟨d, ed, q⟩ := h2
    obtain ⟨v, ev, rv⟩ := e3.at ed
    exact .inl ⟨p, xs, _, v, e1, ry, .of (st.sub _ _ e2), ev, k _ _ (.here st rv q)⟩
  · obtain ⟨l, d, g, ed, q⟩ := h2
    obtain ⟨_, xs, e2, e3⟩ := st.own.at g
    obtain ⟨v, ev, rv⟩ := e3.at ed
    exact .inl ⟨_, xs, _, v, rx, ry, .of e2, ev, k _ _ (.here st rv q)⟩
  · exact h2.elim
theorem ix_t {l : List D} {i : Int} {d : D} (q : Q d S) (h : atI l i = some d := by rfl) : ixP (.tup l) (.int i) S Q := ⟨d, h, q⟩
theorem ix_l {l : List D} {i : Int} {d : D} (q : Q d S) (h : atI l i = some d := by rfl) : ixP (.lst l) (.int i) S Q := ⟨d, h, q⟩
theorem ix_o {p : Addr} {l : List D} {i : Int} {d : D} (g : getS p S = some l) (q : Q d S) (h : atI l i = some d := by rfl) : ixP (.raw (.ref p)) (.int i) S Q := ⟨l, d, g, h, q⟩
/-- the part of a slice -/
def DO (X : Cx) (e : Option Expr) (en : DEnv) (S : Sto) (Q : Option Int → Prop) : Prop := match e with
  | none => Q none
  | some e => DE X e en S fun x S' => S' = S ∧ ∃ i, x = .int i ∧ Q (some i)
def cutD (l : List D) (lo hi : Option Int) : List D := (l.drop (HT.sIx l.length 0 lo)).take (HT.sIx l.length l.length hi - HT.sIx l.length 0 lo)
theorem RpL.cut {K : PySem.W.Frag} {H : Hp} {l : List D} {vs : List V} (h : RpL K H l vs) (lo hi : Option Int) : RpL K H (cutD l lo hi) (cutV vs lo hi) := by
  unfold cutD cutV
  rw [h.length]
  exact (h.drop _).take _
theorem SlR.or {r r' : V → Option Int → Option Int → Hp → VK → Prop} (h : SlR X r) (h' : SlR X r') : SlR X (fun x l u H Q => r x l u H Q ∨ r' x l u H Q) := by
  intro pins s σ H x v vl vu lo hi sl Q I rx hs pl pu q
  rcases q with q | q
  · exact h pins s σ H x v vl vu lo hi sl Q I rx hs pl pu q
  · exact h' pins s σ H x v vl vu lo hi sl Q I rx hs pl pu q
def slP (x : D) (lo hi : Option Int) (S : Sto) (Q : D → Sto → Prop) : Prop := match x with
  | .tup l => ¬ (HT.sIx l.length 0 lo = 0 ∧ HT.sIx l.length l.length hi = l.length) ∧ Q (.tup (cutD l lo hi)) S
  | .lst l => Q (.lst (cutD l lo hi)) S
  | _ => False
theorem po_do {o : Option Expr} {Q : Option Int → Prop} {σ : L2.St} {H Hd : Hp} (h : DO X o en S Q) (st : St0 X.K S Hd H) (re : RpE X.K Hd en σ) :
    ∀ {t : TO}, PO X o t → True := fun _ => trivial
theorem de_slice {lo hi : Option Expr} {p2 : Pos} (h : DE X a en S fun x S1 => DO X lo en S1 fun l => DO X hi en S1 fun u => slP x l u S1 Q) : DE X (.Subscript a (.Slice lo hi none p2) pos) en S Q := ⟨fun σ H Hd st re => by
  -- each part's own reading
  have part : ∀ (o : Option Expr), ∃ t : TO, PO X o t ∧ ∀ {S : Sto} {R : Option Int → Prop} (H Hd : Hp), DO X o en S R → St0 X.K S Hd H → RpE X.K Hd en σ → ∀ Qo : Option Int → Hp → Prop, (∀ i H' Hd', Same Hd Hd' → St0 X.K S Hd' H' → R i → Qo i H') → t σ H Qo := by
    intro o
    cases o with
    | none => exact ⟨_, po_none, fun H Hd d st re Qo k => k none H Hd (Same.refl _) st d⟩
    | some e =>
      refine ⟨_, po_some peW, fun {S R} H Hd d st re Qo k => ?_⟩
      have d : DE X e en S fun x S' => S' = S ∧ ∃ i, x = .int i ∧ R (some i) := d
      show wE X e σ H _
      refine wE_mono (d σ H Hd st re) fun v H1 ⟨x, S1, Hd1, e1, st1, r1, eS, i, ex, q⟩ => ?_
      subst ex eS
      exact ⟨i, r1, k (some i) H1 Hd1 e1 st1 q⟩
  obtain ⟨tl, pl, kl⟩ := part lo
  obtain ⟨th, ph, kh⟩ := part hi
  refine wE_of (pe_slice (SlR.or sl_list sl_tup) peW pl ph) ?_
  refine wE_mono (h σ H Hd st re) fun v H1 ⟨x, S1, Hd1, e1, st1, r1, q1⟩ => ?_
  refine kl H1 Hd1 q1 st1 (re.mono e1) _ fun l H2 Hd2 e2 st2 q2 => ?_
  refine kh H2 Hd2 q2 st2 (re.mono (e1.trans e2)) _ fun u H3 Hd3 e3 st3 q3 => ?_
  have r3 := Rp.mono (e2.trans e3) x v r1
  unfold slP at q3
  split at q3
  · obtain ⟨p, xs, f1, f2, f3⟩ := r3
    refine .inr ⟨p, xs, f1, same_t st3.sub f2, ?_, fun a ha => .up ((e1.trans e2).trans e3) (new_tup st3 (f3.cut l u) ha q3.2)⟩
    rw [f3.length]
    exact q3.1
  · obtain ⟨p, xs, f1, f2, f3⟩ := r3
    exact .inl ⟨p, xs, f1, .of (st3.sub _ _ f2), fun a ha => .up ((e1.trans e2).trans e3) (new_lst st3 (f3.cut l u) ha q3)⟩
  · exact q3.elim⟩
end
end DL
namespace DL
open PySem PySem.Spec PyProof.Rows L2

/-! ### promises of defs that may show data (repr): nothing is being shown around them -/
structure GOk (P : Program) (w : World) (K : PySem.W.Frag) (mg : Str → Option Value) (base : Heap) (k : Nat) (f : Addr) (fd : FuncData) (ps : List Str) (sp : Sp) : Prop where
  len : ∀ vs H Q E, sp vs H Q E → vs.length = ps.length
  run : ∀ (A : Around) (fr : List Env) (s : Shared) (H : Hp) (ar : Args) (us : List Value) (vs : List V) (Q : VK) (E : XK), A.guards = some [] → Room k A →
    Env0 P w K mg base A fr s H → BindsTo s fd ar (ps.zip us) → Vals vs us → sp vs H Q E → codeAny (model P w) A (.call (.ref f) ar) (CR CX0 fr P w H s Q E) s
section
variable {P : Program} {w : World} {K : PySem.W.Frag} {mg : Str → Option Value} {base : Heap}
/-- a def of the text keeps its promise, by its body -/
theorem gok_of {k : Nat} {x qual : Str} {st : Stmt} {f : Addr} {fd : FuncData} {N ps : List Str} {sp : Sp} (F : Fun K x qual st f fd) (S : FnScope N ps (defScope st)) (ln : ∀ vs H Q E, sp vs H Q E → vs.length = ps.length)
    (body : ∀ (cdv : Value) (A : Around) (fr : List Env) (s : Shared) (H : Hp) (vs : List V) (Q : VK) (E : XK), (A.deeper (envOfC qual (defScope st) s.heap.objs.size f cdv)).guards = some [] → Room k (A.deeper (envOfC qual (defScope st) s.heap.objs.size f cdv)) → sp vs H Q E →
      wSs (cxOf CX0 P w K mg base N qual (defScope st) f cdv A fr s H E).nox (defBody st) { nx := fun _ H' => Q .non H', rt := Q } (start N vs) H) : GOk P w K mg base (k + 1) f fd ps sp := by
  obtain ⟨oc, od, kV, doc, pm, an, cdv, ct, osl, rfl, lk, hcd⟩ := F.ex
  refine ⟨ln, fun A fr s H ar us vs Q E gd hr e0 hb r hsp => ?_⟩
  have long := ln _ _ _ _ hsp
  have KX : K.In s.heap := e0.mod.kin.keeps fun b o e => (e0.bs b o e).1
  have free : s.heap.NoLimit := e0.mod.nolimit.keeps fun b o e => (e0.bs b o e).1
  refine codeAny_call_function hr.depth (KX _ _ lk) rfl S.co S.gen rfl (PySem.W.codeRec_of KX hcd) (hb _ _ _ _ ?_)
  refine wpAny_newFunctionEnv_cells S.kind (fun y hy => ?_) fun env he s1 xx => ?_
  · obtain ⟨n, v⟩ := y
    rcases S.par n (List.of_mem_zip hy).1 with z | z
    · exact .inl z
    · exact .inr ⟨z, PySem.W.cellsFrom_some _ _ _ (.inl z)⟩
  subst he
  refine ⟨free.keeps xx.toInCall.keep, codeAny_func ?_⟩
  have J : Inv (cxOf CX0 P w K mg base N qual (defScope st) f cdv A fr s H E) [] (start N vs) H s1 := inv_start S hr.hd e0 long r xx
  have run := (pssW (X := (cxOf CX0 P w K mg base N qual (defScope st) f cdv A fr s H E).nox) (sts := defBody st)).nox.run [] s1 (start N vs) H _ J (body cdv A fr s H vs Q E gd (hr.deeper _) hsp)
  refine wpAny_mono run (fun fl s' hs => ?_) fun e s' hs => hs
  have out : ∀ {σ' : L2.St} {H' : Hp} {v : V} {u : Value}, Inv (cxOf CX0 P w K mg base N qual (defScope st) f cdv A fr s H E) [] σ' H' s' → RelV v u → Q v H' → CE fr P w H s Q u s' :=
    fun {σ' H' v u} I rv q => ⟨v, H', I.os, I.bare, I.base, I.hok, rv, q⟩
  cases fl with
  | ret u =>
    obtain ⟨v, σ', H', I, rv, q⟩ := hs
    exact out I rv q
  | next =>
    obtain ⟨σ', H', I, q⟩ := hs
    exact out (v := V.non) (u := Value.none) I rfl q
  | brk => exact hs.elim fun _ h => h.elim fun _ h => h.2.elim
  | cont => exact hs.elim fun _ h => h.elim fun _ h => h.2.elim
end

/-! ### what a def does to data -/
abbrev Con := List D → Sto → (D → Sto → Prop) → Prop
def spD (K : PySem.W.Frag) (C : Con) : Sp := fun vs H Q _ => ∃ (ds : List D) (S : Sto) (Hd : Hp) (Qd : D → Sto → Prop), RpL K Hd ds vs ∧ St0 K S Hd H ∧ C ds S Qd ∧
  ∀ d S' v H' Hd', Qd d S' → Same Hd Hd' → St0 K S' Hd' H' → Rp K Hd' d v → Q v H'
/-- the values in the parameters' order, the named ones by their names -/
def ordV {α : Type} (df : α) (names ks : List Str) (zs : List α) : List α := names.map fun x => ((ks.zip zs).lookup x).getD df
/-- how such a call's arguments are bound: n of them by position -/
def KwOk (fd : FuncData) (ps : List Str) (p : Nat × List Str) : Prop := p.1 + p.2.length = ps.length ∧ (∀ y ∈ ps.drop p.1, y ∈ p.2) ∧
  ∀ us ws : List Value, us.length = p.1 → ws.length = p.2.length → bindArgs fd ⟨us, p.2.zip ws⟩ = pure (ps.zip (us ++ ordV .none (ps.drop p.1) p.2 ws))
/-- a def that stands in the module under the name x, with its promise -/
structure Cal (P : Program) (w : World) (K : PySem.W.Frag) (mg : Str → Option Value) (base : Heap) (k : Nat) (x : Str) (ps : List Str) (kws : List (Nat × List Str)) (C : Con) : Prop where
  ex : ∃ (f : Addr) (fd : FuncData), GOk P w K mg base k f fd ps (spD K C) ∧ mg x = some (.ref f) ∧ PySem.W.keepIn K (.ref f) = true ∧
    (∀ us : List Value, us.length = ps.length → bindArgs fd ⟨us, []⟩ = pure (ps.zip us)) ∧ ∀ p ∈ kws, KwOk fd ps p
theorem RpL.vals {K : PySem.W.Frag} {H : Hp} {ds : List D} {vs : List V} (h : RpL K H ds vs) : vs.length = ds.length := h.length
theorem lookup_rp {K : PySem.W.Frag} {H : Hp} {y : Str} : ∀ {ks : List Str} {ds : List D} {vs : List V}, RpL K H ds vs → ks.length = ds.length → y ∈ ks → Rp K H (((ks.zip ds).lookup y).getD .non) (((ks.zip vs).lookup y).getD .non)
  | [], _, _, _, _, hy => nomatch hy
  | k :: ks, [], _, _, e, _ => by simp at e
  | k :: ks, d :: ds, _, h, e, hy => by
    obtain ⟨x, xs, rfl, h1, h2⟩ := h
    show Rp K H ((((k, d) :: ks.zip ds).lookup y).getD .non) ((((k, x) :: ks.zip xs).lookup y).getD .non)
    rw [List.lookup_cons, List.lookup_cons]
    cases q : (y == k) with
    | true => exact h1
    | false =>
      have ne : ¬ y = k := fun z => by
        rw [z] at q
        simp at q
      rcases List.mem_cons.mp hy with z | z
      · exact absurd z ne
      · exact lookup_rp h2 (by simpa using e) z
theorem lookup_vals {y : Str} : ∀ {ks : List Str} {vs : List V} {ws : List Value}, Vals vs ws → ks.length = vs.length → y ∈ ks → RelV (((ks.zip vs).lookup y).getD .non) (((ks.zip ws).lookup y).getD .none)
  | [], _, _, _, _, hy => nomatch hy
  | k :: ks, _, _, .nil, e, _ => by simp at e
  | k :: ks, _, _, .cons (a := a) (b := b) (l₁ := l1) (l₂ := l2) h1 h2, e, hy => by
    show RelV ((((k, a) :: ks.zip l1).lookup y).getD .non) ((((k, b) :: ks.zip l2).lookup y).getD .none)
    rw [List.lookup_cons, List.lookup_cons]
    cases q : (y == k) with
    | true => exact h1
    | false =>
      have ne : ¬ y = k := fun z => by
        rw [z] at q
        simp at q
      rcases List.mem_cons.mp hy with z | z
      · exact absurd z ne
      · exact lookup_vals h2 (by simpa using e) z
theorem ord_rp {K : PySem.W.Frag} {H : Hp} {ks : List Str} {ds : List D} {vs : List V} (h : RpL K H ds vs) (e : ks.length = ds.length) : ∀ {names : List Str}, (∀ y ∈ names, y ∈ ks) → RpL K H (ordV .non names ks ds) (ordV .non names ks vs)
  | [], _ => rfl
  | n :: ns, hm => ⟨_, _, rfl, lookup_rp h e (hm n List.mem_cons_self), ord_rp h e fun y hy => hm y (List.mem_cons_of_mem _ hy)⟩
theorem ord_vals {ks : List Str} {vs : List V} {ws : List Value} (h : Vals vs ws) (e : ks.length = vs.length) : ∀ {names : List Str}, (∀ y ∈ names, y ∈ ks) → Vals (ordV .non names ks vs) (ordV .none names ks ws)
  | [], _ => .nil
  | n :: ns, hm => .cons (lookup_vals h e (hm n List.mem_cons_self)) (ord_vals h e fun y hy => hm y (List.mem_cons_of_mem _ hy))

/-! ### calls -/
def wK (X : Cx) (kws : List Keyword) : TA := fun σ H Q => ∀ (pos : Pos) pins s, Inv X pins σ H s → wpAny (model X.prog X.w) X.A (evalAll ((backToKw pos (keywordEach kws X.env)).map (·.2))) (AP X pins σ Q) X.xe s
structure DK (X : Cx) (kws : List Keyword) (en : DEnv) (S : Sto) (Q : List D → Sto → Prop) : Prop where
  run : ∀ (σ : L2.St) (H Hd : Hp), St0 X.K S Hd H → RpE X.K Hd en σ → wK X kws σ H (QA X.K Hd Q)
instance {X : Cx} {kws : List Keyword} {en : DEnv} {S : Sto} {Q : List D → Sto → Prop} : CoeFun (DK X kws en S Q) (fun _ => ∀ (σ : L2.St) (H Hd : Hp), St0 X.K S Hd H → RpE X.K Hd en σ → wK X kws σ H (QA X.K Hd Q)) := ⟨fun h => h.run⟩
section
variable {X : Cx} {a b c e : Expr} {es : List Expr} {kwl : List Keyword} {en : DEnv} {S : Sto} {Q : D → Sto → Prop} {R : List D → Sto → Prop} {pos p kpos : Pos} {k : Nat} {x : Str} {ps ks : List Str} {kws : List (Nat × List Str)} {C : Con}
theorem pkW : PK X kwl (wK X kwl) := ⟨fun pos pins s _ _ _ I h => h pos pins s I⟩
theorem wK_of {t : TA} {σ : L2.St} {H : Hp} {Q : List V → Hp → Prop} (h : PK X kwl t) (q : t σ H Q) : wK X kwl σ H Q := fun pos pins s I => h.run pos pins s σ H Q I q
theorem wK_mono {σ : L2.St} {H : Hp} {Q Q' : List V → Hp → Prop} (h : wK X kwl σ H Q) (k : ∀ v H', Q v H' → Q' v H') : wK X kwl σ H Q' := fun pos pins s I =>
  thn (h pos pins s I) fun _ _ ⟨v, H', I', r, q⟩ => ⟨v, H', I', r, k v H' q⟩
theorem dk_nil (q : R [] S) : DK X [] en S R := ⟨fun σ H Hd st _ => wK_of pk_nil ⟨[], S, Hd, Same.refl _, st, rfl, q⟩⟩
theorem dk_cons {nm : Option Str} (h : DE X e en S fun x S1 => DK X kwl en S1 fun xs S2 => R (x :: xs) S2) (hp : PK X (⟨nm, e, kpos⟩ :: kwl) (tCons (wE X e) (wK X kwl)) := by exact pk_cons peW pkW) : DK X (⟨nm, e, kpos⟩ :: kwl) en S R := ⟨fun σ H Hd st re => by
  refine wK_of hp ?_
  refine wE_mono (h σ H Hd st re) fun v H1 ⟨x, S1, Hd1, e1, st1, r1, q1⟩ => ?_
  refine wK_mono (q1 σ H1 Hd1 st1 (re.mono e1)) fun vs H2 ⟨xs, S2, Hd2, e2, st2, r2, q2⟩ => ?_
  exact ⟨x :: xs, S2, Hd2, e1.trans e2, st2, ⟨v, vs, rfl, Rp.mono e2 x v r1, r2⟩, q2⟩⟩
/-- the callee runs -/
theorem run_cal (c : Cal X.prog X.w X.K X.mg X.base k x ps kws C) (gd : X.A.guards = some []) (hr : Room k X.A) : ∃ f : Addr, X.mg x = some (.ref f) ∧ PySem.W.keepIn X.K (.ref f) = true ∧
    (∀ {pins : List (Addr × Obj)} {σ : L2.St} {H Hd : Hp} {s : Shared} {us : List Value} {vs : List V} {ds : List D} {S : Sto} {Q : D → Sto → Prop} {Qv : VK}, Inv X pins σ H s → Vals vs us → RpL X.K Hd ds vs → St0 X.K S Hd H → C ds S Q → (∀ v H', QD X.K Hd Q v H' → Qv v H') →
      wpAny (model X.prog X.w) X.A (call (.ref f) us) (EP X pins σ Qv) X.xe s) ∧
    ∀ (n : Nat) (ks : List Str), (n, ks) ∈ kws → ∀ {pins : List (Addr × Obj)} {σ : L2.St} {H Hd : Hp} {s : Shared} {us ws : List Value} {vs zs : List V} {ds fs : List D} {S : Sto} {Q : D → Sto → Prop} {Qv : VK}, Inv X pins σ H s → Vals vs us → Vals zs ws → us.length = n → ws.length = ks.length →
      RpL X.K Hd ds vs → RpL X.K Hd fs zs → St0 X.K S Hd H → C (ds ++ ordV .non (ps.drop n) ks fs) S Q → (∀ v H', QD X.K Hd Q v H' → Qv v H') → wpAny (model X.prog X.w) X.A (call (.ref f) us (ks.zip ws)) (EP X pins σ Qv) X.xe s := by
  obtain ⟨f, fd, G, hm, hk, hb, hkw⟩ := c.ex
  refine ⟨f, hm, hk, fun {pins σ H Hd s us vs ds S Q Qv} I r rd st q kq => ?_, fun n ks hn {pins σ H Hd s us ws vs zs ds fs S Q Qv} I r rz ln lw rd rf st q kq => ?_⟩
  · have hs : spD X.K C vs H Qv E0 := ⟨ds, S, Hd, Q, rd, st, q, fun d S' v H' Hd' z1 z2 z3 z4 => kq v H' ⟨d, S', Hd', z2, z3, z4, z1⟩⟩
    have hl : us.length = ps.length := by rw [← r.length]; exact G.len _ _ _ _ hs
    refine wpAny_call (codeAny_mono (G.run X.A X.stack s H ⟨us, []⟩ us vs Qv E0 gd hr I.env0 (.of_eq (hb us hl)) r hs) fun res s' hq => ?_)
    cases res with
    | error e => exact hq.elim
    | ok fl =>
      cases fl with
      | ret u => exact I.after hq
      | next => exact hq.elim
      | brk => exact hq.elim
      | cont => exact hq.elim
  · obtain ⟨k1, k2, k3⟩ := hkw _ hn
    have lz : ks.length = zs.length := by rw [rz.length]; exact lw.symm
    have lf : ks.length = fs.length := by rw [lz, rf.length]
    have hs : spD X.K C (vs ++ ordV .non (ps.drop n) ks zs) H Qv E0 := ⟨_, S, Hd, Q, rd.append (ord_rp rf lf k2), st, q, fun d S' v H' Hd' z1 z2 z3 z4 => kq v H' ⟨d, S', Hd', z2, z3, z4, z1⟩⟩
    refine wpAny_call (codeAny_mono (G.run X.A X.stack s H ⟨us, ks.zip ws⟩ (us ++ ordV .none (ps.drop n) ks ws) _ Qv E0 gd hr I.env0 (.of_eq (k3 us ws ln lw)) (r.append (ord_vals rz lz k2)) hs) fun res s' hq => ?_)
    cases res with
    | error e => exact hq.elim
    | ok fl =>
      cases fl with
      | ret u => exact I.after hq
      | next => exact hq.elim
      | brk => exact hq.elim
      | cont => exact hq.elim
/-- f(e, ..) -/
theorem de_call (c : Cal X.prog X.w X.K X.mg X.base k x ps kws C) (gd : X.A.guards = some []) (hr : Room k X.A) (h : DA X (e :: es) en S fun ds S1 => C ds S1 Q) (hg : Gl X x := by rfl)
    (hdb : (x == ("__debug__" : Str)) = false := by decide) (he : starEach (e :: es) X.env = (false, eval e X.env) :: starEach es X.env := by rfl) (hpl : (backTo pos (starEach es X.env)).any (·.1) = false := by rfl) : DE X (.Call (.Name x p) (e :: es) [] pos) en S Q := by
  refine ⟨fun σ H Hd st re => ?_⟩
  intro pins s I
  obtain ⟨f, hm, hk, run, _⟩ := run_cal c gd hr
  refine wpAny_Call_Name_kw (ld_glob I hg hm ?_ hdb)
  refine PySem.W.callWith_K (h₀ := X.base) I.ok.mod.kin hk (thn (h σ H Hd st re pos pins s I) fun us s1 ⟨vs, H1, I1, r, ds, S1, Hd1, e1, st1, r1, q1⟩ => ⟨I1.kIn, ?_⟩) he hpl
  exact run I1 r r1 st1 q1 fun v H' z => .up e1 z
/-- f() -/
theorem de_call0 (c : Cal X.prog X.w X.K X.mg X.base k x ps kws C) (gd : X.A.guards = some []) (hr : Room k X.A) (h : C [] S Q) (hg : Gl X x := by rfl) (hdb : (x == ("__debug__" : Str)) = false := by decide) : DE X (.Call (.Name x p) [] [] pos) en S Q := by
  refine ⟨fun σ H Hd st re => ?_⟩
  intro pins s I
  obtain ⟨f, hm, hk, run, _⟩ := run_cal c gd hr
  refine wpAny_Call_Name_kw (ld_glob I hg hm ?_ hdb)
  exact PySem.W.callWith_K0 I.kIn hk (run (us := []) (vs := []) (ds := []) I .nil rfl st h fun v H' z => z)
/-- f(k = v, ..) -/
theorem de_callN (c : Cal X.prog X.w X.K X.mg X.base k x ps kws C) (gd : X.A.guards = some []) (hr : Room k X.A) (hn : (0, ks) ∈ kws) (h : DK X kwl en S fun zs S1 => zs.length = ks.length ∧ C (ordV .non ps ks zs) S1 Q) (hg : Gl X x := by rfl)
    (hall : (backToKw pos (keywordEach kwl X.env)).all (·.1.isSome) = true := by rfl) (hks : (backToKw pos (keywordEach kwl X.env)).filterMap (·.1) = ks := by rfl) (hdb : (x == ("__debug__" : Str)) = false := by decide)
    (hpl : ((backTo pos (starEach [] X.env)).any (·.1) || (backToKw pos (keywordEach kwl X.env)).any (·.1.isNone)) = false := by rfl) : DE X (.Call (.Name x p) [] kwl pos) en S Q := by
  refine ⟨fun σ H Hd st re => ?_⟩
  intro pins s I
  obtain ⟨f, hm, hk, _, run⟩ := run_cal c gd hr
  refine wpAny_Call_Name_kw (ld_glob I hg hm ?_ hdb)
  refine PySem.W.callWith_KW0 (h₀ := X.base) I.ok.mod.kin hk hall (thn (h σ H Hd st re pos pins s I) fun ws s1 ⟨zs, H1, I1, rz, fs, S1, Hd1, e1, st1, r1, l1, q1⟩ => ⟨I1.kIn, ?_⟩) hpl
  rw [hks]
  exact run 0 ks hn (us := []) (vs := []) (ds := []) I1 .nil rz rfl (by rw [← rz.length, r1.length, l1]) rfl r1 st1 q1 fun v H' z => .up e1 z
/-- f(e, .., k = v, ..) -/
theorem de_callK {n : Nat} (c : Cal X.prog X.w X.K X.mg X.base k x ps kws C) (gd : X.A.guards = some []) (hr : Room k X.A) (hn : (n, ks) ∈ kws) (h : DA X (e :: es) en S fun ds S1 => ds.length = n ∧ DK X kwl en S1 fun zs S2 => zs.length = ks.length ∧ C (ds ++ ordV .non (ps.drop n) ks zs) S2 Q) (hg : Gl X x := by rfl)
    (hall : (backToKw pos (keywordEach kwl X.env)).all (·.1.isSome) = true := by rfl) (hks : (backToKw pos (keywordEach kwl X.env)).filterMap (·.1) = ks := by rfl) (hdb : (x == ("__debug__" : Str)) = false := by decide)
    (he : starEach (e :: es) X.env = (false, eval e X.env) :: starEach es X.env := by rfl)
    (hpl : ((backTo pos (starEach (e :: es) X.env)).any (·.1) || (backToKw pos (keywordEach kwl X.env)).any (·.1.isNone)) = false := by rfl) : DE X (.Call (.Name x p) (e :: es) kwl pos) en S Q := by
  refine ⟨fun σ H Hd st re => ?_⟩
  intro pins s I
  obtain ⟨f, hm, hk, _, run⟩ := run_cal c gd hr
  refine wpAny_Call_Name_kw (ld_glob I hg hm ?_ hdb)
  refine PySem.W.callWith_KW (h₀ := X.base) I.ok.mod.kin hk hall (thn (h σ H Hd st re pos pins s I) fun us s1 ⟨vs, H1, I1, r, ds, S1, Hd1, e1, st1, r1, l1, q1⟩ => ?_) hpl he
  refine thn (q1 σ H1 Hd1 st1 (re.mono e1) pos pins s1 I1) fun ws s2 ⟨zs, H2, I2, rz, fs, S2, Hd2, e2, st2, r2, l2, q2⟩ => ⟨I2.kIn, ?_⟩
  rw [hks]
  exact run n ks hn I2 (us := us) r rz (show us.length = n by rw [← r.length, r1.length, l1]) (by rw [← rz.length, r2.length, l2]) (RpL.mono e2 ds vs r1) r2 st2 q2 fun v H' z => .up (e1.trans e2) z

/-! ### built-ins -/
def DRC (K : PySem.W.Frag) (r : List V → Hp → VK → Prop) (ds : List D) (S : Sto) (Q : D → Sto → Prop) : Prop :=
  ∀ (H Hd : Hp) (vs : List V) (Qv : VK), St0 K S Hd H → RpL K Hd ds vs → (∀ v H', QD K Hd Q v H' → Qv v H') → r vs H Qv
variable {id T : String} {r : List V → Hp → VK → Prop}
theorem de_B (hc : CallR X (.builtin id) r) (hm : X.mg x = none) (hv : bootBuiltins x = some (.builtin id)) (h : DA X (e :: es) en S fun ds S1 => DRC X.K r ds S1 Q) (hg : Gl X x := by rfl) (hn : x ≠ "__name__" := by decide) (hdb : (x == ("__debug__" : Str)) = false := by decide)
    (he : starEach (e :: es) X.env = (false, eval e X.env) :: starEach es X.env := by rfl) (hpl : (backTo pos (starEach es X.env)).any (·.1) = false := by rfl) : DE X (.Call (.Name x p) (e :: es) [] pos) en S Q := ⟨fun σ H Hd st re => by
  refine wE_of (pe_callB hc hg hm hv paW hn hdb he hpl) ?_
  exact wA_mono (h σ H Hd st re) fun vs H1 ⟨ds, S1, Hd1, e1, st1, r1, q1⟩ => q1 H1 Hd1 vs _ st1 r1 fun v H' z => .up e1 z⟩
theorem de_T (hc : CallR X (.type T) r) (hm : X.mg x = none) (hv : bootBuiltins x = some (.type T)) (h : DA X (e :: es) en S fun ds S1 => DRC X.K r ds S1 Q) (hg : Gl X x := by rfl) (hn : x ≠ "__name__" := by decide) (hdb : (x == ("__debug__" : Str)) = false := by decide)
    (he : starEach (e :: es) X.env = (false, eval e X.env) :: starEach es X.env := by rfl) (hpl : (backTo pos (starEach es X.env)).any (·.1) = false := by rfl) : DE X (.Call (.Name x p) (e :: es) [] pos) en S Q := ⟨fun σ H Hd st re => by
  refine wE_of (pe_callTy hc hg hm hv paW hn hdb he hpl) ?_
  exact wA_mono (h σ H Hd st re) fun vs H1 ⟨ds, S1, Hd1, e1, st1, r1, q1⟩ => q1 H1 Hd1 vs _ st1 r1 fun v H' z => .up e1 z⟩
theorem one_rp {K : PySem.W.Frag} {H : Hp} {d : D} {vs : List V} (h : RpL K H [d] vs) : ∃ v, vs = [v] ∧ Rp K H d v := by
  obtain ⟨v, vs', e1, rv, e2⟩ := h
  have e2 : vs' = [] := e2
  subst e2
  exact ⟨v, e1, rv⟩
theorem two_rp {K : PySem.W.Frag} {H : Hp} {d e : D} {vs : List V} (h : RpL K H [d, e] vs) : ∃ v w, vs = [v, w] ∧ Rp K H d v ∧ Rp K H e w := by
  obtain ⟨v, vs', e1, rv, e2⟩ := h
  obtain ⟨w, e3, rw'⟩ := one_rp e2
  subst e3
  exact ⟨v, w, e1, rv, rw'⟩
variable {K : PySem.W.Frag}
theorem drc_abs {i : Int} (q : Q (.int (if i < 0 then -i else i)) S) : DRC K (fun xs H Q => ∃ i, xs = [.int i] ∧ Q (.int (if i < 0 then -i else i)) H) [.int i] S Q := fun H Hd vs Qv st rr k => by
  obtain ⟨v, e1, rv⟩ := one_rp rr
  have rv : v = V.int i := rv
  subst e1 rv
  exact ⟨i, rfl, k _ _ (.here (d := .int _) st rfl q)⟩
theorem drc_int {i : Int} (q : Q (.int i) S) : DRC K (fun xs H Q => (∃ i, xs = [.int i] ∧ Q (.int i) H) ∨ ∃ k, xs = [.bl k] ∧ Q (.int (if k then 1 else 0)) H) [.int i] S Q := fun H Hd vs Qv st rr k => by
  obtain ⟨v, e1, rv⟩ := one_rp rr
  have rv : v = V.int i := rv
  subst e1 rv
  exact .inl ⟨i, rfl, k _ _ (.here (d := .int _) st rfl q)⟩
theorem drc_intb {i : Bool} (q : Q (.int (if i then 1 else 0)) S) : DRC K (fun xs H Q => (∃ i, xs = [.int i] ∧ Q (.int i) H) ∨ ∃ k, xs = [.bl k] ∧ Q (.int (if k then 1 else 0)) H) [.bl i] S Q := fun H Hd vs Qv st rr k => by
  obtain ⟨v, e1, rv⟩ := one_rp rr
  have rv : v = V.bl i := rv
  subst e1 rv
  exact .inr ⟨i, rfl, k _ _ (.here (d := .int _) st rfl q)⟩
theorem drc_max {i j : Int} (q : Q (.int (if j > i then j else i)) S) : DRC K (fun xs H Q => ∃ i j, xs = [.int i, .int j] ∧ Q (.int (if j > i then j else i)) H) [.int i, .int j] S Q := fun H Hd vs Qv st rr k => by
  obtain ⟨v, w, e1, rv, rw'⟩ := two_rp rr
  have rv : v = V.int i := rv
  have rw' : w = V.int j := rw'
  subst e1 rv rw'
  exact ⟨i, j, rfl, k _ _ (.here (d := .int _) st rfl q)⟩
theorem drc_min {i j : Int} (q : Q (.int (if j < i then j else i)) S) : DRC K (fun xs H Q => ∃ i j, xs = [.int i, .int j] ∧ Q (.int (if j < i then j else i)) H) [.int i, .int j] S Q := fun H Hd vs Qv st rr k => by
  obtain ⟨v, w, e1, rv, rw'⟩ := two_rp rr
  have rv : v = V.int i := rv
  have rw' : w = V.int j := rw'
  subst e1 rv rw'
  exact ⟨i, j, rfl, k _ _ (.here (d := .int _) st rfl q)⟩
/-- math.gcd -/
theorem de_gcd {gx : Str} (hm : X.mg gx = some (.builtin "math.gcd")) (h : DA X [a, b] en S fun ds S1 => ∃ i j : Int, ds = [.int i, .int j] ∧ Q (.int ((Nat.gcd i.natAbs j.natAbs : Nat) : Int)) S1) (hg : Gl X gx := by rfl) (hn : gx ≠ "__name__" := by decide) (hdb : (gx == ("__debug__" : Str)) = false := by decide)
    (he : starEach (a :: [b]) X.env = (false, eval a X.env) :: starEach [b] X.env := by rfl) (hpl : (backTo pos (starEach [b] X.env)).any (·.1) = false := by rfl) : DE X (.Call (.Name gx p) [a, b] [] pos) en S Q := ⟨fun σ H Hd st re => by
  refine wE_of (pe_callBfun cr_gcd hg hm paW (hdb := hdb) (he := he) (hpl := hpl)) ?_
  refine wA_mono (h σ H Hd st re) fun vs H1 ⟨ds, S1, Hd1, e1, st1, r1, i, j, e2, q⟩ => ?_
  subst e2
  obtain ⟨v, vs', e3, rv, w, vs2, e4, rw', e5⟩ := r1
  have e5 : vs2 = [] := e5
  subst e3 e4 e5
  exact ⟨i, j, by rw [show v = V.int i from rv, show w = V.int j from rw'], .up e1 (.here (d := .int _) st1 rfl q)⟩⟩
/-- len -/
def lenP (d : D) (S : Sto) (Q : D → Sto → Prop) : Prop := match d with
  | .tup l => Q (.int (l.length : Int)) S
  | .lst l => Q (.int (l.length : Int)) S
  | .scr l => Q (.int (l.length : Int)) S
  | .raw (.ref p) => ∃ l, getS p S = some l ∧ Q (.int (l.length : Int)) S
  | _ => False
theorem drc_len {d : D} (q : lenP d S Q) : DRC K (fun xs H Q => ∃ p ys, xs = [.ref p] ∧ (SqL K H p ys ∨ SqT K H p ys) ∧ Q (.int ys.length) H) [d] S Q := fun H Hd vs Qv st rr k => by
  obtain ⟨v, e1, rv⟩ := one_rp rr
  subst e1
  unfold lenP at q
  split at q
  · obtain ⟨a, xs, f1, f2, f3⟩ := rv
    exact ⟨a, xs, by rw [f1], .inr (same_t st.sub f2), by rw [f3.length]; exact k _ _ (.here (d := .int _) st rfl q)⟩
  · obtain ⟨a, xs, f1, f2, f3⟩ := rv
    exact ⟨a, xs, by rw [f1], .inl (.of (st.sub _ _ f2)), by rw [f3.length]; exact k _ _ (.here (d := .int _) st rfl q)⟩
  · rename_i l
    obtain ⟨a, f1, f2⟩ := rv
    exact ⟨a, l.map V.int, by rw [f1], .inl (same_l st.sub f2), by rw [List.length_map]; exact k _ _ (.here (d := .int _) st rfl q)⟩
  · rename_i a
    obtain ⟨l, g, q⟩ := q
    obtain ⟨_, xs, f2, f3⟩ := st.own.at g
    exact ⟨a, xs, by rw [show v = V.ref a from rv], .inl (.of f2), by rw [f3.length]; exact k _ _ (.here (d := .int _) st rfl q)⟩
  · exact q.elim
/-- tuple(list) -/
theorem drc_tuple {l : List D} (q : Q (.tup l) S) : DRC K (fun xs H Q => ∃ p ys, xs = [.ref p] ∧ ((SqL K H p ys ∧ ∀ l, H l = none → Q (.ref l) (upd H l (.tup ys))) ∨ (SqT K H p ys ∧ Q (.ref p) H))) [.lst l] S Q := fun H Hd vs Qv st rr k => by
  obtain ⟨v, e1, a, xs, f1, f2, f3⟩ := one_rp rr
  subst e1 f1
  exact ⟨a, xs, rfl, .inl ⟨.of (st.sub _ _ f2), fun p hp => k _ _ (new_tup st f3 hp q)⟩⟩
theorem drc_tupleO {p : Addr} {l : List D} (g : getS p S = some l) (q : Q (.tup l) S) : DRC K (fun xs H Q => ∃ p ys, xs = [.ref p] ∧ ((SqL K H p ys ∧ ∀ l, H l = none → Q (.ref l) (upd H l (.tup ys))) ∨ (SqT K H p ys ∧ Q (.ref p) H))) [.raw (.ref p)] S Q := fun H Hd vs Qv st rr k => by
  obtain ⟨v, e1, f1⟩ := one_rp rr
  have f1 : v = V.ref p := f1
  subst e1 f1
  obtain ⟨_, xs, f2, f3⟩ := st.own.at g
  exact ⟨p, xs, rfl, .inl ⟨.of f2, fun p hp => k _ _ (new_tup st f3 hp q)⟩⟩
end

/-! ### repr -/
mutual
/-- data that is shown: ints of less than 1900 bits, plain texts, not too many things -/
def shoP : D → Prop
  | .int i => i.natAbs < 2 ^ 1900
  | .str x => (x.cps.toList.all fun c => decide (c < 16 ^ 8)) = true
  | .tup l => shoL l
  | .lst l => shoL l
  | .scr _ => False
  | .raw _ => False
  | .ext _ => False
  | .non => True
  | .bl _ => True
def shoL : List D → Prop
  | [] => True
  | d :: ds => shoP d ∧ shoL ds
end
theorem digits_le {i : Int} (h : i.natAbs < 2 ^ 1900) : ((PyData.shown (.int i)).length ≤ 1921) ∧ i.natAbs.log2 < 1920 := by
  have h2 : i.natAbs.log2 < 1920 := Nat.lt_of_lt_of_le (PySem.Flt.log2_lt_of (by decide) h) (by decide)
  exact ⟨int_text_len_1921 h2, h2⟩
mutual
theorem sho_of : ∀ (n : Nat) (d : D), flatOk n d = true → shoP d → (toPy d).showable = true ∧ (toPy d).leavesShort 1921 = true ∧ (toPy d).hasDict = false
  | _, .non, _, _ => ⟨rfl, rfl, rfl⟩
  | _, .bl b, _, _ => ⟨rfl, rfl, rfl⟩
  | _, .int i, _, h => by
    obtain ⟨h1, h2⟩ := digits_le (show i.natAbs < 2 ^ 1900 from by simpa only [shoP] using h)
    exact ⟨decide_eq_true h2, decide_eq_true h1, rfl⟩
  | _, .str x, _, h => ⟨rfl, by simpa [toPy, PyData.leavesShort, shoP] using h, rfl⟩
  | 0, .tup l, h, _ => by simp [flatOk] at h
  | n + 1, .tup l, h, g => by
    obtain ⟨h1, h2, h3⟩ := shoAll_of n l (by simpa [flatOk] using h) (by simpa only [shoP] using g)
    exact ⟨by simpa [toPy, PyData.showable] using h1, by simpa [toPy, PyData.leavesShort] using h2, by simpa [toPy, PyData.hasDict] using h3⟩
  | 0, .lst l, h, _ => by simp [flatOk] at h
  | n + 1, .lst l, h, g => by
    obtain ⟨h1, h2, h3⟩ := shoAll_of n l (by simpa [flatOk] using h) (by simpa only [shoP] using g)
    exact ⟨by simpa [toPy, PyData.showable] using h1, by simpa [toPy, PyData.leavesShort] using h2, by simpa [toPy, PyData.hasDict] using h3⟩
  | 0, .scr l, h, _ => by simp [flatOk] at h
  | n + 1, .scr ns, h, g => by simp only [shoP] at g
  | 0, .raw _, h, _ => by simp [flatOk] at h
  | _ + 1, .raw _, h, _ => by simp [flatOk] at h
  | 0, .ext _, h, _ => by simp [flatOk] at h
  | _ + 1, .ext _, h, _ => by simp [flatOk] at h
theorem shoAll_of : ∀ (n : Nat) (l : List D), flatOkL n l = true → shoL l → PyData.showableAll (toPyL l) = true ∧ PyData.leavesShortAll 1921 (toPyL l) = true ∧ PyData.hasDictAll (toPyL l) = false
  | _, [], _, _ => ⟨rfl, rfl, rfl⟩
  | n, d :: ds, h, g => by
    rw [flatOkL, Bool.and_eq_true] at h
    rw [shoL] at g
    obtain ⟨h1, h2, h3⟩ := sho_of n d h.1 g.1
    obtain ⟨k1, k2, k3⟩ := shoAll_of n ds h.2 g.2
    refine ⟨?_, ?_, ?_⟩
    · show (PyData.showable (toPy d) && PyData.showableAll (toPyL ds)) = true
      rw [h1, k1] <;> rfl
    · show (PyData.leavesShort 1921 (toPy d) && PyData.leavesShortAll 1921 (toPyL ds)) = true
      rw [h2, k2] <;> rfl
    · show (PyData.hasDict (toPy d) || PyData.hasDictAll (toPyL ds)) = false
      rw [h3, k3] <;> rfl
end
mutual
/-- how many things -/
def bigD : D → Nat
  | .str x => x.cps.size
  | .tup l => bigL l
  | .lst l => bigL l
  | _ => 0
def bigL : List D → Nat
  | [] => 0
  | d :: ds => bigD d + 1 + bigL ds
end
theorem bulk_ints : ∀ ns : List Int, True := fun _ => trivial
mutual
theorem bulk_of : ∀ d : D, shoP d → (toPy d).bulk = bigD d
  | .non, _ => rfl
  | .bl _, _ => rfl
  | .int _, _ => rfl
  | .str _, _ => rfl
  | .tup l, h => by
    show PyData.bulkAll (toPyL l) = bigL l
    exact bulkAll_of l (by simpa only [shoP] using h)
  | .lst l, h => by
    show PyData.bulkAll (toPyL l) = bigL l
    exact bulkAll_of l (by simpa only [shoP] using h)
  | .raw _, h => by simp only [shoP] at h
  | .ext _, h => by simp only [shoP] at h
  | .scr _, h => by simp only [shoP] at h
theorem bulkAll_of : ∀ l : List D, shoL l → PyData.bulkAll (toPyL l) = bigL l
  | [], _ => rfl
  | d :: ds, h => by
    rw [shoL] at h
    show PyData.bulk (toPy d) + 1 + PyData.bulkAll (toPyL ds) = bigD d + 1 + bigL ds
    rw [bulk_of d h.1, bulkAll_of ds h.2]
end
theorem shown_fits {n : Nat} {d : D} (h : flatOk n d = true) (g : shoP d) (b : bigD d ≤ 8000) : (toPy d).shown.length ≤ sizeLine := by
  obtain ⟨_, h2, _⟩ := sho_of n d h g
  have k := PyData.shown_le_bulk 1921 (by decide) (toPy d) h2
  rw [bulk_of d g] at k
  have e : sizeLine = 16777216 := by decide
  omega
section
variable {X : Cx}
/-- repr of data that stands in an object -/
def rRepD (K : PySem.W.Frag) : List V → Hp → VK → Prop := fun vs H Q => ∃ (a : Addr) (d : PyData), vs = [.ref a] ∧ Dp K H (.ref a) d ∧ d.showable = true ∧ d.hasDict = false ∧ d.depth ≤ 20 ∧ d.shown.length ≤ sizeLine ∧ Q (.str d.shown) H
theorem call_repr_data (gd : X.A.guards = some []) (hu : X.A.units + 64 < cLine) : CallR X (.builtin "repr") (rRepD X.K) := by
  intro pins s σ H vs us Q I rv h
  obtain ⟨a, d, e1, hd, h1, h2, h3, h4, q⟩ := h
  subst e1
  obtain ⟨u, e2, ru⟩ := rv.one
  subst e2
  cases ru
  obtain ⟨as, rr⟩ := Dp.reads I d (.ref a) _ hd rfl
  refine PySem.repr_of_reads' rr h1 (PyData.noDict_hsm h2) gd (by omega) (fun _ _ z => z) (fun h' u tk kp => ?_) h4
  exact ⟨.str d.shown, H, I.kept kp, ⟨u, rfl⟩, q⟩
theorem drc_repr {K : PySem.W.Frag} {d : D} {S : Sto} {Q : D → Sto → Prop} (q : Q (.str (toPy d).shown) S) (h : flatOk 9 d = true) (g : shoP d) (b : bigD d ≤ 8000) (obj : (∃ l, d = .lst l) ∨ ∃ l, d = .tup l) : DRC K (rRepD K) [d] S Q := fun H Hd vs Qv st rr k => by
  obtain ⟨v, e1, rv⟩ := one_rp rr
  subst e1
  obtain ⟨a, ea⟩ : ∃ a, v = V.ref a := by
    rcases obj with ⟨l, z⟩ | ⟨l, z⟩
    · subst z
      obtain ⟨a, xs, f1, _⟩ := rv
      exact ⟨a, f1⟩
    · subst z
      obtain ⟨a, xs, f1, _⟩ := rv
      exact ⟨a, f1⟩
  subst ea
  obtain ⟨s1, s2, s3⟩ := sho_of 9 d h g
  exact ⟨a, toPy d, rfl, dp_of 9 d _ h (Rp.mono st.sub d _ rv), s1, s3, Nat.le_trans (lay_of 9 d h).2 (by decide), shown_fits h g b, k _ _ (.here (d := .str _) st rfl q)⟩
end
end DL
namespace DL
open PySem PySem.Spec PyProof.Rows L2

/-! ### statements -/
structure Dn where
  nx : DEnv → Sto → Prop
  rt : D → Sto → Prop
  bk : DEnv → Sto → Prop := fun _ _ => False
  ct : DEnv → Sto → Prop := fun _ _ => False
structure Lift (K : PySem.W.Frag) (Hd : Hp) (Z : Dn) (De : Ends) : Prop where
  nx : ∀ en S σ H Hd', Same Hd Hd' → St0 K S Hd' H → RpE K Hd' en σ → Z.nx en S → De.nx σ H
  rt : ∀ d S v H Hd', Same Hd Hd' → St0 K S Hd' H → Rp K Hd' d v → Z.rt d S → De.rt v H
  bk : ∀ en S σ H Hd', Same Hd Hd' → St0 K S Hd' H → RpE K Hd' en σ → Z.bk en S → De.bk σ H
  ct : ∀ en S σ H Hd', Same Hd Hd' → St0 K S Hd' H → RpE K Hd' en σ → Z.ct en S → De.ct σ H
theorem Lift.up {K : PySem.W.Frag} {Hd Hd' : Hp} {Z : Dn} {De : Ends} (e : Same Hd Hd') (l : Lift K Hd Z De) : Lift K Hd' Z De :=
  ⟨fun en S σ H H2 k => l.nx en S σ H H2 (e.trans k), fun d S v H H2 k => l.rt d S v H H2 (e.trans k), fun en S σ H H2 k => l.bk en S σ H H2 (e.trans k), fun en S σ H H2 k => l.ct en S σ H H2 (e.trans k)⟩
structure DS1 (X : Cx) (st : Stmt) (en : DEnv) (S : Sto) (Z : Dn) : Prop where
  run : ∀ (σ : L2.St) (H Hd : Hp), St0 X.K S Hd H → RpE X.K Hd en σ → ∀ De : Ends, Lift X.K Hd Z De → wS X st De σ H
instance {X : Cx} {st : Stmt} {en : DEnv} {S : Sto} {Z : Dn} : CoeFun (DS1 X st en S Z) (fun _ => ∀ (σ : L2.St) (H Hd : Hp), St0 X.K S Hd H → RpE X.K Hd en σ → ∀ De : Ends, Lift X.K Hd Z De → wS X st De σ H) := ⟨fun h => h.run⟩
structure DS (X : Cx) (sts : List Stmt) (en : DEnv) (S : Sto) (Z : Dn) : Prop where
  run : ∀ (σ : L2.St) (H Hd : Hp), St0 X.K S Hd H → RpE X.K Hd en σ → ∀ De : Ends, Lift X.K Hd Z De → wSs X sts De σ H
instance {X : Cx} {sts : List Stmt} {en : DEnv} {S : Sto} {Z : Dn} : CoeFun (DS X sts en S Z) (fun _ => ∀ (σ : L2.St) (H Hd : Hp), St0 X.K S Hd H → RpE X.K Hd en σ → ∀ De : Ends, Lift X.K Hd Z De → wSs X sts De σ H) := ⟨fun h => h.run⟩
/-- a target takes data -/
structure DG (X : Cx) (tg : Expr) (d : D) (en : DEnv) (S : Sto) (N : DEnv → Sto → Prop) : Prop where
  run : ∀ (σ : L2.St) (H Hd : Hp) (v : V), St0 X.K S Hd H → RpE X.K Hd en σ → Rp X.K Hd d v →
  wG X tg v σ H fun σ' H' => ∃ en' S' Hd', Same Hd Hd' ∧ St0 X.K S' Hd' H' ∧ RpE X.K Hd' en' σ' ∧ N en' S'
instance {X : Cx} {tg : Expr} {d : D} {en : DEnv} {S : Sto} {N : DEnv → Sto → Prop} : CoeFun (DG X tg d en S N) (fun _ => ∀ (σ : L2.St) (H Hd : Hp) (v : V), St0 X.K S Hd H → RpE X.K Hd en σ → Rp X.K Hd d v →
  wG X tg v σ H fun σ' H' => ∃ en' S' Hd', Same Hd Hd' ∧ St0 X.K S' Hd' H' ∧ RpE X.K Hd' en' σ' ∧ N en' S') := ⟨fun h => h.run⟩
def wGs (X : Cx) (ts : List Expr) : TGs := fun vs σ H Q => ∀ pins s us, Inv X pins σ H s → Vals vs us →
  wpAny (model X.prog X.w) X.A (assignInOrder ((assignEach ts X.env).map (·.2)) us) (fun _ s' => ∃ σ' H', Inv X pins σ' H' s' ∧ Q σ' H') X.xe s
structure DGs (X : Cx) (ts : List Expr) (ds : List D) (en : DEnv) (S : Sto) (N : DEnv → Sto → Prop) : Prop where
  run : ∀ (σ : L2.St) (H Hd : Hp) (vs : List V), St0 X.K S Hd H → RpE X.K Hd en σ → RpL X.K Hd ds vs →
  wGs X ts vs σ H fun σ' H' => ∃ en' S' Hd', Same Hd Hd' ∧ St0 X.K S' Hd' H' ∧ RpE X.K Hd' en' σ' ∧ N en' S'
instance {X : Cx} {ts : List Expr} {ds : List D} {en : DEnv} {S : Sto} {N : DEnv → Sto → Prop} : CoeFun (DGs X ts ds en S N) (fun _ => ∀ (σ : L2.St) (H Hd : Hp) (vs : List V), St0 X.K S Hd H → RpE X.K Hd en σ → RpL X.K Hd ds vs →
  wGs X ts vs σ H fun σ' H' => ∃ en' S' Hd', Same Hd Hd' ∧ St0 X.K S' Hd' H' ∧ RpE X.K Hd' en' σ' ∧ N en' S') := ⟨fun h => h.run⟩
section
variable {X : Cx} {a b c e tg : Expr} {es ts : List Expr} {st : Stmt} {sts rest : List Stmt} {en en' : DEnv} {S : Sto} {Z : Dn} {N : DEnv → Sto → Prop} {pos pos' p2 : Pos} {x : Str} {d : D} {ds : List D}
theorem pgsW : PGs X ts (wGs X ts) := ⟨fun pins s _ _ vs us _ I r h => h pins s us I r⟩
theorem wGs_of {t : TGs} {vs : List V} {σ : L2.St} {H : Hp} {Q : L2.St → Hp → Prop} (h : PGs X ts t) (q : t vs σ H Q) : wGs X ts vs σ H Q := fun pins s us I r => h.run pins s σ H vs us Q I r q
theorem DS.weak (w : Wk en en') (h : DS X sts en' S Z) : DS X sts en S Z := ⟨fun σ H Hd st re => h σ H Hd st (w.use re)⟩
theorem DG.weak (w : Wk en en') (h : DG X tg d en' S N) : DG X tg d en S N := ⟨fun σ H Hd v st re => h σ H Hd v st (w.use re)⟩
theorem DG.mono {N' : DEnv → Sto → Prop} (h : DG X tg d en S N) (k : ∀ en' S', N en' S' → N' en' S') : DG X tg d en S N' := ⟨fun σ H Hd v st re r =>
  wG_mono (h σ H Hd v st re r) fun _ _ ⟨en', S', Hd', z1, z2, z3, q⟩ => ⟨en', S', Hd', z1, z2, z3, k _ _ q⟩⟩
theorem ds_nil (q : Z.nx en S) : DS X [] en S Z := ⟨fun σ H Hd st re De l => wSs_of pss_nil (l.nx en S σ H Hd (Same.refl _) st re q)⟩
theorem ds_cons (h : DS1 X st en S { Z with nx := fun en' S' => DS X rest en' S' Z }) : DS X (st :: rest) en S Z := ⟨fun σ H Hd s0 re De l => by
  refine wSs_of (pss_cons psW pssW) ?_
  exact h σ H Hd s0 re _ ⟨fun en' S' σ' H' Hd' z1 z2 z3 q => q σ' H' Hd' z2 z3 De (l.up z1), l.rt, l.bk, l.ct⟩⟩
/-- a changed list is changed no more -/
theorem ds_freeze (i : Nat) {p : Addr} {l : List D} {S' : Sto} (he : en[i]? = some (some (.raw (.ref p))) := by rfl) (h : DS X sts (en.set i (some (.lst l))) S' Z) (hS : S = (p, l) :: S' := by rfl) : DS X sts en S Z := ⟨fun σ H Hd st re De lf => by
  subst hS
  obtain ⟨xs, r, e1, st'⟩ := st.frozen
  obtain ⟨v, e2, rv⟩ := re.get he
  have rv : v = V.ref p := rv
  subst rv
  have re' : RpE X.K (upd Hd p (.lst xs)) (en.set i (some (.lst l))) (σ.set i (some (.ref p))) := (re.mono e1).set (d := .lst l) ⟨p, xs, rfl, upd_same, r.mono e1⟩ i
  have es : σ.set i (some (.ref p)) = σ := by
    have hi := List.getElem?_eq_some_iff.mp e2
    obtain ⟨h1, h2⟩ := hi
    rw [← h2]
    exact List.set_getElem_self h1
  rw [es] at re'
  exact h σ H _ st' re' De (lf.up e1)⟩
/-- a changed list is forgotten -/
theorem ds_forget {p : Addr} {l : List D} {S' : Sto} (h : DS X sts en S' Z) (hS : S = (p, l) :: S' := by rfl) : DS X sts en S Z := ⟨fun σ H Hd st re De lf => by
  subst hS
  exact h σ H Hd st.drop re De lf⟩
/-! ### targets -/
theorem dg_name (i : Nat) {en' : DEnv} (q : N en' S) (hN : X.N.Nodup) (hi : X.N[i]? = some x := by rfl) (hx : Loc X.env.scope x := by first | exact Or.inl rfl | exact Or.inr rfl)
    (hf : X.fn x = true ∨ X.env.scope.names.lookup x = some .local := by first | exact .inl rfl | exact .inr rfl) (he : en.set i (some d) = en' := by set_option simprocs false in dsimp only [List.set]) : DG X (.Name x pos) d en S N := ⟨fun σ H Hd v st re r =>
  wG_of (pg_name hN hi hx hf) ⟨_, S, Hd, Same.refl _, st, re.set r i, by rw [he]; exact q⟩⟩
/-- the slots written out -/
theorem ds_nrm {en' : DEnv} (h : DS X sts en' S Z) (he : en = en' := by set_option simprocs false in dsimp only [List.set]) : DS X sts en S Z := by
  rw [he]
  exact h
theorem dgs_nil (q : N en S) : DGs X [] [] en S N := ⟨fun σ H Hd vs st re r => wGs_of pgs_nil ⟨r, en, S, Hd, Same.refl _, st, re, q⟩⟩
theorem dgs_cons (h : DG X e d en S fun en1 S1 => DGs X es ds en1 S1 N) (hs : (assignEach (e :: es) X.env).map (·.2) = assign e X.env :: (assignEach es X.env).map (·.2) := by rfl) : DGs X (e :: es) (d :: ds) en S N := ⟨fun σ H Hd vs st re r => by
  obtain ⟨v, vr, e1, r1, r2⟩ := r
  subst e1
  refine wGs_of (pgs_cons pgW pgsW hs) ⟨v, vr, rfl, ?_⟩
  refine wG_mono (h σ H Hd v st re r1) fun σ1 H1 ⟨en1, S1, Hd1, z1, z2, z3, q⟩ => ?_
  intro pins s us I rr
  refine thn (q σ1 H1 Hd1 vr z2 z3 (r2.mono z1) pins s us I rr) fun _ s2 ⟨σ2, H2, I2, en2, S2, Hd2, y1, y2, y3, y4⟩ => ⟨σ2, H2, I2, en2, S2, Hd2, z1.trans y1, y2, y3, y4⟩⟩
theorem dg_tup {k : Nat} {n : Nat} (hc : X.calm = true) (hl : ds.length = n) (h : DGs X es ds en S N) (hn : (assignEach es X.env).length = n := by rfl) (hst : (assignEach es X.env).findIdx? (·.1) = none := by rfl) : DG X (.Tuple es k pos) (.tup ds) en S N := ⟨fun σ H Hd v st re r => by
  obtain ⟨a, xs, e1, e2, e3⟩ := r
  subst e1
  exact wG_of (pg_tup hc pgsW hn hst) ⟨a, xs, rfl, same_t st.sub e2, by rw [e3.length]; exact hl, h σ H Hd xs st re e3⟩⟩
theorem dg_tupL {k : Nat} {n : Nat} (hc : X.calm = true) (hl : ds.length = n) (h : DGs X es ds en S N) (pl : ∀ {t : TGs}, PGs X es t → PG X (.Tuple es k pos) (gLst X.K n t)) : DG X (.Tuple es k pos) (.lst ds) en S N := ⟨fun σ H Hd v st re r => by
  obtain ⟨a, xs, e1, e2, e3⟩ := r
  subst e1
  exact wG_of (pl pgsW) ⟨a, xs, rfl, .of (st.sub _ _ e2), by rw [e3.length]; exact hl, h σ H Hd xs st re e3⟩⟩
/-- xs[i] = .., a changed list -/
theorem dg_sub (h : DE X a en S fun o S1 => DE X b en S1 fun i S2 => ∃ (p : Addr) (k : Int) (l : List D) (j : Nat), o = .raw (.ref p) ∧ i = .int k ∧ getS p S2 = some l ∧ ixN l.length k = some j ∧ N en (setS p (l.set j d) S2))
    (ha : ∀ v, assign (.Subscript a b pos) X.env v = (do
      let ov ← holding [v] (eval a X.env)
      let iv ← holding [v, ov] (eval b X.env)
      standAt pos
      holding [v, ov, iv] (setItem ov iv v)
      release [v, ov, iv] []) := by intro _; rfl) : DG X (.Subscript a b pos) d en S N := ⟨fun σ H Hd v st re r => by
  refine wG_of (pg_sub peW peW set_list ha) ?_
  refine wE_mono (h σ H Hd st re) fun o H1 ⟨od, S1, Hd1, e1, st1, r1, q1⟩ => ?_
  refine wE_mono (q1 σ H1 Hd1 st1 (re.mono e1)) fun i H2 ⟨idd, S2, Hd2, e2, st2, r2, p, k, l, j, f1, f2, g, hj, q⟩ => ?_
  subst f1 f2
  have r1 : o = V.ref p := r1
  have r2 : i = V.int k := r2
  subst r1 r2
  obtain ⟨hd, xs, hx, rx⟩ := st2.own.at g
  have e12 := e1.trans e2
  refine ⟨p, xs, k, j, rfl, rfl, hx, by rw [rx.length]; exact hj, ?_⟩
  exact ⟨en, _, Hd2, e12, st2.written g (RpL.set (Rp.mono e12 d v r) j rx), re.mono e12, q⟩⟩
/-! ### assignments, return, if -/
theorem ds_asg (h : DE X e en S fun d S1 => DG X tg d en S1 Z.nx) (hs : swapsWithSole [tg] e pos.line X.env = pure false := by first | exact sws1 rfl | exact sw0 rfl | rfl) (hw : swappedStores [tg] e X.env = pure none := by first | exact sst rfl | rfl)
    (h1 : (assignEach [tg] X.env).map (·.2) = [assign tg X.env] := by rfl) : DS1 X (.Assign [tg] e pos) en S Z := ⟨fun σ H Hd st re De l => by
  refine wS_of (ps_asg peW pgW hs hw h1) ?_
  refine wE_mono (h σ H Hd st re) fun v H1 ⟨d, S1, Hd1, e1, st1, r1, q⟩ => ?_
  refine wG_mono (q σ H1 Hd1 v st1 (re.mono e1) r1) fun σ2 H2 ⟨en2, S2, Hd2, z1, z2, z3, z4⟩ => ?_
  exact l.nx en2 S2 σ2 H2 Hd2 (e1.trans z1) z2 z3 z4⟩
/-- a, b = x, y -/
theorem ds_par {i j : Nat} {y : Str} {px py pt : Pos} {kt k2 pt2} (hc : X.calm = true) (hN : X.N.Nodup) (hi : X.N[i]? = some x) (hj : X.N[j]? = some y) (hij : i ≠ j) (h : DA X [a, b] en S fun vs S1 => ∃ v w, vs = [v, w] ∧ Z.nx ((en.set i (some v)).set j (some w)) S1)
    (hx : X.env.scope.names.lookup x = some .local := by rfl) (hy : X.env.scope.names.lookup y = some .local := by rfl)
    (hw : swappedStores [.Tuple [.Name x px, .Name y py] kt pt] (.Tuple [a, b] k2 pt2) X.env = pure (some [x, y]) := by rfl)
    (hs : swapsWithSole [.Tuple [.Name x px, .Name y py] kt pt] (.Tuple [a, b] k2 pt2) pos.line X.env = pure false := by first | exact sws1 rfl | exact sw0 rfl | rfl) : DS1 X (.Assign [.Tuple [.Name x px, .Name y py] kt pt] (.Tuple [a, b] k2 pt2) pos) en S Z := ⟨fun σ H Hd st re De l => by
  refine wS_of (ps_par hc hN hi hj hij hx hy paW hw hs) ?_
  refine wA_mono (h σ H Hd st re) fun vs H1 ⟨ds, S1, Hd1, e1, st1, r1, v, w, e2, q⟩ => ?_
  subst e2
  obtain ⟨v1, w1, e3, rv, rw'⟩ := two_rp r1
  exact ⟨v1, w1, e3, l.nx _ S1 _ H1 Hd1 e1 st1 (((re.mono e1).set rv i).set rw' j) q⟩⟩
theorem ds_ret (h : DE X e en S Z.rt) : DS1 X (.Return (some e) pos) en S Z := ⟨fun σ H Hd st re De l =>
  wS_of (ps_ret peW) (wE_mono (h σ H Hd st re) fun v H1 ⟨d, S1, Hd1, e1, st1, r1, q⟩ => l.rt d S1 v H1 Hd1 e1 st1 r1 q)⟩
theorem ds_retN (h : Z.rt .non S) : DS1 X (.Return none pos) en S Z := ⟨fun σ H Hd st re De l => wS_of ps_retN (l.rt .non S .non H Hd (Same.refl _) st rfl h)⟩
theorem ds_if {s1 s2 : List Stmt} (h : DT X c en S fun t S1 => (t = true → DS X s1 en S1 Z) ∧ (t = false → DS X s2 en S1 Z)) : DS1 X (.If c s1 s2 pos) en S Z := ⟨fun σ H Hd st re De l => by
  refine wS_of (ps_if ptW pssW pssW) ?_
  refine wT_mono (h σ H Hd st re) fun t H1 ⟨S1, Hd1, e1, st1, q1, q2⟩ => ?_
  cases t with
  | true =>
    rw [if_pos rfl]
    exact q1 rfl σ H1 Hd1 st1 (re.mono e1) De (l.up e1)
  | false =>
    rw [if_neg Bool.false_ne_true]
    exact q2 rfl σ H1 Hd1 st1 (re.mono e1) De (l.up e1)⟩
theorem ds_pass (q : Z.nx en S) : DS1 X (.Pass pos) en S Z := ⟨fun σ H Hd st re De l => wS_of ps_pass (l.nx en S σ H Hd (Same.refl _) st re q)⟩
theorem ds_brk (q : Z.bk en S) : DS1 X (.Break pos) en S Z := ⟨fun σ H Hd st re De l => wS_of ps_break (l.bk en S σ H Hd (Same.refl _) st re q)⟩
theorem ds_ct (q : Z.ct en S) : DS1 X (.Continue pos) en S Z := ⟨fun σ H Hd st re De l => wS_of ps_continue (l.ct en S σ H Hd (Same.refl _) st re q)⟩
/-- a statement that is never reached -/
theorem ds_never (h : False) : DS1 X st en S Z := h.elim
theorem ds_expr (h : DE X e en S fun _ S1 => Z.nx en S1) (hs : swapsWith e none pos.line X.env = pure false := by first | exact sws1 rfl | exact sw0 rfl | rfl) : DS1 X (.Expr e pos) en S Z := ⟨fun σ H Hd st re De l =>
  wS_of (ps_expr peW hs) (wE_mono (h σ H Hd st re) fun v H1 ⟨d, S1, Hd1, e1, st1, r1, q⟩ => l.nx en S1 σ H1 Hd1 e1 st1 (re.mono e1) q)⟩
/-- xs.append(e) -/
theorem de_append {o : Expr} {apos cpos : Pos} {Q : D → Sto → Prop} (h : DE X o en S fun d S1 => ∃ p l, d = .raw (.ref p) ∧ getS p S1 = some l ∧ DA X [e] en S1 fun vs S2 => ∃ v l, vs = [v] ∧ getS p S2 = some l ∧ l.length < 100000 ∧ Q .non (setS p (l ++ [v]) S2))
    (mk : ∀ {to : TE} {t : TA}, PE X o to → PA X [e] t → PE X (.Call (.Attribute o "append" apos) [e] [] cpos) (tBM X.K "list" rAppend to t) := by
      exact fun ho ha => pe_bm PySem.F.plainAttrs_list PySem.F.slot_list_append PySem.F.type_list_append mt_append ho ha) : DE X (.Call (.Attribute o "append" apos) [e] [] cpos) en S Q := ⟨fun σ H Hd st re => by
  refine wE_of (mk peW paW) ?_
  refine wE_mono (h σ H Hd st re) fun o' H1 ⟨d, S1, Hd1, e1, st1, r1, p, l, f1, g, q⟩ => ?_
  subst f1
  have r1 : o' = V.ref p := r1
  subst r1
  obtain ⟨_, xs, hx, _⟩ := st1.own.at g
  refine ⟨.inl ⟨rfl, xs, .of hx⟩, ?_⟩
  refine wA_mono (q σ H1 Hd1 st1 (re.mono e1)) fun vs H2 ⟨ds, S2, Hd2, e2, st2, r2, v, l2, f2, g2, n2, q2⟩ => ?_
  subst f2
  obtain ⟨v1, f3, rv⟩ := one_rp r2
  subst f3
  obtain ⟨_, ys, hy, ry⟩ := st2.own.at g2
  have ln : ys.length < sizeLine := by
    rw [ry.length]
    exact Nat.lt_of_lt_of_le n2 (by decide)
  refine ⟨p, ys, v1, rfl, rfl, hy, ln, ?_⟩
  exact ⟨.non, _, Hd2, e1.trans e2, st2.written g2 (ry.append (show RpL X.K Hd2 [v] [v1] from ⟨v1, [], rfl, rv, rfl⟩)), rfl, q2⟩⟩
end

/-! ### loops -/
/-- the iterator yields these data, one after another -/
structure ItOk (K : PySem.W.Frag) (Hd : Hp) (J : It) (ds : List D) : Prop where
  go : ∀ {Hd' H : Hp} {S : Sto} {i : Nat} {d : D}, Same Hd Hd' → St0 K S Hd' H → ds[i]? = some d → J.go i H ∧ ∀ x H', J.yld i H x H' → ∃ Hd2, Same Hd' Hd2 ∧ St0 K S Hd2 H' ∧ Rp K Hd2 d x
  stop : ∀ {Hd' H : Hp} {S : Sto}, Same Hd Hd' → St0 K S Hd' H → J.stop ds.length H
def wI (X : Cx) (tg iter : Expr) : TI := fun σ H R => ∀ pins s, Inv X pins σ H s →
  wpAny (model X.prog X.w) X.A (eval iter X.env) (fun v s1 => wpAny (model X.prog X.w) X.A (pyIter v) (PIE X pins σ tg R) X.xe s1) X.xe s
structure DI (X : Cx) (tg iter : Expr) (en : DEnv) (S : Sto) (R : List D → Sto → Prop) : Prop where
  run : ∀ (σ : L2.St) (H Hd : Hp), St0 X.K S Hd H → RpE X.K Hd en σ →
  wI X tg iter σ H fun J H' => ∃ ds S' Hd', Same Hd Hd' ∧ St0 X.K S' Hd' H' ∧ ItOk X.K Hd' J ds ∧ R ds S'
instance {X : Cx} {tg iter : Expr} {en : DEnv} {S : Sto} {R : List D → Sto → Prop} : CoeFun (DI X tg iter en S R) (fun _ => ∀ (σ : L2.St) (H Hd : Hp), St0 X.K S Hd H → RpE X.K Hd en σ →
  wI X tg iter σ H fun J H' => ∃ ds S' Hd', Same Hd Hd' ∧ St0 X.K S' Hd' H' ∧ ItOk X.K Hd' J ds ∧ R ds S') := ⟨fun h => h.run⟩
section
variable {X : Cx} {a b c e tg iter : Expr} {es ts : List Expr} {st : Stmt} {sts rest body : List Stmt} {en en' : DEnv} {S : Sto} {Z : Dn} {N : DEnv → Sto → Prop} {pos pos' p2 p : Pos} {x : Str} {d : D} {ds : List D} {R : List D → Sto → Prop}
theorem piW : PI X tg iter (wI X tg iter) := ⟨fun pins s _ _ _ I h => h pins s I⟩
theorem wI_of {t : TI} {σ : L2.St} {H : Hp} {Q : It → Hp → Prop} (h : PI X tg iter t) (q : t σ H Q) : wI X tg iter σ H Q := fun pins s I => h.run pins s σ H Q I q
theorem it_list {K : PySem.W.Frag} {Hd : Hp} {a : Addr} {xs : List V} (h : SqL K Hd a xs) (r : RpL K Hd ds xs) (inj : ∀ {H : Hp} {ys zs : List V}, SqL K H a ys → SqL K H a zs → True) : ItOk K Hd (Itl K a) ds where
  go := fun {Hd' H S i d} e st hi => by
    obtain ⟨v, hv, rv⟩ := r.get hi
    have hs := same_l (e.trans st.sub) h
    refine ⟨⟨xs, v, hs, hv⟩, fun x H' y => ?_⟩
    obtain ⟨e1, y⟩ := y
    subst e1
    have q := y xs hs
    rw [hv] at q
    cases q
    exact ⟨Hd', Same.refl _, st, Rp.mono e d v rv⟩
  stop := fun {Hd' H S} e st => ⟨xs, same_l (e.trans st.sub) h, by rw [r.length]; exact Nat.le_refl _⟩
theorem it_tup {K : PySem.W.Frag} {Hd : Hp} {a : Addr} {xs : List V} (h : SqT K Hd a xs) (r : RpL K Hd ds xs) : ItOk K Hd (Itt K a) ds where
  go := fun {Hd' H S i d} e st hi => by
    obtain ⟨v, hv, rv⟩ := r.get hi
    have hs := same_t (e.trans st.sub) h
    refine ⟨⟨xs, v, hs, hv⟩, fun x H' y => ?_⟩
    obtain ⟨e1, y⟩ := y
    subst e1
    have q := y xs hs
    rw [hv] at q
    cases q
    exact ⟨Hd', Same.refl _, st, Rp.mono e d v rv⟩
  stop := fun {Hd' H S} e st => ⟨xs, same_t (e.trans st.sub) h, by rw [r.length]; exact Nat.le_refl _⟩
def rngD (lo : Int) (n : Nat) : List D := (List.range n).map fun i => D.int (lo + (i : Nat))
theorem rngD_len {lo : Int} {n : Nat} : (rngD lo n).length = n := by unfold rngD; simp
theorem rngD_get {lo : Int} {n i : Nat} {d : D} (h : (rngD lo n)[i]? = some d) : i < n ∧ d = .int (lo + (i : Nat)) := by
  have hi : i < n := by
    have := (List.getElem?_eq_some_iff.mp h).1
    rw [rngD_len] at this
    exact this
  refine ⟨hi, ?_⟩
  unfold rngD at h
  rw [List.getElem?_map, List.getElem?_range hi] at h
  exact (Option.some.inj h).symm
theorem it_rng {K : PySem.W.Frag} {Hd : Hp} {lo : Int} {n : Nat} : ItOk K Hd (Itr lo n) (rngD lo n) where
  go := fun {Hd' H S i d} e st hi => by
    obtain ⟨h1, h2⟩ := rngD_get hi
    subst h2
    refine ⟨h1, fun x H' y => ?_⟩
    obtain ⟨e1, e2⟩ := y
    subst e1 e2
    exact ⟨Hd', Same.refl _, st, rfl⟩
  stop := fun {Hd' H S} e st => by
    show n ≤ (rngD lo n).length
    rw [rngD_len]
    exact Nat.le_refl _
def enuD (ds : List D) : List D := ds.mapIdx fun i d => D.tup [.int (i : Nat), d]
theorem enuD_get {i : Nat} {d : D} (h : (enuD ds)[i]? = some d) : ∃ x, ds[i]? = some x ∧ d = .tup [.int (i : Nat), x] := by
  unfold enuD at h
  rw [List.getElem?_mapIdx] at h
  cases q : ds[i]? with
  | none => rw [q] at h; cases h
  | some x =>
    rw [q] at h
    exact ⟨x, rfl, (Option.some.inj h).symm⟩
theorem it_enu {K : PySem.W.Frag} {Hd : Hp} {a : Addr} {xs : List V} (h : SqL K Hd a xs) (r : RpL K Hd ds xs) : ItOk K Hd (Ite K a) (enuD ds) where
  go := fun {Hd' H S i d} e st hi => by
    obtain ⟨z, hz, ez⟩ := enuD_get hi
    subst ez
    obtain ⟨v, hv, rv⟩ := r.get hz
    have hs := same_l (e.trans st.sub) h
    refine ⟨⟨xs, v, hs, hv⟩, fun x H' y => ?_⟩
    obtain ⟨T, w, e1, hT, e2, y⟩ := y
    subst e1 e2
    have q := y xs hs
    rw [hv] at q
    cases q
    obtain ⟨k1, k2⟩ := st.laid (o := .tup [.int (i : Nat), v]) hT
    exact ⟨_, k1, k2, T, _, rfl, SqT.of upd_same, ⟨_, _, rfl, rfl, _, _, rfl, Rp.mono (e.trans k1) z v rv, rfl⟩⟩
  stop := fun {Hd' H S} e st => by
    refine ⟨xs, same_l (e.trans st.sub) h, ?_⟩
    rw [r.length]
    unfold enuD
    simp
/-- for x in e: a tuple, a list -/
def itP (d : D) (S : Sto) (R : List D → Sto → Prop) : Prop := match d with
  | .tup l => R l S
  | .lst l => R l S
  | .scr l => R (l.map D.int) S
  | _ => False
theorem di_lst (h : DE X iter en S fun d S1 => ∃ l, d = .lst l ∧ R l S1) : DI X tg iter en S R := ⟨fun σ H Hd st re => by
  refine wI_of (pi_list peW) ?_
  refine wE_mono (h σ H Hd st re) fun v H1 ⟨d, S1, Hd1, e1, st1, r1, l, e2, q⟩ => ?_
  subst e2
  obtain ⟨a, xs, f1, f2, f3⟩ := r1
  exact ⟨a, f1, ⟨xs, .of (st1.sub _ _ f2)⟩, l, S1, Hd1, e1, st1, it_list (.of f2) f3 (fun _ _ => trivial), q⟩⟩
theorem di_scr (h : DE X iter en S fun d S1 => ∃ l, d = .scr l ∧ R (l.map D.int) S1) : DI X tg iter en S R := ⟨fun σ H Hd st re => by
  refine wI_of (pi_list peW) ?_
  refine wE_mono (h σ H Hd st re) fun v H1 ⟨d, S1, Hd1, e1, st1, r1, l, e2, q⟩ => ?_
  subst e2
  obtain ⟨a, f1, f2⟩ := r1
  exact ⟨a, f1, ⟨_, same_l st1.sub f2⟩, _, S1, Hd1, e1, st1, it_list f2 (RpL.ints l) (fun _ _ => trivial), q⟩⟩
theorem di_tup (h : DE X iter en S fun d S1 => ∃ l, d = .tup l ∧ R l S1) : DI X tg iter en S R := ⟨fun σ H Hd st re => by
  refine wI_of (pi_tup peW) ?_
  refine wE_mono (h σ H Hd st re) fun v H1 ⟨d, S1, Hd1, e1, st1, r1, l, e2, q⟩ => ?_
  subst e2
  obtain ⟨a, xs, f1, f2, f3⟩ := r1
  exact ⟨a, f1, ⟨xs, same_t st1.sub f2⟩, l, S1, Hd1, e1, st1, it_tup f2 f3, q⟩⟩
theorem di_rng1 (hm : X.mg "range" = none) (h : DA X [a] en S fun ds S1 => ∃ n : Int, ds = [.int n] ∧ (-(2 ^ 62) ≤ n ∧ n < 2 ^ 62) ∧ R (rngD 0 n.toNat) S1) (hg : Gl X "range" := by rfl) (hs : starEach [a] X.env = [(false, eval a X.env)] := by rfl) : DI X tg (.Call (.Name "range" p) [a] [] pos) en S R := ⟨fun σ H Hd st re => by
  refine wI_of (pi_range1 hg hm paW hs) ?_
  refine wA_mono (h σ H Hd st re) fun vs H1 ⟨ds, S1, Hd1, e1, st1, r1, n, e2, ⟨n1, n2⟩, q⟩ => ?_
  subst e2
  obtain ⟨v, f1, rv⟩ := one_rp r1
  have rv : v = V.int n := rv
  subst f1 rv
  exact ⟨n, rfl, n1, n2, _, S1, Hd1, e1, st1, it_rng, q⟩⟩
theorem di_rng2 (hm : X.mg "range" = none) (h : DA X [a, b] en S fun ds S1 => ∃ m n : Int, ds = [.int m, .int n] ∧ (-(2 ^ 62) ≤ m ∧ m < 2 ^ 62 ∧ -(2 ^ 62) ≤ n ∧ n < 2 ^ 62) ∧ R (rngD m (n - m).toNat) S1) (hg : Gl X "range" := by rfl)
    (hs : starEach [a, b] X.env = [(false, eval a X.env), (false, eval b X.env)] := by rfl) (hs2 : starEach [b] X.env = [(false, eval b X.env)] := by rfl) : DI X tg (.Call (.Name "range" p) [a, b] [] pos) en S R := ⟨fun σ H Hd st re => by
  refine wI_of (pi_range2 hg hm paW hs hs2) ?_
  refine wA_mono (h σ H Hd st re) fun vs H1 ⟨ds, S1, Hd1, e1, st1, r1, m, n, e2, nn, q⟩ => ?_
  subst e2
  obtain ⟨v, w, f1, rv, rw'⟩ := two_rp r1
  have rv : v = V.int m := rv
  have rw' : w = V.int n := rw'
  subst f1 rv rw'
  exact ⟨m, n, rfl, nn, _, S1, Hd1, e1, st1, it_rng, q⟩⟩
theorem di_enum {elts : List Expr} {kk : Nat} {tpos : Pos} (hm : X.mg "enumerate" = none) (h : DA X [e] en S fun ds S1 => ∃ l, ds = [.lst l] ∧ R (enuD l) S1) (hg : Gl X "enumerate" := by rfl) (hs : starEach [e] X.env = [(false, eval e X.env)] := by rfl) :
    DI X (.Tuple elts kk tpos) (.Call (.Name "enumerate" p) [e] [] pos) en S R := ⟨fun σ H Hd st re => by
  refine wI_of (pi_enum hg hm paW hs) ?_
  refine wA_mono (h σ H Hd st re) fun vs H1 ⟨ds, S1, Hd1, e1, st1, r1, l, e2, q⟩ => ?_
  subst e2
  obtain ⟨v, f1, a, xs, f2, f3, f4⟩ := one_rp r1
  subst f1 f2
  exact ⟨a, xs, rfl, .of (st1.sub _ _ f3), _, S1, Hd1, e1, st1, it_enu (.of f3) f4, q⟩⟩
/-- THE LOOP: E g, what is known of the slots; P i g, what holds ahead of turn i; g is yours -/
theorem ds_for {γ : Type} (hp : PassesOwn (model X.prog X.w) X.A X.env X.xe) (hc : X.calm = true)
    (h : DI X tg iter en S fun ds S1 => ∃ (E : γ → DEnv) (P : Nat → γ → Sto → Prop) (g0 : γ), Wk en (E g0) ∧ P 0 g0 S1 ∧
      (∀ i d g S', ds[i]? = some d → P i g S' → DG X tg d (E g) S' fun en2 S2 => DS X body en2 S2 { nx := fun en3 S3 => ∃ g', Wk en3 (E g') ∧ P (i + 1) g' S3, rt := Z.rt, ct := fun en3 S3 => ∃ g', Wk en3 (E g') ∧ P (i + 1) g' S3, bk := Z.nx }) ∧
      ∀ g S', P ds.length g S' → Z.nx (E g) S') (hs : ∀ x, foldedSetIterable iter X.env x = pure x := by first | exact fset rfl | (intro _; rfl)) : DS1 X (.For tg iter body [] pos) en S Z := ⟨fun σ H Hd st re De l => by
  refine wS_of (ps_for hp hc piW pgW pssW hs) ?_
  intro pins s I
  refine thn (h σ H Hd st re pins s I) fun v s1 h1 => thn h1 fun itv s2 h2 => ?_
  obtain ⟨it, fp, tn, J, H2, e, I2, T, st2, f2, ds, S1, Hd1, e1, s01, io, E, P, g0, wk, p0, turn, fin⟩ := h2
  refine ⟨it, fp, tn, J, H2, e, I2, T, st2, f2, ?_⟩
  refine ⟨fun i m σ H => m = ds.length - i ∧ i ≤ ds.length ∧ ∃ g S' Hd', Same Hd1 Hd' ∧ St0 X.K S' Hd' H ∧ RpE X.K Hd' (E g) σ ∧ P i g S', ⟨_, rfl, Nat.zero_le _, g0, S1, Hd1, Same.refl _, s01, wk.use (re.mono e1), p0⟩, ?_⟩
  rintro i m σ H ⟨rfl, hi, g, S', Hd', k1, k2, k3, k4⟩
  by_cases hlt : i < ds.length
  · obtain ⟨go, yl⟩ := io.go k1 k2 (List.getElem?_eq_getElem hlt)
    refine .inr ⟨go, fun σ' H' => ∃ g S' Hd', Same Hd1 Hd' ∧ St0 X.K S' Hd' H' ∧ RpE X.K Hd' (E g) σ' ∧ P (i + 1) g S', fun σ' H' q => ⟨ds.length - (i + 1), by omega, rfl, hlt, q⟩, fun x H' y => ?_⟩
    obtain ⟨Hd2, y1, y2, y3⟩ := yl x H' y
    refine wG_mono (turn i _ g S' (List.getElem?_eq_getElem hlt) k4 σ H' Hd2 x y2 (k3.mono y1) y3) fun σ4 H4 ⟨en4, S4, Hd4, z1, z2, z3, z4⟩ => ?_
    have up : Same Hd1 Hd4 := k1.trans (y1.trans z1)
    exact z4 σ4 H4 Hd4 z2 z3 _ ⟨fun en5 S5 σ5 H5 Hd5 w1 w2 w3 ⟨g', w4, w5⟩ => ⟨g', S5, Hd5, up.trans w1, w2, w4.use w3, w5⟩, fun d5 S5 v5 H5 Hd5 w1 => l.rt d5 S5 v5 H5 Hd5 (e1.trans (up.trans w1)),
      fun en5 S5 σ5 H5 Hd5 w1 => l.nx en5 S5 σ5 H5 Hd5 (e1.trans (up.trans w1)), fun en5 S5 σ5 H5 Hd5 w1 w2 w3 ⟨g', w4, w5⟩ => ⟨g', S5, Hd5, up.trans w1, w2, w4.use w3, w5⟩⟩
  · have e0 : i = ds.length := by omega
    subst e0
    exact .inl ⟨io.stop k1 k2, l.nx (E g) S' σ H Hd' (e1.trans k1) k2 k3 (fin g S' k4)⟩⟩
/-- a while: μ falls at each turn -/
theorem ds_while {γ : Type} (hp : PassesOwn (model X.prog X.w) X.A X.env X.xe) (E : γ → DEnv) (P : γ → Sto → Prop) (μ : γ → Nat) (g0 : γ) (w0 : Wk en (E g0)) (p0 : P g0 S)
    (h : ∀ g S', P g S' → DT X c (E g) S' fun t S1 => (t = true → DS X body (E g) S1 { nx := fun en3 S3 => ∃ g', Wk en3 (E g') ∧ P g' S3 ∧ μ g' < μ g, rt := Z.rt, ct := fun en3 S3 => ∃ g', Wk en3 (E g') ∧ P g' S3 ∧ μ g' < μ g, bk := Z.nx }) ∧ (t = false → Z.nx (E g) S1)) :
    DS1 X (.While c body [] pos) en S Z := ⟨fun σ H Hd st re De l => by
  refine wS_of (ps_while hp ptW pssW) ?_
  refine ⟨fun m σ H => ∃ g S' Hd', Same Hd Hd' ∧ St0 X.K S' Hd' H ∧ RpE X.K Hd' (E g) σ ∧ P g S' ∧ m = μ g, ⟨_, g0, S, Hd, Same.refl _, st, w0.use re, p0, rfl⟩, ?_⟩
  rintro m σ H ⟨g, S', Hd', k1, k2, k3, k4, rfl⟩
  refine wT_mono (h g S' k4 σ H Hd' k2 k3) fun t H1 ⟨S1, Hd1, e1, st1, q1, q2⟩ => ?_
  cases t with
  | false =>
    rw [if_neg Bool.false_ne_true]
    exact l.nx (E g) S1 σ H1 Hd1 (k1.trans e1) st1 (k3.mono e1) (q2 rfl)
  | true =>
    rw [if_pos rfl]
    refine ⟨fun σ' H' => ∃ g' S' Hd', Same Hd Hd' ∧ St0 X.K S' Hd' H' ∧ RpE X.K Hd' (E g') σ' ∧ P g' S' ∧ μ g' < μ g, fun σ' H' ⟨g', S', Hd', z1, z2, z3, z4, z5⟩ => ⟨μ g', z5, g', S', Hd', z1, z2, z3, z4, rfl⟩, ?_⟩
    have up := k1.trans e1
    exact q1 rfl σ H1 Hd1 st1 (k3.mono e1) _ ⟨fun en5 S5 σ5 H5 Hd5 w1 w2 w3 ⟨g', w4, w5, w6⟩ => ⟨g', S5, Hd5, up.trans w1, w2, w4.use w3, w5, w6⟩, fun d5 S5 v5 H5 Hd5 w1 => l.rt d5 S5 v5 H5 Hd5 (up.trans w1),
      fun en5 S5 σ5 H5 Hd5 w1 => l.nx en5 S5 σ5 H5 Hd5 (up.trans w1), fun en5 S5 σ5 H5 Hd5 w1 w2 w3 ⟨g', w4, w5, w6⟩ => ⟨g', S5, Hd5, up.trans w1, w2, w4.use w3, w5, w6⟩⟩⟩
end
end DL
namespace DL
open PySem PySem.Spec PyProof.Rows L2

/-! ### comprehensions -/
theorem RpE.reset {K : PySem.W.Frag} {H : Hp} {d : D} {v : V} {en : DEnv} {σ : L2.St} (i : Nat) (h : RpE K H en σ) (r : Rp K H d v) : RpE K H (en.set i (some d)) ((wipe σ [i]).set i (some v)) := by
  have e : (wipe σ [i]).set i (some v) = σ.set i (some v) := by
    show (σ.set i none).set i (some v) = _
    rw [List.set_set]
  rw [e]
  exact h.set r i
theorem wipe_back {σ : L2.St} {i : Nat} {v : V} : wipe ((wipe σ [i]).set i (some v)) [i] = wipe σ [i] := by
  show ((σ.set i none).set i (some v)).set i none = σ.set i none
  rw [List.set_set, List.set_set]
section
variable {X : Cx} {elt iter c : Expr} {en : DEnv} {S : Sto} {Q : D → Sto → Prop} {pos py : Pos} {y : Str} {scope : Scope}
/-- the block of a comprehension -/
abbrev bX (X : Cx) (scope : Scope) (s : Shared) (H : Hp) (C : Addr) (cl : List (Str × Addr)) (fp : List Addr) : Cx := X.blk s H scope (compEnvC scope cl C X.env) fp
/-- one turn's item: the element's data behind the items so far -/
def Turn1 (X : Cx) (scope : Scope) (elt : Expr) (en : DEnv) (S : Sto) (p : Addr) (acc : List D) (N : List D → Sto → Prop) : Prop :=
  ∀ s H C cl fp, DE (bX X scope s H C cl fp) elt en ((p, acc) :: S) fun d S2 => ∃ S3, S2 = (p, acc) :: S3 ∧ N (acc ++ [d]) S3
theorem pe_blk (te : TE) (h : te = fun σ H Q => ∀ s0 H0 C cl fp, wE (bX X scope s0 H0 C cl fp) elt σ H Q) : ∀ (s : Shared) (H : Hp) (C : Addr) (cl : List (Str × Addr)) (fp : List Addr), PE (bX X scope s H C cl fp) elt te := fun s0 H0 C cl fp => by
  subst h
  exact ⟨fun pins s _ _ _ I q => q s0 H0 C cl fp pins s I⟩
theorem pt_blk (tt : TT) (h : tt = fun σ H Q => ∀ s0 H0 C cl fp, wT (bX X scope s0 H0 C cl fp) c σ H Q) : ∀ (s : Shared) (H : Hp) (C : Addr) (cl : List (Str × Addr)) (fp : List Addr), PT (bX X scope s H C cl fp) c tt := fun s0 H0 C cl fp => by
  subst h
  exact ⟨fun pins s _ _ _ I q => q s0 H0 C cl fp pins s I⟩
variable {ifs : List Expr} {tt : TT}
/-- the comprehension's walk, whatever its tests -/
theorem lc_go (i : Nat) (te : TE) {own : List Nat} (ho : own = [i]) (mT : ∀ (σ : L2.St) (H : Hp) (A B : Bool → Hp → Prop), tt σ H A → (∀ b H', A b H' → B b H') → tt σ H B) (mE : ∀ (σ : L2.St) (H : Hp) (A B : VK), te σ H A → (∀ v H', A v H' → B v H') → te σ H B)
    (h : DI X (.Name y py) iter en S fun ds S1 => ∃ (P : Nat → List D → Sto → Prop), P 0 [] S1 ∧
      (∀ k d acc S' p, ds[k]? = some d → P k acc S' → getS p S' = none → acc.length ≤ k → ∀ (σ : L2.St) (H Hd : Hp), St0 X.K ((p, acc) :: S') Hd H → RpE X.K Hd (en.set i (some d)) σ →
        tt σ H fun b H3 => if b = true then te σ H3 fun v H4 => ∃ d2 S4 Hd4, Same Hd Hd4 ∧ St0 X.K ((p, acc) :: S4) Hd4 H4 ∧ Rp X.K Hd4 d2 v ∧ P (k + 1) (acc ++ [d2]) S4 else ∃ S4 Hd4, Same Hd Hd4 ∧ St0 X.K ((p, acc) :: S4) Hd4 H3 ∧ P (k + 1) acc S4) ∧
      ds.length ≤ 100000 ∧ ∀ acc S', acc.length ≤ ds.length → P ds.length acc S' → Q (.lst acc) S') {σ : L2.St} {H Hd : Hp} (st : St0 X.K S Hd H) (re : RpE X.K Hd en σ) (Qv : VK) (kq : ∀ v H', QD X.K Hd Q v H' → Qv v H') : tLc (wI X (.Name y py) iter) (gName i) tt te own σ H Qv := by
  subst ho
  intro pins s I
  refine thn (DI.run h σ H Hd st re pins s I) fun v s1 h1 => thn h1 fun itv s2 h2 => ?_
  obtain ⟨it, fp, tn, J, H2, e, I2, T, st2, f2, ds, S1, Hd1, e1, s01, io, P, p0, turn, lim, fin⟩ := h2
  refine ⟨it, fp, tn, J, H2, e, I2, T, st2, f2, fun p hp => ?_⟩
  obtain ⟨fr, s02⟩ := s01.laidO (l := []) (xs := []) hp rfl
  refine ⟨fun k m H => m = ds.length - k ∧ k ≤ ds.length ∧ ∃ acc S' Hd', acc.length ≤ k ∧ Same Hd1 Hd' ∧ St0 X.K ((p, acc) :: S') Hd' H ∧ P k acc S', ⟨_, rfl, Nat.zero_le _, [], S1, Hd1, Nat.le_refl _, Same.refl _, s02, p0⟩, ?_⟩
  rintro k m H ⟨rfl, hk, acc, S', Hd', ka, k1, k2, k3⟩
  by_cases hlt : k < ds.length
  · obtain ⟨go, yl⟩ := io.go k1 k2 (List.getElem?_eq_getElem hlt)
    refine .inr ⟨go, fun H' => ∃ acc S' Hd', acc.length ≤ k + 1 ∧ Same Hd1 Hd' ∧ St0 X.K ((p, acc) :: S') Hd' H' ∧ P (k + 1) acc S', fun H' q => ⟨ds.length - (k + 1), by omega, rfl, hlt, q⟩, fun x H' y => ?_⟩
    obtain ⟨Hd2, y1, y2, y3⟩ := yl x H' y
    refine ⟨wipe_back, ?_⟩
    have reB := RpE.reset i (re.mono (e1.trans (k1.trans y1))) y3
    have go2 := turn k _ acc S' p (List.getElem?_eq_getElem hlt) k3 k2.own.2.1 ka _ H' Hd2 y2 reB
    have en1 : ∀ (H4 : Hp) (v : V) (d2 : D) (S4 : Sto) (Hd4 : Hp), Same Hd2 Hd4 → St0 X.K ((p, acc) :: S4) Hd4 H4 → Rp X.K Hd4 d2 v → P (k + 1) (acc ++ [d2]) S4 →
        ∃ vs, H4 p = some (.lst vs) ∧ vs.length < sizeLine ∧ ∃ acc S' Hd', acc.length ≤ k + 1 ∧ Same Hd1 Hd' ∧ St0 X.K ((p, acc) :: S') Hd' (upd H4 p (.lst (vs ++ [v]))) ∧ P (k + 1) acc S' := by
      intro H4 v d2 S4 Hd4 z1 z2 z3 z4
      obtain ⟨_, xs, hx, rx⟩ := z2.own.at (l := acc) getS_hd
      refine ⟨xs, hx, by rw [rx.length]; exact Nat.lt_of_le_of_lt (Nat.le_trans ka hk) (Nat.lt_of_le_of_lt lim (by decide)), acc ++ [d2], S4, Hd4, by rw [List.length_append, List.length_singleton]; omega, k1.trans (y1.trans z1), ?_, z4⟩
      have w := z2.written (l' := acc ++ [d2]) (ys := xs ++ [v]) getS_hd (rx.append (show RpL X.K Hd4 [d2] [v] from ⟨v, [], rfl, z3, rfl⟩))
      rw [setS_hd] at w
      exact w
    refine mT _ _ _ _ go2 fun b H3 q => ?_
    cases b with
    | true =>
      rw [if_pos rfl] at q ⊢
      exact mE _ _ _ _ q fun v H4 ⟨d2, S4, Hd4, z1, z2, z3, z4⟩ => en1 H4 v d2 S4 Hd4 z1 z2 z3 z4
    | false =>
      rw [if_neg Bool.false_ne_true] at q ⊢
      obtain ⟨S4, Hd4, z1, z2, z3⟩ := q
      exact ⟨acc, S4, Hd4, Nat.le_succ_of_le ka, k1.trans (y1.trans z1), z2, z3⟩
  · have e0 : k = ds.length := by omega
    subst e0
    obtain ⟨xs, rx, ex, sx⟩ := k2.frozen
    exact .inl ⟨io.stop k1 k2, kq _ _ ⟨.lst acc, S', _, e1.trans (k1.trans ex), sx, ⟨p, xs, rfl, upd_same, rx.mono ex⟩, fin acc S' ka k3⟩⟩
abbrev teB (X : Cx) (scope : Scope) (elt : Expr) : TE := fun σ H Q => ∀ s0 H0 C cl fp, wE (bX X scope s0 H0 C cl fp) elt σ H Q
abbrev ttB (X : Cx) (scope : Scope) (c : Expr) : TT := fun σ H Q => ∀ s0 H0 C cl fp, wT (bX X scope s0 H0 C cl fp) c σ H Q
/-- what a comprehension without a test is asked -/
def Lc0 (X : Cx) (scope : Scope) (i : Nat) (y : Str) (py : Pos) (elt iter : Expr) (en : DEnv) (S : Sto) (Q : D → Sto → Prop) : Prop := DI X (.Name y py) iter en S fun ds S1 => ∃ (P : Nat → List D → Sto → Prop), P 0 [] S1 ∧
  (∀ k d acc S' p, ds[k]? = some d → P k acc S' → getS p S' = none → acc.length ≤ k → Turn1 X scope elt (en.set i (some d)) S' p acc (P (k + 1))) ∧ ds.length ≤ 100000 ∧ ∀ acc S', acc.length ≤ ds.length → P ds.length acc S' → Q (.lst acc) S'
/-- .. with a test -/
def Lc1 (X : Cx) (scope : Scope) (i : Nat) (y : Str) (py : Pos) (elt iter c : Expr) (en : DEnv) (S : Sto) (Q : D → Sto → Prop) : Prop := DI X (.Name y py) iter en S fun ds S1 => ∃ (P : Nat → List D → Sto → Prop), P 0 [] S1 ∧
  (∀ k d acc S' p, ds[k]? = some d → P k acc S' → getS p S' = none → acc.length ≤ k → ∀ s H C cl fp, DT (bX X scope s H C cl fp) c (en.set i (some d)) ((p, acc) :: S') fun b S2 => ∃ S3, S2 = (p, acc) :: S3 ∧ (b = true → Turn1 X scope elt (en.set i (some d)) S3 p acc (P (k + 1))) ∧ (b = false → P (k + 1) acc S3)) ∧
  ds.length ≤ 100000 ∧ ∀ acc S', acc.length ≤ ds.length → P ds.length acc S' → Q (.lst acc) S'
theorem lc0_read {i : Nat} (h : Lc0 X scope i y py elt iter en S Q) {σ : L2.St} {H Hd : Hp} (st : St0 X.K S Hd H) (re : RpE X.K Hd en σ) (Qv : VK) (kq : ∀ v H', QD X.K Hd Q v H' → Qv v H') : tLc (wI X (.Name y py) iter) (gName i) tYes (teB X scope elt) [i] σ H Qv := by
  refine lc_go (tt := tYes) i _ rfl (fun σ H A B q k => k _ _ q) (fun σ H A B q k s0 H0 C cl fp => wE_mono (q s0 H0 C cl fp) k) ?_ st re Qv kq
  refine ⟨fun σ H Hd st re => ?_⟩
  intro pins s I
  refine thn (DI.run h σ H Hd st re pins s I) fun v s1 h1 => thn h1 fun itv s2 h2 => ?_
  obtain ⟨it, fp, tn, J, H2, e, I2, T, st2, f2, ds, S1, Hd1, e1, s01, io, P, p0, turn, lim, fin⟩ := h2
  refine ⟨it, fp, tn, J, H2, e, I2, T, st2, f2, ds, S1, Hd1, e1, s01, io, P, p0, fun k d acc S' p hk hP hp hl σ H Hd st re => ?_, lim, fin⟩
  show tYes σ H _
  unfold tYes
  simp only [↓reduceIte]
  intro s0 H0 C cl fp
  exact wE_mono (turn k d acc S' p hk hP hp hl s0 H0 C cl fp σ H Hd st re) fun v H4 ⟨d2, S2, Hd4, z1, z2, z3, S3, z4, z5⟩ => by
    subst z4
    exact ⟨d2, S3, Hd4, z1, z2, z3, z5⟩
theorem lc1_read {i : Nat} (h : Lc1 X scope i y py elt iter c en S Q) {σ : L2.St} {H Hd : Hp} (st : St0 X.K S Hd H) (re : RpE X.K Hd en σ) (Qv : VK) (kq : ∀ v H', QD X.K Hd Q v H' → Qv v H') : tLc (wI X (.Name y py) iter) (gName i) (ttB X scope c) (teB X scope elt) [i] σ H Qv := by
  refine lc_go i _ rfl (fun σ H A B q k s0 H0 C cl fp => wT_mono (q s0 H0 C cl fp) k) (fun σ H A B q k s0 H0 C cl fp => wE_mono (q s0 H0 C cl fp) k) ?_ st re Qv kq
  refine ⟨fun σ H Hd st re => ?_⟩
  intro pins s I
  refine thn (DI.run h σ H Hd st re pins s I) fun v s1 h1 => thn h1 fun itv s2 h2 => ?_
  obtain ⟨it, fp, tn, J, H2, e, I2, T, st2, f2, ds, S1, Hd1, e1, s01, io, P, p0, turn, lim, fin⟩ := h2
  refine ⟨it, fp, tn, J, H2, e, I2, T, st2, f2, ds, S1, Hd1, e1, s01, io, P, p0, fun k d acc S' p hk hP hp hl σ H Hd st re => ?_, lim, fin⟩
  intro s0 H0 C cl fp
  refine wT_mono (turn k d acc S' p hk hP hp hl s0 H0 C cl fp σ H Hd st re) fun b H3 ⟨S2, Hd3, e3, st3, S3, z, q1, q2⟩ => ?_
  subst z
  cases b with
  | true =>
    rw [if_pos rfl]
    intro s5 H5 C5 cl5 fp5
    exact wE_mono (q1 rfl s5 H5 C5 cl5 fp5 σ H3 Hd3 st3 (re.mono e3)) fun v H4 ⟨d2, S5, Hd4, y1, y2, y3, S6, y4, y5⟩ => by
      subst y4
      exact ⟨d2, S6, Hd4, e3.trans y1, y2, y3, y5⟩
  | false =>
    rw [if_neg Bool.false_ne_true]
    exact ⟨S3, Hd3, e3, st3, q2 rfl⟩
/-- [elt for y in iter] -/
theorem de_lc (i : Nat) (hc : X.calm = true) (hN : X.N.Nodup) (ok : BlkOk X.N X.env.scope scope [(y, i)]) (h : Lc0 X scope i y py elt iter en S Q)
    (hg : ∀ (s : Shared) (H : Hp) (C : Addr) (cl : List (Str × Addr)) (fp : List Addr), PG (bX X scope s H C cl fp) (.Name y py) (gName i))
    (hs : ∀ x, foldedSetIterable iter X.env x = pure x := by first | exact fset rfl | (intro _; rfl)) : DE X (.ListComp elt [⟨.Name y py, iter, [], 0⟩] scope pos) en S Q := ⟨fun σ H Hd st re =>
  wE_of (pe_lc hc hN piW ok hg (fun _ _ _ _ _ => pts_nil) (pe_blk (te := teB X scope elt) rfl) hs) (lc0_read h st re _ fun _ _ z => z)⟩
/-- [elt for y in iter if c] -/
theorem de_lcIf (i : Nat) (hc : X.calm = true) (hN : X.N.Nodup) (ok : BlkOk X.N X.env.scope scope [(y, i)]) (h : Lc1 X scope i y py elt iter c en S Q)
    (hg : ∀ (s : Shared) (H : Hp) (C : Addr) (cl : List (Str × Addr)) (fp : List Addr), PG (bX X scope s H C cl fp) (.Name y py) (gName i))
    (hs : ∀ x, foldedSetIterable iter X.env x = pure x := by first | exact fset rfl | (intro _; rfl)) : DE X (.ListComp elt [⟨.Name y py, iter, [c], 0⟩] scope pos) en S Q := ⟨fun σ H Hd st re =>
  wE_of (pe_lc hc hN piW ok hg (fun s H C cl fp => pts_one (pt_blk (tt := ttB X scope c) rfl s H C cl fp)) (pe_blk (te := teB X scope elt) rfl) hs) (lc1_read h st re _ fun _ _ z => z)⟩
/-- x = [elt for y in iter], x a plain local on the same line -/
theorem ds_setLc {Z : Dn} {spos px : Pos} {x : Str} (j i : Nat) (hc : X.calm = true) (hN : X.N.Nodup) (hj : X.N[j]? = some x) (hx : X.env.scope.names.lookup x = some .local)
    (hsw : swapsWith (.ListComp elt [⟨.Name y py, iter, [], 0⟩] scope pos) (some (.Name x px)) spos.line X.env = pure true) (ok : BlkOk X.N X.env.scope scope [(y, i)])
    (h : Lc0 X scope i y py elt iter en S fun d S' => Z.nx (en.set j (some d)) S')
    (hg : ∀ (s : Shared) (H : Hp) (C : Addr) (cl : List (Str × Addr)) (fp : List Addr), PG (bX X scope s H C cl fp) (.Name y py) (gName i))
    (hs : ∀ x, foldedSetIterable iter X.env x = pure x := by first | exact fset rfl | (intro _; rfl)) : DS1 X (.Assign [.Name x px] (.ListComp elt [⟨.Name y py, iter, [], 0⟩] scope pos) spos) en S Z := ⟨fun σ H Hd st re De l =>
  wS_of (ps_setLc hc hN hj hx hsw piW ok hg (fun _ _ _ _ _ => pts_nil) (pe_blk (te := teB X scope elt) rfl) hs) (lc0_read h st re _ fun v H' ⟨d, S', Hd', e', st', r, q⟩ => l.nx _ S' _ H' Hd' e' st' ((re.mono e').set r j) q)⟩
theorem ds_setLcIf {Z : Dn} {spos px : Pos} {x : Str} (j i : Nat) (hc : X.calm = true) (hN : X.N.Nodup) (hj : X.N[j]? = some x) (hx : X.env.scope.names.lookup x = some .local)
    (hsw : swapsWith (.ListComp elt [⟨.Name y py, iter, [c], 0⟩] scope pos) (some (.Name x px)) spos.line X.env = pure true) (ok : BlkOk X.N X.env.scope scope [(y, i)])
    (h : Lc1 X scope i y py elt iter c en S fun d S' => Z.nx (en.set j (some d)) S')
    (hg : ∀ (s : Shared) (H : Hp) (C : Addr) (cl : List (Str × Addr)) (fp : List Addr), PG (bX X scope s H C cl fp) (.Name y py) (gName i))
    (hs : ∀ x, foldedSetIterable iter X.env x = pure x := by first | exact fset rfl | (intro _; rfl)) : DS1 X (.Assign [.Name x px] (.ListComp elt [⟨.Name y py, iter, [c], 0⟩] scope pos) spos) en S Z := ⟨fun σ H Hd st re De l =>
  wS_of (ps_setLc hc hN hj hx hsw piW ok hg (fun s H C cl fp => pts_one (pt_blk (tt := ttB X scope c) rfl s H C cl fp)) (pe_blk (te := teB X scope elt) rfl) hs) (lc1_read h st re _ fun v H' ⟨d, S', Hd', e', st', r, q⟩ => l.nx _ S' _ H' Hd' e' st' ((re.mono e').set r j) q)⟩
end

/-! ### the law's end -/
/-- the promise of a law: it gives True of every such script -/
def conLaw (n : Nat) : Con := fun ds S Q => ∃ ns : List Int, ns.length ≤ n ∧ ds = [.scr ns] ∧ S = [] ∧ Q (.bl true) []
theorem law_end {l : PySem.W.OpenLaw} {n k : Nat} {q : Program} {loose : List Str} {XP : (Str → Option Value) → Heap → Prop} {YP : World → Heap → Prop} {d : DefRec} {K : Params → PySem.W.Frag} {x : Str}
    (hn : l.most = some n) (hn2 : n ≤ sizeLine) (hdf : d.params.defaults = []) (hr : Room k callerA) (hY : ∀ (w : World) (h : Heap), YP w h → (K w.params).In h)
    (F : ∀ (w : World) (mg : Str → Option Value) (fa : Addr) (h : Heap), (K w.params).In h → h.Ns mainGlobals mg → mg d.name = some (.ref fa) → ∃ fd : FuncData, (∀ (s : Shared) (u : Value), BindsTo s fd ⟨[u], []⟩ [(x, u)]) ∧
      ∀ base : Heap, (K w.params).In base → base.Ns mainGlobals mg → GOk l.prog w (K w.params) mg base k fa fd [x] (spD (K w.params) (conLaw n))) : PySem.W.WalkO q loose XP YP l.row.toRowW d [] (fun f vs => PySem.call f vs) := by
  refine Att.attach_call hn hdf fun w s0 s1 mg mb fa o pm cd doc a vs ns G Y ho hd hcd hmg hobj hints hlen hg => ?_
  have KX := hY w _ Y
  obtain ⟨fd, hb, hF⟩ := F w mg fa _ KX G.T.g hmg
  have rv := vals_ints hints
  -- the script is tracked, as known to its object, unless the module itself holds it
  generalize hH : (fun b => if b = a ∧ (K w.params).lookup a = none then some (HO.frz { cls := .type "list", data := .seq vs.toArray } (.lst (ns.map V.int))) else none : Hp) = H
  have none_of : ∀ b, ¬ (b = a ∧ (K w.params).lookup a = none) → H b = none := fun b z => by rw [← hH]; exact if_neg z
  have some_of : ∀ b u, H b = some u → b = a ∧ (K w.params).lookup a = none ∧ u = .frz { cls := .type "list", data := .seq vs.toArray } (.lst (ns.map V.int)) := fun b u z => by
    rw [← hH] at z
    by_cases c : b = a ∧ (K w.params).lookup a = none
    · have z2 := (if_pos c).symm.trans z
      exact ⟨c.1, c.2, (Option.some.inj z2).symm⟩
    · have z2 := (if_neg c).symm.trans z
      cases z2
  have scr : SqL (K w.params) H a (ns.map V.int) := by
    cases hk : (K w.params).lookup a with
    | none =>
      refine .inl (.inr ⟨{ cls := .type "list", data := .seq vs.toArray }, ?_⟩)
      rw [← hH]
      exact if_pos ⟨rfl, hk⟩
    | some ob =>
      have e := KX a ob hk
      rw [hobj] at e
      cases e
      exact .inr ⟨_, vs.toArray, _, hk, rfl, rfl, rfl, by rw [List.size_toArray, hints.length]; exact Nat.le_trans hlen hn2, by simpa using rv⟩
  have hok : HOk l.prog w H s1.heap := fun b u z => by
    obtain ⟨e1, _, e3⟩ := some_of b u z
    subst e1 e3
    exact ⟨hobj, by rw [List.length_map]; exact Nat.le_trans hlen hn2, vs, _, rv, hobj⟩
  have dictN : ∀ {b : Addr} {ob : Obj} {es : Array DictEntry} {ep : Nat}, s1.heap.get? b = some ob → ob.data = .dict es ep → H b = none := fun {b ob es ep} e dd => by
    refine none_of b fun z => ?_
    rw [z.1, hobj] at e
    cases e
    cases dd
  have nsB : ∀ {b : Addr} {m : Str → Option Value}, s1.heap.Ns b m → (hidT s1.heap H).Ns b m := fun ⟨ob, es, ep, e, dd, rr⟩ => ⟨ob, es, ep, hidT_get e (dictN e dd), dd, rr⟩
  have KB : (K w.params).In (hidT s1.heap H) := fun b ob e => hidT_get (KX b ob e) (none_of b fun z => by rw [z.1, z.2] at e; cases e)
  have M : Mod (K w.params) mg (hidT s1.heap H) := ⟨KB, nsB G.T.g, ⟨mb, nsB G.T.b, G.T.builtins⟩, let ⟨mc, z1, z2⟩ := G.T.nolimit; ⟨mc, nsB z1, z2⟩⟩
  have e0 : Env0 l.prog w (K w.params) mg (hidT s1.heap H) callerA [] s1 H := ⟨rfl, M, fun b ob e => of_hidT e, Nat.le_of_eq (hidT_size _ _), trivial, (fun b z => absurd (show b ∈ ([] : List Addr) from z) List.not_mem_nil), hok, .of_eq hg⟩
  have st : St0 (K w.params) [] H H := ⟨Same.refl _, trivial⟩
  have sp : spD (K w.params) (conLaw n) [V.ref a] H (fun v _ => v = V.bl true) fun _ _ _ => False := ⟨[.scr ns], [], H, fun d _ => d = .bl true, ⟨V.ref a, [], rfl, ⟨a, rfl, scr⟩, rfl⟩, st, ⟨ns, hlen, rfl, rfl, rfl⟩, fun d S' v H' Hd' z _ _ r => by
    subst z
    exact r⟩
  refine codeAny_mono ((hF _ KB (nsB G.T.g)).run callerA [] s1 H ⟨[.ref a], []⟩ [.ref a] [.ref a] _ _ rfl hr e0 (hb s1 (.ref a)) (.cons rfl .nil) sp) fun r s' h => ?_
  cases r with
  | error e => exact h.elim
  | ok fl =>
    cases fl with
    | next => exact False.elim h
    | brk => exact False.elim h
    | cont => exact False.elim h
    | ret u =>
      obtain ⟨v, H', os, bare, un, hok', r', q'⟩ := h
      have q' : v = V.bl true := q'
      subst q'
      have r' : u = Value.bool true := r'
      subst r'
      refine ⟨rfl, OldK.of_keep fun b ob e => ?_, os, bare⟩
      cases z : H b with
      | none => exact un.keep b ob e z (fun y => absurd (show b ∈ ([] : List Addr) from y) List.not_mem_nil) List.not_mem_nil
      | some u =>
        obtain ⟨_, _, e3⟩ := some_of b u z
        subst e3
        obtain ⟨k1, _⟩ := hok b _ z
        obtain ⟨k2, _⟩ := hok' b _ (un.frzs b _ _ z)
        rw [e] at k1
        cases k1
        exact k2
end DL
namespace DL
open PySem PySem.Spec PyProof.Rows L2

/-! ### sizes of ints -/
def Bd (n : Nat) (i : Int) : Prop := i.natAbs < 2 ^ n
section
variable {a b n : Nat} {i j : Int}
theorem Bd.up (h : Bd a i) (k : a ≤ b) : Bd b i := Nat.lt_of_lt_of_le h (Nat.pow_le_pow_right (by decide) k)
theorem Bd.mul (h : Bd a i) (k : Bd b j) : Bd (a + b) (i * j) := wide_lt h k
theorem Bd.neg (h : Bd a i) : Bd a (-i) := by
  unfold Bd at h ⊢
  rw [Int.natAbs_neg]
  exact h
theorem Bd.add (h : Bd a i) (k : Bd b j) : Bd (max a b + 1) (i + j) := by
  have h1 : i.natAbs < 2 ^ (max a b) := Bd.up h (Nat.le_max_left a b)
  have k1 : j.natAbs < 2 ^ (max a b) := Bd.up k (Nat.le_max_right a b)
  have := Int.natAbs_add_le i j
  unfold Bd
  rw [Nat.pow_succ]
  omega
theorem Bd.sub (h : Bd a i) (k : Bd b j) : Bd (max a b + 1) (i - j) := by
  rw [Int.sub_eq_add_neg]
  exact h.add k.neg
theorem Bd.div (h : Bd a i) : Bd a (i / j) := Nat.lt_of_le_of_lt (Int.natAbs_ediv_le_natAbs i j) h
theorem Bd.mod (h : Bd b j) (h0 : 0 < j) : Bd b (i % j) := by
  have h1 := Int.emod_nonneg i (by omega : j ≠ 0)
  have h2 := Int.emod_lt_of_pos i h0
  have h3 : j.natAbs < 2 ^ b := h
  unfold Bd
  omega
theorem Bd.abs (h : Bd a i) : Bd a (if i < 0 then -i else i) := by
  split
  · exact h.neg
  · exact h
theorem Bd.of_le (h0 : 0 ≤ i) (h1 : i ≤ j) (h : Bd a j) : Bd a i := by
  unfold Bd at h ⊢
  omega
theorem Bd.of_lt (h0 : 0 ≤ i) (h1 : i < j) (h : Bd a j) : Bd a i := Bd.of_le h0 (Int.le_of_lt h1) h
theorem Bd.of_abs (h0 : -j ≤ i) (h1 : i ≤ j) (h : Bd a j) : Bd a i := by
  unfold Bd at h ⊢
  omega
theorem Bd.lit (i : Int) : Bd (i.natAbs.log2 + 1) i := Nat.lt_log2_self
theorem Bd.pow (h : Bd a i) : ∀ k : Nat, Bd (a * k + 1) (i ^ k)
  | 0 => by
    rw [Int.pow_zero]
    show (1 : Int).natAbs < _
    rw [Nat.mul_zero]
    decide
  | k + 1 => by
    rw [Int.pow_succ]
    exact ((Bd.pow h k).mul h).up (by rw [Nat.mul_succ]; omega)
theorem cmw (h : Bd a i) (k : Bd b j) (z : a + b ≤ 900000) : CMulW i j := by
  have h1 := wide_lt h k
  unfold CMulW
  have x : ∀ (n : Nat) (m : Nat), m < 2 ^ n → m.log2 ≤ n := fun n m hm => by
    by_cases e : m = 0
    · subst e
      simp
    · exact Nat.le_of_lt ((Nat.log2_lt e).mpr hm)
  have := x a _ h
  have := x b _ k
  omega
theorem cdw (h : Bd b j) (h0 : 0 < j) (z : b ≤ 8000) : CDivW i j := ⟨h0, by
  have e : ¬ j.natAbs = 0 := by omega
  exact Nat.lt_of_lt_of_le ((Nat.log2_lt e).mpr h) (by omega)⟩
theorem cpw (h : Bd a i) (h0 : 0 ≤ j ∧ j ≤ 64) (z : a ≤ 900000) : CPowW i j := ⟨h0.1, h0.2, by
  by_cases e : i.natAbs = 0
  · rw [e]
    decide
  · exact Nat.lt_of_lt_of_le ((Nat.log2_lt e).mpr h) (by omega)⟩
theorem shw (h : Bd a i) (z : a ≤ 1900) : i.natAbs < 2 ^ 1900 := h.up z
end

/-! ### the built-ins by their names -/
theorem bt_abs : bootBuiltins "abs" = some (.builtin "abs") := by decide +kernel
theorem bt_max : bootBuiltins "max" = some (.builtin "max") := by decide +kernel
theorem bt_min : bootBuiltins "min" = some (.builtin "min") := by decide +kernel
theorem bt_len : bootBuiltins "len" = some (.builtin "len") := by decide +kernel
theorem bt_int : bootBuiltins "int" = some (.type "int") := by decide +kernel
theorem bt_tuple : bootBuiltins "tuple" = some (.type "tuple") := by decide +kernel
theorem bt_repr : bootBuiltins "repr" = some (.builtin "repr") := by decide +kernel
theorem bt_isinstance : bootBuiltins "isinstance" = some (.builtin "isinstance") := by decide +kernel
theorem bt_all : bootBuiltins "all" = some (.builtin "all") := by decide +kernel
theorem bt_any : bootBuiltins "any" = some (.builtin "any") := by decide +kernel
theorem bt_sorted : bootBuiltins "sorted" = some (.builtin "sorted") := by decide +kernel
theorem bt_sum : bootBuiltins "sum" = some (.builtin "sum") := by decide +kernel

/-! ### a def by its body, over data -/
theorem gok_ds {P : Program} {w : World} {K : PySem.W.Frag} {mg : Str → Option Value} {base : Heap} {k m : Nat} {x qual : Str} {st : Stmt} {f : Addr} {fd : FuncData} {N ps : List Str} {C : Con} (F : Fun K x qual st f fd) (S : FnScope N ps (defScope st))
    (hm : N.length - ps.length = m) (ln : ∀ ds S Q, C ds S Q → ds.length = ps.length)
    (body : ∀ (cdv : Value) (A : Around) (fr : List Env) (s : Shared) (H : Hp) (E : XK), (A.deeper (envOfC qual (defScope st) s.heap.objs.size f cdv)).guards = some [] → Room k (A.deeper (envOfC qual (defScope st) s.heap.objs.size f cdv)) → ∀ (ds : List D) (S0 : Sto) (Q : D → Sto → Prop), C ds S0 Q →
      DS (cxOf CX0 P w K mg base N qual (defScope st) f cdv A fr s H E).nox (defBody st) (ds.map some ++ List.replicate m none) S0 { nx := fun _ S' => Q .non S', rt := Q }) : GOk P w K mg base (k + 1) f fd ps (spD K C) := by
  refine gok_of F S (fun vs H Q E h => ?_) fun cdv A fr s H vs Q E gd hr h => ?_
  · obtain ⟨ds, S0, Hd, Qd, r, _, c, _⟩ := h
    rw [r.length]
    exact ln _ _ _ c
  · obtain ⟨ds, S0, Hd, Qd, r, st0, c, fin⟩ := h
    have e : L2.start N vs = vs.map some ++ List.replicate m none := by
      unfold L2.start
      rw [r.length, ln _ _ _ c, hm]
    rw [e]
    exact body cdv A fr s H E gd hr ds S0 Qd c _ H Hd st0 (RpE.start m r) _ ⟨fun en S' σ H' Hd' z1 z2 _ q => fin .non S' .non H' Hd' q z1 z2 rfl, fun d S' v H' Hd' z1 z2 z3 q => fin d S' v H' Hd' q z1 z2 z3, fun _ _ _ _ _ _ _ _ q => q.elim, fun _ _ _ _ _ _ _ _ q => q.elim⟩
/-- it stands in the module -/
theorem cal_of {P : Program} {w : World} {K : PySem.W.Frag} {mg : Str → Option Value} {base : Heap} {k : Nat} {x qual : Str} {st : Stmt} {f : Addr} {fd : FuncData} {ps : List Str} {kws : List (Nat × List Str)} {C : Con} (F : Fun K x qual st f fd)
    (G : GOk P w K mg base k f fd ps (spD K C)) (hm : mg x = some (.ref f)) (hb : ∀ us : List Value, us.length = ps.length → bindArgs fd ⟨us, []⟩ = pure (ps.zip us)) (hk : ∀ p ∈ kws, KwOk fd ps p) : Cal P w K mg base k x ps kws C := ⟨f, fd, G, hm, F.kp, hb, hk⟩
theorem bargs_of {K : PySem.W.Frag} {x qual : Str} {st : Stmt} {f : Addr} {fd : FuncData} {ps : List Str} (F : Fun K x qual st f fd)
    (h : ∀ (kV doc pm : Value) (an : Option Addr) (cdv ct : Value) (us : List Value), us.length = ps.length → bindArgs (PySem.W.fnOf x qual (defArgs st) (defBody st) (defScope st) .none kV doc pm an cdv ct) ⟨us, []⟩ = pure (ps.zip us)) : ∀ us : List Value, us.length = ps.length → bindArgs fd ⟨us, []⟩ = pure (ps.zip us) := by
  obtain ⟨oc, od, kV, doc, pm, an, cdv, ct, osl, rfl, _, _⟩ := F.ex
  exact h kV doc pm an cdv ct
theorem kw_of {K : PySem.W.Frag} {x qual : Str} {st : Stmt} {f : Addr} {fd : FuncData} {ps : List Str} {p : Nat × List Str} (F : Fun K x qual st f fd) (h1 : p.1 + p.2.length = ps.length) (h2 : ∀ y ∈ ps.drop p.1, y ∈ p.2)
    (h : ∀ (kV doc pm : Value) (an : Option Addr) (cdv ct : Value) (us ws : List Value), us.length = p.1 → ws.length = p.2.length → bindArgs (PySem.W.fnOf x qual (defArgs st) (defBody st) (defScope st) .none kV doc pm an cdv ct) ⟨us, p.2.zip ws⟩ = pure (ps.zip (us ++ ordV .none (ps.drop p.1) p.2 ws))) : KwOk fd ps p := by
  obtain ⟨oc, od, kV, doc, pm, an, cdv, ct, osl, rfl, _, _⟩ := F.ex
  exact ⟨h1, h2, h kV doc pm an cdv ct⟩
end DL
namespace DL
open PySem PySem.Spec PyProof.Rows L2

/-! ### isinstance with a built-in type -/
def tyD : D → Option String
  | .non => some "NoneType"
  | .bl _ => some "bool"
  | .int _ => some "int"
  | .str _ => some "str"
  | .tup _ => some "tuple"
  | .lst _ => some "list"
  | .scr _ => some "list"
  | .raw _ => none
  | .ext _ => none
theorem tyX_of {K : PySem.W.Frag} {H : Hp} {d : D} {v : V} {t : String} (h : tyD d = some t) (r : Rp K H d v) (hs : ∀ l, d ≠ .scr l) : TyX K H v (.type t) := by
  cases d with
  | non => cases h; cases (show v = _ from r); exact .base .non
  | bl b => cases h; cases (show v = _ from r); exact .base (.bl b)
  | int i => cases h; cases (show v = _ from r); exact .base (.int i)
  | str x => cases h; cases (show v = _ from r); exact .base (.str x)
  | tup l =>
    cases h
    obtain ⟨a, xs, rfl, h1, _⟩ := r
    rcases h1 with (h1 | ⟨o, h1⟩) | ⟨o, its, n, h1, h2, _⟩
    · exact .base (.tup h1)
    · exact .fTuple h1
    · exact .kTuple h1 h2
  | lst l =>
    cases h
    obtain ⟨a, xs, rfl, h1, _⟩ := r
    exact .base (.lst h1)
  | raw u => cases h
  | ext u => cases h
  | scr l => exact absurd rfl (hs l)
section
variable {X : Cx} {K : PySem.W.Frag} {S : Sto} {Q : D → Sto → Prop} {d : D}
theorem drc_isi {t T : String} {b : Bool} (ht : tyD d = some t) (hk : kitB t T = some b) (q : Q (.bl b) S) (hs : ∀ l, d ≠ .scr l := by intro _ z; cases z) : DRC K (rIsi K) [d, .raw (.ty T)] S Q := fun H Hd vs Qv st rr k => by
  obtain ⟨v, w, e1, rv, rw'⟩ := two_rp rr
  have rw' : w = V.ty T := rw'
  subst e1 rw'
  exact ⟨v, .ty T, .type t, .type T, b, rfl, .ty T, tyX_of ht (Rp.mono st.sub d v rv) hs, kit_ty hk, k _ _ (.here (d := .bl b) st rfl q)⟩
theorem k_ii : kitB "int" "int" = some true := by decide +kernel
theorem k_ib : kitB "int" "bool" = some false := by decide +kernel
theorem k_bi : kitB "bool" "int" = some true := by decide +kernel
theorem k_bb : kitB "bool" "bool" = some true := by decide +kernel
theorem k_tt : kitB "tuple" "tuple" = some true := by decide +kernel
theorem k_si : kitB "str" "int" = some false := by decide +kernel
theorem k_ni : kitB "NoneType" "int" = some false := by decide +kernel
theorem k_ti : kitB "tuple" "int" = some false := by decide +kernel
theorem k_li : kitB "list" "int" = some false := by decide +kernel
theorem k_it : kitB "int" "tuple" = some false := by decide +kernel
theorem k_bt : kitB "bool" "tuple" = some false := by decide +kernel
theorem k_st : kitB "str" "tuple" = some false := by decide +kernel
theorem k_nt : kitB "NoneType" "tuple" = some false := by decide +kernel
theorem k_lt : kitB "list" "tuple" = some false := by decide +kernel
/-- a built-in type's name as a value -/
theorem de_ty {x : Str} {T : String} {en : DEnv} {pos : Pos} (hm : X.mg x = none) (hv : bootBuiltins x = some (.type T)) (q : Q (.raw (.ty T)) S) (hg : Gl X x := by rfl) (hn : x ≠ "__name__" := by decide) (hd : (x == ("__debug__" : Str)) = false := by decide) : DE X (.Name x pos) en S Q := ⟨fun _ _ _ st _ => wE_of (pe_bltn (v := .ty T) hg hm hv rfl hn hd) (.here (d := .raw (.ty T)) st rfl q)⟩
theorem bt_bool : bootBuiltins "bool" = some (.type "bool") := by decide +kernel
/-- all, any of a list of truths -/
theorem bls_of {H : Hp} : ∀ {bs : List Bool} {vs : List V}, RpL K H (bs.map D.bl) vs → vs = bs.map V.bl
  | [], _, h => h
  | b :: bs, _, h => by
    obtain ⟨x, xs, e1, e2, e3⟩ := h
    have e2 : x = V.bl b := e2
    rw [e1, e2, bls_of e3] <;> rfl
theorem drc_all {bs : List Bool} (q : Q (.bl (bs.all id)) S) : DRC K (rAll K) [.lst (bs.map D.bl)] S Q := fun H Hd vs Qv st rr k => by
  obtain ⟨v, e1, a, xs, f1, f2, f3⟩ := one_rp rr
  subst e1 f1
  exact ⟨a, bs, rfl, by rw [← bls_of f3]; exact .of (st.sub _ _ f2), k _ _ (.here (d := .bl _) st rfl q)⟩
theorem drc_any {bs : List Bool} (q : Q (.bl (bs.any id)) S) : DRC K (rAny K) [.lst (bs.map D.bl)] S Q := fun H Hd vs Qv st rr k => by
  obtain ⟨v, e1, a, xs, f1, f2, f3⟩ := one_rp rr
  subst e1 f1
  exact ⟨a, bs, rfl, by rw [← bls_of f3]; exact .of (st.sub _ _ f2), k _ _ (.here (d := .bl _) st rfl q)⟩

/-! ### slices -/
variable {e : Expr} {en : DEnv} {R : Option Int → Prop}
theorem do_none (q : R none) : DO X none en S R := q
theorem do_some (h : DE X e en S fun x S' => S' = S ∧ ∃ i, x = .int i ∧ R (some i)) : DO X (some e) en S R := h
theorem sl_t2 {a b c : D} (q : Q (.tup [a, b]) S) : slP (.tup [a, b, c]) none (some 2) S Q := ⟨(show ¬ (HT.sIx 3 0 none = 0 ∧ HT.sIx 3 3 (some 2) = 3) by decide), q⟩
theorem sl_l {l : List D} {lo hi : Option Int} (q : Q (.lst (cutD l lo hi)) S) : slP (.lst l) lo hi S Q := q
theorem cut_to {l : List D} {n : Int} (h : 0 ≤ n) : cutD l none (some n) = l.take n.toNat := by
  unfold cutD HT.sIx
  simp only [Nat.sub_zero, List.drop_zero]
  have e1 : ¬ n < 0 := by omega
  simp only [e1, if_false]
  by_cases h2 : n.toNat ≤ l.length
  · congr 1
    omega
  · rw [List.take_of_length_le (by omega), List.take_of_length_le (by omega)]

theorem kws_cons {fd : FuncData} {ps : List Str} {p : Nat × List Str} {r : List (Nat × List Str)} (h : KwOk fd ps p) (k : ∀ q ∈ r, KwOk fd ps q) : ∀ q ∈ p :: r, KwOk fd ps q := fun q hq => by
  rcases List.mem_cons.mp hq with e | e
  · rw [e]
    exact h
  · exact k q e

/-! ### three targets at once -/
theorem ps_par3 {i j k : Nat} {x y z : Str} {a b c : Expr} {ta : TA} {px py pz pt pos : Pos} {kt k2 pt2} (hc : X.calm = true) (hN : X.N.Nodup) (hi : X.N[i]? = some x) (hj : X.N[j]? = some y) (hk : X.N[k]? = some z)
    (hx : X.env.scope.names.lookup x = some .local) (hy : X.env.scope.names.lookup y = some .local) (hz : X.env.scope.names.lookup z = some .local) (ha : PA X [a, b, c] ta)
    (hw : swappedStores [.Tuple [.Name x px, .Name y py, .Name z pz] kt pt] (.Tuple [a, b, c] k2 pt2) X.env = pure (some [x, y, z]))
    (hs : swapsWithSole [.Tuple [.Name x px, .Name y py, .Name z pz] kt pt] (.Tuple [a, b, c] k2 pt2) pos.line X.env = pure false := by first | exact sws1 rfl | exact sw0 rfl | rfl) :
    PS X (.Assign [.Tuple [.Name x px, .Name y py, .Name z pz] kt pt] (.Tuple [a, b, c] k2 pt2) pos) (fun D σ H => ta σ H fun vs H1 => ∃ u v w, vs = [u, v, w] ∧ D.nx (((σ.set k (some w)).set j (some v)).set i (some u)) H1) := by
  refine ⟨fun pins s σ H De I h => ?_⟩
  rw [exec_Assign_arm]
  refine wpAny_bind (wpAny_standAt ?_)
  rw [hs]
  refine wpAny_bind (wpAny_pure ?_)
  rw [if_neg Bool.false_ne_true]
  refine wpAny_bind (Tuple_ (thn (ha.run _ pins s σ H _ I h) fun us s1 ⟨vs, H1, I1, r1, u, v, w, e1, q1⟩ => ?_))
  subst e1
  obtain ⟨u1, u2, u3, e2, ru, rv, rw'⟩ : ∃ u1 u2 u3, us = [u1, u2, u3] ∧ RelV u u1 ∧ RelV v u2 ∧ RelV w u3 := by
    cases r1 with
    | cons p q => cases q with
      | cons p' q' => cases q' with
        | cons p2 q2 =>
          cases q2
          exact ⟨_, _, _, rfl, p, p', p2⟩
  subst e2
  refine wpAny_newObj_type ?_ (by show 3 ≤ sizeLine; decide)
  have I2 : Inv X pins σ H1 { s1 with heap := s1.heap.push { cls := .type "tuple", data := .seq [u1, u2, u3].toArray } } := I1.kept (t' := s1.toks) fun b o g => Heap.get?_push_of_some _ g
  rw [hw]
  refine wpAny_bind (wpAny_pure ?_)
  show wpAny (model X.prog X.w) X.A (do rule "assign.swapped-stores"; let items ← unpackItems (.ref s1.heap.objs.size) 3 none; assignInOrder [fun v => bindName X.env z v, fun v => bindName X.env y v, fun v => bindName X.env x v] items.reverse; pure Flow.next) _ _ _
  refine wpAny_bind (wpAny_rule (wpAny_bind (unpackItems_tuple (items := #[u1, u2, u3]) (I.ok.hd hc) (IsTup.new s1.heap _) fun h' hx' => ?_)))
  have I3 := I2.kept (h' := h') (t' := s1.toks) fun b o g => hx' b o (Nat.ne_of_lt (Heap.lt_size g)) g
  show wpAny _ _ (assignInOrder [fun v => bindName X.env z v, fun v => bindName X.env y v, fun v => bindName X.env x v] [u3, u2, u1] >>= fun _ => pure Flow.next) _ _ _
  refine wpAny_bind (assignInOrder_cons (wpAny_bindName (store_ok I3 hN hk (.inl hz) rw' (fun s2 I4 => ?_) (.inr hz))))
  refine assignInOrder_cons (wpAny_bindName (store_ok I4 hN hj (.inl hy) rv (fun s3 I5 => ?_) (.inr hy)))
  refine assignInOrder_cons (wpAny_bindName (store_ok I5 hN hi (.inl hx) ru (fun s4 I6 => assignInOrder_nil (wpAny_pure ?_)) (.inr hx)))
  exact ⟨_, _, I6, q1⟩
theorem ds_par3 {Z : Dn} {i j k : Nat} {x y z : Str} {a b c : Expr} {px py pz pt pos : Pos} {kt k2 pt2} (hc : X.calm = true) (hN : X.N.Nodup) (hi : X.N[i]? = some x) (hj : X.N[j]? = some y) (hk : X.N[k]? = some z)
    (h : DA X [a, b, c] en S fun vs S1 => ∃ u v w, vs = [u, v, w] ∧ Z.nx (((en.set k (some w)).set j (some v)).set i (some u)) S1)
    (hx : X.env.scope.names.lookup x = some .local := by rfl) (hy : X.env.scope.names.lookup y = some .local := by rfl) (hz : X.env.scope.names.lookup z = some .local := by rfl)
    (hw : swappedStores [.Tuple [.Name x px, .Name y py, .Name z pz] kt pt] (.Tuple [a, b, c] k2 pt2) X.env = pure (some [x, y, z]) := by rfl)
    (hs : swapsWithSole [.Tuple [.Name x px, .Name y py, .Name z pz] kt pt] (.Tuple [a, b, c] k2 pt2) pos.line X.env = pure false := by first | exact sws1 rfl | exact sw0 rfl | rfl) : DS1 X (.Assign [.Tuple [.Name x px, .Name y py, .Name z pz] kt pt] (.Tuple [a, b, c] k2 pt2) pos) en S Z := ⟨fun σ H Hd st re De l => by
  refine wS_of (ps_par3 hc hN hi hj hk hx hy hz paW hw hs) ?_
  refine wA_mono (h σ H Hd st re) fun vs H1 ⟨ds, S1, Hd1, e1, st1, r1, u, v, w, e2, q⟩ => ?_
  subst e2
  obtain ⟨u1, vs', f1, ru, r2⟩ := r1
  obtain ⟨v1, w1, f2, rv, rw'⟩ := two_rp r2
  subst f1 f2
  exact ⟨u1, v1, w1, rfl, l.nx _ S1 _ H1 Hd1 e1 st1 ((((re.mono e1).set rw' k).set rv j).set ru i) q⟩⟩
end

/-! ### the turns of a law over its script -/
theorem scr_turn {ns : List Int} {n : Int} (hn : 0 ≤ n ∧ n ≤ 64) {i : Nat} {d : D} (h : (enuD (cutD (ns.map D.int ++ [.int 0]) none (some n)))[i]? = some d) : i < 64 ∧ ∃ e : Int, d = .tup [.int (i : Nat), .int e] := by
  obtain ⟨x, h1, h2⟩ := enuD_get h
  rw [cut_to hn.1] at h1
  have hi := (List.getElem?_eq_some_iff.mp h1).1
  rw [List.length_take] at hi
  refine ⟨by omega, ?_⟩
  have m := List.mem_of_getElem? h1
  have m2 := List.mem_of_mem_take m
  rcases List.mem_append.mp m2 with z | z
  · obtain ⟨e, _, z2⟩ := List.mem_map.mp z
    exact ⟨e, by rw [h2, ← z2]⟩
  · have z2 : x = .int 0 := by simpa using z
    exact ⟨0, by rw [h2, z2]⟩

/-! ### the source of a law's numbers -/
def Src (m : Nat) (l : List D) : Prop := ∃ a b c : Int, l = [.int a, .int b, .int c] ∧ 0 ≤ a ∧ Bd 200 b ∧ (0 ≤ c ∧ c ≤ (m : Int)) ∧ 0 ≤ b
def con_source : Con := fun ds S Q => ∃ e k : Int, ds = [.int e, .int k] ∧ (0 ≤ k ∧ k ≤ 100) ∧ ∀ p l, getS p S = none → Src 0 l → Q (.raw (.ref p)) ((p, l) :: S)
def con_draw : Con := fun ds S Q => ∃ (p : Addr) (n : Int) (l : List D) (m : Nat), ds = [.raw (.ref p), .int n] ∧ getS p S = some l ∧ Src m l ∧ m ≤ 1000000 ∧ 0 < n ∧ Bd 400 n ∧ ∀ r l', 0 ≤ r → r < n → Src (m + 1) l' → Q (.int r) (setS p l' S)
def con_common : Con := fun ds S Q => ∃ a b : Int, ds = [.int a, .int b] ∧ Q (.int ((Nat.gcd a.natAbs b.natAbs : Nat) : Int)) S
/-- p, q, quarters are a turn -/
structure Tn (p q k : Int) : Prop where
  p1 : 1 ≤ p
  p2 : p ≤ 1000000000000000
  q1 : -p < q
  q2 : q < p
  g : Nat.gcd p.natAbs q.natAbs = 1
  o : (p + q) % 2 = 1
  k1 : 0 ≤ k
  k2 : k ≤ 3
theorem Tn.bp {p q k : Int} (h : Tn p q k) : Bd 50 p := by
  have := h.p1
  have := h.p2
  unfold Bd
  omega
theorem Tn.bq {p q k : Int} (h : Tn p q k) : Bd 50 q := by
  have := h.p2
  have := h.q1
  have := h.q2
  unfold Bd
  omega
def tnD (p q k : Int) : D := .tup [.int p, .int q, .int k]
def con_spin : Con := fun ds S Q => ∃ (p : Addr) (n : Int) (l : List D) (m : Nat), ds = [.raw (.ref p), .int n] ∧ getS p S = some l ∧ Src m l ∧ m ≤ 900000 ∧ 0 < n ∧ n ≤ 1000000000000000 ∧ ∀ a b k l', Tn a b k → a ≤ n → Src (m + 10) l' → Q (.tup [.int a, .int b, .int k]) (setS p l' S)
def con_dot : Con := fun ds S Q => ∃ (p : Addr) (n : Int) (l : List D) (m : Nat), ds = [.raw (.ref p), .int n] ∧ getS p S = some l ∧ Src m l ∧ m ≤ 900000 ∧ 0 ≤ n ∧ Bd 300 n ∧ ∀ x y l', (-n ≤ x ∧ x ≤ n) → (-n ≤ y ∧ y ≤ n) → Src (m + 2) l' → Q (.tup [.int x, .int y]) (setS p l' S)
theorem Src.up {m n : Nat} {l : List D} (h : Src m l) (k : m ≤ n) : Src n l := by
  obtain ⟨a, b, c, e, h1, h2, h3, h4⟩ := h
  exact ⟨a, b, c, e, h1, h2, ⟨h3.1, by omega⟩, h4⟩
theorem getS_setS_same {p : Addr} {S : Sto} {l n : List D} (h : getS p S = some l) : getS p (setS p n S) = some n := by
  rw [getS_setS, if_pos rfl, h] <;> rfl
theorem setS_setS {p : Addr} {n m : List D} : ∀ {S : Sto}, setS p n (setS p m S) = setS p n S
  | [] => rfl
  | (q, l) :: S => by
    by_cases h : q = p
    · subst h
      rw [setS_hd, setS_hd, setS_hd]
    · rw [setS_tl h, setS_tl h, setS_tl h, setS_setS]
end DL
namespace DL
open PySem PySem.Spec PyProof.Rows L2
def rIsq : List V → Hp → VK → Prop := fun vs H Q => ∃ a : Int, vs = [.int a] ∧ 0 ≤ a ∧ a.natAbs < 2 ^ 3000 ∧ Q (.int ((Float64.isqrt a.toNat : Nat) : Int)) H
theorem cr_isqrt {X : Cx} : CallR X (.builtin "math.isqrt") rIsq := by
  intro pins s σ H vs us Q I r h
  obtain ⟨a, rfl, h0, h1, q⟩ := h
  obtain ⟨u, rfl, t, rfl⟩ := Vals.one r
  have hl : a.toNat.log2 < 3000 := by
    by_cases z : a.toNat = 0
    · rw [z]
      decide
    · exact (Nat.log2_lt z).mpr (by have : a.natAbs = a.toNat := by omega
                                    rw [← this]
                                    exact h1)
  exact call_function_meets PySem.W.MGF.kind_isqrt PySem.W.MGF.plain_isqrt PySem.W.MGF.entry_isqrt (PySem.W.MGF.args_isqrt _) (PySem.W.mg_run_isqrt a t (by omega) (by omega) (by omega)).meets ⟨.int _, H, I.tok _, ⟨_, rfl⟩, q⟩
section
variable {X : Cx} {a b : Expr} {en : DEnv} {S : Sto} {Q : D → Sto → Prop} {pos p : Pos}
/-- math.isqrt -/
theorem de_isqrt {gx : Str} (hm : X.mg gx = some (.builtin "math.isqrt")) (h : DA X [a] en S fun ds S1 => ∃ i : Int, ds = [.int i] ∧ (0 ≤ i ∧ i.natAbs < 2 ^ 3000) ∧ Q (.int ((Float64.isqrt i.toNat : Nat) : Int)) S1) (hg : Gl X gx := by rfl) (hn : gx ≠ "__name__" := by decide) (hdb : (gx == ("__debug__" : Str)) = false := by decide)
    (he : starEach (a :: []) X.env = (false, eval a X.env) :: starEach [] X.env := by rfl) (hpl : (backTo pos (starEach [] X.env)).any (·.1) = false := by rfl) : DE X (.Call (.Name gx p) [a] [] pos) en S Q := ⟨fun σ H Hd st re => by
  refine wE_of (pe_callBfun cr_isqrt hg hm paW (hdb := hdb) (he := he) (hpl := hpl)) ?_
  refine wA_mono (h σ H Hd st re) fun vs H1 ⟨ds, S1, Hd1, e1, st1, r1, i, e2, ⟨h0, h1⟩, q⟩ => ?_
  subst e2
  obtain ⟨v, vs', e3, rv, e5⟩ := r1
  have e5 : vs' = [] := e5
  subst e3 e5
  exact ⟨i, by rw [show v = V.int i from rv], h0, h1, .up e1 (.here (d := .int _) st1 rfl q)⟩⟩
/-- x += e, of whole numbers -/
theorem ds_augI {Z : Dn} {x : Str} {e : Expr} {i : Int} (k : Nat) (hN : X.N.Nodup) (hk : X.N[k]? = some x) (hx : X.env.scope.names.lookup x = some .local) (he : en[k]? = some (some (.int i)))
    (h : DE X e en S fun d S1 => ∃ j, d = .int j ∧ Z.nx (en.set k (some (.int (i + j)))) S1) : DS1 X (.AugAssign (.Name x p) .Add e pos) en S Z := ⟨fun σ H Hd st re De l => by
  refine wS_of (ps_aug hN hk (.inl hx) peW ip_add (.inr hx)) ?_
  obtain ⟨v, e1, rv⟩ := re.get he
  have rv : v = V.int i := rv
  subst rv
  refine ⟨_, e1, ?_⟩
  refine wE_mono (h σ H Hd st re) fun w H1 ⟨d, S1, Hd1, z1, st1, r1, j, e2, q⟩ => ?_
  subst e2
  have r1 : w = V.int j := r1
  subst r1
  exact ⟨i, j, rfl, rfl, l.nx _ S1 _ H1 Hd1 z1 st1 ((re.mono z1).set (d := .int (i + j)) rfl k) q⟩⟩
end
end DL
namespace Tp
open PySem DL
theorem isq_eq {p : Int} (h : 0 ≤ p) {i : Int} (e : i = p * p) : ((Float64.isqrt i.toNat : Nat) : Int) = p := by
  obtain ⟨n, rfl⟩ : ∃ n : Nat, p = (n : Int) := ⟨p.toNat, by omega⟩
  have e2 : i.toNat = n * n := by
    rw [e, ← Int.natCast_mul]
    rfl
  rw [e2]
  obtain ⟨h1, h2⟩ := Float64.isqrt_spec (n * n)
  generalize Float64.isqrt (n * n) = r at *
  have a1 : r ≤ n := Nat.mul_self_le_mul_self_iff.mp h1
  have a2 : n < r + 1 := Nat.mul_self_lt_mul_self_iff.mp h2
  have : r = n := by omega
  rw [this]
end Tp
namespace DL
open PySem PySem.Spec PyProof.Rows L2
theorem vals_at : ∀ {xs : List V} {us : List Value} {i : Nat} {u : Value}, Vals xs us → us[i]? = some u → ∃ x, xs[i]? = some x ∧ RelV x u
  | _, _, i, u, .nil, e => by simp at e
  | x :: xs, w :: ws, 0, u, .cons r _, e => by
    have : w = u := by simpa using e
    subst this
    exact ⟨x, rfl, r⟩
  | x :: xs, w :: ws, i + 1, u, .cons _ h, e => by
    obtain ⟨y, e1, r⟩ := vals_at (i := i) (xs := xs) (us := ws) (u := u) h (by simpa using e)
    exact ⟨y, by simpa using e1, r⟩
/-- min of a list of data -/
def rMinD (K : PySem.W.Frag) : List V → Hp → VK → Prop := fun vs H Q => ∃ (a : Addr) (xs : List V) (d0 : PyData) (dr : List PyData), vs = [.ref a] ∧ SqL K H a xs ∧ DpAll K H xs (d0 :: dr) ∧ PySem.W.AlikeAll (d0 :: dr) ∧ PyData.depthAll (d0 :: dr) ≤ 20 ∧
  ∀ (i : Nat) (x : V), xs[i]? = some x → (d0 :: dr)[i]? = some (PySem.W.minD d0 dr) → Q x H
theorem cr_minD {X : Cx} (hc : X.calm = true) (hu : X.A.units + 64 < cLine) : CallR X (.builtin "min") (rMinD X.K) := by
  intro pins s σ H vs us Q I r h
  obtain ⟨a, xs, d0, dr, rfl, hs, hd, ha, hq, q⟩ := h
  obtain ⟨its, rv, hl, _⟩ := I.list hs
  rw [Vals.ref1 r]
  obtain ⟨as, rr⟩ := Dp.readsAll I (d0 :: dr) xs its hd rv
  refine PySem.W.min_list_data (vs := its.toArray) (I.ok.hd hc) hl.isList rr ha (by omega) fun i v h' tk bs hi r1 hk => ?_
  obtain ⟨x, e1, rx⟩ := vals_at rv (show its[i]? = some v by simpa using hi)
  obtain ⟨cs, r2, hl2, _⟩ := PySem.W.readsAll_atA (vs := its.toArray) rr i v hi
  have r3 := PySem.W.reads_keeps hk r2
  have e2 := (PySem.Reads.unique r3 _ _ r1).1
  refine ⟨x, H, I.kept hk, rx, q i x e1 ?_⟩
  rw [← e2, List.getD_eq_getElem?_getD, List.getElem?_eq_getElem hl2] <;> rfl
/-- what stands at a place of data -/
theorem rpL_at {K : PySem.W.Frag} {H : Hp} : ∀ {ds : List D} {xs : List V} {i : Nat} {x : V}, RpL K H ds xs → xs[i]? = some x → ∃ d, ds[i]? = some d ∧ Rp K H d x
  | [], xs, i, x, h, e => by
    have h : xs = [] := h
    subst h
    simp at e
  | d :: ds, xs, 0, x, h, e => by
    obtain ⟨v, vs, rfl, r, _⟩ := h
    have : v = x := by simpa using e
    subst this
    exact ⟨d, rfl, r⟩
  | d :: ds, xs, i + 1, x, h, e => by
    obtain ⟨v, vs, rfl, _, r⟩ := h
    obtain ⟨y, e1, q⟩ := rpL_at (i := i) r (by simpa using e)
    exact ⟨y, by simpa using e1, q⟩
theorem toPyL_at {ds : List D} : ∀ {i : Nat} {d : D}, ds[i]? = some d → (toPyL ds)[i]? = some (toPy d) := by
  induction ds with
  | nil => intro i d e; simp at e
  | cons x ds ih =>
    intro i d e
    cases i with
    | zero =>
      have : x = d := by simpa using e
      subst this
      rfl
    | succ i => exact ih (by simpa using e)
/-- min of a list of data, as the text says it -/
theorem drc_minD {K : PySem.W.Frag} {d : D} {ds : List D} {S : Sto} {Q : D → Sto → Prop} (h : flatOkL 8 (d :: ds) = true) (ha : PySem.W.AlikeAll (toPyL (d :: ds))) (hq : PyData.depthAll (toPyL (d :: ds)) ≤ 20)
    (q : ∀ e, e ∈ d :: ds → toPy e = PySem.W.minD (toPy d) (toPyL ds) → Q e S) : DRC K (rMinD K) [.lst (d :: ds)] S Q := fun H Hd vs Qv st rr k => by
  obtain ⟨v, e1, rv⟩ := one_rp rr
  subst e1
  obtain ⟨a, xs, f1, f2, f3⟩ := rv
  have m3 : RpL K H (d :: ds) xs := RpL.mono st.sub _ _ f3
  refine ⟨a, xs, toPy d, toPyL ds, by rw [f1], .of (st.sub _ _ f2), dpAll_of 8 _ _ h m3, ha, hq, fun i x e2 e3 => ?_⟩
  obtain ⟨e, z1, z2⟩ := rpL_at f3 e2
  have z3 := toPyL_at z1
  have z4 : toPy e = PySem.W.minD (toPy d) (toPyL ds) := by
    have : (toPyL (d :: ds))[i]? = some (PySem.W.minD (toPy d) (toPyL ds)) := e3
    rw [z3] at this
    exact Option.some.inj this
  exact k _ _ (.here st z2 (q e (List.mem_of_getElem? z1) z4))
end DL
namespace DL
open PySem PySem.Spec PyProof.Rows L2
/-- a number and a pair of numbers -/
def d3 (t : Int × Int × Int) : D := .tup [.int t.1, .tup [.int t.2.1, .int t.2.2]]
theorem toPy_d3 (t : Int × Int × Int) : toPy (d3 t) = PySem.W.Datum.toD t := rfl
theorem toPyL_d3 : ∀ ts : List (Int × Int × Int), toPyL (ts.map d3) = ts.map PySem.W.Datum.toD
  | [] => rfl
  | t :: ts => by
    show toPy (d3 t) :: toPyL (ts.map d3) = _
    rw [toPyL_d3 ts, toPy_d3] <;> rfl
theorem flat_d3 : ∀ ts : List (Int × Int × Int), flatOkL 8 (ts.map d3) = true
  | [] => rfl
  | t :: ts => by
    show (flatOk 8 (d3 t) && flatOkL 8 (ts.map d3)) = true
    rw [flat_d3 ts] <;> rfl
theorem d3_inj {s t : Int × Int × Int} (h : toPy (d3 s) = toPy (d3 t)) : s = t := by
  obtain ⟨a, b, c⟩ := s
  obtain ⟨d, e, f⟩ := t
  have h : PyData.tuple [.int a, .tuple [.int b, .int c]] = PyData.tuple [.int d, .tuple [.int e, .int f]] := h
  injection h with h
  injection h with h1 h2
  injection h1 with h1
  injection h2 with h2 _
  injection h2 with h2
  injection h2 with h2 h3
  injection h2 with h2
  injection h3 with h3 _
  injection h3 with h3
  rw [h1, h2, h3]
theorem lt_no {s t : Int × Int × Int} (h : s = t ∨ t.1 < s.1) : PySem.W.DatumOrd.lt s t = false := by
  rcases h with h | h
  · subst h
    have : (if s.1 = s.1 then (if s.2.1 = s.2.1 then PySem.W.DatumOrd.lt s.2.2 s.2.2 else PySem.W.DatumOrd.lt s.2.1 s.2.1) else PySem.W.DatumOrd.lt s.1 s.1) = false := by
      rw [if_pos rfl, if_pos rfl]
      exact decide_eq_false (Int.lt_irrefl _)
    exact this
  · have : (if s.1 = t.1 then PySem.W.DatumOrd.lt s.2 t.2 else PySem.W.DatumOrd.lt s.1 t.1) = false := by
      rw [if_neg (by omega)]
      exact decide_eq_false (by omega)
    exact this
theorem lt_yes {s t : Int × Int × Int} (h : s.1 < t.1) : PySem.W.DatumOrd.lt s t = true := by
  have : (if s.1 = t.1 then PySem.W.DatumOrd.lt s.2 t.2 else PySem.W.DatumOrd.lt s.1 t.1) = true := by
    rw [if_neg (by omega)]
    exact decide_eq_true h
  exact this
theorem minOf_best {b : Int × Int × Int} : ∀ (ts : List (Int × Int × Int)) (t : Int × Int × Int), b ∈ t :: ts → (∀ s ∈ t :: ts, s = b ∨ b.1 < s.1) → PySem.W.minOf t ts = b
  | [], t, h, _ => by
    have : b = t := by simpa using h
    rw [this] <;> rfl
  | y :: ts, t, h, k => by
    show PySem.W.minOf (if PySem.W.DatumOrd.lt y t = true then y else t) ts = b
    have ky := k y (by simp)
    have kt := k t (by simp)
    by_cases e : t = b
    · subst e
      rw [lt_no ky, if_neg Bool.false_ne_true]
      exact minOf_best ts t (by simp) fun s hs => k s (by
        rcases List.mem_cons.mp hs with z | z
        · simp [z]
        · simp [z])
    · by_cases e2 : y = b
      · subst e2
        have : y.1 < t.1 := by
          rcases kt with z | z
          · exact absurd z e
          · exact z
        rw [lt_yes this, if_pos rfl]
        exact minOf_best ts y (by simp) fun s hs => k s (by
          rcases List.mem_cons.mp hs with z | z
          · simp [z]
          · simp [z])
      · have hb : b ∈ ts := by
          rcases List.mem_cons.mp h with z | z
          · exact absurd z.symm e
          · rcases List.mem_cons.mp z with z | z
            · exact absurd z.symm e2
            · exact z
        split
        · exact minOf_best ts y (List.mem_cons_of_mem _ hb) fun s hs => k s (List.mem_cons_of_mem _ hs)
        · exact minOf_best ts t (List.mem_cons_of_mem _ hb) fun s hs => k s (by
            rcases List.mem_cons.mp hs with z | z
            · simp [z]
            · simp [z])
theorem drc_min3 {K : PySem.W.Frag} {b t : Int × Int × Int} {ts : List (Int × Int × Int)} {S : Sto} {Q : D → Sto → Prop} (hb : b ∈ t :: ts) (hk : ∀ s ∈ t :: ts, s = b ∨ b.1 < s.1) (q : Q (d3 b) S) : DRC K (rMinD K) [.lst ((t :: ts).map d3)] S Q := by
  have e := toPyL_d3 (t :: ts)
  refine drc_minD (d := d3 t) (ds := ts.map d3) (flat_d3 (t :: ts)) (by
      show PySem.W.AlikeAll (toPyL ((t :: ts).map d3))
      rw [e]
      exact PySem.W.alikeAll_datum (t :: ts)) (by
      show PyData.depthAll (toPyL ((t :: ts).map d3)) ≤ 20
      rw [e]
      exact Nat.le_trans (PySem.W.depthAll_map (t :: ts)) (by decide)) fun x hx hm => ?_
  rw [toPyL_d3, toPy_d3, PySem.W.minD_map, minOf_best ts t hb hk] at hm
  obtain ⟨s, _, rfl⟩ := List.mem_map.mp (show x ∈ (t :: ts).map d3 from hx)
  have : s = b := d3_inj (hm.trans (toPy_d3 b).symm)
  rw [this]
  exact q
/-- the ends of a statement's ways, told by one form -/
theorem ds_join {X : Cx} {st : Stmt} {en : DEnv} {S : Sto} {Z : Dn} {γ : Type} (E : γ → DEnv) (P : γ → Sto → Prop)
    (h : DS1 X st en S { nx := fun en3 S3 => ∃ g, Wk en3 (E g) ∧ P g S3, rt := Z.rt, bk := Z.bk, ct := Z.ct }) (k : ∀ g S', P g S' → Z.nx (E g) S') : DS1 X st en S Z := ⟨fun σ H Hd st re De l =>
  h σ H Hd st re De ⟨fun _ S5 σ5 H5 Hd5 w1 w2 w3 ⟨g, w4, w5⟩ => l.nx (E g) S5 σ5 H5 Hd5 w1 w2 (w4.use w3) (k g S5 w5), l.rt, l.bk, l.ct⟩⟩
end DL
namespace DL
open PySem PySem.Spec PyProof.Rows L2
/-- slots forgotten; slots with values -/
def fgt : List Nat → DEnv → DEnv
  | [], en => en
  | k :: ks, en => fgt ks (en.set k none)
def putU : List (Nat × D) → DEnv → DEnv
  | [], en => en
  | (k, d) :: us, en => putU us (en.set k (some d))
section
variable {X : Cx} {c tg iter : Expr} {body : List Stmt} {en : DEnv} {S : Sto} {Z : Dn} {pos : Pos}
theorem ds_forG {γ : Type} (ks : List Nat) (hp : PassesOwn (model X.prog X.w) X.A X.env X.xe) (hc : X.calm = true)
    (h : DI X tg iter en S fun ds S1 => ∃ (U : γ → List (Nat × D)) (E : γ → DEnv) (_ : ∀ g, putU (U g) (fgt ks en) = E g) (P : Nat → γ → Sto → Prop) (g0 : γ), Wk en (E g0) ∧ P 0 g0 S1 ∧
      (∀ i d g S', ds[i]? = some d → P i g S' → DG X tg d (E g) S' fun en2 S2 => DS X body en2 S2 { nx := fun en3 S3 => ∃ g', Wk en3 (E g') ∧ P (i + 1) g' S3, rt := Z.rt, ct := fun en3 S3 => ∃ g', Wk en3 (E g') ∧ P (i + 1) g' S3, bk := Z.nx }) ∧
      ∀ g S', P ds.length g S' → Z.nx (E g) S') (hs : ∀ x, foldedSetIterable iter X.env x = pure x := by first | exact fset rfl | (intro _; rfl)) : DS1 X (.For tg iter body [] pos) en S Z := by
  refine ds_for (γ := γ) hp hc ⟨fun σ H Hd st re => ?_⟩ hs
  intro pins s I
  refine thn (DI.run h σ H Hd st re pins s I) fun v s1 h1 => thn h1 fun itv s2 h2 => ?_
  obtain ⟨it, fp, tn, J, H2, e, I2, T, st2, f2, ds, S1, Hd1, e1, s01, io, U, E, _, P, g0, wk, p0, turn, fin⟩ := h2
  exact ⟨it, fp, tn, J, H2, e, I2, T, st2, f2, ds, S1, Hd1, e1, s01, io, E, P, g0, wk, p0, turn, fin⟩
theorem ds_whileG {γ : Type} (ks : List Nat) (hp : PassesOwn (model X.prog X.w) X.A X.env X.xe) (U : γ → List (Nat × D)) (E : γ → DEnv) (_ : ∀ g, putU (U g) (fgt ks en) = E g) (P : γ → Sto → Prop) (μ : γ → Nat) (g0 : γ) (w0 : Wk en (E g0)) (p0 : P g0 S)
    (h : ∀ g S', P g S' → DT X c (E g) S' fun t S1 => (t = true → DS X body (E g) S1 { nx := fun en3 S3 => ∃ g', Wk en3 (E g') ∧ P g' S3 ∧ μ g' < μ g, rt := Z.rt, ct := fun en3 S3 => ∃ g', Wk en3 (E g') ∧ P g' S3 ∧ μ g' < μ g, bk := Z.nx }) ∧ (t = false → Z.nx (E g) S1)) :
    DS1 X (.While c body [] pos) en S Z := ds_while hp E P μ g0 w0 p0 h
theorem wk_set : ∀ {a b : DEnv} (k : Nat), Wk a b → Wk a (b.set k none)
  | [], [], _, _ => trivial
  | _ :: xs, none :: ys, 0, w => w
  | _ :: xs, some d :: ys, 0, w => w.2
  | _ :: xs, none :: ys, k + 1, w => wk_set (a := xs) (b := ys) k w
  | x :: xs, some d :: ys, k + 1, w => ⟨w.1, wk_set (a := xs) (b := ys) k w.2⟩
  | [], none :: _, _, w => w.elim
  | [], some _ :: _, _, w => w.elim
  | _ :: _, [], _, w => w.elim
theorem wk_fgt (en : DEnv) : ∀ (ks : List Nat) {b : DEnv}, Wk en b → Wk en (fgt ks b)
  | [], _, w => w
  | k :: ks, _, w => wk_fgt en ks (wk_set k w)
end
end DL
namespace DL
open PySem PySem.Spec PyProof.Rows L2
section
variable {X : Cx} {K : PySem.W.Frag} {S : Sto} {Q : D → Sto → Prop}
theorem ints_of {H : Hp} : ∀ {ns : List Int} {vs : List V}, RpL K H (ns.map D.int) vs → vs = ns.map V.int
  | [], _, h => h
  | n :: ns, _, h => by
    obtain ⟨x, xs, e1, e2, e3⟩ := h
    have e2 : x = V.int n := e2
    rw [e1, e2, ints_of e3] <;> rfl
/-- max, min, sum of a list of ints -/
theorem drc_maxI (ns : List Int) (h : 0 < ns.length) (q : ∀ m, m ∈ ns → (∀ y, y ∈ ns → y ≤ m) → Q (.int m) S) : DRC K (rMax K) [.lst (ns.map D.int)] S Q := fun H Hd vs Qv st rr k => by
  obtain ⟨v, e1, a, xs, f1, f2, f3⟩ := one_rp rr
  subst e1 f1
  exact ⟨a, ns, rfl, by rw [← ints_of f3]; exact .of (st.sub _ _ f2), h, fun m h1 h2 => k _ _ (.here (d := .int m) st rfl (q m h1 h2))⟩
theorem drc_minI (ns : List Int) (h : 0 < ns.length) (q : ∀ m, m ∈ ns → (∀ y, y ∈ ns → m ≤ y) → Q (.int m) S) : DRC K (rMin K) [.lst (ns.map D.int)] S Q := fun H Hd vs Qv st rr k => by
  obtain ⟨v, e1, a, xs, f1, f2, f3⟩ := one_rp rr
  subst e1 f1
  exact ⟨a, ns, rfl, by rw [← ints_of f3]; exact .of (st.sub _ _ f2), h, fun m h1 h2 => k _ _ (.here (d := .int m) st rfl (q m h1 h2))⟩
theorem drc_sumI (ns : List Int) (q : Q (.int ns.sum) S) : DRC K (rSum K) [.lst (ns.map D.int)] S Q := fun H Hd vs Qv st rr k => by
  obtain ⟨v, e1, a, xs, f1, f2, f3⟩ := one_rp rr
  subst e1 f1
  exact ⟨a, ns, rfl, by rw [← ints_of f3]; exact .of (st.sub _ _ f2), k _ _ (.here (d := .int _) st rfl q)⟩
end
end DL
namespace DL
open PySem PySem.Spec PyProof.Rows L2
/-! ### comprehensions with several targets -/
def setV : List Nat → List D → DEnv → DEnv
  | i :: is, d :: ds, en => setV is ds (en.set i (some d))
  | _, _, en => en
def wipeE : List Nat → DEnv → DEnv
  | [], en => en
  | i :: is, en => (wipeE is en).set i none
def setW : List Nat → List V → L2.St → L2.St
  | i :: is, v :: vs, σ => setW is vs (σ.set i (some v))
  | _, _, σ => σ
def gNames : List Nat → TGs
  | [] => gNil
  | i :: is => gCons (gName i) (gNames is)
theorem RpE.drop {K : PySem.W.Frag} {H : Hp} : ∀ {en : DEnv} {σ : L2.St} (i : Nat), RpE K H en σ → RpE K H (en.set i none) (σ.set i none)
  | [], _, _, h => by
    have h : _ = [] := h
    subst h
    rfl
  | none :: es, _, 0, h => let ⟨o, σ', e1, e2⟩ := h; ⟨none, σ', by rw [e1] <;> rfl, e2⟩
  | some x :: es, _, 0, h => let ⟨o, σ', e1, _, e2⟩ := h; ⟨none, σ', by rw [e1] <;> rfl, e2⟩
  | none :: es, _, i + 1, h => let ⟨o, σ', e1, e2⟩ := h; ⟨o, σ'.set i none, by rw [e1] <;> rfl, e2.drop i⟩
  | some x :: es, _, i + 1, h => let ⟨o, σ', e1, e0, e2⟩ := h; ⟨o, σ'.set i none, by rw [e1] <;> rfl, e0, e2.drop i⟩
theorem RpE.wipe {K : PySem.W.Frag} {H : Hp} {en : DEnv} {σ : L2.St} (h : RpE K H en σ) : ∀ is : List Nat, RpE K H (wipeE is en) (wipe σ is)
  | [] => h
  | i :: is => (RpE.wipe h is).drop i
theorem RpE.setV {K : PySem.W.Frag} {H : Hp} : ∀ {is : List Nat} {ds : List D} {vs : List V} {en : DEnv} {σ : L2.St}, RpE K H en σ → RpL K H ds vs → RpE K H (setV is ds en) (setW is vs σ)
  | [], _, _, _, _, h, _ => h
  | i :: is, [], vs, _, _, h, r => by
    have r : vs = [] := r
    subst r
    exact h
  | i :: is, d :: ds, _, _, _, h, r => by
    obtain ⟨v, vs', e1, rv, r2⟩ := r
    subst e1
    exact RpE.setV (is := is) (h.set rv i) r2
theorem gNames_go : ∀ {is : List Nat} {vs : List V} {σ : L2.St} {H : Hp} {Q : L2.St → Hp → Prop}, vs.length = is.length → Q (setW is vs σ) H → gNames is vs σ H Q
  | [], [], _, _, _, _, q => ⟨rfl, q⟩
  | [], _ :: _, _, _, _, h, _ => by cases h
  | _ :: _, [], _, _, _, h, _ => by cases h
  | i :: is, v :: vs, _, _, _, h, q => ⟨v, vs, rfl, gNames_go (is := is) (by simpa using h) q⟩
theorem wipe_at (σ : L2.St) (n : Nat) : ∀ is : List Nat, (wipe σ is)[n]? = if n ∈ is then (σ[n]?).map (fun _ => none) else σ[n]?
  | [] => by simp [wipe]
  | i :: is => by
    show ((wipe σ is).set i none)[n]? = _
    rw [List.getElem?_set, wipe_at σ n is, wipe_length]
    by_cases e : i = n
    · subst e
      rw [if_pos rfl, if_pos List.mem_cons_self]
      by_cases hl : i < σ.length
      · rw [if_pos hl, List.getElem?_eq_getElem hl] <;> rfl
      · rw [if_neg hl, List.getElem?_eq_none (by omega)] <;> rfl
    · rw [if_neg e]
      have : (n ∈ i :: is) ↔ n ∈ is := ⟨fun h => (List.mem_cons.mp h).elim (fun z => absurd z.symm e) id, List.mem_cons_of_mem _⟩
      simp only [this]
theorem wipe_set {i : Nat} {x : Option V} {σ : L2.St} {is : List Nat} (h : i ∈ is) : wipe (σ.set i x) is = wipe σ is := by
  refine List.ext_getElem? fun n => ?_
  rw [wipe_at, wipe_at]
  by_cases hn : n ∈ is
  · rw [if_pos hn, if_pos hn, List.getElem?_set]
    by_cases e : i = n
    · subst e
      rw [if_pos rfl]
      by_cases hl : i < σ.length
      · rw [if_pos hl, List.getElem?_eq_getElem hl] <;> rfl
      · rw [if_neg hl, List.getElem?_eq_none (by omega)]
    · rw [if_neg e]
  · rw [if_neg hn, if_neg hn, List.getElem?_set, if_neg (fun e : i = n => hn (by rw [← e]; exact h))]
theorem wipe_setW : ∀ {js : List Nat} {vs : List V} {σ : L2.St} {is : List Nat}, (∀ j ∈ js, j ∈ is) → wipe (setW js vs σ) is = wipe σ is
  | [], _, _, _, _ => rfl
  | _ :: _, [], _, _, _ => rfl
  | j :: js, v :: vs, σ, is, h => by
    show wipe (setW js vs (σ.set j (some v))) is = _
    rw [wipe_setW (js := js) fun k hk => h k (List.mem_cons_of_mem _ hk), wipe_set (h j List.mem_cons_self)]
theorem wipe_wipe (σ : L2.St) (is : List Nat) : wipe (wipe σ is) is = wipe σ is := by
  refine List.ext_getElem? fun n => ?_
  rw [wipe_at, wipe_at]
  by_cases hn : n ∈ is
  · rw [if_pos hn, if_pos hn, Option.map_map] <;> rfl
  · rw [if_neg hn, if_neg hn]
section
variable {X : Cx} {elt iter c tg : Expr} {en : DEnv} {S : Sto} {Q : D → Sto → Prop} {pos : Pos} {scope : Scope} {ifs : List Expr} {tt : TT}
theorem lc_goT (is : List Nat) (te : TE) {n : Nat} (hn : is.length = n) (mT : ∀ (σ : L2.St) (H : Hp) (A B : Bool → Hp → Prop), tt σ H A → (∀ b H', A b H' → B b H') → tt σ H B) (mE : ∀ (σ : L2.St) (H : Hp) (A B : VK), te σ H A → (∀ v H', A v H' → B v H') → te σ H B)
    (h : DI X tg iter en S fun ds S1 => ∃ (P : Nat → List D → Sto → Prop), P 0 [] S1 ∧
      (∀ k d acc S' p, ds[k]? = some d → P k acc S' → getS p S' = none → acc.length ≤ k → ∃ vals, d = .tup vals ∧ vals.length = n ∧ ∀ (σ : L2.St) (H Hd : Hp), St0 X.K ((p, acc) :: S') Hd H → RpE X.K Hd (setV is vals (wipeE is en)) σ →
        tt σ H fun b H3 => if b = true then te σ H3 fun v H4 => ∃ d2 S4 Hd4, Same Hd Hd4 ∧ St0 X.K ((p, acc) :: S4) Hd4 H4 ∧ Rp X.K Hd4 d2 v ∧ P (k + 1) (acc ++ [d2]) S4 else ∃ S4 Hd4, Same Hd Hd4 ∧ St0 X.K ((p, acc) :: S4) Hd4 H3 ∧ P (k + 1) acc S4) ∧
      ds.length ≤ 100000 ∧ ∀ acc S', acc.length ≤ ds.length → P ds.length acc S' → Q (.lst acc) S') {σ : L2.St} {H Hd : Hp} (st : St0 X.K S Hd H) (re : RpE X.K Hd en σ) (Qv : VK) (kq : ∀ v H', QD X.K Hd Q v H' → Qv v H') : tLc (wI X tg iter) (gTup X.K n (gNames is)) tt te is σ H Qv := by
  intro pins s I
  refine thn (h σ H Hd st re pins s I) fun v s1 h1 => thn h1 fun itv s2 h2 => ?_
  obtain ⟨it, fp, tn, J, H2, e, I2, T, st2, f2, ds, S1, Hd1, e1, s01, io, P, p0, turn, lim, fin⟩ := h2
  refine ⟨it, fp, tn, J, H2, e, I2, T, st2, f2, fun p hp => ?_⟩
  obtain ⟨fr, s02⟩ := s01.laidO (l := []) (xs := []) hp rfl
  refine ⟨fun k m H => m = ds.length - k ∧ k ≤ ds.length ∧ ∃ acc S' Hd', acc.length ≤ k ∧ Same Hd1 Hd' ∧ St0 X.K ((p, acc) :: S') Hd' H ∧ P k acc S', ⟨_, rfl, Nat.zero_le _, [], S1, Hd1, Nat.le_refl _, Same.refl _, s02, p0⟩, ?_⟩
  rintro k m H ⟨rfl, hk, acc, S', Hd', ka, k1, k2, k3⟩
  by_cases hlt : k < ds.length
  · obtain ⟨go, yl⟩ := io.go k1 k2 (List.getElem?_eq_getElem hlt)
    refine .inr ⟨go, fun H' => ∃ acc S' Hd', acc.length ≤ k + 1 ∧ Same Hd1 Hd' ∧ St0 X.K ((p, acc) :: S') Hd' H' ∧ P (k + 1) acc S', fun H' q => ⟨ds.length - (k + 1), by omega, rfl, hlt, q⟩, fun x H' y => ?_⟩
    obtain ⟨Hd2, y1, y2, y3⟩ := yl x H' y
    obtain ⟨vals, ed, el, go2⟩ := turn k _ acc S' p (List.getElem?_eq_getElem hlt) k3 k2.own.2.1 ka
    rw [ed] at y3
    obtain ⟨a, xs, f1, f2', f3⟩ := y3
    have hxl : xs.length = n := by rw [f3.length]; exact el
    refine ⟨a, xs, f1, same_t y2.sub f2', hxl, ?_⟩
    refine gNames_go (is := is) (by rw [hxl, hn]) ?_
    refine ⟨by rw [wipe_setW fun j hj => hj, wipe_wipe], ?_⟩
    have reB := RpE.setV (is := is) ((re.mono (e1.trans (k1.trans y1))).wipe is) f3
    have go2 := go2 _ H' Hd2 y2 reB
    have en1 : ∀ (H4 : Hp) (v : V) (d2 : D) (S4 : Sto) (Hd4 : Hp), Same Hd2 Hd4 → St0 X.K ((p, acc) :: S4) Hd4 H4 → Rp X.K Hd4 d2 v → P (k + 1) (acc ++ [d2]) S4 →
        ∃ vs, H4 p = some (.lst vs) ∧ vs.length < sizeLine ∧ ∃ acc S' Hd', acc.length ≤ k + 1 ∧ Same Hd1 Hd' ∧ St0 X.K ((p, acc) :: S') Hd' (upd H4 p (.lst (vs ++ [v]))) ∧ P (k + 1) acc S' := by
      intro H4 v d2 S4 Hd4 z1 z2 z3 z4
      obtain ⟨_, xs, hx, rx⟩ := z2.own.at (l := acc) getS_hd
      refine ⟨xs, hx, by rw [rx.length]; exact Nat.lt_of_le_of_lt (Nat.le_trans ka hk) (Nat.lt_of_le_of_lt lim (by decide)), acc ++ [d2], S4, Hd4, by rw [List.length_append, List.length_singleton]; omega, k1.trans (y1.trans z1), ?_, z4⟩
      have w := z2.written (l' := acc ++ [d2]) (ys := xs ++ [v]) getS_hd (rx.append (show RpL X.K Hd4 [d2] [v] from ⟨v, [], rfl, z3, rfl⟩))
      rw [setS_hd] at w
      exact w
    refine mT _ _ _ _ go2 fun b H3 q => ?_
    cases b with
    | true =>
      rw [if_pos rfl] at q ⊢
      exact mE _ _ _ _ q fun v H4 ⟨d2, S4, Hd4, z1, z2, z3, z4⟩ => en1 H4 v d2 S4 Hd4 z1 z2 z3 z4
    | false =>
      rw [if_neg Bool.false_ne_true] at q ⊢
      obtain ⟨S4, Hd4, z1, z2, z3⟩ := q
      exact ⟨acc, S4, Hd4, Nat.le_succ_of_le ka, k1.trans (y1.trans z1), z2, z3⟩
  · have e0 : k = ds.length := by omega
    subst e0
    obtain ⟨xs, rx, ex, sx⟩ := k2.frozen
    exact .inl ⟨io.stop k1 k2, kq _ _ ⟨.lst acc, S', _, e1.trans (k1.trans ex), sx, ⟨p, xs, rfl, upd_same, rx.mono ex⟩, fin acc S' ka k3⟩⟩
def Lc0T (X : Cx) (scope : Scope) (is : List Nat) (n : Nat) (tg : Expr) (elt iter : Expr) (en : DEnv) (S : Sto) (Q : D → Sto → Prop) : Prop := DI X tg iter en S fun ds S1 => ∃ (P : Nat → List D → Sto → Prop), P 0 [] S1 ∧
  (∀ k d acc S' p, ds[k]? = some d → P k acc S' → getS p S' = none → acc.length ≤ k → ∃ vals, d = .tup vals ∧ vals.length = n ∧ ∃ en', setV is vals (wipeE is en) = en' ∧ Turn1 X scope elt en' S' p acc (P (k + 1))) ∧ ds.length ≤ 100000 ∧ ∀ acc S', acc.length ≤ ds.length → P ds.length acc S' → Q (.lst acc) S'
def Lc1T (X : Cx) (scope : Scope) (is : List Nat) (n : Nat) (tg : Expr) (elt iter c : Expr) (en : DEnv) (S : Sto) (Q : D → Sto → Prop) : Prop := DI X tg iter en S fun ds S1 => ∃ (P : Nat → List D → Sto → Prop), P 0 [] S1 ∧
  (∀ k d acc S' p, ds[k]? = some d → P k acc S' → getS p S' = none → acc.length ≤ k → ∃ vals, d = .tup vals ∧ vals.length = n ∧ ∃ en', setV is vals (wipeE is en) = en' ∧
    ∀ s H C cl fp, DT (bX X scope s H C cl fp) c en' ((p, acc) :: S') fun b S2 => ∃ S3, S2 = (p, acc) :: S3 ∧ (b = true → Turn1 X scope elt en' S3 p acc (P (k + 1))) ∧ (b = false → P (k + 1) acc S3)) ∧
  ds.length ≤ 100000 ∧ ∀ acc S', acc.length ≤ ds.length → P ds.length acc S' → Q (.lst acc) S'
theorem lc0T_read {is : List Nat} {n : Nat} (hn : is.length = n) (h : Lc0T X scope is n tg elt iter en S Q) {σ : L2.St} {H Hd : Hp} (st : St0 X.K S Hd H) (re : RpE X.K Hd en σ) (Qv : VK) (kq : ∀ v H', QD X.K Hd Q v H' → Qv v H') : tLc (wI X tg iter) (gTup X.K n (gNames is)) tYes (teB X scope elt) is σ H Qv := by
  refine lc_goT (tt := tYes) is _ hn (fun σ H A B q k => k _ _ q) (fun σ H A B q k s0 H0 C cl fp => wE_mono (q s0 H0 C cl fp) k) ?_ st re Qv kq
  refine ⟨fun σ H Hd st re => ?_⟩
  intro pins s I
  refine thn (DI.run h σ H Hd st re pins s I) fun v s1 h1 => thn h1 fun itv s2 h2 => ?_
  obtain ⟨it, fp, tn, J, H2, e, I2, T, st2, f2, ds, S1, Hd1, e1, s01, io, P, p0, turn, lim, fin⟩ := h2
  refine ⟨it, fp, tn, J, H2, e, I2, T, st2, f2, ds, S1, Hd1, e1, s01, io, P, p0, fun k d acc S' p hk hP hp hl => ?_, lim, fin⟩
  obtain ⟨vals, ed, el, en', ee, t1⟩ := turn k d acc S' p hk hP hp hl
  refine ⟨vals, ed, el, fun σ H Hd st re => ?_⟩
  rw [ee] at re
  show tYes σ H _
  unfold tYes
  simp only [↓reduceIte]
  intro s0 H0 C cl fp
  exact wE_mono (t1 s0 H0 C cl fp σ H Hd st re) fun v H4 ⟨d2, S2, Hd4, z1, z2, z3, S3, z4, z5⟩ => by
    subst z4
    exact ⟨d2, S3, Hd4, z1, z2, z3, z5⟩
theorem lc1T_read {is : List Nat} {n : Nat} (hn : is.length = n) (h : Lc1T X scope is n tg elt iter c en S Q) {σ : L2.St} {H Hd : Hp} (st : St0 X.K S Hd H) (re : RpE X.K Hd en σ) (Qv : VK) (kq : ∀ v H', QD X.K Hd Q v H' → Qv v H') : tLc (wI X tg iter) (gTup X.K n (gNames is)) (ttB X scope c) (teB X scope elt) is σ H Qv := by
  refine lc_goT is _ hn (fun σ H A B q k s0 H0 C cl fp => wT_mono (q s0 H0 C cl fp) k) (fun σ H A B q k s0 H0 C cl fp => wE_mono (q s0 H0 C cl fp) k) ?_ st re Qv kq
  refine ⟨fun σ H Hd st re => ?_⟩
  intro pins s I
  refine thn (DI.run h σ H Hd st re pins s I) fun v s1 h1 => thn h1 fun itv s2 h2 => ?_
  obtain ⟨it, fp, tn, J, H2, e, I2, T, st2, f2, ds, S1, Hd1, e1, s01, io, P, p0, turn, lim, fin⟩ := h2
  refine ⟨it, fp, tn, J, H2, e, I2, T, st2, f2, ds, S1, Hd1, e1, s01, io, P, p0, fun k d acc S' p hk hP hp hl => ?_, lim, fin⟩
  obtain ⟨vals, ed, el, en', ee, t1⟩ := turn k d acc S' p hk hP hp hl
  refine ⟨vals, ed, el, fun σ H Hd st re => ?_⟩
  rw [ee] at re
  intro s0 H0 C cl fp
  refine wT_mono (t1 s0 H0 C cl fp σ H Hd st re) fun b H3 ⟨S2, Hd3, e3, st3, S3, z, q1, q2⟩ => ?_
  subst z
  cases b with
  | true =>
    rw [if_pos rfl]
    intro s5 H5 C5 cl5 fp5
    exact wE_mono (q1 rfl s5 H5 C5 cl5 fp5 σ H3 Hd3 st3 (re.mono e3)) fun v H4 ⟨d2, S5, Hd4, y1, y2, y3, S6, y4, y5⟩ => by
      subst y4
      exact ⟨d2, S6, Hd4, e3.trans y1, y2, y3, y5⟩
  | false =>
    rw [if_neg Bool.false_ne_true]
    exact ⟨S3, Hd3, e3, st3, q2 rfl⟩
variable {own : List (Str × Nat)} {n : Nat}
/-- [elt for a, b in iter] -/
theorem de_lcT (is : List Nat) (hc : X.calm = true) (hN : X.N.Nodup) (ok : BlkOk X.N X.env.scope scope own) (ho : own.map (·.2) = is) (hn : is.length = n) (h : Lc0T X scope is n tg elt iter en S Q)
    (hg : ∀ (s : Shared) (H : Hp) (C : Addr) (cl : List (Str × Addr)) (fp : List Addr), PG (bX X scope s H C cl fp) tg (gTup X.K n (gNames is)))
    (hs : ∀ x, foldedSetIterable iter X.env x = pure x := by first | exact fset rfl | (intro _; rfl)) : DE X (.ListComp elt [⟨tg, iter, [], 0⟩] scope pos) en S Q := ⟨fun σ H Hd st re => by
  subst ho
  exact wE_of (pe_lc hc hN piW ok hg (fun _ _ _ _ _ => pts_nil) (pe_blk (te := teB X scope elt) rfl) hs) (lc0T_read hn h st re _ fun _ _ z => z)⟩
theorem de_lcTIf (is : List Nat) (hc : X.calm = true) (hN : X.N.Nodup) (ok : BlkOk X.N X.env.scope scope own) (ho : own.map (·.2) = is) (hn : is.length = n) (h : Lc1T X scope is n tg elt iter c en S Q)
    (hg : ∀ (s : Shared) (H : Hp) (C : Addr) (cl : List (Str × Addr)) (fp : List Addr), PG (bX X scope s H C cl fp) tg (gTup X.K n (gNames is)))
    (hs : ∀ x, foldedSetIterable iter X.env x = pure x := by first | exact fset rfl | (intro _; rfl)) : DE X (.ListComp elt [⟨tg, iter, [c], 0⟩] scope pos) en S Q := ⟨fun σ H Hd st re => by
  subst ho
  exact wE_of (pe_lc hc hN piW ok hg (fun s H C cl fp => pts_one (pt_blk (tt := ttB X scope c) rfl s H C cl fp)) (pe_blk (te := teB X scope elt) rfl) hs) (lc1T_read hn h st re _ fun _ _ z => z)⟩
theorem ds_setLcT {Z : Dn} {spos px : Pos} {x : Str} (j : Nat) (is : List Nat) (hc : X.calm = true) (hN : X.N.Nodup) (hj : X.N[j]? = some x) (hx : X.env.scope.names.lookup x = some .local)
    (hsw : swapsWith (.ListComp elt [⟨tg, iter, [], 0⟩] scope pos) (some (.Name x px)) spos.line X.env = pure true) (ok : BlkOk X.N X.env.scope scope own) (ho : own.map (·.2) = is) (hn : is.length = n)
    (h : Lc0T X scope is n tg elt iter en S fun d S' => Z.nx (en.set j (some d)) S')
    (hg : ∀ (s : Shared) (H : Hp) (C : Addr) (cl : List (Str × Addr)) (fp : List Addr), PG (bX X scope s H C cl fp) tg (gTup X.K n (gNames is)))
    (hs : ∀ x, foldedSetIterable iter X.env x = pure x := by first | exact fset rfl | (intro _; rfl)) : DS1 X (.Assign [.Name x px] (.ListComp elt [⟨tg, iter, [], 0⟩] scope pos) spos) en S Z := ⟨fun σ H Hd st re De l => by
  subst ho
  exact wS_of (ps_setLc hc hN hj hx hsw piW ok hg (fun _ _ _ _ _ => pts_nil) (pe_blk (te := teB X scope elt) rfl) hs) (lc0T_read hn h st re _ fun v H' ⟨d, S', Hd', e', st', r, q⟩ => l.nx _ S' _ H' Hd' e' st' ((re.mono e').set r j) q)⟩
theorem ds_setLcTIf {Z : Dn} {spos px : Pos} {x : Str} (j : Nat) (is : List Nat) (hc : X.calm = true) (hN : X.N.Nodup) (hj : X.N[j]? = some x) (hx : X.env.scope.names.lookup x = some .local)
    (hsw : swapsWith (.ListComp elt [⟨tg, iter, [c], 0⟩] scope pos) (some (.Name x px)) spos.line X.env = pure true) (ok : BlkOk X.N X.env.scope scope own) (ho : own.map (·.2) = is) (hn : is.length = n)
    (h : Lc1T X scope is n tg elt iter c en S fun d S' => Z.nx (en.set j (some d)) S')
    (hg : ∀ (s : Shared) (H : Hp) (C : Addr) (cl : List (Str × Addr)) (fp : List Addr), PG (bX X scope s H C cl fp) tg (gTup X.K n (gNames is)))
    (hs : ∀ x, foldedSetIterable iter X.env x = pure x := by first | exact fset rfl | (intro _; rfl)) : DS1 X (.Assign [.Name x px] (.ListComp elt [⟨tg, iter, [c], 0⟩] scope pos) spos) en S Z := ⟨fun σ H Hd st re De l => by
  subst ho
  exact wS_of (ps_setLc hc hN hj hx hsw piW ok hg (fun s H C cl fp => pts_one (pt_blk (tt := ttB X scope c) rfl s H C cl fp)) (pe_blk (te := teB X scope elt) rfl) hs) (lc1T_read hn h st re _ fun v H' ⟨d, S', Hd', e', st', r, q⟩ => l.nx _ S' _ H' Hd' e' st' ((re.mono e').set r j) q)⟩
end
end DL
namespace DL
open PySem PySem.Spec PyProof.Rows L2
/-! ### in, not in over any data; is None; repr of plain values -/
theorem room_shaped {d : PyData} {A : Around} (h : SeqAt.shaped d = true) (hu : A.units + 65 < cLine) {n : Nat} : A.units + 1 + min n d.depth < cLine := by
  have h2 : d.depth ≤ 64 := by
    unfold SeqAt.shaped at h
    rw [Bool.and_eq_true] at h
    exact of_decide_eq_true h.2
  omega
def rInT (K : PySem.W.Frag) (neg : Bool) : R2 := fun x y H Q => ∃ d ds, Dp K H x d ∧ Dp K H y (.tuple ds) ∧ SeqAt.shaped d = true ∧ PyData.canLayAll0 ds = true ∧ Q (.bl (if neg then !ds.any fun z => PyData.eqv z d else ds.any fun z => PyData.eqv z d)) H
theorem op_inT {X : Cx} (hu : X.A.units + 65 < cLine) : OpR X (compareOp .In) (rInT X.K false) := by
  intro pins s σ H x y v u Q I rx ry h
  obtain ⟨d, ds, hd, he, sd, se, q⟩ := h
  obtain ⟨as, r1⟩ := Dp.reads I d x v hd rx
  obtain ⟨bs, r2⟩ := Dp.reads I (.tuple ds) y u he ry
  exact SeqAt.in_tuple_reads r2 r1 se (SeqAt.canLay_of_shaped sd) (room_shaped sd hu) ⟨.bl _, H, I, rfl, q⟩
theorem op_notInT {X : Cx} (hu : X.A.units + 65 < cLine) : OpR X (compareOp .NotIn) (rInT X.K true) := by
  intro pins s σ H x y v u Q I rx ry h
  obtain ⟨d, ds, hd, he, sd, se, q⟩ := h
  obtain ⟨as, r1⟩ := Dp.reads I d x v hd rx
  obtain ⟨bs, r2⟩ := Dp.reads I (.tuple ds) y u he ry
  exact SeqAt.notIn_tuple_reads r2 r1 se (SeqAt.canLay_of_shaped sd) (room_shaped sd hu) ⟨.bl _, H, I, rfl, q⟩
theorem any_toPy (x : D) : ∀ l : List D, ((toPyL l).any fun z => PyData.eqv z (toPy x)) = l.any fun z => eqB z x
  | [] => rfl
  | d :: l => by
    show (PyData.eqv (toPy d) (toPy x) || (toPyL l).any _) = (eqB d x || l.any _)
    rw [any_toPy x l] <;> rfl
def inP (x y : D) (S : Sto) (Q : Bool → Sto → Prop) : Prop := match y with
  | .lst l => (flatOk 9 x = true ∧ flatOkL 8 l = true) ∧ Q (l.any fun z => eqB z x) S
  | .tup l => (flatOk 9 x = true ∧ flatOkL 8 l = true) ∧ Q (l.any fun z => eqB z x) S
  | _ => False
theorem flat9l {l : List D} (h : flatOkL 8 l = true) : flatOk 9 (.lst l) = true := by simpa [flatOk] using h
theorem flat9t {l : List D} (h : flatOkL 8 l = true) : flatOk 9 (.tup l) = true := by simpa [flatOk] using h
theorem dr_in {K : PySem.W.Frag} {x y : D} {S : Sto} {Q : D → Sto → Prop} (h : inP x y S fun b S' => Q (.bl b) S') : DR2 K (fun x y H Q => rInD K x y H Q ∨ rInT K false x y H Q) x y S Q := by
  intro H Hd vx vy Qv st rx ry k
  unfold inP at h
  split at h
  · rename_i l
    obtain ⟨⟨h1, h2⟩, q⟩ := h
    exact .inl ⟨toPy x, toPyL l, dp_of 9 x vx h1 (Rp.mono st.sub x vx rx), dp_of 9 (.lst l) vy (flat9l h2) (Rp.mono st.sub _ vy ry), shaped_of h1 (by decide), shaped_of (d := .lst l) (flat9l h2) (by decide), by rw [any_toPy]; exact k _ _ (.here (d := .bl _) st rfl q)⟩
  · rename_i l
    obtain ⟨⟨h1, h2⟩, q⟩ := h
    exact .inr ⟨toPy x, toPyL l, dp_of 9 x vx h1 (Rp.mono st.sub x vx rx), dp_of 9 (.tup l) vy (flat9t h2) (Rp.mono st.sub _ vy ry), shaped_of h1 (by decide), (layAll_of 8 l h2).1, by rw [any_toPy]; exact k _ _ (.here (d := .bl _) st rfl q)⟩
  · exact h.elim
theorem dr_notin {K : PySem.W.Frag} {x y : D} {S : Sto} {Q : D → Sto → Prop} (h : inP x y S fun b S' => Q (.bl (!b)) S') : DR2 K (fun x y H Q => rNotInD K x y H Q ∨ rInT K true x y H Q) x y S Q := by
  intro H Hd vx vy Qv st rx ry k
  unfold inP at h
  split at h
  · rename_i l
    obtain ⟨⟨h1, h2⟩, q⟩ := h
    exact .inl ⟨toPy x, toPyL l, dp_of 9 x vx h1 (Rp.mono st.sub x vx rx), dp_of 9 (.lst l) vy (flat9l h2) (Rp.mono st.sub _ vy ry), shaped_of h1 (by decide), shaped_of (d := .lst l) (flat9l h2) (by decide), by rw [any_toPy]; exact k _ _ (.here (d := .bl _) st rfl q)⟩
  · rename_i l
    obtain ⟨⟨h1, h2⟩, q⟩ := h
    exact .inr ⟨toPy x, toPyL l, dp_of 9 x vx h1 (Rp.mono st.sub x vx rx), dp_of 9 (.tup l) vy (flat9t h2) (Rp.mono st.sub _ vy ry), shaped_of h1 (by decide), (layAll_of 8 l h2).1, by rw [any_toPy]; exact k _ _ (.here (d := .bl _) st rfl q)⟩
  · exact h.elim
section
variable {X : Cx} {a b c e : Expr} {en : DEnv} {S : Sto} {Q : D → Sto → Prop} {P : Bool → Sto → Prop} {pos p : Pos}
theorem hu65 {A : Around} {k : Nat} (hr : Room k A) : A.units + 65 < cLine := by
  have := hr.un
  omega
theorem de_in (hu : X.A.units + 65 < cLine) (h : DE X a en S fun x S1 => DE X b en S1 fun y S2 => inP x y S2 fun b S' => Q (.bl b) S') (hm : behindInMarks .In b = false := by rfl) : DE X (.Compare a [.In] [b] pos) en S Q :=
  de_cmpR (OpR.or (op_inD hu) (op_inT hu)) hm (h.mono fun _ _ h1 => h1.mono fun _ _ h2 => dr_in h2)
theorem de_notin (hu : X.A.units + 65 < cLine) (h : DE X a en S fun x S1 => DE X b en S1 fun y S2 => inP x y S2 fun b S' => Q (.bl (!b)) S') (hm : behindInMarks .NotIn b = false := by rfl) : DE X (.Compare a [.NotIn] [b] pos) en S Q :=
  de_cmpR (OpR.or (op_notInD hu) (op_notInT hu)) hm (h.mono fun _ _ h1 => h1.mono fun _ _ h2 => dr_notin h2)
/-- is it None, for all data but the raw -/
def nonB : D → Option Bool
  | .non => some true
  | .raw _ => none
  | .ext _ => none
  | _ => some false
theorem nonB_of {K : PySem.W.Frag} {H : Hp} {d : D} {v : V} {t : Bool} (h : nonB d = some t) (r : Rp K H d v) : decide (v = .non) = t := by
  cases d with
  | non => cases h; exact decide_eq_true r
  | bl b => cases h; rw [show v = V.bl b from r] <;> rfl
  | int b => cases h; rw [show v = V.int b from r] <;> rfl
  | str b => cases h; rw [show v = V.str b from r] <;> rfl
  | tup l => cases h; obtain ⟨a, xs, e, _⟩ := r; rw [e] <;> rfl
  | lst l => cases h; obtain ⟨a, xs, e, _⟩ := r; rw [e] <;> rfl
  | raw u => cases h
  | ext u => cases h
  | scr l => cases h; obtain ⟨a, e, _⟩ := r; rw [e] <;> rfl
theorem de_isN {j} {p2 : Pos} (h : DE X a en S fun x S1 => ∃ t, nonB x = some t ∧ Q (.bl t) S1) : DE X (.Compare a [.Is] [.Constant .none j p2] pos) en S Q :=
  de_cmpR op_isN (nobehind _ (by decide) (by decide)) (h.mono fun x S1 ⟨t, h1, q⟩ => de_non fun H Hd vx vy Qv st rx ry k => ⟨ry, by rw [nonB_of h1 rx]; exact k _ _ (.here (d := .bl t) st rfl q)⟩)
theorem de_notN {j} {p2 : Pos} (h : DE X a en S fun x S1 => ∃ t, nonB x = some t ∧ Q (.bl (!t)) S1) : DE X (.Compare a [.IsNot] [.Constant .none j p2] pos) en S Q :=
  de_cmpR op_notN (nobehind _ (by decide) (by decide)) (h.mono fun x S1 ⟨t, h1, q⟩ => de_non fun H Hd vx vy Qv st rx ry k => ⟨ry, by rw [nonB_of h1 rx]; exact k _ _ (.here (d := .bl (!t)) st rfl q)⟩)
theorem dt_in (hu : X.A.units + 65 < cLine) (h : DE X a en S fun x S1 => DE X b en S1 fun y S2 => inP x y S2 P) (hm : behindInMarks .In b = false := by rfl) : DT X (.Compare a [.In] [b] pos) en S P :=
  dt_cmp (OpR.or (op_inD hu) (op_inT hu)) hm (h.mono fun _ _ h1 => h1.mono fun x S2 h2 => dr_in (by
    unfold inP at h2 ⊢
    split at h2 <;> first | exact ⟨h2.1, _, rfl, h2.2⟩ | exact h2))
theorem dt_notin (hu : X.A.units + 65 < cLine) (h : DE X a en S fun x S1 => DE X b en S1 fun y S2 => inP x y S2 fun b S' => P (!b) S') (hm : behindInMarks .NotIn b = false := by rfl) : DT X (.Compare a [.NotIn] [b] pos) en S P :=
  dt_cmp (OpR.or (op_notInD hu) (op_notInT hu)) hm (h.mono fun _ _ h1 => h1.mono fun x S2 h2 => dr_notin (by
    unfold inP at h2 ⊢
    split at h2 <;> first | exact ⟨h2.1, _, rfl, h2.2⟩ | exact h2))
theorem dt_isN {j} {p2 : Pos} (h : DE X a en S fun x S1 => ∃ t, nonB x = some t ∧ P t S1) : DT X (.Compare a [.Is] [.Constant .none j p2] pos) en S P :=
  dt_cmp op_isN (nobehind _ (by decide) (by decide)) (h.mono fun x S1 ⟨t, h1, q⟩ => de_non fun H Hd vx vy Qv st rx ry k => ⟨ry, by rw [nonB_of h1 rx]; exact k _ _ (.here (d := .bl t) st rfl ⟨t, rfl, q⟩)⟩)
theorem dt_notN {j} {p2 : Pos} (h : DE X a en S fun x S1 => ∃ t, nonB x = some t ∧ P (!t) S1) : DT X (.Compare a [.IsNot] [.Constant .none j p2] pos) en S P :=
  dt_cmp op_notN (nobehind _ (by decide) (by decide)) (h.mono fun x S1 ⟨t, h1, q⟩ => de_non fun H Hd vx vy Qv st rx ry k => ⟨ry, by rw [nonB_of h1 rx]; exact k _ _ (.here (d := .bl (!t)) st rfl ⟨!t, rfl, q⟩)⟩)
/-- repr of None, a truth, an int -/
def rRepA : List V → Hp → VK → Prop := fun vs H Q => (vs = [.non] ∧ Q (.str "None") H) ∨ (∃ t, vs = [.bl t] ∧ Q (.str (if t then "True" else "False")) H) ∨ ∃ i, vs = [.int i] ∧ i.natAbs.log2 < 1920 ∧ Q (.str (toString i)) H
theorem call_repr_at : CallR X (.builtin "repr") rRepA := by
  intro pins s σ H vs us Q I rv h
  rcases h with ⟨rfl, q⟩ | ⟨t, rfl, q⟩ | ⟨i, rfl, hz, q⟩
  · obtain ⟨u, rfl, ru⟩ := rv.one
    cases ru
    exact PySem.P.repr_of_none ⟨.str _, H, I.tok _, ⟨_, rfl⟩, q⟩
  · obtain ⟨u, rfl, ru⟩ := rv.one
    cases ru
    exact PySem.P.repr_of_bool ⟨.str _, H, I.tok _, ⟨_, rfl⟩, q⟩
  · obtain ⟨u, rfl, t, rfl⟩ := Vals.one rv
    exact PySem.P.repr_of_int hz ⟨.str _, H, I.tok _, ⟨_, rfl⟩, q⟩
theorem cr_or {f : Value} {r r' : List V → Hp → VK → Prop} (h : CallR X f r) (h' : CallR X f r') : CallR X f (fun vs H Q => r vs H Q ∨ r' vs H Q) := by
  intro pins s σ H vs us Q I rv q
  rcases q with q | q
  · exact h pins s σ H vs us Q I rv q
  · exact h' pins s σ H vs us Q I rv q
theorem drc_left {K : PySem.W.Frag} {r r' : List V → Hp → VK → Prop} {ds : List D} (h : DRC K r ds S Q) : DRC K (fun vs H Q => r vs H Q ∨ r' vs H Q) ds S Q := fun H Hd vs Qv st rr k => .inl (h H Hd vs Qv st rr k)
theorem drc_right {K : PySem.W.Frag} {r r' : List V → Hp → VK → Prop} {ds : List D} (h : DRC K r' ds S Q) : DRC K (fun vs H Q => r vs H Q ∨ r' vs H Q) ds S Q := fun H Hd vs Qv st rr k => .inr (h H Hd vs Qv st rr k)
theorem drc_repr_bl {K : PySem.W.Frag} {t : Bool} (q : Q (.str (toPy (.bl t)).shown) S) : DRC K rRepA [.bl t] S Q := fun H Hd vs Qv st rr k => by
  obtain ⟨v, e1, rv⟩ := one_rp rr
  have rv : v = V.bl t := rv
  subst e1 rv
  exact .inr (.inl ⟨t, rfl, k _ _ (.here (d := .str _) st rfl q)⟩)
theorem drc_repr_non {K : PySem.W.Frag} (q : Q (.str (toPy .non).shown) S) : DRC K rRepA [.non] S Q := fun H Hd vs Qv st rr k => by
  obtain ⟨v, e1, rv⟩ := one_rp rr
  have rv : v = V.non := rv
  subst e1 rv
  exact .inl ⟨rfl, k _ _ (.here (d := .str _) st rfl q)⟩
theorem drc_repr_int {K : PySem.W.Frag} {i : Int} (h : i.natAbs < 2 ^ 1900) (q : Q (.str (toPy (.int i)).shown) S) : DRC K rRepA [.int i] S Q := fun H Hd vs Qv st rr k => by
  obtain ⟨v, e1, rv⟩ := one_rp rr
  have rv : v = V.int i := rv
  subst e1 rv
  exact .inr (.inr ⟨i, rfl, (digits_le h).2, k _ _ (.here (d := .str _) st rfl q)⟩)
/-- x -= e, of whole numbers -/
theorem ds_augS {Z : Dn} {x : Str} {e : Expr} {i : Int} (k : Nat) (hN : X.N.Nodup) (hk : X.N[k]? = some x) (hx : X.env.scope.names.lookup x = some .local) (he : en[k]? = some (some (.int i)))
    (h : DE X e en S fun d S1 => ∃ j, d = .int j ∧ Z.nx (en.set k (some (.int (i - j)))) S1) : DS1 X (.AugAssign (.Name x p) .Sub e pos) en S Z := ⟨fun σ H Hd st re De l => by
  refine wS_of (ps_aug hN hk (.inl hx) peW ip_sub (.inr hx)) ?_
  obtain ⟨v, e1, rv⟩ := re.get he
  have rv : v = V.int i := rv
  subst rv
  refine ⟨_, e1, ?_⟩
  refine wE_mono (h σ H Hd st re) fun w H1 ⟨d, S1, Hd1, z1, st1, r1, j, e2, q⟩ => ?_
  subst e2
  have r1 : w = V.int j := r1
  subst r1
  exact ⟨i, j, rfl, rfl, l.nx _ S1 _ H1 Hd1 z1 st1 ((re.mono z1).set (d := .int (i - j)) rfl k) q⟩⟩
/-- xs[::-1] -/
theorem de_rev {k : Nat} {p1 p2 p3 : Pos} (h : DE X e en S fun d S1 => ∃ l, d = .lst l ∧ Q (.lst l.reverse) S1) : DE X (.Subscript e (.Slice none none (some (.UnaryOp .USub (.Constant (.int 1) k p1) p2)) p3) pos) en S Q := ⟨fun σ H Hd st re => by
  refine wE_of (pe_revL peW) ?_
  refine wE_mono (h σ H Hd st re) fun v H1 ⟨d, S1, Hd1, e1, st1, r1, l, e2, q⟩ => ?_
  subst e2
  obtain ⟨a, xs, f1, f2, f3⟩ := r1
  refine ⟨a, xs, f1, .of (st1.sub _ _ f2), fun p hp => .up e1 (new_lst st1 (l := l.reverse) (xs := xs.reverse) ?_ hp q)⟩
  clear q f2 f1 a hp
  revert xs
  induction l with
  | nil =>
    intro xs r
    have r : xs = [] := r
    subst r
    rfl
  | cons d l ih =>
    intro xs r
    obtain ⟨x, ys, rfl, r1, r2⟩ := r
    rw [List.reverse_cons, List.reverse_cons]
    exact (ih ys r2).append (show RpL X.K Hd1 [d] [x] from ⟨x, [], rfl, r1, rfl⟩)⟩
/-- a changed list is changed no more: within an expression -/
theorem de_frz (h : DE X e en S fun d S1 => ∃ p l S2, d = .raw (.ref p) ∧ S1 = (p, l) :: S2 ∧ Q (.lst l) S2) : DE X e en S Q := ⟨fun σ H Hd st re => by
  refine wE_mono (h σ H Hd st re) fun v H1 ⟨d, S1, Hd1, e1, st1, r1, p, l, S2, f1, f2, q⟩ => ?_
  subst f1 f2
  have r1 : v = V.ref p := r1
  subst r1
  obtain ⟨xs, r, e2, st2⟩ := st1.frozen
  exact ⟨.lst l, S2, _, e1.trans e2, st2, ⟨p, xs, rfl, upd_same, r.mono e2⟩, q⟩⟩
end
end DL
namespace DL
open PySem PySem.Spec PyProof.Rows L2
/-! ### sorted over data -/
theorem each_zip {α β : Type} {R : α → β → Prop} : ∀ {as : List α} {bs : List β}, PySem.W.EachIs R as bs → ∀ p ∈ as.zip bs, R p.1 p.2
  | [], _, _, p, h => by simp at h
  | _ :: _, [], _, p, h => by simp at h
  | a :: as, b :: bs, .cons r e, p, h => by
    rw [List.zip_cons_cons] at h
    rcases List.mem_cons.mp h with z | z
    · rw [z]; exact r
    · exact each_zip e p z
theorem each_self {α β : Type} : ∀ {as : List α} {bs : List β}, as.length = bs.length → PySem.W.EachIs (fun a b => (a, b) ∈ as.zip bs) as bs
  | [], [], _ => .nil
  | [], _ :: _, h => by cases h
  | _ :: _, [], h => by cases h
  | a :: as, b :: bs, h => by
    refine .cons (by rw [List.zip_cons_cons]; exact List.mem_cons_self) ?_
    have := each_self (as := as) (bs := bs) (by simpa using h)
    exact this.mono fun x y z => by rw [List.zip_cons_cons]; exact List.mem_cons_of_mem _ z
theorem each_reads {h : Heap} {β : Type} {enc : β → PyData} : ∀ {bs : List β} {vs : List Value} {as : List Addr}, ReadsAll h vs (bs.map enc) as → PySem.W.EachIs (fun v b => ∃ as, Reads h v (enc b) as) vs bs
  | [], vs, as, r => by cases r; exact .nil
  | b :: bs, vs, as, r => by
    cases r with
    | cons r1 r2 => exact .cons ⟨_, r1⟩ (each_reads r2)
def rSrtD (K : PySem.W.Frag) : List V → Hp → VK → Prop := fun vs H Q => ∃ (β : Type) (enc : β → PyData) (bs : List β) (a : Addr) (xs : List V), vs = [.ref a] ∧ SqL K H a xs ∧ DpAll K H xs (bs.map enc) ∧ (∀ x ∈ xs, ∃ t, x = V.ref t) ∧ PySem.W.AllAlike (bs.map enc) ∧ PySem.W.Sortable (bs.map enc) ∧
  (∀ b ∈ bs, (enc b).depth ≤ 20) ∧ bs.length ≤ sizeLine ∧ ∀ ys p, H p = none → (∀ ρ : V → β → Prop, PySem.W.EachIs ρ xs bs → PySem.W.EachIs ρ ys (bs.mergeSort (PySem.W.dataLe false enc))) → Q (.ref p) (upd H p (.lst ys))
theorem each_map_l {α γ β : Type} {f : α → γ} {R : γ → β → Prop} : ∀ {as : List α} {bs : List β}, PySem.W.EachIs (fun a b => R (f a) b) as bs → PySem.W.EachIs R (as.map f) bs
  | _, _, .nil => .nil
  | _, _, .cons r e => .cons r (each_map_l e)
theorem cr_sortD {X : Cx} (hu : X.A.units + 65 < cLine) : CallR X (.builtin "sorted") (rSrtD X.K) := by
  intro pins s σ H vs us Q I r h
  obtain ⟨β, enc, bs, a, xs, rfl, hs, hd, hx, hal, hso, hdp, hln, q⟩ := h
  obtain ⟨its, rv, hl, hz⟩ := I.list hs
  obtain ⟨u, rfl, ru⟩ := rv1 r
  obtain rfl : u = Value.ref a := ru
  obtain ⟨e1, e2⟩ := refs_back rv hx
  obtain ⟨as, rr⟩ := Dp.readsAll I (bs.map enc) xs its hd rv
  have er := each_reads rr
  have hlen := er.length
  refine PySem.W.sorted_data (R := fun u b => (u, b) ∈ its.zip bs) (vs := its) hl.isList (each_self hlen) er hal hso hln (fun b hb => by have := hdp b hb; omega) fun out ho hE => ?_
  have hin : ∀ u ∈ out, u ∈ its := fun u hu => by
    obtain ⟨i, hi, e⟩ := List.getElem_of_mem hu
    have hl2 := hE.length
    have := each_zip hE (out[i], (bs.mergeSort (PySem.W.dataLe false enc))[i]'(by omega)) (by
      rw [List.mem_iff_getElem]
      exact ⟨i, by rw [List.length_zip]; omega, by rw [List.getElem_zip]⟩)
    rw [e] at this
    exact (List.of_mem_zip this).1
  have h3 : ∀ u ∈ out, ∃ a, u = Value.ref a := fun u hu => e2 u (hin u hu)
  obtain ⟨n, hn⟩ := sortedAll_at s.heap its (List.toArray out)
  refine ⟨.ref (s.heap.objs.size + 1), upd H (s.heap.objs.size + 1) (.lst (out.map backV)), I.laid (t' := s.toks) (fun b o hb => sortedAll_old hb) (Nat.le_succ _) ⟨?_, out, n, vals_back h3, hn⟩, rfl, q _ _ (I.hok.fresh (Nat.le_succ _)) fun ρ hρ => ?_⟩
  · rw [List.length_map, ho]
    exact hln
  · refine each_map_l (hE.mono fun u b hub => ?_)
    rw [e1] at hρ
    have := each_zip hρ (backV u, b) (by
      rw [List.zip_map_left]
      exact List.mem_map.mpr ⟨(u, b), hub, rfl⟩)
    exact this
where
  rv1 {v : V} {us : List Value} (r : Vals [v] us) : ∃ u, us = [u] ∧ RelV v u := by
    cases r with
    | cons a b => cases b; exact ⟨_, rfl, a⟩
/-- pairs of ints -/
def pr2 (t : Int × Int) : D := .tup [.int t.1, .int t.2]
def le2 (p q : Int × Int) : Bool := decide (p.1 < q.1 ∨ (p.1 = q.1 ∧ p.2 ≤ q.2))
theorem rpL_each {K : PySem.W.Frag} {H : Hp} {β : Type} {dd : β → D} : ∀ {bs : List β} {xs : List V}, RpL K H (bs.map dd) xs → PySem.W.EachIs (fun x b => Rp K H (dd b) x) xs bs
  | [], _, h => by
    have h : _ = [] := h
    subst h
    exact .nil
  | b :: bs, _, h => by
    obtain ⟨x, xs, rfl, r, h2⟩ := h
    exact .cons r (rpL_each h2)
theorem each_rpL {K : PySem.W.Frag} {H : Hp} {β : Type} {dd : β → D} : ∀ {bs : List β} {xs : List V}, PySem.W.EachIs (fun x b => Rp K H (dd b) x) xs bs → RpL K H (bs.map dd) xs
  | _, _, .nil => rfl
  | _, _, .cons r e => ⟨_, _, rfl, r, each_rpL e⟩
theorem toPyL_map {β : Type} (dd : β → D) : ∀ bs : List β, toPyL (bs.map dd) = bs.map fun b => toPy (dd b)
  | [] => rfl
  | b :: bs => by
    show toPy (dd b) :: toPyL (bs.map dd) = _
    rw [toPyL_map dd bs] <;> rfl
theorem drc_sortD {K : PySem.W.Frag} {S : Sto} {Q : D → Sto → Prop} {β : Type} (dd : β → D) (L : List β) (hf : ∀ b, flatOk 8 (dd b) = true) (ht : ∀ b, ∃ l, dd b = .tup l) (hal : PySem.W.AllAlike (L.map fun b => toPy (dd b))) (hso : PySem.W.Sortable (L.map fun b => toPy (dd b))) (hln : L.length ≤ 100000)
    (q : Q (.lst ((L.mergeSort (PySem.W.dataLe false fun b => toPy (dd b))).map dd)) S) : DRC K (rSrtD K) [.lst (L.map dd)] S Q := fun H Hd vs Qv st rr k => by
  obtain ⟨v, e1, a, xs, f1, f2, f3⟩ := one_rp rr
  subst e1 f1
  have hfl : flatOkL 8 (L.map dd) = true := flatOkL_mem fun d hd => by
    obtain ⟨b, _, rfl⟩ := List.mem_map.mp hd
    exact hf b
  have hx := rpL_each f3
  refine ⟨β, fun b => toPy (dd b), L, a, xs, rfl, .of (st.sub _ _ f2), by rw [← toPyL_map]; exact dpAll_of 8 _ _ hfl (RpL.mono st.sub _ _ f3), fun x hxx => ?_, hal, hso, fun b _ => Nat.le_trans (lay_of 8 _ (hf b)).2 (by decide), sz5 hln, fun ys p hp hE => ?_⟩
  · obtain ⟨i, hi, e⟩ := List.getElem_of_mem hxx
    have hl := hx.length
    have := each_zip hx (xs[i], L[i]'(by omega)) (by
      rw [List.mem_iff_getElem]
      exact ⟨i, by rw [List.length_zip]; omega, by rw [List.getElem_zip]⟩)
    rw [e] at this
    obtain ⟨l, el⟩ := ht (L[i]'(by omega))
    have this : Rp K Hd (dd (L[i]'(by omega))) x := this
    rw [el] at this
    obtain ⟨t, _, et, _⟩ := this
    exact ⟨t, et⟩
  · exact k _ _ (new_lst st (each_rpL (hE _ hx)) hp q)
theorem drc_sort2 {K : PySem.W.Frag} {S : Sto} {Q : D → Sto → Prop} (L : List (Int × Int)) (hln : L.length ≤ 100000) (q : Q (.lst ((L.mergeSort le2).map pr2)) S) : DRC K (rSrtD K) [.lst (L.map pr2)] S Q := by
  have e : PySem.W.dataLe false (fun b : Int × Int => toPy (pr2 b)) = le2 := by
    have := PySem.W.dataLe_ii (fun b : Int × Int => b.1) (fun b => b.2)
    exact this
  refine drc_sortD pr2 L (fun _ => rfl) (fun _ => ⟨_, rfl⟩) (fun d hd d' hd' => ?_) (.inl fun d hd => ?_) hln (by rw [e]; exact q)
  · obtain ⟨b, _, rfl⟩ := List.mem_map.mp hd
    obtain ⟨b', _, rfl⟩ := List.mem_map.mp hd'
    rfl
  · obtain ⟨b, _, rfl⟩ := List.mem_map.mp hd
    exact ⟨_, _, rfl⟩
theorem le2_trans (a b c : Int × Int) (h1 : le2 a b = true) (h2 : le2 b c = true) : le2 a c = true := by
  have h1 := of_decide_eq_true h1
  have h2 := of_decide_eq_true h2
  exact decide_eq_true (by omega)
theorem le2_total (a b : Int × Int) : (le2 a b || le2 b a) = true := by
  rw [Bool.or_eq_true]
  unfold le2
  rw [decide_eq_true_iff, decide_eq_true_iff]
  omega
/-- a list that ascends is its own sorted list -/
theorem sort2_self {L : List (Int × Int)} (h : L.Pairwise fun a b => le2 a b = true) : L.mergeSort le2 = L := List.mergeSort_of_pairwise h
end DL
namespace DL
open PySem PySem.Spec PyProof.Rows L2
/-! ### constants of the module -/
section
variable {X : Cx} {en : DEnv} {S : Sto} {Q : D → Sto → Prop} {pos : Pos}
theorem de_globI2 {x : Str} {i : Int} (h : ∃ u, X.mg x = some (.int i u)) (q : Q (.int i) S) (hg : Gl X x := by rfl) (hd : (x == ("__debug__" : Str)) = false := by decide) : DE X (.Name x pos) en S Q := by
  obtain ⟨u, hm⟩ := h
  exact de_globI hm q hg hd
theorem de_globT {x : Str} {d : D} (h : ∃ a, X.mg x = some (.ref a) ∧ Rp X.K (fun _ => none) d (.ref a)) (q : Q d S) (hg : Gl X x := by rfl) (hd : (x == ("__debug__" : Str)) = false := by decide) : DE X (.Name x pos) en S Q := ⟨fun σ H Hd st re => by
  obtain ⟨a, hm, r⟩ := h
  exact wE_of (pe_glob (v := .ref a) hg hm rfl hd) (.here (d := d) st (Rp.mono (fun _ _ z => by cases z) d _ r) q)⟩
end
section
variable {K : PySem.W.Frag} {H : Hp} {a : Addr} {od : Option Addr} {n : Nat} {sl : Array (Option Value)}
theorem rp_pairK {i j : Int} {t u : Tok} (l : K.lookup a = some ⟨.type "tuple", od, .seq #[.int i t, .int j u] n, sl⟩) : Rp K H (.tup [.int i, .int j]) (.ref a) :=
  ⟨a, [.int i, .int j], rfl, .inr ⟨_, #[.int i t, .int j u], n, l, rfl, rfl, (by show 2 ≤ sizeLine; decide), .cons ⟨t, rfl⟩ (.cons ⟨u, rfl⟩ .nil)⟩, ⟨_, _, rfl, rfl, _, _, rfl, rfl, rfl⟩⟩
theorem vals_refs : ∀ as : List Addr, Vals (as.map V.ref) (as.map Value.ref)
  | [] => .nil
  | a :: as => .cons rfl (vals_refs as)
theorem rp_tupsK {as : List Addr} {ds : List D} (l : K.lookup a = some ⟨.type "tuple", od, .seq (as.map Value.ref).toArray n, sl⟩) (hs : as.length ≤ 1000) (r : RpL K H ds (as.map V.ref)) : Rp K H (.tup ds) (.ref a) :=
  ⟨a, as.map V.ref, rfl, .inr ⟨_, (as.map Value.ref).toArray, n, l, rfl, rfl, by rw [List.size_toArray, List.length_map]; exact Nat.le_trans hs (by show 1000 ≤ sizeLine; decide), by simpa using vals_refs as⟩, r⟩
theorem rpl_cons {d : D} {ds : List D} {v : V} {vs : List V} (r : Rp K H d v) (k : RpL K H ds vs) : RpL K H (d :: ds) (v :: vs) := ⟨v, vs, rfl, r, k⟩
theorem rpl_nil : RpL K H [] [] := rfl
end
end DL
namespace DL
open PySem PySem.Spec PyProof.Rows L2
/-! ### comprehensions that give a list that may be changed -/
section
variable {X : Cx} {elt iter c : Expr} {en : DEnv} {S : Sto} {Q : D → Sto → Prop} {pos py : Pos} {y : Str} {scope : Scope}
variable {ifs : List Expr} {tt : TT}
/-- the comprehension's walk, whatever its tests -/
theorem lc_goO (i : Nat) (te : TE) {own : List Nat} (ho : own = [i]) (mT : ∀ (σ : L2.St) (H : Hp) (A B : Bool → Hp → Prop), tt σ H A → (∀ b H', A b H' → B b H') → tt σ H B) (mE : ∀ (σ : L2.St) (H : Hp) (A B : VK), te σ H A → (∀ v H', A v H' → B v H') → te σ H B)
    (h : DI X (.Name y py) iter en S fun ds S1 => ∃ (P : Nat → List D → Sto → Prop), P 0 [] S1 ∧
      (∀ k d acc S' p, ds[k]? = some d → P k acc S' → getS p S' = none → acc.length ≤ k → ∀ (σ : L2.St) (H Hd : Hp), St0 X.K ((p, acc) :: S') Hd H → RpE X.K Hd (en.set i (some d)) σ →
        tt σ H fun b H3 => if b = true then te σ H3 fun v H4 => ∃ d2 S4 Hd4, Same Hd Hd4 ∧ St0 X.K ((p, acc) :: S4) Hd4 H4 ∧ Rp X.K Hd4 d2 v ∧ P (k + 1) (acc ++ [d2]) S4 else ∃ S4 Hd4, Same Hd Hd4 ∧ St0 X.K ((p, acc) :: S4) Hd4 H3 ∧ P (k + 1) acc S4) ∧
      ds.length ≤ 100000 ∧ ∀ acc S' p, acc.length ≤ ds.length → P ds.length acc S' → getS p S' = none → Q (.raw (.ref p)) ((p, acc) :: S')) {σ : L2.St} {H Hd : Hp} (st : St0 X.K S Hd H) (re : RpE X.K Hd en σ) (Qv : VK) (kq : ∀ v H', QD X.K Hd Q v H' → Qv v H') : tLc (wI X (.Name y py) iter) (gName i) tt te own σ H Qv := by
  subst ho
  intro pins s I
  refine thn (DI.run h σ H Hd st re pins s I) fun v s1 h1 => thn h1 fun itv s2 h2 => ?_
  obtain ⟨it, fp, tn, J, H2, e, I2, T, st2, f2, ds, S1, Hd1, e1, s01, io, P, p0, turn, lim, fin⟩ := h2
  refine ⟨it, fp, tn, J, H2, e, I2, T, st2, f2, fun p hp => ?_⟩
  obtain ⟨fr, s02⟩ := s01.laidO (l := []) (xs := []) hp rfl
  refine ⟨fun k m H => m = ds.length - k ∧ k ≤ ds.length ∧ ∃ acc S' Hd', acc.length ≤ k ∧ Same Hd1 Hd' ∧ St0 X.K ((p, acc) :: S') Hd' H ∧ P k acc S', ⟨_, rfl, Nat.zero_le _, [], S1, Hd1, Nat.le_refl _, Same.refl _, s02, p0⟩, ?_⟩
  rintro k m H ⟨rfl, hk, acc, S', Hd', ka, k1, k2, k3⟩
  by_cases hlt : k < ds.length
  · obtain ⟨go, yl⟩ := io.go k1 k2 (List.getElem?_eq_getElem hlt)
    refine .inr ⟨go, fun H' => ∃ acc S' Hd', acc.length ≤ k + 1 ∧ Same Hd1 Hd' ∧ St0 X.K ((p, acc) :: S') Hd' H' ∧ P (k + 1) acc S', fun H' q => ⟨ds.length - (k + 1), by omega, rfl, hlt, q⟩, fun x H' y => ?_⟩
    obtain ⟨Hd2, y1, y2, y3⟩ := yl x H' y
    refine ⟨wipe_back, ?_⟩
    have reB := RpE.reset i (re.mono (e1.trans (k1.trans y1))) y3
    have go2 := turn k _ acc S' p (List.getElem?_eq_getElem hlt) k3 k2.own.2.1 ka _ H' Hd2 y2 reB
    have en1 : ∀ (H4 : Hp) (v : V) (d2 : D) (S4 : Sto) (Hd4 : Hp), Same Hd2 Hd4 → St0 X.K ((p, acc) :: S4) Hd4 H4 → Rp X.K Hd4 d2 v → P (k + 1) (acc ++ [d2]) S4 →
        ∃ vs, H4 p = some (.lst vs) ∧ vs.length < sizeLine ∧ ∃ acc S' Hd', acc.length ≤ k + 1 ∧ Same Hd1 Hd' ∧ St0 X.K ((p, acc) :: S') Hd' (upd H4 p (.lst (vs ++ [v]))) ∧ P (k + 1) acc S' := by
      intro H4 v d2 S4 Hd4 z1 z2 z3 z4
      obtain ⟨_, xs, hx, rx⟩ := z2.own.at (l := acc) getS_hd
      refine ⟨xs, hx, by rw [rx.length]; exact Nat.lt_of_le_of_lt (Nat.le_trans ka hk) (Nat.lt_of_le_of_lt lim (by decide)), acc ++ [d2], S4, Hd4, by rw [List.length_append, List.length_singleton]; omega, k1.trans (y1.trans z1), ?_, z4⟩
      have w := z2.written (l' := acc ++ [d2]) (ys := xs ++ [v]) getS_hd (rx.append (show RpL X.K Hd4 [d2] [v] from ⟨v, [], rfl, z3, rfl⟩))
      rw [setS_hd] at w
      exact w
    refine mT _ _ _ _ go2 fun b H3 q => ?_
    cases b with
    | true =>
      rw [if_pos rfl] at q ⊢
      exact mE _ _ _ _ q fun v H4 ⟨d2, S4, Hd4, z1, z2, z3, z4⟩ => en1 H4 v d2 S4 Hd4 z1 z2 z3 z4
    | false =>
      rw [if_neg Bool.false_ne_true] at q ⊢
      obtain ⟨S4, Hd4, z1, z2, z3⟩ := q
      exact ⟨acc, S4, Hd4, Nat.le_succ_of_le ka, k1.trans (y1.trans z1), z2, z3⟩
  · have e0 : k = ds.length := by omega
    subst e0
    exact .inl ⟨io.stop k1 k2, kq _ _ ⟨.raw (.ref p), (p, acc) :: S', _, e1.trans k1, k2, rfl, fin acc S' p ka k3 k2.own.2.1⟩⟩
/-- what a comprehension without a test is asked -/
def Lc0O (X : Cx) (scope : Scope) (i : Nat) (y : Str) (py : Pos) (elt iter : Expr) (en : DEnv) (S : Sto) (Q : D → Sto → Prop) : Prop := DI X (.Name y py) iter en S fun ds S1 => ∃ (P : Nat → List D → Sto → Prop), P 0 [] S1 ∧
  (∀ k d acc S' p, ds[k]? = some d → P k acc S' → getS p S' = none → acc.length ≤ k → Turn1 X scope elt (en.set i (some d)) S' p acc (P (k + 1))) ∧ ds.length ≤ 100000 ∧ ∀ acc S' p, acc.length ≤ ds.length → P ds.length acc S' → getS p S' = none → Q (.raw (.ref p)) ((p, acc) :: S')
/-- .. with a test -/
def Lc1O (X : Cx) (scope : Scope) (i : Nat) (y : Str) (py : Pos) (elt iter c : Expr) (en : DEnv) (S : Sto) (Q : D → Sto → Prop) : Prop := DI X (.Name y py) iter en S fun ds S1 => ∃ (P : Nat → List D → Sto → Prop), P 0 [] S1 ∧
  (∀ k d acc S' p, ds[k]? = some d → P k acc S' → getS p S' = none → acc.length ≤ k → ∀ s H C cl fp, DT (bX X scope s H C cl fp) c (en.set i (some d)) ((p, acc) :: S') fun b S2 => ∃ S3, S2 = (p, acc) :: S3 ∧ (b = true → Turn1 X scope elt (en.set i (some d)) S3 p acc (P (k + 1))) ∧ (b = false → P (k + 1) acc S3)) ∧
  ds.length ≤ 100000 ∧ ∀ acc S' p, acc.length ≤ ds.length → P ds.length acc S' → getS p S' = none → Q (.raw (.ref p)) ((p, acc) :: S')
theorem lc0_readO {i : Nat} (h : Lc0O X scope i y py elt iter en S Q) {σ : L2.St} {H Hd : Hp} (st : St0 X.K S Hd H) (re : RpE X.K Hd en σ) (Qv : VK) (kq : ∀ v H', QD X.K Hd Q v H' → Qv v H') : tLc (wI X (.Name y py) iter) (gName i) tYes (teB X scope elt) [i] σ H Qv := by
  refine lc_goO (tt := tYes) i _ rfl (fun σ H A B q k => k _ _ q) (fun σ H A B q k s0 H0 C cl fp => wE_mono (q s0 H0 C cl fp) k) ?_ st re Qv kq
  refine ⟨fun σ H Hd st re => ?_⟩
  intro pins s I
  refine thn (DI.run h σ H Hd st re pins s I) fun v s1 h1 => thn h1 fun itv s2 h2 => ?_
  obtain ⟨it, fp, tn, J, H2, e, I2, T, st2, f2, ds, S1, Hd1, e1, s01, io, P, p0, turn, lim, fin⟩ := h2
  refine ⟨it, fp, tn, J, H2, e, I2, T, st2, f2, ds, S1, Hd1, e1, s01, io, P, p0, fun k d acc S' p hk hP hp hl σ H Hd st re => ?_, lim, fin⟩
  show tYes σ H _
  unfold tYes
  simp only [↓reduceIte]
  intro s0 H0 C cl fp
  exact wE_mono (turn k d acc S' p hk hP hp hl s0 H0 C cl fp σ H Hd st re) fun v H4 ⟨d2, S2, Hd4, z1, z2, z3, S3, z4, z5⟩ => by
    subst z4
    exact ⟨d2, S3, Hd4, z1, z2, z3, z5⟩
theorem lc1_readO {i : Nat} (h : Lc1O X scope i y py elt iter c en S Q) {σ : L2.St} {H Hd : Hp} (st : St0 X.K S Hd H) (re : RpE X.K Hd en σ) (Qv : VK) (kq : ∀ v H', QD X.K Hd Q v H' → Qv v H') : tLc (wI X (.Name y py) iter) (gName i) (ttB X scope c) (teB X scope elt) [i] σ H Qv := by
  refine lc_goO i _ rfl (fun σ H A B q k s0 H0 C cl fp => wT_mono (q s0 H0 C cl fp) k) (fun σ H A B q k s0 H0 C cl fp => wE_mono (q s0 H0 C cl fp) k) ?_ st re Qv kq
  refine ⟨fun σ H Hd st re => ?_⟩
  intro pins s I
  refine thn (DI.run h σ H Hd st re pins s I) fun v s1 h1 => thn h1 fun itv s2 h2 => ?_
  obtain ⟨it, fp, tn, J, H2, e, I2, T, st2, f2, ds, S1, Hd1, e1, s01, io, P, p0, turn, lim, fin⟩ := h2
  refine ⟨it, fp, tn, J, H2, e, I2, T, st2, f2, ds, S1, Hd1, e1, s01, io, P, p0, fun k d acc S' p hk hP hp hl σ H Hd st re => ?_, lim, fin⟩
  intro s0 H0 C cl fp
  refine wT_mono (turn k d acc S' p hk hP hp hl s0 H0 C cl fp σ H Hd st re) fun b H3 ⟨S2, Hd3, e3, st3, S3, z, q1, q2⟩ => ?_
  subst z
  cases b with
  | true =>
    rw [if_pos rfl]
    intro s5 H5 C5 cl5 fp5
    exact wE_mono (q1 rfl s5 H5 C5 cl5 fp5 σ H3 Hd3 st3 (re.mono e3)) fun v H4 ⟨d2, S5, Hd4, y1, y2, y3, S6, y4, y5⟩ => by
      subst y4
      exact ⟨d2, S6, Hd4, e3.trans y1, y2, y3, y5⟩
  | false =>
    rw [if_neg Bool.false_ne_true]
    exact ⟨S3, Hd3, e3, st3, q2 rfl⟩
/-- [elt for y in iter] -/
theorem de_lcO (i : Nat) (hc : X.calm = true) (hN : X.N.Nodup) (ok : BlkOk X.N X.env.scope scope [(y, i)]) (h : Lc0O X scope i y py elt iter en S Q)
    (hg : ∀ (s : Shared) (H : Hp) (C : Addr) (cl : List (Str × Addr)) (fp : List Addr), PG (bX X scope s H C cl fp) (.Name y py) (gName i))
    (hs : ∀ x, foldedSetIterable iter X.env x = pure x := by first | exact fset rfl | (intro _; rfl)) : DE X (.ListComp elt [⟨.Name y py, iter, [], 0⟩] scope pos) en S Q := ⟨fun σ H Hd st re =>
  wE_of (pe_lc hc hN piW ok hg (fun _ _ _ _ _ => pts_nil) (pe_blk (te := teB X scope elt) rfl) hs) (lc0_readO h st re _ fun _ _ z => z)⟩
/-- [elt for y in iter if c] -/
theorem de_lcIfO (i : Nat) (hc : X.calm = true) (hN : X.N.Nodup) (ok : BlkOk X.N X.env.scope scope [(y, i)]) (h : Lc1O X scope i y py elt iter c en S Q)
    (hg : ∀ (s : Shared) (H : Hp) (C : Addr) (cl : List (Str × Addr)) (fp : List Addr), PG (bX X scope s H C cl fp) (.Name y py) (gName i))
    (hs : ∀ x, foldedSetIterable iter X.env x = pure x := by first | exact fset rfl | (intro _; rfl)) : DE X (.ListComp elt [⟨.Name y py, iter, [c], 0⟩] scope pos) en S Q := ⟨fun σ H Hd st re =>
  wE_of (pe_lc hc hN piW ok hg (fun s H C cl fp => pts_one (pt_blk (tt := ttB X scope c) rfl s H C cl fp)) (pe_blk (te := teB X scope elt) rfl) hs) (lc1_readO h st re _ fun _ _ z => z)⟩
end
section
variable {X : Cx} {elt iter c tg : Expr} {en : DEnv} {S : Sto} {Q : D → Sto → Prop} {pos : Pos} {scope : Scope} {ifs : List Expr} {tt : TT}
theorem lc_goTO (is : List Nat) (te : TE) {n : Nat} (hn : is.length = n) (mT : ∀ (σ : L2.St) (H : Hp) (A B : Bool → Hp → Prop), tt σ H A → (∀ b H', A b H' → B b H') → tt σ H B) (mE : ∀ (σ : L2.St) (H : Hp) (A B : VK), te σ H A → (∀ v H', A v H' → B v H') → te σ H B)
    (h : DI X tg iter en S fun ds S1 => ∃ (P : Nat → List D → Sto → Prop), P 0 [] S1 ∧
      (∀ k d acc S' p, ds[k]? = some d → P k acc S' → getS p S' = none → acc.length ≤ k → ∃ vals, d = .tup vals ∧ vals.length = n ∧ ∀ (σ : L2.St) (H Hd : Hp), St0 X.K ((p, acc) :: S') Hd H → RpE X.K Hd (setV is vals (wipeE is en)) σ →
        tt σ H fun b H3 => if b = true then te σ H3 fun v H4 => ∃ d2 S4 Hd4, Same Hd Hd4 ∧ St0 X.K ((p, acc) :: S4) Hd4 H4 ∧ Rp X.K Hd4 d2 v ∧ P (k + 1) (acc ++ [d2]) S4 else ∃ S4 Hd4, Same Hd Hd4 ∧ St0 X.K ((p, acc) :: S4) Hd4 H3 ∧ P (k + 1) acc S4) ∧
      ds.length ≤ 100000 ∧ ∀ acc S' p, acc.length ≤ ds.length → P ds.length acc S' → getS p S' = none → Q (.raw (.ref p)) ((p, acc) :: S')) {σ : L2.St} {H Hd : Hp} (st : St0 X.K S Hd H) (re : RpE X.K Hd en σ) (Qv : VK) (kq : ∀ v H', QD X.K Hd Q v H' → Qv v H') : tLc (wI X tg iter) (gTup X.K n (gNames is)) tt te is σ H Qv := by
  intro pins s I
  refine thn (h σ H Hd st re pins s I) fun v s1 h1 => thn h1 fun itv s2 h2 => ?_
  obtain ⟨it, fp, tn, J, H2, e, I2, T, st2, f2, ds, S1, Hd1, e1, s01, io, P, p0, turn, lim, fin⟩ := h2
  refine ⟨it, fp, tn, J, H2, e, I2, T, st2, f2, fun p hp => ?_⟩
  obtain ⟨fr, s02⟩ := s01.laidO (l := []) (xs := []) hp rfl
  refine ⟨fun k m H => m = ds.length - k ∧ k ≤ ds.length ∧ ∃ acc S' Hd', acc.length ≤ k ∧ Same Hd1 Hd' ∧ St0 X.K ((p, acc) :: S') Hd' H ∧ P k acc S', ⟨_, rfl, Nat.zero_le _, [], S1, Hd1, Nat.le_refl _, Same.refl _, s02, p0⟩, ?_⟩
  rintro k m H ⟨rfl, hk, acc, S', Hd', ka, k1, k2, k3⟩
  by_cases hlt : k < ds.length
  · obtain ⟨go, yl⟩ := io.go k1 k2 (List.getElem?_eq_getElem hlt)
    refine .inr ⟨go, fun H' => ∃ acc S' Hd', acc.length ≤ k + 1 ∧ Same Hd1 Hd' ∧ St0 X.K ((p, acc) :: S') Hd' H' ∧ P (k + 1) acc S', fun H' q => ⟨ds.length - (k + 1), by omega, rfl, hlt, q⟩, fun x H' y => ?_⟩
    obtain ⟨Hd2, y1, y2, y3⟩ := yl x H' y
    obtain ⟨vals, ed, el, go2⟩ := turn k _ acc S' p (List.getElem?_eq_getElem hlt) k3 k2.own.2.1 ka
    rw [ed] at y3
    obtain ⟨a, xs, f1, f2', f3⟩ := y3
    have hxl : xs.length = n := by rw [f3.length]; exact el
    refine ⟨a, xs, f1, same_t y2.sub f2', hxl, ?_⟩
    refine gNames_go (is := is) (by rw [hxl, hn]) ?_
    refine ⟨by rw [wipe_setW fun j hj => hj, wipe_wipe], ?_⟩
    have reB := RpE.setV (is := is) ((re.mono (e1.trans (k1.trans y1))).wipe is) f3
    have go2 := go2 _ H' Hd2 y2 reB
    have en1 : ∀ (H4 : Hp) (v : V) (d2 : D) (S4 : Sto) (Hd4 : Hp), Same Hd2 Hd4 → St0 X.K ((p, acc) :: S4) Hd4 H4 → Rp X.K Hd4 d2 v → P (k + 1) (acc ++ [d2]) S4 →
        ∃ vs, H4 p = some (.lst vs) ∧ vs.length < sizeLine ∧ ∃ acc S' Hd', acc.length ≤ k + 1 ∧ Same Hd1 Hd' ∧ St0 X.K ((p, acc) :: S') Hd' (upd H4 p (.lst (vs ++ [v]))) ∧ P (k + 1) acc S' := by
      intro H4 v d2 S4 Hd4 z1 z2 z3 z4
      obtain ⟨_, xs, hx, rx⟩ := z2.own.at (l := acc) getS_hd
      refine ⟨xs, hx, by rw [rx.length]; exact Nat.lt_of_le_of_lt (Nat.le_trans ka hk) (Nat.lt_of_le_of_lt lim (by decide)), acc ++ [d2], S4, Hd4, by rw [List.length_append, List.length_singleton]; omega, k1.trans (y1.trans z1), ?_, z4⟩
      have w := z2.written (l' := acc ++ [d2]) (ys := xs ++ [v]) getS_hd (rx.append (show RpL X.K Hd4 [d2] [v] from ⟨v, [], rfl, z3, rfl⟩))
      rw [setS_hd] at w
      exact w
    refine mT _ _ _ _ go2 fun b H3 q => ?_
    cases b with
    | true =>
      rw [if_pos rfl] at q ⊢
      exact mE _ _ _ _ q fun v H4 ⟨d2, S4, Hd4, z1, z2, z3, z4⟩ => en1 H4 v d2 S4 Hd4 z1 z2 z3 z4
    | false =>
      rw [if_neg Bool.false_ne_true] at q ⊢
      obtain ⟨S4, Hd4, z1, z2, z3⟩ := q
      exact ⟨acc, S4, Hd4, Nat.le_succ_of_le ka, k1.trans (y1.trans z1), z2, z3⟩
  · have e0 : k = ds.length := by omega
    subst e0
    exact .inl ⟨io.stop k1 k2, kq _ _ ⟨.raw (.ref p), (p, acc) :: S', _, e1.trans k1, k2, rfl, fin acc S' p ka k3 k2.own.2.1⟩⟩
def Lc0TO (X : Cx) (scope : Scope) (is : List Nat) (n : Nat) (tg : Expr) (elt iter : Expr) (en : DEnv) (S : Sto) (Q : D → Sto → Prop) : Prop := DI X tg iter en S fun ds S1 => ∃ (P : Nat → List D → Sto → Prop), P 0 [] S1 ∧
  (∀ k d acc S' p, ds[k]? = some d → P k acc S' → getS p S' = none → acc.length ≤ k → ∃ vals, d = .tup vals ∧ vals.length = n ∧ ∃ en', setV is vals (wipeE is en) = en' ∧ Turn1 X scope elt en' S' p acc (P (k + 1))) ∧ ds.length ≤ 100000 ∧ ∀ acc S' p, acc.length ≤ ds.length → P ds.length acc S' → getS p S' = none → Q (.raw (.ref p)) ((p, acc) :: S')
def Lc1TO (X : Cx) (scope : Scope) (is : List Nat) (n : Nat) (tg : Expr) (elt iter c : Expr) (en : DEnv) (S : Sto) (Q : D → Sto → Prop) : Prop := DI X tg iter en S fun ds S1 => ∃ (P : Nat → List D → Sto → Prop), P 0 [] S1 ∧
  (∀ k d acc S' p, ds[k]? = some d → P k acc S' → getS p S' = none → acc.length ≤ k → ∃ vals, d = .tup vals ∧ vals.length = n ∧ ∃ en', setV is vals (wipeE is en) = en' ∧
    ∀ s H C cl fp, DT (bX X scope s H C cl fp) c en' ((p, acc) :: S') fun b S2 => ∃ S3, S2 = (p, acc) :: S3 ∧ (b = true → Turn1 X scope elt en' S3 p acc (P (k + 1))) ∧ (b = false → P (k + 1) acc S3)) ∧
  ds.length ≤ 100000 ∧ ∀ acc S' p, acc.length ≤ ds.length → P ds.length acc S' → getS p S' = none → Q (.raw (.ref p)) ((p, acc) :: S')
theorem lc0T_readO {is : List Nat} {n : Nat} (hn : is.length = n) (h : Lc0TO X scope is n tg elt iter en S Q) {σ : L2.St} {H Hd : Hp} (st : St0 X.K S Hd H) (re : RpE X.K Hd en σ) (Qv : VK) (kq : ∀ v H', QD X.K Hd Q v H' → Qv v H') : tLc (wI X tg iter) (gTup X.K n (gNames is)) tYes (teB X scope elt) is σ H Qv := by
  refine lc_goTO (tt := tYes) is _ hn (fun σ H A B q k => k _ _ q) (fun σ H A B q k s0 H0 C cl fp => wE_mono (q s0 H0 C cl fp) k) ?_ st re Qv kq
  refine ⟨fun σ H Hd st re => ?_⟩
  intro pins s I
  refine thn (DI.run h σ H Hd st re pins s I) fun v s1 h1 => thn h1 fun itv s2 h2 => ?_
  obtain ⟨it, fp, tn, J, H2, e, I2, T, st2, f2, ds, S1, Hd1, e1, s01, io, P, p0, turn, lim, fin⟩ := h2
  refine ⟨it, fp, tn, J, H2, e, I2, T, st2, f2, ds, S1, Hd1, e1, s01, io, P, p0, fun k d acc S' p hk hP hp hl => ?_, lim, fin⟩
  obtain ⟨vals, ed, el, en', ee, t1⟩ := turn k d acc S' p hk hP hp hl
  refine ⟨vals, ed, el, fun σ H Hd st re => ?_⟩
  rw [ee] at re
  show tYes σ H _
  unfold tYes
  simp only [↓reduceIte]
  intro s0 H0 C cl fp
  exact wE_mono (t1 s0 H0 C cl fp σ H Hd st re) fun v H4 ⟨d2, S2, Hd4, z1, z2, z3, S3, z4, z5⟩ => by
    subst z4
    exact ⟨d2, S3, Hd4, z1, z2, z3, z5⟩
theorem lc1T_readO {is : List Nat} {n : Nat} (hn : is.length = n) (h : Lc1TO X scope is n tg elt iter c en S Q) {σ : L2.St} {H Hd : Hp} (st : St0 X.K S Hd H) (re : RpE X.K Hd en σ) (Qv : VK) (kq : ∀ v H', QD X.K Hd Q v H' → Qv v H') : tLc (wI X tg iter) (gTup X.K n (gNames is)) (ttB X scope c) (teB X scope elt) is σ H Qv := by
  refine lc_goTO is _ hn (fun σ H A B q k s0 H0 C cl fp => wT_mono (q s0 H0 C cl fp) k) (fun σ H A B q k s0 H0 C cl fp => wE_mono (q s0 H0 C cl fp) k) ?_ st re Qv kq
  refine ⟨fun σ H Hd st re => ?_⟩
  intro pins s I
  refine thn (DI.run h σ H Hd st re pins s I) fun v s1 h1 => thn h1 fun itv s2 h2 => ?_
  obtain ⟨it, fp, tn, J, H2, e, I2, T, st2, f2, ds, S1, Hd1, e1, s01, io, P, p0, turn, lim, fin⟩ := h2
  refine ⟨it, fp, tn, J, H2, e, I2, T, st2, f2, ds, S1, Hd1, e1, s01, io, P, p0, fun k d acc S' p hk hP hp hl => ?_, lim, fin⟩
  obtain ⟨vals, ed, el, en', ee, t1⟩ := turn k d acc S' p hk hP hp hl
  refine ⟨vals, ed, el, fun σ H Hd st re => ?_⟩
  rw [ee] at re
  intro s0 H0 C cl fp
  refine wT_mono (t1 s0 H0 C cl fp σ H Hd st re) fun b H3 ⟨S2, Hd3, e3, st3, S3, z, q1, q2⟩ => ?_
  subst z
  cases b with
  | true =>
    rw [if_pos rfl]
    intro s5 H5 C5 cl5 fp5
    exact wE_mono (q1 rfl s5 H5 C5 cl5 fp5 σ H3 Hd3 st3 (re.mono e3)) fun v H4 ⟨d2, S5, Hd4, y1, y2, y3, S6, y4, y5⟩ => by
      subst y4
      exact ⟨d2, S6, Hd4, e3.trans y1, y2, y3, y5⟩
  | false =>
    rw [if_neg Bool.false_ne_true]
    exact ⟨S3, Hd3, e3, st3, q2 rfl⟩
variable {own : List (Str × Nat)} {n : Nat}
/-- [elt for a, b in iter] -/
theorem de_lcTO (is : List Nat) (hc : X.calm = true) (hN : X.N.Nodup) (ok : BlkOk X.N X.env.scope scope own) (ho : own.map (·.2) = is) (hn : is.length = n) (h : Lc0TO X scope is n tg elt iter en S Q)
    (hg : ∀ (s : Shared) (H : Hp) (C : Addr) (cl : List (Str × Addr)) (fp : List Addr), PG (bX X scope s H C cl fp) tg (gTup X.K n (gNames is)))
    (hs : ∀ x, foldedSetIterable iter X.env x = pure x := by first | exact fset rfl | (intro _; rfl)) : DE X (.ListComp elt [⟨tg, iter, [], 0⟩] scope pos) en S Q := ⟨fun σ H Hd st re => by
  subst ho
  exact wE_of (pe_lc hc hN piW ok hg (fun _ _ _ _ _ => pts_nil) (pe_blk (te := teB X scope elt) rfl) hs) (lc0T_readO hn h st re _ fun _ _ z => z)⟩
theorem de_lcTIfO (is : List Nat) (hc : X.calm = true) (hN : X.N.Nodup) (ok : BlkOk X.N X.env.scope scope own) (ho : own.map (·.2) = is) (hn : is.length = n) (h : Lc1TO X scope is n tg elt iter c en S Q)
    (hg : ∀ (s : Shared) (H : Hp) (C : Addr) (cl : List (Str × Addr)) (fp : List Addr), PG (bX X scope s H C cl fp) tg (gTup X.K n (gNames is)))
    (hs : ∀ x, foldedSetIterable iter X.env x = pure x := by first | exact fset rfl | (intro _; rfl)) : DE X (.ListComp elt [⟨tg, iter, [c], 0⟩] scope pos) en S Q := ⟨fun σ H Hd st re => by
  subst ho
  exact wE_of (pe_lc hc hN piW ok hg (fun s H C cl fp => pts_one (pt_blk (tt := ttB X scope c) rfl s H C cl fp)) (pe_blk (te := teB X scope elt) rfl) hs) (lc1T_readO hn h st re _ fun _ _ z => z)⟩
end

/-! ### data with changed lists in it, as it stands -/
def seeR (o : Option (List D)) (v : V) : D := match o with
  | some l => .lst l
  | none => .raw v
mutual
def see (S : Sto) : D → D
  | .tup l => .tup (seeL S l)
  | .lst l => .lst (seeL S l)
  | .raw (.ref p) => seeR (getS p S) (.ref p)
  | d => d
def seeL (S : Sto) : List D → List D
  | [] => []
  | d :: ds => see S d :: seeL S ds
end
mutual
theorem see_rp {K : PySem.W.Frag} {S : Sto} {Hd H : Hp} (st : St0 K S Hd H) : ∀ (d : D) (v : V), Rp K Hd d v → Rp K H (see S d) v
  | .non, v, r => r
  | .bl _, v, r => r
  | .int _, v, r => r
  | .str _, v, r => r
  | .tup l, v, r => by
    obtain ⟨a, xs, e, h1, h2⟩ := r
    exact ⟨a, xs, e, same_t st.sub h1, seeL_rp st l xs h2⟩
  | .lst l, v, r => by
    obtain ⟨a, xs, e, h1, h2⟩ := r
    exact ⟨a, xs, e, st.sub _ _ h1, seeL_rp st l xs h2⟩
  | .scr l, v, r => by
    obtain ⟨a, e, h1⟩ := r
    exact ⟨a, e, same_l st.sub h1⟩
  | .ext P, v, r => Rp.mono st.sub (.ext P) v r
  | .raw u, v, r => by
    have r : v = u := r
    subst r
    cases v with
    | ref p =>
      show Rp K H (seeR (getS p S) (.ref p)) (.ref p)
      cases e : getS p S with
      | none => exact rfl
      | some l =>
        obtain ⟨_, xs, f2, f3⟩ := st.own.at e
        exact ⟨p, xs, rfl, f2, f3.mono st.sub⟩
    | _ => exact rfl
theorem seeL_rp {K : PySem.W.Frag} {S : Sto} {Hd H : Hp} (st : St0 K S Hd H) : ∀ (l : List D) (vs : List V), RpL K Hd l vs → RpL K H (seeL S l) vs
  | [], vs, r => r
  | d :: ds, vs, r => by
    obtain ⟨x, xs, e, h1, h2⟩ := r
    exact ⟨x, xs, e, see_rp st d x h1, seeL_rp st ds xs h2⟩
end
mutual
theorem see_flat (S : Sto) : ∀ (n : Nat) (d : D), flatOk n d = true → see S d = d
  | _, .non, _ => rfl
  | _, .bl _, _ => rfl
  | _, .int _, _ => rfl
  | _, .str _, _ => rfl
  | 0, .tup l, h => by simp [flatOk] at h
  | n + 1, .tup l, h => by
    show D.tup (seeL S l) = _
    rw [seeL_flat S n l (by simpa [flatOk] using h)]
  | 0, .lst l, h => by simp [flatOk] at h
  | n + 1, .lst l, h => by
    show D.lst (seeL S l) = _
    rw [seeL_flat S n l (by simpa [flatOk] using h)]
  | _, .scr _, _ => rfl
  | 0, .raw _, h => by simp [flatOk] at h
  | _ + 1, .raw _, h => by simp [flatOk] at h
  | 0, .ext _, h => by simp [flatOk] at h
  | _ + 1, .ext _, h => by simp [flatOk] at h
theorem seeL_flat (S : Sto) : ∀ (n : Nat) (l : List D), flatOkL n l = true → seeL S l = l
  | _, [], _ => rfl
  | n, d :: ds, h => by
    rw [flatOkL, Bool.and_eq_true] at h
    show see S d :: seeL S ds = _
    rw [see_flat S n d h.1, seeL_flat S n ds h.2]
end
theorem drc_reprO {K : PySem.W.Frag} {d d' : D} {S : Sto} {Q : D → Sto → Prop} (e : see S d = d') (q : Q (.str (toPy d').shown) S) (h : flatOk 9 d' = true) (g : shoP d') (b : bigD d' ≤ 8000) (obj : (∃ l, d' = .lst l) ∨ ∃ l, d' = .tup l) : DRC K (rRepD K) [d] S Q := fun H Hd vs Qv st rr k => by
  obtain ⟨v, e1, rv⟩ := one_rp rr
  subst e1
  have rv' := see_rp st d v rv
  rw [e] at rv'
  obtain ⟨a, ea⟩ : ∃ a, v = V.ref a := by
    rcases obj with ⟨l, z⟩ | ⟨l, z⟩
    · subst z
      obtain ⟨a, xs, f1, _⟩ := rv'
      exact ⟨a, f1⟩
    · subst z
      obtain ⟨a, xs, f1, _⟩ := rv'
      exact ⟨a, f1⟩
  subst ea
  obtain ⟨s1, s2, s3⟩ := sho_of 9 d' h g
  exact ⟨a, toPy d', rfl, dp_of 9 d' _ h rv', s1, s3, Nat.le_trans (lay_of 9 d' h).2 (by decide), shown_fits h g b, k _ _ (.here (d := .str _) st rfl q)⟩
end DL
/-! An error class of the program whose __init__ says super().__init__(f"..{x}"), self.x = x: made, held, its field read. -/
namespace PySem
namespace LimX
open PySem.W PySem.Calls PyProof.Rows PySem.HandSPX
abbrev iA (fld : Str) (p1 p2 : Pos) : Arguments := { posonlyargs := [], args := [{ arg := "self", annotation := none, pos := p1 }, { arg := fld, annotation := none, pos := p2 }], vararg := none, kwonlyargs := [], kw_defaults := [], kwarg := none, defaults := [] }
abbrev iB (fld pre : Str) (q1 q2 q3 q4 q5 q6 q7 q8 q9 r1 r2 r3 r4 : Pos) : List Stmt :=
  [.Expr (.Call (.Attribute (.Call (.Name "super" q1) [] [] q2) "__init__" q3) [.JoinedStr [.Constant (.str pre) 0 q4, .FormattedValue (.Name fld q5) (-1) none q6] q7] [] q8) q9, .Assign [.Attribute (.Name "self" r1) fld r2] (.Name fld r3) r4]
abbrev iS (fld : Str) : Scope := { kind := .function, names := [(PySem.Str.ofString "self", .local), (fld, .local), (PySem.Str.ofString "__class__", .free), (PySem.Str.ofString "super", .globalImplicit)], isGenerator := false, isCoroutine := false, more := [] }
/-- what the written part says of the class x, at C -/
structure LimTxt (prog : Program) (K : Frag) (mg : Str → Option Value) (x qual fld pre : Str) (C fI : Addr) : Prop where
  gC : mg x = some (.ref C)
  cls : ∃ nm q N bs bm sn sub ab col dd k0 k1 k2 k3 k5, K.lookup C = some (excClassObj nm q C N bs bm true sn sub ab col dd k0 k1 k2 k3 k5 "ValueError.__new__") ∧ refsVE bm = true
  sa : findIn K (.ref C) "__setattr__" = some (some (.builtin "object.__setattr__"))
  ga : findIn K (.ref C) "__getattribute__" = some (some (.builtin "BaseException.__getattribute__"))
  gg : findIn K (.ref C) "__getattr__" = some none
  noN : findIn K (.ref C) fld = some none
  iC : findIn K (.ref C) "__init__" = some (some (.ref fI))
  tC : typeIn K (.ref fI) = some (.type "function")
  kC : keepIn K (.ref C) = true
  exC : subIn K (.ref C) (.type "BaseException") = some true
  veC : subIn K (.ref C) (.type "ValueError") = some true
  tyC : typeIn K (.ref C) = some (.type "type")
  hdC : hasDictIn K C = true
  sup : ks_superIn K C C "__init__" = some (some (.builtin "ValueError.__init__"))
  any : nsIn K cStatics "thirdparty.any" = some none
  sG : mg "super" = none
  top : (prog.main.scope.names.lookup ("super" : Str)).isSome = false
  fn : ∃ (oc : Value) (od : Option Addr) (kV doc pm : Value) (an : Option Addr) (ct : Value) (osl : Array (Option Value)) (cc cda : Addr) (p1 p2 q1 q2 q3 q4 q5 q6 q7 q8 q9 r1 r2 r3 r4 : Pos) (cl : Value) (cld : Option Addr) (csl : Array (Option Value)) (ccl : Value) (cdd : Option Addr) (ccs : Array (Option Value)) (vs : Array Value) (file : Str) (tf : Tok),
    K.lookup fI = some ⟨oc, od, .func (ksFn "__init__" qual (iA fld p1 p2) (iB fld pre q1 q2 q3 q4 q5 q6 q7 q8 q9 r1 r2 r3 r4) (iS fld) .none kV doc pm an (.ref cda) ct cc), osl⟩ ∧ codeIn K (.ref cda) qual = true ∧
    K.lookup cc = some ⟨cl, cld, .cell (some (.ref C)), csl⟩ ∧ K.lookup cda = some ⟨ccl, cdd, .fields vs, ccs⟩ ∧ vs[2]? = some (.str file tf) ∧ ((prog.main.file : Str) == file) = true ∧ (q3.endLine == q8.line) = true
/-- what __init__ leaves of a fresh exception at x -/
structure InitEnd (h h' : Heap) (fld : Str) (x C dx t1 : Addr) (v : Value) : Prop where
  keep : ∀ b o, b ≠ x → h.get? b = some o → h'.get? b = some o
  obj : h'.get? x = some { cls := .ref C, dict := some dx, data := .fields #[.ref t1, .none, .none, .none, .bool false, .none] }
  dbig : h.objs.size ≤ dx
  dne : dx ≠ x
  ns : h'.Ns1 dx (fun y => if y = fld then some v else none)
/-- a made error -/
structure OwnMade (h h' : Heap) (fld : Str) (e C d : Addr) (v : Value) : Prop where
  keep : ∀ b o, h.get? b = some o → h'.get? b = some o
  new : h.objs.size ≤ e
  obj : ∃ oe vs, h'.get? e = some oe ∧ oe.cls = .ref C ∧ oe.dict = some d ∧ oe.data = .fields vs ∧ vs[1]? = some .none
  dbig : h.objs.size ≤ d
  dne : d ≠ e
  ns : h'.Ns1 d (fun y => if y = fld then some v else none)
/-- the value is shown as this text in an f-string -/
def FmtOk (prog : Program) (w : World) (v : Value) (txt : Str) : Prop := ∀ (A : Around) (E : Value → Shared → Prop) (s : Shared) (Q : Value → Shared → Prop), (∀ t tk, Q (.str txt t) { s with toks := tk }) → wpAny (model prog w) A (formatField v Str.empty) Q E s
theorem fmt_int {prog : Program} {w : World} {i : Int} {t : Tok} (h : i.natAbs.log2 < 1920) : FmtOk prog w (.int i t) (toString i) := fun A E s Q q => wpAny_formatField_int h (q _ _)
theorem fmt_none {prog : Program} {w : World} : FmtOk prog w .none "None" := fun A E s Q q => wpAny_formatField_none (q _ _)
section
variable {prog : Program} {w : World} {A : Around} {E : Value → Shared → Prop} {R : Result → Shared → Prop} {s : Shared} {K : Frag} {mg : Str → Option Value} {C fI : Addr} {x qual fld pre : Str}
/-- o.name(a), all on one line -/
theorem wpAt_mc {c : Code} {o a : Expr} {name : Str} {apos pos : Pos} {env : Env} {Q : Value → Shared → Prop} (hline : (apos.endLine == pos.line) = true) (ha : starEach [a] env = [(false, eval a env)])
    (h : _root_.PySem.wpAt (model prog w) A c (attributeBase o name env (eval o env)) (fun ov s₁ => wpAny (model prog w) A (getMethod ov name (do return (← importBound o env).getD true)) (fun fx s₂ => wpAny (model prog w) A (callWith pos fx.1 fx.2 (backTo pos (starEach [a] env)) []) Q E s₂) E s₁) E s) :
    _root_.PySem.wpAt (model prog w) A c (eval (.Call (.Attribute o name apos) [a] [] pos) env) Q E s := by
  rw [arm_eval_Call]
  refine wpAt_bind (ks_wpAt_mono h (fun ov s₁ h₁ => wpAt_of_wpAny (wpAny_bind (wpAny_standAt ?_))) fun _ _ z => z)
  have hk : backToKw pos (keywordEach [] env) = [] := rfl
  have hform : methodCallForm (([a] : List Expr).length + ([] : List Keyword).length) (backTo pos (starEach [a] env)) (backToKw pos (keywordEach [] env)) = true := by rw [ha] <;> rfl
  have hpos : methodCallPos true o env apos pos = pure pos := by unfold methodCallPos; simp [hline]
  unfold methodCall
  rw [hform]
  refine wpAny_bind (wpAny_holding (wpAny_mono h₁ (fun fx s₂ h₂ => ?_) fun _ _ z => z))
  exact wpAny_bind (wpAny_of_eq hpos h₂)
theorem call_mw {h : Heap} {g : Array GenState} {d : Drawn} {t : Nat} {os : OsState} {nm q : Str} {N : Addr} {bs bm : List Value} {sn : List Str} {sub : List Value} {ab : Bool} {col : Option Bool} {dd : Option Addr} {k0 k1 k2 k3 k5 : Option Value} {u e t0 : Addr} {rest : List Value} {Q : Value → Shared → Prop}
    (hC : h.get? C = some (excClassObj nm q C N bs bm true sn sub ab col dd k0 k1 k2 k3 k5 "ValueError.__new__")) (he : h.get? e = some (excO C t0)) (hu : h.get? u = some (kxs_mw "ValueError.__init__" e)) (hrest : rest.length ≤ sizeLine)
    (hq : ∀ h' t1, (∀ b o, b ≠ e → h.get? b = some o → h'.get? b = some o) → h'.get? e = some (excO C t1) → Q .none ⟨h', g, d, t, os⟩) :
    wpAny (model prog w) A (call (.ref u) rest) Q E ⟨h, g, d, t, os⟩ := by
  refine wpAny_call (codeAny_of_tree ?_)
  show wpAny _ A.in1 (callAny (.ref u) ⟨rest, []⟩) _ _ _
  simp only [callAny]
  refine wpAny_bind (wpAny_load hu ?_)
  simp only [kxs_mw, show (Value.type "method-wrapper" == Value.type "method" || Value.type "method-wrapper" == Value.type "builtin_function_or_method" || Value.type "method-wrapper" == Value.type "method-wrapper") = true by decide, if_true]
  refine KFB.if_so (by decide) ?_
  refine wpAny_bind (check_bound_init F.excBase_ValueError.toExcCallFacts hC he rfl ?_)
  refine wpAny_bind (wpAny_pure (wpAny_pure ?_))
  refine ⟨plainId_quiet F.excBase_ValueError.init.plain _, codeAny_builtin F.excBase_ValueError.initEntry ?_⟩
  exact exc_init_tree (cls := .ref C) (t0 := t0) (dv := none) (c2 := .none) (c3 := .none) (b4 := .bool false) he hrest fun h' k e' _ => hq h' _ k e'
theorem kx1 {M : Model} {i : String} {u y : Addr} {pos : Pos} {env : Env} {a : Expr} {Q : Value → Shared → Prop}
    (h : wpAny M A (eval a env) (fun v s₁ => KxsAt i u y s₁.heap ∧ wpAny M A (call (.ref u) [v]) Q E s₁) E s)
    (he : starEach [a] env = (false, eval a env) :: starEach [] env) :
    wpAny M A (callWith pos (.ref u) [] (backTo pos (starEach [a] env)) []) Q E s := by
  rw [he]
  refine kxs_callWith (i := i) (x := y) (by first | rfl | with_unfolding_all rfl) ?_
  refine evalArgs_plain (spliced_cons (wpAny_mono h (fun v s₁ hh => ?_) fun _ _ z => z))
  exact spliced_nil hh
theorem ldC {M : Model} {s : Shared} {A : Around} {E : Value → Shared → Prop} {env : Env} {m : Str → Option Value} {y : Str} {pos : Pos} {v : Value} {Q : Value → Shared → Prop} (hn : s.heap.Ns env.locals m) (hv : m y = some v) (h : Q v s)
    (hk : env.scope.kind = .function) (hl : env.kindOf y = some .local) (hd : (y == ("__debug__" : Str)) = false) : wpAny M A (eval (.Name y pos) env) Q E s := wpAny_Name (wpAny_loadName_local hk hl hn hv h) hd
/-- what the field's name must be -/
structure FldOk (fld : Str) : Prop where
  f1 : (fld == ("self" : Str)) = false
  f2 : (("self" : Str) == fld) = false
  fs : (iS fld).names.lookup fld = some .local
  fd : (fld == ("__debug__" : Str)) = false
  sc : (iS fld).names.lookup ("super" : Str) = some .globalImplicit
  cl : (iS fld).names.lookup ("__class__" : Str) = some .free
  se : (iS fld).names.lookup ("self" : Str) = some .local
  bi : ∀ (qual : Str) (p1 p2 : Pos) (body : List Stmt) (kV doc pm : Value) (an : Option Addr) (cdv ct : Value) (cc : Addr) (e v : Value), bindArgs (ksFn "__init__" qual (iA fld p1 p2) body (iS fld) .none kV doc pm an cdv ct cc) ⟨[e, v], []⟩ = pure [(("self" : Str), e), (fld, v)]
theorem fld_limit : FldOk "limit" := ⟨by decide +kernel, by decide +kernel, by decide +kernel, by decide +kernel, by decide +kernel, by decide +kernel, by decide +kernel, fun _ _ _ _ _ _ _ _ _ _ _ _ _ => rfl⟩
theorem fld_index : FldOk "index" := ⟨by decide +kernel, by decide +kernel, by decide +kernel, by decide +kernel, by decide +kernel, by decide +kernel, by decide +kernel, fun _ _ _ _ _ _ _ _ _ _ _ _ _ => rfl⟩
theorem fld_place : FldOk "place" := ⟨by decide +kernel, by decide +kernel, by decide +kernel, by decide +kernel, by decide +kernel, by decide +kernel, by decide +kernel, fun _ _ _ _ _ _ _ _ _ _ _ _ _ => rfl⟩
theorem fld_number : FldOk "number" := ⟨by decide +kernel, by decide +kernel, by decide +kernel, by decide +kernel, by decide +kernel, by decide +kernel, by decide +kernel, fun _ _ _ _ _ _ _ _ _ _ _ _ _ => rfl⟩
theorem lim_init (T : LimTxt prog K mg x qual fld pre C fI) {e t0 : Addr} {v : Value} {txt : Str} (hv : FmtOk prog w v txt) (X : K.In s.heap) (hlim : s.heap.NoLimit) (hg : s.heap.Ns mainGlobals mg) {mb : Str → Option Value} (hb : s.heap.Ns builtinsNs mb) (hbs : mb "super" = some (.type "super"))
    (he : s.heap.get? e = some (excO C t0)) (hne : K.lookup e = none) (hroom : A.depth < recursionLimit) (hz : (Str.empty ++ pre ++ txt).length ≤ sizeLine) (hz1 : (Str.empty ++ pre).length ≤ sizeLine) (L : FldOk fld)
    (hq : ∀ h' tk dx t1, InitEnd s.heap h' fld e C dx t1 v → R (.ok (.ret .none)) { s with heap := h', toks := tk }) :
    codeAny (model prog w) A (.call (.ref fI) ⟨[.ref e, v], []⟩) R s := by
  obtain ⟨oc, od, kV, doc, pm, an, ct, osl, cc, cda, p1, p2, q1, q2, q3, q4, q5, q6, q7, q8, q9, r1, r2, r3, r4, cl, cld, csl, ccl, cdd, ccs, vs, file, tf, ho, hcd, hcell, hcode, hvs, hfile, hline⟩ := T.fn
  obtain ⟨nm, q, N, bs, bm, sn, sub, ab, col, dd, k0, k1, k2, k3, k5, hC, hbm⟩ := T.cls
  have hcls : clsIn K C = some { name := nm, bases := bs, mro := .ref C :: bm, ns := N, qualname := q, hasDict := true, slotNames := sn, subclasses := sub, abstract := ab, collection := col, hasDel := false } := by unfold clsIn; rw [hC] <;> rfl
  have hsup := T.sup
  unfold ks_superIn at hsup
  rw [hcls] at hsup
  refine ks_codeAny_call_defAt (fd := ksFn "__init__" qual (iA fld p1 p2) (iB fld pre q1 q2 q3 q4 q5 q6 q7 q8 q9 r1 r2 r3 r4) (iS fld) .none kV doc pm an (.ref cda) ct cc) (body := iB fld pre q1 q2 q3 q4 q5 q6 q7 q8 q9 r1 r2 r3 r4) (binds := [("self", .ref e), (fld, v)]) hroom (X _ _ ho) rfl hlim (codeRec_of X hcd) rfl (BindsTo.of_eq (L.bi ..)) ?_ ?_ (fun h₁ hns hk₁ => ?_) rfl rfl rfl
  · intro y hy
    simp only [ksFn, fnX, iS, List.mem_cons, List.not_mem_nil, or_false] at hy
    rcases hy with rfl | rfl | rfl | rfl <;> exact fun z => by cases z
  · intro y hy
    simp only [List.mem_cons, List.not_mem_nil, or_false] at hy
    rcases hy with rfl | rfl
    · exact L.se
    · exact L.fs
  have X₁ : K.In h₁ := X.keeps hk₁
  have he₁ := hk₁ _ _ he
  have heL : s.heap.objs.size ≠ e := Nat.ne_of_gt (Heap.lt_size he)
  have ms : (fun y => ([("self", Value.ref e), (fld, v)] : List (Str × Value)).reverse.lookup y) ("self" : Str) = some (.ref e) := by
    show List.lookup ("self" : Str) [(fld, v), ("self", Value.ref e)] = _
    rw [List.lookup_cons, L.f2]
    rfl
  have mf : (fun y => ([("self", Value.ref e), (fld, v)] : List (Str × Value)).reverse.lookup y) fld = some v := by
    show List.lookup fld [(fld, v), ("self", Value.ref e)] = _
    rw [List.lookup_cons, beq_self_eq_true]
  have hsub : mroIn K C (.ref C) = some true := by
    unfold mroIn
    rw [hcls, Option.bind_some, if_neg (show ¬ (List.isEmpty (Value.ref C :: bm) = true) from Bool.false_ne_true), List.contains_cons, beq_self_eq_true] <;> rfl
  -- super().__init__(f"..")
  refine ks_wpAt_execs_cons (ks_wpAt_Expr_any (wpAt_mc hline (by first | rfl | with_unfolding_all rfl) ?_))
  refine ks_wpAt_super_base (f := fI) (cc := cda) (ar := { arg := "self", annotation := none, pos := p1 }) L.sc L.cl rfl rfl (hk₁ _ _ (X _ _ ho)) rfl rfl rfl (hk₁ _ _ (X _ _ hcode)) rfl hvs hfile T.top ?_
  refine ks_loadName_global rfl L.sc (loadGlobal_builtin (hg.keeps hk₁) T.sG (hb.keeps hk₁) hbs ⟨rfl, ?_⟩)
  refine wpAny_loadName_free rfl L.cl rfl ⟨_, X₁ _ _ hcell, rfl⟩ ?_
  refine wpAny_loadName_local rfl L.se hns ms ?_
  refine ks_wpAny_isType_cls (X₁ _ _ hC) rfl ⟨rfl, ?_⟩
  refine ks_wpAny_call_super (X₁ _ _ hC) rfl he₁ rfl (fun c z => by cases z) (looks_mroIn X₁ hsub) (fun h₂ hso k₂ => ?_)
  have X₂ : K.In h₂ := X₁.keeps k₂
  have he₂ := k₂ _ _ he₁
  have I₂ : InstAt h₂ e (excO C t0) C none := ⟨he₂, rfl, rfl, trivial⟩
  have hsoe : h₁.objs.size ≠ e := Nat.ne_of_gt (Heap.lt_size he₁)
  refine kxs_getMethod kxs_ValueError hso (looks_opaque X₂ T.any) (l₀ := .ref C :: bm) (fun A Q E s k q => wpAny_bind ((looks_clsIn X₂ hcls) A _ E s k (wpAny_pure q))) rfl X₂ hsup (I₂.type.andThen (looks_subIn X₂ T.veC)) (ks_ne X₂ I₂ hcls) (by decide +kernel) ?_
  have kw : ∀ b o, h₂.get? b = some o → (h₂.push (kxs_mw "ValueError.__init__" e)).get? b = some o := fun b o z => Heap.get?_push_of_some _ z
  refine kx1 (i := "ValueError.__init__") (y := e) ?_ (by first | rfl | with_unfolding_all rfl)
  refine JoinedStr_many ?_
  refine joinParts_cons ?_
  refine Constant_str ⟨hz1, ?_⟩
  have hns₂ := hns.keeps (fun b o z => kw b o (k₂ b o z))
  refine joinParts_cons (FormattedValue_plain (ldC hns₂ mf (hv _ _ _ _ fun t tk => ⟨hz, joinParts_nil ?_ hz⟩) rfl L.fs L.fd))
  have hbm' : refsVE (.ref C :: bm) = true := hbm
  refine ⟨Heap.get?_push_at rfl rfl, call_mw (kw _ _ (k₂ _ _ (hk₁ _ _ (X _ _ hC)))) (kw _ _ he₂) (Heap.get?_push_at rfl rfl) (by show 1 ≤ sizeLine; rw [sizeLine_eq]; decide) fun h₃ t1 k₃ he₃ => ?_⟩
  have neE : ∀ {b : Addr} {o : Obj}, K.lookup b = some o → b ≠ e := fun {b o} z y => by
    rw [y, hne] at z
    cases z
  have X₃ : K.In h₃ := fun a o z => k₃ a o (neE z) (kw _ _ (k₂ _ _ (X₁ _ _ z)))
  obtain ⟨oL, esL, epL, hL, rL⟩ := hns₂
  have hns₃ : h₃.Ns s.heap.objs.size (fun y => ([("self", Value.ref e), (fld, v)] : List (Str × Value)).reverse.lookup y) := ⟨oL, esL, epL, k₃ _ _ heL hL, rL⟩
  -- self.fld = fld
  show _root_.PySem.wpAt _ _ _ (execs _ _) _ _ _
  refine wpAt_of_wpAny (wpAny_execs_cons (plainObj_wpAny_Assign_Attribute ?_ (by first | rfl | with_unfolding_all rfl)))
  refine ldC hns₃ mf (ldC hns₃ ms ?_ rfl L.se (by decide +kernel)) rfl L.fs L.fd
  refine set_plain X₃ (ox := excO C t1) (od := none) ⟨he₃, rfl, rfl, trivial⟩ T.sa ?_
  refine exc_osa X₃ he₃ hcls hbm' rfl T.noN (fun h₄ tk₄ dx k₄ dn dne he₄ hn₄ => ?_)
  have big : s.heap.objs.size ≤ dx := Nat.le_trans (Nat.le_of_lt (Heap.lt_size (k₃ _ _ heL hL))) dn
  exact wpAny_execs_nil (hq h₄ tk₄ dx t1 ⟨fun b o hb z => k₄ b o hb (k₃ b o hb (kw _ _ (k₂ _ _ (hk₁ _ _ z)))), he₄, big, dne, hn₄⟩)
theorem lim_made (T : LimTxt prog K mg x qual fld pre C fI) {v : Value} {txt : Str} (hv : FmtOk prog w v txt) (X : K.In s.heap) (hlim : s.heap.NoLimit) (hg : s.heap.Ns mainGlobals mg) {mb : Str → Option Value} (hb : s.heap.Ns builtinsNs mb) (hbs : mb "super" = some (.type "super"))
    (hz : (Str.empty ++ pre ++ txt).length ≤ sizeLine) (hz1 : (Str.empty ++ pre).length ≤ sizeLine) (L : FldOk fld) (hroom : A.depth + 1 < recursionLimit)
    (hq : ∀ h' tk e d, OwnMade s.heap h' fld e C d v → R (.ok (.ret (.ref e))) { s with heap := h', toks := tk }) :
    codeAny (model prog w) A (.call (.ref C) ⟨[v], []⟩) R s := by
  obtain ⟨nm, q, N, bs, bm, sn, sub, ab, col, dd, k0, k1, k2, k3, k5, hC, hbm⟩ := T.cls
  obtain ⟨hp, g, dr, tk, os⟩ := s
  have k : ∀ b o, hp.get? b = some o → ((hp.push (kdv_tup [v])).push (excO C hp.objs.size)).get? b = some o := fun b o e => Heap.get?_push_of_some _ (Heap.get?_push_of_some _ e)
  have hget : ((hp.push (kdv_tup [v])).push (excO C hp.objs.size)).get? (hp.objs.size + 1) = some (excO C hp.objs.size) := by heap_get
  have hnx : K.lookup (hp.objs.size + 1) = none := by
    cases e : K.lookup (hp.objs.size + 1) with
    | none => rfl
    | some o =>
      have z : hp.get? (hp.objs.size + 1) = some o := X _ _ e
      exact absurd (Nat.lt_of_succ_lt (Heap.lt_size z)) (Nat.lt_irrefl _)
  refine call_own F.excBase_ValueError (fun X => refsVE_contains X bm hbm) (X _ _ hC) (looks_findIn X T.iC) (fun self => bind_fn X self T.tC) (by show 1 ≤ sizeLine; rw [sizeLine_eq]; decide) ?_
  refine lim_init (s := ⟨(hp.push (kdv_tup [v])).push (excO C hp.objs.size), g, dr, tk, os⟩) T hv (X.keeps k) (hlim.keeps k) (hg.keeps k) (hb.keeps k) hbs hget hnx ?_ hz hz1 L fun h' tk' dx t1 ⟨k', hx, dn, dne, hns⟩ => ?_
  · show A.depth + 1 < recursionLimit
    exact hroom
  · have old : ∀ b o, hp.get? b = some o → h'.get? b = some o := fun b o e => k' b o (Nat.ne_of_lt (Nat.lt_succ_of_lt (Heap.lt_size e))) (k b o e)
    have z : hp.objs.size + 1 + 1 ≤ dx := by
      first
        | (simpa only [Heap.size_push] using dn)
        | exact dn
        | (have q := dn; rw [Heap.size_push, Heap.size_push] at q; exact q)
    exact ⟨rfl, hq h' tk' (hp.objs.size + 1) dx ⟨old, Nat.le_succ _, ⟨_, _, hx, rfl, rfl, rfl, rfl⟩, Nat.le_trans (Nat.le_trans (Nat.le_succ _) (Nat.le_succ _)) z, dne, hns⟩⟩
end
end LimX
end PySem
namespace L2
open PySem PySem.Spec PyProof.Rows
theorem relO_lim {v : V} {v' : Value} {fld : Str} (r : RelV v v') (f : Str) : RelO (List.lookup f [(fld, v)]) (if f = fld then some v' else none) := by
  by_cases hw : f = fld
  · subst hw
    rw [if_pos rfl]
    have q : List.lookup f [(f, v)] = some v := by simp [List.lookup]
    rw [q]
    exact r
  · rw [if_neg hw]
    have qw : (f == fld) = false := by simpa using hw
    have q2 : List.lookup f [(fld, v)] = none := by simp [List.lookup, qw]
    rw [q2]
    trivial
section
variable {X : Cx} {C fI : Addr} {x qual fld pre : Str}
/-- C(e): an error with a field; txt: how the field is shown -/
def tMkLim (X : Cx) (C : Addr) (fld pre : Str) (ta : TA) : St → Hp → XK → Prop := fun σ H Q => ta σ H fun vs H1 => ∃ v, vs = [v] ∧ (∀ u, RelV v u → ∃ txt, PySem.LimX.FmtOk X.prog X.w u txt ∧ (Str.empty ++ pre ++ txt).length ≤ sizeLine) ∧ ∀ d, H1 d = none → Q (.ref C) (some d) (upd H1 d (.xd [(fld, v)]))
theorem pmk_lim {a : Expr} {ta : TA} {p pos : Pos} {k : Nat} (T : PySem.LimX.LimTxt X.prog X.K X.mg x qual fld pre C fI) (L : PySem.LimX.FldOk fld) (hz1 : (Str.empty ++ pre).length ≤ sizeLine) (hr : Room k X.A) (ha : PA X [a] ta) (hg : Gl X x)
    (he : starEach (a :: []) X.env = (false, eval a X.env) :: starEach [] X.env := by rfl) (hpl : (backTo pos (starEach [] X.env)).any (·.1) = false := by rfl) (hdb : (x == ("__debug__" : Str)) = false := by decide) :
    PMk X (.Call (.Name x p) [a] [] pos) (tMkLim X C fld pre ta) := by
  intro pins s σ H Q I h
  refine wpAny_Call_Name_kw (ld_glob I hg T.gC ?_ hdb)
  refine PySem.W.callWith_K (h₀ := X.base) I.ok.mod.kin T.kC (thn (ha.run pos pins s σ H _ I h) fun us s1 hh => ?_) he hpl
  obtain ⟨vs, H1, I1, r1, v, ev, hf, q1⟩ := hh
  subst ev
  refine ⟨I1.kIn, ?_⟩
  cases r1 with
  | cons rv rn =>
    rename_i v' us'
    cases rn
    show wpAny _ _ (call (.ref C) [v']) _ _ _
    have hlim := I1.nolimit
    obtain ⟨txt, hfm, hz⟩ := hf v' rv
    obtain ⟨mb, hb1, hb2⟩ := I1.mod.blt
    obtain ⟨hp, g, dr, tk, os⟩ := s1
    refine wpAny_call (PySem.LimX.lim_made T hfm I1.kIn hlim (I1.mod.glob.keeps I1.bk) (hb1.keeps I1.bk) ((hb2 "super" (by decide +kernel)).trans (by decide +kernel)) hz hz1 L (by have := hr.dp; omega) fun h' tk' e d M => ?_)
    show MkP X pins σ Q (.ref e) ⟨h', g, dr, tk', os⟩
    obtain ⟨oe, fv, hoe, hc, hd, hdat, h1⟩ := M.obj
    have hns := M.ns
    obtain ⟨G', g1, g2⟩ := restrict h' fun b => decide (b ≠ e)
    have gk : ∀ b, b ≠ e → G'.get? b = h'.get? b := fun b hb => g1 b (decide_eq_true hb)
    have ge : G'.get? e = none := g2 e (by simp)
    have old : ∀ b o, hp.get? b = some o → G'.get? b = some o := fun b o q => (gk b (Nat.ne_of_lt (Nat.lt_of_lt_of_le (Heap.lt_size q) M.new))).trans (M.keep b o q)
    have ob : ObjOk X.prog X.w (upd H1 d (.xd [(fld, v)])) G' d (.xd [(fld, v)]) :=
      ⟨_, hns.at (fun o q => (gk d M.dne).trans q), fun f => relO_lim rv f⟩
    have J : Inv X pins σ (upd H1 d (.xd [(fld, v)])) ⟨G', g, dr, tk', os⟩ := I1.laid (t' := tk') old M.dbig ob
    refine ⟨e, oe, fv, ⟨G', g, dr, tk', os⟩, _, .ref C, some d, rfl, J, fun b o q => ?_, ge, hoe, ⟨hc, hd⟩, hdat, h1, ?_, rfl, I1.bare, raises_own T.exC T.tyC, q1 d (I1.hok.fresh M.dbig)⟩
    · by_cases hb : b = e
      · have q' : G'.get? b = some o := q
        rw [hb, ge] at q'; cases q'
      · exact (gk b hb).symm.trans q
    · rw [upd_ne (Ne.symm M.dne)]
      exact I1.hok.fresh M.new
end
end L2
namespace DL
open PySem PySem.Spec PyProof.Rows L2
/-! ### errors over data -/
structure XD where
  cls : Value
  fld : Option (Str × D)
/-- an error's class and dict, in the heap of data -/
def XR (K : PySem.W.Frag) (Hd : Hp) (x : XD) (cls : Value) (d : Option Addr) : Prop := cls = x.cls ∧ match x.fld with
  | none => d = none
  | some (f, dv) => ∃ dd v, d = some dd ∧ Hd dd = some (.xd [(f, v)]) ∧ Rp K Hd dv v
abbrev RX := XD → DEnv → Sto → Prop
/-- what is wanted of an error is taken -/
structure LiftX (X : Cx) (Hd : Hp) (R : RX) : Prop where
  ex : ∃ W : WX, Takes X W ∧ ∀ x en S cls d σ H Hd', Same Hd Hd' → St0 X.K S Hd' H → RpE X.K Hd' en σ → XR X.K Hd' x cls d → R x en S → W cls d σ H
theorem LiftX.up {X : Cx} {Hd Hd' : Hp} {R : RX} (e : Same Hd Hd') (l : LiftX X Hd R) : LiftX X Hd' R := by
  obtain ⟨W, tk, h⟩ := l.ex
  exact ⟨W, tk, fun x en S cls d σ H H2 k => h x en S cls d σ H H2 (e.trans k)⟩
structure DEX (X : Cx) (e : Expr) (en : DEnv) (S : Sto) (Q : D → Sto → Prop) (R : RX) : Prop where
  run : ∀ (σ : L2.St) (H Hd : Hp), St0 X.K S Hd H → RpE X.K Hd en σ → LiftX X Hd R → wE X e σ H (QD X.K Hd Q)
structure DAX (X : Cx) (es : List Expr) (en : DEnv) (S : Sto) (Q : List D → Sto → Prop) (R : RX) : Prop where
  run : ∀ (σ : L2.St) (H Hd : Hp), St0 X.K S Hd H → RpE X.K Hd en σ → LiftX X Hd R → wA X es σ H (QA X.K Hd Q)
structure DS1X (X : Cx) (st : Stmt) (en : DEnv) (S : Sto) (Z : Dn) (R : RX) : Prop where
  run : ∀ (σ : L2.St) (H Hd : Hp), St0 X.K S Hd H → RpE X.K Hd en σ → ∀ De : Ends, Lift X.K Hd Z De → LiftX X Hd R → wS X st De σ H
structure DSX (X : Cx) (sts : List Stmt) (en : DEnv) (S : Sto) (Z : Dn) (R : RX) : Prop where
  run : ∀ (σ : L2.St) (H Hd : Hp), St0 X.K S Hd H → RpE X.K Hd en σ → ∀ De : Ends, Lift X.K Hd Z De → LiftX X Hd R → wSs X sts De σ H
abbrev ConX := List D → Sto → (D → Sto → Prop) → (XD → Sto → Prop) → Prop
def spDX (K : PySem.W.Frag) (C : ConX) : Sp := fun vs H Q E => ∃ (ds : List D) (S : Sto) (Hd : Hp) (Qd : D → Sto → Prop) (Rd : XD → Sto → Prop), RpL K Hd ds vs ∧ St0 K S Hd H ∧ C ds S Qd Rd ∧
  (∀ d S' v H' Hd', Qd d S' → Same Hd Hd' → St0 K S' Hd' H' → Rp K Hd' d v → Q v H') ∧ ∀ x S' cls d H' Hd', Rd x S' → Same Hd Hd' → St0 K S' Hd' H' → XR K Hd' x cls d → E cls d H'
/-! ### a def that may raise keeps its promise, by its body -/
structure GOkX (P : Program) (w : World) (K : PySem.W.Frag) (mg : Str → Option Value) (base : Heap) (k : Nat) (f : Addr) (fd : FuncData) (ps : List Str) (sp : Sp) : Prop where
  len : ∀ vs H Q E, sp vs H Q E → vs.length = ps.length
  run : ∀ (A : Around) (fr : List Env) (s : Shared) (H : Hp) (ar : Args) (us : List Value) (vs : List V) (Q : VK) (E : XK), A.guards = some [] → Room k A →
    Env0 P w K mg base A fr s H → BindsTo s fd ar (ps.zip us) → Vals vs us → sp vs H Q E → codeAny (model P w) A (.call (.ref f) ar) (CR (L2.CX P w) fr P w H s Q E) s
section
variable {P : Program} {w : World} {K : PySem.W.Frag} {mg : Str → Option Value} {base : Heap}
theorem gokx_of {k : Nat} {x qual : Str} {st : Stmt} {f : Addr} {fd : FuncData} {N ps : List Str} {sp : Sp} (F : Fun K x qual st f fd) (S : FnScope N ps (defScope st)) (ln : ∀ vs H Q E, sp vs H Q E → vs.length = ps.length)
    (body : ∀ (cdv : Value) (A : Around) (fr : List Env) (s : Shared) (H : Hp) (vs : List V) (Q : VK) (E : XK), (A.deeper (envOfC qual (defScope st) s.heap.objs.size f cdv)).guards = some [] → Room k (A.deeper (envOfC qual (defScope st) s.heap.objs.size f cdv)) → sp vs H Q E →
      wSs (cxOf (L2.CX P w) P w K mg base N qual (defScope st) f cdv A fr s H E) (defBody st) { nx := fun _ H' => Q .non H', rt := Q } (start N vs) H) : GOkX P w K mg base (k + 1) f fd ps sp := by
  obtain ⟨oc, od, kV, doc, pm, an, cdv, ct, osl, rfl, lk, hcd⟩ := F.ex
  refine ⟨ln, fun A fr s H ar us vs Q E gd hr e0 hb r hsp => ?_⟩
  have long := ln _ _ _ _ hsp
  have KX : K.In s.heap := e0.mod.kin.keeps fun b o e => (e0.bs b o e).1
  have free : s.heap.NoLimit := e0.mod.nolimit.keeps fun b o e => (e0.bs b o e).1
  refine codeAny_call_function hr.depth (KX _ _ lk) rfl S.co S.gen rfl (PySem.W.codeRec_of KX hcd) (hb _ _ _ _ ?_)
  refine wpAny_newFunctionEnv_cells S.kind (fun y hy => ?_) fun env he s1 xx => ?_
  · obtain ⟨n, v⟩ := y
    rcases S.par n (List.of_mem_zip hy).1 with z | z
    · exact .inl z
    · exact .inr ⟨z, PySem.W.cellsFrom_some _ _ _ (.inl z)⟩
  subst he
  refine ⟨free.keeps xx.toInCall.keep, codeAny_func ?_⟩
  have J : Inv (cxOf (L2.CX P w) P w K mg base N qual (defScope st) f cdv A fr s H E) [] (start N vs) H s1 := inv_start S hr.hd e0 long r xx
  have run := (pssW (X := (cxOf (L2.CX P w) P w K mg base N qual (defScope st) f cdv A fr s H E)) (sts := defBody st)).run [] s1 (start N vs) H _ J (body cdv A fr s H vs Q E gd (hr.deeper _) hsp)
  refine wpAny_mono run (fun fl s' hs => ?_) fun e s' hs => hs
  have out : ∀ {σ' : L2.St} {H' : Hp} {v : V} {u : Value}, Inv (cxOf (L2.CX P w) P w K mg base N qual (defScope st) f cdv A fr s H E) [] σ' H' s' → RelV v u → Q v H' → CE fr P w H s Q u s' :=
    fun {σ' H' v u} I rv q => ⟨v, H', I.os, I.bare, I.base, I.hok, rv, q⟩
  cases fl with
  | ret u =>
    obtain ⟨v, σ', H', I, rv, q⟩ := hs
    exact out I rv q
  | next =>
    obtain ⟨σ', H', I, q⟩ := hs
    exact out (v := V.non) (u := Value.none) I rfl q
  | brk => exact hs.elim fun _ h => h.elim fun _ h => h.2.elim
  | cont => exact hs.elim fun _ h => h.elim fun _ h => h.2.elim
theorem gokx_ds {k m : Nat} {x qual : Str} {st : Stmt} {f : Addr} {fd : FuncData} {N ps : List Str} {C : ConX} (F : Fun K x qual st f fd) (S : FnScope N ps (defScope st))
    (hm : N.length - ps.length = m) (ln : ∀ ds S Q R, C ds S Q R → ds.length = ps.length)
    (body : ∀ (cdv : Value) (A : Around) (fr : List Env) (s : Shared) (H : Hp) (E : XK), (A.deeper (envOfC qual (defScope st) s.heap.objs.size f cdv)).guards = some [] → Room k (A.deeper (envOfC qual (defScope st) s.heap.objs.size f cdv)) → ∀ (ds : List D) (S0 : Sto) (Q : D → Sto → Prop) (R : XD → Sto → Prop), C ds S0 Q R →
      DSX (cxOf (L2.CX P w) P w K mg base N qual (defScope st) f cdv A fr s H E) (defBody st) (ds.map some ++ List.replicate m none) S0 { nx := fun _ S' => Q .non S', rt := Q } (fun x _ S' => R x S')) : GOkX P w K mg base (k + 1) f fd ps (spDX K C) := by
  refine gokx_of F S (fun vs H Q E h => ?_) fun cdv A fr s H vs Q E gd hr h => ?_
  · obtain ⟨ds, S0, Hd, Qd, Rd, r, _, c, _⟩ := h
    rw [r.length]
    exact ln _ _ _ _ c
  · obtain ⟨ds, S0, Hd, Qd, Rd, r, st0, c, fin, finx⟩ := h
    have e : L2.start N vs = vs.map some ++ List.replicate m none := by
      unfold L2.start
      rw [r.length, ln _ _ _ _ c, hm]
    rw [e]
    refine (body cdv A fr s H E gd hr ds S0 Qd Rd c).run _ H Hd st0 (RpE.start m r) _ ⟨fun en S' σ H' Hd' z1 z2 _ q => fin .non S' .non H' Hd' q z1 z2 rfl, fun d S' v H' Hd' z1 z2 z3 q => fin d S' v H' Hd' q z1 z2 z3, fun _ _ _ _ _ _ _ _ q => q.elim, fun _ _ _ _ _ _ _ _ q => q.elim⟩ ?_
    exact ⟨fun cls d _ H => E cls d H, takes_of rfl rfl rfl rfl, fun x en S cls d σ H' Hd' z1 z2 _ z3 q => finx x S cls d H' Hd' q z1 z2 z3⟩
end
/-- a def that may raise, in the module -/
structure CalX (P : Program) (w : World) (K : PySem.W.Frag) (mg : Str → Option Value) (base : Heap) (k : Nat) (x : Str) (ps : List Str) (kws : List (Nat × List Str)) (C : ConX) : Prop where
  ex : ∃ (f : Addr) (fd : FuncData), GOkX P w K mg base k f fd ps (spDX K C) ∧ mg x = some (.ref f) ∧ PySem.W.keepIn K (.ref f) = true ∧
    (∀ us : List Value, us.length = ps.length → bindArgs fd ⟨us, []⟩ = pure (ps.zip us)) ∧ ∀ p ∈ kws, KwOk fd ps p
theorem calx_of {P : Program} {w : World} {K : PySem.W.Frag} {mg : Str → Option Value} {base : Heap} {k : Nat} {x qual : Str} {st : Stmt} {f : Addr} {fd : FuncData} {ps : List Str} {kws : List (Nat × List Str)} {C : ConX} (F : Fun K x qual st f fd)
    (G : GOkX P w K mg base k f fd ps (spDX K C)) (hm : mg x = some (.ref f)) (hb : ∀ us : List Value, us.length = ps.length → bindArgs fd ⟨us, []⟩ = pure (ps.zip us)) (hk : ∀ p ∈ kws, KwOk fd ps p) : CalX P w K mg base k x ps kws C := ⟨f, fd, G, hm, F.kp, hb, hk⟩
section
variable {X : Cx} {a b c e tg : Expr} {es : List Expr} {kwl : List Keyword} {st : Stmt} {sts rest : List Stmt} {en : DEnv} {S : Sto} {Z : Dn} {Q : D → Sto → Prop} {R : RX} {QL : List D → Sto → Prop} {pos pos' p kpos : Pos} {k : Nat} {x : Str} {ps ks : List Str} {kws : List (Nat × List Str)} {C : ConX}
/-! ### what raises nothing -/
theorem dex_of (h : DE X e en S Q) : DEX X e en S Q R := ⟨fun σ H Hd st re _ => h σ H Hd st re⟩
theorem dax_of (h : DA X es en S QL) : DAX X es en S QL R := ⟨fun σ H Hd st re _ => h σ H Hd st re⟩
theorem ds1x_of (h : DS1 X st en S Z) : DS1X X st en S Z R := ⟨fun σ H Hd st re De l _ => h σ H Hd st re De l⟩
theorem dsx_of (h : DS X sts en S Z) : DSX X sts en S Z R := ⟨fun σ H Hd st re De l _ => h σ H Hd st re De l⟩
theorem dsx_nil (q : Z.nx en S) : DSX X [] en S Z R := dsx_of (ds_nil q)
theorem dsx_cons (h : DS1X X st en S { Z with nx := fun en' S' => DSX X rest en' S' Z R } R) : DSX X (st :: rest) en S Z R := ⟨fun σ H Hd s0 re De l lx => by
  refine wSs_of (pss_cons psW pssW) ?_
  exact h.run σ H Hd s0 re _ ⟨fun en' S' σ' H' Hd' z1 z2 z3 q => q.run σ' H' Hd' z2 z3 De (l.up z1) (lx.up z1), l.rt, l.bk, l.ct⟩ lx⟩
theorem dsx_nrm {en' : DEnv} (h : DSX X sts en' S Z R) (he : en = en' := by set_option simprocs false in dsimp only [List.set]) : DSX X sts en S Z R := by
  rw [he]
  exact h
theorem dsx_asg (h : DEX X e en S (fun d S1 => DG X tg d en S1 Z.nx) R) (hs : swapsWithSole [tg] e pos.line X.env = pure false := by first | exact sws1 rfl | exact sw0 rfl | rfl) (hw : swappedStores [tg] e X.env = pure none := by first | exact sst rfl | rfl)
    (h1 : (assignEach [tg] X.env).map (·.2) = [assign tg X.env] := by rfl) : DS1X X (.Assign [tg] e pos) en S Z R := ⟨fun σ H Hd st re De l lx => by
  refine wS_of (ps_asg peW pgW hs hw h1) ?_
  refine wE_mono (h.run σ H Hd st re lx) fun v H1 ⟨d, S1, Hd1, e1, st1, r1, q⟩ => ?_
  refine wG_mono (q σ H1 Hd1 v st1 (re.mono e1) r1) fun σ2 H2 ⟨en2, S2, Hd2, z1, z2, z3, z4⟩ => ?_
  exact l.nx en2 S2 σ2 H2 Hd2 (e1.trans z1) z2 z3 z4⟩
theorem dsx_ret (h : DEX X e en S Z.rt R) : DS1X X (.Return (some e) pos) en S Z R := ⟨fun σ H Hd st re De l lx =>
  wS_of (ps_ret peW) (wE_mono (h.run σ H Hd st re lx) fun v H1 ⟨d, S1, Hd1, e1, st1, r1, q⟩ => l.rt d S1 v H1 Hd1 e1 st1 r1 q)⟩
theorem dsx_expr (h : DEX X e en S (fun _ S1 => Z.nx en S1) R) (hs : swapsWith e none pos.line X.env = pure false := by first | exact sws1 rfl | exact sw0 rfl | rfl) : DS1X X (.Expr e pos) en S Z R := ⟨fun σ H Hd st re De l lx =>
  wS_of (ps_expr peW hs) (wE_mono (h.run σ H Hd st re lx) fun v H1 ⟨d, S1, Hd1, e1, st1, r1, q⟩ => l.nx en S1 σ H1 Hd1 e1 st1 (re.mono e1) q)⟩
theorem dsx_if {s1 s2 : List Stmt} (h : DT X c en S fun t S1 => (t = true → DSX X s1 en S1 Z R) ∧ (t = false → DSX X s2 en S1 Z R)) : DS1X X (.If c s1 s2 pos) en S Z R := ⟨fun σ H Hd st re De l lx => by
  refine wS_of (ps_if ptW pssW pssW) ?_
  refine wT_mono (h σ H Hd st re) fun t H1 ⟨S1, Hd1, e1, st1, q1, q2⟩ => ?_
  cases t with
  | true =>
    rw [if_pos rfl]
    exact (q1 rfl).run σ H1 Hd1 st1 (re.mono e1) De (l.up e1) (lx.up e1)
  | false =>
    rw [if_neg Bool.false_ne_true]
    exact (q2 rfl).run σ H1 Hd1 st1 (re.mono e1) De (l.up e1) (lx.up e1)⟩
/-! ### calls of what may raise -/
theorem run_calX (c : CalX X.prog X.w X.K X.mg X.base k x ps kws C) (gd : X.A.guards = some []) (hr : Room k X.A) : ∃ f : Addr, X.mg x = some (.ref f) ∧ PySem.W.keepIn X.K (.ref f) = true ∧
    (∀ {pins : List (Addr × Obj)} {σ : L2.St} {H Hd : Hp} {s : Shared} {us : List Value} {vs : List V} {ds : List D} {S : Sto} {en : DEnv} {Q : D → Sto → Prop} {Qv : VK}, Inv X pins σ H s → Vals vs us → RpL X.K Hd ds vs → St0 X.K S Hd H → RpE X.K Hd en σ → C ds S Q (fun x S' => R x en S') → LiftX X Hd R → (∀ v H', QD X.K Hd Q v H' → Qv v H') →
      wpAny (model X.prog X.w) X.A (call (.ref f) us) (EP X pins σ Qv) X.xe s) ∧
    ∀ (n : Nat) (ks : List Str), (n, ks) ∈ kws → ∀ {pins : List (Addr × Obj)} {σ : L2.St} {H Hd : Hp} {s : Shared} {us ws : List Value} {vs zs : List V} {ds fs : List D} {S : Sto} {en : DEnv} {Q : D → Sto → Prop} {Qv : VK}, Inv X pins σ H s → Vals vs us → Vals zs ws → us.length = n → ws.length = ks.length →
      RpL X.K Hd ds vs → RpL X.K Hd fs zs → St0 X.K S Hd H → RpE X.K Hd en σ → C (ds ++ ordV .non (ps.drop n) ks fs) S Q (fun x S' => R x en S') → LiftX X Hd R → (∀ v H', QD X.K Hd Q v H' → Qv v H') → wpAny (model X.prog X.w) X.A (call (.ref f) us (ks.zip ws)) (EP X pins σ Qv) X.xe s := by
  obtain ⟨f, fd, G, hm, hk, hb, hkw⟩ := c.ex
  refine ⟨f, hm, hk, fun {pins σ H Hd s us vs ds S en Q Qv} I r rd st re q lx kq => ?_, fun n ks hn {pins σ H Hd s us ws vs zs ds fs S en Q Qv} I r rz ln lw rd rf st re q lx kq => ?_⟩
  · obtain ⟨W, tk, hW⟩ := lx.ex
    have hs : spDX X.K C vs H Qv (fun cls d H' => ∃ x S' Hd', Same Hd Hd' ∧ St0 X.K S' Hd' H' ∧ XR X.K Hd' x cls d ∧ R x en S') := ⟨ds, S, Hd, Q, _, rd, st, q, fun d S' v H' Hd' z1 z2 z3 z4 => kq v H' ⟨d, S', Hd', z2, z3, z4, z1⟩, fun x S' cls d H' Hd' z1 z2 z3 z4 => ⟨x, S', Hd', z2, z3, z4, z1⟩⟩
    have hl : us.length = ps.length := by rw [← r.length]; exact G.len _ _ _ _ hs
    refine wpAny_call (codeAny_mono (G.run X.A X.stack s H ⟨us, []⟩ us vs Qv _ gd hr I.env0 (.of_eq (hb us hl)) r hs) fun res s' hq => ?_)
    cases res with
    | error e => exact tk e s' (XE.of_call I (fun cls d H' ⟨x, S', Hd', z1, z2, z3, z4⟩ => hW x en S' cls d σ H' Hd' z1 z2 (re.mono z1) z3 z4) hq)
    | ok fl =>
      cases fl with
      | ret u => exact I.after hq
      | next => exact hq.elim
      | brk => exact hq.elim
      | cont => exact hq.elim
  · obtain ⟨k1, k2, k3⟩ := hkw _ hn
    have lz : ks.length = zs.length := by rw [rz.length]; exact lw.symm
    have lf : ks.length = fs.length := by rw [lz, rf.length]
    obtain ⟨W, tk, hW⟩ := lx.ex
    have hs : spDX X.K C (vs ++ ordV .non (ps.drop n) ks zs) H Qv (fun cls d H' => ∃ x S' Hd', Same Hd Hd' ∧ St0 X.K S' Hd' H' ∧ XR X.K Hd' x cls d ∧ R x en S') := ⟨_, S, Hd, Q, _, rd.append (ord_rp rf lf k2), st, q, fun d S' v H' Hd' z1 z2 z3 z4 => kq v H' ⟨d, S', Hd', z2, z3, z4, z1⟩, fun x S' cls d H' Hd' z1 z2 z3 z4 => ⟨x, S', Hd', z2, z3, z4, z1⟩⟩
    refine wpAny_call (codeAny_mono (G.run X.A X.stack s H ⟨us, ks.zip ws⟩ (us ++ ordV .none (ps.drop n) ks ws) _ Qv _ gd hr I.env0 (.of_eq (k3 us ws ln lw)) (r.append (ord_vals rz lz k2)) hs) fun res s' hq => ?_)
    cases res with
    | error e => exact tk e s' (XE.of_call I (fun cls d H' ⟨x, S', Hd', z1, z2, z3, z4⟩ => hW x en S' cls d σ H' Hd' z1 z2 (re.mono z1) z3 z4) hq)
    | ok fl =>
      cases fl with
      | ret u => exact I.after hq
      | next => exact hq.elim
      | brk => exact hq.elim
      | cont => exact hq.elim
/-- f(e, ..) -/
theorem dex_call (c : CalX X.prog X.w X.K X.mg X.base k x ps kws C) (gd : X.A.guards = some []) (hr : Room k X.A) (h : DAX X (e :: es) en S (fun ds S1 => C ds S1 Q (fun x S' => R x en S')) R) (hg : Gl X x := by rfl)
    (hdb : (x == ("__debug__" : Str)) = false := by decide) (he : starEach (e :: es) X.env = (false, eval e X.env) :: starEach es X.env := by rfl) (hpl : (backTo pos (starEach es X.env)).any (·.1) = false := by rfl) : DEX X (.Call (.Name x p) (e :: es) [] pos) en S Q R := by
  refine ⟨fun σ H Hd st re lx => ?_⟩
  intro pins s I
  obtain ⟨f, hm, hk, run, _⟩ := run_calX (R := R) c gd hr
  refine wpAny_Call_Name_kw (ld_glob I hg hm ?_ hdb)
  refine PySem.W.callWith_K (h₀ := X.base) I.ok.mod.kin hk (thn (h.run σ H Hd st re lx pos pins s I) fun us s1 ⟨vs, H1, I1, r, ds, S1, Hd1, e1, st1, r1, q1⟩ => ⟨I1.kIn, ?_⟩) he hpl
  exact run I1 r r1 st1 (re.mono e1) q1 (lx.up e1) fun v H' z => .up e1 z
/-- f(k = v, ..) -/
theorem dex_callN (c : CalX X.prog X.w X.K X.mg X.base k x ps kws C) (gd : X.A.guards = some []) (hr : Room k X.A) (hn : (0, ks) ∈ kws) (h : DK X kwl en S fun zs S1 => zs.length = ks.length ∧ C (ordV .non ps ks zs) S1 Q (fun x S' => R x en S')) (hg : Gl X x := by rfl)
    (hall : (backToKw pos (keywordEach kwl X.env)).all (·.1.isSome) = true := by rfl) (hks : (backToKw pos (keywordEach kwl X.env)).filterMap (·.1) = ks := by rfl) (hdb : (x == ("__debug__" : Str)) = false := by decide)
    (hpl : ((backTo pos (starEach [] X.env)).any (·.1) || (backToKw pos (keywordEach kwl X.env)).any (·.1.isNone)) = false := by rfl) : DEX X (.Call (.Name x p) [] kwl pos) en S Q R := by
  refine ⟨fun σ H Hd st re lx => ?_⟩
  intro pins s I
  obtain ⟨f, hm, hk, _, run⟩ := run_calX (R := R) c gd hr
  refine wpAny_Call_Name_kw (ld_glob I hg hm ?_ hdb)
  refine PySem.W.callWith_KW0 (h₀ := X.base) I.ok.mod.kin hk hall (thn (h σ H Hd st re pos pins s I) fun ws s1 ⟨zs, H1, I1, rz, fs, S1, Hd1, e1, st1, r1, l1, q1⟩ => ⟨I1.kIn, ?_⟩) hpl
  rw [hks]
  exact run 0 ks hn (us := []) (vs := []) (ds := []) I1 .nil rz rfl (by rw [← rz.length, r1.length, l1]) rfl r1 st1 (re.mono e1) q1 (lx.up e1) fun v H' z => .up e1 z
theorem DEX.mono {Q' : D → Sto → Prop} (h : DEX X e en S Q R) (k : ∀ d S', Q d S' → Q' d S') : DEX X e en S Q' R := ⟨fun σ H Hd st re lx =>
  wE_mono (h.run σ H Hd st re lx) fun _ _ ⟨d, S', Hd', e', st', r, q⟩ => ⟨d, S', Hd', e', st', r, k d S' q⟩⟩
/-- args, some of which may raise -/
theorem dax_cons (h : DEX X e en S (fun x S1 => DAX X es en S1 (fun xs S2 => QL (x :: xs) S2) R) R) (hs : PA X (e :: es) (tCons (wE X e) (wA X es)) := by exact pa_cons peW paW) : DAX X (e :: es) en S QL R := ⟨fun σ H Hd st re lx => by
  refine wA_of hs ?_
  refine wE_mono (h.run σ H Hd st re lx) fun v H1 ⟨x, S1, Hd1, e1, st1, r1, q1⟩ => ?_
  refine wA_mono (q1.run σ H1 Hd1 st1 (re.mono e1) (lx.up e1)) fun vs H2 ⟨xs, S2, Hd2, e2, st2, r2, q2⟩ => ?_
  exact ⟨x :: xs, S2, Hd2, e1.trans e2, st2, ⟨v, vs, rfl, Rp.mono e2 x v r1, r2⟩, q2⟩⟩
theorem dax_nil (q : QL [] S) : DAX X [] en S QL R := dax_of (da_nil q)
end
end DL
/-! try with several clauses, some of which name the error -/
namespace DL
open PySem PySem.Spec PyProof.Rows L2
abbrev TCl := Addr → Value → Option Addr → TS
def dSet (i : Nat) (D : Ends) : Ends := { nx := fun σ' H' => D.nx (σ'.set i none) H', rt := D.rt, bk := fun σ' H' => D.bk (σ'.set i none) H', ct := fun σ' H' => D.ct (σ'.set i none) H' }
def wMix (K : PySem.W.Frag) (Wout : WX) (D : Ends) : List (Value × Option Nat × TCl) → WX
  | [] => Wout
  | (c, none, ts) :: r => fun cls d σ H => ∃ b, PySem.W.exmOne K cls c = some b ∧ (b = true → ∀ a, H a = none → ts a cls d D σ H) ∧ (b = false → wMix K Wout D r cls d σ H)
  | (c, some i, ts) :: r => fun cls d σ H => ∃ b, PySem.W.exmOne K cls c = some b ∧ (b = true → ∀ a, H a = none → ts a cls d (dSet i D) (σ.set i (some (.ref a))) H) ∧ (b = false → wMix K Wout D r cls d σ H)
inductive HdsMix (X : Cx) : List ExceptHandler → List (Value × Option Nat × TCl) → Prop
  | nil : HdsMix X [] []
  | cons {x : Str} {c : Value} {ts : TCl} {b₀ : Stmt} {suite : List Stmt} {np pos' : Pos} {hds : List ExceptHandler} {l : List (Value × Option Nat × TCl)} (hc : Names X x c)
      (hsu : ∀ (a : Addr) (oe : Obj) (cls : Value) (d : Option Addr) (pn : List (Addr × Obj)), Zc cls d oe → (∃ vs, oe.data = .fields vs) → PSs (X.suite a ((a, oe) :: pn)) (b₀ :: suite) (ts a cls d)) (r : HdsMix X hds l) :
      HdsMix X (.ExceptHandler (some (.Name x np)) none (b₀ :: suite) pos' :: hds) ((c, none, ts) :: l)
  | consA {x n : Str} {i : Nat} {c : Value} {ts : TCl} {b₀ : Stmt} {suite : List Stmt} {np pos' : Pos} {hds : List ExceptHandler} {l : List (Value × Option Nat × TCl)} (hc : Names X x c) (hN : X.N.Nodup) (hi : X.N[i]? = some n) (hln : X.env.kindOf n = some .local)
      (hsu : ∀ (a : Addr) (oe : Obj) (cls : Value) (d : Option Addr) (pn : List (Addr × Obj)), Zc cls d oe → (∃ vs, oe.data = .fields vs) → PSs (X.suite a ((a, oe) :: pn)) (b₀ :: suite) (ts a cls d)) (r : HdsMix X hds l) :
      HdsMix X (.ExceptHandler (some (.Name x np)) (some n) (b₀ :: suite) pos' :: hds) ((c, some i, ts) :: l)
section
variable {X : Cx} {body : List Stmt} {h₀ : ExceptHandler} {hds : List ExceptHandler} {l : List (Value × Option Nat × TCl)} {pos : Pos} {tb : WX → TS} {Wout : WX}
theorem ps_try_mix (hs : X.stack = X.env :: X.outer) (hf : X.env.frame = some X.env.locals) (tk : Takes X Wout)
    (hb : ∀ (W : WX) (pn : List (Addr × Obj)) (xe : Value → Shared → Prop), Takes (X.tr pn xe) W → PassesOwn (model X.prog X.w) X.A X.env xe → PSs (X.tr pn xe) body (tb W))
    (hh : HdsMix X (h₀ :: hds) l) : PS X (.Try body (h₀ :: hds) [] [] pos) (fun D σ H => tb (wMix X.K Wout D l) D σ H) := by
  refine ⟨fun pins s σ H D I h => ?_⟩
  have ok := I.ok
  have hfr : X.A.frames = some (X.env :: X.outer) := by rw [ok.frames, hs]
  refine wpAny_Try_except ?_
  refine wpAny_mono ((hb (wMix X.K Wout D l) (X.pn ++ pins) (fun e s₁ => wpAny (model X.prog X.w) X.A (noteFrame e X.env) (fun _ s₂ => wpAny (model X.prog X.w) X.A (setFlight e none) (fun _ s₃ =>
    wpAny (model X.prog X.w) X.A (handleBy e X.env (h₀ :: hds)) (SP X pins D) X.xe s₃) X.xe s₂) X.xe s₁) (fun u s' xx => ?_) PassesOwn.looking).run [] s σ H D (I.toTry _) h) (fun f s1 hsp => ?_) (fun e s1 he => he)
  · -- the catch
    obtain ⟨a, B, sI, pins', σ', H', cls, d, rfl, J', nb, up, sky, na, os, ag, w⟩ := xx
    have J : Inv X pins σ' H' sI := J'.ofTry ok
    have sky' : Sky B (X.env :: X.outer) a (Zc cls d) X.env.locals s'.heap := by rw [← hs]; exact sky
    show wpAny (model X.prog X.w) X.A (noteFrame (.ref a) X.env) _ _ _
    refine Sky.land Zc.steady hfr hf sky' fun h3 fl3 up3 => ?_
    have J3 : Inv X pins σ' H' { s' with heap := h3 } := J.landed nb fl3.1 (up.trans up3) os ag
    obtain ⟨oe3, vs3, he3, hz3, hd3⟩ := fl3.there
    have notFr : ∀ {h : Heap} {o : Obj} {vs : Array Value}, h.FunFrames B (X.env :: X.outer) → h.get? a = some o → o.data = .fields vs → a ∉ frs (X.env :: X.outer) := fun {h o vs} ff e dd hm => by
      obtain ⟨_, o', e', hnf⟩ := ff.mem hm
      rw [e] at e'; cases e'
      exact hnf _ dd
    have nfr := notFr fl3.2.2.1 he3 hd3
    have nL : a ≠ X.env.locals := fun z => nfr (List.mem_filterMap.mpr ⟨X.env, List.mem_cons_self, by rw [hf, z]⟩)
    have nF : a ∉ X.fs := fun hm => by
      obtain ⟨e, he, q⟩ := List.mem_filterMap.mp hm
      exact nfr (List.mem_filterMap.mpr ⟨e, List.mem_cons_of_mem _ he, q⟩)
    have S3 := J3.suite he3 hd3 na nL nF
    have go : ∀ {hds' : List ExceptHandler} {l' : List (Value × Option Nat × TCl)}, HdsMix X hds' l' → wMix X.K Wout D l' cls d σ' H' →
        wpAny (model X.prog X.w) X.A (handleBy (.ref a) X.env hds') (SP X pins D) X.xe { s' with heap := h3 } := by
      intro hds' l' hk
      induction hk with
      | nil =>
        intro w
        refine wpAny_handleBy_nil ?_
        obtain ⟨k1, k2, k3, oe, vs, T, oT, ts', he, hz, hd, h1, hr⟩ := id fl3
        unfold PySem.passOn
        refine wpAny_bind (wpAny_field he hd h1 ?_)
        rw [if_neg (show ¬ ((Value.ref T == Value.none) = true) from by simp)]
        have fin : wpAny (model X.prog X.w) X.A (setFlight (.ref a) X.env.frame) (fun _ s4 => wpAny (model X.prog X.w) X.A (throw (.ref a) : Sem Flow) (SP X pins D) X.xe s4) X.xe { s' with heap := h3 } := by
          rw [hf]
          refine HandSPX.setFlight_upZ fl3 fun h4 hh4 up4 => wpAny_throw (tk _ _ ?_)
          exact ⟨a, B, sI, pins, σ', H', cls, d, rfl, J, nb, (up.trans up3).trans up4, .inr (.inr (by rw [hs]; exact hh4)), na, os, ag, w⟩
        first
          | exact wpAny_bind (wpAny_pure (wpAny_bind fin))
          | exact wpAny_bind fin
      | @cons x c ts b₀ suite np pos' hds2 l2 hc hsu r ih =>
        intro w
        obtain ⟨b, hb1, hyes, hno⟩ := w
        refine wpAny_handleBy_cons (codeAny_handlers_test ?_) (by intro q; cases q)
        have LT : PySem.W.Looks (model X.prog X.w) h3 (typeOf (.ref a)) cls := fun A Q E s k q => wpAny_typeOf_ref (k _ _ he3) (by rw [hz3.1]; exact q)
        have LM := PySem.W.exm_one (M := model X.prog X.w) (J3.kIn) LT hb1
        have test : ∀ {Q : Value → Shared → Prop} {E : Value → Shared → Prop}, Q c { s' with heap := h3 } → wpAny (model X.prog X.w) (X.A.mark (some (.ref a))) (eval (.Name x np) X.env) Q E { s' with heap := h3 } := fun {Q E} q => by
          obtain ⟨hg, hdbg, hm | ⟨hm, hv, hnn⟩⟩ := hc
          · exact ld_glob (X := X.suite a ((a, oe3) :: (X.pn ++ pins))) S3 hg hm q hdbg
          · exact ld_blt (X := X.suite a ((a, oe3) :: (X.pn ++ pins))) S3 hg hm hv q hnn hdbg
        refine test (LM.here ?_)
        cases b with
        | true =>
          refine codeAny_handlers_suite ?_
          refine HandSPX.lands_againZ fl3 fun h4 fl4 up4 => ?_
          have J4 : Inv X pins σ' H' { s' with heap := h4 } := J.landed nb fl4.1 ((up.trans up3).trans up4) os ag
          obtain ⟨oe4, vs4, he4, hz4, hd4⟩ := fl4.there
          have S4 := J4.suite he4 hd4 na nL nF
          refine wpAny_mono ((hsu a oe4 cls d (X.pn ++ pins) hz4 ⟨_, hd4⟩).run [] _ _ H' _ S4 (hyes rfl a na)) (fun f s6 hsp => ?_) (fun _ _ z => False.elim z)
          cases f with
          | next =>
            obtain ⟨σ6, H6, S6, q6⟩ := hsp
            exact ⟨_, _, S6.unsuite ok, q6⟩
          | brk =>
            obtain ⟨σ6, H6, S6, q6⟩ := hsp
            exact ⟨_, _, S6.unsuite ok, q6⟩
          | cont =>
            obtain ⟨σ6, H6, S6, q6⟩ := hsp
            exact ⟨_, _, S6.unsuite ok, q6⟩
          | ret u =>
            obtain ⟨v6, σ6, H6, S6, r6, q6⟩ := hsp
            exact ⟨_, _, _, S6.unsuite ok, r6, q6⟩
        | false =>
          show wpAny _ X.A (handleBy (.ref a) X.env hds2) _ _ _
          exact ih (hno rfl)
      | @consA x n i c ts b₀ suite np pos' hds2 l2 hc hN hi hln hsu r ih =>
        intro w
        obtain ⟨b, hb1, hyes, hno⟩ := w
        refine wpAny_handleBy_cons (codeAny_handlers_test ?_) (by intro q; cases q)
        have LT : PySem.W.Looks (model X.prog X.w) h3 (typeOf (.ref a)) cls := fun A Q E s k q => wpAny_typeOf_ref (k _ _ he3) (by rw [hz3.1]; exact q)
        have LM := PySem.W.exm_one (M := model X.prog X.w) (J3.kIn) LT hb1
        have test : ∀ {Q : Value → Shared → Prop} {E : Value → Shared → Prop}, Q c { s' with heap := h3 } → wpAny (model X.prog X.w) (X.A.mark (some (.ref a))) (eval (.Name x np) X.env) Q E { s' with heap := h3 } := fun {Q E} q => by
          obtain ⟨hg, hdbg, hm | ⟨hm, hv, hnn⟩⟩ := hc
          · exact ld_glob (X := X.suite a ((a, oe3) :: (X.pn ++ pins))) S3 hg hm q hdbg
          · exact ld_blt (X := X.suite a ((a, oe3) :: (X.pn ++ pins))) S3 hg hm hv q hnn hdbg
        refine test (LM.here ?_)
        cases b with
        | true =>
          refine codeAny_handlers_suite_as ?_
          refine HandSPX.lands_againZ fl3 fun h4 fl4 up4 => ?_
          have J4 : Inv X pins σ' H' { s' with heap := h4 } := J.landed nb fl4.1 ((up.trans up3).trans up4) os ag
          obtain ⟨oe4, vs4, he4, hz4, hd4⟩ := fl4.there
          have S4 := J4.suite he4 hd4 na nL nF
          refine store_ok (X := X.suite a ((a, oe4) :: (X.pn ++ pins))) (v := .ref a) S4 hN hi (.inl hln) rfl (fun s5 S5 => ?_) (.inr hln)
          refine wpAny_mono ((hsu a oe4 cls d (X.pn ++ pins) hz4 ⟨_, hd4⟩).run [] s5 _ H' _ S5 (hyes rfl a na)) (fun f s6 hsp => ?_) (fun _ _ z => False.elim z)
          have end_ : ∀ {σ6 : L2.St} {H6 : Hp} {Q : Shared → Prop}, Inv (X.suite a ((a, oe4) :: (X.pn ++ pins))) [] σ6 H6 s6 → (∀ s7, Inv X pins (σ6.set i none) H6 s7 → Q s7) →
              wpAny (model X.prog X.w) X.A (do bindName X.env n .none; unbindBehindTheSuite X.env n pos') (fun _ s7 => Q s7) X.xe s6 := fun {σ6 H6 Q} S6 hq => gone_ok (S6.unsuite ok) hN hi hln hq
          cases f with
          | next =>
            obtain ⟨σ6, H6, S6, q6⟩ := hsp
            exact end_ S6 fun s7 J7 => ⟨_, _, J7, q6⟩
          | brk =>
            obtain ⟨σ6, H6, S6, q6⟩ := hsp
            exact end_ S6 fun s7 J7 => ⟨_, _, J7, q6⟩
          | cont =>
            obtain ⟨σ6, H6, S6, q6⟩ := hsp
            exact end_ S6 fun s7 J7 => ⟨_, _, J7, q6⟩
          | ret u =>
            obtain ⟨v6, σ6, H6, S6, r6, q6⟩ := hsp
            exact end_ S6 fun s7 J7 => ⟨_, _, _, J7, r6, q6⟩
        | false =>
          show wpAny _ X.A (handleBy (.ref a) X.env hds2) _ _ _
          exact ih (hno rfl)
    exact go hh w
  · cases f with
    | next =>
      obtain ⟨σ', H', J', q⟩ := hsp
      exact wpAny_execs_nil ⟨σ', H', J'.ofTry ok, q⟩
    | brk =>
      obtain ⟨σ', H', J', q⟩ := hsp
      exact ⟨σ', H', J'.ofTry ok, q⟩
    | cont =>
      obtain ⟨σ', H', J', q⟩ := hsp
      exact ⟨σ', H', J'.ofTry ok, q⟩
    | ret u =>
      obtain ⟨v, σ', H', J', r, q⟩ := hsp
      exact ⟨v, σ', H', J'.ofTry ok, r, q⟩
end
end DL
namespace DL
open PySem PySem.Spec PyProof.Rows L2
/-! ### errors raised -/
/-- an error class of the program without an own __init__ -/
structure OwnErr (K : PySem.W.Frag) (mg : Str → Option Value) (x : Str) (C : Addr) : Prop where
  gC : mg x = some (.ref C)
  kC : PySem.W.keepIn K (.ref C) = true
  q : PySem.W.excIn K C [.type "ValueError", .type "Exception", .type "BaseException", .type "object"] "ValueError.__new__" = true
  exC : PySem.W.subIn K (.ref C) (.type "BaseException") = some true
  tyC : PySem.W.typeIn K (.ref C) = some (.type "type")
def ShowX : D → Prop
  | .int i => i.natAbs < 2 ^ 1900
  | .non => True
  | _ => False
section
variable {X : Cx} {a e : Expr} {st : Stmt} {sts : List Stmt} {en : DEnv} {S : Sto} {Z : Dn} {Q : D → Sto → Prop} {R : RX} {pos pos' p p2 : Pos} {x qual fld pre : Str} {C fI : Addr} {j : Nat} {m : Str} {k : Nat}
theorem dsx_raise_own (T : OwnErr X.K X.mg x C) (hc : X.calm = true) (q : R ⟨.ref C, none⟩ en S) (hg : Gl X x := by rfl) (hdb : (x == ("__debug__" : Str)) = false := by decide) : DS1X X (.Raise (some (.Call (.Name x p) [.Constant (.str m) j p2] [] pos)) none pos') en S Z R := ⟨fun σ H Hd st re De l lx => by
  obtain ⟨W, tk, hW⟩ := lx.ex
  refine wS_of (ps_raise hc tk (pmk_own PySem.F.excBase_ValueError T.q T.gC T.kC (raises_own T.exC T.tyC) hg (hdb := hdb))) ?_
  exact hW ⟨.ref C, none⟩ en S _ none σ H Hd (Same.refl _) st re ⟨rfl, rfl⟩ q⟩
theorem show_fmt {K : PySem.W.Frag} {P : Program} {w : World} {Hd : Hp} {d : D} {v : V} (h : ShowX d) (r : Rp K Hd d v) (hp : pre.length ≤ 1000) : ∀ u, RelV v u → ∃ txt, PySem.LimX.FmtOk P w u txt ∧ (Str.empty ++ pre ++ txt).length ≤ sizeLine := fun u ru => by
  have e : sizeLine = 16777216 := by decide
  have e0 : (Str.empty ++ pre).length = pre.length := by rw [strLen_append]; show 0 + _ = _; omega
  cases d with
  | int i =>
    have r : v = .int i := r
    subst r
    obtain ⟨t, rfl⟩ := ru
    obtain ⟨h1, h2⟩ := digits_le h
    refine ⟨_, PySem.LimX.fmt_int h2, ?_⟩
    rw [strLen_append, e0, e]
    have : (Str.ofString (toString i)).length ≤ 1921 := h1
    first | omega | (have z := int_text_len_1921 h2; omega)
  | non =>
    have r : v = .non := r
    subst r
    have ru : u = .none := ru
    subst ru
    refine ⟨_, PySem.LimX.fmt_none, ?_⟩
    rw [strLen_append, e0, e]
    have : (Str.ofString "None").length = 4 := by decide
    omega
  | _ => exact h.elim
theorem dsx_raise_lim (T : PySem.LimX.LimTxt X.prog X.K X.mg x qual fld pre C fI) (L : PySem.LimX.FldOk fld) (hp : pre.length ≤ 1000) (hr : Room k X.A) (hc : X.calm = true) (h : DE X a en S fun v S1 => ShowX v ∧ R ⟨.ref C, some (fld, v)⟩ en S1) (hg : Gl X x := by rfl)
    (he : starEach (a :: []) X.env = (false, eval a X.env) :: starEach [] X.env := by rfl) (hpl : (backTo pos (starEach [] X.env)).any (·.1) = false := by rfl) (hdb : (x == ("__debug__" : Str)) = false := by decide) :
    DS1X X (.Raise (some (.Call (.Name x p) [a] [] pos)) none pos') en S Z R := ⟨fun σ H Hd st re De l lx => by
  obtain ⟨W, tk, hW⟩ := lx.ex
  have hz1 : (Str.empty ++ pre).length ≤ sizeLine := by
    rw [strLen_append, show sizeLine = 16777216 by decide]
    show 0 + _ ≤ _
    omega
  refine wS_of (ps_raise hc tk (pmk_lim T L hz1 hr (pa_cons peW pa_nil (hs := he)) hg he hpl hdb)) ?_
  refine wE_mono (h σ H Hd st re) fun v H1 ⟨d, S1, Hd1, e1, st1, r1, sx, q⟩ => ?_
  refine ⟨v, rfl, show_fmt sx r1 hp, fun dd hdd => ?_⟩
  obtain ⟨e2, st2⟩ := st1.laid (o := .xd [(fld, v)]) hdd
  exact hW ⟨.ref C, some (fld, d)⟩ en S1 _ (some dd) σ _ _ (e1.trans e2) st2 (re.mono (e1.trans e2)) ⟨rfl, dd, v, rfl, upd_same, Rp.mono e2 d v r1⟩ q⟩
/-! ### errors caught -/
def excD (K : PySem.W.Frag) (a : Addr) (d : Option Addr) (x : XD) : D := .ext fun H v => v = .ref a ∧ XR K H x x.cls d
/-- what an except suite does -/
def SuD (X : Cx) (o : Option Nat) (su : List Stmt) (x : XD) (en : DEnv) (S : Sto) (Z : Dn) : Prop := match o with
  | none => ∀ (a : Addr) (oe : Obj) (d : Option Addr) (pn : List (Addr × Obj)), Zc x.cls d oe → (∃ vs, oe.data = .fields vs) → DS (X.suite a ((a, oe) :: pn)) su en S Z
  | some i => ∀ (a : Addr) (oe : Obj) (d : Option Addr) (pn : List (Addr × Obj)), Zc x.cls d oe → (∃ vs, oe.data = .fields vs) →
      DS (X.suite a ((a, oe) :: pn)) su (en.set i (some (excD X.K a d x))) S { nx := fun en2 S2 => Z.nx (en2.set i none) S2, rt := Z.rt, bk := fun en2 S2 => Z.bk (en2.set i none) S2, ct := fun en2 S2 => Z.ct (en2.set i none) S2 }
def RMix (X : Cx) (Z : Dn) (R : RX) : List (Value × Option Nat × List Stmt) → RX
  | [] => R
  | (c, o, su) :: r => fun x en S => ∃ b, PySem.W.exmOne X.K x.cls c = some b ∧ (b = true → SuD X o su x en S Z) ∧ (b = false → RMix X Z R r x en S)
/-- the clauses, as they stand -/
inductive DHds (X : Cx) : List ExceptHandler → List (Value × Option Nat × List Stmt) → Prop
  | nil : DHds X [] []
  | cons {x : Str} {c : Value} {b₀ : Stmt} {suite : List Stmt} {np pos' : Pos} {hds : List ExceptHandler} {l : List (Value × Option Nat × List Stmt)} (hc : Names X x c) (r : DHds X hds l) :
      DHds X (.ExceptHandler (some (.Name x np)) none (b₀ :: suite) pos' :: hds) ((c, none, b₀ :: suite) :: l)
  | consA {x n : Str} {i : Nat} {c : Value} {b₀ : Stmt} {suite : List Stmt} {np pos' : Pos} {hds : List ExceptHandler} {l : List (Value × Option Nat × List Stmt)} (hc : Names X x c) (hN : X.N.Nodup) (hi : X.N[i]? = some n) (hln : X.env.kindOf n = some .local) (r : DHds X hds l) :
      DHds X (.ExceptHandler (some (.Name x np)) (some n) (b₀ :: suite) pos' :: hds) ((c, some i, b₀ :: suite) :: l)
def tSu (X : Cx) (su : List Stmt) : TCl := fun a cls d De σ H => ∀ (oe : Obj) (pn : List (Addr × Obj)), Zc cls d oe → (∃ vs, oe.data = .fields vs) → wSs (X.suite a ((a, oe) :: pn)) su De σ H
theorem mix_of : ∀ {hds : List ExceptHandler} {cl : List (Value × Option Nat × List Stmt)}, DHds X hds cl → HdsMix X hds (cl.map fun t => (t.1, t.2.1, tSu X t.2.2))
  | _, _, .nil => .nil
  | _, _, .cons hc r => .cons hc (fun a oe cls d pn hz hf => ⟨fun pins s _ _ _ I h => h oe pn hz hf pins s I⟩) (mix_of r)
  | _, _, .consA hc hN hi hln r => .consA hc hN hi hln (fun a oe cls d pn hz hf => ⟨fun pins s _ _ _ I h => h oe pn hz hf pins s I⟩) (mix_of r)
theorem rmix_w {Hd : Hp} {De : Ends} {Wout : WX} (l : Lift X.K Hd Z De) (hW : ∀ x en S cls d σ H Hd', Same Hd Hd' → St0 X.K S Hd' H → RpE X.K Hd' en σ → XR X.K Hd' x cls d → R x en S → Wout cls d σ H) : ∀ (cl : List (Value × Option Nat × List Stmt)) (x : XD) (en : DEnv) (S : Sto) (cls : Value) (d : Option Addr) (σ : L2.St) (H Hd' : Hp),
    Same Hd Hd' → St0 X.K S Hd' H → RpE X.K Hd' en σ → XR X.K Hd' x cls d → RMix X Z R cl x en S → wMix X.K Wout De (cl.map fun t => (t.1, t.2.1, tSu X t.2.2)) cls d σ H
  | [], x, en, S, cls, d, σ, H, Hd', z1, z2, z3, z4, q => hW x en S cls d σ H Hd' z1 z2 z3 z4 q
  | (c, none, su) :: r, x, en, S, cls, d, σ, H, Hd', z1, z2, z3, z4, q => by
    obtain ⟨b, hb, hy, hn⟩ := q
    refine ⟨b, by rw [z4.1]; exact hb, fun hbt a ha oe pn hz hf => ?_, fun hbf => rmix_w l hW r x en S cls d σ H Hd' z1 z2 z3 z4 (hn hbf)⟩
    exact (hy hbt a oe d pn (by rw [← z4.1]; exact hz) hf).run σ H Hd' z2 z3 De (l.up z1)
  | (c, some i, su) :: r, x, en, S, cls, d, σ, H, Hd', z1, z2, z3, z4, q => by
    obtain ⟨b, hb, hy, hn⟩ := q
    refine ⟨b, by rw [z4.1]; exact hb, fun hbt a ha oe pn hz hf => ?_, fun hbf => rmix_w l hW r x en S cls d σ H Hd' z1 z2 z3 z4 (hn hbf)⟩
    have l' := l.up z1
    refine (hy hbt a oe d pn (by rw [← z4.1]; exact hz) hf).run (σ.set i (some (.ref a))) H Hd' z2 (z3.set (d := excD X.K a d x) ⟨Hd', Same.refl _, rfl, by rw [← z4.1]; exact z4⟩ i) (dSet i De) ?_
    exact ⟨fun en2 S2 σ2 H2 Hd2 y1 y2 y3 q2 => l'.nx _ S2 _ H2 Hd2 y1 y2 (y3.drop i) q2, l'.rt, fun en2 S2 σ2 H2 Hd2 y1 y2 y3 q2 => l'.bk _ S2 _ H2 Hd2 y1 y2 (y3.drop i) q2, fun en2 S2 σ2 H2 Hd2 y1 y2 y3 q2 => l'.ct _ S2 _ H2 Hd2 y1 y2 (y3.drop i) q2⟩
/-- try: body / except C: .. / except D as e: .. -/
theorem dsx_try {body : List Stmt} {h₀ : ExceptHandler} {hds : List ExceptHandler} {cl : List (Value × Option Nat × List Stmt)} (hs : X.stack = X.env :: X.outer) (hf : X.env.frame = some X.env.locals) (hh : DHds X (h₀ :: hds) cl)
    (hb : ∀ (pn : List (Addr × Obj)) (xe : Value → Shared → Prop), DSX (X.tr pn xe) body en S Z (RMix X Z R cl)) : DS1X X (.Try body (h₀ :: hds) [] [] pos) en S Z R := ⟨fun σ H Hd st re De l lx => by
  obtain ⟨Wout, tk, hW⟩ := lx.ex
  refine wS_of (ps_try_mix (tb := fun W => fun De σ H => ∀ (pn : List (Addr × Obj)) (xe : Value → Shared → Prop), Takes (X.tr pn xe) W → PassesOwn (model X.prog X.w) X.A X.env xe → wSs (X.tr pn xe) body De σ H) hs hf tk (fun W pn xe t pa => ⟨fun pins s _ _ _ I h => h pn xe t pa pins s I⟩) (mix_of hh)) ?_
  intro pn xe t pa
  exact (hb pn xe).run σ H Hd st re De l ⟨_, t, fun x en S cls d σ H Hd' z1 z2 z3 z4 q => rmix_w l hW cl x en S cls d σ H Hd' z1 z2 z3 z4 q⟩⟩
/-- .. where all errors are caught: nothing leaves -/
theorem ds_try {body : List Stmt} {h₀ : ExceptHandler} {hds : List ExceptHandler} {cl : List (Value × Option Nat × List Stmt)} (hs : X.stack = X.env :: X.outer) (hf : X.env.frame = some X.env.locals) (hh : DHds X (h₀ :: hds) cl)
    (hb : ∀ (pn : List (Addr × Obj)) (xe : Value → Shared → Prop), DSX (X.tr pn xe) body en S Z (RMix X Z (fun _ _ _ => False) cl)) : DS1 X (.Try body (h₀ :: hds) [] [] pos) en S Z := ⟨fun σ H Hd st re De l =>
  (dsx_try (R := fun _ _ _ => False) hs hf hh hb).run σ H Hd st re De l ⟨_, takes_none5, fun _ _ _ _ _ _ _ _ _ _ _ _ q => q⟩⟩
/-- e.f of a caught error -/
theorem de_exf {b : Addr} {oe : Obj} {d : Option Addr} {pn : List (Addr × Obj)} {dv : D} (T : XfC X.K C) (hno : PySem.W.findIn X.K (.ref C) fld = some none) (hz : Zc (.ref C) d oe) (hf : ∃ vs, oe.data = .fields vs)
    (h : DE (X.suite b ((b, oe) :: pn)) e en S fun y S1 => y = excD X.K b d ⟨.ref C, some (fld, dv)⟩ ∧ Q dv S1) (hb : attributeBase e fld X.env (eval e X.env) = eval e X.env := by rfl) : DE (X.suite b ((b, oe) :: pn)) (.Attribute e fld pos) en S Q := ⟨fun σ H Hd st re => by
  refine wE_of (pe_xf T hno hz hf peW hb) ?_
  refine wE_mono (h σ H Hd st re) fun v H1 ⟨y, S1, Hd1, e1, st1, r1, ey, q⟩ => ?_
  subst ey
  obtain ⟨H0, s0, ev, _, dd, u, ed, eu, ru⟩ := r1
  exact ⟨ev, rfl, dd, [(fld, u)], u, ed, st1.sub _ _ (s0 _ _ eu), by simp [List.lookup], .up e1 (.here (d := dv) st1 (Rp.mono s0 dv u ru) q)⟩⟩
end
end DL
namespace DL
open PySem PySem.Spec PyProof.Rows L2
theorem exm_two {K : PySem.W.Frag} {A B : Addr} {b : Bool} (h1 : PySem.W.subIn K (.ref B) (.type "BaseException") = some true) (h2 : PySem.W.isClsIn K B = true) (h3 : PySem.W.typeIn K (.ref B) = some (.type "type")) (h4 : PySem.W.subIn K (.ref A) (.ref B) = some b) :
    PySem.W.exmOne K (.ref A) (.ref B) = some b := by
  have e1 : (PySem.W.subIn K (.ref B) (.type "BaseException") == some true) = true := by rw [h1] <;> rfl
  have e2 : ((PySem.W.clsIn K B).isSome && PySem.W.typeIn K (.ref B) == some (.type "type")) = true := by
    have h2' : (PySem.W.clsIn K B).isSome = true := h2
    rw [h2', h3] <;> rfl
  show (if (PySem.W.subIn K (.ref B) (.type "BaseException") == some true) = true then (if ((PySem.W.clsIn K B).isSome && PySem.W.typeIn K (.ref B) == some (.type "type")) = true then PySem.W.subIn K (.ref A) (.ref B) else none) else none) = some b
  rw [if_pos e1, if_pos e2]
  exact h4
theorem xf_of {P : Program} {K : PySem.W.Frag} {mg : Str → Option Value} {x qual fld pre : Str} {C fI : Addr} (T : PySem.LimX.LimTxt P K mg x qual fld pre C fI) : XfC K C := ⟨T.ga, T.gg, T.exC, T.hdC⟩
section
variable {X : Cx} {sts : List Stmt} {en : DEnv} {S : Sto} {Z : Dn} {R : RX}
theorem dsx_freeze (i : Nat) {p : Addr} {l : List D} {S' : Sto} (he : en[i]? = some (some (.raw (.ref p))) := by rfl) (h : DSX X sts (en.set i (some (.lst l))) S' Z R) (hS : S = (p, l) :: S' := by rfl) : DSX X sts en S Z R := ⟨fun σ H Hd st re De lf lx => by
  subst hS
  obtain ⟨xs, r, e1, st'⟩ := st.frozen
  obtain ⟨v, e2, rv⟩ := re.get he
  have rv : v = V.ref p := rv
  subst rv
  have re' : RpE X.K (upd Hd p (.lst xs)) (en.set i (some (.lst l))) (σ.set i (some (.ref p))) := (re.mono e1).set (d := .lst l) ⟨p, xs, rfl, upd_same, r.mono e1⟩ i
  have es : σ.set i (some (.ref p)) = σ := by
    have hi := List.getElem?_eq_some_iff.mp e2
    obtain ⟨h1, h2⟩ := hi
    rw [← h2]
    exact List.set_getElem_self h1
  rw [es] at re'
  exact h.run σ H _ st' re' De (lf.up e1) (lx.up e1)⟩
theorem dsx_forget {p : Addr} {l : List D} {S' : Sto} (h : DSX X sts en S' Z R) (hS : S = (p, l) :: S' := by rfl) : DSX X sts en S Z R := ⟨fun σ H Hd st re De lf lx => by
  subst hS
  exact h.run σ H Hd st.drop re De lf lx⟩
end
end DL
/-! l.count(x) over data; sum, zip -/
namespace DL
open PySem PySem.Spec PyProof.Rows L2
def rCountD (K : PySem.W.Frag) : V → List V → Hp → VK → Prop := fun x xs H Q => ∃ (a : Addr) (y : V) (d : PyData) (ds : List PyData), x = V.ref a ∧ xs = [y] ∧ Dp K H (V.ref a) (.list ds) ∧ Dp K H y d ∧ PyData.plainAll ds = true ∧ d.plain = true ∧ d.depth ≤ 9 ∧ Q (.int ((ds.countP fun z => PyData.eqv z d : Nat) : Int)) H
theorem mt_countD {X : Cx} (hu : X.A.units + 65 < cLine) : MtR X "list.count" (rCountD X.K) := by
  intro pins s σ H x xs v us Q I rx rxs h
  obtain ⟨a, y, d, ds, rfl, rfl, hl, hy, pl, pd, hdp, q⟩ := h
  cases rx
  obtain ⟨u, rfl, ru⟩ := rxs.one
  obtain ⟨bs, r1⟩ := Dp.reads I d y u hy ru
  cases hl with
  | lst hs ha =>
    obtain ⟨its, rv, hL, _⟩ := I.list hs
    obtain ⟨as, rr⟩ := Dp.readsAll I ds _ its ha rv
    exact PySem.SeqAt.count_list_data (vs := its.toArray) hL.isList rr r1 pl pd (by omega) ⟨.int _, H, I.tok _, ⟨_, rfl⟩, q⟩
theorem countP_toPy (x : D) : ∀ l : List D, (toPyL l).countP (fun z => PyData.eqv z (toPy x)) = l.countP fun z => eqB z x
  | [] => rfl
  | d :: l => by
    show (toPy d :: toPyL l).countP _ = _
    rw [List.countP_cons, List.countP_cons, countP_toPy x l] <;> rfl
section
variable {X : Cx} {e : Expr} {en : DEnv} {S : Sto}
theorem de_count {o : Expr} {apos cpos : Pos} {Q : D → Sto → Prop} (hu : X.A.units + 65 < cLine) (h : DE X o en S fun d S1 => ∃ l, d = .lst l ∧ flatOkL 8 l = true ∧ PyData.plainAll (toPyL l) = true ∧ DA X [e] en S1 fun vs S2 => ∃ x, vs = [x] ∧ flatOk 9 x = true ∧ (toPy x).plain = true ∧ Q (.int ((l.countP fun z => eqB z x : Nat) : Int)) S2)
    (mk : ∀ {to : TE} {t : TA}, MtR X "list.count" (rCountD X.K) → PE X o to → PA X [e] t → PE X (.Call (.Attribute o "count" apos) [e] [] cpos) (tBM X.K "list" (rCountD X.K) to t) := by
      exact fun hm ho ha => pe_bm PySem.F.plainAttrs_list PySem.F.slot_list_count PySem.F.type_list_count hm ho ha) : DE X (.Call (.Attribute o "count" apos) [e] [] cpos) en S Q := ⟨fun σ H Hd st re => by
  refine wE_of (mk (mt_countD hu) peW paW) ?_
  refine wE_mono (h σ H Hd st re) fun o' H1 ⟨d, S1, Hd1, e1, st1, r1, l, f1, hf, hp, q⟩ => ?_
  subst f1
  have r1' := Rp.mono st1.sub _ _ r1
  obtain ⟨a, xs, rfl, hx, _⟩ := r1'
  refine ⟨.inl ⟨rfl, xs, .of hx⟩, ?_⟩
  refine wA_mono (q σ H1 Hd1 st1 (re.mono e1)) fun vs H2 ⟨ds, S2, Hd2, e2, st2, r2, x, f2, fx, px, q2⟩ => ?_
  subst f2
  obtain ⟨v1, f3, rv⟩ := one_rp r2
  subst f3
  have r3 := Rp.mono st2.sub _ _ (Rp.mono e2 _ _ r1)
  have r4 := Rp.mono st2.sub _ _ rv
  have hl := dp_of 9 (.lst l) (.ref a) (flat9l hf) r3
  refine ⟨a, v1, toPy x, toPyL l, rfl, rfl, hl, dp_of 9 x v1 fx r4, hp, px, (lay_of 9 x fx).2, ?_⟩
  rw [countP_toPy]
  exact ⟨.int _, S2, Hd2, e1.trans e2, st2, rfl, q2⟩⟩
end
/-- whole numbers, truths -/
theorem flat_ints : ∀ l : List Int, flatOkL 8 (l.map D.int) = true
  | [] => rfl
  | i :: l => by
    show (flatOk 8 (.int i) && flatOkL 8 (l.map D.int)) = true
    rw [flat_ints l] <;> rfl
theorem flat_bls : ∀ l : List Bool, flatOkL 8 (l.map D.bl) = true
  | [] => rfl
  | i :: l => by
    show (flatOk 8 (.bl i) && flatOkL 8 (l.map D.bl)) = true
    rw [flat_bls l] <;> rfl
theorem plain_ints : ∀ l : List Int, PyData.plainAll (toPyL (l.map D.int)) = true
  | [] => rfl
  | i :: l => by
    show ((toPy (.int i)).plain && PyData.plainAll (toPyL (l.map D.int))) = true
    rw [plain_ints l] <;> rfl
theorem plain_bls : ∀ l : List Bool, PyData.plainAll (toPyL (l.map D.bl)) = true
  | [] => rfl
  | i :: l => by
    show ((toPy (.bl i)).plain && PyData.plainAll (toPyL (l.map D.bl))) = true
    rw [plain_bls l] <;> rfl
theorem eqB_int (i j : Int) : eqB (.int i) (.int j) = decide (i = j) := rfl
theorem eqB_bl (i j : Bool) : eqB (.bl i) (.bl j) = (i == j) := by cases i <;> cases j <;> rfl
theorem count_ints (l : List Int) (v : Int) : ((l.map D.int).countP fun z => eqB z (.int v)) = l.countP fun z => decide (z = v) := by
  rw [List.countP_map]
  congr 1
theorem count_bls (l : List Bool) (v : Bool) : ((l.map D.bl).countP fun z => eqB z (.bl v)) = l.countP fun z => z == v := by
  rw [List.countP_map]
  congr 1
end DL
/-! sum and min of a tuple of whole numbers -/
namespace DL
open PySem PySem.Spec PyProof.Rows L2
def rSumT (K : PySem.W.Frag) : List V → Hp → VK → Prop := fun vs H Q => ∃ (a : Addr) (ns : List Int), vs = [V.ref a] ∧ SqT K H a (ns.map V.int) ∧ Q (.int ns.sum) H
theorem cr_sumT {X : Cx} (hc : X.calm = true) : CallR X (.builtin "sum") (rSumT X.K) := by
  intro pins s σ H vs us Q I r h
  obtain ⟨a, ns, rfl, hs, q⟩ := h
  obtain ⟨its, rv, ⟨o, ho, hcl, n, hd⟩, _⟩ := I.tuple hs
  rw [Vals.ref1 r]
  have hi := rv.ints
  obtain ⟨xs, e⟩ := hi.allInts.items
  have hn : numsOf (intItems xs).toList = ns := by rw [← e]; exact hi.numsOf
  rw [nums_intItems] at hn
  have hl : s.heap.IsTuple a (intItems xs) := by rw [← e]; exact ⟨o, ho, hcl, n, hd⟩
  refine PySem.W.ktm_sumG (I.ok.hd hc) hl fun h' tk t' hk => ?_
  rw [preSum_eq, List.take_of_length_le (by simp), hn]
  exact ⟨.int _, H, I.kept hk, ⟨_, rfl⟩, q⟩
theorem drc_sumT {K : PySem.W.Frag} {S : Sto} {Q : D → Sto → Prop} (ns : List Int) (q : Q (.int ns.sum) S) : DRC K (rSumT K) [.tup (ns.map D.int)] S Q := fun H Hd vs Qv st rr k => by
  obtain ⟨v, e1, rv⟩ := one_rp rr
  obtain ⟨a, xs, f1, f2, f3⟩ := Rp.mono st.sub _ _ rv
  subst e1 f1
  exact ⟨a, ns, rfl, by rw [← ints_of f3]; exact f2, k _ _ (.here (d := .int _) st rfl q)⟩
def rMinT (K : PySem.W.Frag) : List V → Hp → VK → Prop := fun vs H Q => ∃ (a : Addr) (ns : List Int), vs = [V.ref a] ∧ SqT K H a (ns.map V.int) ∧ 0 < ns.length ∧ ∀ m, m ∈ ns → Q (.int m) H
theorem hold_ints {h : Heap} : ∀ {us : List Value} {ns : List Int}, IntsAre us ns → PySem.W.HoldAll h us ns
  | _, _, .nil => ⟨_, .nil⟩
  | _, _, .cons n t r => by
    obtain ⟨as, ra⟩ := hold_ints (h := h) r
    exact ⟨_, .cons (.int n t) ra⟩
theorem cr_minT {X : Cx} (hc : X.calm = true) (hu : X.A.units + 64 < cLine) : CallR X (.builtin "min") (rMinT X.K) := by
  intro pins s σ H vs us Q I r h
  obtain ⟨a, ns, rfl, hs, hne, q⟩ := h
  obtain ⟨its, rv, ⟨o, ho, hcl, n, hd⟩, _⟩ := I.tuple hs
  rw [Vals.ref1 r]
  have hi := rv.ints
  have hl : s.heap.IsTuple a its.toArray := ⟨o, ho, hcl, n, hd⟩
  cases ns with
  | nil => cases hne
  | cons x xs =>
    refine PySem.W.min_tuple_datum (x := x) (xs := xs) (I.ok.hd hc) hl (hold_ints hi) (by show X.A.units + 1 + 0 < _; omega) fun i v h' tk hv hm hk => ?_
    obtain ⟨y, e1, ry⟩ := vals_at rv (show its[i]? = some v by simpa using hv)
    obtain ⟨n', hn', rfl⟩ := List.mem_map.mp (List.mem_of_getElem? e1)
    exact ⟨.int n', H, I.kept hk, ry, q n' hn'⟩
theorem drc_minT {K : PySem.W.Frag} {S : Sto} {Q : D → Sto → Prop} (ns : List Int) (h : 0 < ns.length) (q : ∀ m, m ∈ ns → Q (.int m) S) : DRC K (rMinT K) [.tup (ns.map D.int)] S Q := fun H Hd vs Qv st rr k => by
  obtain ⟨v, e1, rv⟩ := one_rp rr
  obtain ⟨a, xs, f1, f2, f3⟩ := Rp.mono st.sub _ _ rv
  subst e1 f1
  exact ⟨a, ns, rfl, by rw [← ints_of f3]; exact f2, h, fun m hm => k _ _ (.here (d := .int _) st rfl (q m hm))⟩
end DL
/-! xs.extend(ys) -/
namespace DL
open PySem PySem.Spec PyProof.Rows L2
section
variable {X : Cx} {e : Expr} {en : DEnv} {S : Sto}
theorem de_extend {o : Expr} {apos cpos : Pos} {Q : D → Sto → Prop} (h : DE X o en S fun d S1 => ∃ p l, d = .raw (.ref p) ∧ getS p S1 = some l ∧ DA X [e] en S1 fun vs S2 => ∃ l2 l, vs = [.lst l2] ∧ getS p S2 = some l ∧ l.length + l2.length ≤ 200000 ∧ Q .non (setS p (l ++ l2) S2))
    (mk : ∀ {to : TE} {t : TA}, PE X o to → PA X [e] t → PE X (.Call (.Attribute o "extend" apos) [e] [] cpos) (tBM X.K "list" rExtend to t) := by
      exact fun ho ha => pe_bm PySem.F.plainAttrs_list PySem.F.slot_list_extend PySem.F.type_list_extend mt_extend ho ha) : DE X (.Call (.Attribute o "extend" apos) [e] [] cpos) en S Q := ⟨fun σ H Hd st re => by
  refine wE_of (mk peW paW) ?_
  refine wE_mono (h σ H Hd st re) fun o' H1 ⟨d, S1, Hd1, e1, st1, r1, p, l, f1, g, q⟩ => ?_
  subst f1
  have r1 : o' = V.ref p := r1
  subst r1
  obtain ⟨_, xs, hx, _⟩ := st1.own.at g
  refine ⟨.inl ⟨rfl, xs, .of hx⟩, ?_⟩
  refine wA_mono (q σ H1 Hd1 st1 (re.mono e1)) fun vs H2 ⟨ds, S2, Hd2, e2, st2, r2, l2, l3, f2, g2, n2, q2⟩ => ?_
  subst f2
  obtain ⟨v1, f3, b, zs, f4, hb, rz⟩ := one_rp r2
  subst f3 f4
  obtain ⟨_, ys, hy, ry⟩ := st2.own.at g2
  have ln : ys.length + zs.length ≤ sizeLine := by
    rw [ry.length, rz.length]
    exact Nat.le_trans n2 (by decide)
  refine ⟨p, b, ys, zs, rfl, rfl, hy, st2.sub _ _ hb, ln, ?_⟩
  exact ⟨.non, _, Hd2, e1.trans e2, st2.written g2 (ry.append rz), rfl, q2⟩⟩
end
end DL
/-! zip of two lists -/
namespace DL
open PySem PySem.Spec PyProof.Rows L2
def zipD (l m : List D) : List D := List.zipWith (fun x y => D.tup [x, y]) l m
theorem zipD_get {l m : List D} {i : Nat} {d : D} (h : (zipD l m)[i]? = some d) : ∃ x y, l[i]? = some x ∧ m[i]? = some y ∧ d = .tup [x, y] := by
  unfold zipD at h
  rw [List.getElem?_zipWith] at h
  cases q : l[i]? with
  | none => rw [q] at h; cases h
  | some x =>
    cases q2 : m[i]? with
    | none => rw [q, q2] at h; cases h
    | some y =>
      rw [q, q2] at h
      exact ⟨x, y, rfl, rfl, (Option.some.inj h).symm⟩
theorem it_zip {K : PySem.W.Frag} {Hd : Hp} {a b : Addr} {xs ys : List V} {l m : List D} (h : SqL K Hd a xs) (h' : SqL K Hd b ys) (r : RpL K Hd l xs) (r' : RpL K Hd m ys) (e0 : l.length = m.length) : ItOk K Hd (Itz K a b) (zipD l m) where
  go := fun {Hd' H S i d} e st hi => by
    obtain ⟨z, w, hz, hw, ez⟩ := zipD_get hi
    subst ez
    obtain ⟨v, hv, rv⟩ := r.get hz
    obtain ⟨v2, hv2, rv2⟩ := r'.get hw
    have hs := same_l (e.trans st.sub) h
    have hs2 := same_l (e.trans st.sub) h'
    refine ⟨⟨xs, ys, v, v2, hs, hs2, hv, hv2⟩, fun x H' y => ?_⟩
    obtain ⟨T, u1, u2, e1, hT, e2, y1, y2⟩ := y
    subst e1 e2
    have q := y1 xs hs
    rw [hv] at q
    cases q
    have q2 := y2 ys hs2
    rw [hv2] at q2
    cases q2
    obtain ⟨k1, k2⟩ := st.laid (o := .tup [v, v2]) hT
    exact ⟨_, k1, k2, T, _, rfl, SqT.of upd_same, ⟨_, _, rfl, Rp.mono (e.trans k1) z v rv, _, _, rfl, Rp.mono (e.trans k1) w v2 rv2, rfl⟩⟩
  stop := fun {Hd' H S} e st => by
    refine ⟨xs, ys, same_l (e.trans st.sub) h, same_l (e.trans st.sub) h', .inl ?_⟩
    rw [r.length]
    unfold zipD
    simp
    omega
section
variable {X : Cx} {e e2 : Expr} {en : DEnv} {S : Sto} {R : List D → Sto → Prop} {p pos : Pos}
theorem di_zip {elts : List Expr} {kk : Nat} {tpos : Pos} (hm : X.mg "zip" = none) (h : DA X [e, e2] en S fun ds S1 => ∃ l m, ds = [.lst l, .lst m] ∧ l.length = m.length ∧ R (zipD l m) S1) (hg : Gl X "zip" := by rfl) (hs : starEach [e, e2] X.env = (false, eval e X.env) :: starEach [e2] X.env := by rfl) (hpl : (backTo pos (starEach [e2] X.env)).any (·.1) = false := by rfl) :
    DI X (.Tuple elts kk tpos) (.Call (.Name "zip" p) [e, e2] [] pos) en S R := ⟨fun σ H Hd st re => by
  refine wI_of (pi_zip hg hm paW hs hpl) ?_
  refine wA_mono (h σ H Hd st re) fun vs H1 ⟨ds, S1, Hd1, e1, st1, r1, l, m, e2, e3, q⟩ => ?_
  subst e2
  obtain ⟨v, w, f1, rv, rw'⟩ := two_rp r1
  obtain ⟨a, xs, f2, f3, f4⟩ := rv
  obtain ⟨b, ys, g2, g3, g4⟩ := rw'
  subst f1 f2 g2
  exact ⟨a, b, xs, ys, rfl, .of (st1.sub _ _ f3), .of (st1.sub _ _ g3), _, S1, Hd1, e1, st1, it_zip (.of f3) (.of g3) f4 g4 e3, q⟩⟩
end
end DL
/-! repr of many small numbers -/
namespace DL
open PySem PySem.Spec PyProof.Rows L2
theorem drc_reprB {K : PySem.W.Frag} {d d' : D} {S : Sto} {Q : D → Sto → Prop} (B : Nat) (hl : (toPy d').leavesShort B = true) (hB : 8 ≤ B) (e : see S d = d') (q : Q (.str (toPy d').shown) S) (h : flatOk 9 d' = true) (g : shoP d') (b : (B + 2) * bigD d' + B ≤ 16777216) (obj : (∃ l, d' = .lst l) ∨ ∃ l, d' = .tup l) : DRC K (rRepD K) [d] S Q := fun H Hd vs Qv st rr k => by
  obtain ⟨v, e1, rv⟩ := one_rp rr
  subst e1
  have rv' := see_rp st d v rv
  rw [e] at rv'
  obtain ⟨a, ea⟩ : ∃ a, v = V.ref a := by
    rcases obj with ⟨l, z⟩ | ⟨l, z⟩
    · subst z
      obtain ⟨a, xs, f1, _⟩ := rv'
      exact ⟨a, f1⟩
    · subst z
      obtain ⟨a, xs, f1, _⟩ := rv'
      exact ⟨a, f1⟩
  subst ea
  obtain ⟨s1, s2, s3⟩ := sho_of 9 d' h g
  have k1 := PyData.shown_le_bulk B hB (toPy d') hl
  rw [bulk_of d' g] at k1
  have es : sizeLine = 16777216 := by decide
  exact ⟨a, toPy d', rfl, dp_of 9 d' _ h rv', s1, s3, Nat.le_trans (lay_of 9 d' h).2 (by decide), by omega, k _ _ (.here (d := .str _) st rfl q)⟩
theorem sm_int {i : Int} (h : i.natAbs < 10 ^ 12) : (toPy (.int i)).leavesShort 13 = true := decide_eq_true (PyData.shown_int_le h)
end DL
/-! max of three -/
namespace DL
open PySem PySem.Spec PyProof.Rows L2
def mx3 (a b c : Int) : Int := if b > a then (if c > b then c else b) else (if c > a then c else a)
def rMax3 : List V → Hp → VK → Prop := fun xs H Q => ∃ i j k : Int, xs = [.int i, .int j, .int k] ∧ Q (.int (mx3 i j k)) H
theorem call_max3 {X : Cx} (hc : X.calm = true) : CallR X (.builtin "max") rMax3 := by
  intro pins s σ H xs us Q I r h
  obtain ⟨i, j, k, rfl, q⟩ := h
  cases r with
  | cons r1 r =>
    cases r with
    | cons r2 r =>
      cases r with
      | cons r3 r =>
        cases r
        obtain ⟨t, rfl⟩ := r1
        obtain ⟨t', rfl⟩ := r2
        obtain ⟨t'', rfl⟩ := r3
        refine PySem.max_three_ints (I.ok.hd hc) fun h' tk kp => ⟨_, H, I.kept kp, ?_, q⟩
        unfold mx3
        by_cases a : j > i
        · by_cases b : k > j
          · rw [if_pos a, if_pos b, if_pos a, if_pos b]; exact ⟨_, rfl⟩
          · rw [if_pos a, if_neg b, if_pos a, if_neg b]; exact ⟨_, rfl⟩
        · by_cases b : k > i
          · rw [if_neg a, if_pos b, if_neg a, if_pos b]; exact ⟨_, rfl⟩
          · rw [if_neg a, if_neg b, if_neg a, if_neg b]; exact ⟨_, rfl⟩
theorem drc_max3I {K : PySem.W.Frag} {S : Sto} {Q : D → Sto → Prop} {i j k : Int} (q : Q (.int (mx3 i j k)) S) : DRC K rMax3 [.int i, .int j, .int k] S Q := fun H Hd vs Qv st rr kk => by
  obtain ⟨v, vs1, e1, rv, w, vs2, e2, rw', u, vs3, e3, ru, e4⟩ := rr
  have rv : v = V.int i := rv
  have rw' : w = V.int j := rw'
  have ru : u = V.int k := ru
  have e4 : vs3 = [] := e4
  subst e4 e3 e2 e1 rv rw' ru
  exact ⟨i, j, k, rfl, kk _ _ (.here (d := .int _) st rfl q)⟩
end DL
namespace DL
open PySem PySem.Spec PyProof.Rows L2
/-! ### ranges whose ends are great -/
theorem turn_long {P : Program} {w : World} {K : PySem.W.Frag} {tg : Expr} (it : Addr) (lo : Int) (n : Nat) : Turn P w K tg (Itr lo n) [it] it (fun i h => IsLongIter h it (lo + (i : Nat) * 1) ((n : Int) - (i : Nat)) 1) where
  mem := by simp
  obj := fun i h st b hb => by
    have e : b = it := by simpa using hb
    subst e
    exact ⟨_, st, fun v z => by
      have z' : Data.fields _ = Data.cell v := z
      cases z'⟩
  keep := fun i h h' st k => k it (by simp) _ st
  item := by
    intro X hP hw hK hc i pins s σ H E I hf st hg
    subst hP hw hK
    obtain ⟨f0, f1, f2, f3, f4, f5⟩ := hf it (by simp)
    have W := Walks.longrange (prog := X.prog) (w := X.w) (I.ok.hd hc) it lo 1 n
    refine W.item i s _ _ hg st fun v h' tk hv st' kk => ?_
    obtain ⟨t, rfl⟩ := hv
    have I1 : Inv X pins σ H { s with heap := h', toks := tk } := I.turned (fun b o hb e => kk b o (by simpa using hb) e) f0 f1 f3 f4 f5
    refine ⟨_, rfl, go_of (s := { s with heap := h', toks := tk }) (n := "longrange_iterator") st' rfl rfl (by decide) ⟨.int (lo + i), H, I1, ⟨t, ?_⟩, ⟨rfl, rfl⟩, st', fun b hb => (hf b hb).1⟩⟩
    rw [Int.mul_one]
  done := by
    intro X hP hw hK hc i pins s σ H E I hf st hg
    subst hP hw hK
    obtain ⟨f0, f1, f2, f3, f4, f5⟩ := hf it (by simp)
    exact wpAny_pyNext_long_end (I.ok.hd hc) st (by have : n ≤ i := hg; omega) fun h' eb => ⟨rfl, I.turned (t' := s.toks) (fun b o hb e => eb b o hb e) f0 f1 f3 f4 f5⟩
  self := fun _ _ _ _ _ st h => wpAny_pyIter_longiter st h
section
variable {X : Cx} {tg : Expr}
theorem range_itL {pins : List (Addr × Obj)} {σ : L2.St} {H : Hp} {s : Shared} {R : It → Hp → Prop} {E : Value → Shared → Prop} {lo hi : Int} {t u v : Tok} {tk : Nat} (I : Inv X pins σ H s)
    (q : R (Itr lo (hi - lo).toNat) H) : wpAny (model X.prog X.w) X.A (pyIter (.ref s.heap.objs.size)) (PIE X pins σ tg R) E { s with heap := s.heap.push { cls := .type "range", data := .fields #[.int lo t, .int hi u, .int 1 v] }, toks := tk } := by
  have I1 : Inv X pins σ H { s with heap := s.heap.push { cls := .type "range", data := .fields #[.int lo t, .int hi u, .int 1 v] }, toks := tk } := I.kept fun b o e => Heap.get?_push_of_some _ e
  have e1 : lo + ((0 : Nat) : Int) * 1 = lo := by simp
  have e2 : (((hi - lo).toNat : Nat) : Int) - ((0 : Nat) : Int) = Builtin.Range.rangeSize lo hi 1 := by rw [rangeSize_one]; split <;> omega
  have fin : ∀ b ∈ [(s.heap.push { cls := .type "range", data := .fields #[.int lo t, .int hi u, .int 1 v] }).objs.size], FpOk X pins H b := fun b hb => by
    have e : b = (s.heap.push { cls := .type "range", data := .fields #[.int lo t, .int hi u, .int 1 v] }).objs.size := by simpa using hb
    subst e
    exact I1.fpOk (Nat.le_refl _) (I1.hok.fresh (Nat.le_refl _))
  cases hs : Builtin.Range.small lo hi 1 with
  | true =>
    refine wpAny_pyIter_range (IsRange.new ..) hs ?_
    refine ⟨(s.heap.push { cls := .type "range", data := .fields #[.int lo t, .int hi u, .int 1 v] }).objs.size, [(s.heap.push { cls := .type "range", data := .fields #[.int lo t, .int hi u, .int 1 v] }).objs.size], _, _, H, rfl,
      I1.kept (t' := tk) fun b o e => Heap.get?_push_of_some _ e, turn_range _ lo (hi - lo).toNat, ?_, fin, q⟩
    show IsRangeIter _ _ (lo + ((0 : Nat) : Int) * 1) ((((hi - lo).toNat : Nat) : Int) - ((0 : Nat) : Int)) 1
    rw [e1, e2]
    exact Heap.get?_push_size _ rfl
  | false =>
    refine wpAny_pyIter_longrange (IsRange.new ..) hs ?_
    refine ⟨(s.heap.push { cls := .type "range", data := .fields #[.int lo t, .int hi u, .int 1 v] }).objs.size, [(s.heap.push { cls := .type "range", data := .fields #[.int lo t, .int hi u, .int 1 v] }).objs.size], _, _, H, rfl,
      I1.kept (t' := tk) fun b o e => Heap.get?_push_of_some _ e, turn_long _ lo (hi - lo).toNat, ?_, fin, q⟩
    show IsLongIter _ _ (lo + ((0 : Nat) : Int) * 1) ((((hi - lo).toNat : Nat) : Int) - ((0 : Nat) : Int)) 1
    rw [e1, e2]
    exact Heap.get?_push_size _ rfl
def iRng2L (ta : TA) : TI := fun σ H R => ta σ H fun vs H1 => ∃ i j : Int, vs = [.int i, .int j] ∧ R (Itr i (j - i).toNat) H1
theorem pi_range2L {a b : Expr} {ta : TA} {p pos : Pos} (hg : Gl X "range") (hm : X.mg "range" = none) (ha : PA X [a, b] ta) (hs : starEach [a, b] X.env = [(false, eval a X.env), (false, eval b X.env)] := by rfl) (hs2 : starEach [b] X.env = [(false, eval b X.env)] := by rfl) :
    PI X tg (.Call (.Name "range" p) [a, b] [] pos) (iRng2L ta) := by
  refine ⟨fun pins s σ H R I h => ?_⟩
  refine Call_ (ld_blt I hg hm boot_range (PyProof.Rows.callWith_type1 (thn (ha.run pos pins s σ H _ I h) fun us s1 ⟨vs, H1, I1, r1, q1⟩ => ?_) (by rw [hs, hs2]) (by rw [hs2]; rfl)))
  obtain ⟨i, j, e, q⟩ := q1
  subst e
  cases r1 with
  | cons r rr =>
    cases rr with
    | cons r' rr =>
      cases rr
      obtain ⟨t, rfl⟩ := r
      obtain ⟨t', rfl⟩ := r'
      exact call_range_2 (range_itL I1 q)
variable {a b : Expr} {en : DEnv} {S : Sto} {R : List D → Sto → Prop} {p pos : Pos}
theorem di_rng2L (hm : X.mg "range" = none) (h : DA X [a, b] en S fun ds S1 => ∃ m n : Int, ds = [.int m, .int n] ∧ R (rngD m (n - m).toNat) S1) (hg : Gl X "range" := by rfl)
    (hs : starEach [a, b] X.env = [(false, eval a X.env), (false, eval b X.env)] := by rfl) (hs2 : starEach [b] X.env = [(false, eval b X.env)] := by rfl) : DI X tg (.Call (.Name "range" p) [a, b] [] pos) en S R := ⟨fun σ H Hd st re => by
  refine wI_of (pi_range2L hg hm paW hs hs2) ?_
  refine wA_mono (h σ H Hd st re) fun vs H1 ⟨ds, S1, Hd1, e1, st1, r1, m, n, e2, q⟩ => ?_
  subst e2
  obtain ⟨v, w, f1, rv, rw'⟩ := two_rp r1
  have rv : v = V.int m := rv
  have rw' : w = V.int n := rw'
  subst f1 rv rw'
  exact ⟨m, n, rfl, _, S1, Hd1, e1, st1, it_rng, q⟩⟩
end
end DL
namespace Tp
open PySem PySem.Spec PyProof.Rows L2 DL
/-! ### the mathematics of turns -/
theorem sq_nn (q : Int) : 0 ≤ q * q := by
  rcases Int.le_total 0 q with h | h
  · exact Int.mul_nonneg h h
  · exact Int.mul_nonneg_of_nonpos_of_nonpos h h
def rtX (k : Nat) (x y : Int) : Int := match k with | 0 => x | 1 => -y | 2 => -x | _ => y
def rtY (k : Nat) (x y : Int) : Int := match k with | 0 => y | 1 => x | 2 => -y | _ => -x
def cc (p q : Int) : Int := p * p + q * q
@[irreducible] def lgA (p q k : Int) : Int := rtX k.toNat (p * p - q * q) (p * q + q * p)
@[irreducible] def lgB (p q k : Int) : Int := rtY k.toNat (p * p - q * q) (p * q + q * p)
@[irreducible] def exX (p q k x y : Int) : Int := lgA p q k * x - lgB p q k * y
@[irreducible] def exY (p q k x y : Int) : Int := lgA p q k * y + lgB p q k * x
@[irreducible] def nrr (n d : Int) : Int := (2 * n + d) / (2 * d)
@[irreducible] def imX (p q k x y : Int) : Int := nrr (exX p q k x y) (cc p q)
@[irreducible] def imY (p q k x y : Int) : Int := nrr (exY p q k x y) (cc p q)
theorem rt_step (k : Nat) (hk : k < 3) (x y : Int) : rtX (k + 1) x y = -rtY k x y ∧ rtY (k + 1) x y = rtX k x y := by
  rcases (by omega : k = 0 ∨ k = 1 ∨ k = 2) with h | h | h <;> subst h <;> simp [rtX, rtY]
theorem Bd.rtX {a b : Nat} {x y : Int} (k : Nat) (h : Bd a x) (g : Bd b y) : Bd (max a b) (rtX k x y) := by
  have h1 := h.up (Nat.le_max_left a b)
  have g1 := g.up (Nat.le_max_right a b)
  unfold Tp.rtX
  split
  · exact h1
  · exact g1.neg
  · exact h1.neg
  · exact g1
theorem Bd.rtY {a b : Nat} {x y : Int} (k : Nat) (h : Bd a x) (g : Bd b y) : Bd (max a b) (rtY k x y) := by
  have h1 := h.up (Nat.le_max_left a b)
  have g1 := g.up (Nat.le_max_right a b)
  unfold Tp.rtY
  split
  · exact g1
  · exact h1
  · exact g1.neg
  · exact h1.neg
theorem Bd.cc {p q : Int} (h : Bd 50 p) (g : Bd 50 q) : Bd 101 (cc p q) := (h.mul h).add (g.mul g)
theorem Bd.lgA {p q : Int} (k : Int) (h : Bd 50 p) (g : Bd 50 q) : Bd 101 (lgA p q k) := by unfold Tp.lgA; exact (Bd.rtX _ ((h.mul h).sub (g.mul g)) ((h.mul g).add (g.mul h))).up (by decide)
theorem Bd.lgB {p q : Int} (k : Int) (h : Bd 50 p) (g : Bd 50 q) : Bd 101 (lgB p q k) := by unfold Tp.lgB; exact (Bd.rtY _ ((h.mul h).sub (g.mul g)) ((h.mul g).add (g.mul h))).up (by decide)
theorem Bd.exX {p q x y : Int} {n : Nat} (k : Int) (h : Bd 50 p) (g : Bd 50 q) (hx : Bd n x) (hy : Bd n y) : Bd (102 + n) (exX p q k x y) := by unfold Tp.exX; exact (((Bd.lgA k h g).mul hx).sub ((Bd.lgB k h g).mul hy)).up (by omega)
theorem Bd.exY {p q x y : Int} {n : Nat} (k : Int) (h : Bd 50 p) (g : Bd 50 q) (hx : Bd n x) (hy : Bd n y) : Bd (102 + n) (exY p q k x y) := by unfold Tp.exY; exact (((Bd.lgA k h g).mul hy).add ((Bd.lgB k h g).mul hx)).up (by omega)
theorem Bd.nrr {n d : Int} {a b : Nat} (h : Bd a n) (g : Bd b d) : Bd (max (2 + a) b + 1) (nrr n d) := by unfold Tp.nrr; exact (((Bd.lit 2).mul h).add g).div
theorem Bd.imX {p q x y : Int} {n : Nat} (k : Int) (h : Bd 50 p) (g : Bd 50 q) (hx : Bd n x) (hy : Bd n y) : Bd (105 + n) (imX p q k x y) := by unfold Tp.imX; exact (Bd.nrr (Bd.exX k h g hx hy) (Bd.cc h g)).up (by omega)
theorem Bd.imY {p q x y : Int} {n : Nat} (k : Int) (h : Bd 50 p) (g : Bd 50 q) (hx : Bd n x) (hy : Bd n y) : Bd (105 + n) (imY p q k x y) := by unfold Tp.imY; exact (Bd.nrr (Bd.exY k h g hx hy) (Bd.cc h g)).up (by omega)
theorem cc_pos {p q k : Int} (h : Tn p q k) : 0 < cc p q := by
  have h1 := h.p1
  have h2 : 0 < p * p := Int.mul_pos (by omega) (by omega)
  have h3 : 0 ≤ q * q := sq_nn q
  unfold cc
  omega
theorem cc_one {p q k : Int} (h : Tn p q k) : 1 ≤ cc p q := cc_pos h
/-! ### what the program's defs promise of turns, pixels -/
def con_is_whole : Con := fun ds S Q => ∃ i : Int, ds = [.int i] ∧ Q (.bl true) S
def con_is_whole_tuple : Con := fun ds S Q => ∃ ns : List Int, ds = [.tup (ns.map D.int), .int (ns.length : Int)] ∧ ns.length ≤ 100 ∧ Q (.bl true) S
def con_is_pixel : Con := fun ds S Q => ∃ x y : Int, ds = [.tup [.int x, .int y]] ∧ Q (.bl true) S
def con_is_turn : Con := fun ds S Q => ∃ p q k : Int, ds = [.tup [.int p, .int q, .int k]] ∧ Tn p q k ∧ Q (.bl true) S
def con_check_pixel : Con := fun ds S Q => ∃ x y : Int, ds = [.tup [.int x, .int y]] ∧ Q .non S
def con_check_turn : Con := fun ds S Q => ∃ p q k : Int, ds = [.tup [.int p, .int q, .int k]] ∧ Tn p q k ∧ Q .non S
def con_times : Con := fun ds S Q => ∃ x y r s, ds = [.tup [.int x, .int y], .tup [.int r, .int s]] ∧ (Bd 1500 x ∧ Bd 1500 y ∧ Bd 1500 r ∧ Bd 1500 s) ∧ Q (.tup [.int (x * r - y * s), .int (x * s + y * r)]) S
def con_nearest : Con := fun ds S Q => ∃ n d, ds = [.int n, .int d] ∧ (Bd 3000 n ∧ Bd 500 d ∧ 0 < d) ∧ Q (.int (nrr n d)) S
def con_legs_of : Con := fun ds S Q => ∃ p q k : Int, ds = [.tup [.int p, .int q, .int k]] ∧ Tn p q k ∧ Q (.tup [.int (lgA p q k), .int (lgB p q k), .int (cc p q)]) S
def con_exact_place : Con := fun ds S Q => ∃ p q k x y : Int, ds = [.tup [.int p, .int q, .int k], .tup [.int x, .int y]] ∧ Tn p q k ∧ (Bd 1200 x ∧ Bd 1200 y) ∧ Q (.tup [.int (exX p q k x y), .int (exY p q k x y), .int (cc p q)]) S
def con_image : Con := fun ds S Q => ∃ p q k x y : Int, ds = [.tup [.int p, .int q, .int k], .tup [.int x, .int y]] ∧ Tn p q k ∧ (Bd 1200 x ∧ Bd 1200 y) ∧ Q (.tup [.int (imX p q k x y), .int (imY p q k x y)]) S
def con_back : Con := fun ds S Q => ∃ p q k : Int, ds = [.tup [.int p, .int q, .int k]] ∧ Tn p q k ∧ Q (.tup [.int p, .int (-q), .int (-k % 4)]) S

/-! ### what the laws' helpers do -/
theorem abs_nat (i : Int) : (if i < 0 then -i else i) = (i.natAbs : Int) := by split <;> omega
theorem gcd_step (x y : Nat) : Nat.gcd y (x % y) = Nat.gcd x y := by rw [Nat.gcd_comm y, ← Nat.gcd_rec, Nat.gcd_comm]
theorem src_mk {a b : Int} (h : 0 ≤ a) (hb : 0 ≤ b ∧ Bd 200 b) : Src 0 [.int a, .int b, .int 0] := ⟨a, b, 0, rfl, h, hb.2, ⟨Int.le_refl 0, Int.le_refl 0⟩, hb.1⟩
theorem src_a (g m : Int) : 0 ≤ (if g - m > 0 then g - m else 0) := by split <;> omega
theorem src_b (g k : Int) (c : Bool) (hk : 0 ≤ k ∧ k ≤ 100) : 0 ≤ g % (10 ^ (Int.toNat 44) + 31) * 97 + 2 * k + (if c = true then 1 else 0) ∧ Bd 200 (g % (10 ^ (Int.toNat 44) + 31) * 97 + 2 * k + (if c = true then 1 else 0)) := by
  have e : (10 : Int) ^ (Int.toNat 44) + 31 = 100000000000000000000000000000000000000000031 := by decide +kernel
  rw [e]
  have h1 := Int.emod_nonneg g (show (100000000000000000000000000000000000000000031 : Int) ≠ 0 by decide)
  have h2 := Int.emod_lt_of_pos g (show (0 : Int) < 100000000000000000000000000000000000000000031 by decide)
  generalize g % 100000000000000000000000000000000000000000031 = r at *
  unfold Bd
  split <;> omega
theorem src_div {a b c n : Int} {m : Nat} (ha : 0 ≤ a) (hb : Bd 200 b) (hc : 0 ≤ c ∧ c ≤ (m : Int)) (hb0 : 0 ≤ b) (hn : 0 < n) : Src (m + 1) [.int (a / n), .int b, .int c] :=
  ⟨_, _, _, rfl, Int.ediv_nonneg ha (by omega), hb, ⟨hc.1, by omega⟩, hb0⟩
theorem src_next {a b c : Int} {m : Nat} (ha : 0 ≤ a) (hb : Bd 200 b) (hc : 0 ≤ c ∧ c ≤ (m : Int)) (hb0 : 0 ≤ b) : Src (m + 1) [.int a, .int b, .int (c + 1)] :=
  ⟨_, _, _, rfl, ha, hb, ⟨by omega, by omega⟩, hb0⟩
/-- the numbers that a law tries for q, from q on: some end is reached -/
theorem spin_end {p : Int} (h : 1 ≤ p) : Nat.gcd p.natAbs (p - 1).natAbs = 1 ∧ (p + (p - 1)) % 2 = 1 := by
  refine ⟨?_, by omega⟩
  obtain ⟨n, rfl⟩ : ∃ n : Nat, p = (n : Int) + 1 := ⟨(p - 1).toNat, by omega⟩
  have e1 : ((n : Int) + 1).natAbs = n + 1 := by omega
  have e2 : ((n : Int) + 1 - 1).natAbs = n := by omega
  rw [e1, e2, Nat.gcd_comm, Nat.gcd_rec]
  by_cases hn : n = 0
  · subst hn
    rfl
  · have e3 : (n + 1) % n = 1 % n := by rw [Nat.add_mod_left]
    rw [e3]
    by_cases h1 : n = 1
    · subst h1
      rfl
    · rw [Nat.mod_eq_of_lt (by omega)]
      exact Nat.gcd_one_left n
theorem tn_mk {p q k : Int} (h1 : 1 ≤ p) (h2 : p ≤ 1000000000000000) (h3 : 0 ≤ q) (h4 : q < p) (g : Nat.gcd p.natAbs q.natAbs = 1) (o : (p + q) % 2 = 1) (hk : 0 ≤ k ∧ k < 4) : Tn p q k ∧ Tn p (-q) k :=
  ⟨⟨h1, h2, by omega, h4, g, o, hk.1, by omega⟩, ⟨h1, h2, by omega, by omega, by rw [Int.natAbs_neg]; exact g, by omega, hk.1, by omega⟩⟩

theorem pickL {l : List D} {i : Int} {P : D → Prop} (h : ∀ x ∈ l, P x) (h0 : 0 ≤ i) (h1 : i < (l.length : Int)) : ∃ x, atI l i = some x ∧ P x := by
  obtain ⟨j, rfl⟩ : ∃ j : Nat, i = (j : Int) := ⟨i.toNat, by omega⟩
  have hj : j < l.length := by omega
  exact ⟨l[j], atI_nat (List.getElem?_eq_getElem hj), h _ (List.getElem_mem hj)⟩
theorem ix_pick {l : List D} {i : Int} {S : Sto} {Q : D → Sto → Prop} (P : D → Prop) (h : ∀ x ∈ l, P x) (h0 : 0 ≤ i) (h1 : i < (l.length : Int)) (k : ∀ x, P x → Q x S) : ixP (.lst l) (.int i) S Q := by
  obtain ⟨x, e, px⟩ := pickL h h0 h1
  exact ⟨x, e, k x px⟩
theorem fa_nil {P : D → Prop} : ∀ x ∈ ([] : List D), P x := fun _ h => nomatch h
theorem fa_cons {P : D → Prop} {a : D} {l : List D} (h : P a) (k : ∀ x ∈ l, P x) : ∀ x ∈ a :: l, P x := fun x hx => by
  rcases List.mem_cons.mp hx with e | e
  · rw [e]
    exact h
  · exact k x e
theorem Bd.ite {a b : Nat} {c : Prop} [Decidable c] {x y : Int} (h : Bd a x) (k : Bd b y) : Bd (max a b) (if c then x else y) := by
  split
  · exact h.up (Nat.le_max_left _ _)
  · exact k.up (Nat.le_max_right _ _)
theorem spin_turn {p q : Int} (h : 1 ≤ p) (hq : q ≤ p - 1) (z : 1 < ((Nat.gcd p.natAbs q.natAbs : Nat) : Int) ∨ (p + q) % 2 = 0) : q + 1 < p := by
  by_cases e : q = p - 1
  · subst e
    obtain ⟨e1, e2⟩ := spin_end h
    rcases z with z | z
    · rw [e1] at z
      exact absurd z (by decide)
    · omega
  · omega
theorem gcd_one {p q : Int} (h : 1 ≤ p) (z : ¬ 1 < ((Nat.gcd p.natAbs q.natAbs : Nat) : Int)) : Nat.gcd p.natAbs q.natAbs = 1 := by
  have : 0 < Nat.gcd p.natAbs q.natAbs := Nat.gcd_pos_of_pos_left _ (by omega)
  omega

theorem setS_self {p : Addr} {l : List D} : ∀ {S : Sto}, getS p S = some l → setS p l S = S
  | [], h => by cases h
  | (q, m) :: S, h => by
    by_cases e : q = p
    · subst e
      rw [getS_hd] at h
      cases h
      rw [setS_hd]
    · rw [getS_tl e] at h
      rw [setS_tl e, setS_self h]

def con_swung : Con := fun ds S Q => ∃ x y k : Int, ds = [.tup [.int x, .int y], .int k] ∧ Q (.tup [.int (rtX (k % 4).toNat x y), .int (rtY (k % 4).toNat x y)]) S
theorem eq_strT {i j : Str} {S : Sto} {Q : Bool → Sto → Prop} (e : i = j) (q : Q true S) : eqP (.str i) (.str j) S Q := by
  refine eq_str ?_
  rw [decide_eq_true e]
  exact q
theorem shown_eq {a b : D} (h : a = b) : (toPy a).shown = (toPy b).shown := by rw [h]
theorem eq_decT {a b : D} {S : Sto} {Q : Bool → Sto → Prop} (e : eqB a b = true) (h : flatOk 9 a = true ∧ flatOk 9 b = true) (n1 : ∀ i j, a = .int i → b = .int j → False) (n2 : ∀ i j, a = .str i → b = .str j → False) (q : Q true S) : eqP a b S Q := by
  refine eq_deep ?_ h n1 n2
  rw [e]
  exact q
theorem tn_b3 {p q k : Int} (h : Tn p q k) : Bd 3 k := by
  have := h.k1
  have := h.k2
  unfold Bd
  omega

/-! ### further helpers of the laws -/
def con_ltimes : Con := fun ds S Q => ∃ x y r s, ds = [.tup [.int x, .int y], .tup [.int r, .int s]] ∧ (Bd 1500 x ∧ Bd 1500 y ∧ Bd 1500 r ∧ Bd 1500 s) ∧ Q (.tup [.int (x * r - y * s), .int (x * s + y * r)]) S
def con_llegs : Con := fun ds S Q => ∃ (l : List D) (p q : Int), ds = [.tup l] ∧ atI l 0 = some (.int p) ∧ atI l 1 = some (.int q) ∧ (Bd 60 p ∧ Bd 60 q) ∧ Q (.tup [.int (p * p - q * q), .int (2 * p * q), .int (p * p + q * q)]) S
def con_close : Con := fun ds S Q => ∃ t l : Int, ds = [.int t, .int l] ∧ (Bd 3000 t ∧ Bd 500 l ∧ 0 < l) ∧ Q (.int (nrr t l)) S
def con_seen : Con := fun ds S Q => ∃ p q k x y : Int, ds = [.tup [.int p, .int q, .int k], .tup [.int x, .int y]] ∧ Tn p q k ∧ (Bd 1200 x ∧ Bd 1200 y) ∧ Q (.tup [.int (imX p q k x y), .int (imY p q k x y)]) S
theorem close_eq {t l : Int} (h : 0 < l) : (if 2 * (t - t / l * l) < l then t / l else t / l + 1) = nrr t l := by
  unfold nrr
  have e := Int.emod_add_mul_ediv t l
  have r0 := Int.emod_nonneg t (show l ≠ 0 by omega)
  have r1 := Int.emod_lt_of_pos t h
  generalize t % l = r at *
  generalize t / l = m at *
  have c1 : m * l = l * m := Int.mul_comm _ _
  split
  · have e3 : 2 * t + l = (2 * r + l) + 2 * l * m := by
      have : 2 * l * m = 2 * (l * m) := Int.mul_assoc _ _ _
      omega
    rw [e3, Int.add_mul_ediv_left _ _ (by omega), Int.ediv_eq_zero_of_lt (by omega) (by omega)]
    omega
  · have e3 : 2 * t + l = (2 * r - l) + 2 * l * (m + 1) := by
      have : 2 * l * (m + 1) = 2 * (l * m) + 2 * l := by rw [Int.mul_add, Int.mul_assoc, Int.mul_one]
      omega
    rw [e3, Int.add_mul_ediv_left _ _ (by omega), Int.ediv_eq_zero_of_lt (by omega) (by omega)]
    omega
theorem ex_raw (p q k x y : Int) : exX p q k x y = rtX k.toNat ((p * p - q * q) * x - 2 * p * q * y) ((p * p - q * q) * y + 2 * p * q * x) ∧ exY p q k x y = rtY k.toNat ((p * p - q * q) * x - 2 * p * q * y) ((p * p - q * q) * y + 2 * p * q * x) := by
  unfold exX exY lgA lgB
  generalize k.toNat = j
  match j with
  | 0 => simp only [rtX, rtY]; constructor <;> grind
  | 1 => simp only [rtX, rtY]; constructor <;> grind
  | 2 => simp only [rtX, rtY]; constructor <;> grind
  | _ + 3 => simp only [rtX, rtY]; constructor <;> grind
theorem lst2 {a b : D} (h : a = b) : D.lst [a, a] = D.lst [b, b] := by rw [h]
theorem tup2 {a b c d : Int} (h : a = c) (g : b = d) : D.tup [.int a, .int b] = D.tup [.int c, .int d] := by rw [h, g]
def rat (x c : Int) : D := .tup [.int (x / ((Nat.gcd x.natAbs c.natAbs : Nat) : Int)), .int (c / ((Nat.gcd x.natAbs c.natAbs : Nat) : Int))]
theorem Bd.isq {n : Nat} {i : Int} (h : Bd n i) : Bd n ((Float64.isqrt i.toNat : Nat) : Int) := by
  obtain ⟨s1, _⟩ := Float64.isqrt_spec i.toNat
  generalize Float64.isqrt i.toNat = r at *
  unfold Bd at h ⊢
  have h1 : r ≤ r * r := by
    rcases Nat.eq_zero_or_pos r with z | z
    · subst z; decide
    · exact Nat.le_mul_of_pos_left r z
  have : (r : Int).natAbs = r := by omega
  omega

end Tp
namespace Tp
open PySem PySem.Spec PyProof.Rows L2 DL
/-! ### turns by quarters, and back -/
theorem cc_odd {p q k : Int} (h : Tn p q k) : cc p q % 2 = 1 := by
  obtain ⟨t, ht⟩ : ∃ t, p + q = 2 * t + 1 := ⟨(p + q) / 2, by have := h.o; omega⟩
  have e : cc p q = 2 * (2 * t * t + 2 * t - 2 * t * q - q + q * q) + 1 := by
    have : p = 2 * t + 1 - q := by omega
    subst this
    unfold cc
    grind
  omega
theorem nrr_neg {n c : Int} (h : c % 2 = 1) (h0 : 0 < c) : nrr (-n) c = -nrr n c := by
  unfold nrr
  have e := Int.emod_add_mul_ediv (2 * n + c) (2 * c)
  have r0 := Int.emod_nonneg (2 * n + c) (show 2 * c ≠ 0 by omega)
  have r1 := Int.emod_lt_of_pos (2 * n + c) (show 0 < 2 * c by omega)
  generalize (2 * n + c) % (2 * c) = r at *
  generalize hm : (2 * n + c) / (2 * c) = m at *
  have e2 : 2 * c * m = 2 * (c * m) := by rw [Int.mul_assoc]
  have rn : r ≠ 0 := by omega
  have e3 : 2 * -n + c = (2 * c - r) + 2 * c * -m := by
    have e4 : 2 * c * -m = -(2 * c * m) := Int.mul_neg _ _
    omega
  rw [e3, Int.add_mul_ediv_left _ _ (by omega), Int.ediv_eq_zero_of_lt (by omega) (by omega)]
  omega
theorem four {k : Int} (h : 0 ≤ k ∧ k < 4) : k = 0 ∨ k = 1 ∨ k = 2 ∨ k = 3 := by omega
theorem lg_rot (p q : Int) {k j : Int} (hk : 0 ≤ k ∧ k < 4) (hj : 0 ≤ j ∧ j < 4) : lgA p q ((k + j) % 4) = rtX j.toNat (lgA p q k) (lgB p q k) ∧ lgB p q ((k + j) % 4) = rtY j.toNat (lgA p q k) (lgB p q k) := by
  rcases four hk with h | h | h | h <;> rcases four hj with g | g | g | g <;> subst h <;> subst g <;> simp [lgA, lgB, rtX, rtY]
theorem ex_rot (p q x y : Int) {k j : Int} (hk : 0 ≤ k ∧ k < 4) (hj : 0 ≤ j ∧ j < 4) : exX p q ((k + j) % 4) x y = rtX j.toNat (exX p q k x y) (exY p q k x y) ∧ exY p q ((k + j) % 4) x y = rtY j.toNat (exX p q k x y) (exY p q k x y) := by
  obtain ⟨e1, e2⟩ := lg_rot p q hk hj
  unfold exX exY
  rw [e1, e2]
  generalize lgA p q k = a
  generalize lgB p q k = b
  rcases four hj with g | g | g | g <;> subst g <;> simp [rtX, rtY] <;> grind
theorem nrr_rot {p q k : Int} (h : Tn p q k) (j : Nat) (x y : Int) : nrr (rtX j x y) (cc p q) = rtX j (nrr x (cc p q)) (nrr y (cc p q)) ∧ nrr (rtY j x y) (cc p q) = rtY j (nrr x (cc p q)) (nrr y (cc p q)) := by
  have n1 := nrr_neg (n := x) (cc_odd h) (cc_pos h)
  have n2 := nrr_neg (n := y) (cc_odd h) (cc_pos h)
  match j with
  | 0 => simp [rtX, rtY]
  | 1 => simp [rtX, rtY, n2]
  | 2 => simp [rtX, rtY, n1, n2]
  | _ + 3 => simp [rtX, rtY, n1]
theorem im_rot {p q k j : Int} (h : Tn p q k) (hj : 0 ≤ j ∧ j < 4) (x y : Int) : imX p q ((k + j) % 4) x y = rtX (j % 4).toNat (imX p q k x y) (imY p q k x y) ∧ imY p q ((k + j) % 4) x y = rtY (j % 4).toNat (imX p q k x y) (imY p q k x y) := by
  have hk : 0 ≤ k ∧ k < 4 := ⟨h.k1, by have := h.k2; omega⟩
  have e : j % 4 = j := Int.emod_eq_of_lt hj.1 hj.2
  obtain ⟨e1, e2⟩ := ex_rot p q x y hk hj
  obtain ⟨n1, n2⟩ := nrr_rot h j.toNat (exX p q k x y) (exY p q k x y)
  unfold imX imY
  rw [e, e1, e2]
  exact ⟨n1, n2⟩
theorem tn_bk {p q k : Int} (h : Tn p q k) : Tn p (-q) ((4 - k) % 4) := by
  have := h.q1
  have := h.q2
  have := h.o
  exact ⟨h.p1, h.p2, by omega, by omega, by rw [Int.natAbs_neg]; exact h.g, by omega, by omega, by omega⟩
theorem tn_rot {p q k : Int} (h : Tn p q k) (j : Int) : Tn p q ((k + j) % 4) := ⟨h.p1, h.p2, h.q1, h.q2, h.g, h.o, by omega, by omega⟩
theorem bk_1 {p q k : Int} (h : Tn p q k) : -k % 4 = (4 - k) % 4 := by omega
theorem bk_2 {p q k : Int} (h : Tn p q k) : -((4 - k) % 4) % 4 = k := by
  have := h.k1
  have := h.k2
  omega
theorem cc_neg (p q : Int) : cc p (-q) = cc p q := by unfold cc; grind
theorem ex_bk {p q k : Int} (h : Tn p q k) (x y : Int) : exX p (-q) ((4 - k) % 4) (exX p q k x y) (exY p q k x y) = cc p q * cc p q * x ∧ exY p (-q) ((4 - k) % 4) (exX p q k x y) (exY p q k x y) = cc p q * cc p q * y := by
  have hk : 0 ≤ k ∧ k < 4 := ⟨h.k1, by have := h.k2; omega⟩
  rcases four hk with g | g | g | g <;> subst g <;> simp [exX, exY, lgA, lgB, rtX, rtY, cc] <;> grind

theorem seen_eq {p q k : Int} (h : Tn p q k) (x y : Int) : D.tup [.int (rtX k.toNat (nrr ((p * p - q * q) * x - 2 * p * q * y) (p * p + q * q)) (nrr ((p * p - q * q) * y + 2 * p * q * x) (p * p + q * q))), .int (rtY k.toNat (nrr ((p * p - q * q) * x - 2 * p * q * y) (p * p + q * q)) (nrr ((p * p - q * q) * y + 2 * p * q * x) (p * p + q * q)))] = D.tup [.int (imX p q k x y), .int (imY p q k x y)] := by
  obtain ⟨e1, e2⟩ := ex_raw p q k x y
  obtain ⟨n1, n2⟩ := nrr_rot h k.toNat ((p * p - q * q) * x - 2 * p * q * y) ((p * p - q * q) * y + 2 * p * q * x)
  refine tup2 ?_ ?_
  · unfold imX
    rw [e1, n1] <;> rfl
  · unfold imY
    rw [e2, n2] <;> rfl
theorem due_eq {p q k : Int} (h : Tn p q k) (x y : Int) : D.tup [.int (exX p q k x y), .int (exY p q k x y), .int (cc p q)] = D.tup [.int (rtX (k % 4).toNat ((p * p - q * q) * x - 2 * p * q * y) ((p * p - q * q) * y + 2 * p * q * x)), .int (rtY (k % 4).toNat ((p * p - q * q) * x - 2 * p * q * y) ((p * p - q * q) * y + 2 * p * q * x)), .int (p * p + q * q)] := by
  have e : k % 4 = k := Int.emod_eq_of_lt h.k1 (by have := h.k2; omega)
  obtain ⟨e1, e2⟩ := ex_raw p q k x y
  rw [e, e1, e2] <;> rfl
theorem nrr_near {n c : Int} (h : c % 2 = 1) (h0 : 0 < c) : -c < 2 * (n - c * nrr n c) ∧ 2 * (n - c * nrr n c) < c := by
  unfold nrr
  have e := Int.emod_add_mul_ediv (2 * n + c) (2 * c)
  have r0 := Int.emod_nonneg (2 * n + c) (show 2 * c ≠ 0 by omega)
  have r1 := Int.emod_lt_of_pos (2 * n + c) (show 0 < 2 * c by omega)
  generalize (2 * n + c) % (2 * c) = r at *
  generalize (2 * n + c) / (2 * c) = m at *
  have e2 : 2 * c * m = 2 * (c * m) := by rw [Int.mul_assoc]
  have rn : r ≠ 0 := by omega
  omega
theorem im_near {p q k : Int} (h : Tn p q k) (x y : Int) : (-(cc p q) < 2 * (exX p q k x y - cc p q * imX p q k x y) ∧ 2 * (exX p q k x y - cc p q * imX p q k x y) < cc p q) ∧ -(cc p q) < 2 * (exY p q k x y - cc p q * imY p q k x y) ∧ 2 * (exY p q k x y - cc p q * imY p q k x y) < cc p q :=
  by unfold imX imY; exact ⟨nrr_near (cc_odd h) (cc_pos h), nrr_near (cc_odd h) (cc_pos h)⟩

theorem abs_lt {i c : Int} (h : -c < i ∧ i < c) : (if i < 0 then -i else i) < c := by split <;> omega
theorem right1 {p q k : Int} (h : Tn p q k) (x y : Int) : (if 2 * (rtX (k % 4).toNat ((p * p - q * q) * x - 2 * p * q * y) ((p * p - q * q) * y + 2 * p * q * x) - (p * p + q * q) * imX p q k x y) < 0 then -(2 * (rtX (k % 4).toNat ((p * p - q * q) * x - 2 * p * q * y) ((p * p - q * q) * y + 2 * p * q * x) - (p * p + q * q) * imX p q k x y)) else 2 * (rtX (k % 4).toNat ((p * p - q * q) * x - 2 * p * q * y) ((p * p - q * q) * y + 2 * p * q * x) - (p * p + q * q) * imX p q k x y)) < p * p + q * q := by
  have e : k % 4 = k := Int.emod_eq_of_lt h.k1 (by have := h.k2; omega)
  rw [e, ← (ex_raw p q k x y).1]
  exact abs_lt (im_near h x y).1
theorem right2 {p q k : Int} (h : Tn p q k) (x y : Int) : (if 2 * (rtY (k % 4).toNat ((p * p - q * q) * x - 2 * p * q * y) ((p * p - q * q) * y + 2 * p * q * x) - (p * p + q * q) * imY p q k x y) < 0 then -(2 * (rtY (k % 4).toNat ((p * p - q * q) * x - 2 * p * q * y) ((p * p - q * q) * y + 2 * p * q * x) - (p * p + q * q) * imY p q k x y)) else 2 * (rtY (k % 4).toNat ((p * p - q * q) * x - 2 * p * q * y) ((p * p - q * q) * y + 2 * p * q * x) - (p * p + q * q) * imY p q k x y)) < p * p + q * q := by
  have e : k % 4 = k := Int.emod_eq_of_lt h.k1 (by have := h.k2; omega)
  rw [e, ← (ex_raw p q k x y).2]
  exact abs_lt (im_near h x y).2
/-- a pixel within a bound -/
def DotB (n : Nat) (d : D) : Prop := ∃ x y : Int, d = .tup [.int x, .int y] ∧ Bd n x ∧ Bd n y
theorem DotB.up {n m : Nat} {d : D} (h : DotB n d) (k : n ≤ m) : DotB m d := by
  obtain ⟨x, y, e, a, b⟩ := h
  exact ⟨x, y, e, a.up k, b.up k⟩
theorem fa_app {P : D → Prop} {l m : List D} (h : ∀ x ∈ l, P x) (g : ∀ x ∈ m, P x) : ∀ x ∈ l ++ m, P x := fun x z => by
  rcases List.mem_append.mp z with z | z
  · exact h x z
  · exact g x z
theorem fa_imp {P Q : D → Prop} {l : List D} (h : ∀ x ∈ l, P x) (g : ∀ x, P x → Q x) : ∀ x ∈ l, Q x := fun x z => g x (h x z)

end Tp
namespace Tp
open PySem PySem.Spec PyProof.Rows L2 DL
/-! ### rests -/
def reX (p q x y : Int) : Int := p * x - q * y - (p * imX p q 0 x y - -q * imY p q 0 x y)
def reY (p q x y : Int) : Int := p * y + q * x - (p * imY p q 0 x y + -q * imX p q 0 x y)
def isR (p q m n : Int) : Prop := (-(cc p q) < 2 * (p * m - q * n) ∧ 2 * (p * m - q * n) < cc p q) ∧ -(cc p q) < 2 * (p * n + q * m) ∧ 2 * (p * n + q * m) < cc p q
theorem bez_nat (m n : Nat) : ∃ s t : Int, s * (m : Int) + t * (n : Int) = (Nat.gcd m n : Int) := by
  induction m, n using Nat.gcd.induction with
  | H0 n => exact ⟨0, 1, by simp⟩
  | H1 m n hm ih =>
    obtain ⟨s, t, e⟩ := ih
    rw [← Nat.gcd_rec] at e
    have d : ((n % m : Nat) : Int) = (n : Int) - (m : Int) * ((n / m : Nat) : Int) := by
      have := Nat.mod_add_div n m
      omega
    refine ⟨t - s * ((n / m : Nat) : Int), s, ?_⟩
    rw [← e, d]
    grind
theorem bez {p q : Int} (g : Nat.gcd p.natAbs q.natAbs = 1) : ∃ s t : Int, s * p + t * q = 1 := by
  obtain ⟨s, t, e⟩ := bez_nat p.natAbs q.natAbs
  rw [g] at e
  rcases Int.natAbs_eq p with h | h <;> rcases Int.natAbs_eq q with h' | h'
  · exact ⟨s, t, by rw [h, h']; exact e⟩
  · exact ⟨s, -t, by rw [h, h', Int.neg_mul_neg]; exact e⟩
  · exact ⟨-s, t, by rw [h, h', Int.neg_mul_neg]; exact e⟩
  · exact ⟨-s, -t, by rw [h, h', Int.neg_mul_neg, Int.neg_mul_neg]; exact e⟩
theorem nrr_add {n c k : Int} (h : 0 < c) : nrr (n + c * k) c = nrr n c + k := by
  unfold nrr
  have e : 2 * (n + c * k) + c = (2 * n + c) + 2 * c * k := by rw [Int.mul_add, Int.mul_assoc]; omega
  rw [e, Int.add_mul_ediv_left _ _ (by omega)]
theorem nrr_of {r c k : Int} (h : -c < 2 * r ∧ 2 * r < c) : nrr (r + c * k) c = k := by
  rw [nrr_add (by omega)]
  unfold nrr
  rw [Int.ediv_eq_zero_of_lt (by omega) (by omega)]
  omega
theorem ex0 (p q x y : Int) : exX p q 0 x y = (p * p - q * q) * x - 2 * p * q * y ∧ exY p q 0 x y = (p * p - q * q) * y + 2 * p * q * x := by have h := ex_raw p q 0 x y; simpa [rtX, rtY] using h
theorem ex0_move (p q x y t u : Int) : exX p q 0 (x + (p * t + q * u)) (y + (p * u - q * t)) = exX p q 0 x y + cc p q * (p * t - q * u) ∧ exY p q 0 (x + (p * t + q * u)) (y + (p * u - q * t)) = exY p q 0 x y + cc p q * (p * u + q * t) := by
  rw [(ex0 p q _ _).1, (ex0 p q _ _).2, (ex0 p q x y).1, (ex0 p q x y).2]
  unfold cc
  constructor <;> grind
theorem im0_move {p q : Int} (h : 0 < cc p q) (x y t u : Int) : imX p q 0 (x + (p * t + q * u)) (y + (p * u - q * t)) = imX p q 0 x y + (p * t - q * u) ∧ imY p q 0 (x + (p * t + q * u)) (y + (p * u - q * t)) = imY p q 0 x y + (p * u + q * t) := by
  unfold imX imY
  rw [(ex0_move p q x y t u).1, (ex0_move p q x y t u).2, nrr_add h, nrr_add h]
  exact ⟨rfl, rfl⟩
theorem re_move {p q : Int} (h : 0 < cc p q) (x y t u : Int) : reX p q (x + (p * t + q * u)) (y + (p * u - q * t)) = reX p q x y ∧ reY p q (x + (p * t + q * u)) (y + (p * u - q * t)) = reY p q x y := by
  unfold reX reY
  rw [(im0_move h x y t u).1, (im0_move h x y t u).2]
  constructor <;> grind
theorem cancel {c a b : Int} (h : 0 < c) (e : c * a = c * b) : a = b := Int.eq_of_mul_eq_mul_left (by omega) e
/-- u times the rest is what the exact place has over c times the image -/
theorem u_re (p q x y : Int) : p * reX p q x y - q * reY p q x y = exX p q 0 x y - cc p q * imX p q 0 x y ∧ p * reY p q x y + q * reX p q x y = exY p q 0 x y - cc p q * imY p q 0 x y := by
  unfold reX reY
  rw [(ex0 p q x y).1, (ex0 p q x y).2]
  unfold cc
  generalize imX p q 0 x y = X
  generalize imY p q 0 x y = Y
  constructor <;> grind
theorem re_is {p q k : Int} (h : Tn p q k) (x y : Int) : isR p q (reX p q x y) (reY p q x y) := by
  unfold isR
  rw [(u_re p q x y).1, (u_re p q x y).2]
  have h0 : Tn p q 0 := ⟨h.p1, h.p2, h.q1, h.q2, h.g, h.o, by decide, by decide⟩
  exact im_near h0 x y
/-- what has the same rest differs by p - q i times a pixel -/
theorem re_div {p q k : Int} (h : Tn p q k) {x y z w : Int} (e1 : reX p q x y = reX p q z w) (e2 : reY p q x y = reY p q z w) : ∃ t u, x = z + (p * t + q * u) ∧ y = w + (p * u - q * t) := by
  obtain ⟨s, t, b⟩ := bez h.g
  obtain ⟨j, hj⟩ : ∃ j, cc p q = 2 * j + 1 := ⟨cc p q / 2, by have := cc_odd h; omega⟩
  unfold cc at hj
  unfold reX at e1
  unfold reY at e2
  generalize hX : imX p q 0 x y = X at *
  generalize hY : imY p q 0 x y = Y at *
  generalize hZ : imX p q 0 z w = Z at *
  generalize hW : imY p q 0 z w = W at *
  have f1 : p * (X - Z) + q * (Y - W) = p * (x - z) - q * (y - w) := by grind
  have f2 : p * (Y - W) - q * (X - Z) = p * (y - w) + q * (x - z) := by grind
  generalize hE : X - Z = E at *
  generalize hF : Y - W = F at *
  obtain ⟨d, rfl⟩ : ∃ d, x = z + d := ⟨x - z, by omega⟩
  obtain ⟨f, rfl⟩ : ∃ f, y = w + f := ⟨y - w, by omega⟩
  have g1 : z + d - z = d := by omega
  have g2 : w + f - w = f := by omega
  rw [g1, g2] at f1 f2
  clear hX hY hZ hW e1 e2 hE hF g1 g2 h
  refine ⟨-j * (s * E + t * F) + (p - j * s) * d - (q - j * t) * f, -j * (s * F - t * E) + (p - j * s) * f + (q - j * t) * d, ?_, ?_⟩
  · have r : p * (-j * (s * E + t * F) + (p - j * s) * d - (q - j * t) * f) + q * (-j * (s * F - t * E) + (p - j * s) * f + (q - j * t) * d) = -j * (s * (p * E + q * F) + t * (p * F - q * E)) + ((p * p + q * q) - j * (s * p + t * q)) * d + j * (t * p - s * q) * f := by grind
    have r2 : -j * (s * (p * d - q * f) + t * (p * f + q * d)) + ((p * p + q * q) - j * (s * p + t * q)) * d + j * (t * p - s * q) * f = ((p * p + q * q) - 2 * j * (s * p + t * q)) * d := by grind
    rw [r, f1, f2, r2, b, hj]
    have : (2 * j + 1 - 2 * j * 1) * d = d := by rw [Int.mul_one, show 2 * j + 1 - 2 * j = 1 by omega, Int.one_mul]
    rw [this]
  · have r : p * (-j * (s * F - t * E) + (p - j * s) * f + (q - j * t) * d) - q * (-j * (s * E + t * F) + (p - j * s) * d - (q - j * t) * f) = -j * (s * (p * F - q * E) - t * (p * E + q * F)) + ((p * p + q * q) - j * (s * p + t * q)) * f - j * (t * p - s * q) * d := by grind
    have r2 : -j * (s * (p * f + q * d) - t * (p * d - q * f)) + ((p * p + q * q) - j * (s * p + t * q)) * f - j * (t * p - s * q) * d = ((p * p + q * q) - 2 * j * (s * p + t * q)) * f := by grind
    rw [r, f1, f2, r2, b, hj]
    have : (2 * j + 1 - 2 * j * 1) * f = f := by rw [Int.mul_one, show 2 * j + 1 - 2 * j = 1 by omega, Int.one_mul]
    rw [this]
/-- the image of what is moved so, with quarters -/
theorem im_move {p q k : Int} (h : Tn p q k) (x y t u : Int) : imX p q k (x + (p * t + q * u)) (y + (p * u - q * t)) = imX p q k x y + rtX k.toNat (p * t - q * u) (p * u + q * t) ∧ imY p q k (x + (p * t + q * u)) (y + (p * u - q * t)) = imY p q k x y + rtY k.toNat (p * t - q * u) (p * u + q * t) := by
  have hk : 0 ≤ k ∧ k < 4 := ⟨h.k1, by have := h.k2; omega⟩
  have h0 : Tn p q 0 := ⟨h.p1, h.p2, h.q1, h.q2, h.g, h.o, by decide, by decide⟩
  have e := fun x y => im_rot h0 hk x y
  have e0 : (0 + k) % 4 = k := by omega
  have e4 : k % 4 = k := by omega
  rw [e0, e4] at e
  rw [(e _ _).1, (e _ _).2, (e x y).1, (e x y).2, (im0_move (cc_pos h) x y t u).1, (im0_move (cc_pos h) x y t u).2]
  generalize k.toNat = i
  match i with
  | 0 => simp [rtX, rtY]
  | 1 => simp [rtX, rtY, Int.neg_add]
  | 2 => simp [rtX, rtY, Int.neg_add]
  | _ + 3 => simp [rtX, rtY, Int.neg_add]
theorem u_cancel {p q a b c d : Int} (h : 0 < cc p q) (e1 : p * a - q * b = p * c - q * d) (e2 : p * b + q * a = p * d + q * c) : a = c ∧ b = d := by
  constructor
  · refine cancel h ?_
    unfold cc
    have : (p * p + q * q) * a = p * (p * a - q * b) + q * (p * b + q * a) := by grind
    rw [this, e1, e2]
    grind
  · refine cancel h ?_
    unfold cc
    have : (p * p + q * q) * b = p * (p * b + q * a) - q * (p * a - q * b) := by grind
    rw [this, e1, e2]
    grind
/-- the pixel (f, 0) has the rest (m, n), if u * u * f is u times the rest modulo c -/
theorem re_of {p q k m n f v w : Int} (h : Tn p q k) (hr : isR p q m n) (e1 : (p * p - q * q) * f = (p * m - q * n) + cc p q * v) (e2 : 2 * p * q * f = (p * n + q * m) + cc p q * w) : reX p q f 0 = m ∧ reY p q f 0 = n := by
  have i1 : imX p q 0 f 0 = v := by
    unfold imX
    rw [(ex0 p q f 0).1, Int.mul_zero, Int.sub_zero, e1, nrr_of hr.1]
  have i2 : imY p q 0 f 0 = w := by
    unfold imY
    rw [(ex0 p q f 0).2, Int.mul_zero, Int.zero_add, e2, nrr_of hr.2]
  have u := u_re p q f 0
  rw [i1, i2, (ex0 p q f 0).1, (ex0 p q f 0).2, Int.mul_zero, Int.mul_zero, Int.sub_zero, Int.zero_add, e1, e2] at u
  exact u_cancel (cc_pos h) (by omega) (by omega)
/-- a and c have no common divisor -/
theorem co_ac {p q k : Int} (h : Tn p q k) : ∃ s t : Int, s * (p * p - q * q) + t * cc p q = 1 := by
  obtain ⟨s, t, b⟩ := bez h.g
  obtain ⟨j, hj⟩ : ∃ j, cc p q = 2 * j + 1 := ⟨cc p q / 2, by have := cc_odd h; omega⟩
  obtain ⟨α, hα⟩ : ∃ α, α = s * s * s * p + 3 * s * s * t * q := ⟨_, rfl⟩
  obtain ⟨β, hβ⟩ : ∃ β, β = 3 * s * t * t * p + t * t * t * q := ⟨_, rfl⟩
  have e : p * p * α + q * q * β = 1 := by
    have : p * p * α + q * q * β = (s * p + t * q) * (s * p + t * q) * (s * p + t * q) := by rw [hα, hβ]; grind
    rw [this, b] <;> rfl
  refine ⟨-j * (α - β), 1 - j * (α + β), ?_⟩
  have e2 : -j * (α - β) * (p * p - q * q) + (1 - j * (α + β)) * cc p q = cc p q - 2 * j * (p * p * α + q * q * β) := by unfold cc; grind
  rw [e2, e, hj]
  omega
theorem co_pc {p q k : Int} (h : Tn p q k) : ∃ s t : Int, s * p + t * cc p q = 1 := by
  obtain ⟨s, t, b⟩ := bez h.g
  refine ⟨s * (1 + t * q) - t * t * p, t * t, ?_⟩
  have : (s * (1 + t * q) - t * t * p) * p + t * t * cc p q = s * p * (1 + t * q) + t * q * (t * q) := by unfold cc; grind
  rw [this]
  have z : s * p = 1 - t * q := by omega
  rw [z]
  grind
/-- what the first pixel of a row with a rest is: v is the inverse of a -/
theorem first_re {p q k m n v : Int} (h : Tn p q k) (hr : isR p q m n) (hv : (v * (p * p - q * q) - 1) % cc p q = 0) : reX p q ((p * m - q * n) * v % cc p q) 0 = m ∧ reY p q ((p * m - q * n) * v % cc p q) 0 = n := by
  have hc := cc_pos h
  obtain ⟨z, hz⟩ : ∃ z, v * (p * p - q * q) - 1 = cc p q * z := ⟨_, (Int.mul_ediv_cancel' (Int.dvd_of_emod_eq_zero hv)).symm⟩
  have hf := Int.emod_add_mul_ediv ((p * m - q * n) * v) (cc p q)
  generalize (p * m - q * n) * v % cc p q = f at *
  generalize (p * m - q * n) * v / cc p q = g at *
  -- a f = r + c (..)
  have e1 : (p * p - q * q) * f = (p * m - q * n) + cc p q * ((p * m - q * n) * z - (p * p - q * q) * g) := by
    have : f = (p * m - q * n) * v - cc p q * g := by omega
    rw [this]
    have : (p * p - q * q) * ((p * m - q * n) * v - cc p q * g) = (p * m - q * n) * (v * (p * p - q * q) - 1) + (p * m - q * n) - cc p q * ((p * p - q * q) * g) := by grind
    rw [this, hz]
    grind
  obtain ⟨s, t, b⟩ := co_pc h
  generalize hV : (p * m - q * n) * z - (p * p - q * q) * g = V at *
  -- p (b f - s') = c (q f + q V - n)
  have e3 : p * (2 * p * q * f - (p * n + q * m)) = cc p q * (q * f + q * V - n) := by
    have x1 : p * (2 * p * q * f - (p * n + q * m)) = q * ((p * p - q * q) * f) + cc p q * (q * f) - q * (p * m - q * n) - cc p q * n := by unfold cc; grind
    rw [x1, e1]
    grind
  have e2 : 2 * p * q * f = (p * n + q * m) + cc p q * (s * (q * f + q * V - n) + t * (2 * p * q * f - (p * n + q * m))) := by
    have x2 : 2 * p * q * f - (p * n + q * m) = s * (p * (2 * p * q * f - (p * n + q * m))) + t * cc p q * (2 * p * q * f - (p * n + q * m)) := by
      have : s * (p * (2 * p * q * f - (p * n + q * m))) + t * cc p q * (2 * p * q * f - (p * n + q * m)) = (s * p + t * cc p q) * (2 * p * q * f - (p * n + q * m)) := by grind
      rw [this, b, Int.one_mul]
    rw [e3] at x2
    generalize 2 * p * q * f = F at *
    generalize p * n + q * m = G at *
    grind
  exact re_of h hr e1 e2
theorem first_only {p q k f g : Int} (h : Tn p q k) (hf : 0 ≤ f ∧ f < cc p q) (hg : 0 ≤ g ∧ g < cc p q) (e1 : reX p q f 0 = reX p q g 0) (e2 : reY p q f 0 = reY p q g 0) : f = g := by
  obtain ⟨t, u, a, b⟩ := re_div h e1 e2
  obtain ⟨s, w, z⟩ := bez h.g
  -- p (f - g) = c t, q (f - g) = c u
  have e : f - g = cc p q * (s * t + w * u) := by
    have d : f - g = p * t + q * u := by omega
    have d0 : p * u - q * t = 0 := by omega
    have p1 : p * (f - g) = cc p q * t := by
      rw [d]
      have : p * (p * t + q * u) = cc p q * t + q * (p * u - q * t) := by unfold cc; grind
      rw [this, d0]
      omega
    have q1 : q * (f - g) = cc p q * u := by
      rw [d]
      have : q * (p * t + q * u) = cc p q * u - p * (p * u - q * t) := by unfold cc; grind
      rw [this, d0]
      omega
    have : f - g = s * (p * (f - g)) + w * (q * (f - g)) := by
      have : s * (p * (f - g)) + w * (q * (f - g)) = (s * p + w * q) * (f - g) := by grind
      rw [this, z, Int.one_mul]
    rw [p1, q1] at this
    rw [this]
    grind
  generalize s * t + w * u = r at e
  have : r = 0 := by
    rcases Int.lt_trichotomy r 0 with hh | hh | hh
    · have : cc p q * r ≤ cc p q * (-1) := Int.mul_le_mul_of_nonneg_left (by omega) (by omega)
      omega
    · exact hh
    · have : cc p q * 1 ≤ cc p q * r := Int.mul_le_mul_of_nonneg_left (by omega) (by omega)
      omega
  subst this
  omega
/-- the nearest pixel to a pixel with its own rest is the pixel -/
theorem near_re {p q k x y f : Int} (h : Tn p q k) (e1 : reX p q f 0 = reX p q x y) (e2 : reY p q f 0 = reY p q x y) : f + (p * nrr (p * (x - f) - q * y) (cc p q) - -q * nrr (p * y + q * (x - f)) (cc p q)) = x ∧ p * nrr (p * y + q * (x - f)) (cc p q) + -q * nrr (p * (x - f) - q * y) (cc p q) = y := by
  obtain ⟨t, u, a, b⟩ := re_div h e1.symm e2.symm
  have d : x - f = p * t + q * u := by omega
  have dy : y = p * u - q * t := by omega
  have hc := cc_pos h
  have n1 : p * (x - f) - q * y = 0 + cc p q * t := by rw [d, dy]; unfold cc; grind
  have n2 : p * y + q * (x - f) = 0 + cc p q * u := by rw [d, dy]; unfold cc; grind
  rw [n1, n2, nrr_of (by omega), nrr_of (by omega)]
  constructor <;> grind

theorem eqB_t2 (a b c d : Int) : eqB (.tup [.int a, .int b]) (.tup [.int c, .int d]) = (decide (a = c) && decide (b = d)) := by
  unfold eqB
  simp [toPy, toPyL, PyData.eqv, PyData.eqvAll] <;> rfl
theorem eq_t2 {a b c d : Int} {S : Sto} {Q : Bool → Sto → Prop} (q : ∀ v : Bool, (v = true ↔ a = c ∧ b = d) → Q v S) : eqP (.tup [.int a, .int b]) (.tup [.int c, .int d]) S Q := by
  refine eq_tup ?_
  exact q _ (by rw [eqB_t2, Bool.and_eq_true, decide_eq_true_eq, decide_eq_true_eq])
theorem nb {b : Bool} (h : (!b) = true) (k : b = true) : False := by subst k; cases h
theorem half_le {x c : Int} : (if x < 0 then -x else x) ≤ (c - 1) / 2 ↔ -c < 2 * x ∧ 2 * x < c := by split <;> omega
theorem q_dec {P : Prop} [Decidable P] {R : Bool → Prop} (h1 : P → R true) (h2 : ¬P → R false) : R (decide P) := by
  by_cases h : P
  · rw [decide_eq_true h]
    exact h1 h
  · rw [decide_eq_false h]
    exact h2 h
def con_rest_of : Con := fun ds S Q => ∃ p q k x y : Int, ds = [.tup [.int p, .int q, .int k], .tup [.int x, .int y]] ∧ Tn p q k ∧ (Bd 1000 x ∧ Bd 1000 y) ∧ Q (.tup [.int (reX p q x y), .int (reY p q x y)]) S
def con_is_rest : Con := fun ds S Q => ∃ p q k m n : Int, ds = [.tup [.int p, .int q, .int k], .tup [.int m, .int n]] ∧ Tn p q k ∧ (Bd 1300 m ∧ Bd 1300 n) ∧ ∀ b : Bool, (b = true ↔ isR p q m n) → Q (.bl b) S
def con_same_rest : Con := fun ds S Q => ∃ p q k x y z w : Int, ds = [.tup [.int p, .int q, .int k], .tup [.int x, .int y], .tup [.int z, .int w]] ∧ Tn p q k ∧ (Bd 1000 x ∧ Bd 1000 y ∧ Bd 1000 z ∧ Bd 1000 w) ∧ ∀ b : Bool, (b = true ↔ reX p q x y = reX p q z w ∧ reY p q x y = reY p q z w) → Q (.bl b) S
def con_check_rest : Con := fun ds S Q => ∃ p q k m n : Int, ds = [.tup [.int p, .int q, .int k], .tup [.int m, .int n]] ∧ Tn p q k ∧ isR p q m n ∧ (Bd 1200 m ∧ Bd 1200 n) ∧ Q .non S
def con_inverse : Con := fun ds S Q => ∃ n m : Int, ds = [.int n, .int m] ∧ (Bd 300 n ∧ Bd 110 m ∧ 0 < m ∧ ∃ s t, s * n + t * m = 1) ∧ ∀ v, 0 ≤ v → v < m → (v * n - 1) % m = 0 → Q (.int v) S
def con_first : Con := fun ds S Q => ∃ p q k m n : Int, ds = [.tup [.int p, .int q, .int k], .tup [.int m, .int n]] ∧ Tn p q k ∧ isR p q m n ∧ (Bd 1200 m ∧ Bd 1200 n) ∧ ∀ f, 0 ≤ f → f < cc p q → reX p q f 0 = m → reY p q f 0 = n → Q (.tup [.int f, .int 0]) S
def con_near : Con := fun ds S Q => ∃ p q k m n x y : Int, ds = [.tup [.int p, .int q, .int k], .tup [.int m, .int n], .tup [.int x, .int y]] ∧ Tn p q k ∧ isR p q m n ∧ (Bd 1200 m ∧ Bd 1200 n ∧ Bd 1000 x ∧ Bd 1000 y) ∧ ∀ f, 0 ≤ f → f < cc p q → reX p q f 0 = m → reY p q f 0 = n → Q (.tup [.int (f + (p * nrr (p * (x - f) - q * y) (cc p q) - -q * nrr (p * y + q * (x - f)) (cc p q))), .int (p * nrr (p * y + q * (x - f)) (cc p q) + -q * nrr (p * (x - f) - q * y) (cc p q))]) S
theorem Bd.reX {p q x y : Int} {n : Nat} (h : Bd 50 p) (g : Bd 50 q) (hx : Bd n x) (hy : Bd n y) : Bd (160 + n) (reX p q x y) :=
  (((h.mul hx).sub (g.mul hy)).sub ((h.mul (Bd.imX 0 h g hx hy)).sub (g.neg.mul (Bd.imY 0 h g hx hy)))).up (by omega)
theorem Bd.reY {p q x y : Int} {n : Nat} (h : Bd 50 p) (g : Bd 50 q) (hx : Bd n x) (hy : Bd n y) : Bd (160 + n) (reY p q x y) :=
  (((h.mul hy).add (g.mul hx)).sub ((h.mul (Bd.imY 0 h g hx hy)).add (g.neg.mul (Bd.imX 0 h g hx hy)))).up (by omega)
/-- the rounds that find an inverse -/
structure InvI (n m h l a b : Int) : Prop where
  h0 : 0 < h
  l0 : 0 ≤ l
  az : ∃ z, a * n - h = m * z
  bz : ∃ z, b * n - l = m * z
  co : ∀ d, d ∣ h → d ∣ l → d ∣ 1
  sg : (0 ≤ a ∧ b ≤ 0 ∧ a * l - b * h = m) ∨ (a ≤ 0 ∧ 0 ≤ b ∧ b * h - a * l = m)
  hm : h ≤ m
  lm : l ≤ m
  ab : -m ≤ a ∧ a ≤ m
theorem InvI.start {n m s t : Int} (hm : 0 < m) (e : s * n + t * m = 1) : InvI n m m (n % m) 0 1 := by
  have r0 := Int.emod_nonneg n (show m ≠ 0 by omega)
  have r1 := Int.emod_lt_of_pos n hm
  have r2 := Int.emod_add_mul_ediv n m
  refine ⟨hm, r0, ⟨-1, by omega⟩, ⟨n / m, by omega⟩, fun d h1 h2 => ?_, .inr ⟨by omega, by omega, by omega⟩, by omega, by omega, by omega⟩
  have h3 : d ∣ n := by rw [← r2]; exact Int.dvd_add h2 (Int.dvd_trans h1 (Int.dvd_mul_right _ _))
  rw [← e]
  exact Int.dvd_add (Int.dvd_trans h3 (Int.dvd_mul_left _ _)) (Int.dvd_trans h1 (Int.dvd_mul_left _ _))
theorem InvI.b_le {n m h l a b : Int} (I : InvI n m h l a b) : -m ≤ b ∧ b ≤ m := by
  have h0 := I.h0
  have l0 := I.l0
  rcases I.sg with ⟨a0, b0, e⟩ | ⟨a0, b0, e⟩
  · have x1 : 0 ≤ a * l := Int.mul_nonneg a0 l0
    have x2 : (-b) * 1 ≤ (-b) * h := Int.mul_le_mul_of_nonneg_left (by omega) (by omega)
    have x3 : (-b) * h = -(b * h) := Int.neg_mul _ _
    omega
  · have x1 : 0 ≤ (-a) * l := Int.mul_nonneg (by omega) l0
    have x2 : b * 1 ≤ b * h := Int.mul_le_mul_of_nonneg_left (by omega) (by omega)
    have x3 : (-a) * l = -(a * l) := Int.neg_mul _ _
    omega
theorem InvI.less {h l : Int} (h0 : 0 < l) : 0 ≤ h - h / l * l ∧ h - h / l * l < l := by
  have r0 := Int.emod_nonneg h (show l ≠ 0 by omega)
  have r1 := Int.emod_lt_of_pos h h0
  have r2 := Int.emod_add_mul_ediv h l
  have r3 : h / l * l = l * (h / l) := Int.mul_comm _ _
  omega
theorem InvI.step {n m h l a b : Int} (I : InvI n m h l a b) (hl : 0 < l) : InvI n m l (h - h / l * l) b (a - h / l * b) := by
  obtain ⟨l1, l2⟩ := InvI.less (h := h) hl
  have q0 : 0 ≤ h / l := Int.ediv_nonneg (by have := I.h0; omega) (by omega)
  have hlm := I.lm
  obtain ⟨z, hz⟩ := I.az
  obtain ⟨w, hw⟩ := I.bz
  refine ⟨hl, l1, I.bz, ⟨z - h / l * w, ?_⟩, fun d h1 h2 => I.co d ?_ h1, ?_, hlm, by omega, I.b_le⟩
  · have : (a - h / l * b) * n - (h - h / l * l) = (a * n - h) - h / l * (b * n - l) := by grind
    rw [this, hz, hw]
    grind
  · have : h = (h - h / l * l) + h / l * l := by omega
    rw [this]
    exact Int.dvd_add h2 (Int.dvd_trans h1 (Int.dvd_mul_left _ _))
  · generalize h / l = k at *
    rcases I.sg with ⟨a0, b0, e⟩ | ⟨a0, b0, e⟩
    · have x : 0 ≤ k * (-b) := Int.mul_nonneg q0 (by omega)
      have x2 : k * (-b) = -(k * b) := Int.mul_neg _ _
      exact .inr ⟨b0, by omega, by rw [← e]; grind⟩
    · have x : 0 ≤ k * b := Int.mul_nonneg q0 b0
      exact .inl ⟨b0, by omega, by rw [← e]; grind⟩
theorem InvI.fin {n m h a b : Int} (I : InvI n m h 0 a b) (hm : 0 < m) : (a % m * n - 1) % m = 0 := by
  have h1 : h ∣ 1 := I.co h (Int.dvd_refl h) (Int.dvd_zero h)
  have h2 : h = 1 := by
    have := Int.le_of_dvd (by decide) h1
    have := I.h0
    omega
  obtain ⟨z, hz⟩ := I.az
  rw [h2] at hz
  have r2 := Int.emod_add_mul_ediv a m
  have : a % m * n - 1 = m * (z - a / m * n) := by
    have e : a % m = a - m * (a / m) := by omega
    rw [e]
    have : (a - m * (a / m)) * n - 1 = (a * n - 1) - m * (a / m * n) := by grind
    rw [this, hz]
    grind
  rw [this]
  exact Int.mul_emod_right _ _
/-- moved by p - q i times a pixel, as the laws write it -/
theorem mv_x (p q t u : Int) : p * t - -q * u = p * t + q * u ∧ p * u + -q * t = p * u - q * t := by constructor <;> grind
theorem re_moved {p q : Int} (h : 0 < cc p q) (x y t u : Int) : reX p q (x + (p * t - -q * u)) (y + (p * u + -q * t)) = reX p q x y ∧ reY p q (x + (p * t - -q * u)) (y + (p * u + -q * t)) = reY p q x y := by
  rw [(mv_x p q t u).1, (mv_x p q t u).2]
  exact re_move h x y t u
theorem im_moved {p q k : Int} (h : Tn p q k) (x y t u : Int) : imX p q k (x + (p * t - -q * u)) (y + (p * u + -q * t)) = imX p q k x y + rtX (k % 4).toNat (p * t - q * u) (p * u + q * t) ∧ imY p q k (x + (p * t - -q * u)) (y + (p * u + -q * t)) = imY p q k x y + rtY (k % 4).toNat (p * t - q * u) (p * u + q * t) := by
  have e : k % 4 = k := Int.emod_eq_of_lt h.k1 (by have := h.k2; omega)
  rw [(mv_x p q t u).1, (mv_x p q t u).2, e]
  exact im_move h x y t u
theorem near_moved {p q k x y f t u : Int} (h : Tn p q k) (e1 : reX p q f 0 = reX p q x y) (e2 : reY p q f 0 = reY p q x y) : f + (p * nrr (p * ((x + (p * t - -q * u)) - f) - q * (y + (p * u + -q * t))) (cc p q) - -q * nrr (p * (y + (p * u + -q * t)) + q * ((x + (p * t - -q * u)) - f)) (cc p q)) = x + (p * t - -q * u) ∧ p * nrr (p * (y + (p * u + -q * t)) + q * ((x + (p * t - -q * u)) - f)) (cc p q) + -q * nrr (p * ((x + (p * t - -q * u)) - f) - q * (y + (p * u + -q * t))) (cc p q) = y + (p * u + -q * t) :=
  near_re h (e1.trans (re_moved (cc_pos h) x y t u).1.symm) (e2.trans (re_moved (cc_pos h) x y t u).2.symm)
theorem over_eq {p q k : Int} (h : Tn p q k) (x y : Int) : cc p q * imX p q k x y = exX p q k x y - rtX (k % 4).toNat (p * reX p q x y - q * reY p q x y) (p * reY p q x y + q * reX p q x y) ∧ cc p q * imY p q k x y = exY p q k x y - rtY (k % 4).toNat (p * reX p q x y - q * reY p q x y) (p * reY p q x y + q * reX p q x y) := by
  have hk : 0 ≤ k ∧ k < 4 := ⟨h.k1, by have := h.k2; omega⟩
  have h0 : Tn p q 0 := ⟨h.p1, h.p2, h.q1, h.q2, h.g, h.o, by decide, by decide⟩
  have e4 : k % 4 = k := by omega
  have i := im_rot h0 hk x y
  have j := ex_rot p q x y (show (0 : Int) ≤ 0 ∧ (0 : Int) < 4 by decide) hk
  have e0 : (0 + k) % 4 = k := by omega
  rw [e0, e4] at i
  rw [e0] at j
  rw [e4, i.1, i.2, j.1, j.2, (u_re p q x y).1, (u_re p q x y).2]
  generalize cc p q = c
  generalize exX p q 0 x y = X
  generalize exY p q 0 x y = Y
  generalize imX p q 0 x y = U
  generalize imY p q 0 x y = V
  generalize k.toNat = j
  match j with
  | 0 => simp only [rtX, rtY]; constructor <;> grind
  | 1 => simp only [rtX, rtY]; constructor <;> grind
  | 2 => simp only [rtX, rtY]; constructor <;> grind
  | _ + 3 => simp only [rtX, rtY]; constructor <;> grind

theorem Tn.zero {p q k : Int} (h : Tn p q k) : Tn p q 0 := ⟨h.p1, h.p2, h.q1, h.q2, h.g, h.o, by decide, by decide⟩
theorem Bd.of_le' {n : Nat} {m h : Int} (b : Bd n m) (h0 : 0 < h) (h1 : h ≤ m) : Bd n h := Bd.of_le (by omega) h1 b
theorem Bd.of_le'' {n : Nat} {m h : Int} (b : Bd n m) (h0 : 0 ≤ h) (h1 : h ≤ m) : Bd n h := Bd.of_le h0 h1 b
theorem Bd.of_ab {n : Nat} {m h : Int} (b : Bd n m) (h0 : -m ≤ h ∧ h ≤ m) : Bd n h := by
  have := (show 0 ≤ m by omega)
  unfold Bd at *
  omega

theorem bd_cc {p q : Int} (h : Bd 101 (cc p q)) : Bd 101 (cc p q) := h

end Tp
namespace Tp
open PySem PySem.Spec PyProof.Rows L2 DL

/-! ### pixels with one rest -/
theorem sq2 (p : Int) : p ^ (Int.toNat 2) = p * p := by
  show p ^ 2 = p * p
  rw [Int.pow_succ, Int.pow_succ, Int.pow_zero, Int.one_mul]
theorem cc2 (p q : Int) : p ^ (Int.toNat 2) + q ^ (Int.toNat 2) = cc p q := by rw [sq2, sq2] <;> rfl
theorem cc2_pos {p q k : Int} (h : Tn p q k) : 0 < p ^ (Int.toNat 2) + q ^ (Int.toNat 2) := by
  rw [cc2]
  exact cc_pos h
theorem Bd.cc2 {p q : Int} (h : Bd 50 p) (g : Bd 50 q) : Bd 101 (p ^ (Int.toNat 2) + q ^ (Int.toNat 2)) := by
  rw [Tp.cc2]
  exact Bd.cc h g
theorem alike_iff {p q k : Int} (h : Tn p q k) (x y z w : Int) : ((p * (x - z) - q * (y - w)) % (p ^ (Int.toNat 2) + q ^ (Int.toNat 2)) = 0 ∧ (p * (y - w) + q * (x - z)) % (p ^ (Int.toNat 2) + q ^ (Int.toNat 2)) = 0) ↔ reX p q x y = reX p q z w ∧ reY p q x y = reY p q z w := by
  rw [cc2]
  have hc := cc_pos h
  constructor
  · rintro ⟨h1, h2⟩
    obtain ⟨t, ht⟩ := Int.dvd_of_emod_eq_zero h1
    obtain ⟨u, hu⟩ := Int.dvd_of_emod_eq_zero h2
    obtain ⟨e1, e2⟩ := u_cancel (p := p) (q := q) (a := x - z) (b := y - w) (c := p * t + q * u) (d := p * u - q * t) hc (by rw [ht]; unfold cc; grind) (by rw [hu]; unfold cc; grind)
    have x1 : x = z + (p * t + q * u) := by omega
    have y1 : y = w + (p * u - q * t) := by omega
    rw [x1, y1]
    exact re_move hc z w t u
  · rintro ⟨h1, h2⟩
    obtain ⟨t, u, rfl, rfl⟩ := re_div h h1 h2
    have a1 : p * (z + (p * t + q * u) - z) - q * (w + (p * u - q * t) - w) = cc p q * t := by unfold cc; grind
    have a2 : p * (w + (p * u - q * t) - w) + q * (z + (p * t + q * u) - z) = cc p q * u := by unfold cc; grind
    rw [a1, a2]
    exact ⟨Int.mul_emod_right _ _, Int.mul_emod_right _ _⟩
theorem b_eq {a b : Bool} {R : Prop} (h : a = true ↔ R) (g : b = true ↔ R) : a = b := by
  cases a <;> cases b <;> simp_all
theorem lst2b {a b c : Bool} (h : a = c) (g : b = c) : D.lst [.bl a, .bl b] = D.lst [.bl c, .bl c] := by rw [h, g]
def con_left : Con := fun ds S Q => ∃ p q k x y : Int, ds = [.tup [.int p, .int q, .int k], .tup [.int x, .int y]] ∧ Tn p q k ∧ (Bd 1000 x ∧ Bd 1000 y) ∧ Q (.tup [.int (reX p q x y), .int (reY p q x y)]) S
def con_alike : Con := fun ds S Q => ∃ p q k x y z w : Int, ds = [.tup [.int p, .int q, .int k], .tup [.int x, .int y], .tup [.int z, .int w]] ∧ Tn p q k ∧ (Bd 900 x ∧ Bd 900 y ∧ Bd 900 z ∧ Bd 900 w) ∧ ∀ b : Bool, (b = true ↔ reX p q x y = reX p q z w ∧ reY p q x y = reY p q z w) → Q (.bl b) S
def con_pairs : Con := fun ds S Q => ∃ (pp : Addr) (l : List D) (m : Nat) (p q k x y : Int), ds = [.raw (.ref pp), .tup [.int p, .int q, .int k], .tup [.int x, .int y]] ∧ getS pp S = some l ∧ Src m l ∧ m ≤ 800000 ∧ Tn p q k ∧ (Bd 150 x ∧ Bd 150 y) ∧ ∀ l', Src (m + 10) l' → Q (.bl true) (setS pp l' S)
def con_firsts : Con := fun ds S Q => ∃ p q k x y : Int, ds = [.tup [.int p, .int q, .int k], .tup [.int x, .int y]] ∧ Tn p q k ∧ (Bd 150 x ∧ Bd 150 y) ∧ Q (.bl true) S
theorem first_told {f g : Int} (hf : 0 ≤ f) (hg : f < cc 4 1) (x : reX 4 1 f 0 = -2) (y : reY 4 1 f 0 = 0) (hf2 : 0 ≤ g) (hg2 : g < cc 1 0) : D.lst [.tup [.int f, .int 0], .tup [.int g, .int 0]] = D.lst [.tup [.int 4, .int 0], .tup [.int 0, .int 0]] := by
  have h : Tn 4 1 0 := ⟨by decide, by decide, by decide, by decide, by decide, by decide, by decide, by decide⟩
  have e : f = 4 := first_only h ⟨hf, hg⟩ ⟨by decide, by decide⟩ (x.trans (by decide +kernel)) (y.trans (by decide +kernel))
  have c1 : cc 1 0 = 1 := by decide
  have e2 : g = 0 := by omega
  rw [e, e2]

end Tp
namespace Tp
open PySem PySem.Spec PyProof.Rows L2 DL
/-! ### the nearest pixel with a rest -/
def nwX (p q f x y : Int) : Int := f + (p * nrr (p * (x - f) - q * y) (cc p q) - -q * nrr (p * y + q * (x - f)) (cc p q))
def nwY (p q f x y : Int) : Int := p * nrr (p * y + q * (x - f)) (cc p q) + -q * nrr (p * (x - f) - q * y) (cc p q)
def farI (a b x y : Int) : Int := (a - x) * (a - x) + (b - y) * (b - y)
theorem nw_rest {p q : Int} (h : 0 < cc p q) (f x y : Int) : reX p q (nwX p q f x y) (nwY p q f x y) = reX p q f 0 ∧ reY p q (nwX p q f x y) (nwY p q f x y) = reY p q f 0 := by
  have := re_moved h f 0 (nrr (p * (x - f) - q * y) (cc p q)) (nrr (p * y + q * (x - f)) (cc p q))
  rw [Int.zero_add] at this
  exact this
theorem step_far {e c t : Int} (h : -c < 2 * e ∧ 2 * e < c) : e * e ≤ (e - c * t) * (e - c * t) ∧ ((e - c * t) * (e - c * t) = e * e → t = 0) := by
  have k : (e - c * t) * (e - c * t) = e * e + c * (t * (c * t - 2 * e)) := by grind
  rw [k]
  rcases Int.lt_trichotomy t 0 with z | z | z
  · have a1 : c * t ≤ c * (-1) := Int.mul_le_mul_of_nonneg_left (by omega) (by omega)
    have a2 : 0 < (-t) * (-(c * t - 2 * e)) := Int.mul_pos (by omega) (by omega)
    rw [Int.neg_mul_neg] at a2
    have a3 : 0 < c * (t * (c * t - 2 * e)) := Int.mul_pos (by omega) a2
    exact ⟨by omega, fun w => by omega⟩
  · subst z
    simp
  · have a1 : c * 1 ≤ c * t := Int.mul_le_mul_of_nonneg_left (by omega) (by omega)
    have a2 : 0 < t * (c * t - 2 * e) := Int.mul_pos z (by omega)
    have a3 : 0 < c * (t * (c * t - 2 * e)) := Int.mul_pos (by omega) a2
    exact ⟨by omega, fun w => by omega⟩
theorem u_far (p q a b : Int) : cc p q * (a * a + b * b) = (p * a - q * b) * (p * a - q * b) + (p * b + q * a) * (p * b + q * a) := by unfold cc; grind
/-- what is over when the nearest pixel is gone -/
theorem nw_over (p q f x y : Int) : p * (x - nwX p q f x y) - q * (y - nwY p q f x y) = p * (x - f) - q * y - cc p q * nrr (p * (x - f) - q * y) (cc p q) ∧ p * (y - nwY p q f x y) + q * (x - nwX p q f x y) = p * y + q * (x - f) - cc p q * nrr (p * y + q * (x - f)) (cc p q) := by
  unfold nwX nwY
  generalize nrr (p * (x - f) - q * y) (cc p q) = r
  generalize nrr (p * y + q * (x - f)) (cc p q) = s
  unfold cc
  constructor <;> grind
theorem nw_best {p q k f x y a b : Int} (h : Tn p q k) (e1 : reX p q a b = reX p q f 0) (e2 : reY p q a b = reY p q f 0) : farI (nwX p q f x y) (nwY p q f x y) x y ≤ farI a b x y ∧ (farI a b x y = farI (nwX p q f x y) (nwY p q f x y) x y → a = nwX p q f x y ∧ b = nwY p q f x y) := by
  have hc := cc_pos h
  obtain ⟨r1, r2⟩ := nw_rest hc f x y
  obtain ⟨t, u, ha, hb⟩ := re_div h (e1.trans r1.symm) (e2.trans r2.symm)
  obtain ⟨o1, o2⟩ := nw_over p q f x y
  have n1 := nrr_near (n := p * (x - f) - q * y) (cc_odd h) hc
  have n2 := nrr_near (n := p * y + q * (x - f)) (cc_odd h) hc
  rw [← o1] at n1
  rw [← o2] at n2
  generalize nwX p q f x y = X at *
  generalize nwY p q f x y = Y at *
  have f1 := u_far p q (x - X) (y - Y)
  have f2 := u_far p q (x - a) (y - b)
  have d1 : p * (x - a) - q * (y - b) = (p * (x - X) - q * (y - Y)) - cc p q * t := by rw [ha, hb]; unfold cc; grind
  have d2 : p * (y - b) + q * (x - a) = (p * (y - Y) + q * (x - X)) - cc p q * u := by rw [ha, hb]; unfold cc; grind
  rw [d1, d2] at f2
  obtain ⟨s1, s2⟩ := step_far (t := t) n1
  obtain ⟨s3, s4⟩ := step_far (t := u) n2
  have g1 : farI X Y x y = (x - X) * (x - X) + (y - Y) * (y - Y) := by unfold farI; grind
  have g2 : farI a b x y = (x - a) * (x - a) + (y - b) * (y - b) := by unfold farI; grind
  rw [g1, g2]
  refine ⟨Int.le_of_mul_le_mul_left (a := cc p q) (by omega) hc, fun w => ?_⟩
  rw [w] at f2
  have t0 := s2 (by omega)
  have u0 := s4 (by omega)
  subst t0
  subst u0
  constructor
  · rw [ha]; grind
  · rw [hb]; grind
theorem abs_sq' (q : Int) : q * q = (q.natAbs : Int) * (q.natAbs : Int) := by
  rcases Int.natAbs_eq q with h | h
  · rw [← h]
  · have : q * q = -q * -q := by rw [Int.neg_mul_neg]
    rw [this]
    have : -q = (q.natAbs : Int) := by omega
    rw [this]
theorem nw_half {p q k : Int} (h : Tn p q k) (f x y : Int) : 2 * farI (nwX p q f x y) (nwY p q f x y) x y ≤ cc p q := by
  have hc := cc_pos h
  obtain ⟨o1, o2⟩ := nw_over p q f x y
  have n1 := nrr_near (n := p * (x - f) - q * y) (cc_odd h) hc
  have n2 := nrr_near (n := p * y + q * (x - f)) (cc_odd h) hc
  rw [← o1] at n1
  rw [← o2] at n2
  generalize nwX p q f x y = X at *
  generalize nwY p q f x y = Y at *
  have f1 := u_far p q (x - X) (y - Y)
  have g1 : farI X Y x y = (x - X) * (x - X) + (y - Y) * (y - Y) := by unfold farI; grind
  rw [g1]
  generalize p * (x - X) - q * (y - Y) = a at *
  generalize p * (y - Y) + q * (x - X) = b at *
  generalize cc p q = c at *
  have sq : ∀ e : Int, -c < 2 * e ∧ 2 * e < c → 4 * (e * e) ≤ c * c := fun e z => by
    have : (2 * e) * (2 * e) ≤ c * c := by
      have n : (2 * e).natAbs * (2 * e).natAbs ≤ c.natAbs * c.natAbs := Nat.mul_le_mul (by omega) (by omega)
      have p1 : ((2 * e).natAbs : Int) * (2 * e).natAbs = (2 * e) * (2 * e) := (abs_sq' (2 * e)).symm
      have p2 : (c.natAbs : Int) * c.natAbs = c * c := (abs_sq' c).symm
      rw [← p1, ← p2]
      exact_mod_cast n
    have : (2 * e) * (2 * e) = 4 * (e * e) := by grind
    omega
  have q1 := sq a n1
  have q2 := sq b n2
  refine Int.le_of_mul_le_mul_left (a := c) ?_ hc
  have : c * (2 * ((x - X) * (x - X) + (y - Y) * (y - Y))) = 2 * (c * ((x - X) * (x - X) + (y - Y) * (y - Y))) := by grind
  omega
theorem Bd.nwX {p q f x y : Int} (b1 : Bd 50 p) (b2 : Bd 50 q) (bf : Bd 110 f) (bx : Bd 150 x) (by' : Bd 150 y) : Bd 400 (nwX p q f x y) :=
  (bf.add ((b1.mul (Bd.nrr ((b1.mul (bx.sub bf)).sub (b2.mul by')) (Bd.cc b1 b2))).sub (b2.neg.mul (Bd.nrr ((b1.mul by').add (b2.mul (bx.sub bf))) (Bd.cc b1 b2))))).up (by decide)
theorem Bd.nwY {p q f x y : Int} (b1 : Bd 50 p) (b2 : Bd 50 q) (bf : Bd 110 f) (bx : Bd 150 x) (by' : Bd 150 y) : Bd 400 (nwY p q f x y) :=
  ((b1.mul (Bd.nrr ((b1.mul by').add (b2.mul (bx.sub bf))) (Bd.cc b1 b2))).add (b2.neg.mul (Bd.nrr ((b1.mul (bx.sub bf)).sub (b2.mul by')) (Bd.cc b1 b2)))).up (by decide)
/-- a pixel with a rest, not too far -/
def NB (p q m n : Int) (d : D) : Prop := ∃ a b : Int, d = .tup [.int a, .int b] ∧ reX p q a b = m ∧ reY p q a b = n ∧ Bd 600 a ∧ Bd 600 b
theorem nb_step {p q m n f x y : Int} (h : 0 < cc p q) (hx : reX p q f 0 = m) (hy : reY p q f 0 = n) (t u : Int) : reX p q (nwX p q f x y + (p * t - -q * u)) (nwY p q f x y + (p * u + -q * t)) = m ∧ reY p q (nwX p q f x y + (p * t - -q * u)) (nwY p q f x y + (p * u + -q * t)) = n := by
  obtain ⟨a, b⟩ := re_moved h (nwX p q f x y) (nwY p q f x y) t u
  obtain ⟨c, d⟩ := nw_rest h f x y
  exact ⟨a.trans (c.trans hx), b.trans (d.trans hy)⟩
theorem nb_zero (p q a b : Int) : a + (p * 0 - -q * 0) = a ∧ b + (p * 0 + -q * 0) = b := by simp
theorem three {i : Nat} {d : D} (h : [D.int (-1), D.int 0, D.int 1][i]? = some d) : i < 3 ∧ d = .int ((i : Int) - 1) := by
  have hi : i < 3 := (List.getElem?_eq_some_iff.mp h).1
  refine ⟨hi, ?_⟩
  rcases (by omega : i = 0 ∨ i = 1 ∨ i = 2) with e | e | e <;> subst e <;> exact (Option.some.inj h).symm
theorem near_same {p q k f g x y : Int} (h : Tn p q k) (hf : 0 ≤ f ∧ f < cc p q) (hg : 0 ≤ g ∧ g < cc p q) (e1 : reX p q f 0 = reX p q g 0) (e2 : reY p q f 0 = reY p q g 0) : D.tup [.int (nwX p q f x y), .int (nwY p q f x y)] = D.tup [.int (nwX p q g x y), .int (nwY p q g x y)] := by rw [first_only h hf hg e1 e2]
def con_far : Con := fun ds S Q => ∃ a b x y : Int, ds = [.tup [.int a, .int b], .tup [.int x, .int y]] ∧ (Bd 700 a ∧ Bd 700 b ∧ Bd 700 x ∧ Bd 700 y) ∧ Q (.int (farI a b x y)) S
def con_near9 : Con := fun ds S Q => ∃ p q k m n x y : Int, ds = [.tup [.int p, .int q, .int k], .tup [.int m, .int n], .tup [.int x, .int y]] ∧ Tn p q k ∧ isR p q m n ∧ (Bd 1200 m ∧ Bd 1200 n ∧ Bd 1000 x ∧ Bd 1000 y) ∧ ∀ f, 0 ≤ f → f < cc p q → reX p q f 0 = m → reY p q f 0 = n → Q (.tup [.int (nwX p q f x y), .int (nwY p q f x y)]) S
def con_r9 : Con := fun ds S Q => ∃ (p q k m n x y : Int) (b : Bool), ds = [.tup [.int p, .int q, .int k], .tup [.int m, .int n], .tup [.int x, .int y], .bl b] ∧ Tn p q k ∧ isR p q m n ∧ (Bd 600 m ∧ Bd 600 n) ∧ (Bd 150 x ∧ Bd 150 y) ∧ Q (.bl true) S
def con_r9b : Con := fun ds S Q => ∃ (p q k m n x y : Int) (b : Bool), ds = [.tup [.int p, .int q, .int k], .tup [.int m, .int n], .tup [.int x, .int y], .bl b] ∧ Tn p q k ∧ isR p q m n ∧ (Bd 600 m ∧ Bd 600 n) ∧ (Bd 150 x ∧ Bd 150 y) ∧ (b = true → (-9 ≤ x ∧ x ≤ 9) ∧ (-9 ≤ y ∧ y ≤ 9)) ∧ Q (.bl true) S
def tr9 (x y : Int) (d : D) : Int × Int × Int := match d with
  | .tup [.int a, .int b] => (farI a b x y, a, b)
  | _ => (0, 0, 0)
theorem nine_min {p q k m n f x y : Int} (h : Tn p q k) (hx : reX p q f 0 = m) (hy : reY p q f 0 = n) {l : List D} (hl : ∀ d ∈ l, NB p q m n d) (ht : D.tup [.int (nwX p q f x y), .int (nwY p q f x y)] ∈ l) :
    ∃ t ts, l.map (fun d => d3 (tr9 x y d)) = (t :: ts).map d3 ∧ (farI (nwX p q f x y) (nwY p q f x y) x y, nwX p q f x y, nwY p q f x y) ∈ t :: ts ∧ ∀ s ∈ t :: ts, s = (farI (nwX p q f x y) (nwY p q f x y) x y, nwX p q f x y, nwY p q f x y) ∨ farI (nwX p q f x y) (nwY p q f x y) x y < s.1 := by
  obtain ⟨t, ts, e⟩ : ∃ t ts, l.map (tr9 x y) = t :: ts := by
    cases l with
    | nil => cases ht
    | cons a b => exact ⟨_, _, rfl⟩
  refine ⟨t, ts, by rw [← e, List.map_map] <;> rfl, ?_, ?_⟩
  · rw [← e]
    exact List.mem_map.mpr ⟨_, ht, rfl⟩
  · rw [← e]
    intro s hs
    obtain ⟨d, hd, rfl⟩ := List.mem_map.mp hs
    obtain ⟨a, b, rfl, e1, e2, _⟩ := hl d hd
    obtain ⟨z1, z2⟩ := nw_best (f := f) (x := x) (y := y) h (e1.trans hx.symm) (e2.trans hy.symm)
    by_cases z : farI a b x y = farI (nwX p q f x y) (nwY p q f x y) x y
    · obtain ⟨y1, y2⟩ := z2 z
      subst y1 y2
      exact .inl rfl
    · exact .inr (by show _ < farI a b x y; omega)
theorem pair9 {p q m n : Int} {l : List D} {k : Nat} {d : D} (hl : ∀ d ∈ l, NB p q m n d) (hk : l[k]? = some d) : ∃ a b : Int, d = .tup [.int a, .int b] ∧ Bd 600 a ∧ Bd 600 b ∧ l.take (k + 1) = l.take k ++ [.tup [.int a, .int b]] := by
  obtain ⟨a, b, e, _, _, b1, b2⟩ := hl d (List.mem_of_getElem? hk)
  subst e
  exact ⟨a, b, rfl, b1, b2, by rw [List.take_add_one, hk] <;> rfl⟩
theorem near_told {f : Int} (h0 : 0 ≤ f) (h1 : f < cc 4 1) (e1 : reX 4 1 f 0 = 0) (e2 : reY 4 1 f 0 = 0) : nwX 4 1 f (10 ^ (Int.toNat 30)) 3 = 10 ^ (Int.toNat 30) + 1 ∧ nwY 4 1 f (10 ^ (Int.toNat 30)) 3 = 2 := by
  have hT : Tn 4 1 0 := ⟨by decide, by decide, by decide, by decide, by decide, by decide, by decide, by decide⟩
  have : f = 0 := first_only hT ⟨h0, h1⟩ ⟨by decide, by decide⟩ (e1.trans (by decide +kernel)) (e2.trans (by decide +kernel))
  subst this
  constructor <;> decide +kernel

end Tp
namespace Tp
open PySem PySem.Spec PyProof.Rows L2 DL
/-! ### turns of legs, and joined turns -/
theorem sum_sq_odd {x y : Int} (h : (x * x + y * y) % 2 = 1) : (x + y) % 2 = 1 := by
  have e : (x + y) * (x + y) = x * x + y * y + 2 * (x * y) := by grind
  rcases Int.emod_two_eq (x + y) with z | z
  · obtain ⟨t, ht⟩ : ∃ t, x + y = 2 * t := ⟨(x + y) / 2, by omega⟩
    rw [ht] at e
    have : 2 * t * (2 * t) = 2 * (2 * t * t) := by grind
    omega
  · exact z
theorem co_ab {p q k : Int} (h : Tn p q k) : ∃ s t : Int, s * (p * p - q * q) + t * (p * q + q * p) = 1 := by
  obtain ⟨s, t, e⟩ := co_ac h
  refine ⟨s * s * (p * p - q * q) + 2 * s * t * cc p q + t * t * (p * p - q * q), t * t * (p * q + q * p), ?_⟩
  have c2 : cc p q * cc p q = (p * p - q * q) * (p * p - q * q) + (p * q + q * p) * (p * q + q * p) := by unfold cc; grind
  generalize p * p - q * q = a at *
  generalize p * q + q * p = b at *
  generalize cc p q = c at *
  have : (s * s * a + 2 * s * t * c + t * t * a) * a + t * t * b * b = (s * a + t * c) * (s * a + t * c) + t * t * (a * a + b * b - c * c) := by grind
  rw [this, e, c2]
  grind
theorem gcd_of {a b s t : Int} (e : s * a + t * b = 1) : Nat.gcd a.natAbs b.natAbs = 1 := by
  have h1 : ((Nat.gcd a.natAbs b.natAbs : Nat) : Int) ∣ a := PySem.W.mg_dvd_left a b
  have h2 : ((Nat.gcd a.natAbs b.natAbs : Nat) : Int) ∣ b := PySem.W.mg_dvd_right a b
  have h3 : ((Nat.gcd a.natAbs b.natAbs : Nat) : Int) ∣ 1 := by
    rw [← e]
    exact Int.dvd_add (Int.dvd_trans h1 (Int.dvd_mul_left _ _)) (Int.dvd_trans h2 (Int.dvd_mul_left _ _))
  have h4 := Int.le_of_dvd (by decide) h3
  have h5 : Nat.gcd a.natAbs b.natAbs ≠ 0 := fun z => by
    rw [z] at h3
    obtain ⟨w, hw⟩ := h3
    omega
  omega
theorem gcd_lg {p q k : Int} (h : Tn p q k) : Nat.gcd (lgA p q k).natAbs (lgB p q k).natAbs = 1 := by
  obtain ⟨s, t, e⟩ := co_ab h
  unfold lgA lgB
  generalize p * p - q * q = a at *
  generalize p * q + q * p = b at *
  generalize k.toNat = j
  match j with
  | 0 => exact gcd_of (s := s) (t := t) e
  | 1 => exact gcd_of (s := -t) (t := s) (by show -t * -b + s * a = 1; grind)
  | 2 => exact gcd_of (s := -s) (t := -t) (by show -s * -a + -t * -b = 1; grind)
  | _ + 3 => exact gcd_of (s := t) (t := -s) (by show t * b + -s * -a = 1; grind)
theorem gcd_mlg {p q k m : Int} (h : Tn p q k) (hm : 0 ≤ m) : ((Nat.gcd (m * lgA p q k).natAbs (m * lgB p q k).natAbs : Nat) : Int) = m := by
  rw [Int.natAbs_mul, Int.natAbs_mul, Nat.gcd_mul_left, gcd_lg h, Nat.mul_one]
  omega
theorem ediv_l {m a : Int} (h : 1 ≤ m) : m * a / m = a := Int.mul_ediv_cancel_left a (by omega)
/-- the last step of what finds a turn of legs -/
theorem root_p (p q : Int) : (cc p q + (p * p - q * q)) / 2 = p * p := by unfold cc; omega
theorem root_q (p q : Int) : (cc p q - (p * p - q * q)) / 2 = q * q := by unfold cc; omega
theorem abs_sq (q : Int) : q * q = (q.natAbs : Int) * (q.natAbs : Int) := by
  rcases Int.natAbs_eq q with h | h
  · rw [← h]
  · have : q * q = -q * -q := by rw [Int.neg_mul_neg]
    rw [this]
    have : -q = (q.natAbs : Int) := by omega
    rw [this]
/-- with what is the turn told: the loop goes on exactly while quarters are left -/
theorem go_on {p q : Int} (h : Tn p q 0) (j : Nat) (hj : j < 4) : (rtY j (p * p - q * q) (p * q + q * p) % 2 = 1 ∨ rtX j (p * p - q * q) (p * q + q * p) < 0) ↔ j ≠ 0 := by
  have hp := h.p1
  have a1 := h.q1
  have a2 := h.q2
  have a0 : 0 < p * p - q * q := by
    have : p * p - q * q = (p - q) * (p + q) := by grind
    rw [this]
    exact Int.mul_pos (by omega) (by omega)
  have ao : (p * p - q * q) % 2 = 1 := by
    have := cc_odd h
    unfold cc at this
    have e : p * p - q * q = p * p + q * q - 2 * (q * q) := by omega
    omega
  have bo : (p * q + q * p) % 2 = 0 := by
    have : p * q + q * p = 2 * (p * q) := by grind
    omega
  generalize p * p - q * q = a at *
  generalize p * q + q * p = b at *
  rcases (by omega : j = 0 ∨ j = 1 ∨ j = 2 ∨ j = 3) with e | e | e | e <;> subst e <;> simp only [rtX, rtY] <;> omega
theorem rt_back (j : Nat) (hj : j < 3) (x y : Int) : rtY (j + 1) x y = rtX j x y ∧ -rtX (j + 1) x y = rtY j x y := by
  rcases (by omega : j = 0 ∨ j = 1 ∨ j = 2) with h | h | h <;> subst h <;> simp [rtX, rtY]
/-- the turn that two turns make: what is over is a whole number and quarters -/
structure Jn (p q k r s l a b m : Int) : Prop where
  t : Tn a b m
  ex : ∃ (g : Int) (j : Nat), 1 ≤ g ∧ j < 4 ∧ p * r - q * s = g * rtX j a b ∧ p * s + q * r = g * rtY j a b ∧ m = (k + l + 2 * (j : Int)) % 4
theorem jn_ex {p q k r s l : Int} (h : Tn p q k) (h' : Tn r s l) (b1 : p ≤ 10000000) (b2 : r ≤ 10000000) : ∃ a b m, Jn p q k r s l a b m := by
  obtain ⟨P, hP⟩ : ∃ P, P = p * r - q * s := ⟨_, rfl⟩
  obtain ⟨R, hR⟩ : ∃ R, R = p * s + q * r := ⟨_, rfl⟩
  have hcc : P * P + R * R = cc p q * cc r s := by rw [hP, hR]; unfold cc; grind
  have odd : (P * P + R * R) % 2 = 1 := by
    rw [hcc, Int.mul_emod, cc_odd h, cc_odd h'] <;> rfl
  obtain ⟨g, hg⟩ : ∃ g : Nat, g = Nat.gcd P.natAbs R.natAbs := ⟨_, rfl⟩
  have d1 : (g : Int) ∣ P := by rw [hg]; exact PySem.W.mg_dvd_left P R
  have d2 : (g : Int) ∣ R := by rw [hg]; exact PySem.W.mg_dvd_right P R
  obtain ⟨x, hx⟩ := d1
  obtain ⟨y, hy⟩ := d2
  have g0 : 0 < g := by
    rcases Nat.eq_zero_or_pos g with z | z
    · rw [z] at hx hy
      have z1 : P = 0 := by rw [hx]; exact Int.zero_mul _
      have z2 : R = 0 := by rw [hy]; exact Int.zero_mul _
      rw [z1, z2] at odd
      exact absurd odd (by decide)
    · exact z
  have co : Nat.gcd x.natAbs y.natAbs = 1 := by
    have : g * Nat.gcd x.natAbs y.natAbs = g := by
      rw [← Nat.gcd_mul_left]
      have e1 : g * x.natAbs = P.natAbs := by rw [hx, Int.natAbs_mul, Int.natAbs_natCast]
      have e2 : g * y.natAbs = R.natAbs := by rw [hy, Int.natAbs_mul, Int.natAbs_natCast]
      rw [e1, e2, ← hg]
    exact Nat.eq_of_mul_eq_mul_left g0 (by omega)
  have oxy : (x + y) % 2 = 1 := by
    refine sum_sq_odd ?_
    have e : P * P + R * R = (g : Int) * g * (x * x + y * y) := by rw [hx, hy]; grind
    rw [e] at odd
    rcases Int.emod_two_eq (x * x + y * y) with z | z
    · rw [Int.mul_emod, z, Int.mul_zero] at odd
      exact absurd odd (by decide)
    · exact z
  -- how great they are
  have bq := h.q1
  have bq' := h.q2
  have bs := h'.q1
  have bs' := h'.q2
  have ba : ∀ u v : Int, (-10000000 ≤ u ∧ u ≤ 10000000) → (-10000000 ≤ v ∧ v ≤ 10000000) → -100000000000000 ≤ u * v ∧ u * v ≤ 100000000000000 := fun u v hu hv => by
    have hn : (u * v).natAbs ≤ 10000000 * 10000000 := by
      rw [Int.natAbs_mul]
      exact Nat.mul_le_mul (by omega) (by omega)
    omega
  have p0 := h.p1
  have r0 := h'.p1
  have m1 := ba p r (by omega) (by omega)
  have m2 := ba q s (by omega) (by omega)
  have m3 := ba p s (by omega) (by omega)
  have m4 := ba q r (by omega) (by omega)
  have xb : x.natAbs ≤ P.natAbs := by rw [hx, Int.natAbs_mul, Int.natAbs_natCast]; exact Nat.le_mul_of_pos_left _ g0
  have yb : y.natAbs ≤ R.natAbs := by rw [hy, Int.natAbs_mul, Int.natAbs_natCast]; exact Nat.le_mul_of_pos_left _ g0
  have ne : x.natAbs ≠ y.natAbs := fun z => by
    rw [z, Nat.gcd_self] at co
    rcases Int.natAbs_eq x with e1 | e1 <;> rcases Int.natAbs_eq y with e2 | e2 <;> omega
  have cy : Nat.gcd y.natAbs x.natAbs = 1 := by rw [Nat.gcd_comm]; exact co
  have mk : ∀ j : Nat, j < 4 → ∀ a b : Int, 1 ≤ a → a ≤ 1000000000000000 → -a < b → b < a → Nat.gcd a.natAbs b.natAbs = 1 → (a + b) % 2 = 1 → x = rtX j a b → y = rtY j a b → ∃ a b m, Jn p q k r s l a b m := fun j hj a b c1 c2 c3 c4 c5 c6 ex ey =>
    ⟨a, b, (k + l + 2 * (j : Int)) % 4, ⟨c1, c2, c3, c4, c5, c6, by omega, by omega⟩, g, j, by omega, hj, by rw [← hP, hx, ex], by rw [← hR, hy, ey], rfl⟩
  rcases Nat.lt_or_ge y.natAbs x.natAbs with z | z
  · rcases Int.le_total 0 x with e | e
    · exact mk 0 (by decide) x y (by omega) (by omega) (by omega) (by omega) co oxy rfl rfl
    · exact mk 2 (by decide) (-x) (-y) (by omega) (by omega) (by omega) (by omega) (by rw [Int.natAbs_neg, Int.natAbs_neg]; exact co) (by omega) (by show x = - -x; omega) (by show y = - -y; omega)
  · rcases Int.le_total 0 y with e | e
    · exact mk 1 (by decide) y (-x) (by omega) (by omega) (by omega) (by omega) (by rw [Int.natAbs_neg]; exact cy) (by omega) (by show x = - -x; omega) rfl
    · exact mk 3 (by decide) (-y) x (by omega) (by omega) (by omega) (by omega) (by rw [Int.natAbs_neg]; exact cy) (by omega) rfl (by show y = - -y; omega)

theorem rt_mul {k l : Int} (hk : 0 ≤ k ∧ k < 4) (hl : 0 ≤ l ∧ l < 4) (A B C D : Int) : rtX k.toNat A B * rtX l.toNat C D - rtY k.toNat A B * rtY l.toNat C D = rtX ((k + l) % 4).toNat (A * C - B * D) (A * D + B * C) ∧ rtX k.toNat A B * rtY l.toNat C D + rtY k.toNat A B * rtX l.toNat C D = rtY ((k + l) % 4).toNat (A * C - B * D) (A * D + B * C) := by
  rcases four hk with h | h | h | h <;> rcases four hl with g | g | g | g <;> subst h <;> subst g <;> simp [rtX, rtY] <;> grind
theorem rt_two {n : Int} (hn : 0 ≤ n ∧ n < 4) (j : Nat) (hj : j < 4) (g a b : Int) : rtX n.toNat ((g * rtX j a b) * (g * rtX j a b) - (g * rtY j a b) * (g * rtY j a b)) ((g * rtX j a b) * (g * rtY j a b) + (g * rtY j a b) * (g * rtX j a b)) = g * g * rtX ((n + 2 * (j : Int)) % 4).toNat (a * a - b * b) (a * b + b * a) ∧ rtY n.toNat ((g * rtX j a b) * (g * rtX j a b) - (g * rtY j a b) * (g * rtY j a b)) ((g * rtX j a b) * (g * rtY j a b) + (g * rtY j a b) * (g * rtX j a b)) = g * g * rtY ((n + 2 * (j : Int)) % 4).toNat (a * a - b * b) (a * b + b * a) := by
  rcases four hn with h | h | h | h <;> rcases (by omega : j = 0 ∨ j = 1 ∨ j = 2 ∨ j = 3) with e | e | e | e <;> subst h <;> subst e <;> simp [rtX, rtY] <;> grind
/-- the legs of what two turns make -/
theorem jn_legs {p q k r s l a b m : Int} (h : Tn p q k) (h' : Tn r s l) (J : Jn p q k r s l a b m) : ∃ g : Int, 1 ≤ g ∧ lgA p q k * lgA r s l - lgB p q k * lgB r s l = g * lgA a b m ∧ lgA p q k * lgB r s l + lgB p q k * lgA r s l = g * lgB a b m ∧ cc p q * cc r s = g * cc a b := by
  obtain ⟨g, j, g1, hj, e1, e2, e3⟩ := J.ex
  have gg : 1 * 1 ≤ g * g := Int.mul_le_mul g1 g1 (by decide) (by omega)
  have k1 := h.k1
  have k2 := h.k2
  have l1 := h'.k1
  have l2 := h'.k2
  refine ⟨g * g, by omega, ?_, ?_, ?_⟩
  · unfold lgA lgB
    rw [(rt_mul ⟨k1, by omega⟩ ⟨l1, by omega⟩ _ _ _ _).1]
    have x1 : (p * p - q * q) * (r * r - s * s) - (p * q + q * p) * (r * s + s * r) = (p * r - q * s) * (p * r - q * s) - (p * s + q * r) * (p * s + q * r) := by grind
    have x2 : (p * p - q * q) * (r * s + s * r) + (p * q + q * p) * (r * r - s * s) = (p * r - q * s) * (p * s + q * r) + (p * s + q * r) * (p * r - q * s) := by grind
    rw [x1, x2, e1, e2, (rt_two ⟨by omega, by omega⟩ j hj g a b).1, e3, show ((k + l) % 4 + 2 * (j : Int)) % 4 = (k + l + 2 * (j : Int)) % 4 by omega]
  · unfold lgA lgB
    rw [(rt_mul ⟨k1, by omega⟩ ⟨l1, by omega⟩ _ _ _ _).2]
    have x1 : (p * p - q * q) * (r * r - s * s) - (p * q + q * p) * (r * s + s * r) = (p * r - q * s) * (p * r - q * s) - (p * s + q * r) * (p * s + q * r) := by grind
    have x2 : (p * p - q * q) * (r * s + s * r) + (p * q + q * p) * (r * r - s * s) = (p * r - q * s) * (p * s + q * r) + (p * s + q * r) * (p * r - q * s) := by grind
    rw [x1, x2, e1, e2, (rt_two ⟨by omega, by omega⟩ j hj g a b).2, e3, show ((k + l) % 4 + 2 * (j : Int)) % 4 = (k + l + 2 * (j : Int)) % 4 by omega]
  · have : cc p q * cc r s = (p * r - q * s) * (p * r - q * s) + (p * s + q * r) * (p * s + q * r) := by unfold cc; grind
    rw [this, e1, e2]
    unfold cc
    rcases (by omega : j = 0 ∨ j = 1 ∨ j = 2 ∨ j = 3) with e | e | e | e <;> subst e <;> simp only [rtX, rtY] <;> grind

/-- an exact place by two turns -/
theorem jn_ex_place {p q k r s l a b m g : Int} (e1 : lgA p q k * lgA r s l - lgB p q k * lgB r s l = g * lgA a b m) (e2 : lgA p q k * lgB r s l + lgB p q k * lgA r s l = g * lgB a b m) (x y : Int) : exX r s l (exX p q k x y) (exY p q k x y) = g * exX a b m x y ∧ exY r s l (exX p q k x y) (exY p q k x y) = g * exY a b m x y := by
  unfold exX exY
  generalize lgA p q k = A at *
  generalize lgB p q k = B at *
  generalize lgA r s l = C at *
  generalize lgB r s l = D at *
  constructor
  · have : C * (A * x - B * y) - D * (A * y + B * x) = (A * C - B * D) * x - (A * D + B * C) * y := by grind
    rw [this, e1, e2]
    grind
  · have : C * (A * y + B * x) + D * (A * x - B * y) = (A * C - B * D) * y + (A * D + B * C) * x := by grind
    rw [this, e1, e2]
    grind
/-- one turn alone makes u up to a number and quarters -/
theorem one_of {a b m c d n g h : Int} {i j : Nat} (ha : Tn a b m) (hc : Tn c d n) (hg : 1 ≤ g) (hh : 1 ≤ h) (hi : i < 4) (hj : j < 4) (e1 : g * rtX i a b = h * rtX j c d) (e2 : g * rtY i a b = h * rtY j c d) : i = j ∧ a = c ∧ b = d := by
  have ga := ha.p1
  have gb := ha.q1
  have gb' := ha.q2
  have gc := hc.p1
  have gd := hc.q1
  have gd' := hc.q2
  -- first the same quarters
  have lt1 : -(g * a) < g * b ∧ g * b < g * a := by
    have x : g * (-a) < g * b := Int.mul_lt_mul_of_pos_left (by omega) (by omega)
    have y : g * b < g * a := Int.mul_lt_mul_of_pos_left gb' (by omega)
    rw [Int.mul_neg] at x
    exact ⟨x, y⟩
  have lt2 : -(h * c) < h * d ∧ h * d < h * c := by
    have x : h * (-c) < h * d := Int.mul_lt_mul_of_pos_left (by omega) (by omega)
    have y : h * d < h * c := Int.mul_lt_mul_of_pos_left gd' (by omega)
    rw [Int.mul_neg] at x
    exact ⟨x, y⟩
  have p1 : 0 < g * a := Int.mul_pos (by omega) (by omega)
  have p2 : 0 < h * c := Int.mul_pos (by omega) (by omega)
  have same : i = j ∧ g * a = h * c ∧ g * b = h * d := by
    rcases (by omega : i = 0 ∨ i = 1 ∨ i = 2 ∨ i = 3) with e | e | e | e <;> rcases (by omega : j = 0 ∨ j = 1 ∨ j = 2 ∨ j = 3) with f | f | f | f <;> subst e <;> subst f <;> simp only [rtX, rtY, Int.mul_neg] at e1 e2 <;> first | (refine ⟨rfl, ?_, ?_⟩ <;> omega) | (exfalso; omega)
  obtain ⟨s1, s2, s3⟩ := same
  -- then the same numbers
  have key : ∀ {u v w x y z : Int}, 1 ≤ u → 1 ≤ v → Nat.gcd w.natAbs x.natAbs = 1 → Nat.gcd y.natAbs z.natAbs = 1 → u * w = v * y → u * x = v * z → u = v := fun {u v w x y z} hu hv c1 c2 f1 f2 => by
    have n1 : Nat.gcd (u * w).natAbs (u * x).natAbs = u.natAbs := by rw [Int.natAbs_mul, Int.natAbs_mul, Nat.gcd_mul_left, c1, Nat.mul_one]
    have n2 : Nat.gcd (v * y).natAbs (v * z).natAbs = v.natAbs := by rw [Int.natAbs_mul, Int.natAbs_mul, Nat.gcd_mul_left, c2, Nat.mul_one]
    rw [f1, f2, n2] at n1
    omega
  have gh := key hg hh ha.g hc.g s2 s3
  subst gh
  exact ⟨s1, Int.eq_of_mul_eq_mul_left (by omega) s2, Int.eq_of_mul_eq_mul_left (by omega) s3⟩
theorem lg_sq (p q k : Int) : lgA p q k * lgA p q k + lgB p q k * lgB p q k = cc p q * cc p q := by
  unfold lgA lgB cc
  generalize k.toNat = j
  match j with
  | 0 => simp only [rtX, rtY]; grind
  | 1 => simp only [rtX, rtY]; grind
  | 2 => simp only [rtX, rtY]; grind
  | _ + 3 => simp only [rtX, rtY]; grind
theorem is_legs {a b c p q k m : Int} (ea : a = m * lgA p q k) (eb : b = m * lgB p q k) (ec : c = m * cc p q) : a * a + b * b = c * c := by
  have := lg_sq p q k
  rw [ea, eb, ec]
  generalize lgA p q k = A at *
  generalize lgB p q k = B at *
  generalize cc p q = C at *
  grind
theorem g_bd {g p q r s a b k l m : Int} (h : Tn p q k) (h' : Tn r s l) (t : Tn a b m) (g1 : 1 ≤ g) (e : cc p q * cc r s = g * cc a b) : Bd 210 g := by
  have c1 := cc_one t
  have : g * 1 ≤ g * cc a b := Int.mul_le_mul_of_nonneg_left c1 (by omega)
  exact (Bd.of_le (by omega) (by omega) ((Bd.cc h.bp h.bq).mul (Bd.cc h'.bp h'.bq))).up (by decide)
/-- a fraction in lowest terms -/
theorem rat_mul {g x c : Int} (g1 : 1 ≤ g) : rat (g * x) (g * c) = rat x c := by
  unfold rat
  rw [Int.natAbs_mul, Int.natAbs_mul, Nat.gcd_mul_left, Int.natCast_mul, show ((g.natAbs : Nat) : Int) = g by omega, Int.mul_ediv_mul_of_pos _ _ (by omega), Int.mul_ediv_mul_of_pos _ _ (by omega)]
theorem ratio_eq {p q k r s l a b m : Int} (h : Tn p q k) (h' : Tn r s l) (J : Jn p q k r s l a b m) (x y : Int) : D.lst [rat (exX r s l (exX p q k x y) (exY p q k x y)) (cc r s * cc p q), rat (exY r s l (exX p q k x y) (exY p q k x y)) (cc r s * cc p q)] = D.lst [rat (exX a b m x y) (cc a b), rat (exY a b m x y) (cc a b)] := by
  obtain ⟨g, g1, e1, e2, e3⟩ := jn_legs h h' J
  obtain ⟨f1, f2⟩ := jn_ex_place e1 e2 x y
  rw [f1, f2, Int.mul_comm (cc r s), e3, rat_mul g1, rat_mul g1]
theorem near_max {p q k : Int} (h : Tn p q k) (x y : Int) : ¬ cc p q < (if (if 2 * (imY p q k x y * cc p q - exY p q k x y) < 0 then -(2 * (imY p q k x y * cc p q - exY p q k x y)) else 2 * (imY p q k x y * cc p q - exY p q k x y)) > (if 2 * (imX p q k x y * cc p q - exX p q k x y) < 0 then -(2 * (imX p q k x y * cc p q - exX p q k x y)) else 2 * (imX p q k x y * cc p q - exX p q k x y)) then (if 2 * (imY p q k x y * cc p q - exY p q k x y) < 0 then -(2 * (imY p q k x y * cc p q - exY p q k x y)) else 2 * (imY p q k x y * cc p q - exY p q k x y)) else (if 2 * (imX p q k x y * cc p q - exX p q k x y) < 0 then -(2 * (imX p q k x y * cc p q - exX p q k x y)) else 2 * (imX p q k x y * cc p q - exX p q k x y))) := by
  have n := im_near h x y
  have c1 : cc p q * imX p q k x y = imX p q k x y * cc p q := Int.mul_comm _ _
  have c2 : cc p q * imY p q k x y = imY p q k x y * cc p q := Int.mul_comm _ _
  rw [c1, c2] at n
  generalize imX p q k x y * cc p q = U at *
  generalize imY p q k x y * cc p q = V at *
  generalize exX p q k x y = X at *
  generalize exY p q k x y = Y at *
  split <;> split <;> omega
theorem tn_bk2 {p q k : Int} (h : Tn p q k) : Tn p (-q) (-k % 4) := by
  have := tn_bk h
  have e := bk_1 h
  rw [e]
  exact this
theorem jn_back {p q k r s l a b m c d n : Int} (h : Tn p q k) (h' : Tn r s l) (J : Jn p q k r s l a b m) (J' : Jn r (-s) (-l % 4) p (-q) (-k % 4) c d n) : D.tup [.int a, .int (-b), .int (-m % 4)] = D.tup [.int c, .int d, .int n] := by
  obtain ⟨g, j, g1, hj, e1, e2, e3⟩ := J.ex
  obtain ⟨f, i, f1, hi, o1, o2, o3⟩ := J'.ex
  have t := tn_bk2 J.t
  -- the conjugate of i^j u
  obtain ⟨z, hz, z1, z2, z3⟩ : ∃ z : Nat, z < 4 ∧ rtX z a (-b) = rtX j a b ∧ rtY z a (-b) = -rtY j a b ∧ ((z : Int) + j) % 4 = 0 := by
    rcases (by omega : j = 0 ∨ j = 1 ∨ j = 2 ∨ j = 3) with e | e | e | e <;> subst e
    · exact ⟨0, by decide, rfl, rfl, by decide⟩
    · exact ⟨3, by decide, rfl, rfl, by decide⟩
    · exact ⟨2, by decide, rfl, by show - -b = - -b; rfl, by decide⟩
    · exact ⟨1, by decide, by show - -b = b; omega, by show a = - -a; omega, by decide⟩
  have q1 : g * rtX z a (-b) = f * rtX i c d := by
    rw [z1, ← e1, ← o1]
    grind
  have q2 : g * rtY z a (-b) = f * rtY i c d := by
    rw [z2, Int.mul_neg, ← e2, ← o2]
    grind
  obtain ⟨w1, w2, w3⟩ := one_of t J'.t g1 f1 hz hi q1 q2
  have w4 : -m % 4 = n := by omega
  rw [w2, w3, w4]
theorem im_zero {p q : Int} (h : 0 < cc p q) (k : Int) : imX p q k 0 0 = 0 ∧ imY p q k 0 0 = 0 := by
  have e1 : exX p q k 0 0 = 0 := by unfold exX; simp
  have e2 : exY p q k 0 0 = 0 := by unfold exY; simp
  unfold imX imY nrr
  rw [e1, e2]
  have : (2 * 0 + cc p q) / (2 * cc p q) = 0 := Int.ediv_eq_zero_of_lt (by omega) (by omega)
  exact ⟨this, this⟩
theorem im_exact {p q k : Int} (h : Tn p q k) (t u : Int) : imX p q k (p * t - -q * u) (p * u + -q * t) = rtX (k % 4).toNat (p * t - q * u) (p * u + q * t) ∧ imY p q k (p * t - -q * u) (p * u + -q * t) = rtY (k % 4).toNat (p * t - q * u) (p * u + q * t) := by
  have := im_moved h 0 0 t u
  rw [(im_zero (cc_pos h) k).1, (im_zero (cc_pos h) k).2] at this
  simpa using this
/-- by one turn, then by the other -/
theorem im_exact2 {p q r s l : Int} (k : Int) (h : Tn r s l) (x y : Int) : imX r s l (rtX (k % 4).toNat (p * (r * x - -s * y) - q * (r * y + -s * x)) (p * (r * y + -s * x) + q * (r * x - -s * y))) (rtY (k % 4).toNat (p * (r * x - -s * y) - q * (r * y + -s * x)) (p * (r * y + -s * x) + q * (r * x - -s * y))) = rtX (l % 4).toNat (r * rtX (k % 4).toNat (p * x - q * y) (p * y + q * x) - s * rtY (k % 4).toNat (p * x - q * y) (p * y + q * x)) (r * rtY (k % 4).toNat (p * x - q * y) (p * y + q * x) + s * rtX (k % 4).toNat (p * x - q * y) (p * y + q * x)) ∧ imY r s l (rtX (k % 4).toNat (p * (r * x - -s * y) - q * (r * y + -s * x)) (p * (r * y + -s * x) + q * (r * x - -s * y))) (rtY (k % 4).toNat (p * (r * x - -s * y) - q * (r * y + -s * x)) (p * (r * y + -s * x) + q * (r * x - -s * y))) = rtY (l % 4).toNat (r * rtX (k % 4).toNat (p * x - q * y) (p * y + q * x) - s * rtY (k % 4).toNat (p * x - q * y) (p * y + q * x)) (r * rtY (k % 4).toNat (p * x - q * y) (p * y + q * x) + s * rtX (k % 4).toNat (p * x - q * y) (p * y + q * x)) := by
  have e : rtX (k % 4).toNat (p * (r * x - -s * y) - q * (r * y + -s * x)) (p * (r * y + -s * x) + q * (r * x - -s * y)) = r * rtX (k % 4).toNat (p * x - q * y) (p * y + q * x) - -s * rtY (k % 4).toNat (p * x - q * y) (p * y + q * x) ∧ rtY (k % 4).toNat (p * (r * x - -s * y) - q * (r * y + -s * x)) (p * (r * y + -s * x) + q * (r * x - -s * y)) = r * rtY (k % 4).toNat (p * x - q * y) (p * y + q * x) + -s * rtX (k % 4).toNat (p * x - q * y) (p * y + q * x) := by
    generalize (k % 4).toNat = j
    match j with
    | 0 => simp only [rtX, rtY]; constructor <;> grind
    | 1 => simp only [rtX, rtY]; constructor <;> grind
    | 2 => simp only [rtX, rtY]; constructor <;> grind
    | _ + 3 => simp only [rtX, rtY]; constructor <;> grind
  rw [e.1, e.2]
  exact im_exact h _ _
theorem rt_rt {n : Int} (hn : 0 ≤ n ∧ n < 4) (j : Nat) (hj : j < 4) (x y : Int) : rtX n.toNat (rtX j x y) (rtY j x y) = rtX ((n + j) % 4).toNat x y ∧ rtY n.toNat (rtX j x y) (rtY j x y) = rtY ((n + j) % 4).toNat x y := by
  rcases four hn with h | h | h | h <;> rcases (by omega : j = 0 ∨ j = 1 ∨ j = 2 ∨ j = 3) with e | e | e | e <;> subst h <;> subst e <;> simp [rtX, rtY]
theorem rt_g (n : Nat) (g x y : Int) : rtX n (g * x) (g * y) = g * rtX n x y ∧ rtY n (g * x) (g * y) = g * rtY n x y := by
  match n with
  | 0 => exact ⟨rfl, rfl⟩
  | 1 => simp only [rtX, rtY]; constructor <;> grind
  | 2 => simp only [rtX, rtY]; constructor <;> grind
  | _ + 3 => simp only [rtX, rtY]; constructor <;> grind
theorem rt_u (n : Nat) (a b x y : Int) : a * rtX n x y - b * rtY n x y = rtX n (a * x - b * y) (a * y + b * x) ∧ a * rtY n x y + b * rtX n x y = rtY n (a * x - b * y) (a * y + b * x) := by
  match n with
  | 0 => exact ⟨rfl, rfl⟩
  | 1 => simp only [rtX, rtY]; constructor <;> grind
  | 2 => simp only [rtX, rtY]; constructor <;> grind
  | _ + 3 => simp only [rtX, rtY]; constructor <;> grind
theorem im_joined {p q k r s l a b m : Int} (h : Tn p q k) (h' : Tn r s l) (J : Jn p q k r s l a b m) (x y : Int) : imX a b m (p * (r * x - -s * y) - -q * (r * y + -s * x)) (p * (r * y + -s * x) + -q * (r * x - -s * y)) = rtX (l % 4).toNat (r * rtX (k % 4).toNat (p * x - q * y) (p * y + q * x) - s * rtY (k % 4).toNat (p * x - q * y) (p * y + q * x)) (r * rtY (k % 4).toNat (p * x - q * y) (p * y + q * x) + s * rtX (k % 4).toNat (p * x - q * y) (p * y + q * x)) ∧ imY a b m (p * (r * x - -s * y) - -q * (r * y + -s * x)) (p * (r * y + -s * x) + -q * (r * x - -s * y)) = rtY (l % 4).toNat (r * rtX (k % 4).toNat (p * x - q * y) (p * y + q * x) - s * rtY (k % 4).toNat (p * x - q * y) (p * y + q * x)) (r * rtY (k % 4).toNat (p * x - q * y) (p * y + q * x) + s * rtX (k % 4).toNat (p * x - q * y) (p * y + q * x)) := by
  obtain ⟨g, j, g1, hj, e1, e2, e3⟩ := J.ex
  have k4 : k % 4 = k := Int.emod_eq_of_lt h.k1 (by have := h.k2; omega)
  have l4 : l % 4 = l := Int.emod_eq_of_lt h'.k1 (by have := h'.k2; omega)
  have m4 : m % 4 = m := Int.emod_eq_of_lt J.t.k1 (by have := J.t.k2; omega)
  have hk : 0 ≤ k ∧ k < 4 := by omega
  have hl : 0 ≤ l ∧ l < 4 := by omega
  have hm : 0 ≤ m ∧ m < 4 := by omega
  -- quarters that lead back
  obtain ⟨z, hz, zj⟩ : ∃ z : Nat, z < 4 ∧ ((z : Int) + j) % 4 = 0 := ⟨(4 - j) % 4, by omega, by omega⟩
  have st : p * (r * x - -s * y) - -q * (r * y + -s * x) = a * rtX z (g * x) (g * y) - -b * rtY z (g * x) (g * y) ∧ p * (r * y + -s * x) + -q * (r * x - -s * y) = a * rtY z (g * x) (g * y) + -b * rtX z (g * x) (g * y) := by
    have x1 : p * (r * x - -s * y) - -q * (r * y + -s * x) = (p * r - q * s) * x + (p * s + q * r) * y := by grind
    have x2 : p * (r * y + -s * x) + -q * (r * x - -s * y) = (p * r - q * s) * y - (p * s + q * r) * x := by grind
    rw [x1, x2, e1, e2]
    rcases (by omega : (j = 0 ∧ z = 0) ∨ (j = 1 ∧ z = 3) ∨ (j = 2 ∧ z = 2) ∨ (j = 3 ∧ z = 1)) with ⟨e, f⟩ | ⟨e, f⟩ | ⟨e, f⟩ | ⟨e, f⟩ <;> subst e <;> subst f <;> simp only [rtX, rtY] <;> constructor <;> grind
  obtain ⟨i1, i2⟩ := im_exact J.t (rtX z (g * x) (g * y)) (rtY z (g * x) (g * y))
  rw [st.1, st.2, i1, i2, k4, l4, m4]
  rw [(rt_u z a b (g * x) (g * y)).1, (rt_u z a b (g * x) (g * y)).2, (rt_rt hm z hz _ _).1, (rt_rt hm z hz _ _).2]
  rw [(rt_u k.toNat r s _ _).1, (rt_u k.toNat r s _ _).2]
  obtain ⟨kn, hkn⟩ : ∃ n : Nat, n = k.toNat := ⟨_, rfl⟩
  rw [← hkn, (rt_rt hl kn (by omega) _ _).1, (rt_rt hl kn (by omega) _ _).2]
  have y1 : r * (p * x - q * y) - s * (p * y + q * x) = g * (rtX j a b * x - rtY j a b * y) := by
    have : r * (p * x - q * y) - s * (p * y + q * x) = (p * r - q * s) * x - (p * s + q * r) * y := by grind
    rw [this, e1, e2]
    grind
  have y2 : r * (p * y + q * x) + s * (p * x - q * y) = g * (rtX j a b * y + rtY j a b * x) := by
    have : r * (p * y + q * x) + s * (p * x - q * y) = (p * r - q * s) * y + (p * s + q * r) * x := by grind
    rw [this, e1, e2]
    grind
  rw [y1, y2, (rt_g _ _ _ _).1, (rt_g _ _ _ _).2]
  have w1 : rtX j a b * x - rtY j a b * y = rtX j (a * x - b * y) (a * y + b * x) ∧ rtX j a b * y + rtY j a b * x = rtY j (a * x - b * y) (a * y + b * x) := by
    rcases (by omega : j = 0 ∨ j = 1 ∨ j = 2 ∨ j = 3) with e | e | e | e <;> subst e <;> simp only [rtX, rtY] <;> constructor <;> grind
  rw [w1.1, w1.2, (rt_rt ⟨by omega, by omega⟩ j hj _ _).1, (rt_rt ⟨by omega, by omega⟩ j hj _ _).2]
  have n1 : a * (g * x) - b * (g * y) = g * (a * x - b * y) := by grind
  have n2 : a * (g * y) + b * (g * x) = g * (a * y + b * x) := by grind
  rw [n1, n2, (rt_g _ _ _ _).1, (rt_g _ _ _ _).2]
  have q1 : (m + (z : Int)) % 4 = ((l + (kn : Int)) % 4 + (j : Int)) % 4 := by omega
  rw [q1]
  exact ⟨rfl, rfl⟩
theorem jn_back' {p q k r s l a b m c d n : Int} (J : Jn p q k r s l a b m) (J' : Jn r (-s) (-l % 4) p (-q) (-k % 4) c d n) (h : Tn p q k) (h' : Tn r s l) : D.tup [.int a, .int (-b), .int (-m % 4)] = D.tup [.int c, .int d, .int n] := jn_back h h' J J'
theorem ratio_eq' {p q k r s l a b m : Int} (J : Jn p q k r s l a b m) (h : Tn p q k) (h' : Tn r s l) (x y : Int) : D.lst [rat (exX r s l (exX p q k x y) (exY p q k x y)) (cc r s * cc p q), rat (exY r s l (exX p q k x y) (exY p q k x y)) (cc r s * cc p q)] = D.lst [rat (exX a b m x y) (cc a b), rat (exY a b m x y) (cc a b)] := ratio_eq h h' J x y
theorem im_joined' {p q k r s l a b m : Int} (J : Jn p q k r s l a b m) (h : Tn p q k) (h' : Tn r s l) (x y : Int) : D.tup [.int (imX a b m (p * (r * x - -s * y) - -q * (r * y + -s * x)) (p * (r * y + -s * x) + -q * (r * x - -s * y))), .int (imY a b m (p * (r * x - -s * y) - -q * (r * y + -s * x)) (p * (r * y + -s * x) + -q * (r * x - -s * y)))] = D.tup [.int (rtX (l % 4).toNat (r * rtX (k % 4).toNat (p * x - q * y) (p * y + q * x) - s * rtY (k % 4).toNat (p * x - q * y) (p * y + q * x)) (r * rtY (k % 4).toNat (p * x - q * y) (p * y + q * x) + s * rtX (k % 4).toNat (p * x - q * y) (p * y + q * x))), .int (rtY (l % 4).toNat (r * rtX (k % 4).toNat (p * x - q * y) (p * y + q * x) - s * rtY (k % 4).toNat (p * x - q * y) (p * y + q * x)) (r * rtY (k % 4).toNat (p * x - q * y) (p * y + q * x) + s * rtX (k % 4).toNat (p * x - q * y) (p * y + q * x)))] := tup2 (im_joined h h' J x y).1 (im_joined h h' J x y).2
theorem isq_ok {i p : Int} (e : i = p * p) (b : Bd 100 (p * p)) : 0 ≤ i ∧ i.natAbs < 2 ^ 3000 := by
  subst e
  exact ⟨sq_nn p, b.up (by decide)⟩
theorem q_sign {p : Int} (h : 1 ≤ p) (q : Int) : (0 < p * q + q * p → (q.natAbs : Int) = q) ∧ (¬ 0 < p * q + q * p → -(q.natAbs : Int) = q) := by
  have e : p * q + q * p = p * q + p * q := by rw [Int.mul_comm q p]
  rw [e]
  rcases Int.lt_trichotomy q 0 with z | z | z
  · have : p * q < 0 := Int.mul_neg_of_pos_of_neg (by omega) z
    omega
  · subst z
    omega
  · have : 0 < p * q := Int.mul_pos (by omega) z
    omega
theorem one_mc {p q k m : Int} (h : Tn p q k) (hm : 1 ≤ m) : 1 ≤ m * cc p q := by
  have := Int.mul_pos (show 0 < m by omega) (cc_pos h)
  omega
theorem gcd_pos' (x : Int) {c : Int} (h : 0 < c) : 0 < ((Nat.gcd x.natAbs c.natAbs : Nat) : Int) := by
  have : 0 < Nat.gcd x.natAbs c.natAbs := Nat.gcd_pos_of_pos_right _ (by omega)
  omega
def con_is_legs : Con := fun ds S Q => ∃ a b c : Int, ds = [.tup [.int a, .int b, .int c]] ∧ (1 ≤ c ∧ a * a + b * b = c * c) ∧ (Bd 700 a ∧ Bd 700 b ∧ Bd 700 c) ∧ Q (.bl true) S
def con_turn_by : Con := fun ds S Q => ∃ a b c p q k m : Int, ds = [.tup [.int a, .int b, .int c]] ∧ (a = m * lgA p q k ∧ b = m * lgB p q k ∧ c = m * cc p q) ∧ Tn p q k ∧ 1 ≤ m ∧ Bd 300 m ∧ Q (.tup [.int p, .int q, .int k]) S
def con_joined : Con := fun ds S Q => ∃ p q k r s l : Int, ds = [.tup [.int p, .int q, .int k], .tup [.int r, .int s, .int l]] ∧ Tn p q k ∧ Tn r s l ∧ p ≤ 10000000 ∧ r ≤ 10000000 ∧ ∀ a b m, Jn p q k r s l a b m → Q (.tup [.int a, .int b, .int m]) S
def con_ratio : Con := fun ds S Q => ∃ x y c : Int, ds = [.tup [.int x, .int y, .int c]] ∧ 0 < c ∧ (Bd 900 x ∧ Bd 900 y ∧ Bd 900 c) ∧ Q (.lst [rat x c, rat y c]) S
def con_two : Con := fun ds S Q => ∃ p q k r s l x y : Int, ds = [.tup [.int p, .int q, .int k], .tup [.int r, .int s, .int l], .tup [.int x, .int y]] ∧ Tn p q k ∧ Tn r s l ∧ p ≤ 10000000 ∧ r ≤ 10000000 ∧ (Bd 150 x ∧ Bd 150 y) ∧ Q (.bl true) S
theorem sq_bd {p : Int} (h : Bd 50 p) : Bd 100 (p * p) := h.mul h
theorem gcd_bd (x : Int) {c : Int} {n : Nat} (hc : 0 < c) (h : Bd n c) : Bd n ((Nat.gcd x.natAbs c.natAbs : Nat) : Int) := by
  refine Bd.of_le (by omega) ?_ h
  have := Nat.gcd_le_right (n := c.natAbs) x.natAbs (by omega)
  omega

end Tp
namespace Tp
open PySem PySem.Spec PyProof.Rows L2 DL
/-! ### misses -/
theorem miss_sq {p q k : Int} (h : Tn p q k) (x y : Int) : (imX p q k x y * cc p q - exX p q k x y) * (imX p q k x y * cc p q - exX p q k x y) + (imY p q k x y * cc p q - exY p q k x y) * (imY p q k x y * cc p q - exY p q k x y) = cc p q * (reX p q x y * reX p q x y + reY p q x y * reY p q x y) := by
  obtain ⟨e1, e2⟩ := over_eq h x y
  have c1 : imX p q k x y * cc p q - exX p q k x y = -rtX (k % 4).toNat (p * reX p q x y - q * reY p q x y) (p * reY p q x y + q * reX p q x y) := by
    have := Int.mul_comm (cc p q) (imX p q k x y)
    omega
  have c2 : imY p q k x y * cc p q - exY p q k x y = -rtY (k % 4).toNat (p * reX p q x y - q * reY p q x y) (p * reY p q x y + q * reX p q x y) := by
    have := Int.mul_comm (cc p q) (imY p q k x y)
    omega
  rw [c1, c2]
  generalize (k % 4).toNat = j
  generalize reX p q x y = m
  generalize reY p q x y = n
  unfold cc
  match j with
  | 0 => simp only [rtX, rtY]; grind
  | 1 => simp only [rtX, rtY]; grind
  | 2 => simp only [rtX, rtY]; grind
  | _ + 3 => simp only [rtX, rtY]; grind
theorem miss_rat {p q k : Int} (h : Tn p q k) (x y : Int) : rat ((imX p q k x y * cc p q - exX p q k x y) * (imX p q k x y * cc p q - exX p q k x y) + (imY p q k x y * cc p q - exY p q k x y) * (imY p q k x y * cc p q - exY p q k x y)) (cc p q * cc p q) = rat (reX p q x y * reX p q x y + reY p q x y * reY p q x y) (cc p q) := by
  rw [miss_sq h, rat_mul (cc_pos h)]
def con_lowest : Con := fun ds S Q => ∃ n d : Int, ds = [.int n, .int d] ∧ 0 < d ∧ (Bd 1500 n ∧ Bd 700 d) ∧ Q (rat n d) S
def con_miss : Con := fun ds S Q => ∃ p q k x y : Int, ds = [.tup [.int p, .int q, .int k], .tup [.int x, .int y]] ∧ Tn p q k ∧ (Bd 400 x ∧ Bd 400 y) ∧ Q (rat (reX p q x y * reX p q x y + reY p q x y * reY p q x y) (cc p q)) S
def con_mparts : Con := fun ds S Q => ∃ p q k x y : Int, ds = [.tup [.int p, .int q, .int k], .tup [.int x, .int y]] ∧ Tn p q k ∧ (Bd 400 x ∧ Bd 400 y) ∧ Q (.tup [rat (imX p q k x y * cc p q - exX p q k x y) (cc p q), rat (imY p q k x y * cc p q - exY p q k x y) (cc p q)]) S
def con_r25 : Con := fun ds S Q => ∃ p q k x y : Int, ds = [.tup [.int p, .int q, .int k], .tup [.int x, .int y]] ∧ Tn p q k ∧ (Bd 160 x ∧ Bd 160 y) ∧ Q (.bl true) S
theorem rat_flat {n d : Int} : ∃ a b, rat n d = .tup [.int a, .int b] := ⟨_, _, rfl⟩
theorem lg0 (p q : Int) : lgA p q 0 = p * p - q * q ∧ lgB p q 0 = 2 * p * q := by
  unfold lgA lgB
  refine ⟨rfl, ?_⟩
  show p * q + q * p = 2 * p * q
  grind
def absI (v : Int) : Int := if v < 0 then -v else v
theorem int_at {os : List Int} {k : Nat} {d : D} (h : (os.map D.int)[k]? = some d) : ∃ v, os[k]? = some v ∧ d = .int v := by
  rw [List.getElem?_map] at h
  cases e : os[k]? with
  | none => rw [e] at h; cases h
  | some v =>
    rw [e] at h
    exact ⟨v, rfl, (Option.some.inj h).symm⟩
theorem take_step {α β : Type} (f : α → β) {os : List α} {k : Nat} {v : α} (h : os[k]? = some v) : (os.map f).take (k + 1) = (os.map f).take k ++ [f v] := by
  rw [List.take_add_one, List.getElem?_map, h] <;> rfl
theorem off_max {p q k : Int} (h : Tn p q k) (x y m : Int) (hm : m ∈ [absI (imX p q k x y * (p * p + q * q) - exX p q k x y), absI (imY p q k x y * (p * p + q * q) - exY p q k x y)]) : Bd 110 m ∧ 2 * m < p * p + q * q := by
  have n := im_near h x y
  have b := Bd.cc h.bp h.bq
  have c1 : cc p q * imX p q k x y = imX p q k x y * (p * p + q * q) := Int.mul_comm _ _
  have c2 : cc p q * imY p q k x y = imY p q k x y * (p * p + q * q) := Int.mul_comm _ _
  rw [c1, c2] at n
  have e : cc p q = p * p + q * q := rfl
  rw [e] at n b
  have key : m < p * p + q * q ∧ 2 * m < p * p + q * q ∧ 0 ≤ m := by
    rcases List.mem_cons.mp hm with z | z
    · rw [z]; unfold absI; split <;> omega
    · have z := List.mem_singleton.mp z
      rw [z]; unfold absI; split <;> omega
  exact ⟨Bd.of_lt key.2.2 key.1 (b.up (by decide)), key.2.1⟩
theorem parts_eq (p q k x y : Int) : D.lst [.tup [rat (imX p q k x y * cc p q - exX p q k x y) (cc p q), rat (imY p q k x y * cc p q - exY p q k x y) (cc p q)], .tup [rat (imX p q k x y * cc p q - exX p q k x y) (cc p q), rat (imY p q k x y * cc p q - exY p q k x y) (cc p q)]] =
  D.lst [.tup [rat (imX p q k x y * (p * p + q * q) - exX p q k x y) (p * p + q * q), rat (imY p q k x y * (p * p + q * q) - exY p q k x y) (p * p + q * q)], .tup [rat (imX p q k x y * (p * p + q * q) - exX p q k x y) (p * p + q * q), rat (imY p q k x y * (p * p + q * q) - exY p q k x y) (p * p + q * q)]] := rfl
theorem miss_eq {p q k : Int} (h : Tn p q k) (x y : Int) : D.lst [rat (reX p q x y * reX p q x y + reY p q x y * reY p q x y) (cc p q), rat (reX p q x y * reX p q x y + reY p q x y * reY p q x y) (cc p q)] =
  D.lst [rat ((imX p q k x y * (p * p + q * q) - exX p q k x y) * (imX p q k x y * (p * p + q * q) - exX p q k x y) + (imY p q k x y * (p * p + q * q) - exY p q k x y) * (imY p q k x y * (p * p + q * q) - exY p q k x y)) ((p * p + q * q) * (p * p + q * q)), rat ((imX p q k x y * (p * p + q * q) - exX p q k x y) * (imX p q k x y * (p * p + q * q) - exX p q k x y) + (imY p q k x y * (p * p + q * q) - exY p q k x y) * (imY p q k x y * (p * p + q * q) - exY p q k x y)) ((p * p + q * q) * (p * p + q * q))] := lst2 (miss_rat h x y).symm
theorem told25 : D.lst [rat (reX 4 1 4 0 * reX 4 1 4 0 + reY 4 1 4 0 * reY 4 1 4 0) (cc 4 1), rat (reX 2 1 0 0 * reX 2 1 0 0 + reY 2 1 0 0 * reY 2 1 0 0) (cc 2 1)] = D.lst [.tup [.int 4, .int 17], .tup [.int 0, .int 1]] := by
  rw [show reX 4 1 4 0 = -2 by decide +kernel, show reY 4 1 4 0 = 0 by decide +kernel, show reX 2 1 0 0 = 0 by decide +kernel, show reY 2 1 0 0 = 0 by decide +kernel] <;> rfl

end Tp
namespace Tp
open PySem PySem.Spec PyProof.Rows L2 DL
/-! ### how many turns keep all -/
def knI (n : Int) : Int := if n < 1 then 0 else 4 + 8 * ((((Float64.isqrt (2 * n - 1).toNat : Nat) : Int) - 1) / 2)
theorem kn_of {n K : Int} (h0 : 0 ≤ K) (h1 : 2 * K * K + 2 * K + 1 ≤ n) (h2 : n < 2 * (K + 1) * (K + 1) + 2 * (K + 1) + 1) : knI n = 8 * K + 4 := by
  obtain ⟨k, rfl⟩ : ∃ k : Nat, K = (k : Int) := ⟨K.toNat, by omega⟩
  have kk : (0 : Int) ≤ (k : Int) * k := Int.mul_nonneg h0 h0
  have e1 : 2 * (k : Int) * k = 2 * ((k : Int) * k) := Int.mul_assoc _ _ _
  have e2 : 2 * ((k : Int) + 1) * (k + 1) = 2 * ((k : Int) * k) + 4 * k + 2 := by grind
  rw [e1] at h1
  rw [e2] at h2
  unfold knI
  rw [if_neg (by omega)]
  obtain ⟨s1, s2⟩ := Float64.isqrt_spec (2 * n - 1).toNat
  generalize Float64.isqrt (2 * n - 1).toNat = r at *
  have en : ((2 * n - 1).toNat : Int) = 2 * n - 1 := by omega
  have r1 : (r : Int) * r ≤ 2 * n - 1 := by rw [← en]; exact_mod_cast s1
  have r2 : 2 * n - 1 < ((r : Int) + 1) * (r + 1) := by rw [← en]; exact_mod_cast s2
  have a1 : 2 * k + 1 ≤ r := by
    refine Decidable.byContradiction fun z => ?_
    have z : (r : Int) + 1 ≤ 2 * k + 1 := by omega
    have : ((r : Int) + 1) * (r + 1) ≤ (2 * k + 1) * (2 * k + 1) := Int.mul_le_mul z z (by omega) (by omega)
    have : (2 * (k : Int) + 1) * (2 * k + 1) = 4 * ((k : Int) * k) + 4 * k + 1 := by grind
    omega
  have a2 : r ≤ 2 * k + 2 := by
    refine Decidable.byContradiction fun z => ?_
    have z : 2 * (k : Int) + 3 ≤ r := by omega
    have : (2 * (k : Int) + 3) * (2 * k + 3) ≤ (r : Int) * r := Int.mul_le_mul z z (by omega) (by omega)
    have : (2 * (k : Int) + 3) * (2 * k + 3) = 4 * ((k : Int) * k) + 12 * k + 9 := by grind
    omega
  omega
theorem kn_zero {n : Int} (h : n < 1) : knI n = 0 := if_pos h
theorem kn_bd {n : Int} (h : 0 ≤ n) : 0 ≤ knI n := by
  unfold knI
  split
  · omega
  · rename_i h1
    obtain ⟨s1, s2⟩ := Float64.isqrt_spec (2 * n - 1).toNat
    generalize Float64.isqrt (2 * n - 1).toNat = r at *
    have : 0 < r := by
      rcases Nat.eq_zero_or_pos r with z | z
      · subst z
        omega
      · exact z
    omega
/-- the law's own count, ahead of turn i -/
def due17 (i : Nat) : Int := if i = 0 then 0 else 8 * (i : Int) - 4
theorem due_step (i : Nat) : due17 i + 8 - 4 * (if decide ((0 : Int) + (i : Int) = 0) = true then 1 else 0) = due17 (i + 1) := by
  unfold due17
  by_cases h : i = 0
  · subst h; decide
  · have hd : decide ((0 : Int) + (i : Int) = 0) = false := decide_eq_false (by omega)
    rw [hd, if_neg h, if_neg Bool.false_ne_true, if_neg (by omega)]
    omega
theorem due_stop {i : Nat} {n : Int} (h0 : 0 ≤ n) (hp : i = 0 ∨ 2 * ((i : Int) - 1) * ((i : Int) - 1) + 2 * ((i : Int) - 1) + 1 ≤ n) (h : 2 * (0 + (i : Int)) * (0 + (i : Int)) + 2 * (0 + (i : Int)) + 1 > n) : knI n = due17 i := by
  unfold due17
  by_cases hi : i = 0
  · subst hi
    exact kn_zero (by simpa using h)
  · rw [if_neg hi]
    have hp : 2 * ((i : Int) - 1) * ((i : Int) - 1) + 2 * ((i : Int) - 1) + 1 ≤ n := hp.resolve_left hi
    rw [kn_of (K := (i : Int) - 1) (by omega) hp (by rw [Int.sub_add_cancel]; rw [Int.zero_add] at h; exact h)]
    omega
theorem due_end {n : Int} (h0 : 0 ≤ n) (hp : n.toNat = 0 ∨ 2 * ((n.toNat : Int) - 1) * ((n.toNat : Int) - 1) + 2 * ((n.toNat : Int) - 1) + 1 ≤ n) : knI n = due17 n.toNat := by
  refine due_stop h0 hp ?_
  have e : ((n.toNat : Nat) : Int) = n := by omega
  rw [e, Int.zero_add]
  have : 0 ≤ n * n := Int.mul_nonneg h0 h0
  have : 2 * n * n = 2 * (n * n) := Int.mul_assoc _ _ _
  omega
def bb17 (i j : Nat) : Bool := decide ((1 + (i : Int)) * (1 + (i : Int)) + (1 - (1 + (i : Int)) + (j : Int)) * (1 - (1 + (i : Int)) + (j : Int)) ≤ 500 ∧ ((1 + (i : Int)) + (1 - (1 + (i : Int)) + (j : Int))) % 2 = 1 ∧ (if 1 - (1 + (i : Int)) + (j : Int) < 0 then -(1 - (1 + (i : Int)) + (j : Int)) else 1 - (1 + (i : Int)) + (j : Int)) = 1 + (i : Int) - 1)
theorem bb_iff {i j : Nat} : bb17 i j = true ↔ (1 + (i : Int)) * (1 + (i : Int)) + (1 - (1 + (i : Int)) + (j : Int)) * (1 - (1 + (i : Int)) + (j : Int)) ≤ 500 ∧ ((1 + (i : Int)) + (1 - (1 + (i : Int)) + (j : Int))) % 2 = 1 ∧ (if 1 - (1 + (i : Int)) + (j : Int) < 0 then -(1 - (1 + (i : Int)) + (j : Int)) else 1 - (1 + (i : Int)) + (j : Int)) = 1 + (i : Int) - 1 := ⟨fun h => of_decide_eq_true h, fun h => decide_eq_true h⟩
def cntJ (i : Nat) : Nat → Int
  | 0 => 0
  | j + 1 => cntJ i j + if bb17 i j = true then 4 else 0
def cntI : Nat → Int
  | 0 => 0
  | i + 1 => cntI i + cntJ i (2 * i + 1)
theorem cnt_end : cntI 22 = 124 := by decide +kernel
theorem kn500 : knI 500 = 124 := kn_of (K := 15) (by decide) (by decide) (by decide)
theorem tn17 {i j : Nat} (hi : i < 22) (h : bb17 i j = true) : Tn (1 + (i : Int)) (1 - (1 + (i : Int)) + (j : Int)) 0 := by
  obtain ⟨_, h2, h3⟩ := bb_iff.mp h
  generalize 1 - (1 + (i : Int)) + (j : Int) = q at *
  have hq : q.natAbs = i := by split at h3 <;> omega
  refine ⟨by omega, by omega, by split at h3 <;> omega, by split at h3 <;> omega, ?_, by omega, by decide, by decide⟩
  have z := (spin_end (p := 1 + (i : Int)) (by omega)).1
  have e1 : (1 + (i : Int) - 1).natAbs = i := by omega
  rw [e1] at z
  rw [hq]
  exact z
def con_knum : Con := fun ds S Q => ∃ n : Int, ds = [.int n] ∧ 0 ≤ n ∧ Bd 400 n ∧ Q (.int (knI n)) S
def con_due17 : Con := fun ds S Q => ∃ n : Int, ds = [.int n] ∧ 0 ≤ n ∧ n ≤ 3000 ∧ Q (.int (knI n)) S
def con_keeps : Con := fun ds S Q => ∃ p q k : Int, ds = [.tup [.int p, .int q, .int k]] ∧ Tn p q k ∧ Q (.bl (decide (p = (if q < 0 then -q else q) + 1))) S
theorem edge_kn {l : Int} (h : 1 ≤ l) : knI (2 * l * l + 2 * l + 1 - 1) = 8 * l - 4 ∧ knI (2 * l * l + 2 * l + 1) = 8 * l + 4 ∧ knI (2 * l * l + 2 * l + 1 + 1) = 8 * l + 4 ∧ knI (2 * l * l + 2 * l + 1 + 4 * l + 3) = 8 * l + 4 ∧ knI (2 * l * l + 2 * l + 1 + 4 * l + 4) = 8 * l + 12 := by
  have e0 : 2 * (l + 1) * (l + 1) + 2 * (l + 1) + 1 = 2 * l * l + 2 * l + 1 + 4 * l + 4 := by grind
  have e1 : 2 * (l + 1 + 1) * (l + 1 + 1) + 2 * (l + 1 + 1) + 1 = 2 * l * l + 2 * l + 1 + 8 * l + 12 := by grind
  have e2 : 2 * (l - 1) * (l - 1) + 2 * (l - 1) + 1 = 2 * l * l + 2 * l + 1 - 4 * l := by grind
  refine ⟨?_, kn_of (by omega) (by omega) (by omega), kn_of (by omega) (by omega) (by omega), kn_of (by omega) (by omega) (by omega), ?_⟩
  · rw [kn_of (K := l - 1) (by omega) (by omega) (by rw [Int.sub_add_cancel]; omega)]
    omega
  · rw [kn_of (K := l + 1) (by omega) (by omega) (by omega)]
    omega
theorem edge_at {l v : Int} (h : 1 ≤ l) (b : Bd 80 l) (hv : v ∈ [2 * l * l + 2 * l + 1 - 1, 2 * l * l + 2 * l + 1, 2 * l * l + 2 * l + 1 + 1, 2 * l * l + 2 * l + 1 + 4 * l + 3]) : 0 ≤ v ∧ Bd 200 v := by
  have : 0 ≤ l * l := Int.mul_nonneg (by omega) (by omega)
  have e : 2 * l * l = 2 * (l * l) := Int.mul_assoc _ _ _
  have bl : Bd 161 (l * l) := (b.mul b).up (by decide)
  unfold Bd at b bl ⊢
  simp only [List.mem_cons, List.not_mem_nil, or_false] at hv
  rcases hv with z | z | z | z <;> subst z <;> constructor <;> omega
theorem told17 {l : Int} (h : 1 ≤ l) : D.lst (([2 * l * l + 2 * l + 1 - 1, 2 * l * l + 2 * l + 1, 2 * l * l + 2 * l + 1 + 1, 2 * l * l + 2 * l + 1 + 4 * l + 3].map (fun v => D.int (knI v))).take 4) = D.lst [.int (8 * l - 4), .int (8 * l + 4), .int (8 * l + 4), .int (8 * l + 4)] := by
  obtain ⟨a, b, c, d, _⟩ := edge_kn h
  show D.lst [.int (knI _), .int (knI _), .int (knI _), .int (knI _)] = _
  rw [a, b, c, d]
theorem told17b : D.lst (([4, 5, 25].map (fun v => D.int (knI v))).take 3) = D.lst [.int 4, .int 12, .int 28] := by
  show D.lst [.int (knI 4), .int (knI 5), .int (knI 25)] = _
  rw [kn_of (n := 4) (K := 0) (by decide) (by decide) (by decide), kn_of (n := 5) (K := 1) (by decide) (by decide) (by decide), kn_of (n := 25) (K := 3) (by decide) (by decide) (by decide)] <;> rfl
theorem Bd.kn {n : Int} {a : Nat} (h : Bd a n) : Bd (a + 12) (knI n) := by
  unfold knI
  have b1 : Bd (a + 3) (2 * n - 1) := (((Bd.lit 2).mul h).sub (Bd.lit 1)).up (by
    show max (2 + a) 1 + 1 ≤ a + 3
    omega)
  have b2 : Bd (a + 4) ((((Float64.isqrt (2 * n - 1).toNat : Nat) : Int) - 1) / 2) := (((Bd.isq b1).sub (Bd.lit 1)).div).up (by
    show max (a + 3) 1 + 1 ≤ a + 4
    omega)
  have b3 := (Bd.lit 4).add ((Bd.lit 8).mul b2)
  refine Bd.up (Bd.ite (Bd.lit 0) b3) ?_
  show max 1 (max 3 (4 + (a + 4)) + 1) ≤ a + 12
  omega
theorem cntJ_yes {i j : Nat} (h : bb17 i j = true) : cntI i + cntJ i j + 4 = cntI i + cntJ i (j + 1) := by
  have : cntJ i (j + 1) = cntJ i j + if bb17 i j = true then 4 else 0 := rfl
  rw [this, if_pos h, Int.add_assoc]
theorem cntJ_no {i j : Nat} (h : ¬ bb17 i j = true) : cntI i + cntJ i j = cntI i + cntJ i (j + 1) := by
  have : cntJ i (j + 1) = cntJ i j + if bb17 i j = true then 4 else 0 := rfl
  rw [this, if_neg h, Int.add_zero]
theorem cntI_end (i : Nat) : cntI i + cntJ i ((1 + (i : Int) - (1 - (1 + (i : Int)))).toNat) = cntI (i + 1) := by
  have e : (1 + (i : Int) - (1 - (1 + (i : Int)))).toNat = 2 * i + 1 := by omega
  rw [e] <;> rfl

end Tp
namespace Tp
open PySem PySem.Spec PyProof.Rows L2 DL
/-! ### pixels with one image; bare pixels -/
theorem sq_lt {a c : Int} (h : -c < a ∧ a < c) : a * a < c * c := by
  have n : a.natAbs * a.natAbs < c.natAbs * c.natAbs := Nat.mul_self_lt_mul_self (by omega)
  have p1 := abs_sq' a
  have p2 := abs_sq' c
  rw [p1, p2]
  exact_mod_cast n
theorem lg_sq2 {p q : Int} (k : Int) : lgA p q k * lgA p q k + lgB p q k * lgB p q k = cc p q * cc p q := by
  unfold lgA lgB cc
  generalize k.toNat = j
  match j with
  | 0 => simp only [rtX, rtY]; grind
  | 1 => simp only [rtX, rtY]; grind
  | 2 => simp only [rtX, rtY]; grind
  | _ + 3 => simp only [rtX, rtY]; grind
/-- two pixels with one image are the same or neighbours -/
theorem im_same {p q k x y z w : Int} (h : Tn p q k) (e1 : imX p q k x y = imX p q k z w) (e2 : imY p q k x y = imY p q k z w) : (x = z ∧ y = w) ∨ (x = z + 1 ∧ y = w) ∨ (x = z - 1 ∧ y = w) ∨ (x = z ∧ y = w + 1) ∨ (x = z ∧ y = w - 1) := by
  have n1 := im_near h x y
  have n2 := im_near h z w
  rw [← e1, ← e2] at n2
  have d1 : exX p q k x y - exX p q k z w = lgA p q k * (x - z) - lgB p q k * (y - w) := by unfold exX; grind
  have d2 : exY p q k x y - exY p q k z w = lgA p q k * (y - w) + lgB p q k * (x - z) := by unfold exY; grind
  have s1 := sq_lt (a := lgA p q k * (x - z) - lgB p q k * (y - w)) (c := cc p q) (by rw [← d1]; omega)
  have s2 := sq_lt (a := lgA p q k * (y - w) + lgB p q k * (x - z)) (c := cc p q) (by rw [← d2]; omega)
  have e : (lgA p q k * (x - z) - lgB p q k * (y - w)) * (lgA p q k * (x - z) - lgB p q k * (y - w)) + (lgA p q k * (y - w) + lgB p q k * (x - z)) * (lgA p q k * (y - w) + lgB p q k * (x - z)) = (lgA p q k * lgA p q k + lgB p q k * lgB p q k) * ((x - z) * (x - z) + (y - w) * (y - w)) := by grind
  rw [lg_sq2] at e
  have hc : 0 < cc p q * cc p q := Int.mul_pos (cc_pos h) (cc_pos h)
  have lt : (x - z) * (x - z) + (y - w) * (y - w) < 2 := by
    refine Int.lt_of_mul_lt_mul_left (a := cc p q * cc p q) ?_ (Int.le_of_lt hc)
    omega
  have q1 := sq_nn (x - z)
  have q2 := sq_nn (y - w)
  have small : ∀ t : Int, t * t < 2 → -1 ≤ t ∧ t ≤ 1 := fun t ht => by
    constructor
    · refine Decidable.byContradiction fun z => ?_
      have : (2 : Int) * 2 ≤ (-t) * (-t) := Int.mul_le_mul (by omega) (by omega) (by decide) (by omega)
      rw [Int.neg_mul_neg] at this
      omega
    · refine Decidable.byContradiction fun z => ?_
      have : (2 : Int) * 2 ≤ t * t := Int.mul_le_mul (by omega) (by omega) (by decide) (by omega)
      omega
  have b1 := small (x - z) (by omega)
  have b2 := small (y - w) (by omega)
  rcases (by omega : x - z = -1 ∨ x - z = 0 ∨ x - z = 1) with a | a | a <;> rcases (by omega : y - w = -1 ∨ y - w = 0 ∨ y - w = 1) with b | b | b <;> rw [a, b] at lt <;> first | (exact absurd lt (by decide)) | omega
/-- what a pixel gives that is turned and turned back -/
theorem back_ex {p q k : Int} (h : Tn p q k) (x y : Int) : exX p (-q) (-k % 4) (imX p q k x y) (imY p q k x y) = cc p q * x - (p * reX p q x y + q * reY p q x y) ∧ exY p (-q) (-k % 4) (imX p q k x y) (imY p q k x y) = cc p q * y - (p * reY p q x y - q * reX p q x y) := by
  have h0 : Tn p q 0 := Tn.zero h
  have hk : 0 ≤ k ∧ k < 4 := ⟨h.k1, by have := h.k2; omega⟩
  have e := im_rot h0 hk x y
  have z1 : (0 + k) % 4 = k := by omega
  have z2 : k % 4 = k := by omega
  rw [z1, z2] at e
  obtain ⟨a1, a2⟩ := ex_raw p (-q) (-k % 4) (imX p q k x y) (imY p q k x y)
  rw [a1, a2, e.1, e.2]
  have r1 : reX p q x y = p * x - q * y - (p * imX p q 0 x y - -q * imY p q 0 x y) := rfl
  have r2 : reY p q x y = p * y + q * x - (p * imY p q 0 x y + -q * imX p q 0 x y) := rfl
  rw [r1, r2]
  generalize imX p q 0 x y = a
  generalize imY p q 0 x y = b
  unfold cc
  rcases four hk with g | g | g | g <;> subst g
  · show rtX 0 _ _ = _ ∧ rtY 0 _ _ = _
    simp only [rtX, rtY]
    constructor <;> grind
  · show rtX 3 ((p * p - -q * -q) * rtX 1 a b - 2 * p * -q * rtY 1 a b) ((p * p - -q * -q) * rtY 1 a b + 2 * p * -q * rtX 1 a b) = _ ∧ rtY 3 ((p * p - -q * -q) * rtX 1 a b - 2 * p * -q * rtY 1 a b) ((p * p - -q * -q) * rtY 1 a b + 2 * p * -q * rtX 1 a b) = _
    simp only [rtX, rtY]
    constructor <;> grind
  · show rtX 2 ((p * p - -q * -q) * rtX 2 a b - 2 * p * -q * rtY 2 a b) ((p * p - -q * -q) * rtY 2 a b + 2 * p * -q * rtX 2 a b) = _ ∧ rtY 2 ((p * p - -q * -q) * rtX 2 a b - 2 * p * -q * rtY 2 a b) ((p * p - -q * -q) * rtY 2 a b + 2 * p * -q * rtX 2 a b) = _
    simp only [rtX, rtY]
    constructor <;> grind
  · show rtX 1 ((p * p - -q * -q) * rtX 3 a b - 2 * p * -q * rtY 3 a b) ((p * p - -q * -q) * rtY 3 a b + 2 * p * -q * rtX 3 a b) = _ ∧ rtY 1 ((p * p - -q * -q) * rtX 3 a b - 2 * p * -q * rtY 3 a b) ((p * p - -q * -q) * rtY 3 a b + 2 * p * -q * rtX 3 a b) = _
    simp only [rtX, rtY]
    constructor <;> grind
/-- a rest of a pixel that comes back -/
def isC (p q m n : Int) : Prop := (-(cc p q) < 2 * (p * m + q * n) ∧ 2 * (p * m + q * n) < cc p q) ∧ -(cc p q) < 2 * (p * n - q * m) ∧ 2 * (p * n - q * m) < cc p q
theorem nrr_iff {c r x : Int} (h : c % 2 = 1) (h0 : 0 < c) : nrr (c * x - r) c = x ↔ -c < 2 * r ∧ 2 * r < c := by
  constructor
  · intro e
    have := nrr_near (n := c * x - r) h h0
    rw [e] at this
    omega
  · intro e
    have := nrr_of (r := -r) (c := c) (k := x) (by omega)
    have e2 : -r + c * x = c * x - r := by omega
    rw [e2] at this
    exact this
theorem back_iff {p q k : Int} (h : Tn p q k) (x y : Int) : (imX p (-q) (-k % 4) (imX p q k x y) (imY p q k x y) = x ∧ imY p (-q) (-k % 4) (imX p q k x y) (imY p q k x y) = y) ↔ isC p q (reX p q x y) (reY p q x y) := by
  obtain ⟨a, b⟩ := back_ex h x y
  unfold imX imY at *
  rw [a, b, cc_neg, nrr_iff (cc_odd h) (cc_pos h), nrr_iff (cc_odd h) (cc_pos h)] <;> rfl
/-! ### turns that keep all -/
theorem ka_core {Q m n : Int} (h0 : 0 ≤ Q) (hm : 0 ≤ m) (hn : 0 ≤ n) (h1 : Q * m + (Q + 1) * n ≤ (Q + 1) * Q) (h2 : (Q + 1) * m - Q * n ≤ (Q + 1) * Q) : m + n ≤ Q := by
  refine Decidable.byContradiction fun z => ?_
  have z1 : Q + 1 ≤ m + n := by omega
  have z2 : Q * (Q + 1) ≤ Q * (m + n) := Int.mul_le_mul_of_nonneg_left z1 h0
  have e1 : Q * m + (Q + 1) * n = Q * (m + n) + n := by grind
  have e2 : (Q + 1) * Q = Q * (Q + 1) := Int.mul_comm _ _
  have n0 : n = 0 := by omega
  subst n0
  have z3 : (Q + 1) * (Q + 1) ≤ (Q + 1) * m := Int.mul_le_mul_of_nonneg_left (by omega) (by omega)
  have e3 : (Q + 1) * (Q + 1) = (Q + 1) * Q + (Q + 1) := by grind
  rw [Int.mul_zero] at h2
  omega
theorem ka_abs {Q m n : Int} (h0 : 0 ≤ Q) (h1 : -((Q + 1) * Q) ≤ Q * m + (Q + 1) * n ∧ Q * m + (Q + 1) * n ≤ (Q + 1) * Q) (h2 : -((Q + 1) * Q) ≤ (Q + 1) * m - Q * n ∧ (Q + 1) * m - Q * n ≤ (Q + 1) * Q) : (m.natAbs : Int) + (n.natAbs : Int) ≤ Q := by
  rcases Int.le_total 0 m with a | a <;> rcases Int.le_total 0 n with b | b
  · have := ka_core h0 a b h1.2 h2.2
    omega
  · have e1 : Q * -n + (Q + 1) * m = (Q + 1) * m - Q * n := by grind
    have e2 : (Q + 1) * -n - Q * m = -(Q * m + (Q + 1) * n) := by grind
    have := ka_core (m := -n) (n := m) h0 (by omega) a (by omega) (by omega)
    omega
  · have e1 : Q * n + (Q + 1) * -m = -((Q + 1) * m - Q * n) := by grind
    have e2 : (Q + 1) * n - Q * -m = Q * m + (Q + 1) * n := by grind
    have := ka_core (m := n) (n := -m) h0 b (by omega) (by omega) (by omega)
    omega
  · have e1 : Q * -m + (Q + 1) * -n = -(Q * m + (Q + 1) * n) := by grind
    have e2 : (Q + 1) * -m - Q * -n = -((Q + 1) * m - Q * n) := by grind
    have := ka_core (m := -m) (n := -n) h0 (by omega) (by omega) (by omega) (by omega)
    omega
theorem ka_box {Q a b : Int} (h0 : 0 ≤ Q) (h : (a.natAbs : Int) + (b.natAbs : Int) ≤ Q) : -((Q + 1) * Q) ≤ (Q + 1) * a + Q * b ∧ (Q + 1) * a + Q * b ≤ (Q + 1) * Q := by
  have t1 : (Q + 1) * ((a.natAbs : Int) + b.natAbs) ≤ (Q + 1) * Q := Int.mul_le_mul_of_nonneg_left h (by omega)
  have u1 : Q * (b.natAbs : Int) ≤ (Q + 1) * b.natAbs := Int.mul_le_mul_of_nonneg_right (by omega) (by omega)
  have e : (Q + 1) * ((a.natAbs : Int) + b.natAbs) = (Q + 1) * a.natAbs + (Q + 1) * b.natAbs := Int.mul_add _ _ _
  have v1 : (Q + 1) * a ≤ (Q + 1) * a.natAbs := Int.mul_le_mul_of_nonneg_left (by omega) (by omega)
  have v2 : Q * b ≤ Q * b.natAbs := Int.mul_le_mul_of_nonneg_left (by omega) h0
  have w1 : (Q + 1) * -a ≤ (Q + 1) * a.natAbs := Int.mul_le_mul_of_nonneg_left (by omega) (by omega)
  have w2 : Q * -b ≤ Q * b.natAbs := Int.mul_le_mul_of_nonneg_left (by omega) h0
  rw [Int.mul_neg] at w1 w2
  omega
theorem ka_isC0 {Q m n : Int} (h0 : 0 ≤ Q) (hr : isR (Q + 1) Q m n) : isC (Q + 1) Q m n := by
  obtain ⟨a, b⟩ := hr
  have ec : cc (Q + 1) Q = 2 * ((Q + 1) * Q) + 1 := by unfold cc; grind
  rw [ec] at a b
  have e1 : (Q + 1) * n + Q * m = Q * m + (Q + 1) * n := by omega
  rw [e1] at b
  have k := ka_abs (m := m) (n := n) h0 (by omega) (by omega)
  have k1 := ka_box (a := m) (b := n) h0 k
  have k2 := ka_box (a := n) (b := -m) h0 (by omega)
  unfold isC
  rw [ec]
  have e2 : Q * -m = -(Q * m) := Int.mul_neg _ _
  rw [e2] at k2
  omega
theorem isC_neg (p q m n : Int) : isC p q m n ↔ isR p q m (-n) := by
  unfold isC isR
  have e1 : p * m - q * -n = p * m + q * n := by grind
  have e2 : p * -n + q * m = -(p * n - q * m) := by grind
  rw [e1, e2]
  omega
theorem isR_mir (p q m n : Int) : isR p (-q) m n ↔ isC p q m n := by
  unfold isC isR
  have e1 : p * m - -q * n = p * m + q * n := by grind
  have e2 : p * n + -q * m = p * n - q * m := by grind
  rw [e1, e2, cc_neg]
theorem isC_mir (p q m n : Int) : isC p (-q) m n ↔ isR p q m n := by
  have := isR_mir p (-q) m n
  rw [Int.neg_neg] at this
  exact this.symm
/-- all pixels come back by a turn that keeps all -/
theorem ka_isC {p q m n : Int} (hk : p = (if q < 0 then -q else q) + 1) (hr : isR p q m n) : isC p q m n := by
  by_cases h : q < 0
  · rw [if_pos h] at hk
    obtain ⟨Q, rfl⟩ : ∃ Q, q = -Q := ⟨-q, by omega⟩
    rw [Int.neg_neg] at hk
    subst hk
    have z := (isR_mir _ _ _ _).mp hr
    exact (isC_mir _ _ _ _).mpr (by
      have := ka_isC0 (Q := Q) (m := m) (n := -n) (by omega) ((isC_neg _ _ _ _).mp z)
      have := (isC_neg _ _ _ _).mp this
      rw [Int.neg_neg] at this
      exact this)
  · rw [if_neg h] at hk
    subst hk
    exact ka_isC0 (by omega) hr
theorem ka_inj {p q k x y z w : Int} (h : Tn p q k) (hk : p = (if q < 0 then -q else q) + 1) (e1 : imX p q k x y = imX p q k z w) (e2 : imY p q k x y = imY p q k z w) : x = z ∧ y = w := by
  have a := (back_iff h x y).mpr (ka_isC hk (re_is h x y))
  have b := (back_iff h z w).mpr (ka_isC hk (re_is h z w))
  rw [e1, e2] at a
  exact ⟨a.1.symm.trans b.1, a.2.symm.trans b.2⟩
/-! ### a bare pixel of each turn that does not keep all -/
theorem odd_far {a b s t A B : Int} (ha : 0 ≤ a) (hb : 0 ≤ b) (hA : A % 2 = 1) (hB : B % 2 = 1) {c : Int} (h1 : c + s < a + b) (h2 : c - s < a + b) (h3 : c + t < a + b) (h4 : c - t < a + b) :
    ¬ ((-c < s - (a * A - b * B) ∧ s - (a * A - b * B) < c) ∧ -c < t - (a * B + b * A) ∧ t - (a * B + b * A) < c) := by
  rintro ⟨⟨x1, x2⟩, x3, x4⟩
  have pos : ∀ {u v : Int}, 0 ≤ u → 1 ≤ v → u ≤ u * v := fun {u v} hu hv => by
    have := Int.mul_le_mul_of_nonneg_left hv hu
    omega
  rcases (by omega : 1 ≤ A ∨ A ≤ -1) with zA | zA <;> rcases (by omega : 1 ≤ B ∨ B ≤ -1) with zB | zB
  · have := pos ha zB
    have := pos hb zA
    omega
  · have := pos ha zA
    have := pos hb (show 1 ≤ -B by omega)
    rw [Int.mul_neg] at this
    omega
  · have := pos ha (show 1 ≤ -A by omega)
    have := pos hb zB
    rw [Int.mul_neg] at *
    omega
  · have := pos ha (show 1 ≤ -B by omega)
    have := pos hb (show 1 ≤ -A by omega)
    rw [Int.mul_neg] at *
    omega
theorem gap_pos {p q k : Int} (h : Tn p q k) (hk : p ≠ (if q < 0 then -q else q) + 1) : p + (if q < 0 then -q else q) < 2 * (if q < 0 then -q else q) * (p - (if q < 0 then -q else q)) := by
  have hq1 := h.q1
  have hq2 := h.q2
  have ho := h.o
  have hq0 : q ≠ 0 := fun z => by
    subst z
    have g := h.g
    rw [show (0 : Int).natAbs = 0 from rfl, Nat.gcd_zero_right] at g
    have := h.p1
    simp at hk
    omega
  generalize hQ : (if q < 0 then -q else q) = Q at *
  have Q1 : 1 ≤ Q := by rw [← hQ]; split <;> omega
  have d3 : 3 ≤ p - Q := by
    have : p - Q ≠ 2 := fun z => by
      have : (p + q) % 2 = 0 := by rw [← hQ] at z; split at z <;> omega
      omega
    have : 0 < p - Q := by rw [← hQ]; split <;> omega
    omega
  have m1 : (2 * Q) * 3 ≤ (2 * Q) * (p - Q) := Int.mul_le_mul_of_nonneg_left d3 (by omega)
  have m2 : 2 * (p - Q) ≤ (2 * Q) * (p - Q) := Int.mul_le_mul_of_nonneg_right (by omega) (by omega)
  rcases (by omega : p - Q = 3 ∨ 4 ≤ p - Q) with z | z
  · rw [z]; omega
  · have m3 : (2 * Q) * 4 ≤ (2 * Q) * (p - Q) := Int.mul_le_mul_of_nonneg_left z (by omega)
    have m4 : (p - Q) ≤ Q * (p - Q) := by
      have := Int.mul_le_mul_of_nonneg_right (c := p - Q) Q1 (by omega)
      omega
    have e : 2 * Q * (p - Q) = Q * (p - Q) + Q * (p - Q) := by grind
    have m5 : 4 * Q ≤ Q * (p - Q) := by
      have := Int.mul_le_mul_of_nonneg_left z (show 0 ≤ Q by omega)
      omega
    omega
/-- w is no image -/
def bareP (p q k w v : Int) : Prop := ∀ x y, ¬ (imX p q k x y = w ∧ imY p q k x y = v)
theorem bare_ex {p q k : Int} (h : Tn p q k) (hk : p ≠ (if q < 0 then -q else q) + 1) : ∃ w v, bareP p q 0 w v := by
  have hm : Tn p (-q) 0 := ⟨h.p1, h.p2, by have := h.q2; omega, by have := h.q1; omega, by rw [Int.natAbs_neg]; exact h.g, by have := h.o; omega, by decide, by decide⟩
  have ho := h.o
  -- a pixel whose rest of the turn back is (1 + i) (1 - u) / 2
  obtain ⟨m, em⟩ : ∃ m, 2 * m = 1 - p + q := ⟨(1 - p + q) / 2, by omega⟩
  obtain ⟨n, en⟩ : ∃ n, 2 * n = 1 - p - q := ⟨(1 - p - q) / 2, by omega⟩
  have ec : cc p q = p * p + q * q := rfl
  have c1 : p * (2 * m) - -q * (2 * n) = p + q - cc p q := by rw [em, en, ec]; grind
  have c2 : p * (2 * n) + -q * (2 * m) = p - q - cc p q := by rw [em, en, ec]; grind
  have d1 : 2 * (p * m - -q * n) = p * (2 * m) - -q * (2 * n) := by grind
  have d2 : 2 * (p * n + -q * m) = p * (2 * n) + -q * (2 * m) := by grind
  have hcb : p + q < cc p q + cc p q ∧ p - q < cc p q + cc p q ∧ 0 < p + q ∧ 0 < p - q := by
    have hp := h.p1
    have q1 := h.q1
    have q2 := h.q2
    have m1 : p ≤ p * p := by
      have := Int.mul_le_mul_of_nonneg_left hp (show 0 ≤ p by omega)
      omega
    have m2 := sq_nn q
    rw [ec]
    omega
  have hr : isR p (-q) m n := by
    unfold isR
    rw [cc_neg]
    omega
  obtain ⟨s, t, hst⟩ := co_ac hm
  have hv : (s * (p * p - -q * -q) - 1) % cc p (-q) = 0 := by
    have : s * (p * p - -q * -q) - 1 = cc p (-q) * (-t) := by
      have e : t * cc p (-q) = cc p (-q) * t := Int.mul_comm _ _
      have e2 : cc p (-q) * -t = -(cc p (-q) * t) := Int.mul_neg _ _
      rw [e2]
      omega
    rw [this]
    exact Int.mul_emod_right _ _
  obtain ⟨f1, f2⟩ := first_re hm hr hv
  generalize (p * m - -q * n) * s % cc p (-q) = w at f1 f2
  refine ⟨w, 0, fun x y e => ?_⟩
  -- c w - u² z
  have n1 := im_near (Tn.zero h) x y
  rw [e.1, e.2, (ex0 p q x y).1, (ex0 p q x y).2] at n1
  have r1 : m = p * w - -q * 0 - (p * imX p (-q) 0 w 0 - - -q * imY p (-q) 0 w 0) := f1.symm
  have r2 : n = p * 0 + -q * w - (p * imY p (-q) 0 w 0 + - -q * imX p (-q) 0 w 0) := f2.symm
  generalize imX p (-q) 0 w 0 = X at r1 r2
  generalize imY p (-q) 0 w 0 = Y at r1 r2
  -- twice what is left: u (1 + i) - u² (A + B i), A and B odd
  have k1 : cc p q * w = (p * p - q * q) * X - 2 * p * q * Y + (p * m - q * n) := by rw [r1, r2, ec]; grind
  have k2 : cc p q * 0 = (p * p - q * q) * Y + 2 * p * q * X + (p * n + q * m) := by rw [r1, r2, ec]; grind
  have g1 : 2 * (p * m - q * n) = (p - q) - ((p * p - q * q) - 2 * p * q) := by
    have : 2 * (p * m - q * n) = p * (2 * m) - q * (2 * n) := by grind
    rw [this, em, en]; grind
  have g2 : 2 * (p * n + q * m) = (p + q) - ((p * p - q * q) + 2 * p * q) := by
    have : 2 * (p * n + q * m) = p * (2 * n) + q * (2 * m) := by grind
    rw [this, em, en]; grind
  have hgap := gap_pos h hk
  have a0 : 0 ≤ p * p - q * q := by
    have : p * p - q * q = (p - q) * (p + q) := by grind
    rw [this]
    exact Int.mul_nonneg (by have := h.q2; omega) (by have := h.q1; omega)
  by_cases hq : q < 0
  · rw [if_pos hq] at hgap
    have b0 : 0 ≤ 2 * p * -q := Int.mul_nonneg (by have := h.p1; omega) (by omega)
    have gg : 2 * -q * (p - -q) = (p * p - q * q) + 2 * p * -q - cc p q := by rw [ec]; grind
    rw [gg] at hgap
    refine odd_far (a := p * p - q * q) (b := 2 * p * -q) (s := p + q) (t := p - q) (A := 2 * (y - Y) + 1) (B := 2 * (x - X) + 1) (c := cc p q) a0 b0 (by omega) (by omega) (by omega) (by omega) (by omega) (by omega) ?_
    have x1 : (p + q) - ((p * p - q * q) * (2 * (y - Y) + 1) - 2 * p * -q * (2 * (x - X) + 1)) = 2 * (cc p q * 0 - ((p * p - q * q) * y + 2 * p * q * x)) := by
      have : 2 * (cc p q * 0) = 2 * ((p * p - q * q) * Y + 2 * p * q * X) + 2 * (p * n + q * m) := by rw [k2]; grind
      rw [g2] at this
      grind
    have x2 : (p - q) - ((p * p - q * q) * (2 * (x - X) + 1) + 2 * p * -q * (2 * (y - Y) + 1)) = 2 * (cc p q * w - ((p * p - q * q) * x - 2 * p * q * y)) := by
      have : 2 * (cc p q * w) = 2 * ((p * p - q * q) * X - 2 * p * q * Y) + 2 * (p * m - q * n) := by rw [k1]; grind
      rw [g1] at this
      grind
    rw [x1, x2]
    omega
  · rw [if_neg hq] at hgap
    have b0 : 0 ≤ 2 * p * q := Int.mul_nonneg (by have := h.p1; omega) (by omega)
    have gg : 2 * q * (p - q) = (p * p - q * q) + 2 * p * q - cc p q := by rw [ec]; grind
    rw [gg] at hgap
    refine odd_far (a := p * p - q * q) (b := 2 * p * q) (s := p - q) (t := p + q) (A := 2 * (x - X) + 1) (B := 2 * (y - Y) + 1) (c := cc p q) a0 b0 (by omega) (by omega) (by omega) (by omega) (by omega) (by omega) ?_
    have x2 : (p + q) - ((p * p - q * q) * (2 * (y - Y) + 1) + 2 * p * q * (2 * (x - X) + 1)) = 2 * (cc p q * 0 - ((p * p - q * q) * y + 2 * p * q * x)) := by
      have : 2 * (cc p q * 0) = 2 * ((p * p - q * q) * Y + 2 * p * q * X) + 2 * (p * n + q * m) := by rw [k2]; grind
      rw [g2] at this
      grind
    have x1 : (p - q) - ((p * p - q * q) * (2 * (x - X) + 1) - 2 * p * q * (2 * (y - Y) + 1)) = 2 * (cc p q * w - ((p * p - q * q) * x - 2 * p * q * y)) := by
      have : 2 * (cc p q * w) = 2 * ((p * p - q * q) * X - 2 * p * q * Y) + 2 * (p * m - q * n) := by rw [k1]; grind
      rw [g1] at this
      grind
    rw [x1, x2]
    omega
/-! ### where some are bare, some meet -/
theorem nodup_len : ∀ (l D : List Nat), l.Nodup → (∀ x ∈ l, x ∈ D) → l.length ≤ D.length
  | [], _, _, _ => Nat.zero_le _
  | a :: l, D, h, k => by
    rw [List.nodup_cons] at h
    have h1 := nodup_len l (D.erase a) h.2 fun x hx => (List.mem_erase_of_ne (fun e : x = a => h.1 (by rw [← e]; exact hx))).mpr (k x (List.mem_cons_of_mem _ hx))
    have ha := k a List.mem_cons_self
    have := List.length_erase_of_mem ha
    have : 0 < D.length := List.length_pos_of_mem ha
    rw [List.length_cons]
    omega
theorem nodup_map {f : Nat → Nat} : ∀ (l : List Nat), l.Nodup → (∀ i ∈ l, ∀ j ∈ l, f i = f j → i = j) → (l.map f).Nodup
  | [], _, _ => List.nodup_nil
  | a :: l, h, k => by
    rw [List.nodup_cons] at h
    rw [List.map_cons, List.nodup_cons]
    refine ⟨fun z => ?_, nodup_map l h.2 fun i hi j hj => k i (List.mem_cons_of_mem _ hi) j (List.mem_cons_of_mem _ hj)⟩
    obtain ⟨b, hb, e⟩ := List.mem_map.mp z
    have := k b (List.mem_cons_of_mem _ hb) a List.mem_cons_self e
    exact h.1 (this ▸ hb)
theorem pigeon {c v : Nat} {f : Nat → Nat} (hf : ∀ i, i < c → f i < c) (hv : v < c) (hn : ∀ i, i < c → f i ≠ v) : ∃ i j, i < c ∧ j < c ∧ i ≠ j ∧ f i = f j := by
  refine Classical.byContradiction fun z => ?_
  have nd : ((List.range c).map f).Nodup := nodup_map _ List.nodup_range fun i hi j hj e => by
    refine Decidable.byContradiction fun ne => z ⟨i, j, List.mem_range.mp hi, List.mem_range.mp hj, ne, e⟩
  have := nodup_len _ ((List.range c).erase v) nd fun x hx => by
    obtain ⟨i, hi, rfl⟩ := List.mem_map.mp hx
    have hi := List.mem_range.mp hi
    exact (List.mem_erase_of_ne (hn i hi)).mpr (List.mem_range.mpr (hf i hi))
  rw [List.length_map, List.length_range, List.length_erase_of_mem (List.mem_range.mpr hv), List.length_range] at this
  omega
/-- a number that tells pixels modulo u -/
theorem lam_ex {p q k : Int} (h : Tn p q k) : ∃ j : Int, (∃ s, p + q * j = cc p q * s) ∧ (∃ t, p * j - q = cc p q * t) := by
  obtain ⟨s, t, e⟩ := bez h.g
  refine ⟨s * q - t * p, ⟨s, ?_⟩, ⟨-t, ?_⟩⟩
  · have : p = p * (s * p + t * q) := by rw [e, Int.mul_one]
    unfold cc
    grind
  · have : q = q * (s * p + t * q) := by rw [e, Int.mul_one]
    unfold cc
    grind
theorem lam_of {p q j dx dy : Int} (hc : 0 < cc p q) (h1 : ∃ s, p + q * j = cc p q * s) (h2 : ∃ t, p * j - q = cc p q * t) (hd : ∃ r, dx + j * dy = cc p q * r) : ∃ a b, dx = p * a - q * b ∧ dy = p * b + q * a := by
  obtain ⟨s, e1⟩ := h1
  obtain ⟨t, e2⟩ := h2
  obtain ⟨r, e3⟩ := hd
  refine ⟨p * r - dy * t, dy * s - q * r, ?_, ?_⟩
  · refine cancel hc ?_
    have z : dx = cc p q * r - j * dy := by omega
    have y : cc p q = p * p + q * q := rfl
    grind
  · refine cancel hc ?_
    have z : dx = cc p q * r - j * dy := by omega
    have y : cc p q = p * p + q * q := rfl
    grind
theorem lam_to {p q j a b : Int} (h1 : ∃ s, p + q * j = cc p q * s) (h2 : ∃ t, p * j - q = cc p q * t) : ∃ r, (p * a - q * b) + j * (p * b + q * a) = cc p q * r := by
  obtain ⟨s, e1⟩ := h1
  obtain ⟨t, e2⟩ := h2
  exact ⟨a * s + b * t, by grind⟩
theorem mod_eq {c a b : Int} (h : 0 < c) (e : a % c = b % c) : ∃ r, a - b = c * r := by
  refine ⟨a / c - b / c, ?_⟩
  have e1 := Int.emod_add_mul_ediv a c
  have e2 := Int.emod_add_mul_ediv b c
  rw [Int.mul_sub]
  omega
/-- some two pixels meet, in the plane -/
theorem meet_ex {p q k : Int} (h : Tn p q k) (hk : p ≠ (if q < 0 then -q else q) + 1) : ∃ x y z w, (imX p q 0 x y = imX p q 0 z w ∧ imY p q 0 x y = imY p q 0 z w) ∧ ¬ (x = z ∧ y = w) := by
  have h0 := Tn.zero h
  have hc := cc_pos h
  obtain ⟨w, v, hb⟩ := bare_ex h hk
  obtain ⟨j, j1, j2⟩ := lam_ex h
  have key : ∀ a b c d : Int, (a + j * b) % cc p q = (c + j * d) % cc p q → ∃ t u, a = c + (p * t - q * u) ∧ b = d + (p * u + q * t) := fun a b c d e => by
    obtain ⟨r, hr⟩ := mod_eq hc e
    obtain ⟨t, u, e1, e2⟩ := lam_of (dx := a - c) (dy := b - d) hc j1 j2 ⟨r, by rw [← hr]; grind⟩
    exact ⟨t, u, by omega, by omega⟩
  let f : Nat → Nat := fun i => ((imX p q 0 (i : Int) 0 + j * imY p q 0 (i : Int) 0) % cc p q).toNat
  have nn : ∀ e : Int, 0 ≤ e % cc p q ∧ e % cc p q < cc p q := fun e => ⟨Int.emod_nonneg _ (by omega), Int.emod_lt_of_pos _ hc⟩
  have fe : ∀ i : Nat, ((f i : Nat) : Int) = (imX p q 0 (i : Int) 0 + j * imY p q 0 (i : Int) 0) % cc p q := fun i => by
    have := nn (imX p q 0 (i : Int) 0 + j * imY p q 0 (i : Int) 0)
    show (((imX p q 0 (i : Int) 0 + j * imY p q 0 (i : Int) 0) % cc p q).toNat : Int) = _
    omega
  obtain ⟨i, i', hi, hi', ne, e⟩ := pigeon (c := (cc p q).toNat) (v := ((w + j * v) % cc p q).toNat) (f := f) (fun i _ => by
      have := fe i
      have := nn (imX p q 0 (i : Int) 0 + j * imY p q 0 (i : Int) 0)
      omega) (by have := nn (w + j * v); omega) (fun i hi z => by
      have z : (imX p q 0 (i : Int) 0 + j * imY p q 0 (i : Int) 0) % cc p q = (w + j * v) % cc p q := by
        have := fe i
        have := nn (w + j * v)
        omega
      obtain ⟨t, u, e1, e2⟩ := key _ _ _ _ z.symm
      obtain ⟨m1, m2⟩ := im0_move hc (i : Int) 0 t u
      exact hb _ _ ⟨m1.trans e1.symm, m2.trans e2.symm⟩)
  have z : (imX p q 0 (i : Int) 0 + j * imY p q 0 (i : Int) 0) % cc p q = (imX p q 0 (i' : Int) 0 + j * imY p q 0 (i' : Int) 0) % cc p q := by
    rw [← fe i, ← fe i', e]
  obtain ⟨t, u, e1, e2⟩ := key _ _ _ _ z
  obtain ⟨m1, m2⟩ := im0_move hc (i' : Int) 0 t u
  refine ⟨(i : Int), 0, _, _, ⟨e1.trans m1.symm, e2.trans m2.symm⟩, fun ⟨y1, y2⟩ => ne ?_⟩
  obtain ⟨r1, r2⟩ := re_move hc (i' : Int) 0 t u
  rw [← y1, ← y2] at r1 r2
  have := first_only h (f := (i : Int)) (g := (i' : Int)) ⟨by omega, by omega⟩ ⟨by omega, by omega⟩ r1 r2
  omega
/-- a pixel of the row that stands as a given one does -/
theorem row_at {p q k : Int} (h : Tn p q k) (x y z w : Int) : ∃ i t u, 0 ≤ i ∧ i < cc p q ∧ x + i = z + (p * t + q * u) ∧ y = w + (p * u - q * t) := by
  have hc := cc_pos h
  obtain ⟨s, r, e⟩ := bez h.g
  -- (p - q i) (t0 + u0 i) has the imaginary part y - w
  have im0 : p * (s * (y - w)) - q * (-(r * (y - w))) = y - w := by
    have : p * (s * (y - w)) - q * (-(r * (y - w))) = (s * p + r * q) * (y - w) := by grind
    rw [this, e, Int.one_mul]
  have c0 := Int.emod_add_mul_ediv (z + (p * (-(r * (y - w))) + q * (s * (y - w))) - x) (cc p q)
  have n0 := Int.emod_nonneg (z + (p * (-(r * (y - w))) + q * (s * (y - w))) - x) (show cc p q ≠ 0 by omega)
  have n1 := Int.emod_lt_of_pos (z + (p * (-(r * (y - w))) + q * (s * (y - w))) - x) hc
  generalize (z + (p * (-(r * (y - w))) + q * (s * (y - w))) - x) / cc p q = m at *
  generalize hi : (z + (p * (-(r * (y - w))) + q * (s * (y - w))) - x) % cc p q = i at *
  refine ⟨i, -(r * (y - w)) - p * m, s * (y - w) - q * m, n0, n1, ?_, ?_⟩
  · have ec : cc p q = p * p + q * q := rfl
    have a1 : p * (-(r * (y - w)) - p * m) + q * (s * (y - w) - q * m) = (p * (-(r * (y - w))) + q * (s * (y - w))) - cc p q * m := by rw [ec]; grind
    rw [a1]
    omega
  · have a1 : p * (s * (y - w) - q * m) - q * (-(r * (y - w)) - p * m) = p * (s * (y - w)) - q * (-(r * (y - w))) := by grind
    rw [a1, im0]
    omega
/-- in each row some pixel meets the next one to the right or above -/
theorem row_meet {p q k : Int} (h : Tn p q k) (hk : p ≠ (if q < 0 then -q else q) + 1) (x y : Int) : ∃ i, 0 ≤ i ∧ i < cc p q ∧
    ((imX p q k (x + i) y = imX p q k (x + i + 1) y ∧ imY p q k (x + i) y = imY p q k (x + i + 1) y) ∨ (imX p q k (x + i) y = imX p q k (x + i) (y + 1) ∧ imY p q k (x + i) y = imY p q k (x + i) (y + 1))) := by
  have h0 := Tn.zero h
  have hc := cc_pos h
  obtain ⟨a, b, c, d, ⟨e1, e2⟩, ne⟩ := meet_ex h hk
  -- one to the left of the other, or below
  have : ∃ z w, (imX p q 0 z w = imX p q 0 (z + 1) w ∧ imY p q 0 z w = imY p q 0 (z + 1) w) ∨ (imX p q 0 z w = imX p q 0 z (w + 1) ∧ imY p q 0 z w = imY p q 0 z (w + 1)) := by
    rcases im_same h0 e1 e2 with z | ⟨z1, z2⟩ | ⟨z1, z2⟩ | ⟨z1, z2⟩ | ⟨z1, z2⟩
    · exact absurd z ne
    · subst z1 z2
      exact ⟨c, b, .inl ⟨e1.symm, e2.symm⟩⟩
    · subst z1 z2
      rw [show c = c - 1 + 1 by omega] at e1 e2
      exact ⟨c - 1, b, .inl ⟨by simpa using e1, by simpa using e2⟩⟩
    · subst z1 z2
      exact ⟨a, d, .inr ⟨e1.symm, e2.symm⟩⟩
    · subst z1 z2
      rw [show d = d - 1 + 1 by omega] at e1 e2
      exact ⟨a, d - 1, .inr ⟨by simpa using e1, by simpa using e2⟩⟩
  obtain ⟨z, w, hz⟩ := this
  obtain ⟨i, t, u, i0, i1, x1, y1⟩ := row_at h x y z w
  refine ⟨i, i0, i1, ?_⟩
  have k4 : 0 ≤ k ∧ k < 4 := ⟨h.k1, by have := h.k2; omega⟩
  have rot := im_rot h0 k4
  have z1 : (0 + k) % 4 = k := by omega
  rw [z1] at rot
  rw [(rot _ _).1, (rot _ _).2, (rot (x + i + 1) y).1, (rot (x + i + 1) y).2, (rot (x + i) (y + 1)).1, (rot (x + i) (y + 1)).2]
  have m0 := im0_move hc z w t u
  have m1 := im0_move hc (z + 1) w t u
  have m2 := im0_move hc z (w + 1) t u
  rw [show z + 1 + (p * t + q * u) = z + (p * t + q * u) + 1 by omega] at m1
  rw [show w + 1 + (p * u - q * t) = w + (p * u - q * t) + 1 by omega] at m2
  rw [← x1, ← y1] at m0 m1 m2
  rcases hz with ⟨g1, g2⟩ | ⟨g1, g2⟩
  · refine .inl ?_
    rw [m0.1, m0.2, m1.1, m1.2, g1, g2]
    exact ⟨rfl, rfl⟩
  · refine .inr ?_
    rw [m0.1, m0.2, m2.1, m2.2, g1, g2]
    exact ⟨rfl, rfl⟩
theorem eq_bl {a b : Bool} {S : Sto} {Q : Bool → Sto → Prop} (q : Q (a == b) S) : eqP (.bl a) (.bl b) S Q := ⟨⟨rfl, rfl⟩, q⟩
/-- pixel i of the row meets the next one to the right or above -/
def metP (p q k x y : Int) (i : Int) : Prop := (imX p q k (x + i + 1) y = imX p q k (x + i) y ∧ imY p q k (x + i + 1) y = imY p q k (x + i) y) ∨ (imX p q k (x + i) (y + 1) = imX p q k (x + i) y ∧ imY p q k (x + i) (y + 1) = imY p q k (x + i) y)
theorem met_iff {p q k : Int} (h : Tn p q k) (x y : Int) : (∃ i, 0 ≤ i ∧ i < cc p q ∧ metP p q k x y i) ↔ ¬ p = (if q < 0 then -q else q) + 1 := by
  constructor
  · rintro ⟨i, _, _, ⟨a, b⟩ | ⟨a, b⟩⟩ z
    · have := ka_inj h z a b
      omega
    · have := ka_inj h z a b
      omega
  · intro z
    obtain ⟨i, a, b, c⟩ := row_meet h z x y
    refine ⟨i, a, b, ?_⟩
    rcases c with ⟨c1, c2⟩ | ⟨c1, c2⟩
    · exact .inl ⟨c1.symm, c2.symm⟩
    · exact .inr ⟨c1.symm, c2.symm⟩
theorem met_any {p q k x y i : Int} : ([D.tup [.int (imX p q k (x + i + 1) y), .int (imY p q k (x + i + 1) y)], .tup [.int (imX p q k (x + i) (y + 1)), .int (imY p q k (x + i) (y + 1))]].any fun z => eqB z (.tup [.int (imX p q k (x + i) y), .int (imY p q k (x + i) y)])) = true ↔ metP p q k x y i := by
  rw [List.any_cons, List.any_cons, List.any_nil, eqB_t2, eqB_t2, Bool.or_false, Bool.or_eq_true, Bool.and_eq_true, Bool.and_eq_true, decide_eq_true_iff, decide_eq_true_iff, decide_eq_true_iff, decide_eq_true_iff] <;> rfl
def con_met : Con := fun ds S Q => ∃ p q k x y : Int, ds = [.tup [.int p, .int q, .int k], .int x, .int y] ∧ Tn p q k ∧ p ≤ 100000 ∧ (Bd 150 x ∧ Bd 150 y) ∧ Q (.bl (!decide (p = (if q < 0 then -q else q) + 1))) S
def con_rk : Con := fun ds S Q => ∃ p q k : Int, ds = [.tup [.int p, .int q, .int k]] ∧ Tn p q k ∧ Q (.bl true) S
def tn3 (t : Int × Int × Int) : D := .tup [.int t.1, .int t.2.1, .int t.2.2]
theorem tn_at {os : List (Int × Int × Int)} {k : Nat} {d : D} (h : (os.map tn3)[k]? = some d) : ∃ t, os[k]? = some t ∧ d = .tup [.int t.1, .int t.2.1, .int t.2.2] := by
  rw [List.getElem?_map] at h
  cases e : os[k]? with
  | none => rw [e] at h; cases h
  | some v =>
    rw [e] at h
    exact ⟨v, rfl, (Option.some.inj h).symm⟩
def os12 : List (Int × Int × Int) := [(1, 0, 0), (2, -1, 3), (4, 1, 0), (4, -3, 2), (10 ^ (Int.toNat 15), 1 - 10 ^ (Int.toNat 15), 0)]
theorem os12_tn {t : Int × Int × Int} (h : t ∈ os12) : Tn t.1 t.2.1 t.2.2 := by
  simp only [os12, List.mem_cons, List.not_mem_nil, or_false] at h
  rcases h with z | z | z | z | z <;> subst z <;> exact ⟨by decide +kernel, by decide +kernel, by decide +kernel, by decide +kernel, by decide +kernel, by decide +kernel, by decide +kernel, by decide +kernel⟩
theorem told12 : D.lst ((os12.map fun t => D.bl (decide (t.1 = (if t.2.1 < 0 then -t.2.1 else t.2.1) + 1))).take 5) = D.lst [.bl true, .bl true, .bl false, .bl true, .bl true] := by
  show D.lst [.bl _, .bl _, .bl _, .bl _, .bl _] = _
  rw [show (decide ((1 : Int) = (if (0 : Int) < 0 then -0 else 0) + 1)) = true by decide, show (decide ((2 : Int) = (if (-1 : Int) < 0 then -(-1) else -1) + 1)) = true by decide, show (decide ((4 : Int) = (if (1 : Int) < 0 then -1 else 1) + 1)) = false by decide, show (decide ((4 : Int) = (if (-3 : Int) < 0 then -(-3) else -3) + 1)) = true by decide, show (decide ((10 ^ (Int.toNat 15) : Int) = (if (1 - 10 ^ (Int.toNat 15) : Int) < 0 then -(1 - 10 ^ (Int.toNat 15)) else 1 - 10 ^ (Int.toNat 15)) + 1)) = true by decide +kernel]
theorem cc_small {p q k : Int} (h : Tn p q k) (hp : p ≤ 100000) : cc p q < 2 ^ 62 := by
  have := h.p1
  have q1 := h.q1
  have q2 := h.q2
  have a : p * p ≤ 100000 * 100000 := Int.mul_le_mul hp hp (by omega) (by decide)
  have b := abs_sq' q
  have c : (q.natAbs : Int) * q.natAbs ≤ 100000 * 100000 := Int.mul_le_mul (by omega) (by omega) (by omega) (by decide)
  unfold cc
  omega
theorem nb9 {a : Bool} (h : (a == !a) = true) : False := by cases a <;> cases h

end Tp
namespace Tp
open PySem PySem.Spec PyProof.Rows L2 DL
/-! ### where a pixel comes from -/
theorem lg_back {p q k : Int} (h : Tn p q k) (x y : Int) : exX p (-q) (-k % 4) x y = lgA p q k * x + lgB p q k * y ∧ exY p (-q) (-k % 4) x y = lgA p q k * y - lgB p q k * x := by
  have hk : 0 ≤ k ∧ k < 4 := ⟨h.k1, by have := h.k2; omega⟩
  obtain ⟨a1, a2⟩ := ex_raw p (-q) (-k % 4) x y
  rw [a1, a2]
  unfold lgA lgB
  rcases four hk with g | g | g | g <;> subst g
  · show rtX 0 _ _ = _ ∧ rtY 0 _ _ = _
    simp only [rtX, rtY]
    constructor <;> grind
  · show rtX 3 _ _ = rtX 1 _ _ * _ + rtY 1 _ _ * _ ∧ rtY 3 _ _ = rtX 1 _ _ * _ - rtY 1 _ _ * _
    simp only [rtX, rtY]
    constructor <;> grind
  · show rtX 2 _ _ = rtX 2 _ _ * _ + rtY 2 _ _ * _ ∧ rtY 2 _ _ = rtX 2 _ _ * _ - rtY 2 _ _ * _
    simp only [rtX, rtY]
    constructor <;> grind
  · show rtX 1 _ _ = rtX 3 _ _ * _ + rtY 3 _ _ * _ ∧ rtY 1 _ _ = rtX 3 _ _ * _ - rtY 3 _ _ * _
    simp only [rtX, rtY]
    constructor <;> grind
def ar5 : List (Int × Int) := [(-1, 0), (0, -1), (0, 0), (0, 1), (1, 0)]
theorem lg_sqb {p q k m n : Int} (hr : isR p q m n) : 2 * ((p * m + q * n) * (p * m + q * n)) + 2 * ((p * n - q * m) * (p * n - q * m)) < cc p q * cc p q := by
  obtain ⟨⟨a1, a2⟩, b1, b2⟩ := hr
  have s1 := sq_lt (a := 2 * (p * m - q * n)) (c := cc p q) ⟨a1, a2⟩
  have s2 := sq_lt (a := 2 * (p * n + q * m)) (c := cc p q) ⟨b1, b2⟩
  have e : 4 * ((p * m + q * n) * (p * m + q * n)) + 4 * ((p * n - q * m) * (p * n - q * m)) = 2 * (p * m - q * n) * (2 * (p * m - q * n)) + 2 * (p * n + q * m) * (2 * (p * n + q * m)) := by grind
  omega
/-- a number that is nearest, for one that is off by d -/
theorem off_far {c d P : Int} (h0 : 0 < c) (h : -c < 2 * (c * d - P) ∧ 2 * (c * d - P) < c) (hd : d ≠ 0) : c * c < 2 * P * (2 * P) ∧ (d ≠ 1 → d ≠ -1 → 9 * (c * c) < 2 * P * (2 * P)) := by
  have big : ∀ t : Int, 0 < t → ∀ u : Int, t < u → t * t < u * u := fun t ht u hu => by
    have m1 : t * t < t * u := Int.mul_lt_mul_of_pos_left hu ht
    have m2 : t * u < u * u := Int.mul_lt_mul_of_pos_right hu (by omega)
    omega
  have e9 : 3 * c * (3 * c) = 9 * (c * c) := by grind
  have en : -(2 * P) * -(2 * P) = 2 * P * (2 * P) := Int.neg_mul_neg _ _
  rcases (by omega : 1 ≤ d ∨ d ≤ -1) with z | z
  · have m1 : c * 1 ≤ c * d := Int.mul_le_mul_of_nonneg_left z (by omega)
    have := big c h0 (2 * P) (by omega)
    refine ⟨this, fun z1 z2 => ?_⟩
    have m2 : c * 2 ≤ c * d := Int.mul_le_mul_of_nonneg_left (by omega) (by omega)
    have := big (3 * c) (by omega) (2 * P) (by omega)
    omega
  · have m1 : c * 1 ≤ c * -d := Int.mul_le_mul_of_nonneg_left (by omega) (by omega)
    rw [Int.mul_neg] at m1
    have := big c h0 (-(2 * P)) (by omega)
    rw [en] at this
    refine ⟨this, fun z1 z2 => ?_⟩
    have m2 : c * 2 ≤ c * -d := Int.mul_le_mul_of_nonneg_left (by omega) (by omega)
    rw [Int.mul_neg] at m2
    have := big (3 * c) (by omega) (-(2 * P)) (by omega)
    rw [en] at this
    omega
/-- the image turned back is the pixel or one of its neighbours -/
theorem src_near {p q k : Int} (h : Tn p q k) (x y : Int) : (x - imX p (-q) (-k % 4) (imX p q k x y) (imY p q k x y), y - imY p (-q) (-k % 4) (imX p q k x y) (imY p q k x y)) ∈ ar5 := by
  obtain ⟨a, b⟩ := back_ex h x y
  have hb := im_near (tn_bk2 h) (imX p q k x y) (imY p q k x y)
  have hr := lg_sqb (k := k) (re_is h x y)
  have h0 := cc_pos h
  rw [a, b, cc_neg] at hb
  generalize imX p (-q) (-k % 4) (imX p q k x y) (imY p q k x y) = r at *
  generalize imY p (-q) (-k % 4) (imX p q k x y) (imY p q k x y) = s at *
  generalize p * reX p q x y + q * reY p q x y = P at *
  generalize p * reY p q x y - q * reX p q x y = N at *
  generalize cc p q = c at *
  have e1 : c * (x - r) - P = c * x - P - c * r := by rw [Int.mul_sub]; omega
  have e2 : c * (y - s) - N = c * y - N - c * s := by rw [Int.mul_sub]; omega
  have f1 := off_far (c := c) (d := x - r) (P := P) h0 (by rw [e1]; omega)
  have f2 := off_far (c := c) (d := y - s) (P := N) h0 (by rw [e2]; omega)
  have g1 : 2 * P * (2 * P) = 4 * (P * P) := by grind
  have g2 : 2 * N * (2 * N) = 4 * (N * N) := by grind
  have n1 := sq_nn P
  have n2 := sq_nn N
  have nc : 0 < c * c := Int.mul_pos h0 h0
  rw [g1] at f1
  rw [g2] at f2
  show (x - r, y - s) ∈ [((-1 : Int), (0 : Int)), (0, -1), (0, 0), (0, 1), (1, 0)]
  generalize x - r = d at *
  generalize y - s = e at *
  have d3 : d = 0 ∨ d = 1 ∨ d = -1 := Decidable.byContradiction fun z => by
    have := (f1 (by omega)).2 (by omega) (by omega)
    omega
  have e3 : e = 0 ∨ e = 1 ∨ e = -1 := Decidable.byContradiction fun z => by
    have := (f2 (by omega)).2 (by omega) (by omega)
    omega
  have one : d = 0 ∨ e = 0 := Decidable.byContradiction fun z => by
    have := (f1 (by omega)).1
    have := (f2 (by omega)).1
    omega
  rcases d3 with z | z | z <;> rcases e3 with w | w | w <;> subst z <;> subst w <;> first | decide | (rcases one with o | o <;> cases o)
/-- the list of the sources -/
def srcA (p q k x y : Int) : List (Int × Int) := ar5.map fun t => (imX p (-q) (-k % 4) x y + t.1, imY p (-q) (-k % 4) x y + t.2)
def fS (p q k x y : Int) (t : Int × Int) : Bool := decide (imX p q k t.1 t.2 = x ∧ imY p q k t.1 t.2 = y)
def srcL (p q k x y : Int) : List (Int × Int) := (srcA p q k x y).filter (fS p q k x y)
theorem srcL_mem {p q k x y : Int} (h : Tn p q k) {z w : Int} : (z, w) ∈ srcL p q k x y ↔ imX p q k z w = x ∧ imY p q k z w = y := by
  unfold srcL srcA fS
  rw [List.mem_filter]
  constructor
  · exact fun z => of_decide_eq_true z.2
  · intro e
    refine ⟨?_, decide_eq_true e⟩
    have := src_near h z w
    rw [e.1, e.2] at this
    refine List.mem_map.mpr ⟨_, this, ?_⟩
    show (_ + (z - _), _ + (w - _)) = (z, w)
    rw [show ∀ a b : Int, a + (b - a) = b from fun a b => by omega, show ∀ a b : Int, a + (b - a) = b from fun a b => by omega]
/-- what the program's own test says -/
theorem far_iff {p q k r s x y : Int} (h : Tn p q k) : (absI (exX p q k r s - cc p q * x) ≤ (cc p q - 1) / 2 ∧ absI (exY p q k r s - cc p q * y) ≤ (cc p q - 1) / 2) ↔ imX p q k r s = x ∧ imY p q k r s = y := by
  have ho := cc_odd h
  have h0 := cc_pos h
  have key : ∀ e v : Int, absI (e - cc p q * v) ≤ (cc p q - 1) / 2 ↔ nrr e (cc p q) = v := fun e v => by
    have t := nrr_iff (c := cc p q) (r := cc p q * v - e) (x := v) ho h0
    rw [show cc p q * v - (cc p q * v - e) = e by omega] at t
    rw [t]
    unfold absI
    constructor
    · intro z
      split at z <;> omega
    · intro z
      split <;> omega
  unfold imX imY
  exact and_congr (key _ _) (key _ _)
theorem far_step {p q k : Int} (r s i j : Int) : exX p q k (r + i) (s + j) = lgA p q k * r - lgB p q k * s + lgA p q k * i - lgB p q k * j ∧ exY p q k (r + i) (s + j) = lgB p q k * r + lgA p q k * s + lgB p q k * i + lgA p q k * j := by
  unfold exX exY
  constructor <;> grind
def cbB (p q k x y : Int) : Bool := decide (imX p (-q) (-k % 4) (imX p q k x y) (imY p q k x y) = x ∧ imY p (-q) (-k % 4) (imX p q k x y) (imY p q k x y) = y)
/-- of two that meet just one comes back -/
theorem meet_one {p q k x y z w : Int} (h : Tn p q k) (e1 : imX p q k z w = imX p q k x y) (e2 : imY p q k z w = imY p q k x y) (hn : ¬ (z = x ∧ w = y)) : cbB p q k z w = !cbB p q k x y := by
  have n1 := src_near h x y
  have n2 := src_near h z w
  have n3 := im_same h e1 e2
  unfold cbB
  rw [e1, e2] at n2 ⊢
  generalize imX p (-q) (-k % 4) (imX p q k x y) (imY p q k x y) = r at *
  generalize imY p (-q) (-k % 4) (imX p q k x y) (imY p q k x y) = s at *
  simp only [ar5, List.mem_cons, List.not_mem_nil, or_false, Prod.mk.injEq] at n1 n2
  by_cases c : r = x ∧ s = y
  · rw [decide_eq_true c, decide_eq_false (by omega)] <;> rfl
  · rw [decide_eq_false c, decide_eq_true (by omega)] <;> rfl

theorem pr_at {os : List (Int × Int)} {k : Nat} {d : D} (h : (os.map pr2)[k]? = some d) : ∃ t, os[k]? = some t ∧ d = .tup [.int t.1, .int t.2] := by
  rw [List.getElem?_map] at h
  cases e : os[k]? with
  | none => rw [e] at h; cases h
  | some t => rw [e] at h; exact ⟨t, rfl, (Option.some.inj h).symm⟩
theorem flt_step {α β : Type} (P : α → Bool) (g : α → β) {os : List α} {k : Nat} {v : α} (h : os[k]? = some v) : ((os.take (k + 1)).filter P).map g = ((os.take k).filter P).map g ++ (if P v = true then [g v] else []) := by
  obtain ⟨hk, e⟩ := List.getElem?_eq_some_iff.mp h
  rw [List.take_succ, h, List.filter_append, List.map_append]
  congr 1
  show List.map g (List.filter P [v]) = _
  by_cases z : P v = true
  · rw [List.filter_cons_of_pos z, if_pos z] <;> rfl
  · rw [List.filter_cons_of_neg z, if_neg z] <;> rfl
theorem bk_im {p q k : Int} (h : Tn p q k) (x y : Int) : nrr (lgA p q k * x + lgB p q k * y) (cc p q) = imX p (-q) (-k % 4) x y ∧ nrr (lgA p q k * y - lgB p q k * x) (cc p q) = imY p (-q) (-k % 4) x y := by
  unfold imX imY
  rw [(lg_back h x y).1, (lg_back h x y).2, cc_neg] <;> exact ⟨rfl, rfl⟩
def con_came : Con := fun ds S Q => ∃ p q k x y : Int, ds = [.tup [.int p, .int q, .int k], .tup [.int x, .int y]] ∧ Tn p q k ∧ (Bd 300 x ∧ Bd 300 y) ∧ Q (.lst ((srcL p q k x y).map pr2)) S
def con_comesb : Con := fun ds S Q => ∃ p q k x y : Int, ds = [.tup [.int p, .int q, .int k], .tup [.int x, .int y]] ∧ Tn p q k ∧ (Bd 300 x ∧ Bd 300 y) ∧ Q (.bl (cbB p q k x y)) S
/-- the pixel that meets another one, or none -/
def MeetD (p q k x y : Int) (d : D) : Prop := (d = .non ∧ ∀ z w, imX p q k z w = imX p q k x y → imY p q k z w = imY p q k x y → z = x ∧ w = y) ∨ ∃ z w, d = .tup [.int z, .int w] ∧ ¬ (z = x ∧ w = y) ∧ imX p q k z w = imX p q k x y ∧ imY p q k z w = imY p q k x y
def con_meeting : Con := fun ds S Q => ∃ p q k x y : Int, ds = [.tup [.int p, .int q, .int k], .tup [.int x, .int y]] ∧ Tn p q k ∧ (Bd 190 x ∧ Bd 190 y) ∧ ∀ d, MeetD p q k x y d → Q d S
def meetN (d : D) : Bool := match d with | .non => true | _ => false
theorem meet_nonB {p q k x y : Int} {d : D} (h : MeetD p q k x y d) : nonB d = some (meetN d) := by
  rcases h with ⟨rfl, _⟩ | ⟨z, w, rfl, _⟩ <;> rfl
theorem meet_some {p q k x y : Int} {d : D} (h : MeetD p q k x y d) (n : meetN d = false) : ∃ z w, d = .tup [.int z, .int w] ∧ ¬ (z = x ∧ w = y) ∧ imX p q k z w = imX p q k x y ∧ imY p q k z w = imY p q k x y := by
  rcases h with ⟨rfl, _⟩ | h
  · cases n
  · exact h
theorem meet_bd {p q k x y z w : Int} {n : Nat} (h : Tn p q k) (e1 : imX p q k z w = imX p q k x y) (e2 : imY p q k z w = imY p q k x y) (bx : Bd n x) (by' : Bd n y) (hn : 1 ≤ n) : Bd (n + 1) z ∧ Bd (n + 1) w := by
  have d := im_same h e1 e2
  have l1 : Bd 1 1 := by unfold Bd; decide
  have b1 : Bd (n + 1) (x + 1) := (bx.add l1).up (by omega)
  have b2 : Bd (n + 1) (x - 1) := (bx.sub l1).up (by omega)
  have b3 : Bd (n + 1) (y + 1) := (by'.add l1).up (by omega)
  have b4 : Bd (n + 1) (y - 1) := (by'.sub l1).up (by omega)
  rcases d with ⟨a, b⟩ | ⟨a, b⟩ | ⟨a, b⟩ | ⟨a, b⟩ | ⟨a, b⟩ <;> rw [a, b] <;> first | exact ⟨bx.up (by omega), by'.up (by omega)⟩ | exact ⟨b1, by'.up (by omega)⟩ | exact ⟨b2, by'.up (by omega)⟩ | exact ⟨bx.up (by omega), b3⟩ | exact ⟨bx.up (by omega), b4⟩
def con_due21 : Con := fun ds S Q => ∃ p q k x y : Int, ds = [.tup [.int p, .int q, .int k], .tup [.int x, .int y]] ∧ Tn p q k ∧ (Bd 170 x ∧ Bd 170 y) ∧ Q (.bl (cbB p q k x y)) S
def con_r21 : Con := fun ds S Q => ∃ p q k x y : Int, ds = [.tup [.int p, .int q, .int k], .tup [.int x, .int y]] ∧ Tn p q k ∧ (Bd 170 x ∧ Bd 170 y) ∧ Q (.bl true) S
/-- the law's own reckoning by the rest -/
theorem due_rest {p q k : Int} (h : Tn p q k) (x y m : Int) (h1 : m ∈ [2 * absI (p * reX p q x y - -q * reY p q x y), 2 * absI (p * reY p q x y + -q * reX p q x y)]) (h2 : ∀ y', y' ∈ [2 * absI (p * reX p q x y - -q * reY p q x y), 2 * absI (p * reY p q x y + -q * reX p q x y)] → y' ≤ m) : decide (m < p * p + q * q) = cbB p q k x y := by
  unfold cbB
  refine decide_eq_decide.mpr ?_
  rw [back_iff h x y]
  have g1 := h2 _ (List.mem_cons_self ..)
  have g2 := h2 _ (List.mem_cons_of_mem _ (List.mem_cons_self ..))
  have e1 : p * reX p q x y - -q * reY p q x y = p * reX p q x y + q * reY p q x y := by grind
  have e2 : p * reY p q x y + -q * reX p q x y = p * reY p q x y - q * reX p q x y := by grind
  rw [e1] at h1 g1
  rw [e2] at h1 g2
  simp only [List.mem_cons, List.not_mem_nil, or_false] at h1
  unfold isC absI cc at *
  constructor
  · intro z
    refine ⟨⟨?_, ?_⟩, ?_, ?_⟩ <;> (split at g1 <;> split at g2 <;> omega)
  · rintro ⟨⟨z1, z2⟩, z3, z4⟩
    rcases h1 with rfl | rfl <;> (split <;> omega)
theorem cb4 (p q k x y : Int) : decide (imX p (-q) ((4 - k) % 4) (imX p q k x y) (imY p q k x y) = x ∧ imY p (-q) ((4 - k) % 4) (imX p q k x y) (imY p q k x y) = y) = cbB p q k x y := by
  unfold cbB
  rw [show -k % 4 = (4 - k) % 4 by omega]
theorem t2_dec {v : Bool} {a b c d : Int} (h : v = true ↔ a = c ∧ b = d) : v = decide (a = c ∧ b = d) := by
  cases v
  · exact (decide_eq_false fun z => Bool.false_ne_true (h.mpr z)).symm
  · exact (decide_eq_true (h.mp rfl)).symm
theorem told21 : D.lst (([(4, 0), (5, 0), (0, 0)].map fun t : Int × Int => D.bl (cbB 4 1 0 t.1 t.2)).take 3 ++ [D.bl (cbB 2 1 2 (10 ^ (Int.toNat 44)) (-7))]) = D.lst [.bl true, .bl false, .bl true, .bl true] := by
  show D.lst [.bl (cbB 4 1 0 4 0), .bl (cbB 4 1 0 5 0), .bl (cbB 4 1 0 0 0), .bl (cbB 2 1 2 (10 ^ (Int.toNat 44)) (-7))] = _
  rw [show cbB 4 1 0 4 0 = true by decide +kernel, show cbB 4 1 0 5 0 = false by decide +kernel, show cbB 4 1 0 0 0 = true by decide +kernel, show cbB 2 1 2 (10 ^ (Int.toNat 44)) (-7) = true by decide +kernel] <;> rfl
theorem ar5_bd {t : Int × Int} (h : t ∈ ar5) : Bd 1 t.1 ∧ Bd 1 t.2 := by
  simp only [ar5, List.mem_cons, List.not_mem_nil, or_false] at h
  unfold Bd
  rcases h with rfl | rfl | rfl | rfl | rfl <;> decide
theorem srcA_at {p q k x y i j : Int} {n : Nat} (h : ar5[n]? = some (i, j)) : (srcA p q k x y)[n]? = some (imX p (-q) (-k % 4) x y + i, imY p (-q) (-k % 4) x y + j) := by
  unfold srcA
  rw [List.getElem?_map, h] <;> rfl
theorem srcL_take (p q k x y : Int) : srcL p q k x y = ((srcA p q k x y).take 5).filter (fS p q k x y) := rfl
theorem far_two {p q k r s x y i j : Int} (h : Tn p q k) (z : fS p q k x y (r + i, s + j) = true) : (if lgA p q k * r - lgB p q k * s - cc p q * x + lgA p q k * i - lgB p q k * j < 0 then -(lgA p q k * r - lgB p q k * s - cc p q * x + lgA p q k * i - lgB p q k * j) else lgA p q k * r - lgB p q k * s - cc p q * x + lgA p q k * i - lgB p q k * j) ≤ (cc p q - 1) / 2 ∧ (if lgB p q k * r + lgA p q k * s - cc p q * y + lgB p q k * i + lgA p q k * j < 0 then -(lgB p q k * r + lgA p q k * s - cc p q * y + lgB p q k * i + lgA p q k * j) else lgB p q k * r + lgA p q k * s - cc p q * y + lgB p q k * i + lgA p q k * j) ≤ (cc p q - 1) / 2 := by
  have t := (far_iff (x := x) (y := y) h).mpr (of_decide_eq_true z)
  rw [(far_step r s i j).1, (far_step r s i j).2] at t
  unfold absI at t
  rw [show lgA p q k * r - lgB p q k * s - cc p q * x + lgA p q k * i - lgB p q k * j = lgA p q k * r - lgB p q k * s + lgA p q k * i - lgB p q k * j - cc p q * x by omega, show lgB p q k * r + lgA p q k * s - cc p q * y + lgB p q k * i + lgA p q k * j = lgB p q k * r + lgA p q k * s + lgB p q k * i + lgA p q k * j - cc p q * y by omega]
  exact t
theorem far_one {p q k r s x y i j : Int} (h : Tn p q k) (z1 : (if lgA p q k * r - lgB p q k * s - cc p q * x + lgA p q k * i - lgB p q k * j < 0 then -(lgA p q k * r - lgB p q k * s - cc p q * x + lgA p q k * i - lgB p q k * j) else lgA p q k * r - lgB p q k * s - cc p q * x + lgA p q k * i - lgB p q k * j) ≤ (cc p q - 1) / 2) (z2 : (if lgB p q k * r + lgA p q k * s - cc p q * y + lgB p q k * i + lgA p q k * j < 0 then -(lgB p q k * r + lgA p q k * s - cc p q * y + lgB p q k * i + lgA p q k * j) else lgB p q k * r + lgA p q k * s - cc p q * y + lgB p q k * i + lgA p q k * j) ≤ (cc p q - 1) / 2) : fS p q k x y (r + i, s + j) = true := by
  refine decide_eq_true ((far_iff (x := x) (y := y) h).mp ?_)
  rw [(far_step r s i j).1, (far_step r s i j).2]
  unfold absI
  rw [show lgA p q k * r - lgB p q k * s - cc p q * x + lgA p q k * i - lgB p q k * j = lgA p q k * r - lgB p q k * s + lgA p q k * i - lgB p q k * j - cc p q * x by omega] at z1
  rw [show lgB p q k * r + lgA p q k * s - cc p q * y + lgB p q k * i + lgA p q k * j = lgB p q k * r + lgA p q k * s + lgB p q k * i + lgA p q k * j - cc p q * y by omega] at z2
  exact ⟨z1, z2⟩
theorem rest_bd2 {p q x y v : Int} (b1 : Bd 50 p) (b2 : Bd 50 q) (bx : Bd 170 x) (by' : Bd 170 y) (h : v ∈ [p * reX p q x y - -q * reY p q x y, p * reY p q x y + -q * reX p q x y]) : Bd 450 v := by
  have r1 := Bd.reX b1 b2 bx by'
  have r2 := Bd.reY b1 b2 bx by'
  simp only [List.mem_cons, List.not_mem_nil, or_false] at h
  rcases h with rfl | rfl
  · exact ((b1.mul r1).sub (b2.neg.mul r2)).up (by decide)
  · exact ((b1.mul r2).add (b2.neg.mul r1)).up (by decide)

end Tp
namespace Tp
open PySem PySem.Spec PyProof.Rows L2 DL
/-! ### the gaps between the exact places -/
theorem gap_E {a b c D E s t : Int} (ha : 0 < a) (hb : 0 < b) (hc : 0 < c) (hs : a * a + b * b = c * c) (h1 : c * s = a * D + b * E) (h2 : c * t = a * E - b * D) (s1 : -c ≤ s) (s2 : s ≤ c) (t1 : -c ≤ t) (t2 : t ≤ c) (hD : a + b - c < D) :
    ∃ m n : Int, (m = 1 ∨ m = -1) ∧ (n = 1 ∨ n = -1) ∧ (-c < D - (a * m - b * n) ∧ D - (a * m - b * n) < c) ∧ -c < E - (b * m + a * n) ∧ E - (b * m + a * n) < c := by
  have e1 : c * (a * s - b * t) = c * (c * D) := by
    have : c * (a * s - b * t) = a * (c * s) - b * (c * t) := by grind
    rw [this, h1, h2]; grind
  have e2 : c * (b * s + a * t) = c * (c * E) := by
    have : c * (b * s + a * t) = b * (c * s) + a * (c * t) := by grind
    rw [this, h1, h2]; grind
  have f1 : a * s - b * t = c * D := Int.eq_of_mul_eq_mul_left (by omega) e1
  have f2 : b * s + a * t = c * E := Int.eq_of_mul_eq_mul_left (by omega) e2
  have la : a < c := by
    refine Decidable.byContradiction fun z => ?_
    have : c * c ≤ a * a := Int.mul_le_mul (by omega) (by omega) (by omega) (by omega)
    have : 0 < b * b := Int.mul_pos hb hb
    omega
  have lb : b < c := by
    refine Decidable.byContradiction fun z => ?_
    have : c * c ≤ b * b := Int.mul_le_mul (by omega) (by omega) (by omega) (by omega)
    have : 0 < a * a := Int.mul_pos ha ha
    omega
  have as2 : a * s ≤ a * c := Int.mul_le_mul_of_nonneg_left s2 (by omega)
  have as1 : a * -c ≤ a * s := Int.mul_le_mul_of_nonneg_left s1 (by omega)
  have bs2 : b * s ≤ b * c := Int.mul_le_mul_of_nonneg_left s2 (by omega)
  have bs1 : b * -c ≤ b * s := Int.mul_le_mul_of_nonneg_left s1 (by omega)
  have at2 : a * t ≤ a * c := Int.mul_le_mul_of_nonneg_left t2 (by omega)
  have at1 : a * -c ≤ a * t := Int.mul_le_mul_of_nonneg_left t1 (by omega)
  have bt2 : b * t ≤ b * c := Int.mul_le_mul_of_nonneg_left t2 (by omega)
  have bt1 : b * -c ≤ b * t := Int.mul_le_mul_of_nonneg_left t1 (by omega)
  have ec : ∀ u : Int, u * -c = -(c * u) := fun u => by grind
  have ed : ∀ u : Int, u * c = c * u := fun u => Int.mul_comm _ _
  rw [ec] at as1 bs1 at1 bt1
  rw [ed] at as2 bs2 at2 bt2
  have D2 : D ≤ a + b := by
    refine Int.le_of_mul_le_mul_left (a := c) ?_ hc
    rw [Int.mul_add]; omega
  have E2 : E ≤ a + b := by
    refine Int.le_of_mul_le_mul_left (a := c) ?_ hc
    rw [Int.mul_add]; omega
  have E1 : -(a + b) ≤ E := by
    refine Int.le_of_mul_le_mul_left (a := c) ?_ hc
    rw [Int.mul_neg, Int.mul_add]; omega
  have k0 : 2 * (a * b) ≤ c * c := by
    have : 0 ≤ (a - b) * (a - b) := by
      rcases Int.le_total 0 (a - b) with z | z
      · exact Int.mul_nonneg z z
      · exact Int.mul_nonneg_of_nonpos_of_nonpos z z
    have : (a - b) * (a - b) = a * a + b * b - 2 * (a * b) := by grind
    omega
  have k1 : c < a + b := by
    refine Decidable.byContradiction fun z => ?_
    have : (a + b) * (a + b) ≤ c * c := Int.mul_le_mul (by omega) (by omega) (by omega) (by omega)
    have : (a + b) * (a + b) = a * a + b * b + 2 * (a * b) := by grind
    have : 0 < a * b := Int.mul_pos ha hb
    omega
  have k2 : 2 * (a * b) < c * (a + b) := by
    have : c * c < c * (a + b) := Int.mul_lt_mul_of_pos_left k1 hc
    omega
  by_cases u1 : E - (b - a) < c
  · by_cases u2 : -c < E - (b - a)
    · exact ⟨1, -1, .inl rfl, .inr rfl, ⟨by omega, by omega⟩, by omega, by omega⟩
    · -- S: m = -1, n = -1
      refine ⟨-1, -1, .inr rfl, .inr rfl, ⟨by omega, ?_⟩, by omega, by omega⟩
      have g1 : b * D ≤ c * c + a * E := by
        have : c * -c ≤ c * t := Int.mul_le_mul_of_nonneg_left t1 (by omega)
        rw [Int.mul_neg] at this
        omega
      have g2 : a * E ≤ a * (b - a - c) := Int.mul_le_mul_of_nonneg_left (by omega) (by omega)
      have g3 : a * (b - a - c) = a * b - a * a - a * c := by grind
      refine Int.lt_of_mul_lt_mul_left (a := b) ?_ (by omega)
      have g4 : b * c + a * c = c * (a + b) := by grind
      have g5 : b * (D - (a * -1 - b * -1)) = b * D + a * b - b * b := by grind
      rw [g5]; omega
  · refine ⟨1, 1, .inl rfl, .inl rfl, ⟨by omega, ?_⟩, by omega, by omega⟩
    have g1 : a * D ≤ c * c - b * E := by
      have : c * s ≤ c * c := Int.mul_le_mul_of_nonneg_left s2 (by omega)
      omega
    have g2 : b * (b - a + c) ≤ b * E := Int.mul_le_mul_of_nonneg_left (by omega) (by omega)
    have g3 : b * (b - a + c) = b * b - a * b + b * c := by grind
    refine Int.lt_of_mul_lt_mul_left (a := a) ?_ (by omega)
    have g4 : b * c + a * c = c * (a + b) := by grind
    have g5 : a * (D - (a * 1 - b * 1)) = a * D - a * a + a * b := by grind
    rw [g5]; omega
/-- the four ways a point lies out of the gap -/
def Hit (a b c D E : Int) : Prop := ∃ m n : Int, (m = 1 ∨ m = -1) ∧ (n = 1 ∨ n = -1) ∧ (-c < D - (a * m - b * n) ∧ D - (a * m - b * n) < c) ∧ -c < E - (b * m + a * n) ∧ E - (b * m + a * n) < c
theorem Hit.rot {a b c D E : Int} (h : Hit a b c E (-D)) : Hit a b c D E := by
  obtain ⟨m, n, hm, hn, h1, h2⟩ := h
  refine ⟨-n, m, by omega, hm, ?_⟩
  have e1 : D - (a * -n - b * m) = -(-D - (b * m + a * n)) := by grind
  have e2 : E - (b * -n + a * m) = E - (a * m - b * n) := by grind
  rw [e1, e2]; omega
theorem Hit.turn {a b c D E : Int} (h : Hit b (-a) c D E) : Hit a b c D E := by
  obtain ⟨m, n, hm, hn, h1, h2⟩ := h
  refine ⟨n, -m, hn, by omega, ?_⟩
  have e1 : D - (a * n - b * -m) = D - (b * m - -a * n) := by grind
  have e2 : E - (b * n + a * -m) = E - (-a * m + b * n) := by grind
  rw [e1, e2]; omega
theorem gap_pos4 {a b c D E s t : Int} (ha : 0 < a) (hb : 0 < b) (hc : 0 < c) (hs : a * a + b * b = c * c) (h1 : c * s = a * D + b * E) (h2 : c * t = a * E - b * D) (s1 : -c ≤ s ∧ s ≤ c) (t1 : -c ≤ t ∧ t ≤ c)
    (hD : a + b - c < D ∨ a + b - c < -D ∨ a + b - c < E ∨ a + b - c < -E) : Hit a b c D E := by
  rcases hD with h | h | h | h
  · exact gap_E ha hb hc hs h1 h2 s1.1 s1.2 t1.1 t1.2 h
  · refine Hit.rot (Hit.rot ?_)
    exact gap_E (s := -s) (t := -t) ha hb hc hs (by grind) (by grind) (by omega) (by omega) (by omega) (by omega) h
  · refine Hit.rot ?_
    exact gap_E (s := t) (t := -s) ha hb hc hs (by grind) (by grind) (by omega) (by omega) (by omega) (by omega) h
  · refine Hit.rot (Hit.rot (Hit.rot ?_))
    exact gap_E (s := -t) (t := s) ha hb hc hs (by grind) (by grind) (by omega) (by omega) (by omega) (by omega) h
theorem gap_all {a b c D E s t : Int} (ha : a ≠ 0) (hb : b ≠ 0) (hc : 0 < c) (hs : a * a + b * b = c * c) (h1 : c * s = a * D + b * E) (h2 : c * t = a * E - b * D) (s1 : -c ≤ s ∧ s ≤ c) (t1 : -c ≤ t ∧ t ≤ c)
    (hD : absI a + absI b - c < D ∨ absI a + absI b - c < -D ∨ absI a + absI b - c < E ∨ absI a + absI b - c < -E) : Hit a b c D E := by
  unfold absI at hD
  rcases (by omega : 0 < a ∨ a < 0) with za | za <;> rcases (by omega : 0 < b ∨ b < 0) with zb | zb
  · rw [if_neg (by omega), if_neg (by omega)] at hD
    exact gap_pos4 za zb hc hs h1 h2 s1 t1 hD
  · rw [if_neg (by omega), if_pos (by omega)] at hD
    refine Hit.turn (Hit.turn (Hit.turn ?_))
    rw [Int.neg_neg]
    exact gap_pos4 (s := t) (t := -s) (by omega) za hc (by grind) (by grind) (by grind) t1 (by omega) (by omega)
  · rw [if_pos (by omega), if_neg (by omega)] at hD
    refine Hit.turn ?_
    exact gap_pos4 (s := -t) (t := s) zb (by omega) hc (by grind) (by grind) (by grind) (by omega) s1 (by omega)
  · rw [if_pos (by omega), if_pos (by omega)] at hD
    refine Hit.turn (Hit.turn ?_)
    exact gap_pos4 (s := -s) (t := -t) (by omega) (by omega) hc (by grind) (by grind) (by grind) (by omega) (by omega) (by omega)

theorem odd_far4 {a b D E m n c : Int} (hm : m % 2 = 1) (hn : n % 2 = 1) (h1 : c + D < absI a + absI b) (h2 : c - D < absI a + absI b) (h3 : c + E < absI a + absI b) (h4 : c - E < absI a + absI b) :
    ¬ ((-c < D - (a * m - b * n) ∧ D - (a * m - b * n) < c) ∧ -c < E - (b * m + a * n) ∧ E - (b * m + a * n) < c) := by
  unfold absI at h1 h2 h3 h4
  by_cases za : a < 0 <;> by_cases zb : b < 0
  · rw [if_pos za, if_pos zb] at h1 h2 h3 h4
    have := odd_far (a := -a) (b := -b) (s := D) (t := E) (A := -m) (B := -n) (c := c) (by omega) (by omega) (by omega) (by omega) h1 h2 h3 h4
    rw [show -a * -m - -b * -n = a * m - b * n by grind, show -a * -n + -b * -m = b * m + a * n by grind] at this
    exact this
  · rw [if_pos za, if_neg zb] at h1 h2 h3 h4
    have := odd_far (a := b) (b := -a) (s := D) (t := E) (A := -n) (B := m) (c := c) (by omega) (by omega) (by omega) (by omega) (by omega) (by omega) (by omega) (by omega)
    rw [show b * -n - -a * m = a * m - b * n by grind, show b * m + -a * -n = b * m + a * n by grind] at this
    exact this
  · rw [if_neg za, if_pos zb] at h1 h2 h3 h4
    have := odd_far (a := -b) (b := a) (s := D) (t := E) (A := n) (B := -m) (c := c) (by omega) (by omega) (by omega) (by omega) (by omega) (by omega) (by omega) (by omega)
    rw [show -b * n - a * -m = a * m - b * n by grind, show -b * -m + a * n = b * m + a * n by grind] at this
    exact this
  · rw [if_neg za, if_neg zb] at h1 h2 h3 h4
    have := odd_far (a := a) (b := b) (s := D) (t := E) (A := m) (B := n) (c := c) (by omega) (by omega) (by omega) (by omega) h1 h2 h3 h4
    rw [show a * n + b * m = b * m + a * n by grind] at this
    exact this
theorem absI_neg (x : Int) : absI (-x) = absI x := by unfold absI; split <;> split <;> omega
theorem absI_pos {x : Int} (h : 0 < x) : absI x = x := by unfold absI; split <;> omega
theorem lie_ring {a b c x y f g : Int} (hs : a * a + b * b = c * c) : c * (2 * (a * x + b * y) - c * (2 * f + 1)) = a * (2 * (c * x) - (a * (2 * f + 1) - b * (2 * g + 1))) + b * (2 * (c * y) - (b * (2 * f + 1) + a * (2 * g + 1))) ∧ c * (2 * (a * y - b * x) - c * (2 * g + 1)) = a * (2 * (c * y) - (b * (2 * f + 1) + a * (2 * g + 1))) - b * (2 * (c * x) - (a * (2 * f + 1) - b * (2 * g + 1))) := by
  have h1 : (a * a + b * b) * (2 * f + 1) = c * c * (2 * f + 1) := by rw [hs]
  have h2 : (a * a + b * b) * (2 * g + 1) = c * c * (2 * g + 1) := by rw [hs]
  clear hs
  constructor <;> grind
def gapI (p q : Int) : Int := 2 * absI q * (p - absI q)
theorem lg_or {p q k : Int} (h : Tn p q k) : (absI (lgA p q k) = p * p - q * q ∧ absI (lgB p q k) = absI (p * q + q * p)) ∨ (absI (lgB p q k) = p * p - q * q ∧ absI (lgA p q k) = absI (p * q + q * p)) := by
  have a0 : 0 < p * p - q * q := by
    have : p * p - q * q = (p - q) * (p + q) := by grind
    rw [this]
    exact Int.mul_pos (by have := h.q2; omega) (by have := h.q1; omega)
  unfold lgA lgB
  generalize p * p - q * q = a at *
  generalize p * q + q * p = b at *
  rcases four ⟨h.k1, by have := h.k2; omega⟩ with g | g | g | g <;> subst g <;> simp only [show (0 : Int).toNat = 0 from rfl, show (1 : Int).toNat = 1 from rfl, show (2 : Int).toNat = 2 from rfl, show (3 : Int).toNat = 3 from rfl, rtX, rtY, absI_neg, absI_pos a0, and_self, true_or, or_true]
theorem gap_eq {p q k : Int} (h : Tn p q k) : absI (lgA p q k) + absI (lgB p q k) - cc p q = gapI p q := by
  have e : p * p - q * q + absI (p * q + q * p) - cc p q = gapI p q := by
    unfold gapI cc absI
    have hp := h.p1
    by_cases z : q < 0
    · have : p * q + q * p < 0 := by
        have : p * q < 0 := Int.mul_neg_of_pos_of_neg (by omega) z
        have e2 : q * p = p * q := Int.mul_comm _ _
        omega
      rw [if_pos this, if_pos z]; grind
    · have : ¬ p * q + q * p < 0 := by
        have : 0 ≤ p * q := Int.mul_nonneg (by omega) (by omega)
        have e2 : q * p = p * q := Int.mul_comm _ _
        omega
      rw [if_neg this, if_neg z]; grind
  rcases lg_or h with ⟨e1, e2⟩ | ⟨e1, e2⟩ <;> rw [e1, e2] <;> omega
theorem lg_odd {p q k : Int} (h : Tn p q k) : (lgA p q k + lgB p q k) % 2 = 1 := by
  have a0 : (p * p - q * q) % 2 = 1 := by
    have e : p * p - q * q = (p - q) * (p + q) := by grind
    rw [e, Int.mul_emod, h.o, show (p - q) % 2 = 1 by have := h.o; omega] <;> rfl
  have b0 : (p * q + q * p) % 2 = 0 := by
    have e2 : q * p = p * q := Int.mul_comm _ _
    omega
  unfold lgA lgB
  generalize p * p - q * q = a at *
  generalize p * q + q * p = b at *
  rcases four ⟨h.k1, by have := h.k2; omega⟩ with g | g | g | g <;> subst g <;> simp only [show (0 : Int).toNat = 0 from rfl, show (1 : Int).toNat = 1 from rfl, show (2 : Int).toNat = 2 from rfl, show (3 : Int).toNat = 3 from rfl, rtX, rtY] <;> omega
theorem lg_ne {p q k : Int} (h : Tn p q k) (hq : q ≠ 0) : lgA p q k ≠ 0 ∧ lgB p q k ≠ 0 := by
  have a0 : 0 < p * p - q * q := by
    have : p * p - q * q = (p - q) * (p + q) := by grind
    rw [this]
    exact Int.mul_pos (by have := h.q2; omega) (by have := h.q1; omega)
  have b0 : p * q + q * p ≠ 0 := by
    have e2 : q * p = p * q := Int.mul_comm _ _
    have : p * q ≠ 0 := Int.mul_ne_zero (by have := h.p1; omega) hq
    omega
  have n : ∀ x : Int, x = 0 ↔ absI x = 0 := fun x => by unfold absI; split <;> omega
  have b1 : absI (p * q + q * p) ≠ 0 := fun z => b0 ((n _).mpr z)
  rcases lg_or h with ⟨e1, e2⟩ | ⟨e1, e2⟩
  · exact ⟨fun z => by rw [n, e1] at z; omega, fun z => by rw [n, e2] at z; exact b1 z⟩
  · exact ⟨fun z => by rw [n, e2] at z; exact b1 z, fun z => by rw [n, e1] at z; omega⟩
/-- what the program's own reckoning by the gaps says -/
def lieD (a b c x r s : Int) : Int := 2 * c * x - a * r + b * s
def lieE (a b c y r s : Int) : Int := 2 * c * y - b * r - a * s
theorem absI_lt {x g : Int} : absI x < g ↔ x < g ∧ -x < g := by unfold absI; split <;> omega
theorem gap_iff {p q k : Int} (h : Tn p q k) (x y : Int) : (absI (lieD (lgA p q k) (lgB p q k) (cc p q) x (2 * ((lgA p q k * x + lgB p q k * y) / cc p q) + 1) (2 * ((lgA p q k * y - lgB p q k * x) / cc p q) + 1)) < gapI p q ∧ absI (lieE (lgA p q k) (lgB p q k) (cc p q) y (2 * ((lgA p q k * x + lgB p q k * y) / cc p q) + 1) (2 * ((lgA p q k * y - lgB p q k * x) / cc p q) + 1)) < gapI p q) ↔ bareP p q k x y := by
  have hc := cc_pos h
  have ho := cc_odd h
  have hsq := lg_sq2 (p := p) (q := q) k
  have hodd := lg_odd h
  have hge := gap_eq h
  have hne := lg_ne h
  have hev : gapI p q % 2 = 0 := by unfold gapI; rw [Int.mul_assoc]; omega
  have img : ∀ z w : Int, (imX p q k z w = x ∧ imY p q k z w = y) ↔ (-(cc p q) < 2 * (cc p q * x - exX p q k z w) ∧ 2 * (cc p q * x - exX p q k z w) < cc p q) ∧ -(cc p q) < 2 * (cc p q * y - exY p q k z w) ∧ 2 * (cc p q * y - exY p q k z w) < cc p q := fun z w => by
    have t1 := nrr_iff (c := cc p q) (r := cc p q * x - exX p q k z w) (x := x) ho hc
    have t2 := nrr_iff (c := cc p q) (r := cc p q * y - exY p q k z w) (x := y) ho hc
    rw [show cc p q * x - (cc p q * x - exX p q k z w) = exX p q k z w by omega] at t1
    rw [show cc p q * y - (cc p q * y - exY p q k z w) = exY p q k z w by omega] at t2
    unfold imX imY
    exact and_congr t1 t2
  have hex : ∀ z w : Int, exX p q k z w = lgA p q k * z - lgB p q k * w ∧ exY p q k z w = lgB p q k * z + lgA p q k * w := fun z w => by
    unfold exX exY
    constructor <;> omega
  unfold bareP
  have e1 := Int.emod_add_mul_ediv (lgA p q k * x + lgB p q k * y) (cc p q)
  have e2 := Int.emod_add_mul_ediv (lgA p q k * y - lgB p q k * x) (cc p q)
  have r1 := Int.emod_nonneg (lgA p q k * x + lgB p q k * y) (show cc p q ≠ 0 by omega)
  have r2 := Int.emod_nonneg (lgA p q k * y - lgB p q k * x) (show cc p q ≠ 0 by omega)
  have r3 := Int.emod_lt_of_pos (lgA p q k * x + lgB p q k * y) hc
  have r4 := Int.emod_lt_of_pos (lgA p q k * y - lgB p q k * x) hc
  generalize (lgA p q k * x + lgB p q k * y) % cc p q = m1 at *
  generalize (lgA p q k * y - lgB p q k * x) % cc p q = m2 at *
  generalize (lgA p q k * x + lgB p q k * y) / cc p q = f at *
  generalize (lgA p q k * y - lgB p q k * x) / cc p q = g at *
  have key : q ≠ 0 → ∀ z w : Int, exX p q k z w = lgA p q k * z - lgB p q k * w ∧ exY p q k z w = lgB p q k * z + lgA p q k * w := fun _ => hex
  obtain ⟨D, hD⟩ : ∃ D, D = lieD (lgA p q k) (lgB p q k) (cc p q) x (2 * f + 1) (2 * g + 1) := ⟨_, rfl⟩
  obtain ⟨E, hE⟩ : ∃ E, E = lieE (lgA p q k) (lgB p q k) (cc p q) y (2 * f + 1) (2 * g + 1) := ⟨_, rfl⟩
  rw [← hD, ← hE]
  have hD' : D = 2 * (cc p q * x) - (lgA p q k * (2 * f + 1) - lgB p q k * (2 * g + 1)) := by rw [hD]; unfold lieD; grind
  have hE' : E = 2 * (cc p q * y) - (lgB p q k * (2 * f + 1) + lgA p q k * (2 * g + 1)) := by rw [hE]; unfold lieE; grind
  clear hD hE
  constructor
  · rintro ⟨g1, g2⟩ z w hi
    rw [absI_lt] at g1 g2
    have hi := (img z w).mp hi
    rw [(hex z w).1, (hex z w).2] at hi
    refine odd_far4 (a := lgA p q k) (b := lgB p q k) (D := D) (E := E) (m := 2 * (z - f) - 1) (n := 2 * (w - g) - 1) (c := cc p q) (by omega) (by omega) (by omega) (by omega) (by omega) (by omega) ?_
    have u1 : D - (lgA p q k * (2 * (z - f) - 1) - lgB p q k * (2 * (w - g) - 1)) = 2 * (cc p q * x - (lgA p q k * z - lgB p q k * w)) := by rw [hD']; grind
    have u2 : E - (lgB p q k * (2 * (z - f) - 1) + lgA p q k * (2 * (w - g) - 1)) = 2 * (cc p q * y - (lgB p q k * z + lgA p q k * w)) := by rw [hE']; grind
    rw [u1, u2]
    exact hi
  · intro hb
    refine Decidable.byContradiction fun hno => ?_
    rw [absI_lt, absI_lt] at hno
    by_cases hq : q = 0
    · -- a turn by quarters alone
      have hp1 : p = 1 := by
        have g := h.g
        rw [hq, show (0 : Int).natAbs = 0 from rfl, Nat.gcd_zero_right] at g
        have := h.p1
        omega
      have c1 : cc p q = 1 := by unfold cc; rw [hq, hp1] <;> rfl
      rw [c1] at hsq
      refine hb (lgA p q k * x + lgB p q k * y) (lgA p q k * y - lgB p q k * x) ((img _ _).mpr ?_)
      rw [(hex _ _).1, (hex _ _).2, c1]
      have u1 : lgA p q k * (lgA p q k * x + lgB p q k * y) - lgB p q k * (lgA p q k * y - lgB p q k * x) = (lgA p q k * lgA p q k + lgB p q k * lgB p q k) * x := by grind
      have u2 : lgB p q k * (lgA p q k * x + lgB p q k * y) + lgA p q k * (lgA p q k * y - lgB p q k * x) = (lgA p q k * lgA p q k + lgB p q k * lgB p q k) * y := by grind
      rw [u1, u2, hsq]
      omega
    · have pD : D % 2 = 1 := by
        have u : lgA p q k * (2 * f + 1) - lgB p q k * (2 * g + 1) = 2 * (lgA p q k * f - lgB p q k * g) + (lgA p q k - lgB p q k) := by grind
        rw [hD', u]; omega
      have pE : E % 2 = 1 := by
        have u : lgB p q k * (2 * f + 1) + lgA p q k * (2 * g + 1) = 2 * (lgB p q k * f + lgA p q k * g) + (lgA p q k + lgB p q k) := by grind
        rw [hE', u]; omega
      obtain ⟨m, n, hm, hn, h1, h2⟩ := gap_all (a := lgA p q k) (b := lgB p q k) (c := cc p q) (D := D) (E := E) (s := 2 * (lgA p q k * x + lgB p q k * y) - cc p q * (2 * f + 1)) (t := 2 * (lgA p q k * y - lgB p q k * x) - cc p q * (2 * g + 1)) (hne hq).1 (hne hq).2 hc hsq
        (by rw [hD', hE']; exact (lie_ring hsq).1) (by rw [hD', hE']; exact (lie_ring hsq).2)
        (by have : cc p q * (2 * f + 1) = 2 * (cc p q * f) + cc p q := by grind
            omega)
        (by have : cc p q * (2 * g + 1) = 2 * (cc p q * g) + cc p q := by grind
            omega)
        (by omega)
      obtain ⟨z, hz⟩ : ∃ z, 2 * z = 2 * f + 1 + m := ⟨(2 * f + 1 + m) / 2, by omega⟩
      obtain ⟨w, hw⟩ : ∃ w, 2 * w = 2 * g + 1 + n := ⟨(2 * g + 1 + n) / 2, by omega⟩
      refine hb z w ((img z w).mpr ?_)
      rw [(hex z w).1, (hex z w).2]
      have em : m = 2 * z - (2 * f + 1) := by omega
      have en : n = 2 * w - (2 * g + 1) := by omega
      have u1 : 2 * (cc p q * x - (lgA p q k * z - lgB p q k * w)) = D - (lgA p q k * m - lgB p q k * n) := by rw [hD', em, en]; grind
      have u2 : 2 * (cc p q * y - (lgB p q k * z + lgA p q k * w)) = E - (lgB p q k * m + lgA p q k * n) := by rw [hE', em, en]; grind
      rw [u1, u2]
      exact ⟨h1, h2⟩
def bareB (p q k x y : Int) : Bool := (srcL p q k x y).isEmpty
theorem bareB_iff {p q k : Int} (h : Tn p q k) (x y : Int) : bareB p q k x y = true ↔ bareP p q k x y := by
  unfold bareB bareP
  rw [List.isEmpty_iff]
  constructor
  · intro e z w hi
    have := (srcL_mem h).mpr hi
    rw [e] at this
    cases this
  · intro hb
    refine List.eq_nil_iff_forall_not_mem.mpr fun t ht => ?_
    exact hb t.1 t.2 ((srcL_mem h).mp ht)
/-! ### the law's own lists of pixels around a place -/
def off25 : List (Int × Int) := (List.range 25).map fun k : Nat => (-2 + (k : Int) / 5, -2 + (k : Int) % 5)
def near25 (x y : Int) : List (Int × Int) := off25.map fun t => (x + t.1, y + t.2)
theorem off25_at {i : Nat} (h : i < 25) : off25[i]? = some (-2 + (i : Int) / 5, -2 + (i : Int) % 5) := by
  unfold off25
  rw [List.getElem?_map, List.getElem?_range h] <;> rfl
theorem off25_bd {t : Int × Int} (h : t ∈ off25) : Bd 2 t.1 ∧ Bd 2 t.2 := by
  obtain ⟨i, hi, rfl⟩ := List.mem_map.mp h
  have hi := List.mem_range.mp hi
  unfold Bd
  omega
theorem near25_at {x y : Int} {i : Nat} {t : Int × Int} (h : off25[i]? = some t) : (near25 x y)[i]? = some (x + t.1, y + t.2) := by
  unfold near25
  rw [List.getElem?_map, h] <;> rfl
theorem off25_ar5 : off25.filter (fun t => decide (t ∈ ar5)) = ar5 := by decide +kernel
theorem off25_up : off25.Pairwise fun a b => le2 a b = true := by decide +kernel
theorem off25_nodup : off25.Nodup := by decide +kernel
theorem flt_sub {α : Type} {P R : α → Bool} (l : List α) (h : ∀ t, P t = true → R t = true) : l.filter P = (l.filter R).filter P := by
  rw [List.filter_filter]
  refine List.filter_congr fun t _ => ?_
  cases e : P t with
  | true => rw [h t e] <;> rfl
  | false => rfl
theorem tried_src {p q k : Int} (h : Tn p q k) (x y : Int) : (near25 (imX p (-q) (-k % 4) x y) (imY p (-q) (-k % 4) x y)).filter (fS p q k x y) = srcL p q k x y := by
  unfold srcL srcA near25
  rw [List.filter_map, List.filter_map, flt_sub (R := fun t => decide (t ∈ ar5)) off25 (fun t ht => ?_), off25_ar5]
  have e := of_decide_eq_true ht
  have s := src_near h (imX p (-q) (-k % 4) x y + t.1) (imY p (-q) (-k % 4) x y + t.2)
  rw [e.1, e.2] at s
  refine decide_eq_true ?_
  rw [show ∀ a b : Int, a + b - a = b from fun a b => by omega, show ∀ a b : Int, a + b - a = b from fun a b => by omega] at s
  exact s
theorem near25_up (x y : Int) : (near25 x y).Pairwise fun a b => le2 a b = true := by
  refine List.Pairwise.map _ (fun a b hab => ?_) off25_up
  have := of_decide_eq_true hab
  exact decide_eq_true (by show x + a.1 < x + b.1 ∨ (x + a.1 = x + b.1 ∧ y + a.2 ≤ y + b.2); omega)
theorem near25_sort {x y : Int} (P : Int × Int → Bool) : ((near25 x y).filter P).mergeSort le2 = (near25 x y).filter P := sort2_self ((near25_up x y).filter _)
def con_tried : Con := fun ds S Q => ∃ p q k x y : Int, ds = [.tup [.int p, .int q, .int k], .tup [.int x, .int y]] ∧ Tn p q k ∧ (Bd 300 x ∧ Bd 300 y) ∧ Q (.lst ((srcL p q k x y).map pr2)) S
/-! ### pixels that meet a pixel, of those around -/
def mF (p q k x y : Int) (t : Int × Int) : Bool := decide (¬ (t.1 = x ∧ t.2 = y)) && fS p q k (imX p q k x y) (imY p q k x y) t
def metL (p q k x y : Int) : List (Int × Int) := (near25 x y).filter (mF p q k x y)
theorem met_uniq {p q k x y a b c d : Int} (h : Tn p q k) (n1 : ¬ (a = x ∧ b = y)) (n2 : ¬ (c = x ∧ d = y)) (e1 : imX p q k a b = imX p q k x y) (e2 : imY p q k a b = imY p q k x y) (e3 : imX p q k c d = imX p q k x y) (e4 : imY p q k c d = imY p q k x y) : a = c ∧ b = d := by
  have s1 := im_same h e1 e2
  have s2 := im_same h e3 e4
  have s3 := im_same h (e1.trans e3.symm) (e2.trans e4.symm)
  omega
theorem metL_mem {p q k x y : Int} (h : Tn p q k) {z w : Int} : (z, w) ∈ metL p q k x y ↔ ¬ (z = x ∧ w = y) ∧ imX p q k z w = imX p q k x y ∧ imY p q k z w = imY p q k x y := by
  unfold metL mF fS
  rw [List.mem_filter, Bool.and_eq_true, decide_eq_true_iff, decide_eq_true_iff]
  constructor
  · exact fun z => z.2
  · intro e
    refine ⟨?_, e⟩
    have s := im_same h e.2.1 e.2.2
    refine List.mem_map.mpr ⟨(z - x, w - y), ?_, by show (x + (z - x), y + (w - y)) = (z, w); rw [show ∀ a b : Int, a + (b - a) = b from fun a b => by omega, show ∀ a b : Int, a + (b - a) = b from fun a b => by omega]⟩
    rcases s with ⟨a, b⟩ | ⟨a, b⟩ | ⟨a, b⟩ | ⟨a, b⟩ | ⟨a, b⟩ <;> subst a <;> subst b
    · exact absurd ⟨rfl, rfl⟩ e.1
    · rw [show x + 1 - x = 1 by omega, Int.sub_self]; decide
    · rw [show x - 1 - x = -1 by omega, Int.sub_self]; decide
    · rw [show y + 1 - y = 1 by omega, Int.sub_self]; decide
    · rw [show y - 1 - y = -1 by omega, Int.sub_self]; decide
theorem one_list {α : Type} {l : List α} {t : α} (n : l.Nodup) (m : t ∈ l) (h : ∀ u ∈ l, u = t) : l = [t] := by
  match l, n, m, h with
  | [], _, m, _ => cases m
  | [a], _, _, h => rw [h a (List.mem_singleton.mpr rfl)]
  | a :: b :: r, n, _, h =>
    have e1 := h a List.mem_cons_self
    have e2 := h b (List.mem_cons_of_mem _ List.mem_cons_self)
    rw [List.nodup_cons] at n
    exact absurd (by rw [e1, ← e2]; exact List.mem_cons_self) n.1
theorem near25_nodup (x y : Int) : (near25 x y).Nodup := by
  refine List.Pairwise.map _ (fun a b hab => fun e => hab ?_) off25_nodup
  have e1 := congrArg Prod.fst e
  have e2 := congrArg Prod.snd e
  exact Prod.ext (by simpa using e1) (by simpa using e2)
theorem met_cases {p q k : Int} (h : Tn p q k) (x y : Int) : (metL p q k x y = [] ∧ ∀ d, MeetD p q k x y d → d = .non) ∨ ∃ z w, metL p q k x y = [(z, w)] ∧ (¬ (z = x ∧ w = y) ∧ imX p q k z w = imX p q k x y ∧ imY p q k z w = imY p q k x y) ∧ ∀ d, MeetD p q k x y d → d = .tup [.int z, .int w] := by
  cases e : metL p q k x y with
  | nil =>
    refine .inl ⟨rfl, fun d hd => ?_⟩
    rcases hd with ⟨rfl, _⟩ | ⟨z, w, _, hm⟩
    · rfl
    · have := (metL_mem h).mpr hm
      rw [e] at this
      cases this
  | cons t r =>
    obtain ⟨z, w⟩ := t
    have hm := (metL_mem (z := z) (w := w) h).mp (by rw [e]; exact List.mem_cons_self)
    have u : ∀ u ∈ metL p q k x y, u = (z, w) := fun u hu => by
      have hu := (metL_mem (z := u.1) (w := u.2) h).mp hu
      have := met_uniq h hu.1 hm.1 hu.2.1 hu.2.2 hm.2.1 hm.2.2
      exact Prod.ext this.1 this.2
    have ol := one_list ((near25_nodup x y).filter _) ((metL_mem (z := z) (w := w) h).mpr hm) u
    refine .inr ⟨z, w, by rw [← e]; exact ol, hm, fun d hd => ?_⟩
    rcases hd with ⟨rfl, hn⟩ | ⟨z', w', rfl, hm'⟩
    · exact absurd (hn z w hm.2.1 hm.2.2) hm.1
    · have := met_uniq h hm'.1 hm.1 hm'.2.1 hm'.2.2 hm.2.1 hm.2.2
      rw [this.1, this.2]
/-- the pixel that meets another one, as a value -/
def meetV (p q k x y : Int) : D := match metL p q k x y with
  | [] => .non
  | t :: _ => pr2 t
theorem meetV_of {p q k x y : Int} {d : D} (h : Tn p q k) (hd : MeetD p q k x y d) : d = meetV p q k x y := by
  unfold meetV
  rcases met_cases h x y with ⟨e, g⟩ | ⟨z, w, e, _, g⟩
  · rw [e]; exact g d hd
  · rw [e]; exact g d hd
/-- none, or a pixel -/
def PixN (d : D) : Prop := d = .non ∨ ∃ z w : Int, d = .tup [.int z, .int w] ∧ Bd 400 z ∧ Bd 400 w
theorem meetV_pix {p q k x y : Int} (h : Tn p q k) (bx : Bd 300 x) (by' : Bd 300 y) : PixN (meetV p q k x y) := by
  unfold meetV
  rcases met_cases h x y with ⟨e, _⟩ | ⟨z, w, e, hm, _⟩
  · rw [e]; exact .inl rfl
  · rw [e]
    have := meet_bd h hm.2.1 hm.2.2 bx by' (by decide)
    exact .inr ⟨z, w, rfl, this.1.up (by decide), this.2.up (by decide)⟩
theorem drc_repr_mm {K : PySem.W.Frag} {d : D} {S : Sto} {Q : D → Sto → Prop} (h : PixN d) (q : Q (.str (toPy (.lst [d, d])).shown) S) : DRC K (rRepD K) [.lst [d, d]] S Q := by
  refine drc_repr q ?_ ?_ ?_ (.inl ⟨_, rfl⟩)
  · rcases h with rfl | ⟨z, w, rfl, _⟩ <;> rfl
  · rcases h with rfl | ⟨z, w, rfl, bz, bw⟩
    · exact ⟨trivial, trivial, trivial⟩
    · have z1 := shw bz (by decide)
      have z2 := shw bw (by decide)
      exact ⟨⟨z1, z2, trivial⟩, ⟨z1, z2, trivial⟩, trivial⟩
  · rcases h with rfl | ⟨z, w, rfl, _⟩ <;> simp only [bigD, bigL] <;> decide
theorem eqB_nil (l : List D) : eqB (.lst l) (.lst []) = l.isEmpty := by cases l <;> rfl
theorem eq_nil {l : List D} {S : Sto} {Q : Bool → Sto → Prop} (h : flatOkL 8 l = true) (q : Q l.isEmpty S) : eqP (.lst l) (.lst []) S Q := ⟨⟨by simpa [flatOk] using h, rfl⟩, by rw [eqB_nil]; exact q⟩
theorem flat_pr2 : ∀ l : List (Int × Int), flatOkL 8 (l.map pr2) = true
  | [] => rfl
  | t :: l => by
    show (flatOk 8 (pr2 t) && flatOkL 8 (l.map pr2)) = true
    rw [flat_pr2 l] <;> rfl
theorem isE_map {α β : Type} (f : α → β) (l : List α) : (l.map f).isEmpty = l.isEmpty := by cases l <;> rfl
def con_lies : Con := fun ds S Q => ∃ p q k x y : Int, ds = [.tup [.int (lgA p q k), .int (lgB p q k), .int (cc p q)], .int (gapI p q), .tup [.int x, .int y]] ∧ Tn p q k ∧ (Bd 300 x ∧ Bd 300 y) ∧ Q (.bl (bareB p q k x y)) S
def con_gapof : Con := fun ds S Q => ∃ p q k : Int, ds = [.tup [.int p, .int q, .int k]] ∧ Tn p q k ∧ Q (.int (gapI p q)) S
def con_isbare : Con := fun ds S Q => ∃ p q k x y : Int, ds = [.tup [.int p, .int q, .int k], .tup [.int x, .int y]] ∧ Tn p q k ∧ (Bd 300 x ∧ Bd 300 y) ∧ Q (.bl (bareB p q k x y)) S
def con_met20 : Con := fun ds S Q => ∃ p q k x y : Int, ds = [.tup [.int p, .int q, .int k], .tup [.int x, .int y]] ∧ Tn p q k ∧ (Bd 300 x ∧ Bd 300 y) ∧ Q (.lst ((metL p q k x y).map pr2)) S
theorem lie_no {p q k x y : Int} (h : Tn p q k) (z : ¬ absI (lieD (lgA p q k) (lgB p q k) (cc p q) x (2 * ((lgA p q k * x + lgB p q k * y) / cc p q) + 1) (2 * ((lgA p q k * y - lgB p q k * x) / cc p q) + 1)) < gapI p q) : bareB p q k x y = false := by
  cases e : bareB p q k x y with
  | false => rfl
  | true => exact absurd ((gap_iff h x y).mpr ((bareB_iff h x y).mp e)).1 z
theorem lie_yes {p q k x y : Int} (h : Tn p q k) (z : absI (lieD (lgA p q k) (lgB p q k) (cc p q) x (2 * ((lgA p q k * x + lgB p q k * y) / cc p q) + 1) (2 * ((lgA p q k * y - lgB p q k * x) / cc p q) + 1)) < gapI p q) : bareB p q k x y = decide (absI (lieE (lgA p q k) (lgB p q k) (cc p q) y (2 * ((lgA p q k * x + lgB p q k * y) / cc p q) + 1) (2 * ((lgA p q k * y - lgB p q k * x) / cc p q) + 1)) < gapI p q) := by
  cases e : bareB p q k x y with
  | true => exact (decide_eq_true ((gap_iff h x y).mpr ((bareB_iff h x y).mp e)).2).symm
  | false => exact (decide_eq_false fun w => by
      have := (bareB_iff h x y).mpr ((gap_iff h x y).mp ⟨z, w⟩)
      rw [e] at this
      cases this).symm
theorem near25_bd {n : Nat} {x y : Int} {t : Int × Int} (bx : Bd n x) (by' : Bd n y) (h : t ∈ near25 x y) : Bd (n + 3) t.1 ∧ Bd (n + 3) t.2 := by
  obtain ⟨u, hu, rfl⟩ := List.mem_map.mp h
  have b := off25_bd hu
  exact ⟨(bx.add b.1).up (by omega), (by'.add b.2).up (by omega)⟩
theorem near25_e (x a : Int) : x + (-2 + a) = x - 2 + a := by omega
theorem mF_ne {p q k x y z w : Int} (h : mF p q k x y (z, w) = true) : (¬ (z = x ∧ w = y)) ∧ imX p q k z w = imX p q k x y ∧ imY p q k z w = imY p q k x y := by
  unfold mF fS at h
  rw [Bool.and_eq_true, decide_eq_true_iff, decide_eq_true_iff] at h
  exact h
theorem mF_mk {p q k x y z w : Int} (h : ¬ (z = x ∧ w = y)) (g : imX p q k z w = imX p q k x y ∧ imY p q k z w = imY p q k x y) : mF p q k x y (z, w) = true := by
  unfold mF fS
  rw [Bool.and_eq_true, decide_eq_true_iff, decide_eq_true_iff]
  exact ⟨h, g⟩
def con_r20 : Con := fun ds S Q => ∃ p q k x y : Int, ds = [.tup [.int p, .int q, .int k], .tup [.int x, .int y]] ∧ Tn p q k ∧ (Bd 170 x ∧ Bd 170 y) ∧ Q (.bl true) S
theorem met_len {p q k : Int} (h : Tn p q k) (x y : Int) : ((metL p q k x y).map pr2).length < 2 := by
  rcases met_cases h x y with ⟨e, _⟩ | ⟨z, w, e, _⟩ <;> rw [e] <;> simp
theorem isE_b {a b : Bool} (h : (!(a == b)) = false) : a = b := by cases a <;> cases b <;> first | rfl | cases h
theorem met_ix {p q k x y : Int} {S : Sto} {Q : D → Sto → Prop} (h : Tn p q k) (ht : (!((metL p q k x y).map pr2).isEmpty) = true) (q0 : Q (meetV p q k x y) S) : ixP (.lst ((metL p q k x y).map pr2)) (.int 0) S Q := by
  unfold meetV at q0
  cases e : metL p q k x y with
  | nil => rw [e] at ht; cases ht
  | cons t r => rw [e] at q0; exact ⟨pr2 t, atI_nat (j := 0) rfl, q0⟩
theorem met_non {p q k x y : Int} (h : Tn p q k) (ht : (!((metL p q k x y).map pr2).isEmpty) = false) : D.non = meetV p q k x y := by
  unfold meetV
  cases e : metL p q k x y with
  | nil => rfl
  | cons t r => rw [e] at ht; cases ht
theorem told20 : D.lst ([.bl (bareB 4 1 0 3 2), .bl (bareB 4 1 0 4 2), .bl (bareB 2 1 3 7 7)] ++ [meetV 4 1 0 5 0, meetV 4 1 0 0 0]) = D.lst [.bl true, .bl false, .bl false, .tup [.int 4, .int 0], .non] := by
  unfold meetV
  rw [show bareB 4 1 0 3 2 = true by decide +kernel, show bareB 4 1 0 4 2 = false by decide +kernel, show bareB 2 1 3 7 7 = false by decide +kernel, show metL 4 1 0 5 0 = [(4, 0)] by decide +kernel, show metL 4 1 0 0 0 = [] by decide +kernel] <;> rfl
theorem take25 : off25.take (rngD 0 (Int.toNat 25)).length = off25 := by rw [rngD_len]; rfl
theorem take_near (x y : Int) : (near25 x y).take (off25.map pr2).length = near25 x y := by
  refine List.take_of_length_le ?_
  unfold near25
  rw [List.length_map, List.length_map]
  exact Nat.le_refl _
theorem take_n25 (x y : Int) : (near25 x y).take (rngD 0 (Int.toNat 25)).length = near25 x y := by
  refine List.take_of_length_le ?_
  unfold near25
  rw [List.length_map, rngD_len]
  decide
theorem take_all {α β : Type} (f : α → β) (l : List α) : l.take (l.map f).length = l := by
  refine List.take_of_length_le ?_
  rw [List.length_map]
  exact Nat.le_refl _
theorem near_len {x y : Int} (P : Int × Int → Bool) : ((near25 x y).filter P).length ≤ 100000 := by
  refine Nat.le_trans (List.length_filter_le _ _) ?_
  unfold near25
  rw [List.length_map]
  decide
theorem flat20 : flatOk 9 (D.lst ([.bl (bareB 4 1 0 3 2), .bl (bareB 4 1 0 4 2), .bl (bareB 2 1 3 7 7)] ++ [meetV 4 1 0 5 0, meetV 4 1 0 0 0])) = true := by rw [told20] <;> rfl

end Tp
namespace Tp
open PySem PySem.Spec PyProof.Rows L2 DL
/-! ### sources, with lists that may be changed -/
def con_cameO : Con := fun ds S Q => ∃ p q k x y : Int, ds = [.tup [.int p, .int q, .int k], .tup [.int x, .int y]] ∧ Tn p q k ∧ (Bd 300 x ∧ Bd 300 y) ∧ ∀ a, getS a S = none → Q (.raw (.ref a)) ((a, (srcL p q k x y).map pr2) :: S)
theorem src_len {p q k : Int} (h : Tn p q k) (x y : Int) : ((srcL p q k x y).map pr2).length ≤ 5 := by
  rw [List.length_map]
  refine Nat.le_trans (List.length_filter_le _ _) ?_
  unfold srcA
  rw [List.length_map]
  decide
theorem shoL_pr2 {n : Nat} (hn : n ≤ 1900) : ∀ {l : List (Int × Int)}, (∀ t ∈ l, Bd n t.1 ∧ Bd n t.2) → shoL (l.map pr2)
  | [], _ => trivial
  | t :: l, h => ⟨⟨shw (h t List.mem_cons_self).1 hn, shw (h t List.mem_cons_self).2 hn, trivial⟩, shoL_pr2 hn fun u hu => h u (List.mem_cons_of_mem _ hu)⟩
theorem bigL_pr2 : ∀ l : List (Int × Int), bigL (l.map pr2) = 3 * l.length
  | [] => rfl
  | t :: l => by
    show bigD (pr2 t) + 1 + bigL (l.map pr2) = _
    rw [bigL_pr2 l, List.length_cons, show bigD (pr2 t) = 2 from rfl]
    omega
/-- lists of pairs that can be shown -/
structure ShoP2 (l : List (Int × Int)) : Prop where
  s : shoL (l.map pr2)
  b : l.length ≤ 1000
theorem src_sho {p q k x y : Int} (h : Tn p q k) (bx : Bd 300 x) (by' : Bd 300 y) : ShoP2 (srcL p q k x y) := by
  refine ⟨shoL_pr2 (n := 410) (by decide) fun t ht => ?_, Nat.le_trans (by have := src_len h x y; rw [List.length_map] at this; exact this) (by decide)⟩
  have ht := (List.mem_filter.mp ht).1
  unfold srcA at ht
  obtain ⟨u, hu, rfl⟩ := List.mem_map.mp ht
  have b := ar5_bd hu
  have b1 := Bd.imX (-k % 4) h.bp h.bq.neg bx by'
  have b2 := Bd.imY (-k % 4) h.bp h.bq.neg bx by'
  exact ⟨(b1.add b.1).up (by decide), (b2.add b.2).up (by decide)⟩
theorem drc_repr_src2 {K : PySem.W.Frag} {l : List (Int × Int)} {S : Sto} {Q : D → Sto → Prop} (h : ShoP2 l) (q : Q (.str (toPy (.lst [.lst (l.map pr2), .lst (l.map pr2)])).shown) S) : DRC K (rRepD K) [.lst [.lst (l.map pr2), .lst (l.map pr2)]] S Q := by
  refine drc_repr q ?_ ⟨h.s, h.s, trivial⟩ ?_ (.inl ⟨_, rfl⟩)
  · show (flatOkL 7 (l.map pr2) && (flatOkL 7 (l.map pr2) && true)) = true
    have : flatOkL 7 (l.map pr2) = true := flatOkL_mem fun d hd => by
      obtain ⟨t, _, rfl⟩ := List.mem_map.mp hd
      rfl
    rw [this] <;> rfl
  · show bigL (l.map pr2) + 1 + (bigL (l.map pr2) + 1 + 0) ≤ 8000
    rw [bigL_pr2]
    have := h.b
    omega
theorem drc_repr_src {K : PySem.W.Frag} {l : List (Int × Int)} {a : Addr} {S : Sto} {Q : D → Sto → Prop} (h : ShoP2 l) (g : getS a S = some (l.map pr2)) (q : Q (.str (toPy (.lst [.lst (l.map pr2), .lst (l.map pr2)])).shown) S) : DRC K (rRepD K) [.lst [.raw (.ref a), .lst (l.map pr2)]] S Q := by
  have f7 : flatOkL 7 (l.map pr2) = true := flatOkL_mem fun d hd => by
    obtain ⟨t, _, rfl⟩ := List.mem_map.mp hd
    rfl
  refine drc_reprO (d' := .lst [.lst (l.map pr2), .lst (l.map pr2)]) ?_ q ?_ ⟨h.s, h.s, trivial⟩ ?_ (.inl ⟨_, rfl⟩)
  · show D.lst [seeR (getS a S) (.ref a), see S (.lst (l.map pr2))] = _
    rw [g, see_flat S 8 (.lst (l.map pr2)) f7] <;> rfl
  · show (flatOkL 7 (l.map pr2) && (flatOkL 7 (l.map pr2) && true)) = true
    rw [f7] <;> rfl
  · show bigL (l.map pr2) + 1 + (bigL (l.map pr2) + 1 + 0) ≤ 8000
    rw [bigL_pr2]
    have := h.b
    omega
theorem src_any {p q k : Int} (h : Tn p q k) (z w : Int) : ((srcL p q k (imX p q k z w) (imY p q k z w)).map pr2).any (fun d => eqB d (.tup [.int z, .int w])) = true := by
  rw [List.any_eq_true]
  exact ⟨pr2 (z, w), List.mem_map.mpr ⟨(z, w), (srcL_mem h).mpr ⟨rfl, rfl⟩, rfl⟩, eqB_refl (n := 9) rfl⟩
def con_r19 : Con := fun ds S Q => ∃ p q k x y : Int, ds = [.tup [.int p, .int q, .int k], .tup [.int x, .int y]] ∧ Tn p q k ∧ (Bd 270 x ∧ Bd 270 y) ∧ Q (.bl true) S
theorem dots4 {p q k x y : Int} (h : Tn p q k) (bx : Bd 160 x) (by' : Bd 160 y) : ∀ d ∈ [D.tup [.int x, .int y], .tup [.int (imX p q k x y), .int (imY p q k x y)], .tup [.int (imX p q k x y + 1), .int (imY p q k x y)], .tup [.int (imX p q k x y), .int (imY p q k x y - 1)]], ∃ a b : Int, d = .tup [.int a, .int b] ∧ Bd 270 a ∧ Bd 270 b := by
  have c1 := Bd.imX k h.bp h.bq bx by'
  have c2 := Bd.imY k h.bp h.bq bx by'
  have l1 : Bd 1 1 := by unfold Bd; decide
  exact fa_cons ⟨_, _, rfl, bx.up (by decide), by'.up (by decide)⟩ (fa_cons ⟨_, _, rfl, c1.up (by decide), c2.up (by decide)⟩ (fa_cons ⟨_, _, rfl, (c1.add l1).up (by decide), c2.up (by decide)⟩ (fa_cons ⟨_, _, rfl, c1.up (by decide), (c2.sub l1).up (by decide)⟩ fa_nil)))
theorem told19 : D.lst [.lst ((srcL 4 1 0 4 2).map pr2), .lst ((srcL 4 1 0 3 2).map pr2), .lst ((srcL 1 0 1 (-3) 5).map pr2)] = D.lst [.lst [.tup [.int 4, .int 0], .tup [.int 5, .int 0]], .lst [], .lst [.tup [.int 5, .int 3]]] := by
  rw [show srcL 4 1 0 4 2 = [(4, 0), (5, 0)] by decide +kernel, show srcL 4 1 0 3 2 = [] by decide +kernel, show srcL 1 0 1 (-3) 5 = [(5, 3)] by decide +kernel] <;> rfl
theorem flat19 : flatOk 9 (D.lst [.lst ((srcL 4 1 0 4 2).map pr2), .lst ((srcL 4 1 0 3 2).map pr2), .lst ((srcL 1 0 1 (-3) 5).map pr2)]) = true := by rw [told19] <;> rfl

end Tp
namespace Tp
open PySem PySem.Spec PyProof.Rows L2 DL
/-! ### sums over rows of pixels -/
def sumN : Nat → (Nat → Int) → Int
  | 0, _ => 0
  | n + 1, f => sumN n f + f n
theorem sumN_congr {f g : Nat → Int} : ∀ {n : Nat}, (∀ i, i < n → f i = g i) → sumN n f = sumN n g
  | 0, _ => rfl
  | n + 1, h => by
    show sumN n f + f n = sumN n g + g n
    rw [sumN_congr fun i hi => h i (by omega), h n (by omega)]
theorem sumN_add (f g : Nat → Int) : ∀ n : Nat, sumN n (fun i => f i + g i) = sumN n f + sumN n g
  | 0 => rfl
  | n + 1 => by
    show sumN n _ + (f n + g n) = sumN n f + f n + (sumN n g + g n)
    rw [sumN_add f g n]
    omega
theorem sumN_mul (k : Int) (f : Nat → Int) : ∀ n : Nat, sumN n (fun i => k * f i) = k * sumN n f
  | 0 => (Int.mul_zero k).symm
  | n + 1 => by
    show sumN n _ + k * f n = k * (sumN n f + f n)
    rw [sumN_mul k f n, Int.mul_add]
theorem sumN_const (k : Int) : ∀ n : Nat, sumN n (fun _ => k) = n * k
  | 0 => by show (0 : Int) = ((0 : Nat) : Int) * k; simp
  | n + 1 => by
    show sumN n _ + k = _
    rw [sumN_const k n]
    have : (((n + 1 : Nat) : Int)) = (n : Int) + 1 := by omega
    rw [this, Int.add_mul, Int.one_mul]
theorem sumN_le {f g : Nat → Int} : ∀ {n : Nat}, (∀ i, i < n → f i ≤ g i) → sumN n f ≤ sumN n g
  | 0, _ => Int.le_refl _
  | n + 1, h => by
    show sumN n f + f n ≤ sumN n g + g n
    have := sumN_le (n := n) fun i hi => h i (by omega)
    have := h n (by omega)
    omega
theorem sumN_list (f : Nat → Int) : ∀ n : Nat, sumN n f = ((List.range n).map f).sum
  | 0 => rfl
  | n + 1 => by
    rw [List.range_succ, List.map_append, List.sum_append, ← sumN_list f n]
    show sumN n f + f n = sumN n f + (f n + 0)
    omega
theorem perm_sum {l m : List Int} (h : l.Perm m) : l.sum = m.sum := by
  induction h with
  | nil => rfl
  | cons x _ ih => rw [List.sum_cons, List.sum_cons, ih]
  | swap x y l => rw [List.sum_cons, List.sum_cons, List.sum_cons, List.sum_cons]; omega
  | trans _ _ i1 i2 => exact i1.trans i2
theorem perm_of {α : Type} [DecidableEq α] : ∀ (l D : List α), l.Nodup → (∀ x ∈ l, x ∈ D) → l.length = D.length → l.Perm D
  | [], D, _, _, e => by
    have : D = [] := List.eq_nil_of_length_eq_zero e.symm
    rw [this]
  | a :: l, D, h, k, e => by
    rw [List.nodup_cons] at h
    have ha := k a List.mem_cons_self
    have le := List.length_erase_of_mem ha
    have lp : 0 < D.length := List.length_pos_of_mem ha
    have h1 := perm_of l (D.erase a) h.2 (fun x hx => (List.mem_erase_of_ne (fun z : x = a => h.1 (by rw [← z]; exact hx))).mpr (k x (List.mem_cons_of_mem _ hx))) (by rw [le]; rw [List.length_cons] at e; omega)
    exact (h1.cons a).trans (List.perm_cons_erase ha).symm
theorem nodup_mapI {α : Type} {f : Nat → α} : ∀ (l : List Nat), l.Nodup → (∀ i ∈ l, ∀ j ∈ l, f i = f j → i = j) → (l.map f).Nodup
  | [], _, _ => List.nodup_nil
  | a :: l, h, k => by
    rw [List.nodup_cons] at h
    rw [List.map_cons, List.nodup_cons]
    refine ⟨fun z => ?_, nodup_mapI l h.2 fun i hi j hj => k i (List.mem_cons_of_mem _ hi) j (List.mem_cons_of_mem _ hj)⟩
    obtain ⟨b, hb, e⟩ := List.mem_map.mp z
    have := k b (List.mem_cons_of_mem _ hb) a List.mem_cons_self e
    exact h.1 (this ▸ hb)
/-- what is left to the nearest multiple -/
def rs (e c : Int) : Int := e - c * nrr e c
theorem rs_near {e c : Int} (h : c % 2 = 1) (h0 : 0 < c) : -c < 2 * rs e c ∧ 2 * rs e c < c := nrr_near h h0
theorem rs_eq {e e' c : Int} (h : rs e c = rs e' c) : e - e' = c * (nrr e c - nrr e' c) := by
  unfold rs at h
  rw [Int.mul_sub]
  omega
theorem rs_add {c k : Int} (h0 : 0 < c) (e : Int) : rs (e + c * k) c = rs e c := by
  unfold rs
  rw [nrr_add h0, Int.mul_add]
  omega
/-- the numbers that are left over of c numbers in a row are all there are -/
theorem rs_perm {u c e0 s t : Int} (ho : c % 2 = 1) (h0 : 0 < c) (hu : s * u + t * c = 1) : ((List.range c.toNat).map fun j : Nat => rs (e0 + u * (j : Int)) c).Perm ((List.range c.toNat).map fun j : Nat => (j : Int) - (c - 1) / 2) := by
  refine perm_of _ _ (nodup_mapI _ List.nodup_range fun i hi j hj e => ?_) (fun x hx => ?_) (by rw [List.length_map, List.length_map])
  · have hi := List.mem_range.mp hi
    have hj := List.mem_range.mp hj
    have e1 := rs_eq e
    have e2 : u * ((i : Int) - (j : Int)) = c * (nrr (e0 + u * (i : Int)) c - nrr (e0 + u * (j : Int)) c) := by rw [← e1]; grind
    generalize nrr (e0 + u * (i : Int)) c - nrr (e0 + u * (j : Int)) c = k at e2
    have e3 : (i : Int) - (j : Int) = c * (s * k + t * ((i : Int) - (j : Int))) := by
      have : (s * u + t * c) * ((i : Int) - (j : Int)) = (i : Int) - (j : Int) := by rw [hu, Int.one_mul]
      have e4 : s * (u * ((i : Int) - (j : Int))) = s * (c * k) := by rw [e2]
      grind
    generalize s * k + t * ((i : Int) - (j : Int)) = m at e3
    have : m = 0 := Decidable.byContradiction fun z => by
      rcases (by omega : 1 ≤ m ∨ m ≤ -1) with w | w
      · have := Int.mul_le_mul_of_nonneg_left w (show 0 ≤ c by omega)
        omega
      · have := Int.mul_le_mul_of_nonneg_left w (show 0 ≤ c by omega)
        omega
    rw [this, Int.mul_zero] at e3
    omega
  · obtain ⟨j, _, rfl⟩ := List.mem_map.mp hx
    have n := rs_near (e := e0 + u * (j : Int)) ho h0
    refine List.mem_map.mpr ⟨(rs (e0 + u * (j : Int)) c + (c - 1) / 2).toNat, List.mem_range.mpr (by omega), by omega⟩
theorem rs_sum {u c e0 s t : Int} (ho : c % 2 = 1) (h0 : 0 < c) (hu : s * u + t * c = 1) (F : Int → Int) : sumN c.toNat (fun j => F (rs (e0 + u * (j : Int)) c)) = sumN c.toNat fun j => F ((j : Int) - (c - 1) / 2) := by
  rw [sumN_list, sumN_list]
  have p := (rs_perm (e0 := e0) ho h0 hu).map F
  rw [List.map_map, List.map_map] at p
  exact perm_sum p
theorem sq_sum (h : Int) : ∀ n : Nat, 6 * sumN n (fun j => ((j : Int) - h) * ((j : Int) - h)) = n * ((n : Int) - 1) * (2 * n - 1) - 6 * h * (n * ((n : Int) - 1)) + 6 * n * (h * h)
  | 0 => by show (6 : Int) * 0 = _; simp
  | n + 1 => by
    show 6 * (sumN n _ + ((n : Int) - h) * ((n : Int) - h)) = _
    rw [Int.mul_add, sq_sum h n]
    have : (((n + 1 : Nat) : Int)) = (n : Int) + 1 := by omega
    rw [this]
    grind
theorem sq_all {c : Int} (ho : c % 2 = 1) (h0 : 0 < c) : 12 * sumN c.toNat (fun j => ((j : Int) - (c - 1) / 2) * ((j : Int) - (c - 1) / 2)) = c * (c * c - 1) := by
  have e := sq_sum ((c - 1) / 2) c.toNat
  obtain ⟨h, rfl⟩ : ∃ h, c = 2 * h + 1 := ⟨c / 2, by omega⟩
  have e1 : (2 * h + 1 - 1) / 2 = h := by omega
  rw [e1] at e ⊢
  have e2 : (((2 * h + 1).toNat : Nat) : Int) = 2 * h + 1 := by omega
  rw [e2] at e
  have : 12 * sumN (2 * h + 1).toNat (fun j => ((j : Int) - h) * ((j : Int) - h)) = 2 * (6 * sumN (2 * h + 1).toNat (fun j => ((j : Int) - h) * ((j : Int) - h))) := by omega
  rw [this, e]
  grind
theorem co_bc {p q k : Int} (h : Tn p q k) : ∃ s t : Int, s * (2 * p * q) + t * cc p q = 1 := by
  obtain ⟨s, t, e⟩ := co_ac h
  refine ⟨-(s * s * (2 * p * q)), s * s * cc p q + t * (1 + s * (p * p - q * q)), ?_⟩
  have e1 : (p * p - q * q) * (p * p - q * q) = cc p q * cc p q - 2 * p * q * (2 * p * q) := by unfold cc; grind
  have e2 : s * (p * p - q * q) = 1 - t * cc p q := by omega
  have e3 : s * s * ((p * p - q * q) * (p * p - q * q)) = (1 - t * cc p q) * (1 - t * cc p q) := by rw [← e2]; grind
  rw [e1] at e3
  rw [e2]
  grind
theorem co_neg {u c s t : Int} (h : s * u + t * c = 1) : -s * -u + t * c = 1 := by rw [Int.neg_mul_neg]; exact h
/-- pixels of a row or of a column -/
def lineR (x y dx dy : Int) (n : Nat) : List (Int × Int) := (List.range n).map fun j : Nat => (x + dx * (j : Int), y + dy * (j : Int))
/-- what the images of a pixel leave over, squared -/
def offSq (p q : Int) (t : Int × Int) : Int := rs (exX p q 0 t.1 t.2) (cc p q) * rs (exX p q 0 t.1 t.2) (cc p q) + rs (exY p q 0 t.1 t.2) (cc p q) * rs (exY p q 0 t.1 t.2) (cc p q)
theorem row_sq {p q k : Int} (h : Tn p q k) (x y : Int) {dx dy : Int} (hd : (dx = 1 ∧ dy = 0) ∨ (dx = 0 ∧ dy = 1)) : 6 * sumN (cc p q).toNat (fun j => offSq p q (x + dx * (j : Int), y + dy * (j : Int))) = cc p q * (cc p q * cc p q - 1) := by
  have ho := cc_odd h
  have h0 := cc_pos h
  obtain ⟨s, t, ea⟩ := co_ac h
  obtain ⟨s', t', eb⟩ := co_bc h
  have key : ∀ (u v u' w : Int), (∃ s t, s * u + t * cc p q = 1) → (∃ s t, s * v + t * cc p q = 1) → 6 * sumN (cc p q).toNat (fun j => rs (u' + u * (j : Int)) (cc p q) * rs (u' + u * (j : Int)) (cc p q) + rs (w + v * (j : Int)) (cc p q) * rs (w + v * (j : Int)) (cc p q)) = cc p q * (cc p q * cc p q - 1) := fun u v u' w ⟨s1, t1, e1⟩ ⟨s2, t2, e2⟩ => by
    rw [sumN_add, rs_sum (e0 := u') ho h0 e1 fun z => z * z, rs_sum (e0 := w) ho h0 e2 fun z => z * z]
    have := sq_all ho h0
    omega
  rcases hd with ⟨rfl, rfl⟩ | ⟨rfl, rfl⟩
  · rw [← key (p * p - q * q) (2 * p * q) (exX p q 0 x y) (exY p q 0 x y) ⟨s, t, ea⟩ ⟨s', t', eb⟩]
    congr 1
    refine sumN_congr fun j _ => ?_
    unfold offSq
    rw [show exX p q 0 (x + 1 * (j : Int), y + 0 * (j : Int)).1 (x + 1 * (j : Int), y + 0 * (j : Int)).2 = exX p q 0 x y + (p * p - q * q) * (j : Int) by rw [(ex0 p q _ _).1, (ex0 p q _ _).1]; grind, show exY p q 0 (x + 1 * (j : Int), y + 0 * (j : Int)).1 (x + 1 * (j : Int), y + 0 * (j : Int)).2 = exY p q 0 x y + 2 * p * q * (j : Int) by rw [(ex0 p q _ _).2, (ex0 p q _ _).2]; grind]
  · rw [← key (-(2 * p * q)) (p * p - q * q) (exX p q 0 x y) (exY p q 0 x y) ⟨-s', t', co_neg eb⟩ ⟨s, t, ea⟩]
    congr 1
    refine sumN_congr fun j _ => ?_
    unfold offSq
    rw [show exX p q 0 (x + 0 * (j : Int), y + 1 * (j : Int)).1 (x + 0 * (j : Int), y + 1 * (j : Int)).2 = exX p q 0 x y + -(2 * p * q) * (j : Int) by rw [(ex0 p q _ _).1, (ex0 p q _ _).1]; grind, show exY p q 0 (x + 0 * (j : Int), y + 1 * (j : Int)).1 (x + 0 * (j : Int), y + 1 * (j : Int)).2 = exY p q 0 x y + (p * p - q * q) * (j : Int) by rw [(ex0 p q _ _).2, (ex0 p q _ _).2]; grind]
theorem mean_rat {p q k v : Int} (h : Tn p q k) (hv : 6 * v = cc p q * (cc p q * cc p q - 1)) : rat (cc p q * cc p q - 1) (6 * cc p q * cc p q) = rat v (cc p q * cc p q * cc p q) := by
  have e1 : rat (6 * v) (6 * (cc p q * cc p q * cc p q)) = rat v (cc p q * cc p q * cc p q) := rat_mul (by decide)
  have e2 : rat (cc p q * (cc p q * cc p q - 1)) (cc p q * (6 * cc p q * cc p q)) = rat (cc p q * cc p q - 1) (6 * cc p q * cc p q) := rat_mul (cc_pos h)
  rw [← e1, ← e2, hv]
  congr 1
  grind
theorem mean_half {p q k : Int} (h : Tn p q k) : rat (cc p q * cc p q - 1) (6 * cc p q * cc p q) = rat (2 * ((cc p q - 1) / 2) * ((cc p q - 1) / 2 + 1) * (2 * ((cc p q - 1) / 2) + 1)) (3 * cc p q * cc p q * cc p q) := by
  have ho := cc_odd h
  obtain ⟨m, em⟩ : ∃ m, cc p q = 2 * m + 1 := ⟨cc p q / 2, by omega⟩
  have e2 : rat (cc p q * (cc p q * cc p q - 1)) (cc p q * (6 * cc p q * cc p q)) = rat (cc p q * cc p q - 1) (6 * cc p q * cc p q) := rat_mul (cc_pos h)
  have e3 : (cc p q - 1) / 2 = m := by omega
  rw [← e2, e3]
  have e1 : rat (2 * (2 * m * (m + 1) * (2 * m + 1))) (2 * (3 * cc p q * cc p q * cc p q)) = rat (2 * m * (m + 1) * (2 * m + 1)) (3 * cc p q * cc p q * cc p q) := rat_mul (by decide)
  rw [← e1, em]
  congr 1
  · grind
  · grind
def con_mean : Con := fun ds S Q => ∃ p q k : Int, ds = [.tup [.int p, .int q, .int k]] ∧ Tn p q k ∧ Q (rat (cc p q * cc p q - 1) (6 * cc p q * cc p q)) S
def con_sq26 : Con := fun ds S Q => ∃ p q k x y dx dy : Int, ds = [.tup [.int p, .int q, .int k], .lst ((lineR x y dx dy (cc p q).toNat).map pr2)] ∧ Tn p q k ∧ p ≤ 40 ∧ ((dx = 1 ∧ dy = 0) ∨ (dx = 0 ∧ dy = 1)) ∧ (Bd 160 x ∧ Bd 160 y) ∧ ∀ v, 6 * v = cc p q * (cc p q * cc p q - 1) → Bd 200 v → Q (.int v) S
theorem lineR_at {x y dx dy : Int} {n i : Nat} (h : i < n) : (lineR x y dx dy n)[i]? = some (x + dx * (i : Int), y + dy * (i : Int)) := by
  unfold lineR
  rw [List.getElem?_map, List.getElem?_range h] <;> rfl
theorem lineR_len (x y dx dy : Int) (n : Nat) : (lineR x y dx dy n).length = n := by unfold lineR; rw [List.length_map, List.length_range]
theorem cc_40 {p q k : Int} (h : Tn p q k) (hp : p ≤ 40) : cc p q ≤ 3200 ∧ 0 < cc p q := by
  have h1 := h.p1
  have m1 : p * p ≤ 40 * 40 := Int.mul_le_mul hp hp (by omega) (by omega)
  have m2 : q * q ≤ 40 * 40 := by
    rcases Int.le_total 0 q with z | z
    · exact Int.mul_le_mul (by have := h.q2; omega) (by have := h.q2; omega) (by omega) (by omega)
    · rw [← Int.neg_mul_neg]
      exact Int.mul_le_mul (by have := h.q1; omega) (by have := h.q1; omega) (by omega) (by omega)
  have := cc_pos h
  unfold cc at *
  omega
theorem line_bd {x y dx dy : Int} {i : Nat} (hd : (dx = 1 ∧ dy = 0) ∨ (dx = 0 ∧ dy = 1)) (bx : Bd 160 x) (by' : Bd 160 y) (hi : i < 3200) : Bd 170 (x + dx * (i : Int)) ∧ Bd 170 (y + dy * (i : Int)) := by
  have bi : Bd 12 (i : Int) := by unfold Bd; omega
  rcases hd with ⟨rfl, rfl⟩ | ⟨rfl, rfl⟩
  · rw [Int.one_mul, Int.zero_mul, Int.add_zero]; exact ⟨(bx.add bi).up (by decide), by'.up (by decide)⟩
  · rw [Int.one_mul, Int.zero_mul, Int.add_zero]; exact ⟨bx.up (by decide), (by'.add bi).up (by decide)⟩
theorem sq_v {p q k v : Int} (h : Tn p q k) (hp : p ≤ 40) (hv : 6 * v = cc p q * (cc p q * cc p q - 1)) : Bd 200 v := by
  have hc := cc_40 h hp
  generalize cc p q = c at *
  have m1 : c * c ≤ 3200 * 3200 := Int.mul_le_mul hc.1 hc.1 (by omega) (by omega)
  have m0 : 0 < c * c := Int.mul_pos hc.2 hc.2
  have m2 : c * (c * c - 1) ≤ 3200 * (3200 * 3200) := Int.mul_le_mul hc.1 (by omega) (by omega) (by omega)
  have m3 : 0 ≤ c * (c * c - 1) := Int.mul_nonneg (by omega) (by omega)
  unfold Bd
  omega
theorem sq_term (p q : Int) (t : Int × Int) : (imX p q 0 t.1 t.2 * (p * p + q * q) - ((p * p - q * q) * t.1 - 2 * p * q * t.2)) ^ (Int.toNat 2) + (imY p q 0 t.1 t.2 * (p * p + q * q) - ((p * p - q * q) * t.2 + 2 * p * q * t.1)) ^ (Int.toNat 2) = offSq p q t := by
  rw [sq2, sq2]
  unfold offSq rs
  have e1 : nrr (exX p q 0 t.1 t.2) (cc p q) = imX p q 0 t.1 t.2 := by unfold imX; rfl
  have e2 : nrr (exY p q 0 t.1 t.2) (cc p q) = imY p q 0 t.1 t.2 := by unfold imY; rfl
  rw [e1, e2, (ex0 p q _ _).1, (ex0 p q _ _).2]
  unfold cc
  grind
theorem told26 : rat (cc 4 1 * cc 4 1 - 1) (6 * cc 4 1 * cc 4 1) = .tup [.int 48, .int 289] ∧ rat (cc 1 0 * cc 1 0 - 1) (6 * cc 1 0 * cc 1 0) = .tup [.int 0, .int 1] := ⟨rfl, rfl⟩

end Tp
namespace Tp
open PySem PySem.Spec PyProof.Rows L2 DL
/-! ### bare pixels in a row -/
theorem rt_four {k : Int} (h : 0 ≤ k ∧ k < 4) (p q a b : Int) : ∃ c d : Int, rtX k.toNat (p * a - q * b) (p * b + q * a) = p * c - q * d ∧ rtY k.toNat (p * a - q * b) (p * b + q * a) = p * d + q * c := by
  rcases four h with g | g | g | g <;> subst g
  · exact ⟨a, b, rfl, rfl⟩
  · exact ⟨-b, a, by show -(p * b + q * a) = _; grind, by show p * a - q * b = _; grind⟩
  · exact ⟨-a, -b, by show -(p * a - q * b) = _; grind, by show -(p * b + q * a) = _; grind⟩
  · exact ⟨b, -a, by show p * b + q * a = _; grind, by show -(p * a - q * b) = _; grind⟩
theorem rt_onto {k : Int} (h : 0 ≤ k ∧ k < 4) (p q c d : Int) : ∃ a b : Int, rtX k.toNat (p * a - q * b) (p * b + q * a) = p * c - q * d ∧ rtY k.toNat (p * a - q * b) (p * b + q * a) = p * d + q * c := by
  rcases four h with g | g | g | g <;> subst g
  · exact ⟨c, d, rfl, rfl⟩
  · exact ⟨d, -c, by show -(p * -c + q * d) = _; grind, by show p * d - q * -c = _; grind⟩
  · exact ⟨-c, -d, by show -(p * -c - q * -d) = _; grind, by show -(p * -d + q * -c) = _; grind⟩
  · exact ⟨-d, c, by show p * c + q * -d = _; grind, by show -(p * -d - q * c) = _; grind⟩
theorem bare_move {p q k w v : Int} (h : Tn p q k) (hb : bareP p q k w v) (c d : Int) : bareP p q k (w + (p * c - q * d)) (v + (p * d + q * c)) := by
  obtain ⟨a, b, e1, e2⟩ := rt_onto (k := k) ⟨h.k1, by have := h.k2; omega⟩ p q c d
  intro z1 z2 hi
  refine hb (z1 - (p * a + q * b)) (z2 - (p * b - q * a)) ?_
  have m := im_move h (z1 - (p * a + q * b)) (z2 - (p * b - q * a)) a b
  rw [show z1 - (p * a + q * b) + (p * a + q * b) = z1 by omega, show z2 - (p * b - q * a) + (p * b - q * a) = z2 by omega, hi.1, hi.2, e1, e2] at m
  omega
theorem bare_k {p q k : Int} (h : Tn p q k) (hk : p ≠ (if q < 0 then -q else q) + 1) : ∃ w v, bareP p q k w v := by
  obtain ⟨w, v, hb⟩ := bare_ex h hk
  have hk4 : 0 ≤ k ∧ k < 4 := ⟨h.k1, by have := h.k2; omega⟩
  refine ⟨rtX k.toNat w v, rtY k.toNat w v, fun x y hi => hb x y ?_⟩
  have e := im_rot (Tn.zero h) hk4 x y
  have z1 : (0 + k) % 4 = k := by omega
  have z2 : k % 4 = k := by omega
  rw [z1, z2] at e
  rw [e.1, e.2] at hi
  rcases four hk4 with g | g | g | g <;> subst g
  · exact hi
  · have a1 : -imY p q 0 x y = -v := hi.1
    have a2 : imX p q 0 x y = w := hi.2
    exact ⟨a2, by omega⟩
  · have a1 : -imX p q 0 x y = -w := hi.1
    have a2 : -imY p q 0 x y = -v := hi.2
    exact ⟨by omega, by omega⟩
  · have a1 : imY p q 0 x y = v := hi.1
    have a2 : -imX p q 0 x y = -w := hi.2
    exact ⟨by omega, a1⟩
theorem row_bare {p q k : Int} (h : Tn p q k) (hk : p ≠ (if q < 0 then -q else q) + 1) (x y : Int) : ∃ f : Nat, (f : Int) < cc p q ∧ bareB p q k (x + (f : Int)) y = true := by
  obtain ⟨w, v, hb⟩ := bare_k h hk
  obtain ⟨j, h1, h2⟩ := lam_ex h
  have hc := cc_pos h
  have n0 := Int.emod_nonneg (w - x - j * (y - v)) (show cc p q ≠ 0 by omega)
  have n1 := Int.emod_lt_of_pos (w - x - j * (y - v)) hc
  have n2 := Int.emod_add_mul_ediv (w - x - j * (y - v)) (cc p q)
  obtain ⟨f, hf⟩ : ∃ f : Nat, (f : Int) = (w - x - j * (y - v)) % cc p q := ⟨_, by rw [Int.toNat_of_nonneg n0]⟩
  refine ⟨f, by omega, (bareB_iff h _ _).mpr ?_⟩
  obtain ⟨a, b, e1, e2⟩ := lam_of (p := p) (q := q) (j := j) (dx := x + f - w) (dy := y - v) hc h1 h2 ⟨-((w - x - j * (y - v)) / cc p q), by rw [Int.mul_neg]; omega⟩
  have := bare_move h hb a b
  rw [← e1, ← e2, show w + (x + (f : Int) - w) = x + f by omega, show v + (y - v) = y by omega] at this
  exact this
/-- how far the next bare pixel of a row is -/
def fbare (p q k x y : Int) : Nat := ((List.range (cc p q).toNat).find? fun j : Nat => bareB p q k (x + (j : Int)) y).getD 0
theorem fbare_ok {p q k : Int} (h : Tn p q k) (hk : p ≠ (if q < 0 then -q else q) + 1) (x y : Int) : ((fbare p q k x y : Nat) : Int) < cc p q ∧ bareB p q k (x + (fbare p q k x y : Int)) y = true ∧ ∀ j : Nat, j < fbare p q k x y → bareB p q k (x + (j : Int)) y = false := by
  obtain ⟨f, hf, hb⟩ := row_bare h hk x y
  have hc := cc_pos h
  unfold fbare
  cases e : (List.range (cc p q).toNat).find? fun j : Nat => bareB p q k (x + (j : Int)) y with
  | none =>
    have := List.find?_eq_none.mp e f (List.mem_range.mpr (by omega))
    exact absurd hb this
  | some g =>
    have g1 := List.find?_some e
    have g2 := List.mem_range.mp (List.mem_of_find?_eq_some e)
    refine ⟨by show ((g : Nat) : Int) < _; omega, g1, fun j hj => ?_⟩
    have hj : j < g := hj
    obtain ⟨_, as, bs, e1, e2⟩ := List.find?_eq_some_iff_append.mp e
    have l1 : as.length = g := by
      have z : (List.range (cc p q).toNat)[as.length]? = some g := by rw [e1]; simp
      have := (List.getElem?_eq_some_iff.mp z).2
      rw [List.getElem_range] at this
      exact this
    have l2 : j ∈ as := by
      have z : (List.range (cc p q).toNat)[j]? = as[j]? := by rw [e1, List.getElem?_append_left (by omega)]
      rw [List.getElem?_range (by omega)] at z
      exact List.mem_of_getElem? z.symm
    have := e2 j l2
    simpa using this
theorem fbare_eq {p q k x y : Int} {j : Nat} (h : Tn p q k) (hk : p ≠ (if q < 0 then -q else q) + 1) (hb : bareB p q k (x + (j : Int)) y = true) (hn : ∀ i : Nat, i < j → bareB p q k (x + (i : Int)) y = false) : j = fbare p q k x y := by
  obtain ⟨h1, h2, h3⟩ := fbare_ok h hk x y
  rcases Nat.lt_trichotomy j (fbare p q k x y) with z | z | z
  · rw [h3 j z] at hb; cases hb
  · exact z
  · rw [hn _ z] at h2; cases h2
def keepsP (p q : Int) : Prop := p = (if q < 0 then -q else q) + 1
instance (p q : Int) : Decidable (keepsP p q) := by unfold keepsP; infer_instance
/-- what is told of the next bare pixel -/
def nextV (p q k x y : Int) : D := if keepsP p q then .str "keeps" else if 2000 < cc p q then .str "large 2000" else .tup [.int (x + (fbare p q k x y : Int)), .int y]
def con_nextb : Con := fun ds S Q => ∃ p q k x y : Int, ds = [.tup [.int p, .int q, .int k], .tup [.int x, .int y]] ∧ Tn p q k ∧ (Bd 200 x ∧ Bd 200 y) ∧ (¬ keepsP p q ∧ cc p q ≤ 2000) ∧ Q (.tup [.int (x + (fbare p q k x y : Int)), .int y]) S
def con_nextx (CK CT : Addr) : ConX := fun ds S Q R => ∃ p q k x y : Int, ds = [.tup [.int p, .int q, .int k], .tup [.int x, .int y]] ∧ Tn p q k ∧ (Bd 200 x ∧ Bd 200 y) ∧ (keepsP p q → R ⟨.ref CK, none⟩ S) ∧ (¬ keepsP p q → 2000 < cc p q → R ⟨.ref CT, some ("limit", .int 2000)⟩ S) ∧ (¬ keepsP p q → cc p q ≤ 2000 → Q (.tup [.int (x + (fbare p q k x y : Int)), .int y]) S)
def con_told22 : Con := fun ds S Q => ∃ p q k x y : Int, ds = [.tup [.int p, .int q, .int k], .tup [.int x, .int y]] ∧ Tn p q k ∧ (Bd 200 x ∧ Bd 200 y) ∧ Q (nextV p q k x y) S
theorem nextV_1 {p q : Int} (k x y : Int) (h : keepsP p q) : nextV p q k x y = .str "keeps" := if_pos h
theorem nextV_2 {p q : Int} (k x y : Int) (h : ¬ keepsP p q) (g : 2000 < cc p q) : nextV p q k x y = .str "large 2000" := by unfold nextV; rw [if_neg h, if_pos g]
theorem nextV_3 {p q : Int} (k x y : Int) (h : ¬ keepsP p q) (g : cc p q ≤ 2000) : nextV p q k x y = .tup [.int (x + (fbare p q k x y : Int)), .int y] := by unfold nextV; rw [if_neg h, if_neg (by omega)]
theorem fb_bd {p q k x : Int} {n : Nat} (h : Tn p q k) (hk : ¬ keepsP p q) (g : cc p q ≤ 2000) (hn : 12 ≤ n) (bx : Bd n x) (y : Int) {j : Nat} (hj : j ≤ fbare p q k x y) : Bd (n + 1) (x + (j : Int)) := by
  have := (fbare_ok h hk x y).1
  have b : Bd 12 (j : Int) := by unfold Bd; omega
  exact (bx.add b).up (by omega)
theorem bd_row {n : Nat} {x : Int} {i : Nat} (bx : Bd n x) (h : (i : Int) < 4000) (hn : 12 ≤ n) : Bd (n + 1) (x + (i : Int)) := by
  have b : Bd 12 (i : Int) := by unfold Bd; omega
  exact (bx.add b).up (by omega)
theorem nextV_cas {p q k : Int} (h : Tn p q k) (x y : Int) : nextV p q k x y = .str "keeps" ∨ nextV p q k x y = .str "large 2000" ∨ (nextV p q k x y = .tup [.int (x + (fbare p q k x y : Int)), .int y] ∧ ¬ keepsP p q ∧ cc p q ≤ 2000) := by
  by_cases hk : keepsP p q
  · exact .inl (nextV_1 k x y hk)
  · by_cases hc : 2000 < cc p q
    · exact .inr (.inl (nextV_2 k x y hk hc))
    · exact .inr (.inr ⟨nextV_3 k x y hk (by omega), hk, by omega⟩)
theorem nextV_flat (p q k x y : Int) : flatOk 9 (nextV p q k x y) = true := by
  unfold nextV
  split
  · decide +kernel
  · split
    · decide +kernel
    · rfl
def rRepS : List V → Hp → VK → Prop := fun vs H Q => ∃ x : Str, vs = [.str x] ∧ (reprText x).length ≤ sizeLine ∧ Q (.str (reprText x)) H
theorem call_repr_str {X : Cx} : CallR X (.builtin "repr") rRepS := by
  intro pins s σ H vs us Q I rv h
  obtain ⟨x, rfl, hz, q⟩ := h
  obtain ⟨u, rfl, t, rfl⟩ := Vals.one rv
  exact PySem.P.repr_of_str ⟨.str _, H, I.tok _, ⟨_, rfl⟩, q⟩ hz
theorem drc_repr_str {K : PySem.W.Frag} {x : Str} {S : Sto} {Q : D → Sto → Prop} (h : (reprText x).length ≤ sizeLine) (q : Q (.str (toPy (.str x)).shown) S) : DRC K rRepS [.str x] S Q := fun H Hd vs Qv st rr k => by
  obtain ⟨v, e1, rv⟩ := one_rp rr
  have rv : v = V.str x := rv
  subst e1 rv
  exact ⟨x, rfl, h, k _ _ (.here (d := .str _) st rfl q)⟩
/-- repr of what is told -/
theorem drc_repr_next {K : PySem.W.Frag} {p q k x y : Int} {S : Sto} {Q : D → Sto → Prop} (hT : Tn p q k) (bx : Bd 200 x) (by' : Bd 200 y) (h : Q (.str (toPy (nextV p q k x y)).shown) S) : DRC K (fun vs H Q => rRepD K vs H Q ∨ rRepS vs H Q) [nextV p q k x y] S Q := by
  rcases nextV_cas hT x y with e | e | ⟨e, hk, hc⟩
  · rw [e] at h ⊢
    exact drc_right (drc_repr_str (by decide +kernel) h)
  · rw [e] at h ⊢
    exact drc_right (drc_repr_str (by decide +kernel) h)
  · rw [e] at h ⊢
    refine drc_left (drc_repr h rfl ?_ (by simp only [bigD, bigL]; decide) (.inr ⟨_, rfl⟩))
    exact ⟨shw (fb_bd hT hk hc (by decide) bx y (Nat.le_refl _)) (by decide +kernel), shw by' (by decide +kernel), trivial⟩
theorem fb_self {p q k x y : Int} (h : Tn p q k) (hk : ¬ keepsP p q) : fbare p q k (x + (fbare p q k x y : Int)) y = 0 := by
  obtain ⟨f1, f2, f3⟩ := fbare_ok h hk x y
  exact (fbare_eq (j := 0) h hk (by rw [show x + (fbare p q k x y : Int) + ((0 : Nat) : Int) = x + (fbare p q k x y : Int) by omega]; exact f2) (fun i hi => absurd hi (by omega))).symm
def os22 : List (Int × Int × Int) := [(4, 1, 0), (44, 43, 1), (45, 2, 0), (1, 0, 2)]
theorem os22_tn (t : Int × Int × Int) (h : t ∈ os22) : Tn t.1 t.2.1 t.2.2 := by
  simp only [os22, List.mem_cons, List.not_mem_nil, or_false] at h
  rcases h with z | z | z | z <;> subst z <;> exact ⟨by decide +kernel, by decide +kernel, by decide +kernel, by decide +kernel, by decide +kernel, by decide +kernel, by decide +kernel, by decide +kernel⟩
def os22b : List (Int × Int × Int) := [(44, 3, 0), (34, -29, 1)]
theorem os22b_tn : ∀ t ∈ os22b, Tn t.1 t.2.1 t.2.2 ∧ ¬ keepsP t.1 t.2.1 ∧ cc t.1 t.2.1 ≤ 2000 := fun t h => by
  simp only [os22b, List.mem_cons, List.not_mem_nil, or_false] at h
  rcases h with z | z <;> subst z <;> exact ⟨⟨by decide +kernel, by decide +kernel, by decide +kernel, by decide +kernel, by decide +kernel, by decide +kernel, by decide +kernel, by decide +kernel⟩, by decide +kernel, by decide +kernel⟩
def nextT (t : Int × Int × Int) : D := nextV t.1 t.2.1 t.2.2 3 2
theorem told22 : D.lst ((os22.map nextT).take 4) = .lst [.tup [.int 3, .int 2], .str "keeps", .str "large 2000", .str "keeps"] := by
  show D.lst [nextV 4 1 0 3 2, nextV 44 43 1 3 2, nextV 45 2 0 3 2, nextV 1 0 2 3 2] = _
  rw [nextV_1 1 3 2 (show keepsP 44 43 by decide), nextV_1 2 3 2 (show keepsP 1 0 by decide), nextV_2 0 3 2 (show ¬ keepsP 45 2 by decide) (by decide), nextV_3 0 3 2 (show ¬ keepsP 4 1 by decide) (by decide), show fbare 4 1 0 3 2 = 0 by decide +kernel]
  rfl
theorem told22f : flatOk 9 (D.lst ((os22.map nextT).take 4)) = true := by
  rw [told22]
  decide +kernel
theorem no_more {p q k x y : Int} {i : Nat} (h : ∀ j : Nat, j < i → bareB p q k (x + (j : Int)) y = false) (g : bareB p q k (x + (i : Int)) y = false) : ∀ j : Nat, j < i + 1 → bareB p q k (x + (j : Int)) y = false := fun j hj => by
  rcases Nat.lt_or_ge j i with z | z
  · exact h j z
  · have e : j = i := by omega
    subst e
    exact g

end Tp
namespace Tp
open PySem PySem.Spec PyProof.Rows L2 DL
/-! ### sums of floors -/
theorem sumN_head (f : Nat → Int) : ∀ n : Nat, sumN (n + 1) f = f 0 + sumN n fun i => f (i + 1)
  | 0 => by show (0 : Int) + f 0 = f 0 + 0; omega
  | n + 1 => by
    show sumN (n + 1) f + f (n + 1) = f 0 + (sumN n (fun i => f (i + 1)) + f (n + 1))
    rw [sumN_head f n]
    omega
theorem sumN_rev : ∀ (n : Nat) (f : Nat → Int), sumN n f = sumN n fun j => f (n - 1 - j)
  | 0, _ => rfl
  | n + 1, f => by
    rw [sumN_head f n, sumN_rev n fun i => f (i + 1)]
    show f 0 + _ = sumN n (fun j => f (n + 1 - 1 - j)) + f (n + 1 - 1 - n)
    rw [show n + 1 - 1 - n = 0 by omega, Int.add_comm]
    congr 1
    refine sumN_congr fun i hi => ?_
    rw [show n - 1 - i + 1 = n + 1 - 1 - i by omega]
theorem sumN_sub (f g : Nat → Int) (n : Nat) : sumN n (fun i => f i - g i) = sumN n f - sumN n g := by
  have h1 := sumN_add f (fun i => -1 * g i) n
  rw [sumN_mul] at h1
  rw [sumN_congr (g := fun i => f i + -1 * g i) fun i _ => by omega, h1]
  omega
theorem sumN_split (f : Nat → Int) (n : Nat) : ∀ m : Nat, sumN (n + m) f = sumN n f + sumN m fun i => f (n + i)
  | 0 => by show sumN n f = sumN n f + 0; omega
  | m + 1 => by
    show sumN (n + m) f + f (n + m) = sumN n f + (sumN m (fun i => f (n + i)) + f (n + m))
    rw [sumN_split f n m]
    omega
theorem sumN_zero {f : Nat → Int} {n : Nat} (h : ∀ i, i < n → f i = 0) : sumN n f = 0 := by
  rw [sumN_congr h, sumN_const, Int.mul_zero]
/-- what is nought from n on -/
theorem sumN_cut {f : Nat → Int} {n m : Nat} (hn : n ≤ m) (h : ∀ i, n ≤ i → i < m → f i = 0) : sumN m f = sumN n f := by
  obtain ⟨k, rfl⟩ : ∃ k, m = n + k := ⟨m - n, by omega⟩
  rw [sumN_split, sumN_zero (f := fun i => f (n + i)) fun i hi => h _ (by omega) (by omega)]
  omega
theorem sumN_nn {f : Nat → Int} {n : Nat} (h : ∀ i, i < n → 0 ≤ f i) : 0 ≤ sumN n f := by
  have := sumN_le (f := fun _ => 0) (n := n) h
  rw [sumN_const, Int.mul_zero] at this
  exact this
theorem sumN_id : ∀ n : Nat, sumN n (fun k => (k : Int)) = (n : Int) * ((n : Int) - 1) / 2
  | 0 => rfl
  | n + 1 => by
    show sumN n (fun k => (k : Int)) + (n : Int) = _
    rw [sumN_id n]
    have e1 : (((n + 1 : Nat) : Int)) = (n : Int) + 1 := by omega
    rw [e1, show ((n : Int) + 1) * ((n : Int) + 1 - 1) = (n : Int) * ((n : Int) - 1) + n * 2 by grind, Int.add_mul_ediv_right _ _ (by decide)]
def fs (n : Nat) (d s b : Int) : Int := sumN n fun k => (s * (k : Int) + b) / d
theorem fs_red (n : Nat) {d : Int} (s b : Int) (hd : 0 < d) : fs n d s b = (n : Int) * ((n : Int) - 1) / 2 * (s / d) + (n : Int) * (b / d) + fs n d (s % d) (b % d) := by
  unfold fs
  rw [sumN_congr (g := fun k => ((s / d) * (k : Int) + b / d) + (s % d * (k : Int) + b % d) / d) fun k _ => ?_]
  · rw [sumN_add, sumN_add, sumN_mul, sumN_const, sumN_id, Int.mul_comm (s / d)]
  · have e : s * (k : Int) + b = (s % d * (k : Int) + b % d) + d * ((s / d) * (k : Int) + b / d) := by
      have h1 := Int.emod_add_mul_ediv s d
      have h2 := Int.emod_add_mul_ediv b d
      generalize s % d = s1 at *
      generalize b % d = b1 at *
      generalize s / d = s2 at *
      generalize b / d = b2 at *
      subst h1 h2
      grind
    rw [e, Int.add_mul_ediv_left _ _ (by omega)]
    omega
theorem fs_nn {n : Nat} {d s b : Int} (hd : 0 < d) (hs : 0 ≤ s) (hb : 0 ≤ b) : 0 ≤ fs n d s b := by
  refine sumN_nn fun i _ => Int.ediv_nonneg (Int.add_nonneg (Int.mul_nonneg hs (by omega)) hb) (by omega)
def fsH (d s b : Int) (n m : Nat) : Int := sumN m fun j => (n : Int) + (b - ((j : Int) + 1) * d) / s
theorem fsH_succ (d s b : Int) (n m : Nat) : fsH d s b (n + 1) m = fsH d s b n m + (m : Int) := by
  unfold fsH
  rw [sumN_congr (g := fun j : Nat => ((n : Int) + (b - ((j : Int) + 1) * d) / s) + 1) fun j _ => by
    have e1 : (((n + 1 : Nat) : Int)) = (n : Int) + 1 := by omega
    rw [e1]
    omega]
  rw [sumN_add, sumN_const, Int.mul_one]
theorem fs_H {d s b : Int} (hd : 0 < d) (hs : 0 < s) (hb : 0 ≤ b ∧ b < d) : ∀ n : Nat, fsH d s b n ((s * (n : Int) + b) / d).toNat = fs n d s b
  | 0 => by
    have e : (s * ((0 : Nat) : Int) + b) / d = 0 := by
      rw [show s * ((0 : Nat) : Int) + b = b by simp]
      exact Int.ediv_eq_zero_of_lt hb.1 hb.2
    rw [e]
    rfl
  | n + 1 => by
    have e1 : (((n + 1 : Nat) : Int)) = (n : Int) + 1 := by omega
    have hm0 : 0 ≤ (s * (n : Int) + b) / d := Int.ediv_nonneg (Int.add_nonneg (Int.mul_nonneg (by omega) (by omega)) hb.1) (by omega)
    have hle : (s * (n : Int) + b) / d ≤ (s * (((n + 1 : Nat) : Int)) + b) / d := Int.ediv_le_ediv hd (by rw [e1]; grind)
    rw [show fs (n + 1) d s b = fs n d s b + (s * (n : Int) + b) / d from rfl, ← fs_H hd hs hb n]
    have e2 : fsH d s b (n + 1) ((s * (((n + 1 : Nat) : Int)) + b) / d).toNat = fsH d s b (n + 1) ((s * (n : Int) + b) / d).toNat := by
      unfold fsH
      refine sumN_cut (by omega) fun j h1 h2 => ?_
      have q1 : (s * (n : Int) + b) / d < (j : Int) + 1 := by omega
      have q2 : (j : Int) + 1 ≤ (s * (((n + 1 : Nat) : Int)) + b) / d := by omega
      have q3 := (Int.ediv_lt_iff_lt_mul hd).mp q1
      have q4 := (Int.le_ediv_iff_mul_le hd).mp q2
      rw [e1] at q4
      rw [e1]
      have : (b - ((j : Int) + 1) * d) / s = -((n : Int) + 1) := by
        have r1 : -((n : Int) + 1) ≤ (b - ((j : Int) + 1) * d) / s := (Int.le_ediv_iff_mul_le hs).mpr (by grind)
        have r2 : (b - ((j : Int) + 1) * d) / s < -((n : Int) + 1) + 1 := (Int.ediv_lt_iff_lt_mul hs).mpr (by grind)
        omega
      omega
    rw [e2, fsH_succ]
    omega
/-- the points under a line, counted from the other side -/
theorem fs_flip {d s b : Int} {n : Nat} (hd : 0 < d) (hs : 0 < s) (hb : 0 ≤ b ∧ b < d) : fs n d s b = fs ((s * (n : Int) + b) / d).toNat s d ((s * (n : Int) + b) % d) := by
  rw [← fs_H hd hs hb n]
  unfold fsH fs
  rw [sumN_rev]
  refine sumN_congr fun j hj => ?_
  have h1 := Int.emod_add_mul_ediv (s * (n : Int) + b) d
  generalize (s * (n : Int) + b) % d = r at *
  generalize (s * (n : Int) + b) / d = m at *
  have e : (((m.toNat - 1 - j : Nat) : Int)) = m - 1 - (j : Int) := by omega
  rw [e, show d * (j : Int) + r = (b - (m - 1 - (j : Int) + 1) * d) + s * (n : Int) by grind, Int.add_mul_ediv_left _ _ (by omega)]
  omega
theorem fs_zero {d s b : Int} {n : Nat} (hs : 0 ≤ s) (hb : 0 ≤ b) (h : s * (n : Int) + b < d) : fs n d s b = 0 := by
  refine sumN_zero fun k hk => Int.ediv_eq_zero_of_lt (Int.add_nonneg (Int.mul_nonneg hs (by omega)) hb) ?_
  have := Int.mul_le_mul_of_nonneg_left (show (k : Int) ≤ (n : Int) by omega) hs
  omega
theorem floor_ind {c e hi : Int} (hc : 0 < c) (h0 : 0 ≤ hi) (h1 : hi ≤ c) : e / c - (e - hi) / c = if e % c < hi then 1 else 0 := by
  have n0 := Int.emod_nonneg e (show c ≠ 0 by omega)
  have n1 := Int.emod_lt_of_pos e hc
  have n2 := Int.emod_add_mul_ediv e c
  have e1 : (e - hi) / c = e / c + (e % c - hi) / c := by
    rw [show e - hi = (e % c - hi) + c * (e / c) by omega, Int.add_mul_ediv_left _ _ (by omega)]
    omega
  rw [e1]
  split
  · rename_i g
    have : (e % c - hi) / c = -1 := by
      have r1 : -1 ≤ (e % c - hi) / c := (Int.le_ediv_iff_mul_le hc).mpr (by omega)
      have r2 : (e % c - hi) / c < 0 := (Int.ediv_lt_iff_lt_mul hc).mpr (by omega)
      omega
    omega
  · have : (e % c - hi) / c = 0 := Int.ediv_eq_zero_of_lt (by omega) (by omega)
    omega
theorem fs_count {w : Nat} {c f s hi : Int} (hc : 0 < c) (h0 : 0 ≤ hi) (h1 : hi ≤ c) : fs w c f s - fs w c f (s - hi) = sumN w fun k => if (f * (k : Int) + s) % c < hi then 1 else 0 := by
  unfold fs
  rw [← sumN_sub]
  refine sumN_congr fun k _ => ?_
  rw [← floor_ind hc h0 h1]
  congr 2
  omega
theorem fs_stepI {n d : Int} (s b : Int) (hn : 0 ≤ n) (hd : 0 < d) : fs n.toNat d s b = n * (n - 1) / 2 * (s / d) + n * (b / d) + fs n.toNat d (s % d) (b % d) := by
  have e : ((n.toNat : Nat) : Int) = n := by omega
  have := fs_red n.toNat s b hd
  rw [e] at this
  exact this
theorem fs_flipI {n d s b : Int} (hn : 0 ≤ n) (hd : 0 < d) (hs : 0 < s) (hb : 0 ≤ b ∧ b < d) : fs n.toNat d s b = fs ((s * n + b) / d).toNat s d ((s * n + b) % d) := by
  have e : ((n.toNat : Nat) : Int) = n := by omega
  have := fs_flip (n := n.toNat) hd hs hb
  rw [e] at this
  exact this
theorem fs_zeroI {n d s b : Int} (hn : 0 ≤ n) (hs : 0 ≤ s) (hb : 0 ≤ b) (h : s * n + b < d) : fs n.toNat d s b = 0 := fs_zero hs hb (by rw [show ((n.toNat : Nat) : Int) = n by omega]; exact h)
theorem abs_sumN {f : Nat → Int} {M : Nat} : ∀ {n : Nat}, (∀ i, i < n → (f i).natAbs ≤ M) → (sumN n f).natAbs ≤ n * M
  | 0, _ => by show (0 : Int).natAbs ≤ _; simp
  | n + 1, h => by
    have h1 := abs_sumN (n := n) fun i hi => h i (by omega)
    have h2 := h n (by omega)
    have h3 := Int.natAbs_add_le (sumN n f) (f n)
    rw [Nat.add_mul, Nat.one_mul]
    show (sumN n f + f n).natAbs ≤ _
    omega
theorem bd_sumN {f : Nat → Int} {n m k : Nat} (h : ∀ i, i < n → Bd m (f i)) (hn : n ≤ 2 ^ k) : Bd (m + k) (sumN n f) := by
  have h1 := abs_sumN (f := f) (M := 2 ^ m - 1) (n := n) fun i hi => by
    have := h i hi
    unfold Bd at this
    omega
  have p : 0 < 2 ^ m := Nat.pow_pos (by decide)
  have p2 : 0 < 2 ^ k := Nat.pow_pos (by decide)
  have h2 : n * (2 ^ m - 1) ≤ 2 ^ k * (2 ^ m - 1) := Nat.mul_le_mul_right _ hn
  have h3 : 2 ^ k * (2 ^ m - 1) < 2 ^ k * 2 ^ m := (Nat.mul_lt_mul_left p2).mpr (by omega)
  unfold Bd
  rw [Nat.pow_add, Nat.mul_comm]
  omega
theorem bd_fs {n d s b : Int} {k m : Nat} (hn : 0 ≤ n) (bn : Bd k n) (bs : Bd m s) (bb : Bd (k + m) b) : Bd (m + k + k + 1) (fs n.toNat d s b) := by
  refine (bd_sumN (m := m + k + 1) (k := k) (fun i hi => ?_) (by unfold Bd at bn; omega)).up (by omega)
  have bi : Bd k (i : Int) := by unfold Bd at *; omega
  exact ((bs.mul bi).add bb).div.up (by omega)
def con_fsum : Con := fun ds S Q => ∃ n d s b : Int, ds = [.int n, .int d, .int s, .int b] ∧ 0 ≤ n ∧ 0 < d ∧ (Bd 102 n ∧ Bd 102 d ∧ Bd 102 s ∧ Bd 204 b) ∧ Q (.int (fs n.toNat d s b)) S
structure FsI (T t n d s b : Int) : Prop where
  e : t + fs n.toNat d s b = T
  n0 : 0 ≤ n
  d0 : 0 < d
  bt : Bd 320 t
  bn : Bd 102 n
  bd : Bd 102 d
  bs : Bd 102 s
  bb : Bd 204 b
theorem FsI.start {n d s b : Int} (n0 : 0 ≤ n) (d0 : 0 < d) (h : Bd 102 n ∧ Bd 102 d ∧ Bd 102 s ∧ Bd 204 b) : FsI (fs n.toNat d s b) 0 n d s b :=
  ⟨Int.zero_add _, n0, d0, by unfold Bd; decide +kernel, h.1, h.2.1, h.2.2.1, h.2.2.2⟩
theorem FsI.fin {T t n d s b : Int} (h : FsI T t n d s b) (g : s % d * n + b % d < d) : t + (n * (n - 1) / 2 * (s / d) + n * (b / d)) = T := by
  have e := h.e
  rw [fs_stepI s b h.n0 h.d0, fs_zeroI h.n0 (Int.emod_nonneg _ (by have := h.d0; omega)) (Int.emod_nonneg _ (by have := h.d0; omega)) g] at e
  omega
theorem FsI.pos {T t n d s b : Int} (h : FsI T t n d s b) (g : ¬ s % d * n + b % d < d) : 0 < s % d := by
  have d0 := h.d0
  have n0 := Int.emod_nonneg s (show d ≠ 0 by omega)
  have n1 := Int.emod_lt_of_pos b d0
  rcases Int.lt_or_eq_of_le n0 with z | z
  · exact z
  · rw [← z, Int.zero_mul] at g; omega
theorem FsI.step {T t n d s b : Int} (bT : Bd 315 T) (h : FsI T t n d s b) (g : ¬ s % d * n + b % d < d) : FsI T (t + (n * (n - 1) / 2 * (s / d) + n * (b / d))) ((s % d * n + b % d) / d) (s % d) d ((s % d * n + b % d) % d) ∧ s % d < d := by
  have d0 := h.d0
  have n0 := h.n0
  have hp := h.pos g
  have h1 := Int.emod_lt_of_pos s d0
  have h2 := Int.emod_nonneg b (show d ≠ 0 by omega)
  have h3 := Int.emod_lt_of_pos b d0
  have e := h.e
  rw [fs_stepI s b n0 d0] at e
  have e2 := fs_flipI n0 d0 hp ⟨h2, h3⟩
  have m0 : 0 ≤ s % d * n := Int.mul_nonneg (by omega) n0
  have t0 : 0 ≤ (s % d * n + b % d) / d := Int.ediv_nonneg (by omega) (by omega)
  have t1 : (s % d * n + b % d) / d ≤ n := by
    refine Int.lt_add_one_iff.mp ((Int.ediv_lt_iff_lt_mul d0).mpr ?_)
    have := Int.mul_le_mul_of_nonneg_right (show s % d ≤ d - 1 by omega) n0
    rw [Int.add_mul, Int.one_mul, Int.mul_comm n d]
    rw [Int.sub_mul, Int.one_mul] at this
    omega
  have bs1 : Bd 102 (s % d) := Bd.mod h.bd d0
  have bb1 : Bd 204 (b % d) := (Bd.mod h.bd d0).up (by decide)
  have bf : Bd 310 (fs n.toNat d (s % d) (b % d)) := (bd_fs n0 h.bn bs1 bb1).up (by decide)
  refine ⟨⟨by rw [← e2]; omega, t0, hp, ?_, Bd.of_le t0 t1 h.bn, bs1, h.bd, (Bd.mod h.bd d0).up (by decide)⟩, h1⟩
  have : t + (n * (n - 1) / 2 * (s / d) + n * (b / d)) = T - fs n.toNat d (s % d) (b % d) := by omega
  rw [this]
  exact (bT.sub bf).up (by decide)

end Tp
namespace Tp
open PySem PySem.Spec PyProof.Rows L2 DL
/-! ### rests of a row -/
instance (p q m n : Int) : Decidable (isR p q m n) := by unfold isR; infer_instance
instance (p q m n : Int) : Decidable (isC p q m n) := by unfold isC; infer_instance
def restL (p q : Int) : List (Int × Int) := (List.range (2 * p + 1).toNat).flatMap fun i : Nat => ((List.range (2 * p + 1).toNat).map fun j : Nat => (-p + (i : Int), -p + (j : Int))).filter fun t => decide (isR p q t.1 t.2)
theorem isR_bd {p q k m n : Int} (h : Tn p q k) (hr : isR p q m n) : (-p ≤ m ∧ m ≤ p) ∧ -p ≤ n ∧ n ≤ p := by
  have h0 := cc_pos h
  have h1 := h.q1
  have h2 := h.q2
  have h3 := h.p1
  obtain ⟨⟨a1, a2⟩, b1, b2⟩ := hr
  have e1 : cc p q * m = p * (p * m - q * n) + q * (p * n + q * m) := by unfold cc; grind
  have e2 : cc p q * n = p * (p * n + q * m) - q * (p * m - q * n) := by unfold cc; grind
  generalize p * m - q * n = X at *
  generalize p * n + q * m = Y at *
  have key : ∀ U V : Int, -(cc p q) < 2 * U → 2 * U < cc p q → -(cc p q) < 2 * V → 2 * V < cc p q → -(cc p q * (2 * p)) ≤ 2 * (p * U + q * V) ∧ 2 * (p * U + q * V) ≤ cc p q * (2 * p) := fun U V u1 u2 v1 v2 => by
    have c1 : p * (2 * U) ≤ p * cc p q := Int.mul_le_mul_of_nonneg_left (by omega) (by omega)
    have c2 : p * -(cc p q) ≤ p * (2 * U) := Int.mul_le_mul_of_nonneg_left (by omega) (by omega)
    have c3 : -(p * cc p q) ≤ q * (2 * V) ∧ q * (2 * V) ≤ p * cc p q := by
      rcases Int.le_total 0 q with z | z
      · have d1 : q * (2 * V) ≤ q * cc p q := Int.mul_le_mul_of_nonneg_left (by omega) z
        have d2 : q * -(cc p q) ≤ q * (2 * V) := Int.mul_le_mul_of_nonneg_left (by omega) z
        have d3 : q * cc p q ≤ p * cc p q := Int.mul_le_mul_of_nonneg_right (by omega) (by omega)
        rw [Int.mul_neg] at d2
        omega
      · have d1 : -q * (2 * V) ≤ -q * cc p q := Int.mul_le_mul_of_nonneg_left (by omega) (by omega)
        have d2 : -q * -(cc p q) ≤ -q * (2 * V) := Int.mul_le_mul_of_nonneg_left (by omega) (by omega)
        have d3 : -q * cc p q ≤ p * cc p q := Int.mul_le_mul_of_nonneg_right (by omega) (by omega)
        simp only [Int.neg_mul, Int.mul_neg, Int.neg_neg] at d1 d2 d3
        omega
    rw [Int.mul_neg] at c2
    have r1 : 2 * (p * U + q * V) = p * (2 * U) + q * (2 * V) := by grind
    have r2 : cc p q * (2 * p) = p * cc p q + p * cc p q := by grind
    omega
  have fin : ∀ v : Int, -(cc p q * (2 * p)) ≤ 2 * (cc p q * v) → 2 * (cc p q * v) ≤ cc p q * (2 * p) → -p ≤ v ∧ v ≤ p := fun v l1 l2 => by
    constructor
    · refine Int.le_of_mul_le_mul_left (a := cc p q) ?_ h0
      rw [Int.mul_neg]
      have : cc p q * (2 * p) = 2 * (cc p q * p) := by grind
      omega
    · refine Int.le_of_mul_le_mul_left (a := cc p q) ?_ h0
      have : cc p q * (2 * p) = 2 * (cc p q * p) := by grind
      omega
  constructor
  · have := key X Y a1 a2 b1 b2
    exact fin m (by rw [e1]; omega) (by rw [e1]; omega)
  · have := key Y (-X) b1 b2 (by omega) (by omega)
    rw [Int.mul_neg] at this
    exact fin n (by rw [e2]; omega) (by rw [e2]; omega)
theorem restL_mem {p q k : Int} (h : Tn p q k) {m n : Int} : (m, n) ∈ restL p q ↔ isR p q m n := by
  unfold restL
  rw [List.mem_flatMap]
  constructor
  · rintro ⟨i, _, hi⟩
    exact of_decide_eq_true (List.mem_filter.mp hi).2
  · intro hr
    have b := isR_bd h hr
    refine ⟨(m + p).toNat, List.mem_range.mpr (by omega), List.mem_filter.mpr ⟨List.mem_map.mpr ⟨(n + p).toNat, List.mem_range.mpr (by omega), ?_⟩, decide_eq_true hr⟩⟩
    rw [show -p + (((m + p).toNat : Nat) : Int) = m by omega, show -p + (((n + p).toNat : Nat) : Int) = n by omega]
theorem restL_up (p q : Int) : (restL p q).Pairwise fun a b => a.1 < b.1 ∨ (a.1 = b.1 ∧ a.2 < b.2) := by
  unfold restL
  refine List.pairwise_flatMap.mpr ⟨fun i _ => ?a, ?b⟩
  case a =>
    refine List.Pairwise.filter _ (List.pairwise_map.mpr (List.pairwise_lt_range.imp ?_))
    intro a b hab
    exact .inr ⟨rfl, by show -p + _ < -p + _; omega⟩
  case b =>
    refine List.pairwise_lt_range.imp ?_
    intro a b hab x hx y hy
    obtain ⟨j, _, rfl⟩ := List.mem_map.mp (List.mem_filter.mp hx).1
    obtain ⟨j', _, rfl⟩ := List.mem_map.mp (List.mem_filter.mp hy).1
    left
    show -p + _ < -p + _
    omega
theorem restL_nodup (p q : Int) : (restL p q).Nodup := (restL_up p q).imp fun hab e => by subst e; omega
theorem restL_sort (p q : Int) : (restL p q).Pairwise fun a b => le2 a b = true := (restL_up p q).imp fun {a b} hab => decide_eq_true (by show a.1 < b.1 ∨ (a.1 = b.1 ∧ a.2 ≤ b.2); omega)
theorem rs_of {c e Y r : Int} (h : -c < 2 * Y ∧ 2 * Y < c) (he : e - Y = c * r) : rs e c = Y := by
  unfold rs
  rw [show e = Y + c * r by omega, nrr_of h]
  omega
/-- the factor that tells the other part of a rest times u -/
def Fac (p q f : Int) : Prop := ∃ r, f * p - q = cc p q * r
theorem fac_ex {p q k : Int} (h : Tn p q k) : ∃ f, Fac p q f := by
  obtain ⟨s, t, e⟩ := co_pc h
  refine ⟨q * s, -(q * t), ?_⟩
  have e1 : s * p = 1 - t * cc p q := by omega
  rw [Int.mul_assoc, e1]
  grind
theorem fac_Y {p q k f : Int} (h : Tn p q k) (hf : Fac p q f) (m n : Int) : ∃ r, f * (p * m - q * n) - (p * n + q * m) = cc p q * r := by
  obtain ⟨r0, e0⟩ := hf
  obtain ⟨s, t, e⟩ := co_pc h
  have e1 : p * (f * (p * m - q * n) - (p * n + q * m)) = cc p q * (r0 * (p * m - q * n) - n) := by
    have : p * (f * (p * m - q * n)) = (f * p - q) * (p * m - q * n) + q * (p * m - q * n) := by grind
    rw [Int.mul_sub, this, e0]
    unfold cc
    grind
  generalize f * (p * m - q * n) - (p * n + q * m) = Z at *
  refine ⟨s * (r0 * (p * m - q * n) - n) + t * Z, ?_⟩
  have : Z = (s * p + t * cc p q) * Z := by rw [e, Int.one_mul]
  have e2 : s * (p * Z) = s * (cc p q * (r0 * (p * m - q * n) - n)) := by rw [e1]
  grind
theorem rest_Y {p q k f m n : Int} (h : Tn p q k) (hf : Fac p q f) (hr : isR p q m n) : rs (f * (p * m - q * n)) (cc p q) = p * n + q * m := by
  obtain ⟨r, e⟩ := fac_Y h hf m n
  exact rs_of hr.2 e
theorem X_rest {p q k f X : Int} (h : Tn p q k) (hf : Fac p q f) (hX : -(cc p q) < 2 * X ∧ 2 * X < cc p q) : ∃ m n, isR p q m n ∧ p * m - q * n = X ∧ p * n + q * m = rs (f * X) (cc p q) := by
  obtain ⟨r0, e0⟩ := hf
  obtain ⟨s, t, e⟩ := co_pc h
  have h0 := cc_pos h
  have hn := rs_near (e := f * X) (cc_odd h) h0
  obtain ⟨k1, ek⟩ : ∃ k1, k1 = nrr (f * X) (cc p q) := ⟨_, rfl⟩
  have eY : rs (f * X) (cc p q) = f * X - cc p q * k1 := by rw [ek] <;> rfl
  generalize rs (f * X) (cc p q) = Y at *
  have en : p * Y - q * X = cc p q * (r0 * X - p * k1) := by
    have : p * (f * X) = (f * p - q) * X + q * X := by grind
    rw [eY, Int.mul_sub, this, e0]
    grind
  have em0 : p * (p * X + q * Y) = cc p q * (X + q * (r0 * X - p * k1)) := by
    have : p * (p * X + q * Y) = p * p * X + q * (p * Y - q * X) + q * q * X := by grind
    rw [this, en]
    unfold cc
    grind
  obtain ⟨m, em⟩ : ∃ m, p * X + q * Y = cc p q * m := by
    refine ⟨s * (X + q * (r0 * X - p * k1)) + t * (p * X + q * Y), ?_⟩
    have : p * X + q * Y = (s * p + t * cc p q) * (p * X + q * Y) := by rw [e, Int.one_mul]
    have e2 : s * (p * (p * X + q * Y)) = s * (cc p q * (X + q * (r0 * X - p * k1))) := by rw [em0]
    grind
  have eX1 : p * m - q * (r0 * X - p * k1) = X := by
    refine cancel h0 ?_
    rw [Int.mul_sub, show cc p q * (p * m) = p * (cc p q * m) by grind, show cc p q * (q * (r0 * X - p * k1)) = q * (cc p q * (r0 * X - p * k1)) by grind, ← em, ← en]
    unfold cc
    grind
  have eY1 : p * (r0 * X - p * k1) + q * m = Y := by
    refine cancel h0 ?_
    rw [Int.mul_add, show cc p q * (q * m) = q * (cc p q * m) by grind, show cc p q * (p * (r0 * X - p * k1)) = p * (cc p q * (r0 * X - p * k1)) by grind, ← em, ← en]
    unfold cc
    grind
  exact ⟨m, r0 * X - p * k1, ⟨by rw [eX1]; exact hX, by rw [eY1]; exact hn⟩, eX1, eY1⟩
/-- the first parts of the rests times u are all there are -/
theorem restX_perm {p q k : Int} (h : Tn p q k) : ((restL p q).map fun t => p * t.1 - q * t.2).Perm ((List.range (cc p q).toNat).map fun i : Nat => (i : Int) - (cc p q - 1) / 2) := by
  obtain ⟨f, hf⟩ := fac_ex h
  have h0 := cc_pos h
  have ho := cc_odd h
  refine (List.perm_ext_iff_of_nodup ?_ ?_).mpr fun X => ?_
  · refine List.pairwise_map.mpr ((restL_up p q).imp_of_mem fun {a b} ha hb hab => ?_)
    intro e
    have ra := (restL_mem h).mp (show (a.1, a.2) ∈ restL p q from ha)
    have rb := (restL_mem h).mp (show (b.1, b.2) ∈ restL p q from hb)
    have ya := rest_Y h hf ra
    have yb := rest_Y h hf rb
    rw [e, yb] at ya
    have := u_cancel h0 e ya.symm
    omega
  · exact nodup_mapI _ List.nodup_range fun i _ j _ e => by omega
  · constructor
    · intro hx
      obtain ⟨⟨m, n⟩, hm, rfl⟩ := List.mem_map.mp hx
      have hr := (restL_mem h).mp hm
      have := hr.1
      refine List.mem_map.mpr ⟨(p * m - q * n + (cc p q - 1) / 2).toNat, List.mem_range.mpr (by omega), ?_⟩
      show _ = p * m - q * n
      omega
    · intro hx
      obtain ⟨i, hi, rfl⟩ := List.mem_map.mp hx
      have hi := List.mem_range.mp hi
      obtain ⟨m, n, hr, e1, _⟩ := X_rest (X := (i : Int) - (cc p q - 1) / 2) h hf (by omega)
      exact List.mem_map.mpr ⟨(m, n), (restL_mem h).mpr hr, e1⟩
/-- a sum over all rests, by the parts of the rests times u -/
theorem rest_sum {p q k f : Int} (h : Tn p q k) (hf : Fac p q f) (G : Int → Int → Int) : ((restL p q).map fun t => G (p * t.1 - q * t.2) (p * t.2 + q * t.1)).sum = sumN (cc p q).toNat fun i => G ((i : Int) - (cc p q - 1) / 2) (rs (f * ((i : Int) - (cc p q - 1) / 2)) (cc p q)) := by
  rw [sumN_list]
  have pm := (restX_perm h).map fun X => G X (rs (f * X) (cc p q))
  rw [List.map_map, List.map_map] at pm
  rw [show ((List.range (cc p q).toNat).map fun i : Nat => G ((i : Int) - (cc p q - 1) / 2) (rs (f * ((i : Int) - (cc p q - 1) / 2)) (cc p q))) = (List.range (cc p q).toNat).map ((fun X => G X (rs (f * X) (cc p q))) ∘ fun i : Nat => (i : Int) - (cc p q - 1) / 2) from rfl, ← perm_sum pm]
  congr 1
  refine List.map_congr_left fun t ht => ?_
  have hr := (restL_mem h).mp (show (t.1, t.2) ∈ restL p q from ht)
  show _ = G (p * t.1 - q * t.2) (rs (f * (p * t.1 - q * t.2)) (cc p q))
  rw [rest_Y h hf hr]
theorem off_rs (p q x y : Int) : p * reX p q x y - q * reY p q x y = rs (exX p q 0 x y) (cc p q) ∧ p * reY p q x y + q * reX p q x y = rs (exY p q 0 x y) (cc p q) := by
  have e1 : nrr (exX p q 0 x y) (cc p q) = imX p q 0 x y := by unfold imX; rfl
  have e2 : nrr (exY p q 0 x y) (cc p q) = imY p q 0 x y := by unfold imY; rfl
  unfold rs
  rw [e1, e2]
  exact u_re p q x y
/-- the rests of c pixels of a row or a column are all rests -/
theorem row_perm {p q k : Int} (h : Tn p q k) (x y : Int) {dx dy : Int} (hd : (dx = 1 ∧ dy = 0) ∨ (dx = 0 ∧ dy = 1)) : ((List.range (cc p q).toNat).map fun j : Nat => (reX p q (x + dx * (j : Int)) (y + dy * (j : Int)), reY p q (x + dx * (j : Int)) (y + dy * (j : Int)))).Perm (restL p q) := by
  obtain ⟨f, hf⟩ := fac_ex h
  have h0 := cc_pos h
  have ho := cc_odd h
  obtain ⟨u, s, t, hu, eu⟩ : ∃ u s t, s * u + t * cc p q = 1 ∧ ∀ j : Int, exX p q 0 (x + dx * j) (y + dy * j) = exX p q 0 x y + u * j := by
    rcases hd with ⟨rfl, rfl⟩ | ⟨rfl, rfl⟩
    · obtain ⟨s, t, ea⟩ := co_ac h
      exact ⟨p * p - q * q, s, t, ea, fun j => by rw [(ex0 p q _ _).1, (ex0 p q _ _).1]; grind⟩
    · obtain ⟨s, t, eb⟩ := co_bc h
      exact ⟨-(2 * p * q), -s, t, co_neg eb, fun j => by rw [(ex0 p q _ _).1, (ex0 p q _ _).1]; grind⟩
  have rp := rs_perm (e0 := exX p q 0 x y) ho h0 hu
  refine (List.perm_ext_iff_of_nodup ?_ (restL_nodup p q)).mpr fun t => ?_
  · refine nodup_mapI _ List.nodup_range fun i hi j hj e => ?_
    have e1 := congrArg (fun t : Int × Int => p * t.1 - q * t.2) e
    have e2 : rs (exX p q 0 x y + u * (i : Int)) (cc p q) = rs (exX p q 0 x y + u * (j : Int)) (cc p q) := by
      rw [← eu, ← eu, ← (off_rs p q _ _).1, ← (off_rs p q _ _).1]
      exact e1
    have nd := (List.Perm.nodup_iff rp).mpr (nodup_mapI _ List.nodup_range fun i _ j _ e => by omega)
    rw [List.mem_range] at hi hj
    have := (List.getElem_inj (xs := (List.range (cc p q).toNat).map fun j : Nat => rs (exX p q 0 x y + u * (j : Int)) (cc p q)) (h₀ := by simpa using hi) (h₁ := by simpa using hj) nd).mp (by simpa using e2)
    exact this
  · constructor
    · intro ht
      obtain ⟨j, _, rfl⟩ := List.mem_map.mp ht
      exact (restL_mem h).mpr (re_is h _ _)
    · intro ht
      have hr := (restL_mem h).mp (show (t.1, t.2) ∈ restL p q from ht)
      have hX := hr.1
      have m1 : p * t.1 - q * t.2 ∈ (List.range (cc p q).toNat).map fun i : Nat => (i : Int) - (cc p q - 1) / 2 := List.mem_map.mpr ⟨(p * t.1 - q * t.2 + (cc p q - 1) / 2).toNat, List.mem_range.mpr (by omega), by omega⟩
      obtain ⟨j, hj, ej⟩ := List.mem_map.mp (rp.mem_iff.mpr m1)
      refine List.mem_map.mpr ⟨j, hj, ?_⟩
      have ej : rs (exX p q 0 x y + u * (j : Int)) (cc p q) = p * t.1 - q * t.2 := ej
      rw [← eu, ← (off_rs p q _ _).1] at ej
      have ya := rest_Y h hf (re_is h (x + dx * (j : Int)) (y + dy * (j : Int)))
      rw [ej, rest_Y h hf hr] at ya
      obtain ⟨a1, a2⟩ := u_cancel h0 ej ya.symm
      exact Prod.ext a1 a2
theorem row_sum {p q k : Int} (h : Tn p q k) (x y : Int) {dx dy : Int} (hd : (dx = 1 ∧ dy = 0) ∨ (dx = 0 ∧ dy = 1)) (F : Int × Int → Int) : sumN (cc p q).toNat (fun j => F (reX p q (x + dx * (j : Int)) (y + dy * (j : Int)), reY p q (x + dx * (j : Int)) (y + dy * (j : Int)))) = ((restL p q).map F).sum := by
  rw [sumN_list]
  have pm := (row_perm h x y hd).map F
  rw [List.map_map] at pm
  exact perm_sum pm

end Tp
namespace Tp
open PySem PySem.Spec PyProof.Rows L2 DL
/-! ### counting rests -/
theorem sum_flat {α β : Type} (f : α → List β) (F : β → Int) : ∀ l : List α, ((l.flatMap f).map F).sum = (l.map fun a => ((f a).map F).sum).sum
  | [] => rfl
  | a :: l => by rw [List.flatMap_cons, List.map_append, List.sum_append, sum_flat f F l, List.map_cons, List.sum_cons]
theorem sum_filter {α : Type} (P : α → Bool) (F : α → Int) : ∀ l : List α, ((l.filter P).map F).sum = (l.map fun a => if P a = true then F a else 0).sum
  | [] => rfl
  | a :: l => by
    rw [List.filter_cons, List.map_cons, List.sum_cons, ← sum_filter P F l]
    split
    · rw [List.map_cons, List.sum_cons]
    · rw [Int.zero_add]
theorem restL_sum (p q : Int) (F : Int × Int → Int) : ((restL p q).map F).sum = sumN (2 * p + 1).toNat fun i => sumN (2 * p + 1).toNat fun j => if isR p q (-p + (i : Int)) (-p + (j : Int)) then F (-p + (i : Int), -p + (j : Int)) else 0 := by
  unfold restL
  rw [sum_flat, sumN_list]
  congr 1
  refine List.map_congr_left fun i _ => ?_
  rw [sum_filter, List.map_map, sumN_list]
  congr 1
  refine List.map_congr_left fun j _ => ?_
  show (if decide (isR p q (-p + (i : Int)) (-p + (j : Int))) = true then _ else _) = _
  simp only [decide_eq_true_eq]
theorem sumN_even {g : Int → Int} (hg : ∀ m, g (-m) = g m) (N : Nat) : sumN (2 * N + 1) (fun i => g (-(N : Int) + (i : Int))) = g 0 + 2 * sumN N fun i => g ((i : Int) + 1) := by
  rw [show 2 * N + 1 = N + (N + 1) by omega, sumN_split, sumN_head, sumN_rev N]
  have e1 : sumN N (fun j => g (-(N : Int) + ((N - 1 - j : Nat) : Int))) = sumN N fun i => g ((i : Int) + 1) := sumN_congr fun j hj => by
    rw [show -(N : Int) + ((N - 1 - j : Nat) : Int) = -((j : Int) + 1) by omega, hg]
  have e2 : g (-(N : Int) + ((N + 0 : Nat) : Int)) = g 0 := by rw [show -(N : Int) + ((N + 0 : Nat) : Int) = 0 by omega]
  have e3 : sumN N (fun i => g (-(N : Int) + ((N + (i + 1) : Nat) : Int))) = sumN N fun i => g ((i : Int) + 1) := sumN_congr fun j hj => by
    rw [show -(N : Int) + ((N + (j + 1) : Nat) : Int) = (j : Int) + 1 by omega]
  rw [e1, e2, e3]
  omega
def mx0 (v : Int) : Int := if v > 0 then v else 0
theorem cnt_lin {d t : Int} {N : Nat} (hd : 0 < d) (hN : t / d ≤ (N : Int)) : sumN N (fun j => if d * ((j : Int) + 1) ≤ t then 1 else 0) = mx0 (t / d) := by
  have key : ∀ j : Nat, d * ((j : Int) + 1) ≤ t ↔ (j : Int) + 1 ≤ t / d := fun j => by rw [Int.le_ediv_iff_mul_le hd, Int.mul_comm]
  rw [sumN_cut (n := (t / d).toNat) (by omega) fun i h1 _ => if_neg (by rw [key]; omega), sumN_congr (g := fun _ => 1) fun i hi => if_pos (by rw [key]; omega), sumN_const]
  unfold mx0
  split <;> omega
theorem sumN_sym {g : Nat → Nat → Int} (hg : ∀ i j, g i j = g j i) : ∀ N : Nat, sumN N (fun i => sumN N fun j => g i j) = sumN N (fun i => g i i) + 2 * sumN N fun j => sumN (N - 1 - j) fun i => g (j + 1 + i) j
  | 0 => rfl
  | N + 1 => by
    have e1 : sumN (N + 1) (fun i => sumN (N + 1) fun j => g i j) = sumN N (fun i => sumN N fun j => g i j) + sumN N (fun i => g i N) + (sumN N (fun j => g N j) + g N N) := by
      show sumN N (fun i => sumN N (fun j => g i j) + g i N) + (sumN N (fun j => g N j) + g N N) = _
      rw [sumN_add]
    have e2 : sumN (N + 1) (fun j => sumN (N + 1 - 1 - j) fun i => g (j + 1 + i) j) = sumN N (fun j => sumN (N - 1 - j) fun i => g (j + 1 + i) j) + sumN N fun j => g N j := by
      show sumN N (fun j => sumN (N + 1 - 1 - j) fun i => g (j + 1 + i) j) + sumN (N + 1 - 1 - N) (fun i => g (N + 1 + i) N) = _
      rw [show N + 1 - 1 - N = 0 by omega, ← sumN_add]
      rw [sumN_congr (g := fun j => sumN (N - 1 - j) (fun i => g (j + 1 + i) j) + g N j) fun j hj => by
        rw [show N + 1 - 1 - j = (N - 1 - j) + 1 by omega]
        show sumN (N - 1 - j) _ + g (j + 1 + (N - 1 - j)) j = _
        rw [show j + 1 + (N - 1 - j) = N by omega]]
      show _ + (0 : Int) = _
      omega
    have e3 : sumN N (fun i => g i N) = sumN N fun j => g N j := sumN_congr fun i _ => hg i N
    rw [e1, e2, e3, sumN_sym hg N]
    show _ = sumN N (fun i => g i i) + g N N + _
    omega
/-- how many rests of a row come back -/
def rowsB (p Q : Int) : Int := mx0 (((p * p + Q * Q - 1) / 2 - p) / (p + Q))
def backN (p Q : Int) : Int := 1 + 4 * ((p * p + Q * Q - 1) / 2 / p) + 4 * ((p * p + Q * Q - 1) / 2 / (p + Q)) + 8 * (fs (rowsB p Q).toNat p (-Q) ((p * p + Q * Q - 1) / 2 - Q) - rowsB p Q * (rowsB p Q + 1) / 2)
def octP (p Q h m n : Int) : Prop := p * absI m + Q * absI n ≤ h ∧ Q * absI m + p * absI n ≤ h
instance (p Q h m n : Int) : Decidable (octP p Q h m n) := by unfold octP; infer_instance
theorem absI_nn (m : Int) : 0 ≤ absI m := by unfold absI; split <;> omega
theorem absI_le {m a : Int} : absI m ≤ a ↔ -a ≤ m ∧ m ≤ a := by unfold absI; split <;> omega
theorem two_abs {U V h : Int} : absI U + absI V ≤ h ↔ (-h ≤ U + V ∧ U + V ≤ h) ∧ -h ≤ U - V ∧ U - V ≤ h := by unfold absI; split <;> split <;> omega
theorem absI_mul {a b : Int} (h : 0 ≤ a) : absI (a * b) = a * absI b := by
  unfold absI
  rcases Int.lt_or_le b 0 with z | z
  · rw [if_pos z]
    split
    · rw [Int.mul_neg]
    · have := Int.mul_le_mul_of_nonneg_left (show b ≤ 0 by omega) h
      rw [Int.mul_zero] at this
      have e : a * b = 0 := by omega
      rw [Int.mul_neg, e]
      rfl
  · have := Int.mul_nonneg h z
    rw [if_neg (show ¬ b < 0 by omega), if_neg (show ¬ a * b < 0 by omega)]
theorem absI_mulQ (q b : Int) : absI (q * b) = absI q * absI b := by
  unfold absI
  rcases Int.lt_or_le q 0 with z | z
  · rw [if_pos z]
    have := absI_mul (a := -q) (b := b) (by omega)
    have e := absI_neg (q * b)
    rw [← Int.neg_mul, this] at e
    unfold absI at e
    exact e.symm
  · rw [if_neg (show ¬ q < 0 by omega)]
    exact absI_mul z
theorem oct_iff {p q k : Int} (h : Tn p q k) (m n : Int) : (isR p q m n ∧ isC p q m n) ↔ octP p (absI q) ((cc p q - 1) / 2) m n := by
  have ho := cc_odd h
  have h1 := h.p1
  unfold isR isC octP
  rw [← absI_mul (a := p) (b := m) (by omega), ← absI_mul (a := p) (b := n) (by omega), ← absI_mulQ, ← absI_mulQ, two_abs, two_abs]
  generalize p * m = a
  generalize p * n = b
  generalize q * m = c
  generalize q * n = d
  omega
theorem cc_abs (p q : Int) : p * p + absI q * absI q = cc p q := by
  unfold absI cc
  split
  · rw [Int.neg_mul_neg]
  · rfl
theorem tn_abs {p q k : Int} (h : Tn p q k) : 0 ≤ absI q ∧ absI q < p := by
  have := h.q1
  have := h.q2
  unfold absI
  split <;> omega
theorem back_count {p q k : Int} (h : Tn p q k) : ((restL p q).map fun t => if isC p q t.1 t.2 then (1 : Int) else 0).sum = backN p (absI q) := by
  have ho := cc_odd h
  have h0 := cc_pos h
  have hp := h.p1
  obtain ⟨hq0, hqp⟩ := tn_abs h
  have hc : p * p + absI q * absI q = cc p q := cc_abs p q
  rw [restL_sum]
  obtain ⟨Q, hQ⟩ : ∃ Q, Q = absI q := ⟨_, rfl⟩
  obtain ⟨hf, hhf⟩ : ∃ hf, hf = (cc p q - 1) / 2 := ⟨_, rfl⟩
  have e0 : ∀ i j : Int, (if isR p q i j then (if isC p q i j then (1 : Int) else 0) else 0) = if octP p Q hf i j then 1 else 0 := fun i j => by
    have := oct_iff h i j
    rw [← hQ, ← hhf] at this
    by_cases a : isR p q i j
    · by_cases b : isC p q i j
      · rw [if_pos a, if_pos b, if_pos (this.mp ⟨a, b⟩)]
      · rw [if_pos a, if_neg b, if_neg fun z => b (this.mpr z).2]
    · rw [if_neg a, if_neg fun z => a (this.mpr z).1]
  rw [sumN_congr fun i _ => sumN_congr fun j _ => e0 _ _]
  obtain ⟨N, hN⟩ : ∃ N : Nat, (N : Int) = p := ⟨p.toNat, by omega⟩
  have hNN : (2 * p + 1).toNat = 2 * N + 1 := by omega
  rw [hNN]
  have hsq : 2 * hf + 1 = p * p + Q * Q := by rw [hQ, hc, hhf]; omega
  unfold backN rowsB
  rw [← hQ] at hq0 hqp hc ⊢
  rw [show (p * p + Q * Q - 1) / 2 = hf by rw [hc, hhf]]
  clear e0 hhf hQ ho h0 hc h
  have qq : Q * Q ≤ p * Q := Int.mul_le_mul_of_nonneg_right (by omega) hq0
  have qq2 : p * Q ≤ p * (p - 1) := Int.mul_le_mul_of_nonneg_left (by omega) (by omega)
  have qq0 : 0 ≤ Q * Q := Int.mul_nonneg hq0 hq0
  rw [Int.mul_sub, Int.mul_one] at qq2
  have hh : hf < p * p := by omega
  have hdp : hf / p < p := (Int.ediv_lt_iff_lt_mul (by omega)).mpr hh
  have hf0 : 0 ≤ hf := by have := Int.mul_le_mul_of_nonneg_left hp (show 0 ≤ p by omega); omega
  -- even in both
  have ev1 : ∀ m n, octP p Q hf (-m) n ↔ octP p Q hf m n := fun m n => by unfold octP; rw [absI_neg]
  have ev2 : ∀ m n, octP p Q hf m (-n) ↔ octP p Q hf m n := fun m n => by unfold octP; rw [absI_neg]
  rw [← hN]
  rw [sumN_even (g := fun m => sumN (2 * N + 1) fun j => if octP N Q hf m (-(N : Int) + (j : Int)) then 1 else 0) fun m => by
    refine sumN_congr fun j _ => ?_
    rw [hN]
    simp only [ev1]]
  have inner : ∀ m : Int, sumN (2 * N + 1) (fun j => if octP N Q hf m (-(N : Int) + (j : Int)) then (1 : Int) else 0) = (if octP N Q hf m 0 then 1 else 0) + 2 * sumN N fun j => if octP N Q hf m ((j : Int) + 1) then 1 else 0 := fun m =>
    sumN_even (g := fun n => if octP N Q hf m n then 1 else 0) (fun n => by rw [hN]; simp only [ev2]) N
  rw [inner 0, sumN_congr fun i _ => inner _, sumN_add, sumN_mul]
  rw [hN]
  -- the middle, the axes
  have a0 : (if octP p Q hf 0 0 then (1 : Int) else 0) = 1 := if_pos (by unfold octP; show p * 0 + Q * 0 ≤ hf ∧ Q * 0 + p * 0 ≤ hf; omega)
  have pos : ∀ j : Nat, absI ((j : Int) + 1) = (j : Int) + 1 := fun j => absI_pos (by omega)
  have ax : ∀ j : Nat, p * ((j : Int) + 1) ≤ hf → Q * ((j : Int) + 1) ≤ hf := fun j hj => Int.le_trans (Int.mul_le_mul_of_nonneg_right (by omega) (by omega)) hj
  have a1 : sumN N (fun j => if octP p Q hf 0 ((j : Int) + 1) then (1 : Int) else 0) = hf / p := by
    rw [sumN_congr (g := fun j => if p * ((j : Int) + 1) ≤ hf then (1 : Int) else 0) fun j _ => by
      have : octP p Q hf 0 ((j : Int) + 1) ↔ p * ((j : Int) + 1) ≤ hf := by
        unfold octP
        rw [pos]
        show p * 0 + Q * ((j : Int) + 1) ≤ hf ∧ Q * 0 + p * ((j : Int) + 1) ≤ hf ↔ _
        have := ax j
        omega
      simp only [this]]
    rw [cnt_lin (by omega) (by omega)]
    unfold mx0
    have := Int.ediv_nonneg hf0 (show 0 ≤ p by omega)
    split <;> omega
  have a2 : sumN N (fun j => if octP p Q hf ((j : Int) + 1) 0 then (1 : Int) else 0) = hf / p := by
    rw [← a1]
    refine sumN_congr fun j _ => ?_
    have : octP p Q hf ((j : Int) + 1) 0 ↔ octP p Q hf 0 ((j : Int) + 1) := by
      unfold octP
      have := absI_nn 0
      omega
    simp only [this]
  rw [a0, a1, a2]
  -- both from 1 on
  have s0 := sumN_sym (g := fun i j => if octP p Q hf ((i : Int) + 1) ((j : Int) + 1) then (1 : Int) else 0) (fun i j => by
    have : octP p Q hf ((i : Int) + 1) ((j : Int) + 1) ↔ octP p Q hf ((j : Int) + 1) ((i : Int) + 1) := by unfold octP; omega
    simp only [this]) N
  rw [s0]
  have d1 : sumN N (fun i => if octP p Q hf ((i : Int) + 1) ((i : Int) + 1) then (1 : Int) else 0) = hf / (p + Q) := by
    have le1 : hf / (p + Q) ≤ hf / p := by
      refine (Int.le_ediv_iff_mul_le (by omega)).mpr ?_
      have n0 := Int.ediv_nonneg hf0 (show 0 ≤ p + Q by omega)
      have n1 := Int.mul_le_mul_of_nonneg_left (show p ≤ p + Q by omega) n0
      have n2 := Int.ediv_mul_le hf (show p + Q ≠ 0 by omega)
      omega
    rw [sumN_congr (g := fun j => if (p + Q) * ((j : Int) + 1) ≤ hf then (1 : Int) else 0) fun j _ => by
      have : octP p Q hf ((j : Int) + 1) ((j : Int) + 1) ↔ (p + Q) * ((j : Int) + 1) ≤ hf := by
        unfold octP
        rw [pos, Int.add_mul]
        omega
      simp only [this]]
    rw [cnt_lin (by omega) (by omega)]
    unfold mx0
    have := Int.ediv_nonneg hf0 (show 0 ≤ p + Q by omega)
    split <;> omega
  have d2 : sumN N (fun j => sumN (N - 1 - j) fun i => if octP p Q hf (((j + 1 + i : Nat) : Int) + 1) ((j : Int) + 1) then (1 : Int) else 0) = fs (mx0 ((hf - p) / (p + Q))).toNat p (-Q) (hf - Q) - mx0 ((hf - p) / (p + Q)) * (mx0 ((hf - p) / (p + Q)) + 1) / 2 := by
    have each : ∀ j, j < N → sumN (N - 1 - j) (fun i => if octP p Q hf (((j + 1 + i : Nat) : Int) + 1) ((j : Int) + 1) then (1 : Int) else 0) = mx0 ((hf - (p + Q) * ((j : Int) + 1)) / p) := fun j hj => by
      rw [sumN_congr (g := fun i => if p * ((i : Int) + 1) ≤ hf - (p + Q) * ((j : Int) + 1) then (1 : Int) else 0) fun i _ => by
        have : octP p Q hf (((j + 1 + i : Nat) : Int) + 1) ((j : Int) + 1) ↔ p * ((i : Int) + 1) ≤ hf - (p + Q) * ((j : Int) + 1) := by
          unfold octP
          rw [pos, pos]
          have c1 : (((j + 1 + i : Nat) : Int)) + 1 = ((i : Int) + 1) + ((j : Int) + 1) := by omega
          have c2 : Q * ((i : Int) + 1) ≤ p * ((i : Int) + 1) := Int.mul_le_mul_of_nonneg_right (by omega) (by omega)
          rw [c1]
          simp only [Int.mul_add, Int.add_mul, Int.mul_one] at c2 ⊢
          omega
        simp only [this]]
      refine cnt_lin (by omega) ?_
      have c3 : (hf - (p + Q) * ((j : Int) + 1)) / p < (N : Int) - 1 - (j : Int) + 1 := by
        refine (Int.ediv_lt_iff_lt_mul (by omega)).mpr ?_
        have c4 : 0 ≤ Q * ((j : Int) + 1) := Int.mul_nonneg hq0 (by omega)
        rw [hN]
        have : (p - 1 - (j : Int) + 1) * p = p * p - p * ((j : Int) + 1) + p := by grind
        rw [this, Int.add_mul]
        omega
      omega
    rw [sumN_congr each]
    obtain ⟨r, hr⟩ : ∃ r, r = mx0 ((hf - p) / (p + Q)) := ⟨_, rfl⟩
    rw [← hr]
    have r0 : 0 ≤ r := by rw [hr]; unfold mx0; split <;> omega
    have rN : r ≤ (N : Int) := by
      have : (hf - p) / (p + Q) < p := by
        refine (Int.ediv_lt_iff_lt_mul (by omega)).mpr ?_
        rw [Int.mul_add]
        have := Int.mul_nonneg (show 0 ≤ p by omega) hq0
        omega
      rw [hr, hN]
      unfold mx0
      split <;> omega
    have iffr : ∀ j : Nat, (j : Int) + 1 ≤ r ↔ (p + Q) * ((j : Int) + 1) ≤ hf - p := fun j => by
      have : (j : Int) + 1 ≤ (hf - p) / (p + Q) ↔ (p + Q) * ((j : Int) + 1) ≤ hf - p := by rw [Int.le_ediv_iff_mul_le (by omega), Int.mul_comm]
      rw [← this, hr]
      unfold mx0
      split <;> omega
    rw [sumN_cut (n := r.toNat) (by omega) fun j h1 h2 => by
      have := iffr j
      have c5 : (hf - (p + Q) * ((j : Int) + 1)) / p < 1 := (Int.ediv_lt_iff_lt_mul (by omega)).mpr (by omega)
      unfold mx0
      split <;> omega]
    have sumi : sumN r.toNat (fun j => ((j : Int) + 1)) = r * (r + 1) / 2 := by
      rw [sumN_add, sumN_id, sumN_const]
      have : ((r.toNat : Nat) : Int) = r := by omega
      rw [this, Int.mul_one, show r * (r + 1) = r * (r - 1) + r * 2 by grind, Int.add_mul_ediv_right _ _ (by decide)]
    rw [← sumi]
    unfold fs
    rw [← sumN_sub]
    refine sumN_congr fun j hj => ?_
    have := (iffr j).mp (by omega)
    have c6 : hf - (p + Q) * ((j : Int) + 1) = (-Q * (j : Int) + (hf - Q)) + -((j : Int) + 1) * p := by grind
    have c7 : 1 ≤ (hf - (p + Q) * ((j : Int) + 1)) / p := (Int.le_ediv_iff_mul_le (by omega)).mpr (by omega)
    unfold mx0
    rw [if_pos (by omega), c6, Int.add_mul_ediv_right _ _ (by omega)]
    omega
  rw [d1, d2]
  omega

end Tp
namespace Tp
open PySem PySem.Spec PyProof.Rows L2 DL
def con_backn : Con := fun ds S Q => ∃ p q k : Int, ds = [.tup [.int p, .int q, .int k]] ∧ Tn p q k ∧ Q (.int (backN p (absI q))) S
theorem cb_row {p q k : Int} (h : Tn p q k) (x y : Int) : sumN (cc p q).toNat (fun j => if cbB p q k (x + (j : Int)) y = true then (1 : Int) else 0) = backN p (absI q) := by
  rw [← back_count h, ← row_sum h x y (.inl ⟨rfl, rfl⟩) fun t => if isC p q t.1 t.2 then (1 : Int) else 0]
  refine sumN_congr fun j _ => ?_
  rw [show x + 1 * (j : Int) = x + j by omega, show y + 0 * (j : Int) = y by omega]
  have := back_iff h (x + (j : Int)) y
  unfold cbB
  simp only [decide_eq_true_eq, this]
def con_undone : Con := fun ds S Q => ∃ p q k x y : Int, ds = [.tup [.int p, .int q, .int k], .tup [.int x, .int y]] ∧ Tn p q k ∧ (Bd 700 x ∧ Bd 700 y) ∧ Q (.tup [.int (imX p (-q) (-k % 4) x y), .int (imY p (-q) (-k % 4) x y)]) S
def con_r14 : Con := fun ds S Q => ∃ p q k x y : Int, ds = [.tup [.int p, .int q, .int k], .int x, .int y] ∧ Tn p q k ∧ p ≤ 40 ∧ (Bd 160 x ∧ Bd 160 y) ∧ Q (.bl true) S
def os14 : List (Int × Int × Int) := [(4, 1, 0), (2, 1, 3), (1, 0, 0), (15, 4, 0), (5, -2, 1), (7, 2, 2)]
theorem os14_tn (t : Int × Int × Int) (h : t ∈ os14) : Tn t.1 t.2.1 t.2.2 := by
  simp only [os14, List.mem_cons, List.not_mem_nil, or_false] at h
  rcases h with z | z | z | z | z | z <;> subst z <;> exact ⟨by decide +kernel, by decide +kernel, by decide +kernel, by decide +kernel, by decide +kernel, by decide +kernel, by decide +kernel, by decide +kernel⟩
def bk14 (t : Int × Int × Int) : D := .int (backN t.1 (absI t.2.1))
theorem told14 : D.lst ((os14.map bk14).take 6) = .lst [.int 13, .int 5, .int 1, .int 201, .int 25, .int 45] := by
  show D.lst [.int (backN 4 (absI 1)), .int (backN 2 (absI 1)), .int (backN 1 (absI 0)), .int (backN 15 (absI 4)), .int (backN 5 (absI (-2))), .int (backN 7 (absI 2))] = _
  rw [show backN 4 (absI 1) = 13 by decide +kernel, show backN 2 (absI 1) = 5 by decide +kernel, show backN 1 (absI 0) = 1 by decide +kernel, show backN 15 (absI 4) = 201 by decide +kernel, show backN 5 (absI (-2)) = 25 by decide +kernel, show backN 7 (absI 2) = 45 by decide +kernel]
theorem rows_bd {p q k : Int} (h : Tn p q k) : 0 ≤ rowsB p (absI q) ∧ rowsB p (absI q) ≤ p := by
  obtain ⟨hq0, hqp⟩ := tn_abs h
  have hp := h.p1
  have qq : absI q * absI q ≤ p * absI q := Int.mul_le_mul_of_nonneg_right (by omega) hq0
  have : ((p * p + absI q * absI q - 1) / 2 - p) / (p + absI q) < p + 1 := by
    refine (Int.ediv_lt_iff_lt_mul (by omega)).mpr ?_
    have e : (p + 1) * (p + absI q) = p * p + p * absI q + (p + absI q) := by grind
    have n := Int.mul_nonneg (show 0 ≤ p by omega) (show 0 ≤ p by omega)
    have b0 := Int.mul_nonneg (show 0 ≤ p by omega) hq0
    rw [e]
    omega
  unfold rowsB mx0
  split <;> omega
theorem fs_less {s d : Int} (h0 : 0 < d) (h : s < d) : s.toNat < d.toNat := by omega
theorem bk_bd {p Q r : Int} (r0 : 0 ≤ r) (bR : Bd 50 r) (b1 : Bd 50 p) (bQ : Bd 50 Q) : Bd 310 (fs r.toNat p (-Q) ((p * p + Q * Q - 1) / 2 - Q)) := by
  have b3 : Bd 104 ((p * p + Q * Q - 1) / 2 - Q) := ((((b1.mul b1).add (bQ.mul bQ)).sub (Bd.lit 1)).div.sub bQ).up (by decide +kernel)
  exact (bd_fs (k := 50) (m := 54) r0 bR (bQ.neg.up (by decide)) b3).up (by decide)
theorem backN_le {p q k : Int} (h : Tn p q k) : 0 ≤ backN p (absI q) ∧ backN p (absI q) ≤ cc p q := by
  have h0 := cc_pos h
  have e := cb_row h 0 0
  have h1 := sumN_nn (f := fun j : Nat => if cbB p q k (0 + (j : Int)) 0 = true then (1 : Int) else 0) (n := (cc p q).toNat) fun i _ => by split <;> omega
  have h2 := sumN_le (f := fun j : Nat => if cbB p q k (0 + (j : Int)) 0 = true then (1 : Int) else 0) (g := fun _ => 1) (n := (cc p q).toNat) fun i _ => by split <;> omega
  rw [sumN_const] at h2
  omega
theorem backN_bd {p q k : Int} (h : Tn p q k) : Bd 101 (backN p (absI q)) := Bd.of_le (backN_le h).1 (backN_le h).2 (Bd.cc h.bp h.bq)

end Tp
namespace Tp
open PySem PySem.Spec PyProof.Rows L2 DL
/-! ### pairs of a row -/
def isH (c v : Int) : Prop := -c < 2 * v ∧ 2 * v < c
instance (c v : Int) : Decidable (isH c v) := by unfold isH; infer_instance
theorem isH_neg {c v : Int} : isH c (-v) ↔ isH c v := by unfold isH; omega
theorem rs_mod {c e h : Int} (hc : c = 2 * h + 1) (h0 : 0 < c) : (e + h) % c = rs e c + h := by
  have n := rs_near (e := e) (c := c) (by omega) h0
  have e1 : e + h = (rs e c + h) + c * nrr e c := by unfold rs; omega
  rw [e1, Int.add_mul_emod_self_left]
  exact Int.emod_eq_of_lt (by omega) (by omega)
theorem rs_neg {c e : Int} (h : c % 2 = 1) (h0 : 0 < c) : rs (-e) c = -rs e c := by
  unfold rs
  rw [nrr_neg h h0, Int.mul_neg]
  omega
/-- two pixels have one image, by what is left over -/
theorem nrr_same {c e d : Int} (ho : c % 2 = 1) (h0 : 0 < c) : nrr (e + d) c = nrr e c ↔ isH c (rs e c + d) := by
  constructor
  · intro z
    have n := rs_near (e := e + d) ho h0
    have : rs (e + d) c = rs e c + d := by unfold rs; rw [z]; omega
    rw [this] at n
    exact n
  · intro z
    have : e + d = (rs e c + d) + c * nrr e c := by unfold rs; omega
    rw [this, nrr_of z]
theorem im_k0 {p q k x y z w : Int} (h : Tn p q k) : (imX p q k x y = imX p q k z w ∧ imY p q k x y = imY p q k z w) ↔ imX p q 0 x y = imX p q 0 z w ∧ imY p q 0 x y = imY p q 0 z w := by
  have hk : 0 ≤ k ∧ k < 4 := ⟨h.k1, by have := h.k2; omega⟩
  have e1 := im_rot (Tn.zero h) hk x y
  have e2 := im_rot (Tn.zero h) hk z w
  have z1 : (0 + k) % 4 = k := by omega
  have z2 : k % 4 = k := by omega
  rw [z1, z2] at e1 e2
  rw [e1.1, e1.2, e2.1, e2.2]
  rcases four hk with g | g | g | g <;> subst g
  · exact Iff.rfl
  · show -imY p q 0 x y = -imY p q 0 z w ∧ imX p q 0 x y = imX p q 0 z w ↔ _
    omega
  · show -imX p q 0 x y = -imX p q 0 z w ∧ -imY p q 0 x y = -imY p q 0 z w ↔ _
    omega
  · show imY p q 0 x y = imY p q 0 z w ∧ -imX p q 0 x y = -imX p q 0 z w ↔ _
    omega
/-- the condition that a pixel and the one beside it have one image -/
def meetO (p q dx dy X Y : Int) : Prop := isH (cc p q) (X + ((p * p - q * q) * dx - 2 * p * q * dy)) ∧ isH (cc p q) (Y + ((p * p - q * q) * dy + 2 * p * q * dx))
instance (p q dx dy X Y : Int) : Decidable (meetO p q dx dy X Y) := by unfold meetO; infer_instance
theorem same_off {p q k : Int} (h : Tn p q k) (x y dx dy : Int) : (imX p q k (x + dx) (y + dy) = imX p q k x y ∧ imY p q k (x + dx) (y + dy) = imY p q k x y) ↔ meetO p q dx dy (p * reX p q x y - q * reY p q x y) (p * reY p q x y + q * reX p q x y) := by
  rw [im_k0 h, (off_rs p q x y).1, (off_rs p q x y).2]
  unfold meetO
  have ho := cc_odd h
  have h0 := cc_pos h
  rw [← nrr_same ho h0, ← nrr_same ho h0]
  have e1 : ∀ a b, imX p q 0 a b = nrr (exX p q 0 a b) (cc p q) := fun a b => by unfold imX; rfl
  have e2 : ∀ a b, imY p q 0 a b = nrr (exY p q 0 a b) (cc p q) := fun a b => by unfold imY; rfl
  rw [e1, e1, e2, e2]
  have f1 : exX p q 0 (x + dx) (y + dy) = exX p q 0 x y + ((p * p - q * q) * dx - 2 * p * q * dy) := by rw [(ex0 p q _ _).1, (ex0 p q _ _).1]; grind
  have f2 : exY p q 0 (x + dx) (y + dy) = exY p q 0 x y + ((p * p - q * q) * dy + 2 * p * q * dx) := by rw [(ex0 p q _ _).2, (ex0 p q _ _).2]; grind
  rw [f1, f2]
/-- how many rests meet in a direction -/
def meetC (p q dx dy : Int) : Int := ((restL p q).map fun t => if meetO p q dx dy (p * t.1 - q * t.2) (p * t.2 + q * t.1) then (1 : Int) else 0).sum
theorem meetC_X {p q k f : Int} (h : Tn p q k) (hf : Fac p q f) (dx dy : Int) : meetC p q dx dy = sumN (cc p q).toNat fun i => if meetO p q dx dy ((i : Int) - (cc p q - 1) / 2) (rs (f * ((i : Int) - (cc p q - 1) / 2)) (cc p q)) then (1 : Int) else 0 :=
  rest_sum h hf fun X Y => if meetO p q dx dy X Y then (1 : Int) else 0
/-- the other way -/
theorem meetC_neg {p q k : Int} (h : Tn p q k) (dx dy : Int) : meetC p q (-dx) (-dy) = meetC p q dx dy := by
  obtain ⟨f, hf⟩ := fac_ex h
  have ho := cc_odd h
  have h0 := cc_pos h
  rw [meetC_X h hf, meetC_X h hf, sumN_rev]
  refine sumN_congr fun i hi => ?_
  obtain ⟨m, hm⟩ : ∃ m, m = (cc p q - 1) / 2 := ⟨_, rfl⟩
  rw [← hm]
  have e1 : ((((cc p q).toNat - 1 - i : Nat) : Int)) - m = -((i : Int) - m) := by omega
  rw [e1, Int.mul_neg, rs_neg ho h0]
  have : meetO p q (-dx) (-dy) (-((i : Int) - m)) (-rs (f * ((i : Int) - m)) (cc p q)) ↔ meetO p q dx dy ((i : Int) - m) (rs (f * ((i : Int) - m)) (cc p q)) := by
    unfold meetO
    rw [← isH_neg (v := (i : Int) - m + _), ← isH_neg (v := rs (f * ((i : Int) - m)) (cc p q) + _)]
    have a1 : -((i : Int) - m) + ((p * p - q * q) * -dx - 2 * p * q * -dy) = -((i : Int) - m + ((p * p - q * q) * dx - 2 * p * q * dy)) := by grind
    have a2 : -rs (f * ((i : Int) - m)) (cc p q) + ((p * p - q * q) * -dy + 2 * p * q * -dx) = -(rs (f * ((i : Int) - m)) (cc p q) + ((p * p - q * q) * dy + 2 * p * q * dx)) := by grind
    rw [a1, a2]
  simp only [this]
/-- the mirror turn -/
theorem meetC_mir {p q k : Int} (h : Tn p q k) : meetC p (-q) 1 0 = meetC p q 1 0 := by
  obtain ⟨f, hf⟩ := fac_ex h
  have ho := cc_odd h
  have h0 := cc_pos h
  have h' : Tn p (-q) ((4 - k) % 4) := tn_bk h
  have hf' : Fac p (-q) (-f) := by
    obtain ⟨r, e⟩ := hf
    refine ⟨-r, ?_⟩
    rw [cc_neg, Int.mul_neg, ← e]
    grind
  rw [meetC_X h hf, meetC_X h' hf', cc_neg]
  refine sumN_congr fun i hi => ?_
  rw [Int.neg_mul, rs_neg ho h0]
  generalize (i : Int) - (cc p q - 1) / 2 = X
  have : meetO p (-q) 1 0 X (-rs (f * X) (cc p q)) ↔ meetO p q 1 0 X (rs (f * X) (cc p q)) := by
    unfold meetO
    rw [cc_neg, ← isH_neg (v := rs (f * X) (cc p q) + _)]
    have a1 : X + ((p * p - -q * -q) * 1 - 2 * p * -q * 0) = X + ((p * p - q * q) * 1 - 2 * p * q * 0) := by grind
    have a2 : -rs (f * X) (cc p q) + ((p * p - -q * -q) * 0 + 2 * p * -q * 1) = -(rs (f * X) (cc p q) + ((p * p - q * q) * 0 + 2 * p * q * 1)) := by grind
    rw [a1, a2]
  simp only [this]
theorem fac_sq {p q k f : Int} (h : Tn p q k) (hf : Fac p q f) : ∃ r, f * f + 1 = cc p q * r := by
  obtain ⟨r0, e0⟩ := hf
  obtain ⟨s, t, e⟩ := co_pc h
  have e1 : p * (p * (f * f + 1)) = cc p q * (1 + (f * p + q) * r0) := by
    have : p * (p * (f * f + 1)) = (f * p - q) * (f * p + q) + cc p q := by unfold cc; grind
    rw [this, e0]
    grind
  have step : ∀ Z r : Int, p * Z = cc p q * r → ∃ r', Z = cc p q * r' := fun Z r z => by
    refine ⟨s * r + t * Z, ?_⟩
    have : Z = (s * p + t * cc p q) * Z := by rw [e, Int.one_mul]
    have e2 : s * (p * Z) = s * (cc p q * r) := by rw [z]
    grind
  obtain ⟨r1, e2⟩ := step _ _ e1
  exact step _ _ e2
/-- up as to the right -/
theorem meetC_up {p q k : Int} (h : Tn p q k) : meetC p q 0 1 = meetC p q 1 0 := by
  obtain ⟨f, hf⟩ := fac_ex h
  have ho := cc_odd h
  have h0 := cc_pos h
  obtain ⟨r, er⟩ := fac_sq h hf
  rw [meetC_X h hf, meetC_X h hf]
  obtain ⟨m, hm⟩ : ∃ m, m = (cc p q - 1) / 2 := ⟨_, rfl⟩
  have key := rs_sum (e0 := f * -m) (u := f) (s := -f) (t := r) ho h0 (by rw [Int.neg_mul, show f * f = cc p q * r - 1 by omega]; grind) fun X => if meetO p q 1 0 X (rs (f * X) (cc p q)) then (1 : Int) else 0
  rw [← hm] at key ⊢
  rw [← key]
  refine sumN_congr fun i hi => ?_
  rw [show f * -m + f * (i : Int) = f * ((i : Int) - m) by grind]
  have hX : -(cc p q) < 2 * -((i : Int) - m) ∧ 2 * -((i : Int) - m) < cc p q := by omega
  generalize (i : Int) - m = X at hX ⊢
  have eY : rs (f * rs (f * X) (cc p q)) (cc p q) = -X := by
    refine rs_of hX (r := r * X - f * nrr (f * X) (cc p q)) ?_
    have : rs (f * X) (cc p q) = f * X - cc p q * nrr (f * X) (cc p q) := rfl
    rw [this, show f * (f * X - cc p q * nrr (f * X) (cc p q)) - -X = (f * f + 1) * X - cc p q * (f * nrr (f * X) (cc p q)) by grind, er]
    grind
  rw [eY]
  have : meetO p q 0 1 X (rs (f * X) (cc p q)) ↔ meetO p q 1 0 (rs (f * X) (cc p q)) (-X) := by
    unfold meetO
    rw [← isH_neg (v := X + _)]
    have a1 : -(X + ((p * p - q * q) * 0 - 2 * p * q * 1)) = -X + ((p * p - q * q) * 0 + 2 * p * q * 1) := by grind
    have a2 : rs (f * X) (cc p q) + ((p * p - q * q) * 1 + 2 * p * q * 0) = rs (f * X) (cc p q) + ((p * p - q * q) * 1 - 2 * p * q * 0) := by grind
    rw [a1, a2]
    exact And.comm
  simp only [this]
def pairN (p q : Int) : Int := meetC p q 1 0
theorem pairN_abs {p q k : Int} (h : Tn p q k) : pairN p (absI q) = meetC p q 1 0 := by
  unfold absI pairN
  split
  · exact meetC_mir h
  · rfl
/-- the pairs, by sums of floors -/
theorem pairs_fs {p q k f : Int} (h : Tn p q k) (hq : 0 ≤ q) (hf : Fac p q f) : fs (2 * q * q).toNat (cc p q) f ((cc p q - 1) / 2 - f * ((cc p q - 1) / 2)) - fs (2 * q * q).toNat (cc p q) f ((cc p q - 1) / 2 - f * ((cc p q - 1) / 2) - (p - q) * (p - q)) = pairN p q := by
  have ho := cc_odd h
  have h0 := cc_pos h
  have hp := h.p1
  have hq2 := h.q2
  have nn1 : 0 ≤ p * q := Int.mul_nonneg (by omega) hq
  have nn2 : 0 ≤ (p - q) * (p - q) := Int.mul_nonneg (by omega) (by omega)
  have nn3 : 0 ≤ q * q := Int.mul_nonneg hq hq
  have e1 : (p - q) * (p - q) = cc p q - 2 * (p * q) := by unfold cc; grind
  obtain ⟨m, hm⟩ : ∃ m, m = (cc p q - 1) / 2 := ⟨_, rfl⟩
  have hm2 : cc p q = 2 * m + 1 := by omega
  unfold pairN
  rw [fs_count h0 nn2 (by omega), meetC_X h hf, ← hm]
  have e2 : cc p q - (p * p - q * q) = 2 * (q * q) := by unfold cc; grind
  have e3 : 2 * q * q = 2 * (q * q) := by grind
  have qp : q * q ≤ p * q := Int.mul_le_mul_of_nonneg_right (by omega) hq
  have qp2 : p * q ≤ p * p := Int.mul_le_mul_of_nonneg_left (by omega) (by omega)
  rw [sumN_cut (n := (2 * q * q).toNat) (m := (cc p q).toNat) (by rw [e3]; unfold cc at *; omega) fun i h1 h2 => by
    refine if_neg fun z => ?_
    have z1 := z.1.2
    rw [Int.mul_one, Int.mul_zero] at z1
    omega]
  refine sumN_congr fun i hi => ?_
  have e4 : f * (i : Int) + (m - f * m) = f * ((i : Int) - m) + m := by grind
  rw [e4, rs_mod hm2 h0]
  have n := rs_near (e := f * ((i : Int) - m)) ho h0
  have : meetO p q 1 0 ((i : Int) - m) (rs (f * ((i : Int) - m)) (cc p q)) ↔ rs (f * ((i : Int) - m)) (cc p q) + m < (p - q) * (p - q) := by
    unfold meetO isH
    rw [Int.mul_one, Int.mul_zero, Int.mul_zero, Int.mul_one]
    have e5 : 2 * p * q = 2 * (p * q) := by grind
    rw [e1, e5]
    omega
  simp only [this]

end Tp
namespace Tp
open PySem PySem.Spec PyProof.Rows L2 DL
/-! ### places of a row and what comes to them -/
theorem rt_zero {k : Int} (h : 0 ≤ k ∧ k < 4) {a b : Int} (e1 : rtX k.toNat a b = 0) (e2 : rtY k.toNat a b = 0) : a = 0 ∧ b = 0 := by
  rcases four h with g | g | g | g <;> subst g
  · exact ⟨e1, e2⟩
  · have e1 : -b = 0 := e1
    have e2 : a = 0 := e2
    omega
  · have e1 : -a = 0 := e1
    have e2 : -b = 0 := e2
    omega
  · have e1 : b = 0 := e1
    have e2 : -a = 0 := e2
    omega
theorem src_uniq {p q k x1 x2 y a b z w : Int} (h : Tn p q k) (hx : -(cc p q) < x1 - x2 ∧ x1 - x2 < cc p q) (e1 : imX p q k a b = x1) (e2 : imY p q k a b = y) (e3 : imX p q k z w = x2) (e4 : imY p q k z w = y) (r1 : reX p q a b = reX p q z w) (r2 : reY p q a b = reY p q z w) : x1 = x2 ∧ a = z ∧ b = w := by
  have hk4 : 0 ≤ k ∧ k < 4 := ⟨h.k1, by have := h.k2; omega⟩
  have h0 := cc_pos h
  obtain ⟨t, u, ea, eb⟩ := re_div h r1 r2
  have m := im_move h z w t u
  rw [← ea, ← eb, e1, e2, e3, e4] at m
  obtain ⟨c, d, f1, f2⟩ := rt_four hk4 p q t u
  rw [f1, f2] at m
  obtain ⟨l, h1, h2⟩ := lam_ex h
  obtain ⟨r, er⟩ := lam_to (a := c) (b := d) h1 h2
  have z2 : p * d + q * c = 0 := by omega
  rw [z2, Int.mul_zero] at er
  have hr : r = 0 := by
    rcases Int.lt_trichotomy r 0 with g | g | g
    · have := Int.mul_le_mul_of_nonneg_left (show r ≤ -1 by omega) (show 0 ≤ cc p q by omega)
      omega
    · exact g
    · have := Int.mul_le_mul_of_nonneg_left (show 1 ≤ r by omega) (show 0 ≤ cc p q by omega)
      omega
  rw [hr, Int.mul_zero] at er
  have z1 : p * c - q * d = 0 := by omega
  rw [z1] at f1 m
  rw [z2] at f2
  obtain ⟨g1, g2⟩ := rt_zero hk4 f1 f2
  obtain ⟨t0, u0⟩ := u_cancel (a := t) (b := u) (c := 0) (d := 0) h0 (by rw [g1]; simp) (by rw [g2]; simp)
  rw [t0, u0] at ea eb
  simp at ea eb
  exact ⟨by omega, ea, eb⟩
theorem srcL_nodup (p q k x y : Int) : (srcL p q k x y).Nodup := by
  unfold srcL srcA
  refine List.Pairwise.filter _ (List.pairwise_map.mpr ?_)
  have : ar5.Nodup := by decide
  exact this.imp fun {a b} hab e => hab (Prod.ext (by have := congrArg Prod.fst e; simpa using this) (by have := congrArg Prod.snd e; simpa using this))
theorem srcRest_perm {p q k : Int} (h : Tn p q k) (x y : Int) : ((List.range (cc p q).toNat).flatMap fun j : Nat => (srcL p q k (x + (j : Int)) y).map fun t => (reX p q t.1 t.2, reY p q t.1 t.2)).Perm (restL p q) := by
  have h0 := cc_pos h
  have hk4 : 0 ≤ k ∧ k < 4 := ⟨h.k1, by have := h.k2; omega⟩
  refine (List.perm_ext_iff_of_nodup ?_ (restL_nodup p q)).mpr fun t => ?_
  · refine List.pairwise_flatMap.mpr ⟨fun j _ => ?a, ?b⟩
    case a =>
      refine List.pairwise_map.mpr ((srcL_nodup p q k _ y).imp_of_mem fun {s t} hs ht hst e => hst ?_)
      have e1 := (srcL_mem h).mp (show (s.1, s.2) ∈ srcL p q k (x + (j : Int)) y from hs)
      have e2 := (srcL_mem h).mp (show (t.1, t.2) ∈ srcL p q k (x + (j : Int)) y from ht)
      obtain ⟨_, f1, f2⟩ := src_uniq h (by omega) e1.1 e1.2 e2.1 e2.2 (congrArg Prod.fst e) (congrArg Prod.snd e)
      exact Prod.ext f1 f2
    case b =>
      refine List.pairwise_lt_range.imp_of_mem ?_
      intro i j hi hj hij s hs t ht e
      have hi := List.mem_range.mp hi
      have hj := List.mem_range.mp hj
      obtain ⟨a, ha, rfl⟩ := List.mem_map.mp hs
      obtain ⟨b, hb, rfl⟩ := List.mem_map.mp ht
      have e1 := (srcL_mem h).mp (show (a.1, a.2) ∈ srcL p q k (x + (i : Int)) y from ha)
      have e2 := (srcL_mem h).mp (show (b.1, b.2) ∈ srcL p q k (x + (j : Int)) y from hb)
      obtain ⟨f0, _, _⟩ := src_uniq h (by omega) e1.1 e1.2 e2.1 e2.2 (congrArg Prod.fst e) (congrArg Prod.snd e)
      omega
  · constructor
    · intro ht
      obtain ⟨j, _, hj⟩ := List.mem_flatMap.mp ht
      obtain ⟨s, _, rfl⟩ := List.mem_map.mp hj
      exact (restL_mem h).mpr (re_is h _ _)
    · intro ht
      obtain ⟨j0, _, e0⟩ := List.mem_map.mp ((row_perm h 0 0 (.inl ⟨rfl, rfl⟩)).mem_iff.mpr ht)
      generalize (0 : Int) + 1 * (j0 : Int) = zx at e0
      generalize (0 : Int) + 0 * (j0 : Int) = zy at e0
      obtain ⟨l, h1, h2⟩ := lam_ex h
      obtain ⟨N, hN⟩ : ∃ N, N = x - imX p q k zx zy + l * (y - imY p q k zx zy) := ⟨_, rfl⟩
      have n0 := Int.emod_nonneg (-N) (show cc p q ≠ 0 by omega)
      have n1 := Int.emod_lt_of_pos (-N) h0
      have n2 := Int.emod_add_mul_ediv (-N) (cc p q)
      obtain ⟨j, hj⟩ : ∃ j : Nat, (j : Int) = (-N) % cc p q := ⟨((-N) % cc p q).toNat, by omega⟩
      obtain ⟨a, b, f1, f2⟩ := lam_of (dx := x + (j : Int) - imX p q k zx zy) (dy := y - imY p q k zx zy) h0 h1 h2 ⟨-((-N) / cc p q), by rw [Int.mul_neg]; omega⟩
      obtain ⟨a', b', g1, g2⟩ := rt_onto hk4 p q a b
      have m := im_move h zx zy a' b'
      rw [g1, g2, ← f1, ← f2] at m
      have r := re_move h0 zx zy a' b'
      refine List.mem_flatMap.mpr ⟨j, List.mem_range.mpr (by omega), List.mem_map.mpr ⟨(zx + (p * a' + q * b'), zy + (p * b' - q * a')), (srcL_mem h).mpr ⟨by rw [m.1]; omega, by rw [m.2]; omega⟩, ?_⟩⟩
      show (reX p q (zx + (p * a' + q * b')) (zy + (p * b' - q * a')), reY p q (zx + (p * a' + q * b')) (zy + (p * b' - q * a'))) = t
      rw [r.1, r.2]
      exact e0
theorem src_sum {p q k : Int} (h : Tn p q k) (x y : Int) (F : Int × Int → Int) : sumN (cc p q).toNat (fun j => ((srcL p q k (x + (j : Int)) y).map fun t => F (reX p q t.1 t.2, reY p q t.1 t.2)).sum) = ((restL p q).map F).sum := by
  have pm := (srcRest_perm h x y).map F
  rw [← perm_sum pm, sum_flat, sumN_list]
  congr 1
  refine List.map_congr_left fun j _ => ?_
  rw [List.map_map]
  rfl
theorem restL_len {p q k : Int} (h : Tn p q k) : ((restL p q).length : Int) = cc p q := by
  have := (restX_perm h).length_eq
  rw [List.length_map, List.length_map, List.length_range] at this
  have h0 := cc_pos h
  omega
theorem sum_ones {α : Type} : ∀ l : List α, (l.map fun _ => (1 : Int)).sum = l.length
  | [] => rfl
  | a :: l => by rw [List.map_cons, List.sum_cons, sum_ones l, List.length_cons]; omega
theorem hit_sum {p q k : Int} (h : Tn p q k) (x y : Int) : sumN (cc p q).toNat (fun j => ((srcL p q k (x + (j : Int)) y).length : Int)) = cc p q := by
  have e := src_sum h x y fun _ => 1
  rw [sum_ones, restL_len h] at e
  refine Eq.trans (sumN_congr fun j _ => ?_) e
  exact (sum_ones _).symm
theorem src_off {p q k x y : Int} (h : Tn p q k) (dx dy : Int) {t : Int × Int} (ht : t ∈ srcL p q k x y) : meetO p q dx dy (p * reX p q t.1 t.2 - q * reY p q t.1 t.2) (p * reY p q t.1 t.2 + q * reX p q t.1 t.2) ↔ (t.1 + dx, t.2 + dy) ∈ srcL p q k x y := by
  have e := (srcL_mem h).mp (show (t.1, t.2) ∈ srcL p q k x y from ht)
  rw [← same_off h, srcL_mem h, e.1, e.2]
theorem two_of {l : List (Int × Int)} (nd : l.Nodup) (hs : ∀ s ∈ l, ∀ t ∈ l, (s.1 = t.1 ∧ s.2 = t.2) ∨ (s.1 = t.1 + 1 ∧ s.2 = t.2) ∨ (s.1 = t.1 - 1 ∧ s.2 = t.2) ∨ (s.1 = t.1 ∧ s.2 = t.2 + 1) ∨ (s.1 = t.1 ∧ s.2 = t.2 - 1)) :
    l.length ≤ 2 ∧ (l.map fun t => (if (t.1 + 1, t.2) ∈ l then (1 : Int) else 0) + if (t.1, t.2 + 1) ∈ l then (1 : Int) else 0).sum = if l.length = 2 then 1 else 0 := by
  match l, nd, hs with
  | [], _, _ => exact ⟨Nat.zero_le _, rfl⟩
  | [(a, b)], _, _ =>
    refine ⟨by simp, ?_⟩
    have n1 : (a + 1, b) ∉ [(a, b)] := fun z => by have z := List.mem_singleton.mp z; have := congrArg Prod.fst z; have := congrArg Prod.snd z; simp at *; try omega
    have n2 : (a, b + 1) ∉ [(a, b)] := fun z => by have z := List.mem_singleton.mp z; have := congrArg Prod.fst z; have := congrArg Prod.snd z; simp at *; try omega
    show ((if (a + 1, b) ∈ [(a, b)] then (1 : Int) else 0) + if (a, b + 1) ∈ [(a, b)] then (1 : Int) else 0) + 0 = 0
    rw [if_neg n1, if_neg n2]
    rfl
  | [(a, b), (c, d)], nd, hs =>
    refine ⟨by simp, ?_⟩
    have ne : ¬ (a = c ∧ b = d) := fun z => by
      have := (List.nodup_cons.mp nd).1
      exact this (by rw [z.1, z.2]; exact List.mem_singleton.mpr rfl)
    have s := hs (c, d) (by simp) (a, b) (by simp)
    have s : (c = a ∧ d = b) ∨ (c = a + 1 ∧ d = b) ∨ (c = a - 1 ∧ d = b) ∨ (c = a ∧ d = b + 1) ∨ (c = a ∧ d = b - 1) := s
    have mm : ∀ u v : Int, (u, v) ∈ [(a, b), (c, d)] ↔ (u = a ∧ v = b) ∨ (u = c ∧ v = d) := fun u v => by simp
    show ((if (a + 1, b) ∈ [(a, b), (c, d)] then (1 : Int) else 0) + if (a, b + 1) ∈ [(a, b), (c, d)] then (1 : Int) else 0) + (((if (c + 1, d) ∈ [(a, b), (c, d)] then (1 : Int) else 0) + if (c, d + 1) ∈ [(a, b), (c, d)] then (1 : Int) else 0) + 0) = 1
    simp only [mm]
    rcases s with z | z | z | z | z
    · omega
    · rw [if_pos (by omega), if_neg (by omega), if_neg (by omega), if_neg (by omega)]; rfl
    · rw [if_neg (by omega), if_neg (by omega), if_pos (by omega), if_neg (by omega)]; rfl
    · rw [if_neg (by omega), if_pos (by omega), if_neg (by omega), if_neg (by omega)]; rfl
    · rw [if_neg (by omega), if_neg (by omega), if_neg (by omega), if_pos (by omega)]; rfl
  | (a, b) :: (c, d) :: (e, f) :: r, nd, hs =>
    exfalso
    have n1 := (List.nodup_cons.mp nd).1
    have n2 := (List.nodup_cons.mp (List.nodup_cons.mp nd).2).1
    have x1 : ¬ (a = c ∧ b = d) := fun z => n1 (by rw [z.1, z.2]; simp)
    have x2 : ¬ (a = e ∧ b = f) := fun z => n1 (by rw [z.1, z.2]; simp)
    have x3 : ¬ (c = e ∧ d = f) := fun z => n2 (by rw [z.1, z.2]; simp)
    have s1 : (c = a ∧ d = b) ∨ (c = a + 1 ∧ d = b) ∨ (c = a - 1 ∧ d = b) ∨ (c = a ∧ d = b + 1) ∨ (c = a ∧ d = b - 1) := hs (c, d) (by simp) (a, b) (by simp)
    have s2 : (e = a ∧ f = b) ∨ (e = a + 1 ∧ f = b) ∨ (e = a - 1 ∧ f = b) ∨ (e = a ∧ f = b + 1) ∨ (e = a ∧ f = b - 1) := hs (e, f) (by simp) (a, b) (by simp)
    have s3 : (e = c ∧ f = d) ∨ (e = c + 1 ∧ f = d) ∨ (e = c - 1 ∧ f = d) ∨ (e = c ∧ f = d + 1) ∨ (e = c ∧ f = d - 1) := hs (e, f) (by simp) (c, d) (by simp)
    omega
theorem src_two {p q k : Int} (h : Tn p q k) (x y : Int) : (srcL p q k x y).length ≤ 2 ∧ ((srcL p q k x y).map fun t => (if meetO p q 1 0 (p * reX p q t.1 t.2 - q * reY p q t.1 t.2) (p * reY p q t.1 t.2 + q * reX p q t.1 t.2) then (1 : Int) else 0) + if meetO p q 0 1 (p * reX p q t.1 t.2 - q * reY p q t.1 t.2) (p * reY p q t.1 t.2 + q * reX p q t.1 t.2) then (1 : Int) else 0).sum = if (srcL p q k x y).length = 2 then 1 else 0 := by
  have k2 := two_of (srcL_nodup p q k x y) fun s hs t ht => by
    have e1 := (srcL_mem h).mp (show (s.1, s.2) ∈ srcL p q k x y from hs)
    have e2 := (srcL_mem h).mp (show (t.1, t.2) ∈ srcL p q k x y from ht)
    exact im_same h (e1.1.trans e2.1.symm) (e1.2.trans e2.2.symm)
  refine ⟨k2.1, ?_⟩
  rw [← k2.2]
  congr 1
  refine List.map_congr_left fun t ht => ?_
  have i1 := src_off h 1 0 ht
  have i2 := src_off h 0 1 ht
  rw [Int.add_zero] at i1 i2
  simp only [i1, i2]
/-- how many places of a row are hit twice -/
def twN (p Q : Int) : Int := 2 * pairN p Q
theorem hit_two {p q k : Int} (h : Tn p q k) (x y : Int) : sumN (cc p q).toNat (fun j => if (srcL p q k (x + (j : Int)) y).length = 2 then (1 : Int) else 0) = twN p (absI q) := by
  rw [sumN_congr fun j _ => (src_two h (x + (j : Int)) y).2.symm]
  have s := src_sum h x y fun r => (if meetO p q 1 0 (p * r.1 - q * r.2) (p * r.2 + q * r.1) then (1 : Int) else 0) + if meetO p q 0 1 (p * r.1 - q * r.2) (p * r.2 + q * r.1) then (1 : Int) else 0
  rw [s]
  have e : ∀ (F G : Int × Int → Int) (l : List (Int × Int)), (l.map fun t => F t + G t).sum = (l.map F).sum + (l.map G).sum := fun F G l => by
    induction l with
    | nil => rfl
    | cons a l ih => rw [List.map_cons, List.sum_cons, ih, List.map_cons, List.sum_cons, List.map_cons, List.sum_cons]; omega
  rw [e]
  show meetC p q 1 0 + meetC p q 0 1 = _
  rw [meetC_up h, ← pairN_abs h]
  unfold twN
  omega
theorem hit_none {p q k : Int} (h : Tn p q k) (x y : Int) : sumN (cc p q).toNat (fun j => if (srcL p q k (x + (j : Int)) y).length = 0 then (1 : Int) else 0) = twN p (absI q) := by
  have e1 := hit_sum h x y
  have e2 := hit_two h x y
  have h0 := cc_pos h
  have e3 : sumN (cc p q).toNat (fun j => ((srcL p q k (x + (j : Int)) y).length : Int) + (if (srcL p q k (x + (j : Int)) y).length = 0 then (1 : Int) else 0)) = sumN (cc p q).toNat fun j => 1 + if (srcL p q k (x + (j : Int)) y).length = 2 then (1 : Int) else 0 := sumN_congr fun j _ => by
    have := (src_two h (x + (j : Int)) y).1
    generalize (srcL p q k (x + (j : Int)) y).length = n at *
    split <;> split <;> omega
  rw [sumN_add, sumN_add, sumN_const, e1, e2] at e3
  omega
theorem hit_one {p q k : Int} (h : Tn p q k) (x y : Int) : sumN (cc p q).toNat (fun j => if (srcL p q k (x + (j : Int)) y).length = 1 then (1 : Int) else 0) = cc p q - 2 * twN p (absI q) := by
  have e1 := hit_two h x y
  have e2 := hit_none h x y
  have h0 := cc_pos h
  have e3 : sumN (cc p q).toNat (fun j => (if (srcL p q k (x + (j : Int)) y).length = 1 then (1 : Int) else 0) + ((if (srcL p q k (x + (j : Int)) y).length = 0 then (1 : Int) else 0) + if (srcL p q k (x + (j : Int)) y).length = 2 then (1 : Int) else 0)) = sumN (cc p q).toNat fun _ => 1 := sumN_congr fun j _ => by
    have := (src_two h (x + (j : Int)) y).1
    generalize (srcL p q k (x + (j : Int)) y).length = n at *
    split <;> split <;> split <;> omega
  rw [sumN_add, sumN_add, sumN_const, e1, e2] at e3
  omega

end Tp
namespace Tp
open PySem PySem.Spec PyProof.Rows L2 DL
theorem tn_absT {p q k : Int} (h : Tn p q k) : Tn p (absI q) k := by
  have := h.q1
  have := h.q2
  have ho := h.o
  refine ⟨h.p1, h.p2, ?_, ?_, ?_, ?_, h.k1, h.k2⟩
  · unfold absI; split <;> omega
  · unfold absI; split <;> omega
  · rw [show (absI q).natAbs = q.natAbs by unfold absI; split <;> omega]; exact h.g
  · unfold absI; split <;> omega
theorem fac_inv {p q v : Int} (hv : (v * p - 1) % cc p q = 0) (h0 : 0 < cc p q) : Fac p q (q * v % cc p q) := by
  have e1 := Int.emod_add_mul_ediv (v * p - 1) (cc p q)
  have e2 := Int.emod_add_mul_ediv (q * v) (cc p q)
  rw [hv] at e1
  refine ⟨q * ((v * p - 1) / cc p q) - (q * v / cc p q) * p, ?_⟩
  rw [show q * v % cc p q = q * v - cc p q * (q * v / cc p q) by omega]
  have : q * (v * p - 1) = q * (cc p q * ((v * p - 1) / cc p q)) := by congr 1; omega
  grind
theorem pairN_le {p q k : Int} (h : Tn p q k) : 0 ≤ pairN p q ∧ pairN p q ≤ cc p q := by
  obtain ⟨f, hf⟩ := fac_ex h
  have h0 := cc_pos h
  unfold pairN
  rw [meetC_X h hf]
  have h1 := sumN_nn (f := fun i : Nat => if meetO p q 1 0 ((i : Int) - (cc p q - 1) / 2) (rs (f * ((i : Int) - (cc p q - 1) / 2)) (cc p q)) then (1 : Int) else 0) (n := (cc p q).toNat) fun i _ => by split <;> omega
  have h2 := sumN_le (f := fun i : Nat => if meetO p q 1 0 ((i : Int) - (cc p q - 1) / 2) (rs (f * ((i : Int) - (cc p q - 1) / 2)) (cc p q)) then (1 : Int) else 0) (g := fun _ => 1) (n := (cc p q).toNat) fun i _ => by split <;> omega
  rw [sumN_const] at h2
  omega
theorem pair_bds {p q k : Int} (h : Tn p q k) : Bd 101 (cc p q) ∧ Bd 101 ((cc p q - 1) / 2) ∧ Bd 101 (pairN p q) := by
  have b := Bd.cc h.bp h.bq
  have h0 := cc_pos h
  exact ⟨b, Bd.of_le (by omega) (by omega) b, Bd.of_le (pairN_le h).1 (pairN_le h).2 b⟩
theorem twN_le {p q k : Int} (h : Tn p q k) : 0 ≤ twN p (absI q) ∧ 2 * twN p (absI q) ≤ cc p q := by
  have h0 := cc_pos h
  have e1 := hit_none h 0 0
  have e2 := hit_one h 0 0
  have n1 := sumN_nn (f := fun j : Nat => if (srcL p q k (0 + (j : Int)) 0).length = 0 then (1 : Int) else 0) (n := (cc p q).toNat) fun i _ => by split <;> omega
  have n2 := sumN_nn (f := fun j : Nat => if (srcL p q k (0 + (j : Int)) 0).length = 1 then (1 : Int) else 0) (n := (cc p q).toNat) fun i _ => by split <;> omega
  omega
theorem twN_bd {p q k : Int} (h : Tn p q k) : Bd 101 (twN p (absI q)) := by
  have := twN_le h
  exact Bd.of_le this.1 (by omega) (Bd.cc h.bp h.bq)
def con_pairs13 : Con := fun ds S Q => ∃ p q k : Int, ds = [.int p, .int q] ∧ Tn p q k ∧ 0 ≤ q ∧ Q (.int (pairN p q)) S
def con_twice : Con := fun ds S Q => ∃ p q k : Int, ds = [.tup [.int p, .int q, .int k]] ∧ Tn p q k ∧ Q (.int (twN p (absI q))) S
def con_share : Con := fun ds S Q => ∃ p q k : Int, ds = [.tup [.int p, .int q, .int k]] ∧ Tn p q k ∧ Q (rat (twN p (absI q)) (cc p q)) S
def con_kinds : Con := fun ds S Q => ∃ p q k : Int, ds = [.tup [.int p, .int q, .int k]] ∧ Tn p q k ∧ Q (.tup [.int (backN p (absI q) - twN p (absI q)), .int (cc p q - backN p (absI q) - twN p (absI q)), .int (2 * twN p (absI q))]) S
/-! ### k13 -/
theorem sort_perm {l m : List (Int × Int)} (h : l.Perm m) (hm : m.Pairwise fun a b => le2 a b = true) : l.mergeSort le2 = m := by
  refine List.Perm.eq_of_pairwise (le := fun a b => le2 a b = true) ?_ ?_ hm ((List.mergeSort_perm l le2).trans h)
  · intro a b _ _ h1 h2
    have h1 : a.1 < b.1 ∨ (a.1 = b.1 ∧ a.2 ≤ b.2) := of_decide_eq_true h1
    have h2 : b.1 < a.1 ∨ (b.1 = a.1 ∧ b.2 ≤ a.2) := of_decide_eq_true h2
    exact Prod.ext (by omega) (by omega)
  · refine List.pairwise_mergeSort (fun a b c h1 h2 => ?_) (fun a b => ?_) l
    · have h1 : a.1 < b.1 ∨ (a.1 = b.1 ∧ a.2 ≤ b.2) := of_decide_eq_true h1
      have h2 : b.1 < c.1 ∨ (b.1 = c.1 ∧ b.2 ≤ c.2) := of_decide_eq_true h2
      exact decide_eq_true (by show a.1 < c.1 ∨ (a.1 = c.1 ∧ a.2 ≤ c.2); omega)
    · rw [Bool.or_eq_true]
      rcases (by omega : (a.1 < b.1 ∨ (a.1 = b.1 ∧ a.2 ≤ b.2)) ∨ (b.1 < a.1 ∨ (b.1 = a.1 ∧ b.2 ≤ a.2))) with z | z
      · exact .inl (decide_eq_true z)
      · exact .inr (decide_eq_true z)
/-- the five about a pixel, as the law takes them -/
def five (x y : Int) : List (Int × Int) := [(x, y), (x + 1, y), (x - 1, y), (x, y + 1), (x, y - 1)]
theorem five_src {p q k : Int} (h : Tn p q k) (x y : Int) : ((five (imX p (-q) (-k % 4) x y) (imY p (-q) (-k % 4) x y)).filter (fS p q k x y)).mergeSort le2 = srcL p q k x y := by
  refine sort_perm (List.Perm.filter _ ?_) ?_
  · unfold five srcA ar5
    generalize imX p (-q) (-k % 4) x y = a
    generalize imY p (-q) (-k % 4) x y = b
    refine (List.perm_ext_iff_of_nodup ?_ ?_).mpr fun t => ?_
    · simp only [List.nodup_cons, List.mem_cons, List.not_mem_nil, or_false, not_or, List.nodup_nil, Prod.mk.injEq, not_and, and_true]
      refine ⟨⟨?_, ?_, ?_, ?_⟩, ⟨?_, ?_, ?_⟩, ⟨?_, ?_⟩, ?_, ?_⟩ <;> first | omega | (intro _; omega) | simp
    · simp only [List.map_cons, List.map_nil, List.nodup_cons, List.mem_cons, List.not_mem_nil, or_false, not_or, List.nodup_nil, Prod.mk.injEq, not_and, and_true]
      refine ⟨⟨?_, ?_, ?_, ?_⟩, ⟨?_, ?_, ?_⟩, ⟨?_, ?_⟩, ?_, ?_⟩ <;> first | omega | (intro _; omega) | simp
    · obtain ⟨u, v⟩ := t
      simp only [List.map_cons, List.map_nil, List.mem_cons, List.not_mem_nil, or_false, Prod.mk.injEq]
      omega
  · unfold srcL srcA
    refine List.Pairwise.filter _ (List.pairwise_map.mpr ?_)
    have : ar5.Pairwise fun a b => le2 a b = true := by decide
    exact this.imp fun {a b} hab => by
      have hab : a.1 < b.1 ∨ (a.1 = b.1 ∧ a.2 ≤ b.2) := of_decide_eq_true hab
      exact decide_eq_true (by show _ + a.1 < _ + b.1 ∨ (_ + a.1 = _ + b.1 ∧ _ + a.2 ≤ _ + b.2); omega)
def hitL (p q k x y : Int) : List Int := (List.range (cc p q).toNat).map fun j : Nat => ((srcL p q k (x + (j : Int)) y).length : Int)
theorem countP_sumN (P : Nat → Bool) : ∀ n : Nat, (((List.range n).countP P : Nat) : Int) = sumN n fun j => if P j = true then 1 else 0
  | 0 => rfl
  | n + 1 => by
    rw [List.range_succ, List.countP_append, List.countP_singleton]
    show _ = sumN n _ + (if P n = true then 1 else 0)
    rw [← countP_sumN P n]
    split <;> omega
theorem hit_count {p q k : Int} (h : Tn p q k) (x y v : Int) (n : Nat) (hv : v = n) : ((((hitL p q k x y).map D.int).countP fun z => eqB z (.int v) : Nat) : Int) = sumN (cc p q).toNat fun j => if (srcL p q k (x + (j : Int)) y).length = n then (1 : Int) else 0 := by
  rw [count_ints]
  unfold hitL
  rw [List.countP_map, countP_sumN]
  refine sumN_congr fun j _ => ?_
  show (if decide (((srcL p q k (x + (j : Int)) y).length : Int) = v) = true then (1 : Int) else 0) = _
  rw [hv]
  simp only [decide_eq_true_eq, Int.natCast_inj]
theorem hit_c2 {p q k : Int} (h : Tn p q k) (x y : Int) : ((((hitL p q k x y).map D.int).countP fun z => eqB z (.int 2) : Nat) : Int) = twN p (absI q) := by rw [hit_count h x y 2 2 rfl, hit_two h]
theorem hit_c0 {p q k : Int} (h : Tn p q k) (x y : Int) : ((((hitL p q k x y).map D.int).countP fun z => eqB z (.int 0) : Nat) : Int) = twN p (absI q) := by rw [hit_count h x y 0 0 rfl, hit_none h]
theorem hit_c1 {p q k : Int} (h : Tn p q k) (x y : Int) : ((((hitL p q k x y).map D.int).countP fun z => eqB z (.int 1) : Nat) : Int) = cc p q - 2 * twN p (absI q) := by rw [hit_count h x y 1 1 rfl, hit_one h]
theorem five_bd {p q k x y : Int} {n : Nat} (b1 : Bd 50 p) (b2 : Bd 50 q) (bx : Bd n x) (by' : Bd n y) {t : Int × Int} (h : t ∈ five (imX p (-q) (-k % 4) x y) (imY p (-q) (-k % 4) x y)) : Bd (107 + n) t.1 ∧ Bd (107 + n) t.2 := by
  have h1 : Bd (105 + n) (imX p (-q) (-k % 4) x y) := Bd.imX _ b1 b2.neg bx by'
  have h2 : Bd (105 + n) (imY p (-q) (-k % 4) x y) := Bd.imY _ b1 b2.neg bx by'
  generalize imX p (-q) (-k % 4) x y = a at *
  generalize imY p (-q) (-k % 4) x y = b at *
  have o : Bd (105 + n) (1 : Int) := (Bd.lit 1).up (by show 1 ≤ _; omega)
  unfold five at h
  simp only [List.mem_cons, List.not_mem_nil, or_false] at h
  rcases h with z | z | z | z | z <;> subst z
  · exact ⟨h1.up (by omega), h2.up (by omega)⟩
  · exact ⟨(h1.add o).up (by omega), h2.up (by omega)⟩
  · exact ⟨(h1.sub o).up (by omega), h2.up (by omega)⟩
  · exact ⟨h1.up (by omega), (h2.add o).up (by omega)⟩
  · exact ⟨h1.up (by omega), (h2.sub o).up (by omega)⟩
theorem five_len {x y : Int} (P : Int × Int → Bool) : ((five x y).filter P).length ≤ 100000 := by
  have := List.length_filter_le P (five x y)
  have e : (five x y).length = 5 := rfl
  omega
theorem five_take (x y : Int) : (five x y).take ((five x y).map pr2).length = five x y := take_all pr2 _
theorem hitL_at {p q k x y : Int} {i : Nat} (h : i < (cc p q).toNat) : (hitL p q k x y)[i]? = some ((srcL p q k (x + (i : Int)) y).length : Int) := by
  unfold hitL
  rw [List.getElem?_map, List.getElem?_range h] <;> rfl
theorem hitL_take {p q k x y : Int} : (hitL p q k x y).take (cc p q).toNat = hitL p q k x y := List.take_of_length_le (by unfold hitL; rw [List.length_map, List.length_range]; omega)
theorem told13 : D.lst [.int (twN 4 (absI 1)), rat (twN 4 (absI 1)) (cc 4 1), rat (twN 2 (absI 1)) (cc 2 1)] = .lst [.int 4, .tup [.int 4, .int 17], .tup [.int 0, .int 1]] := by
  rw [show twN 4 (absI 1) = 4 by decide +kernel, show twN 2 (absI 1) = 0 by decide +kernel]
  rfl

end Tp
namespace Tp
open PySem PySem.Spec PyProof.Rows L2 DL
/-! ### kinds of pixels -/
def metR (p q : Int) (t : Int × Int) : Prop := meetO p q 1 0 (p * t.1 - q * t.2) (p * t.2 + q * t.1) ∨ meetO p q (-1) 0 (p * t.1 - q * t.2) (p * t.2 + q * t.1) ∨ meetO p q 0 1 (p * t.1 - q * t.2) (p * t.2 + q * t.1) ∨ meetO p q 0 (-1) (p * t.1 - q * t.2) (p * t.2 + q * t.1)
instance (p q : Int) (t : Int × Int) : Decidable (metR p q t) := by unfold metR; infer_instance
theorem src_met {p q k x y : Int} (h : Tn p q k) {t : Int × Int} (ht : t ∈ srcL p q k x y) : metR p q (reX p q t.1 t.2, reY p q t.1 t.2) ↔ (t.1 + 1, t.2) ∈ srcL p q k x y ∨ (t.1 - 1, t.2) ∈ srcL p q k x y ∨ (t.1, t.2 + 1) ∈ srcL p q k x y ∨ (t.1, t.2 - 1) ∈ srcL p q k x y := by
  have i1 := src_off h 1 0 ht
  have i2 := src_off h (-1) 0 ht
  have i3 := src_off h 0 1 ht
  have i4 := src_off h 0 (-1) ht
  rw [Int.add_zero] at i1 i2 i3 i4
  unfold metR
  rw [show t.1 - 1 = t.1 + -1 by omega, show t.2 - 1 = t.2 + -1 by omega, ← i1, ← i2, ← i3, ← i4]
theorem two_met {l : List (Int × Int)} (nd : l.Nodup) (hl : l.length ≤ 2) (hs : ∀ s ∈ l, ∀ t ∈ l, (s.1 = t.1 ∧ s.2 = t.2) ∨ (s.1 = t.1 + 1 ∧ s.2 = t.2) ∨ (s.1 = t.1 - 1 ∧ s.2 = t.2) ∨ (s.1 = t.1 ∧ s.2 = t.2 + 1) ∨ (s.1 = t.1 ∧ s.2 = t.2 - 1)) (B : Int × Int → Bool) (hB : ∀ s ∈ l, ∀ t ∈ l, ¬ (s.1 = t.1 ∧ s.2 = t.2) → B s = !B t) :
    (l.map fun t => if (t.1 + 1, t.2) ∈ l ∨ (t.1 - 1, t.2) ∈ l ∨ (t.1, t.2 + 1) ∈ l ∨ (t.1, t.2 - 1) ∈ l then (1 : Int) else 0).sum = (if l.length = 2 then 2 else 0) ∧
    (l.map fun t => if ((t.1 + 1, t.2) ∈ l ∨ (t.1 - 1, t.2) ∈ l ∨ (t.1, t.2 + 1) ∈ l ∨ (t.1, t.2 - 1) ∈ l) ∧ B t = true then (1 : Int) else 0).sum = if l.length = 2 then 1 else 0 := by
  match l, nd, hl, hs, hB with
  | [], _, _, _, _ => exact ⟨rfl, rfl⟩
  | [(a, b)], _, _, _, _ =>
    have mm : ∀ u v : Int, (u, v) ∈ [(a, b)] ↔ u = a ∧ v = b := fun u v => by simp
    have no : ¬ ((a + 1, b) ∈ [(a, b)] ∨ (a - 1, b) ∈ [(a, b)] ∨ (a, b + 1) ∈ [(a, b)] ∨ (a, b - 1) ∈ [(a, b)]) := by simp only [mm]; omega
    refine ⟨?_, ?_⟩
    · show (if (a + 1, b) ∈ [(a, b)] ∨ (a - 1, b) ∈ [(a, b)] ∨ (a, b + 1) ∈ [(a, b)] ∨ (a, b - 1) ∈ [(a, b)] then (1 : Int) else 0) + 0 = 0
      rw [if_neg no]
      rfl
    · show (if ((a + 1, b) ∈ [(a, b)] ∨ (a - 1, b) ∈ [(a, b)] ∨ (a, b + 1) ∈ [(a, b)] ∨ (a, b - 1) ∈ [(a, b)]) ∧ B (a, b) = true then (1 : Int) else 0) + 0 = 0
      rw [if_neg fun z => no z.1]
      rfl
  | [(a, b), (c, d)], nd, _, hs, hB =>
    have ne : ¬ (a = c ∧ b = d) := fun z => by
      have := (List.nodup_cons.mp nd).1
      exact this (by rw [z.1, z.2]; exact List.mem_singleton.mpr rfl)
    have s : (c = a ∧ d = b) ∨ (c = a + 1 ∧ d = b) ∨ (c = a - 1 ∧ d = b) ∨ (c = a ∧ d = b + 1) ∨ (c = a ∧ d = b - 1) := hs (c, d) (by simp) (a, b) (by simp)
    have hb : B (a, b) = !B (c, d) := hB (a, b) (by simp) (c, d) (by simp) ne
    have mm : ∀ u v : Int, (u, v) ∈ [(a, b), (c, d)] ↔ (u = a ∧ v = b) ∨ (u = c ∧ v = d) := fun u v => by simp
    have y1 : (a + 1, b) ∈ [(a, b), (c, d)] ∨ (a - 1, b) ∈ [(a, b), (c, d)] ∨ (a, b + 1) ∈ [(a, b), (c, d)] ∨ (a, b - 1) ∈ [(a, b), (c, d)] := by simp only [mm]; omega
    have y2 : (c + 1, d) ∈ [(a, b), (c, d)] ∨ (c - 1, d) ∈ [(a, b), (c, d)] ∨ (c, d + 1) ∈ [(a, b), (c, d)] ∨ (c, d - 1) ∈ [(a, b), (c, d)] := by simp only [mm]; omega
    refine ⟨?_, ?_⟩
    · show (if (a + 1, b) ∈ [(a, b), (c, d)] ∨ (a - 1, b) ∈ [(a, b), (c, d)] ∨ (a, b + 1) ∈ [(a, b), (c, d)] ∨ (a, b - 1) ∈ [(a, b), (c, d)] then (1 : Int) else 0) + ((if (c + 1, d) ∈ [(a, b), (c, d)] ∨ (c - 1, d) ∈ [(a, b), (c, d)] ∨ (c, d + 1) ∈ [(a, b), (c, d)] ∨ (c, d - 1) ∈ [(a, b), (c, d)] then (1 : Int) else 0) + 0) = 2
      rw [if_pos y1, if_pos y2]
      rfl
    · show (if ((a + 1, b) ∈ [(a, b), (c, d)] ∨ (a - 1, b) ∈ [(a, b), (c, d)] ∨ (a, b + 1) ∈ [(a, b), (c, d)] ∨ (a, b - 1) ∈ [(a, b), (c, d)]) ∧ B (a, b) = true then (1 : Int) else 0) + ((if ((c + 1, d) ∈ [(a, b), (c, d)] ∨ (c - 1, d) ∈ [(a, b), (c, d)] ∨ (c, d + 1) ∈ [(a, b), (c, d)] ∨ (c, d - 1) ∈ [(a, b), (c, d)]) ∧ B (c, d) = true then (1 : Int) else 0) + 0) = 1
      cases z : B (c, d) with
      | true =>
        rw [z] at hb
        rw [if_neg (fun w => by rw [hb] at w; exact nomatch w.2), if_pos ⟨y2, rfl⟩]
        rfl
      | false =>
        rw [z] at hb
        rw [if_pos ⟨y1, hb⟩, if_neg (fun w => nomatch w.2)]
        rfl
  | _ :: _ :: _ :: r, _, hl, _, _ => simp at hl
theorem met_sums {p q k : Int} (h : Tn p q k) : ((restL p q).map fun t => if metR p q t then (1 : Int) else 0).sum = 2 * twN p (absI q) ∧ ((restL p q).map fun t => if metR p q t ∧ isC p q t.1 t.2 then (1 : Int) else 0).sum = twN p (absI q) := by
  have each := fun j : Nat => two_met (srcL_nodup p q k (0 + (j : Int)) 0) (src_two h (0 + (j : Int)) 0).1 (fun s hs t ht => by
    have e1 := (srcL_mem h).mp (show (s.1, s.2) ∈ srcL p q k (0 + (j : Int)) 0 from hs)
    have e2 := (srcL_mem h).mp (show (t.1, t.2) ∈ srcL p q k (0 + (j : Int)) 0 from ht)
    exact im_same h (e1.1.trans e2.1.symm) (e1.2.trans e2.2.symm)) (fun t => cbB p q k t.1 t.2) fun s hs t ht hn => by
    have e1 := (srcL_mem h).mp (show (s.1, s.2) ∈ srcL p q k (0 + (j : Int)) 0 from hs)
    have e2 := (srcL_mem h).mp (show (t.1, t.2) ∈ srcL p q k (0 + (j : Int)) 0 from ht)
    exact meet_one h (e1.1.trans e2.1.symm) (e1.2.trans e2.2.symm) hn
  have t2 := hit_two h 0 0
  have cb : ∀ x y, (cbB p q k x y = true ↔ isC p q (reX p q x y) (reY p q x y)) := fun x y => by
    rw [← back_iff h x y]
    unfold cbB
    rw [decide_eq_true_eq]
  constructor
  · rw [← src_sum h 0 0 fun t => if metR p q t then (1 : Int) else 0]
    rw [sumN_congr (g := fun j => 2 * if (srcL p q k (0 + (j : Int)) 0).length = 2 then (1 : Int) else 0) fun j _ => ?_]
    · rw [sumN_mul, t2]
    · have e := (each j).1
      rw [show (2 * if (srcL p q k (0 + (j : Int)) 0).length = 2 then (1 : Int) else 0) = if (srcL p q k (0 + (j : Int)) 0).length = 2 then 2 else 0 by split <;> rfl, ← e]
      congr 1
      refine List.map_congr_left fun t ht => ?_
      have := src_met h ht
      simp only [this]
  · rw [← src_sum h 0 0 fun t => if metR p q t ∧ isC p q t.1 t.2 then (1 : Int) else 0, ← t2]
    refine sumN_congr fun j _ => ?_
    rw [← (each j).2]
    congr 1
    refine List.map_congr_left fun t ht => ?_
    have := src_met h ht
    have c := cb t.1 t.2
    simp only [this, c]
def near4 (x y : Int) : List (Int × Int) := [(x + 1, y), (x - 1, y), (x, y + 1), (x, y - 1)]
def kindV (p q k x y : Int) : Int := if ((near4 x y).filter (fS p q k (imX p q k x y) (imY p q k x y))).isEmpty = true then (if cbB p q k x y = true then 0 else 1) else 2
theorem kind_met {p q k : Int} (h : Tn p q k) (x y : Int) : ((near4 x y).filter (fS p q k (imX p q k x y) (imY p q k x y))).isEmpty = false ↔ metR p q (reX p q x y, reY p q x y) := by
  have s : ∀ a b : Int, fS p q k (imX p q k x y) (imY p q k x y) (x + a, y + b) = true ↔ meetO p q a b (p * reX p q x y - q * reY p q x y) (p * reY p q x y + q * reX p q x y) := fun a b => by
    rw [← same_off h]
    unfold fS
    rw [decide_eq_true_eq]
  have s1 := s 1 0
  have s2 := s (-1) 0
  have s3 := s 0 1
  have s4 := s 0 (-1)
  rw [Int.add_zero] at s1 s2 s3 s4
  have e : ((near4 x y).filter (fS p q k (imX p q k x y) (imY p q k x y))).isEmpty = false ↔ ∃ t ∈ near4 x y, fS p q k (imX p q k x y) (imY p q k x y) t = true := by
    rw [← Bool.not_eq_true, List.isEmpty_iff, List.filter_eq_nil_iff]
    constructor
    · intro z
      exact Classical.byContradiction fun w => z fun t ht hf => w ⟨t, ht, hf⟩
    · rintro ⟨t, ht, hf⟩ z
      exact z t ht hf
  rw [e]
  unfold near4 metR
  simp only [List.mem_cons, List.not_mem_nil, or_false, exists_eq_or_imp, exists_eq_left]
  rw [s1, show x - 1 = x + -1 by omega, s2, s3, show y - 1 = y + -1 by omega, s4]
def kindL (p q k x y : Int) : List Int := (List.range (cc p q).toNat).map fun j : Nat => kindV p q k (x + (j : Int)) y
theorem kind_count {p q k : Int} (h : Tn p q k) (x y v : Int) : ((((kindL p q k x y).map D.int).countP fun z => eqB z (.int v) : Nat) : Int) = sumN (cc p q).toNat fun j => if kindV p q k (x + (j : Int)) y = v then (1 : Int) else 0 := by
  rw [count_ints]
  unfold kindL
  rw [List.countP_map, countP_sumN]
  refine sumN_congr fun j _ => ?_
  show (if decide (kindV p q k (x + (j : Int)) y = v) = true then (1 : Int) else 0) = _
  simp only [decide_eq_true_eq]
theorem row1 {p q k : Int} (h : Tn p q k) (x y : Int) (F : Int × Int → Int) : sumN (cc p q).toNat (fun j => F (reX p q (x + (j : Int)) y, reY p q (x + (j : Int)) y)) = ((restL p q).map F).sum := by
  rw [← row_sum h x y (.inl ⟨rfl, rfl⟩) F]
  refine sumN_congr fun j _ => ?_
  rw [show x + 1 * (j : Int) = x + j by omega, show y + 0 * (j : Int) = y by omega]
theorem kind_2 {p q k : Int} (h : Tn p q k) (x y : Int) : sumN (cc p q).toNat (fun j => if kindV p q k (x + (j : Int)) y = 2 then (1 : Int) else 0) = 2 * twN p (absI q) := by
  rw [← (met_sums h).1, ← row1 h x y]
  refine sumN_congr fun j _ => ?_
  have := kind_met h (x + (j : Int)) y
  unfold kindV
  cases z : ((near4 (x + (j : Int)) y).filter (fS p q k (imX p q k (x + (j : Int)) y) (imY p q k (x + (j : Int)) y))).isEmpty with
  | true =>
    rw [z] at this
    have nm : ¬ metR p q (reX p q (x + (j : Int)) y, reY p q (x + (j : Int)) y) := fun w => nomatch this.mpr w
    rw [if_neg nm, if_pos rfl]
    split <;> rfl
  | false => rw [if_pos (this.mp z)] <;> rfl
theorem kind_gen {e b : Bool} {M : Prop} [Decidable M] (h : e = false ↔ M) : (if (if e = true then (if b = true then (0 : Int) else 1) else 2) = 0 then (1 : Int) else 0) = (if b = true then (1 : Int) else 0) - if M ∧ b = true then (1 : Int) else 0 := by
  cases e with
  | true =>
    have nm : ¬ M := fun w => nomatch h.mpr w
    rw [if_neg (show ¬ (M ∧ b = true) from fun w => nm w.1)]
    cases b <;> rfl
  | false =>
    have m := h.mp rfl
    cases b with
    | true => rw [if_pos (show M ∧ true = true from ⟨m, rfl⟩)] <;> rfl
    | false => rw [if_neg (show ¬ (M ∧ false = true) from fun w => nomatch w.2)] <;> rfl
theorem kind_0 {p q k : Int} (h : Tn p q k) (x y : Int) : sumN (cc p q).toNat (fun j => if kindV p q k (x + (j : Int)) y = 0 then (1 : Int) else 0) = backN p (absI q) - twN p (absI q) := by
  have e1 := cb_row h x y
  have e2 := (met_sums h).2
  rw [← row1 h x y fun t => if metR p q t ∧ isC p q t.1 t.2 then (1 : Int) else 0] at e2
  rw [← e1, ← e2, ← sumN_sub]
  refine sumN_congr fun j _ => ?_
  have cb : (isC p q (reX p q (x + (j : Int)) y) (reY p q (x + (j : Int)) y) ↔ cbB p q k (x + (j : Int)) y = true) := by
    rw [← back_iff h]
    unfold cbB
    rw [decide_eq_true_eq]
  simp only [cb]
  exact kind_gen (kind_met h (x + (j : Int)) y)
theorem kind_1 {p q k : Int} (h : Tn p q k) (x y : Int) : sumN (cc p q).toNat (fun j => if kindV p q k (x + (j : Int)) y = 1 then (1 : Int) else 0) = cc p q - backN p (absI q) - twN p (absI q) := by
  have e0 := kind_0 h x y
  have e2 := kind_2 h x y
  have h0 := cc_pos h
  have e3 : sumN (cc p q).toNat (fun j => (if kindV p q k (x + (j : Int)) y = 1 then (1 : Int) else 0) + ((if kindV p q k (x + (j : Int)) y = 0 then (1 : Int) else 0) + if kindV p q k (x + (j : Int)) y = 2 then (1 : Int) else 0)) = sumN (cc p q).toNat fun _ => 1 := sumN_congr fun j _ => by
    unfold kindV
    split
    · split <;> rfl
    · rfl
  rw [sumN_add, sumN_add, sumN_const, e0, e2] at e3
  omega
theorem kinds_nn {p q k : Int} (h : Tn p q k) : 0 ≤ backN p (absI q) - twN p (absI q) ∧ 0 ≤ cc p q - backN p (absI q) - twN p (absI q) := by
  rw [← kind_0 h 0 0, ← kind_1 h 0 0]
  exact ⟨sumN_nn fun i _ => by split <;> omega, sumN_nn fun i _ => by split <;> omega⟩
theorem kind_c {p q k : Int} (h : Tn p q k) (x y : Int) : ((((kindL p q k x y).map D.int).countP fun z => eqB z (.int 0) : Nat) : Int) = backN p (absI q) - twN p (absI q) ∧ ((((kindL p q k x y).map D.int).countP fun z => eqB z (.int 1) : Nat) : Int) = cc p q - backN p (absI q) - twN p (absI q) ∧ ((((kindL p q k x y).map D.int).countP fun z => eqB z (.int 2) : Nat) : Int) = 2 * twN p (absI q) :=
  ⟨by rw [kind_count h, kind_0 h], by rw [kind_count h, kind_1 h], by rw [kind_count h, kind_2 h]⟩
def con_kind : Con := fun ds S Q => ∃ p q k x y : Int, ds = [.tup [.int p, .int q, .int k], .tup [.int x, .int y]] ∧ Tn p q k ∧ (Bd 300 x ∧ Bd 300 y) ∧ Q (.int (kindV p q k x y)) S
theorem near4_bd {n : Nat} {x y : Int} (bx : Bd n x) (by' : Bd n y) {t : Int × Int} (h : t ∈ near4 x y) : Bd (n + 2) t.1 ∧ Bd (n + 2) t.2 := by
  have o : Bd (n + 1) (1 : Int) := (Bd.lit 1).up (by show 1 ≤ _; omega)
  unfold near4 at h
  simp only [List.mem_cons, List.not_mem_nil, or_false] at h
  rcases h with z | z | z | z <;> subst z
  · exact ⟨(bx.add o).up (by omega), by'.up (by omega)⟩
  · exact ⟨(bx.sub o).up (by omega), by'.up (by omega)⟩
  · exact ⟨bx.up (by omega), (by'.add o).up (by omega)⟩
  · exact ⟨bx.up (by omega), (by'.sub o).up (by omega)⟩
theorem kindV_2 {p q k x y : Int} (h : ((near4 x y).filter (fS p q k (imX p q k x y) (imY p q k x y))).isEmpty = false) : 2 = kindV p q k x y := by
  unfold kindV
  rw [if_neg (by rw [h]; simp)]
theorem kindV_01 {p q k x y : Int} {v : Bool} (h : ((near4 x y).filter (fS p q k (imX p q k x y) (imY p q k x y))).isEmpty = true) (hv : v = cbB p q k x y) : (if (!v) = true then 1 else 0) = kindV p q k x y := by
  unfold kindV
  rw [if_pos h, hv]
  cases cbB p q k x y <;> rfl
theorem kinds_sum (B T c : Int) : [B - T, c - B - T, 2 * T].sum = c := by
  show B - T + (c - B - T + (2 * T + 0)) = c
  omega
theorem kinds_min {p q k m : Int} (h : Tn p q k) (hm : m ∈ [backN p (absI q) - twN p (absI q), cc p q - backN p (absI q) - twN p (absI q), 2 * twN p (absI q)]) : 0 ≤ m := by
  have h1 := kinds_nn h
  have h2 := (twN_le h).1
  simp only [List.mem_cons, List.not_mem_nil, or_false] at hm
  omega
theorem kindL_at {p q k x y : Int} {i : Nat} (h : i < (cc p q).toNat) : (kindL p q k x y)[i]? = some (kindV p q k (x + (i : Int)) y) := by
  unfold kindL
  rw [List.getElem?_map, List.getElem?_range h] <;> rfl
theorem kindL_take {p q k x y : Int} : (kindL p q k x y).take (cc p q).toNat = kindL p q k x y := List.take_of_length_le (by unfold kindL; rw [List.length_map, List.length_range]; omega)
theorem told15 : D.lst [.tup [.int (backN 4 (absI 1) - twN 4 (absI 1)), .int (cc 4 1 - backN 4 (absI 1) - twN 4 (absI 1)), .int (2 * twN 4 (absI 1))], .tup [.int (backN 15 (absI 4) - twN 15 (absI 4)), .int (cc 15 4 - backN 15 (absI 4) - twN 15 (absI 4)), .int (2 * twN 15 (absI 4))], .tup [.int (backN 3 (absI 2) - twN 3 (absI 2)), .int (cc 3 2 - backN 3 (absI 2) - twN 3 (absI 2)), .int (2 * twN 3 (absI 2))]] = .lst [.tup [.int 9, .int 0, .int 8], .tup [.int 169, .int 8, .int 64], .tup [.int 13, .int 0, .int 0]] := by
  rw [show twN 4 (absI 1) = 4 by decide +kernel, show backN 4 (absI 1) = 13 by decide +kernel, show twN 15 (absI 4) = 32 by decide +kernel, show backN 15 (absI 4) = 201 by decide +kernel, show twN 3 (absI 2) = 0 by decide +kernel, show backN 3 (absI 2) = 13 by decide +kernel]
  rfl

end Tp
namespace Tp
open PySem PySem.Spec PyProof.Rows L2 DL
/-! ### mirrored and turned by a quarter -/
theorem im_ex (p q k x y : Int) : imX p q k x y = nrr (exX p q k x y) (cc p q) ∧ imY p q k x y = nrr (exY p q k x y) (cc p q) := ⟨by unfold imX; rfl, by unfold imY; rfl⟩
theorem im_qrt {p q k : Int} (h : Tn p q k) (x y : Int) : imX p q k (-y) x = -imY p q k x y ∧ imY p q k (-y) x = imX p q k x y := by
  rw [(im_ex p q k (-y) x).1, (im_ex p q k (-y) x).2, (im_ex p q k x y).1, (im_ex p q k x y).2]
  have e1 : exX p q k (-y) x = -exY p q k x y := by unfold exX exY; grind
  have e2 : exY p q k (-y) x = exX p q k x y := by unfold exX exY; grind
  rw [e1, e2, nrr_neg (cc_odd h) (cc_pos h)]
  exact ⟨rfl, rfl⟩
theorem im_mir {p q k : Int} (h : Tn p q k) (x y : Int) : imX p (-q) ((4 - k) % 4) x (-y) = imX p q k x y ∧ imY p (-q) ((4 - k) % 4) x (-y) = -imY p q k x y := by
  rw [← bk_1 h, (im_ex ..).1, (im_ex ..).2, (im_ex p q k x y).1, (im_ex p q k x y).2, (lg_back h x (-y)).1, (lg_back h x (-y)).2, cc_neg]
  have e1 : lgA p q k * x + lgB p q k * -y = exX p q k x y := by unfold exX; grind
  have e2 : lgA p q k * -y - lgB p q k * x = -exY p q k x y := by unfold exY; grind
  rw [e1, e2, nrr_neg (cc_odd h) (cc_pos h)]
  exact ⟨rfl, rfl⟩
theorem re_qrt {p q k : Int} (h : Tn p q k) (x y : Int) : reX p q (-y) x = -reY p q x y ∧ reY p q (-y) x = reX p q x y := by
  have e := im_qrt (Tn.zero h) x y
  unfold reX reY
  rw [e.1, e.2]
  constructor <;> grind
theorem re_mir {p q k : Int} (h : Tn p q k) (x y : Int) : reX p (-q) x (-y) = reX p q x y ∧ reY p (-q) x (-y) = -reY p q x y := by
  have e := im_mir (Tn.zero h) x y
  have z : ((4 : Int) - 0) % 4 = 0 := by decide
  rw [z] at e
  unfold reX reY
  rw [e.1, e.2]
  constructor <;> grind
theorem cb_mir {p q k : Int} (h : Tn p q k) (x y : Int) : cbB p (-q) ((4 - k) % 4) x (-y) = cbB p q k x y := by
  have h' := tn_bk h
  have e1 := back_iff h x y
  have e2 := back_iff h' x (-y)
  have e3 := re_mir h x y
  rw [e3.1, e3.2] at e2
  have e4 : isC p (-q) (reX p q x y) (-reY p q x y) ↔ isC p q (reX p q x y) (reY p q x y) := by
    rw [isC_mir, ← isC_neg]
  unfold cbB
  rw [decide_eq_decide, e1, e2, e4]
theorem src_mir {p q k : Int} (h : Tn p q k) {x y z w : Int} : (z, w) ∈ srcL p (-q) ((4 - k) % 4) x (-y) ↔ (z, -w) ∈ srcL p q k x y := by
  rw [srcL_mem (tn_bk h), srcL_mem h]
  have e := im_mir h z (-w)
  rw [Int.neg_neg] at e
  rw [e.1, e.2]
  omega
theorem src_qrt {p q k : Int} (h : Tn p q k) {x y z w : Int} : (z, w) ∈ srcL p q k (-y) x ↔ (w, -z) ∈ srcL p q k x y := by
  rw [srcL_mem h, srcL_mem h]
  have e := im_qrt h w (-z)
  rw [Int.neg_neg] at e
  rw [e.1, e.2]
  omega
theorem bare_mir {p q k : Int} (h : Tn p q k) (x y : Int) : bareB p (-q) ((4 - k) % 4) x (-y) = bareB p q k x y := by
  have key : ∀ b c : Bool, (b = true ↔ c = true) → b = c := fun b c z => by cases b <;> cases c <;> simp_all
  refine key _ _ ?_
  unfold bareB
  rw [List.isEmpty_iff, List.isEmpty_iff, List.eq_nil_iff_forall_not_mem, List.eq_nil_iff_forall_not_mem]
  constructor
  · intro z t ht
    refine z (t.1, -t.2) ((src_mir h).mpr ?_)
    rw [Int.neg_neg]
    exact ht
  · intro z t ht
    exact z (t.1, -t.2) ((src_mir h).mp (show (t.1, t.2) ∈ _ from ht))
theorem srcL_up (p q k x y : Int) : (srcL p q k x y).Pairwise fun a b => le2 a b = true := by
  unfold srcL srcA
  refine List.Pairwise.filter _ (List.pairwise_map.mpr ?_)
  have : ar5.Pairwise fun a b => le2 a b = true := by decide
  exact this.imp fun {a b} hab => by
    have hab : a.1 < b.1 ∨ (a.1 = b.1 ∧ a.2 ≤ b.2) := of_decide_eq_true hab
    exact decide_eq_true (by show _ + a.1 < _ + b.1 ∨ (_ + a.1 = _ + b.1 ∧ _ + a.2 ≤ _ + b.2); omega)
theorem sort_qrt {p q k : Int} (h : Tn p q k) (x y : Int) : ((srcL p q k x y).map fun t : Int × Int => (-t.2, t.1)).mergeSort le2 = srcL p q k (-y) x := by
  refine sort_perm ((List.perm_ext_iff_of_nodup (List.pairwise_map.mpr ((srcL_nodup p q k x y).imp fun {a b} hab e => hab ?ca)) (srcL_nodup ..)).mpr fun t => ?cb) (srcL_up ..)
  case ca =>
    have e1 := congrArg Prod.fst e
    have e2 := congrArg Prod.snd e
    exact Prod.ext e2 (by simpa using e1)
  case cb =>
    obtain ⟨z, w⟩ := t
    rw [src_qrt h, List.mem_map]
    constructor
    · rintro ⟨a, ha, e⟩
      have e1 := congrArg Prod.fst e
      have e2 := congrArg Prod.snd e
      have e1 : -a.2 = z := e1
      have e2 : a.1 = w := e2
      rw [← e1, ← e2, Int.neg_neg]
      exact ha
    · intro hm
      exact ⟨(w, -z), hm, by show (- -z, w) = (z, w); rw [Int.neg_neg]⟩
theorem sort_mir {p q k : Int} (h : Tn p q k) (x y : Int) : ((srcL p q k x y).map fun t : Int × Int => (t.1, -t.2)).mergeSort le2 = srcL p (-q) ((4 - k) % 4) x (-y) := by
  refine sort_perm ((List.perm_ext_iff_of_nodup (List.pairwise_map.mpr ((srcL_nodup p q k x y).imp fun {a b} hab e => hab ?ca)) (srcL_nodup ..)).mpr fun t => ?cb) (srcL_up ..)
  case ca =>
    have e1 := congrArg Prod.fst e
    have e2 := congrArg Prod.snd e
    exact Prod.ext e1 (by simpa using e2)
  case cb =>
    obtain ⟨z, w⟩ := t
    rw [src_mir h, List.mem_map]
    constructor
    · rintro ⟨a, ha, e⟩
      have e1 : a.1 = z := congrArg Prod.fst e
      have e2 : -a.2 = w := congrArg Prod.snd e
      rw [← e1, ← e2, Int.neg_neg]
      exact ha
    · intro hm
      exact ⟨(z, -w), hm, by show (z, - -w) = (z, w); rw [Int.neg_neg]⟩
def cntD (p q : Int) : D := .lst [.bl (decide (p = absI q + 1)), .int (twN p (absI q)), .int (backN p (absI q)), rat (twN p (absI q)) (cc p q), .tup [.int (backN p (absI q) - twN p (absI q)), .int (cc p q - backN p (absI q) - twN p (absI q)), .int (2 * twN p (absI q))]]
theorem cntD_mir (p q : Int) : cntD p q = cntD p (-q) := by
  unfold cntD
  rw [absI_neg, cc_neg]
def con_counts : Con := fun ds S Q => ∃ p q k : Int, ds = [.tup [.int p, .int q, .int k]] ∧ Tn p q k ∧ Q (cntD p q) S
def con_r73 : Con := fun ds S Q => ∃ p q k x y : Int, ds = [.tup [.int p, .int q, .int k], .tup [.int x, .int y]] ∧ Tn p q k ∧ (Bd 160 x ∧ Bd 160 y) ∧ Q (.bl true) S
theorem cntD_flat (p q : Int) : flatOk 9 (cntD p q) = true := rfl
theorem im_swung {p q k : Int} (h : Tn p q k) (x y : Int) : D.tup [.int (imX p q k x y), .int (imY p q k x y)] = .tup [.int (rtX (k % 4).toNat (imX p q 0 x y) (imY p q 0 x y)), .int (rtY (k % 4).toNat (imX p q 0 x y) (imY p q 0 x y))] := by
  have hk : 0 ≤ k ∧ k < 4 := ⟨h.k1, by have := h.k2; omega⟩
  have e := im_rot (Tn.zero h) hk x y
  rw [show ((0 : Int) + k) % 4 = k by omega] at e
  rw [e.1, e.2]
theorem miss_mir {p q k : Int} (h : Tn p q k) (x y : Int) : rat (reX p (-q) x (-y) * reX p (-q) x (-y) + reY p (-q) x (-y) * reY p (-q) x (-y)) (cc p (-q)) = rat (reX p q x y * reX p q x y + reY p q x y * reY p q x y) (cc p q) := by
  rw [(re_mir h x y).1, (re_mir h x y).2, cc_neg, Int.neg_mul_neg]
theorem src_bd {p q k x y : Int} {n : Nat} (h : Tn p q k) (bx : Bd n x) (by' : Bd n y) {t : Int × Int} (ht : t ∈ srcL p q k x y) : Bd (107 + n) t.1 ∧ Bd (107 + n) t.2 := by
  unfold srcL srcA at ht
  obtain ⟨a, ha, e⟩ := List.mem_map.mp (List.mem_filter.mp ht).1
  have h1 : Bd (105 + n) (imX p (-q) (-k % 4) x y) := Bd.imX _ h.bp h.bq.neg bx by'
  have h2 : Bd (105 + n) (imY p (-q) (-k % 4) x y) := Bd.imY _ h.bp h.bq.neg bx by'
  have b := ar5_bd ha
  rw [← e]
  exact ⟨(h1.add (b.1.up (show 1 ≤ 105 + n by omega))).up (by omega), (h2.add (b.2.up (show 1 ≤ 105 + n by omega))).up (by omega)⟩
theorem src_len1 {p q k : Int} (h : Tn p q k) (x y : Int) : ((srcL p q k x y).map pr2).length ≤ 100000 := Nat.le_trans (src_len h x y) (by decide)
theorem srcm_len {p q k x y : Int} {f : Int × Int → Int × Int} (h : Tn p q k) : ((srcL p q k x y).map f).length ≤ 100000 := by
  have := src_len h x y
  rw [List.length_map] at this ⊢
  omega
theorem take_map2 {α β γ : Type} (f : α → β) (g : α → γ) (l : List α) : (l.map f).take (l.map g).length = l.map f := List.take_of_length_le (by rw [List.length_map, List.length_map]; omega)

end Tp
namespace Tp
open PySem PySem.Spec PyProof.Rows L2 DL
/-! ### all rests, row by row -/
def rowLo (p q m : Int) : Int := if q = 0 then -((( p * p + q * q - 1) / 2 + q * m) / p) else (if -(((p * p + q * q - 1) / 2 - (if 0 < q then p * m else -p * m)) / absI q) > -(((p * p + q * q - 1) / 2 + q * m) / p) then -(((p * p + q * q - 1) / 2 - (if 0 < q then p * m else -p * m)) / absI q) else -(((p * p + q * q - 1) / 2 + q * m) / p))
def rowHi (p q m : Int) : Int := if q = 0 then (( p * p + q * q - 1) / 2 - q * m) / p else (if ((p * p + q * q - 1) / 2 + (if 0 < q then p * m else -p * m)) / absI q < ((p * p + q * q - 1) / 2 - q * m) / p then ((p * p + q * q - 1) / 2 + (if 0 < q then p * m else -p * m)) / absI q else ((p * p + q * q - 1) / 2 - q * m) / p)
theorem neg_div_le {a d n : Int} (hd : 0 < d) : -(a / d) ≤ n ↔ -a ≤ d * n := by
  have : -n ≤ a / d ↔ d * -n ≤ a := by rw [Int.le_ediv_iff_mul_le hd, Int.mul_comm]
  rw [Int.mul_neg] at this
  omega
theorem le_div {a d n : Int} (hd : 0 < d) : n ≤ a / d ↔ d * n ≤ a := by rw [Int.le_ediv_iff_mul_le hd, Int.mul_comm]
theorem row_iff {p q k m n : Int} (h : Tn p q k) (hs : q = 0 → m = 0) : (rowLo p q m ≤ n ∧ n ≤ rowHi p q m) ↔ isR p q m n := by
  have ho := cc_odd h
  have h0 := cc_pos h
  have hp := h.p1
  have ec : p * p + q * q = cc p q := rfl
  unfold rowLo rowHi isR
  rw [ec]
  obtain ⟨f, hf⟩ : ∃ f, f = (cc p q - 1) / 2 := ⟨_, rfl⟩
  rw [← hf]
  have hc : cc p q = 2 * f + 1 := by omega
  by_cases hq : q = 0
  · subst hq
    have hm := hs rfl
    subst hm
    have a1 := neg_div_le (a := f + 0 * 0) (n := n) (show 0 < p by omega)
    have a2 := le_div (a := f - 0 * 0) (n := n) (show 0 < p by omega)
    rw [if_pos rfl, if_pos rfl, a1, a2]
    simp only [Int.zero_mul, Int.mul_zero]
    omega
  · rw [if_neg hq, if_neg hq]
    have a1 := neg_div_le (a := f + q * m) (n := n) (show 0 < p by omega)
    have a2 := le_div (a := f - q * m) (n := n) (show 0 < p by omega)
    have hQ : 0 < absI q := by unfold absI; split <;> omega
    have a3 := neg_div_le (a := f - (if 0 < q then p * m else -p * m)) (n := n) hQ
    have a4 := le_div (a := f + (if 0 < q then p * m else -p * m)) (n := n) hQ
    have b1 : (if -((f - (if 0 < q then p * m else -p * m)) / absI q) > -((f + q * m) / p) then -((f - (if 0 < q then p * m else -p * m)) / absI q) else -((f + q * m) / p)) ≤ n ↔ -((f - (if 0 < q then p * m else -p * m)) / absI q) ≤ n ∧ -((f + q * m) / p) ≤ n := by
      generalize -((f - (if 0 < q then p * m else -p * m)) / absI q) = A
      generalize -((f + q * m) / p) = B
      split <;> omega
    have b2 : n ≤ (if (f + (if 0 < q then p * m else -p * m)) / absI q < (f - q * m) / p then (f + (if 0 < q then p * m else -p * m)) / absI q else (f - q * m) / p) ↔ n ≤ (f + (if 0 < q then p * m else -p * m)) / absI q ∧ n ≤ (f - q * m) / p := by
      generalize (f + (if 0 < q then p * m else -p * m)) / absI q = A
      generalize (f - q * m) / p = B
      split <;> omega
    rw [b1, b2, a1, a2, a3, a4]
    unfold absI
    rcases Int.lt_or_gt_of_ne hq with z | z
    · rw [if_pos z, if_neg (by omega), Int.neg_mul, Int.neg_mul]
      omega
    · rw [if_neg (show ¬ q < 0 by omega), if_pos z]
      omega
theorem isR_side {p q k m n : Int} (h : Tn p q k) (hr : isR p q m n) : -((p + absI q) / 2) ≤ m ∧ m ≤ (p + absI q) / 2 := by
  have h0 := cc_pos h
  have hp := h.p1
  have ho := h.o
  obtain ⟨⟨a1, a2⟩, b1, b2⟩ := hr
  have e1 : cc p q * m = p * (p * m - q * n) + q * (p * n + q * m) := by unfold cc; grind
  have od : (p + absI q) % 2 = 1 := by unfold absI; split <;> omega
  generalize p * m - q * n = X at *
  generalize p * n + q * m = Y at *
  have c1 : p * (2 * X) ≤ p * (cc p q - 1) := Int.mul_le_mul_of_nonneg_left (by omega) (by omega)
  have c2 : p * -(cc p q - 1) ≤ p * (2 * X) := Int.mul_le_mul_of_nonneg_left (by omega) (by omega)
  have c3 : -(absI q * (cc p q - 1)) ≤ q * (2 * Y) ∧ q * (2 * Y) ≤ absI q * (cc p q - 1) := by
    have d1 : absI (q * (2 * Y)) = absI q * absI (2 * Y) := absI_mulQ q (2 * Y)
    have d2 : absI (2 * Y) ≤ cc p q - 1 := by rw [absI_le]; omega
    have d3 := Int.mul_le_mul_of_nonneg_left d2 (absI_nn q)
    have d4 : absI (q * (2 * Y)) ≤ absI q * (cc p q - 1) := by omega
    rw [absI_le] at d4
    exact d4
  rw [Int.mul_neg] at c2
  have hs : 0 < p + absI q := by have := absI_nn q; omega
  have e2 : (p + absI q) * (cc p q - 1) = p * (cc p q - 1) + absI q * (cc p q - 1) := by rw [Int.add_mul]
  have e3 : cc p q * (p + absI q) = (p + absI q) * (cc p q - 1) + (p + absI q) := by grind
  have e4 : 2 * (cc p q * m) = p * (2 * X) + q * (2 * Y) := by rw [e1]; grind
  have l1 : 2 * m < p + absI q := by
    refine Int.lt_of_mul_lt_mul_left (a := cc p q) ?_ (by omega)
    have : cc p q * (2 * m) = 2 * (cc p q * m) := by grind
    omega
  have l2 : -(p + absI q) < 2 * m := by
    refine Int.lt_of_mul_lt_mul_left (a := cc p q) ?_ (by omega)
    have : cc p q * (2 * m) = 2 * (cc p q * m) := by grind
    rw [Int.mul_neg]
    omega
  omega
def rowAt (p q m : Int) : List (Int × Int) := (List.range (rowHi p q m + 1 - rowLo p q m).toNat).map fun j : Nat => (m, rowLo p q m + (j : Int))
def rowsTo (p q : Int) (i : Nat) : List (Int × Int) := (List.range i).flatMap fun j : Nat => rowAt p q (-((p + absI q) / 2) + (j : Int))
theorem rowsTo_succ (p q : Int) (i : Nat) : rowsTo p q (i + 1) = rowsTo p q i ++ rowAt p q (-((p + absI q) / 2) + (i : Int)) := by
  unfold rowsTo
  rw [List.range_succ, List.flatMap_append]
  simp
theorem rows_all {p q k : Int} (h : Tn p q k) : rowsTo p q (2 * ((p + absI q) / 2) + 1).toNat = restL p q := by
  have hp := h.p1
  have hq := absI_nn q
  have key : ∀ (l m : List (Int × Int)), l.Pairwise (fun a b => a.1 < b.1 ∨ (a.1 = b.1 ∧ a.2 < b.2)) → m.Pairwise (fun a b => a.1 < b.1 ∨ (a.1 = b.1 ∧ a.2 < b.2)) → (∀ t, t ∈ l ↔ t ∈ m) → l = m := fun l m hl hm hh => by
    refine List.Perm.eq_of_pairwise (le := fun a b => a.1 < b.1 ∨ (a.1 = b.1 ∧ a.2 < b.2)) (fun a b _ _ h1 h2 => by omega) hl hm ((List.perm_ext_iff_of_nodup ?_ ?_).mpr hh)
    · exact hl.imp fun hab e => by subst e; omega
    · exact hm.imp fun hab e => by subst e; omega
  refine key _ _ ?_ (restL_up p q) fun t => ?_
  · unfold rowsTo
    refine List.pairwise_flatMap.mpr ⟨fun i _ => ?a, ?b⟩
    case a =>
      refine List.pairwise_map.mpr (List.pairwise_lt_range.imp ?_)
      intro a b hab
      exact .inr ⟨rfl, by show _ + _ < _ + _; omega⟩
    case b =>
      refine List.pairwise_lt_range.imp ?_
      intro a b hab x hx y hy
      obtain ⟨j, _, rfl⟩ := List.mem_map.mp hx
      obtain ⟨j', _, rfl⟩ := List.mem_map.mp hy
      left
      show _ + _ < _ + _
      omega
  · obtain ⟨m, n⟩ := t
    rw [restL_mem h]
    unfold rowsTo
    rw [List.mem_flatMap]
    have side0 : q = 0 → (p + absI q) / 2 = 0 := fun z => by
      have g := h.g
      rw [z] at g ⊢
      have : p.natAbs = 1 := by simpa using g
      show (p + 0) / 2 = 0
      omega
    constructor
    · rintro ⟨i, hi, ht⟩
      have hi := List.mem_range.mp hi
      obtain ⟨j, hj, e⟩ := List.mem_map.mp ht
      have hj := List.mem_range.mp hj
      have e1 : -((p + absI q) / 2) + (i : Int) = m := congrArg Prod.fst e
      have e2 : rowLo p q (-((p + absI q) / 2) + (i : Int)) + (j : Int) = n := congrArg Prod.snd e
      rw [e1] at e2 hj
      exact (row_iff h (fun z => by have := side0 z; omega)).mp ⟨by omega, by omega⟩
    · intro hr
      have hs := isR_side h hr
      have hb := (row_iff h (fun z => by have := side0 z; omega)).mpr hr
      refine ⟨(m + (p + absI q) / 2).toNat, List.mem_range.mpr (by omega), List.mem_map.mpr ⟨(n - rowLo p q m).toNat, List.mem_range.mpr ?_, ?_⟩⟩
      · rw [show -((p + absI q) / 2) + (((m + (p + absI q) / 2).toNat : Nat) : Int) = m by omega]
        omega
      · rw [show -((p + absI q) / 2) + (((m + (p + absI q) / 2).toNat : Nat) : Int) = m by omega]
        show (m, rowLo p q m + (((n - rowLo p q m).toNat : Nat) : Int)) = (m, n)
        rw [show rowLo p q m + (((n - rowLo p q m).toNat : Nat) : Int) = n by omega]

end Tp
namespace Tp
open PySem PySem.Spec PyProof.Rows L2 DL
theorem rowLo_ne {p q m : Int} (hq : q ≠ 0) : rowLo p q m = (if -(((p * p + q * q - 1) / 2 - (if 0 < q then p * m else -p * m)) / absI q) > -(((p * p + q * q - 1) / 2 + q * m) / p) then -(((p * p + q * q - 1) / 2 - (if 0 < q then p * m else -p * m)) / absI q) else -(((p * p + q * q - 1) / 2 + q * m) / p)) := if_neg hq
theorem rowHi_ne {p q m : Int} (hq : q ≠ 0) : rowHi p q m = (if ((p * p + q * q - 1) / 2 + (if 0 < q then p * m else -p * m)) / absI q < ((p * p + q * q - 1) / 2 - q * m) / p then ((p * p + q * q - 1) / 2 + (if 0 < q then p * m else -p * m)) / absI q else ((p * p + q * q - 1) / 2 - q * m) / p) := if_neg hq
theorem rowLo_eq {p q m : Int} (hq : q = 0) : rowLo p q m = -(((p * p + q * q - 1) / 2 + q * m) / p) := if_pos hq
theorem rowHi_eq {p q m : Int} (hq : q = 0) : rowHi p q m = ((p * p + q * q - 1) / 2 - q * m) / p := if_pos hq
theorem row_bd {p q m : Int} (b1 : Bd 6 p) (b2 : Bd 6 q) (b3 : Bd 6 m) : (-1048576 < rowLo p q m ∧ rowLo p q m < 1048576) ∧ -1048576 < rowHi p q m ∧ rowHi p q m < 1048576 := by
  have bh : Bd 14 ((p * p + q * q - 1) / 2) := ((((b1.mul b1).add (b2.mul b2)).sub (Bd.lit 1)).div).up (by decide +kernel)
  have bs : Bd 12 (if 0 < q then p * m else -p * m) := by
    split
    · exact b1.mul b3
    · exact b1.neg.mul b3
  have c1 : Bd 16 (-(((p * p + q * q - 1) / 2 + q * m) / p)) := ((bh.add (b2.mul b3)).div.neg).up (by decide)
  have c2 : Bd 16 (((p * p + q * q - 1) / 2 - q * m) / p) := ((bh.sub (b2.mul b3)).div).up (by decide)
  have c3 : Bd 16 (-(((p * p + q * q - 1) / 2 - (if 0 < q then p * m else -p * m)) / absI q)) := ((bh.sub bs).div.neg).up (by decide)
  have c4 : Bd 16 (((p * p + q * q - 1) / 2 + (if 0 < q then p * m else -p * m)) / absI q) := ((bh.add bs).div).up (by decide)
  have l1 : Bd 16 (rowLo p q m) := by
    unfold rowLo
    exact (Bd.ite c1 (Bd.ite c3 c1)).up (by decide)
  have l2 : Bd 16 (rowHi p q m) := by
    unfold rowHi
    exact (Bd.ite c2 (Bd.ite c4 c2)).up (by decide)
  unfold Bd at l1 l2
  omega
theorem sq_44 {p q k : Int} (h : Tn p q k) (hc : cc p q ≤ 2000) : p ≤ 44 ∧ absI q ≤ 44 ∧ Bd 6 p ∧ Bd 6 q ∧ ∀ m, -((p + absI q) / 2) ≤ m → m ≤ (p + absI q) / 2 → Bd 6 m := by
  have hp := h.p1
  obtain ⟨hq0, hqp⟩ := tn_abs h
  have ec : p * p + absI q * absI q = cc p q := cc_abs p q
  have q0 := Int.mul_nonneg hq0 hq0
  have p44 : p ≤ 44 := Int.not_lt.mp fun z => by
    have := Int.mul_le_mul (show 45 ≤ p by omega) (show 45 ≤ p by omega) (by decide) (by omega)
    omega
  have ha : (absI q = q ∨ absI q = -q) := by unfold absI; split <;> omega
  refine ⟨p44, by omega, by unfold Bd; omega, by unfold Bd; omega, fun m h1 h2 => by unfold Bd; omega⟩
theorem rowsTo_len {p q k : Int} (h : Tn p q k) {i : Nat} (hi : i ≤ (2 * ((p + absI q) / 2) + 1).toNat) : ((rowsTo p q i).length : Int) ≤ cc p q := by
  rw [← restL_len h, ← rows_all h]
  have key : ∀ n, (rowsTo p q i).length ≤ (rowsTo p q (i + n)).length := fun n => by
    induction n with
    | zero => exact Nat.le_refl _
    | succ n ih =>
      refine Nat.le_trans ih ?_
      rw [show i + (n + 1) = (i + n) + 1 by omega, rowsTo_succ, List.length_append]
      omega
  have := key ((2 * ((p + absI q) / 2) + 1).toNat - i)
  rw [show i + ((2 * ((p + absI q) / 2) + 1).toNat - i) = (2 * ((p + absI q) / 2) + 1).toNat by omega] at this
  omega
theorem rowAt_len {p q k : Int} (h : Tn p q k) {i : Nat} (hi : i < (2 * ((p + absI q) / 2) + 1).toNat) : ((rowsTo p q i).length : Int) + (rowAt p q (-((p + absI q) / 2) + (i : Int))).length ≤ cc p q := by
  have := rowsTo_len h (i := i + 1) (by omega)
  rw [rowsTo_succ, List.length_append] at this
  omega
theorem rowAt_at {p q m : Int} {j : Nat} (h : j < (rowHi p q m + 1 - rowLo p q m).toNat) : (rowAt p q m)[j]? = some (m, rowLo p q m + (j : Int)) := by
  unfold rowAt
  rw [List.getElem?_map, List.getElem?_range h] <;> rfl
theorem rowAt_take {p q m : Int} : (rowAt p q m).take (rowHi p q m + 1 - rowLo p q m).toNat = rowAt p q m := List.take_of_length_le (by unfold rowAt; rw [List.length_map, List.length_range]; omega)
def con_rowends : Con := fun ds S Q => ∃ p q m : Int, ds = [.int p, .int q, .int m] ∧ 0 < p ∧ (Bd 50 p ∧ Bd 50 q ∧ Bd 60 m) ∧ Q (.tup [.int (rowLo p q m), .int (rowHi p q m)]) S
def con_restsO : Con := fun ds S Q => ∃ p q k : Int, ds = [.tup [.int p, .int q, .int k]] ∧ Tn p q k ∧ cc p q ≤ 2000 ∧ ∀ a, getS a S = none → Q (.raw (.ref a)) ((a, (restL p q).map pr2) :: S)
def con_restsX (CT : Addr) : ConX := fun ds S Q R => ∃ p q k : Int, ds = [.tup [.int p, .int q, .int k]] ∧ Tn p q k ∧ (2000 < cc p q → R ⟨.ref CT, some ("limit", .int 2000)⟩ S) ∧ (cc p q ≤ 2000 → ∀ a, getS a S = none → Q (.raw (.ref a)) ((a, (restL p q).map pr2) :: S))

end Tp
namespace Tp
open PySem PySem.Spec PyProof.Rows L2 DL
/-! ### a row as a whole -/
def metB (p q k x y : Int) : Bool := !(metL p q k x y).isEmpty
theorem meetV_nonB {p q k x y : Int} (h : Tn p q k) : nonB (meetV p q k x y) = some (!metB p q k x y) := by
  unfold meetV metB
  rcases met_cases h x y with ⟨e, _⟩ | ⟨z, w, e, _⟩ <;> rw [e] <;> rfl
theorem met_rest {p q k : Int} (h : Tn p q k) (x y : Int) : metB p q k x y = true ↔ metR p q (reX p q x y, reY p q x y) := by
  have s : ∀ a b : Int, (imX p q k (x + a) (y + b) = imX p q k x y ∧ imY p q k (x + a) (y + b) = imY p q k x y) ↔ meetO p q a b (p * reX p q x y - q * reY p q x y) (p * reY p q x y + q * reX p q x y) := fun a b => same_off h x y a b
  have e : metB p q k x y = true ↔ ∃ z w, (z, w) ∈ metL p q k x y := by
    unfold metB
    cases z : metL p q k x y with
    | nil => exact ⟨fun c => (nomatch c), fun ⟨a, b, c⟩ => (nomatch c)⟩
    | cons t r => exact ⟨fun _ => ⟨t.1, t.2, List.mem_cons_self⟩, fun _ => rfl⟩
  rw [e]
  unfold metR
  constructor
  · rintro ⟨z, w, hm⟩
    obtain ⟨n1, e1, e2⟩ := (metL_mem h).mp hm
    have sm := im_same h e1 e2
    have s1 := (s (z - x) (w - y)).mp ⟨by rw [show x + (z - x) = z by omega, show y + (w - y) = w by omega]; exact e1, by rw [show x + (z - x) = z by omega, show y + (w - y) = w by omega]; exact e2⟩
    rcases sm with g | g | g | g | g
    · exact (n1 g).elim
    · rw [show z - x = 1 by omega, show w - y = 0 by omega] at s1
      exact .inl s1
    · rw [show z - x = -1 by omega, show w - y = 0 by omega] at s1
      exact .inr (.inl s1)
    · rw [show z - x = 0 by omega, show w - y = 1 by omega] at s1
      exact .inr (.inr (.inl s1))
    · rw [show z - x = 0 by omega, show w - y = -1 by omega] at s1
      exact .inr (.inr (.inr s1))
  · have mk : ∀ a b : Int, ¬ (a = 0 ∧ b = 0) → meetO p q a b (p * reX p q x y - q * reY p q x y) (p * reY p q x y + q * reX p q x y) → ∃ z w, (z, w) ∈ metL p q k x y := fun a b ne m => ⟨x + a, y + b, (metL_mem h).mpr ⟨by omega, (s a b).mpr m⟩⟩
    rintro (g | g | g | g)
    · exact mk 1 0 (by omega) g
    · exact mk (-1) 0 (by omega) g
    · exact mk 0 1 (by omega) g
    · exact mk 0 (-1) (by omega) g
theorem cb_rest {p q k : Int} (h : Tn p q k) (x y : Int) : cbB p q k x y = true ↔ isC p q (reX p q x y) (reY p q x y) := by
  rw [← back_iff h]
  unfold cbB
  rw [decide_eq_true_eq]
theorem met_row {p q k : Int} (h : Tn p q k) (x y : Int) : sumN (cc p q).toNat (fun j => if metB p q k (x + (j : Int)) y = true then (1 : Int) else 0) = 2 * twN p (absI q) := by
  rw [← (met_sums h).1, ← row1 h x y]
  refine sumN_congr fun j _ => ?_
  have := met_rest h (x + (j : Int)) y
  simp only [this]
theorem both_row {p q k : Int} (h : Tn p q k) (x y : Int) : sumN (cc p q).toNat (fun j => if (cbB p q k (x + (j : Int)) y && metB p q k (x + (j : Int)) y) = true then (1 : Int) else 0) = twN p (absI q) := by
  rw [← (met_sums h).2, ← row1 h x y fun t => if metR p q t ∧ isC p q t.1 t.2 then (1 : Int) else 0]
  refine sumN_congr fun j _ => ?_
  have m := met_rest h (x + (j : Int)) y
  have c := cb_rest h (x + (j : Int)) y
  have e : ((cbB p q k (x + (j : Int)) y && metB p q k (x + (j : Int)) y) = true) ↔ (metR p q (reX p q (x + (j : Int)) y, reY p q (x + (j : Int)) y) ∧ isC p q (reX p q (x + (j : Int)) y) (reY p q (x + (j : Int)) y)) := by
    rw [Bool.and_eq_true, m, c]
    exact And.comm
  simp only [e]
def rowB (n : Nat) (f : Nat → Bool) : List Bool := (List.range n).map f
theorem rowB_count (n : Nat) (f : Nat → Bool) (v : Bool) : ((((rowB n f).map D.bl).countP fun z => eqB z (.bl v) : Nat) : Int) = sumN n fun j => if f j = v then (1 : Int) else 0 := by
  rw [count_bls]
  unfold rowB
  rw [List.countP_map, countP_sumN]
  refine sumN_congr fun j _ => ?_
  show (if (f j == v) = true then (1 : Int) else 0) = _
  simp only [beq_iff_eq]
def backR (p q k x y : Int) : List Bool := rowB (cc p q).toNat fun j => cbB p q k (x + (j : Int)) y
def metRw (p q k x y : Int) : List Bool := rowB (cc p q).toNat fun j => metB p q k (x + (j : Int)) y
def aloneR (p q k x y : Int) : List Bool := rowB (cc p q).toNat fun j => cbB p q k (x + (j : Int)) y && !metB p q k (x + (j : Int)) y
theorem back_c {p q k : Int} (h : Tn p q k) (x y : Int) : ((((backR p q k x y).map D.bl).countP fun z => eqB z (.bl true) : Nat) : Int) = backN p (absI q) := by
  unfold backR
  rw [rowB_count, cb_row h]
theorem met_c {p q k : Int} (h : Tn p q k) (x y : Int) : ((((metRw p q k x y).map D.bl).countP fun z => eqB z (.bl true) : Nat) : Int) = 2 * twN p (absI q) ∧ ((((metRw p q k x y).map D.bl).countP fun z => eqB z (.bl false) : Nat) : Int) = cc p q - 2 * twN p (absI q) := by
  unfold metRw
  rw [rowB_count, rowB_count, met_row h]
  refine ⟨rfl, ?_⟩
  have h0 := cc_pos h
  have e1 := met_row h x y
  have e2 : sumN (cc p q).toNat (fun j => (if metB p q k (x + (j : Int)) y = false then (1 : Int) else 0) + if metB p q k (x + (j : Int)) y = true then (1 : Int) else 0) = sumN (cc p q).toNat fun _ => 1 := sumN_congr fun j _ => by cases metB p q k (x + (j : Int)) y <;> rfl
  rw [sumN_add, sumN_const, e1] at e2
  omega
theorem alone_c {p q k : Int} (h : Tn p q k) (x y : Int) : ((((aloneR p q k x y).map D.bl).countP fun z => eqB z (.bl true) : Nat) : Int) = backN p (absI q) - twN p (absI q) := by
  unfold aloneR
  rw [rowB_count, ← cb_row h x y, ← both_row h x y, ← sumN_sub]
  refine sumN_congr fun j _ => ?_
  cases cbB p q k (x + (j : Int)) y <;> cases metB p q k (x + (j : Int)) y <;> rfl
theorem rowB_at {n i : Nat} {f : Nat → Bool} (h : i < n) : (rowB n f)[i]? = some (f i) := by
  unfold rowB
  rw [List.getElem?_map, List.getElem?_range h] <;> rfl
theorem rowB_len (n : Nat) (f : Nat → Bool) : (rowB n f).length = n := by unfold rowB; rw [List.length_map, List.length_range]
theorem rowB_take (n : Nat) (f : Nat → Bool) : (rowB n f).take n = rowB n f := List.take_of_length_le (by rw [rowB_len]; omega)
/-- rests of the row, sorted -/
def restR (p q x y : Int) : List (Int × Int) := (List.range (cc p q).toNat).map fun j : Nat => (reX p q (x + (j : Int)) y, reY p q (x + (j : Int)) y)
theorem restR_sort {p q k : Int} (h : Tn p q k) (x y : Int) : (restR p q x y).mergeSort le2 = restL p q := by
  refine sort_perm ?_ (restL_sort p q)
  have := row_perm h x y (.inl ⟨rfl, rfl⟩)
  refine List.Perm.trans (List.Perm.of_eq ?_) this
  refine List.map_congr_left fun j _ => ?_
  rw [show x + 1 * (j : Int) = x + j by omega, show y + 0 * (j : Int) = y by omega]
theorem restR_at {p q x y : Int} {i : Nat} (h : i < (cc p q).toNat) : (restR p q x y)[i]? = some (reX p q (x + (i : Int)) y, reY p q (x + (i : Int)) y) := by
  unfold restR
  rw [List.getElem?_map, List.getElem?_range h] <;> rfl
theorem restR_len (p q x y : Int) : (restR p q x y).length = (cc p q).toNat := by unfold restR; rw [List.length_map, List.length_range]
theorem restR_take {p q x y : Int} : (restR p q x y).take (cc p q).toNat = restR p q x y := List.take_of_length_le (by rw [restR_len]; omega)
/-- the first pixel with a rest -/
def fstF (p q : Int) (t : Int × Int) : Int := (((List.range (cc p q).toNat).find? fun j : Nat => decide (reX p q (j : Int) 0 = t.1 ∧ reY p q (j : Int) 0 = t.2)).getD 0 : Nat)
theorem fstF_eq {p q k f : Int} {t : Int × Int} (h : Tn p q k) (h0 : 0 ≤ f) (h1 : f < cc p q) (e1 : reX p q f 0 = t.1) (e2 : reY p q f 0 = t.2) : fstF p q t = f := by
  unfold fstF
  cases e : (List.range (cc p q).toNat).find? fun j : Nat => decide (reX p q (j : Int) 0 = t.1 ∧ reY p q (j : Int) 0 = t.2) with
  | none =>
    have := List.find?_eq_none.mp e f.toNat (List.mem_range.mpr (by omega))
    refine absurd (decide_eq_true ?_) this
    rw [show ((f.toNat : Nat) : Int) = f by omega]
    exact ⟨e1, e2⟩
  | some g =>
    have g0 : decide (reX p q (g : Int) 0 = t.1 ∧ reY p q (g : Int) 0 = t.2) = true := List.find?_some (p := fun j : Nat => decide (reX p q (j : Int) 0 = t.1 ∧ reY p q (j : Int) 0 = t.2)) e
    have g1 := of_decide_eq_true g0
    have g2 := List.mem_range.mp (List.mem_of_find?_eq_some e)
    show ((g : Nat) : Int) = f
    exact first_only h ⟨by omega, by omega⟩ ⟨h0, h1⟩ (g1.1.trans e1.symm) (g1.2.trans e2.symm)
def line0 (n : Nat) : List (Int × Int) := (List.range n).map fun j : Nat => ((j : Int), (0 : Int))
theorem fst_sort {p q k : Int} (h : Tn p q k) : ((restL p q).map fun t => (fstF p q t, (0 : Int))).mergeSort le2 = line0 (cc p q).toNat := by
  have h0 := cc_pos h
  refine sort_perm ?_ ?_
  · have pm := (row_perm h 0 0 (.inl ⟨rfl, rfl⟩)).map fun t => (fstF p q t, (0 : Int))
    refine pm.symm.trans (List.Perm.of_eq ?_)
    rw [List.map_map]
    refine List.map_congr_left fun j hj => ?_
    have hj := List.mem_range.mp hj
    show (fstF p q (reX p q (0 + 1 * (j : Int)) (0 + 0 * (j : Int)), reY p q (0 + 1 * (j : Int)) (0 + 0 * (j : Int))), (0 : Int)) = ((j : Int), 0)
    rw [show (0 : Int) + 1 * (j : Int) = j by omega, show (0 : Int) + 0 * (j : Int) = 0 by omega, fstF_eq h (f := (j : Int)) (by omega) (by omega) rfl rfl]
  · refine List.pairwise_map.mpr (List.pairwise_lt_range.imp fun {a b} hab => decide_eq_true ?_)
    show (a : Int) < b ∨ ((a : Int) = b ∧ (0 : Int) ≤ 0)
    omega
theorem line0_at {n i : Nat} (h : i < n) : (line0 n)[i]? = some ((i : Int), (0 : Int)) := by
  unfold line0
  rw [List.getElem?_map, List.getElem?_range h] <;> rfl
theorem line0_take (n : Nat) : (line0 n).take n = line0 n := List.take_of_length_le (by unfold line0; rw [List.length_map, List.length_range]; omega)
theorem hitL_sum {p q k : Int} (h : Tn p q k) (x y : Int) : (hitL p q k x y).sum = cc p q := by
  unfold hitL
  rw [← sumN_list, hit_sum h]
/-- bare, as the hits tell -/
theorem bare_hits {p q k : Int} (x y : Int) (n : Nat) : (rowB n fun j => bareB p q k (x + (j : Int)) y) = (List.range n).map fun j : Nat => decide (((srcL p q k (x + (j : Int)) y).length : Int) = 0) := by
  unfold rowB
  refine List.map_congr_left fun j _ => ?_
  unfold bareB
  cases srcL p q k (x + (j : Int)) y with
  | nil => rfl
  | cons a l =>
    show false = decide _
    refine (decide_eq_false ?_).symm
    rw [List.length_cons]
    omega
/-- the squares of all rests -/
theorem sq_rests {p q k : Int} (h : Tn p q k) : 6 * ((restL p q).map fun t => t.1 * t.1 + t.2 * t.2).sum = cc p q * cc p q - 1 := by
  have h0 := cc_pos h
  have r := row_sq h 0 0 (.inl ⟨rfl, rfl⟩)
  have e : sumN (cc p q).toNat (fun j => offSq p q (0 + 1 * (j : Int), 0 + 0 * (j : Int))) = cc p q * ((restL p q).map fun t => t.1 * t.1 + t.2 * t.2).sum := by
    rw [← row_sum h 0 0 (.inl ⟨rfl, rfl⟩) fun t => t.1 * t.1 + t.2 * t.2, ← sumN_mul]
    refine sumN_congr fun j _ => ?_
    generalize (0 : Int) + 1 * (j : Int) = a
    generalize (0 : Int) + 0 * (j : Int) = b
    show rs (exX p q 0 a b) (cc p q) * rs (exX p q 0 a b) (cc p q) + rs (exY p q 0 a b) (cc p q) * rs (exY p q 0 a b) (cc p q) = cc p q * (reX p q a b * reX p q a b + reY p q a b * reY p q a b)
    rw [← (off_rs p q a b).1, ← (off_rs p q a b).2]
    unfold cc
    grind
  rw [e] at r
  refine cancel h0 ?_
  rw [← r]
  grind
theorem rat_one {n c : Int} (hc : 0 < c) : n / ((Nat.gcd n.natAbs c.natAbs : Nat) : Int) * (c / (c / ((Nat.gcd n.natAbs c.natAbs : Nat) : Int))) = n ∧ 0 < c / ((Nat.gcd n.natAbs c.natAbs : Nat) : Int) := by
  have g0 := gcd_pos' n hc
  have d1 : ((Nat.gcd n.natAbs c.natAbs : Nat) : Int) ∣ n := PySem.W.mg_dvd_left _ _
  have d2 : ((Nat.gcd n.natAbs c.natAbs : Nat) : Int) ∣ c := PySem.W.mg_dvd_right _ _
  generalize ((Nat.gcd n.natAbs c.natAbs : Nat) : Int) = g at *
  obtain ⟨a, rfl⟩ := d1
  obtain ⟨b, rfl⟩ := d2
  have hb : 0 < b := by
    rcases Int.lt_or_le 0 b with z | z
    · exact z
    · have := Int.mul_le_mul_of_nonneg_left z (show 0 ≤ g by omega)
      omega
  rw [Int.mul_ediv_cancel_left _ (by omega), Int.mul_ediv_cancel_left _ (by omega), Int.mul_ediv_cancel _ (by omega)]
  exact ⟨Int.mul_comm .., hb⟩
theorem mean_top {c s : Int} (hc : 0 < c) (hs : 6 * s = c * c - 1) : s * (6 * c * c / ((Nat.gcd (c * c - 1).natAbs (6 * c * c).natAbs : Nat) : Int)) = (c * c - 1) / ((Nat.gcd (c * c - 1).natAbs (6 * c * c).natAbs : Nat) : Int) * c * c := by
  have h6 : 0 < 6 * c * c := Int.mul_pos (by omega) hc
  have g0 := gcd_pos' (c * c - 1) h6
  have d1 : ((Nat.gcd (c * c - 1).natAbs (6 * c * c).natAbs : Nat) : Int) ∣ c * c - 1 := PySem.W.mg_dvd_left _ _
  have d2 : ((Nat.gcd (c * c - 1).natAbs (6 * c * c).natAbs : Nat) : Int) ∣ 6 * c * c := PySem.W.mg_dvd_right _ _
  generalize ((Nat.gcd (c * c - 1).natAbs (6 * c * c).natAbs : Nat) : Int) = g at *
  obtain ⟨a, ea⟩ := d1
  obtain ⟨b, eb⟩ := d2
  rw [ea, eb, Int.mul_ediv_cancel_left _ (by omega), Int.mul_ediv_cancel_left _ (by omega)]
  refine cancel g0 ?_
  rw [show g * (s * b) = s * (g * b) by grind, ← eb, show g * (a * c * c) = (g * a) * c * c by grind, ← ea, ← hs]
  grind
theorem line_at {x y : Int} {n i : Nat} {z w : Int} (h : (lineR x y 1 0 n)[i]? = some (z, w)) : i < n ∧ z = x + (i : Int) ∧ y = w := by
  have hlt := (List.getElem?_eq_some_iff.mp h).1
  rw [lineR_len] at hlt
  rw [lineR_at hlt] at h
  have e := Option.some.inj h
  have e1 : x + 1 * (i : Int) = z := congrArg Prod.fst e
  have e2 : y + 0 * (i : Int) = w := congrArg Prod.snd e
  exact ⟨hlt, by omega, by omega⟩
theorem back_met_len (p q k x y : Int) : (backR p q k x y).length = (metRw p q k x y).length := by unfold backR metRw; rw [rowB_len, rowB_len]
theorem bl_at {n i : Nat} {f : Nat → Bool} {d : D} (h : ((rowB n f).map D.bl)[i]? = some d) : i < n ∧ d = .bl (f i) := by
  have hlt := (List.getElem?_eq_some_iff.mp h).1
  rw [List.length_map, rowB_len] at hlt
  rw [List.getElem?_map, rowB_at hlt] at h
  exact ⟨hlt, (Option.some.inj h).symm⟩
theorem rest_50 {p q k m n : Int} (h : Tn p q k) (hr : isR p q m n) : Bd 50 m ∧ Bd 50 n := by
  have b := isR_bd h hr
  exact ⟨Bd.of_ab h.bp b.1, Bd.of_ab h.bp b.2⟩
theorem kinds_eq (B T c : Int) : D.tup [.int (B - T), .int (c - B - T), .int (2 * T)] = .tup [.int (B - T), .int (c - 2 * T - (B - T)), .int (2 * T)] := by rw [show c - 2 * T - (B - T) = c - B - T by omega]
def sqR (p q x y : Int) : List Int := (List.range (cc p q).toNat).map fun j : Nat => reX p q (x + (j : Int)) y * reX p q (x + (j : Int)) y + reY p q (x + (j : Int)) y * reY p q (x + (j : Int)) y
theorem sqR_sum {p q k : Int} (h : Tn p q k) (x y : Int) : 6 * (sqR p q x y).sum = cc p q * cc p q - 1 := by
  unfold sqR
  rw [← sumN_list, row1 h x y fun t => t.1 * t.1 + t.2 * t.2]
  exact sq_rests h
theorem sqR_at {p q x y : Int} {i : Nat} (h : i < (cc p q).toNat) : (sqR p q x y)[i]? = some (reX p q (x + (i : Int)) y * reX p q (x + (i : Int)) y + reY p q (x + (i : Int)) y * reY p q (x + (i : Int)) y) := by
  unfold sqR
  rw [List.getElem?_map, List.getElem?_range h] <;> rfl
theorem sqR_len (p q x y : Int) : (sqR p q x y).length = (cc p q).toNat := by unfold sqR; rw [List.length_map, List.length_range]
theorem sqR_take {p q x y : Int} : (sqR p q x y).take (cc p q).toNat = sqR p q x y := List.take_of_length_le (by rw [sqR_len]; omega)
theorem sqR_bd {p q k x y : Int} {v : Int} (h : Tn p q k) (hv : v ∈ sqR p q x y) : Bd 102 v := by
  unfold sqR at hv
  obtain ⟨j, _, rfl⟩ := List.mem_map.mp hv
  have b := rest_50 h (re_is h (x + (j : Int)) y)
  exact ((b.1.mul b.1).add (b.2.mul b.2)).up (by decide)
def missR (p q x y : Int) : List D := (sqR p q x y).map fun v => rat v (cc p q)
theorem miss_at {p q x y : Int} {i : Nat} {d : D} (h : (missR p q x y)[i]? = some d) : ∃ v, (sqR p q x y)[i]? = some v ∧ v ∈ sqR p q x y ∧ d = rat v (cc p q) := by
  unfold missR at h
  rw [List.getElem?_map] at h
  cases e : (sqR p q x y)[i]? with
  | none => rw [e] at h; cases h
  | some v =>
    rw [e] at h
    exact ⟨v, rfl, List.mem_of_getElem? e, (Option.some.inj h).symm⟩
def bareH (p q k x y : Int) : List Bool := (List.range (cc p q).toNat).map fun j : Nat => decide (((srcL p q k (x + (j : Int)) y).length : Int) = 0)
theorem bareH_at {p q k x y : Int} {i : Nat} (h : i < (cc p q).toNat) : (bareH p q k x y)[i]? = some (decide (((srcL p q k (x + (i : Int)) y).length : Int) = 0)) := by
  unfold bareH
  rw [List.getElem?_map, List.getElem?_range h] <;> rfl
theorem bareH_take {p q k x y : Int} : (bareH p q k x y).take (cc p q).toNat = bareH p q k x y := List.take_of_length_le (by unfold bareH; rw [List.length_map, List.length_range]; omega)
def bareRw (p q k x y : Int) : List Bool := rowB (cc p q).toNat fun j => bareB p q k (x + (j : Int)) y
theorem bare_eq (p q k x y : Int) : D.lst ((bareRw p q k x y).map D.bl) = D.lst ((bareH p q k x y).map D.bl) := by
  unfold bareRw bareH
  rw [bare_hits (p := p) (q := q) (k := k) x y]
theorem hit_at {p q k x y : Int} {i : Nat} {d : D} (h : ((hitL p q k x y).map D.int)[i]? = some d) : i < (cc p q).toNat ∧ d = .int ((srcL p q k (x + (i : Int)) y).length : Int) := by
  have hlt := (List.getElem?_eq_some_iff.mp h).1
  rw [List.length_map] at hlt
  have hlt : i < (cc p q).toNat := by unfold hitL at hlt; rw [List.length_map, List.length_range] at hlt; exact hlt
  rw [List.getElem?_map, hitL_at hlt] at h
  exact ⟨hlt, (Option.some.inj h).symm⟩
theorem hitL_len (p q k x y : Int) : (hitL p q k x y).length = (cc p q).toNat := by unfold hitL; rw [List.length_map, List.length_range]
theorem sum_bd {p q k s : Int} (h : Tn p q k) (hs : 6 * s = cc p q * cc p q - 1) : Bd 204 s := by
  have b := Bd.cc h.bp h.bq
  have h0 := cc_pos h
  have m : 0 < cc p q * cc p q := Int.mul_pos h0 h0
  exact Bd.of_le (by omega) (by omega) ((b.mul b).up (by decide))
def con_r74 : Con := fun ds S Q => ∃ p q k x y : Int, ds = [.tup [.int p, .int q, .int k], .int x, .int y] ∧ Tn p q k ∧ p ≤ 40 ∧ cc p q ≤ 2000 ∧ (Bd 160 x ∧ Bd 160 y) ∧ Q (.bl true) S
theorem cc_30 {p q k : Int} (h : Tn p q k) (hp : p ≤ 30) : cc p q ≤ 2000 := by
  have h1 := h.p1
  obtain ⟨hq0, hqp⟩ := tn_abs h
  have ec := cc_abs p q
  have m1 : p * p ≤ 30 * 30 := Int.mul_le_mul hp hp (by omega) (by omega)
  have m2 : absI q * absI q ≤ 30 * 30 := Int.mul_le_mul (by omega) (by omega) (by omega) (by omega)
  omega

end Tp
namespace Tp
open PySem PySem.Spec PyProof.Rows L2 DL
/-! ### k10 -/
theorem flat7_pr2 (l : List (Int × Int)) : flatOkL 7 (l.map pr2) = true := flatOkL_mem fun d hd => by
  obtain ⟨t, _, rfl⟩ := List.mem_map.mp hd
  rfl
theorem small_pr2 : ∀ {l : List (Int × Int)}, (∀ t ∈ l, Bd 10 t.1 ∧ Bd 10 t.2) → PyData.leavesShortAll 13 (toPyL (l.map pr2)) = true ∧ shoL (l.map pr2)
  | [], _ => ⟨rfl, trivial⟩
  | t :: l, h => by
    obtain ⟨i1, i2⟩ := small_pr2 (l := l) fun s hs => h s (List.mem_cons_of_mem _ hs)
    obtain ⟨b1, b2⟩ := h t List.mem_cons_self
    have c1 : t.1.natAbs < 10 ^ 12 := Nat.lt_of_lt_of_le b1 (by decide)
    have c2 : t.2.natAbs < 10 ^ 12 := Nat.lt_of_lt_of_le b2 (by decide)
    have d1 : t.1.natAbs < 2 ^ 1900 := Nat.lt_of_lt_of_le b1 (Nat.pow_le_pow_right (by decide) (by decide))
    have d2 : t.2.natAbs < 2 ^ 1900 := Nat.lt_of_lt_of_le b2 (Nat.pow_le_pow_right (by decide) (by decide))
    constructor
    · show (((toPy (.int t.1)).leavesShort 13 && ((toPy (.int t.2)).leavesShort 13 && true)) && PyData.leavesShortAll 13 (toPyL (l.map pr2))) = true
      rw [sm_int c1, sm_int c2, i1] <;> rfl
    · exact ⟨⟨d1, d2, trivial⟩, i2⟩
structure Rests (p q : Int) : Prop where
  sm : PyData.leavesShortAll 13 (toPyL ((restL p q).map pr2)) = true
  sho : shoL ((restL p q).map pr2)
  ln : (restL p q).length ≤ 2000
theorem rests_of {p q k : Int} (h : Tn p q k) (hc : cc p q ≤ 2000) : Rests p q := by
  obtain ⟨p44, _, _, _, _⟩ := sq_44 h hc
  have s := small_pr2 (l := restL p q) fun t ht => by
    have b := isR_bd h ((restL_mem h).mp (show (t.1, t.2) ∈ restL p q from ht))
    unfold Bd
    omega
  have := restL_len h
  exact ⟨s.1, s.2, by omega⟩
theorem drc_repr_rr {K : PySem.W.Frag} {p q : Int} {a : Addr} {S : Sto} {Q : D → Sto → Prop} (h : Rests p q) (g : getS a S = some ((restL p q).map pr2)) (q0 : Q (.str (toPy (.lst [.lst ((restL p q).map pr2), .lst ((restL p q).map pr2)])).shown) S) : DRC K (rRepD K) [.lst [.raw (.ref a), .lst ((restL p q).map pr2)]] S Q := by
  refine drc_reprB (d' := .lst [.lst ((restL p q).map pr2), .lst ((restL p q).map pr2)]) 13 ?_ (by decide) ?_ q0 ?_ ⟨h.sho, h.sho, trivial⟩ ?_ (.inl ⟨_, rfl⟩)
  · show (PyData.leavesShortAll 13 (toPyL ((restL p q).map pr2)) && (PyData.leavesShortAll 13 (toPyL ((restL p q).map pr2)) && true)) = true
    rw [h.sm] <;> rfl
  · show D.lst [seeR (getS a S) (.ref a), see S (.lst ((restL p q).map pr2))] = _
    rw [g, see_flat S 8 (.lst ((restL p q).map pr2)) (by show flatOkL 7 _ = true; exact flat7_pr2 _)] <;> rfl
  · show (flatOkL 7 ((restL p q).map pr2) && (flatOkL 7 ((restL p q).map pr2) && true)) = true
    rw [flat7_pr2] <;> rfl
  · show 15 * (bigL ((restL p q).map pr2) + 1 + (bigL ((restL p q).map pr2) + 1 + 0)) + 13 ≤ _
    rw [bigL_pr2]
    have := h.ln
    omega
theorem drc_repr_r2 {K : PySem.W.Frag} {p q : Int} {S : Sto} {Q : D → Sto → Prop} (h : Rests p q) (q0 : Q (.str (toPy (.lst [.lst ((restL p q).map pr2), .lst ((restL p q).map pr2)])).shown) S) : DRC K (rRepD K) [.lst [.lst ((restL p q).map pr2), .lst ((restL p q).map pr2)]] S Q := by
  have f : flatOkL 8 [D.lst ((restL p q).map pr2), .lst ((restL p q).map pr2)] = true := by
    show (flatOkL 7 ((restL p q).map pr2) && (flatOkL 7 ((restL p q).map pr2) && true)) = true
    rw [flat7_pr2] <;> rfl
  refine drc_reprB (d' := .lst [.lst ((restL p q).map pr2), .lst ((restL p q).map pr2)]) 13 ?_ (by decide) (see_flat S 9 _ f) q0 f ⟨h.sho, h.sho, trivial⟩ ?_ (.inl ⟨_, rfl⟩)
  · show (PyData.leavesShortAll 13 (toPyL ((restL p q).map pr2)) && (PyData.leavesShortAll 13 (toPyL ((restL p q).map pr2)) && true)) = true
    rw [h.sm] <;> rfl
  · show 15 * (bigL ((restL p q).map pr2) + 1 + (bigL ((restL p q).map pr2) + 1 + 0)) + 13 ≤ _
    rw [bigL_pr2]
    have := h.ln
    omega
/-- the rows as the law lists them -/
def rowM (p q : Int) (i : Nat) : List (Int × Int) := (List.range (2 * p + 1).toNat).map fun j : Nat => (-p + (i : Int), -p + (j : Int))
def isRb (p q : Int) (t : Int × Int) : Bool := decide (isR p q t.1 t.2)
def restTo (p q : Int) (i : Nat) : List (Int × Int) := (List.range i).flatMap fun i : Nat => (rowM p q i).filter (isRb p q)
theorem restTo_succ (p q : Int) (i : Nat) : restTo p q (i + 1) = restTo p q i ++ (rowM p q i).filter (isRb p q) := by
  unfold restTo
  rw [List.range_succ, List.flatMap_append]
  simp
theorem restTo_all (p q : Int) : restTo p q (2 * p + 1).toNat = restL p q := rfl
theorem rowM_at {p q : Int} {i j : Nat} (h : j < (2 * p + 1).toNat) : (rowM p q i)[j]? = some (-p + (i : Int), -p + (j : Int)) := by
  unfold rowM
  rw [List.getElem?_map, List.getElem?_range h] <;> rfl
theorem rowM_take {p q : Int} {i : Nat} : (rowM p q i).take (2 * p + 1).toNat = rowM p q i := List.take_of_length_le (by unfold rowM; rw [List.length_map, List.length_range]; omega)
theorem restTo_len {p q : Int} {i : Nat} (hp : p ≤ 44) (hi : i ≤ 100) : (restTo p q i).length ≤ 90 * i := by
  induction i with
  | zero => exact Nat.le_refl _
  | succ n ih =>
    rw [restTo_succ, List.length_append]
    have h1 := ih (by omega)
    have h2 := List.length_filter_le (isRb p q) (rowM p q n)
    have h3 : (rowM p q n).length = (2 * p + 1).toNat := by unfold rowM; rw [List.length_map, List.length_range]
    omega
def con_inside : Con := fun ds S Q => ∃ p q k m n : Int, ds = [.tup [.int p, .int q, .int k], .tup [.int m, .int n]] ∧ Tn p q k ∧ (Bd 60 m ∧ Bd 60 n) ∧ Q (.bl (isRb p q (m, n))) S
def con_listed : Con := fun ds S Q => ∃ p q k : Int, ds = [.tup [.int p, .int q, .int k]] ∧ Tn p q k ∧ cc p q ≤ 2000 ∧ Q (.lst ((restL p q).map pr2)) S
def largeV : D := .lst [.str "large", .int 2000]
def rests10 (p q : Int) : D := if cc p q ≤ 2000 then .lst ((restL p q).map pr2) else largeV
def con_told10 : Con := fun ds S Q => ∃ p q k : Int, ds = [.tup [.int p, .int q, .int k]] ∧ Tn p q k ∧ Q (rests10 p q) S
def con_r10 : Con := fun ds S Q => ∃ (pp : Addr) (l : List D) (m : Nat) (p q k : Int), ds = [.raw (.ref pp), .tup [.int p, .int q, .int k]] ∧ getS pp S = some l ∧ Src m l ∧ m ≤ 800000 ∧ Tn p q k ∧ cc p q ≤ 2000 ∧ ∀ l', Src (m + 10) l' → Q (.bl true) (setS pp l' S)
theorem inside_iff {p q k : Int} (h : Tn p q k) (m n : Int) : isRb p q (m, n) = (decide (absI (p * m - q * n) ≤ (p * p + q * q) / 2) && decide (absI (p * n + q * m) ≤ (p * p + q * q) / 2)) := by
  have ho : (p * p + q * q) % 2 = 1 := cc_odd h
  unfold isRb
  rw [← Bool.decide_and, decide_eq_decide, absI_le, absI_le]
  show isR p q m n ↔ _
  unfold isR
  have ec : cc p q = p * p + q * q := rfl
  omega
def os10 : List (Int × Int × Int) := [(45, 2, 0), (34, 29, 0), (44, 9, 1), (10 ^ (Int.toNat 15), 1, 2)]
theorem os10_tn (t : Int × Int × Int) (h : t ∈ os10) : Tn t.1 t.2.1 t.2.2 := by
  simp only [os10, List.mem_cons, List.not_mem_nil, or_false] at h
  rcases h with z | z | z | z <;> subst z <;> exact ⟨by decide +kernel, by decide +kernel, by decide +kernel, by decide +kernel, by decide +kernel, by decide +kernel, by decide +kernel, by decide +kernel⟩
def rt10 (t : Int × Int × Int) : D := rests10 t.1 t.2.1
theorem rests10_s {p q : Int} (h : cc p q ≤ 2000) : rests10 p q = .lst ((restL p q).map pr2) := if_pos h
theorem rests10_l {p q : Int} (h : 2000 < cc p q) : rests10 p q = largeV := if_neg (by omega)
theorem os10_v : os10.map rt10 = [largeV, .lst ((restL 34 29).map pr2), largeV, largeV] := by
  show [rests10 45 2, rests10 34 29, rests10 44 9, rests10 (10 ^ (Int.toNat 15)) 1] = _
  rw [rests10_l (p := 45) (q := 2) (by decide), rests10_s (p := 34) (q := 29) (by decide), rests10_l (p := 44) (q := 9) (by decide), rests10_l (p := 10 ^ (Int.toNat 15)) (q := 1) (by decide +kernel)]
theorem len_10 : (((restL 34 29).map pr2).length : Int) = 1997 := by
  have h : Tn 34 29 0 := os10_tn (34, 29, 0) (by decide +kernel)
  rw [List.length_map, restL_len h]
  decide
/-- turns of few rests -/
def Few (d : D) : Prop := ∃ p q k : Int, d = .tup [.int p, .int q, .int k] ∧ Tn p q k ∧ cc p q ≤ 2000
theorem few_31 {p q k : Int} (h : Tn p q k) (hp : p ≤ 31) : cc p q ≤ 2000 := by
  have h1 := h.p1
  obtain ⟨hq0, hqp⟩ := tn_abs h
  have ec := cc_abs p q
  have m1 : p * p ≤ 31 * 31 := Int.mul_le_mul hp hp (by omega) (by omega)
  have m2 : absI q * absI q ≤ 31 * 31 := Int.mul_le_mul (by omega) (by omega) (by omega) (by omega)
  omega
theorem few_1 {k : Int} (h : 0 ≤ k ∧ k < 4) : Few (.tup [.int 1, .int 0, .int k]) := ⟨1, 0, k, rfl, ⟨by decide, by decide, by decide, by decide, by decide, by decide, h.1, by omega⟩, by decide⟩
theorem few_44 : Few (.tup [.int 44, .int 7, .int 1]) := ⟨44, 7, 1, rfl, ⟨by decide, by decide, by decide, by decide, by decide, by decide, by decide, by decide⟩, by decide⟩
theorem few_34 : Few (.tup [.int 34, .int (-29), .int 2]) := ⟨34, -29, 2, rfl, ⟨by decide, by decide, by decide, by decide, by decide, by decide, by decide, by decide⟩, by decide⟩
theorem os10_w : ∃ r : List D, (os10.map rt10).take 4 = [largeV, .lst r, largeV, largeV] ∧ (r.length : Int) = 1997 := ⟨(restL 34 29).map pr2, by rw [os10_v] <;> rfl, len_10⟩

end Tp
namespace Tp
open PySem PySem.Spec PyProof.Rows L2 DL
/-! ### greatest misses -/
def sqT (t : Int × Int) : Int := t.1 * t.1 + t.2 * t.2
def foldM (l : List (Int × Int)) : Int := l.foldl (fun a t => if a < sqT t then sqT t else a) 0
theorem foldM_aux : ∀ (l : List (Int × Int)) (a : Int), a ≤ l.foldl (fun a t => if a < sqT t then sqT t else a) a ∧ (∀ t ∈ l, sqT t ≤ l.foldl (fun a t => if a < sqT t then sqT t else a) a) ∧ (l.foldl (fun a t => if a < sqT t then sqT t else a) a = a ∨ ∃ t ∈ l, l.foldl (fun a t => if a < sqT t then sqT t else a) a = sqT t)
  | [], a => ⟨Int.le_refl _, (fun _ h => nomatch h), .inl rfl⟩
  | t :: l, a => by
    obtain ⟨h1, h2, h3⟩ := foldM_aux l (if a < sqT t then sqT t else a)
    rw [List.foldl_cons]
    refine ⟨?_, fun s hs => ?_, ?_⟩
    · refine Int.le_trans ?_ h1
      split <;> omega
    · rcases List.mem_cons.mp hs with z | z
      · subst z
        refine Int.le_trans ?_ h1
        split <;> omega
      · exact h2 s z
    · rcases h3 with z | ⟨s, hs, z⟩
      · by_cases c : a < sqT t
        · rw [if_pos c] at z ⊢
          exact .inr ⟨t, List.mem_cons_self, z⟩
        · rw [if_neg c] at z ⊢
          exact .inl z
      · exact .inr ⟨s, List.mem_cons_of_mem _ hs, z⟩
def maxSq (p q : Int) : Int := foldM (restL p q)
theorem isR_00 {p q k : Int} (h : Tn p q k) : isR p q 0 0 := by
  have := cc_pos h
  unfold isR
  simp only [Int.mul_zero]
  omega
theorem maxSq_le {p q k m n : Int} (h : Tn p q k) (hr : isR p q m n) : m * m + n * n ≤ maxSq p q := (foldM_aux (restL p q) 0).2.1 (m, n) ((restL_mem h).mpr hr)
theorem maxSq_at {p q k : Int} (h : Tn p q k) : ∃ m n, isR p q m n ∧ maxSq p q = m * m + n * n := by
  rcases (foldM_aux (restL p q) 0).2.2 with z | ⟨t, ht, z⟩
  · exact ⟨0, 0, isR_00 h, z⟩
  · exact ⟨t.1, t.2, (restL_mem h).mp (show (t.1, t.2) ∈ restL p q from ht), z⟩
theorem maxSq_eq {p q k v : Int} (h : Tn p q k) (h1 : ∀ m n, isR p q m n → m * m + n * n ≤ v) (h2 : ∃ m n, isR p q m n ∧ v ≤ m * m + n * n) : v = maxSq p q := by
  obtain ⟨m, n, hr, e⟩ := maxSq_at h
  obtain ⟨m', n', hr', e'⟩ := h2
  have a := h1 m n hr
  have b := maxSq_le h hr'
  omega
theorem isR_rot {p q m n : Int} (h : isR p q m n) : isR p q (-n) m := by
  unfold isR at *
  have e1 : p * -n - q * m = -(p * n + q * m) := by grind
  have e2 : p * m + q * -n = p * m - q * n := by grind
  rw [e1, e2]
  omega
theorem isR_quad {p q m n : Int} (h : isR p q m n) : ∃ a b, isR p q a b ∧ 0 ≤ a ∧ 0 ≤ b ∧ a * a + b * b = m * m + n * n := by
  have h1 := isR_rot h
  have h2 := isR_rot h1
  have h3 := isR_rot h2
  rcases Int.le_total 0 m with a | a <;> rcases Int.le_total 0 n with b | b
  · exact ⟨m, n, h, a, b, rfl⟩
  · exact ⟨-n, m, h1, by omega, a, by grind⟩
  · exact ⟨- -(n), -m, by rw [Int.neg_neg] at h3 ⊢; exact h3, by omega, by omega, by grind⟩
  · exact ⟨-m, -n, h2, by omega, by omega, by grind⟩
theorem maxSq_mir {p q k : Int} (h : Tn p q k) : maxSq p (-q) = maxSq p q := by
  have h' := tn_bk h
  refine maxSq_eq h (fun m n hr => ?_) ?_
  · have r : isR p (-q) m (-n) := by rw [isR_mir, isC_neg, Int.neg_neg]; exact hr
    have := maxSq_le h' r
    rw [Int.neg_mul_neg] at this
    exact this
  · obtain ⟨m, n, hr, e⟩ := maxSq_at h'
    rw [isR_mir, isC_neg] at hr
    exact ⟨m, -n, hr, by rw [e, Int.neg_mul_neg]; exact Int.le_refl _⟩
theorem maxSq_abs {p q k : Int} (h : Tn p q k) : maxSq p (absI q) = maxSq p q := by
  unfold absI
  split
  · exact maxSq_mir h
  · rfl
theorem absI_of {q : Int} (h : 0 ≤ q) : absI q = q := by unfold absI; rw [if_neg (by omega)]
theorem half_lt {p q k : Int} (h : Tn p q k) (hq : 0 ≤ q) : p * q + q * q ≤ cc p q - 1 := by
  have hp := h.p1
  have hqp := h.q2
  have := Int.mul_le_mul_of_nonneg_left (show q ≤ p - 1 by omega) (show 0 ≤ p by omega)
  rw [Int.mul_sub, Int.mul_one] at this
  unfold cc
  omega
/-- the greatest of those that keep all -/
theorem maxSq_keep {p q k : Int} (h : Tn p q k) (hq : 0 ≤ q) (hk : p = q + 1) : maxSq p q = q * q := by
  have e : cc p q = 2 * ((q + 1) * q) + 1 := by unfold cc; rw [hk]; grind
  refine (maxSq_eq h (fun m n hr => ?_) ⟨q, 0, ?_, ?_⟩).symm
  · obtain ⟨a, b, hr', ha, hb, es⟩ := isR_quad hr
    obtain ⟨⟨a1, a2⟩, b1, b2⟩ := hr'
    rw [e] at a1 a2 b1 b2
    subst hk
    have s := ka_core hq ha hb (by omega) (by omega)
    have m1 := Int.mul_le_mul s s (by omega) hq
    have m2 := Int.mul_nonneg ha hb
    have e3 : (a + b) * (a + b) = a * a + b * b + 2 * (a * b) := by grind
    omega
  · unfold isR
    rw [e, hk]
    have n1 : 0 ≤ q * q := Int.mul_nonneg hq hq
    rw [Int.mul_zero, Int.mul_zero, Int.add_mul, Int.one_mul]
    omega
  · simp
/-- for each m the greatest n, from 0 on -/
def endN (p q m : Int) : Int := ((cc p q - 1) / 2 - q * m) / p
def endL (p q : Int) : List (Int × Int) := (List.range ((p + q) / 2 + 1).toNat).map fun j : Nat => ((j : Int), endN p q (j : Int))
theorem end_rest {p q k m : Int} (h : Tn p q k) (hq : 0 ≤ q) (h0 : 0 ≤ m) (h1 : m ≤ (p + q) / 2) (h2 : p * m - q * endN p q m ≤ (cc p q - 1) / 2) : isR p q m (endN p q m) := by
  have hp := h.p1
  have hc := cc_odd h
  have hh := half_lt h hq
  have q1 : q * m ≤ q * ((p + q) / 2) := Int.mul_le_mul_of_nonneg_left h1 hq
  have q2 : q * (2 * ((p + q) / 2)) ≤ q * (p + q) := Int.mul_le_mul_of_nonneg_left (by omega) hq
  have e1 : q * (2 * ((p + q) / 2)) = 2 * (q * ((p + q) / 2)) := by grind
  have e2 : q * (p + q) = p * q + q * q := by grind
  have nn : 0 ≤ (cc p q - 1) / 2 - q * m := by omega
  have e0 : 0 ≤ endN p q m := Int.ediv_nonneg nn (by omega)
  have up : p * endN p q m ≤ (cc p q - 1) / 2 - q * m := by
    have := Int.ediv_mul_le ((cc p q - 1) / 2 - q * m) (show p ≠ 0 by omega)
    unfold endN
    rw [Int.mul_comm]
    exact this
  have q3 : q * endN p q m ≤ p * endN p q m := Int.mul_le_mul_of_nonneg_right (by have := h.q2; omega) e0
  have q4 : 0 ≤ p * m := Int.mul_nonneg (by omega) h0
  have q5 : 0 ≤ q * m := Int.mul_nonneg hq h0
  have q6 : 0 ≤ p * endN p q m := Int.mul_nonneg (by omega) e0
  unfold isR
  omega
theorem end_max {p q k v : Int} (h : Tn p q k) (hq : 0 ≤ q) (hv : ∃ m : Int, 0 ≤ m ∧ m ≤ (p + q) / 2 ∧ p * m - q * endN p q m ≤ (cc p q - 1) / 2 ∧ v = m * m + endN p q m * endN p q m) (hm : ∀ m : Int, 0 ≤ m → m ≤ (p + q) / 2 → p * m - q * endN p q m ≤ (cc p q - 1) / 2 → m * m + endN p q m * endN p q m ≤ v) : v = maxSq p q := by
  obtain ⟨m0, g0, g1, g2, g3⟩ := hv
  have hp := h.p1
  have ho := cc_odd h
  refine maxSq_eq h (fun m n hr => ?_) ⟨m0, _, end_rest h hq g0 g1 g2, by rw [g3]; exact Int.le_refl _⟩
  obtain ⟨a, b, hr', ha, hb, es⟩ := isR_quad hr
  have sd := isR_side h hr'
  rw [show absI q = q from absI_of hq] at sd
  obtain ⟨⟨a1, a2⟩, b1, b2⟩ := hr'
  have eb : b ≤ endN p q a := (Int.le_ediv_iff_mul_le (by omega)).mpr (by rw [Int.mul_comm]; omega)
  have qb : q * b ≤ q * endN p q a := Int.mul_le_mul_of_nonneg_left eb hq
  have := hm a ha sd.2 (by omega)
  have bb := Int.mul_le_mul eb eb hb (by omega)
  omega
/-- between two numbers the square is greatest at an end -/
theorem sq_ends {a b n : Int} (h1 : a ≤ n) (h2 : n ≤ b) : n * n ≤ a * a ∨ n * n ≤ b * b := by
  rcases Int.le_total 0 n with z | z
  · exact .inr (Int.mul_le_mul h2 h2 z (by omega))
  · left
    have := Int.mul_le_mul (show -n ≤ -a by omega) (show -n ≤ -a by omega) (by omega) (by omega)
    rw [Int.neg_mul_neg, Int.neg_mul_neg] at this
    exact this
/-- the ends of a row, as the law takes them -/
def lawLo (p q m : Int) : Int × Int := (0 - ((p * p + q * q) / 2 + q * m) / p, if 0 < q then 0 - ((p * p + q * q) / 2 - p * m) / q else 0 - p)
def lawHi (p q m : Int) : Int × Int := (((p * p + q * q) / 2 - q * m) / p, if 0 < q then ((p * p + q * q) / 2 + p * m) / q else p)
theorem lawRow {p q k m n : Int} (h : Tn p q k) (hq : 0 ≤ q) : isR p q m n ↔ ((lawLo p q m).1 ≤ n ∧ (lawLo p q m).2 ≤ n ∧ n ≤ (lawHi p q m).1 ∧ n ≤ (lawHi p q m).2) ∧ (0 < q ∨ absI (p * m) ≤ (p * p + q * q) / 2) := by
  have ho := cc_odd h
  have hp := h.p1
  have ec : p * p + q * q = cc p q := rfl
  unfold lawLo lawHi isR
  rw [ec]
  obtain ⟨f, hf⟩ : ∃ f, f = cc p q / 2 := ⟨_, rfl⟩
  rw [← hf]
  have hc : cc p q = 2 * f + 1 := by omega
  have a1 := neg_div_le (a := f + q * m) (n := n) (show 0 < p by omega)
  have a2 := le_div (a := f - q * m) (n := n) (show 0 < p by omega)
  show _ ↔ (0 - (f + q * m) / p ≤ n ∧ (if 0 < q then 0 - (f - p * m) / q else 0 - p) ≤ n ∧ n ≤ (f - q * m) / p ∧ n ≤ (if 0 < q then (f + p * m) / q else p)) ∧ _
  rw [Int.zero_sub, a1, a2]
  rcases Int.lt_or_eq_of_le hq with z | z
  · have a3 := neg_div_le (a := f - p * m) (n := n) z
    have a4 := le_div (a := f + p * m) (n := n) z
    rw [if_pos z, if_pos z, Int.zero_sub, a3, a4]
    omega
  · subst z
    rw [if_neg (by omega), if_neg (by omega), absI_le]
    have g := h.g
    have p1 : p = 1 := by
      have : p.natAbs = 1 := by simpa using g
      omega
    subst p1
    have : f = 0 := by
      have : cc 1 0 = 1 := rfl
      omega
    subst this
    simp only [Int.zero_mul, Int.one_mul]
    omega

end Tp
namespace Tp
open PySem PySem.Spec PyProof.Rows L2 DL
/-! ### greatest misses: the program's list, the law's rows -/
theorem sqR_map (p q x y : Int) : sqR p q x y = (restR p q x y).map sqT := by
  unfold sqR restR
  rw [List.map_map]
  rfl
theorem sqR_mem {p q k : Int} (h : Tn p q k) {x y v : Int} : v ∈ sqR p q x y ↔ ∃ m n, isR p q m n ∧ v = m * m + n * n := by
  rw [sqR_map, List.mem_map]
  have hp : (restR p q x y).Perm (restL p q) := by rw [← restR_sort h x y]; exact (List.mergeSort_perm _ _).symm
  constructor
  · rintro ⟨⟨m, n⟩, h1, rfl⟩
    exact ⟨m, n, (restL_mem h).mp (hp.mem_iff.mp h1), rfl⟩
  · rintro ⟨m, n, h1, rfl⟩
    exact ⟨(m, n), hp.mem_iff.mpr ((restL_mem h).mpr h1), rfl⟩
theorem sqR_max {p q k : Int} (h : Tn p q k) {x y v : Int} (h1 : v ∈ sqR p q x y) (h2 : ∀ z, z ∈ sqR p q x y → z ≤ v) : v = maxSq p q := by
  obtain ⟨m, n, hr, e⟩ := (sqR_mem h).mp h1
  exact maxSq_eq h (fun m n hr => h2 _ ((sqR_mem h).mpr ⟨m, n, hr, rfl⟩)) ⟨m, n, hr, by omega⟩
theorem sq_le {p q k : Int} (h : Tn p q k) (x y : Int) : reX p q x y * reX p q x y + reY p q x y * reY p q x y ≤ maxSq p q := maxSq_le h (re_is h x y)
theorem pow22 (x : Int) : x ^ (2 : Int).toNat = x * x := by show x ^ 2 = x * x; grind
theorem maxSq_bd {p q k : Int} (h : Tn p q k) : Bd 110 (maxSq p q) := by
  obtain ⟨m, n, hr, e⟩ := maxSq_at h
  obtain ⟨bm, bn⟩ := rest_50 h hr
  rw [e]
  exact ((bm.mul bm).add (bn.mul bn)).up (by decide)
/-- the program's list -/
def endF (p q : Int) (t : Int × Int) : Bool := decide (p * t.1 - q * t.2 ≤ (cc p q - 1) / 2)
theorem endL_at {p q : Int} {i : Nat} (h : i < ((p + q) / 2 + 1).toNat) : (endL p q)[i]? = some ((i : Int), ((cc p q - 1) / 2 - q * (i : Int)) / p) := by
  unfold endL
  rw [List.getElem?_map, List.getElem?_range h] <;> rfl
theorem endL_len (p q : Int) : (endL p q).length = ((p + q) / 2 + 1).toNat := by unfold endL; rw [List.length_map, List.length_range]
theorem endL_mem {p q : Int} {t : Int × Int} : t ∈ endL p q ↔ 0 ≤ t.1 ∧ t.1 ≤ (p + q) / 2 ∧ t.2 = endN p q t.1 := by
  unfold endL
  rw [List.mem_map]
  constructor
  · rintro ⟨j, h1, rfl⟩
    have := List.mem_range.mp h1
    exact ⟨by show 0 ≤ (j : Int); omega, by show (j : Int) ≤ _; omega, rfl⟩
  · rintro ⟨h1, h2, h3⟩
    refine ⟨t.1.toNat, List.mem_range.mpr (by omega), ?_⟩
    rw [Int.toNat_of_nonneg h1, ← h3]
theorem end_list {p q k v : Int} (h : Tn p q k) (hq : 0 ≤ q) (h1 : v ∈ ((endL p q).filter (endF p q)).map sqT) (h2 : ∀ y, y ∈ ((endL p q).filter (endF p q)).map sqT → y ≤ v) : v = maxSq p q := by
  obtain ⟨t, ht, e⟩ := List.mem_map.mp h1
  obtain ⟨ht1, ht2⟩ := List.mem_filter.mp ht
  obtain ⟨a, b, c⟩ := endL_mem.mp ht1
  refine end_max h hq ⟨t.1, a, b, by rw [← c]; exact of_decide_eq_true ht2, by rw [← c, ← e]; rfl⟩ fun m m0 m1 m2 => ?_
  refine h2 _ (List.mem_map.mpr ⟨(m, endN p q m), List.mem_filter.mpr ⟨endL_mem.mpr ⟨m0, m1, rfl⟩, decide_eq_true m2⟩, rfl⟩)
theorem end_ne {p q k : Int} (h : Tn p q k) (hq : 0 ≤ q) : 0 < (((endL p q).filter (endF p q)).map sqT).length := by
  refine List.length_pos_of_mem (a := sqT (0, endN p q 0)) (List.mem_map.mpr ⟨_, List.mem_filter.mpr ⟨endL_mem.mpr ⟨Int.le_refl _, ?_, rfl⟩, decide_eq_true ?_⟩, rfl⟩)
  · have := h.p1
    show (0 : Int) ≤ (p + q) / 2
    omega
  · have hc := cc_pos h
    have e0 : 0 ≤ endN p q 0 := by
      unfold endN
      rw [Int.mul_zero]
      exact Int.ediv_nonneg (by omega) (by have := h.p1; omega)
    have := Int.mul_nonneg hq e0
    show p * 0 - q * endN p q 0 ≤ _
    rw [Int.mul_zero]
    omega
theorem endN_bd {p q k : Int} {i : Nat} (h : Tn p q k) (hi : (i : Int) ≤ 4000) : Bd 110 (endN p q (i : Int)) := by
  have b1 := h.bp
  have b2 := h.bq
  have bi : Bd 12 (i : Int) := by unfold Bd; omega
  have bc := Bd.cc b1 b2
  unfold endN
  exact ((((bc.sub (Bd.lit 1)).div (j := 2)).sub (b2.mul bi)).div).up (by decide)
/-- the law's rows -/
def loI (p q m : Int) : Int := max (lawLo p q m).1 (lawLo p q m).2
def hiI (p q m : Int) : Int := min (lawHi p q m).1 (lawHi p q m).2
def rowC (p q m : Int) : Prop := loI p q m ≤ hiI p q m ∧ (0 < q ∨ absI (p * m) ≤ (p * p + q * q) / 2)
instance (p q m : Int) : Decidable (rowC p q m) := by unfold rowC; infer_instance
def bestN (p q : Int) : Nat → Int
  | 0 => 0
  | i + 1 => if rowC p q (0 - p + (i : Int)) then mx3 (bestN p q i) ((0 - p + (i : Int)) * (0 - p + (i : Int)) + loI p q (0 - p + (i : Int)) ^ (2 : Int).toNat) ((0 - p + (i : Int)) * (0 - p + (i : Int)) + hiI p q (0 - p + (i : Int)) ^ (2 : Int).toNat) else bestN p q i
theorem mx3_le (a b c : Int) : a ≤ mx3 a b c ∧ b ≤ mx3 a b c ∧ c ≤ mx3 a b c ∧ (mx3 a b c = a ∨ mx3 a b c = b ∨ mx3 a b c = c) := by
  unfold mx3
  split <;> split <;> omega
theorem bestN_ge {p q : Int} : ∀ {i j : Nat}, j < i → rowC p q (0 - p + (j : Int)) → (0 - p + (j : Int)) * (0 - p + (j : Int)) + loI p q (0 - p + (j : Int)) * loI p q (0 - p + (j : Int)) ≤ bestN p q i ∧ (0 - p + (j : Int)) * (0 - p + (j : Int)) + hiI p q (0 - p + (j : Int)) * hiI p q (0 - p + (j : Int)) ≤ bestN p q i
  | 0, j, h, _ => by omega
  | i + 1, j, h, hc => by
    by_cases e : j = i
    · subst e
      have e1 : bestN p q (j + 1) = _ := if_pos hc
      rw [pow22, pow22] at e1
      rw [e1]
      exact ⟨(mx3_le ..).2.1, (mx3_le ..).2.2.1⟩
    · obtain ⟨a, b⟩ := bestN_ge (i := i) (j := j) (by omega) hc
      have : bestN p q i ≤ bestN p q (i + 1) := by
        show _ ≤ if _ then _ else _
        split
        · exact (mx3_le ..).1
        · exact Int.le_refl _
      omega
theorem bestN_at {p q : Int} : ∀ (i : Nat), bestN p q i = 0 ∨ ∃ j : Nat, j < i ∧ rowC p q (0 - p + (j : Int)) ∧ (bestN p q i = (0 - p + (j : Int)) * (0 - p + (j : Int)) + loI p q (0 - p + (j : Int)) * loI p q (0 - p + (j : Int)) ∨ bestN p q i = (0 - p + (j : Int)) * (0 - p + (j : Int)) + hiI p q (0 - p + (j : Int)) * hiI p q (0 - p + (j : Int)))
  | 0 => .inl rfl
  | i + 1 => by
    by_cases hc : rowC p q (0 - p + (i : Int))
    · have e1 : bestN p q (i + 1) = _ := if_pos hc
      rw [pow22, pow22] at e1
      rcases (mx3_le (bestN p q i) ((0 - p + (i : Int)) * (0 - p + (i : Int)) + loI p q (0 - p + (i : Int)) * loI p q (0 - p + (i : Int))) ((0 - p + (i : Int)) * (0 - p + (i : Int)) + hiI p q (0 - p + (i : Int)) * hiI p q (0 - p + (i : Int)))).2.2.2 with z | z | z
      · rcases bestN_at (p := p) (q := q) i with w | ⟨j, a, b, c⟩
        · exact .inl (by rw [e1, z, w])
        · exact .inr ⟨j, by omega, b, by rw [e1, z]; exact c⟩
      · exact .inr ⟨i, by omega, hc, .inl (by rw [e1, z])⟩
      · exact .inr ⟨i, by omega, hc, .inr (by rw [e1, z])⟩
    · have e1 : bestN p q (i + 1) = bestN p q i := if_neg hc
      rcases bestN_at (p := p) (q := q) i with w | ⟨j, a, b, c⟩
      · exact .inl (by rw [e1, w])
      · exact .inr ⟨j, by omega, b, by rw [e1]; exact c⟩
theorem rowC_in {p q k m n : Int} (h : Tn p q k) (hq : 0 ≤ q) : isR p q m n ↔ (loI p q m ≤ n ∧ n ≤ hiI p q m) ∧ (0 < q ∨ absI (p * m) ≤ (p * p + q * q) / 2) := by
  rw [lawRow h hq]
  unfold loI hiI
  rw [Int.max_le, Int.le_min]
  constructor
  · rintro ⟨⟨a, b, c, d⟩, e⟩
    exact ⟨⟨⟨a, b⟩, c, d⟩, e⟩
  · rintro ⟨⟨⟨a, b⟩, c, d⟩, e⟩
    exact ⟨⟨a, b, c, d⟩, e⟩
theorem best_all {p q k : Int} (h : Tn p q k) (hq : 0 ≤ q) : bestN p q (2 * p + 1).toNat = maxSq p q := by
  have hp := h.p1
  have hqp := h.q2
  refine maxSq_eq h (fun m n hr => ?_) ?_
  · have sd := isR_side h hr
    rw [absI_of hq] at sd
    obtain ⟨⟨a, b⟩, c⟩ := (rowC_in h hq).mp hr
    obtain ⟨j, hj⟩ : ∃ j : Nat, m = 0 - p + (j : Int) := ⟨(m + p).toNat, by omega⟩
    have hc : rowC p q (0 - p + (j : Int)) := by rw [← hj]; exact ⟨Int.le_trans a b, c⟩
    have g := bestN_ge (i := (2 * p + 1).toNat) (j := j) (by omega) hc
    rw [← hj] at g
    rcases sq_ends a b with z | z
    · omega
    · omega
  · rcases bestN_at (p := p) (q := q) (2 * p + 1).toNat with z | ⟨j, _, ⟨c1, c2⟩, z | z⟩
    · exact ⟨0, 0, isR_00 h, by rw [z]; decide⟩
    · exact ⟨_, _, (rowC_in h hq).mpr ⟨⟨Int.le_refl _, c1⟩, c2⟩, by rw [z]; exact Int.le_refl _⟩
    · exact ⟨_, _, (rowC_in h hq).mpr ⟨⟨c1, Int.le_refl _⟩, c2⟩, by rw [z]; exact Int.le_refl _⟩
theorem mx_of {a b m : Int} (h1 : m ∈ [a, b]) (h2 : ∀ y, y ∈ [a, b] → y ≤ m) : m = max a b := by
  have x1 := h2 a (by simp)
  have x2 := h2 b (by simp)
  rcases List.mem_cons.mp h1 with z | z
  · omega
  · have : m = b := by simpa using z
    omega
theorem mn_of {a b m : Int} (h1 : m ∈ [a, b]) (h2 : ∀ y, y ∈ [a, b] → m ≤ y) : m = min a b := by
  have x1 := h2 a (by simp)
  have x2 := h2 b (by simp)
  rcases List.mem_cons.mp h1 with z | z
  · omega
  · have : m = b := by simpa using z
    omega
theorem bd_max {n : Nat} {a b : Int} (h1 : Bd n a) (h2 : Bd n b) : Bd n (max a b) := by unfold Bd at *; omega
theorem bd_min {n : Nat} {a b : Int} (h1 : Bd n a) (h2 : Bd n b) : Bd n (min a b) := by unfold Bd at *; omega
theorem lo_bd {p q m : Int} (b1 : Bd 50 p) (b2 : Bd 50 q) (bm : Bd 60 m) : Bd 130 (loI p q m) ∧ Bd 130 (hiI p q m) := by
  have bf : Bd 102 ((p * p + q * q) / 2) := (((b1.mul b1).add (b2.mul b2)).div).up (by decide)
  have bz : Bd 1 (0 : Int) := by unfold Bd; decide
  constructor
  · refine bd_max ?_ ?_
    · exact (bz.sub ((bf.add (b2.mul bm)).div)).up (by decide)
    · show Bd 130 (if 0 < q then _ else _)
      split
      · exact (bz.sub ((bf.sub (b1.mul bm)).div)).up (by decide)
      · exact (bz.sub b1).up (by decide)
  · refine bd_min ?_ ?_
    · exact ((bf.sub (b2.mul bm)).div).up (by decide)
    · show Bd 130 (if 0 < q then _ else _)
      split
      · exact ((bf.add (b1.mul bm)).div).up (by decide)
      · exact b1.up (by decide)
theorem bestN_bd {p q : Int} (b1 : Bd 50 p) (b2 : Bd 50 q) : ∀ i : Nat, (i : Int) ≤ 2 * p + 1 → p ≤ 1000 → Bd 300 (bestN p q i) ∧ 0 ≤ bestN p q i
  | 0, _, _ => by
    show Bd 300 0 ∧ (0 : Int) ≤ 0
    exact ⟨by unfold Bd; decide, by decide⟩
  | i + 1, hi, hp => by
    obtain ⟨a, b⟩ := bestN_bd b1 b2 i (by omega) hp
    by_cases hc : rowC p q (0 - p + (i : Int))
    · have e1 : bestN p q (i + 1) = _ := if_pos hc
      rw [pow22, pow22] at e1
      have bm : Bd 60 (0 - p + (i : Int)) := by unfold Bd; omega
      obtain ⟨l1, l2⟩ := lo_bd b1 b2 bm
      rcases (mx3_le (bestN p q i) ((0 - p + (i : Int)) * (0 - p + (i : Int)) + loI p q (0 - p + (i : Int)) * loI p q (0 - p + (i : Int))) ((0 - p + (i : Int)) * (0 - p + (i : Int)) + hiI p q (0 - p + (i : Int)) * hiI p q (0 - p + (i : Int)))) with ⟨w, _, _, z | z | z⟩
      · rw [e1, z]; exact ⟨a, b⟩
      · refine ⟨by rw [e1, z]; exact ((bm.mul bm).add (l1.mul l1)).up (by decide), by rw [e1]; exact Int.le_trans b w⟩
      · refine ⟨by rw [e1, z]; exact ((bm.mul bm).add (l2.mul l2)).up (by decide), by rw [e1]; exact Int.le_trans b w⟩
    · have e1 : bestN p q (i + 1) = bestN p q i := if_neg hc
      rw [e1]
      exact ⟨a, b⟩
/-- what is told -/
def toldV27 (p q : Int) : D := if keepsP p q ∨ p ≤ 1000 then rat (maxSq p q) (cc p q) else .str "large 1000"
theorem told_y {p q : Int} (h : keepsP p q ∨ p ≤ 1000) : toldV27 p q = rat (maxSq p q) (cc p q) := if_pos h
theorem told_n {p q : Int} (h : ¬ keepsP p q) (g : 1000 < p) : toldV27 p q = .str "large 1000" := if_neg (by rintro (z | z); exact h z; omega)
theorem maxSq_kp {p q k : Int} (h : Tn p q k) (hk : keepsP p q) : maxSq p q = absI q * absI q := by
  rw [← maxSq_abs h]
  exact maxSq_keep (tn_absT h) (absI_nn q) hk
def con_great : Con := fun ds S Q => ∃ p q k : Int, ds = [.tup [.int p, .int q, .int k]] ∧ Tn p q k ∧ (keepsP p q ∨ p ≤ 1000) ∧ Q (rat (maxSq p q) (cc p q)) S
def con_greatX (CT : Addr) : ConX := fun ds S Q R => ∃ p q k : Int, ds = [.tup [.int p, .int q, .int k]] ∧ Tn p q k ∧ (¬ keepsP p q → 1000 < p → R ⟨.ref CT, some ("limit", .int 1000)⟩ S) ∧ (keepsP p q ∨ p ≤ 1000 → Q (rat (maxSq p q) (cc p q)) S)
def con_sq27 : Con := fun ds S Q => ∃ p q k x y : Int, ds = [.tup [.int p, .int q, .int k], .tup [.int x, .int y]] ∧ Tn p q k ∧ (Bd 400 x ∧ Bd 400 y) ∧ Q (.int (reX p q x y * reX p q x y + reY p q x y * reY p q x y)) S
def con_rows27 : Con := fun ds S Q => ∃ p q k : Int, ds = [.tup [.int p, .int q, .int k]] ∧ Tn p q k ∧ p ≤ 1000 ∧ Q (.int (maxSq p q)) S
def con_told27 : Con := fun ds S Q => ∃ p q k : Int, ds = [.tup [.int p, .int q, .int k]] ∧ Tn p q k ∧ Q (toldV27 p q) S
def os27 : List (Int × Int × Int) := [(1000, 1, 0), (1001, 2, 0), (1001, 1000, 3), (1, 0, 1), (4, 1, 0), (3, 2, 1)]
def tt27 (t : Int × Int × Int) : D := toldV27 t.1 t.2.1
theorem os27_tn : ∀ t ∈ os27, Tn t.1 t.2.1 t.2.2 := by
  intro t ht
  simp only [os27, List.mem_cons, List.not_mem_nil, or_false] at ht
  rcases ht with rfl | rfl | rfl | rfl | rfl | rfl <;> exact ⟨by decide, by decide, by decide, by decide, by decide, by decide, by decide, by decide⟩
theorem max41 : maxSq 4 1 = 5 := by decide +kernel
theorem told27_v : os27.map tt27 = [rat (maxSq 1000 1) (10 ^ (Int.toNat 6) + 1), .str "large 1000", .tup [.int (10 ^ (Int.toNat 6)), .int 2002001], .tup [.int 0, .int 1], .tup [.int 5, .int 17], .tup [.int 4, .int 13]] := by
  have h3 : Tn 1001 1000 3 := os27_tn (1001, 1000, 3) (by decide)
  have h4 : Tn 1 0 1 := os27_tn (1, 0, 1) (by decide)
  have h6 : Tn 3 2 1 := os27_tn (3, 2, 1) (by decide)
  show [toldV27 1000 1, toldV27 1001 2, toldV27 1001 1000, toldV27 1 0, toldV27 4 1, toldV27 3 2] = _
  rw [told_y (p := 1000) (q := 1) (.inr (by decide)), told_n (p := 1001) (q := 2) (by decide) (by decide), told_y (p := 1001) (q := 1000) (.inl (by decide)), told_y (p := 1) (q := 0) (.inr (by decide)), told_y (p := 4) (q := 1) (.inr (by decide)), told_y (p := 3) (q := 2) (.inr (by decide)), maxSq_kp h3 (by decide), maxSq_kp h4 (by decide), maxSq_kp h6 (by decide), max41,
    show cc 1000 1 = 10 ^ (Int.toNat 6) + 1 by decide,
    show rat (absI 1000 * absI 1000) (cc 1001 1000) = .tup [.int (10 ^ (Int.toNat 6)), .int 2002001] from rfl,
    show rat (absI 0 * absI 0) (cc 1 0) = .tup [.int 0, .int 1] from rfl, show rat 5 (cc 4 1) = .tup [.int 5, .int 17] from rfl, show rat (absI 2 * absI 2) (cc 3 2) = .tup [.int 4, .int 13] from rfl]
theorem absI_sq27 (q : Int) : absI q * absI q = q * q := by
  unfold absI
  split
  · exact Int.neg_mul_neg q q
  · rfl
theorem cc_abs27 (p q : Int) : cc p (absI q) = cc p q := by
  show p * p + absI q * absI q = p * p + q * q
  rw [absI_sq27]
theorem due27 {p q k : Int} (h : Tn p q k) (hp : 1000 < p) : toldV27 p q = if keepsP p q then rat ((if q < 0 then -q else q) * (if q < 0 then -q else q)) (p * p + (if q < 0 then -q else q) * (if q < 0 then -q else q)) else .str "large 1000" := by
  by_cases c : keepsP p q
  · rw [if_pos c, told_y (.inl c), maxSq_kp h c, ← cc_abs27]
    rfl
  · rw [if_neg c, told_n c hp]
theorem flat27 (p q : Int) : flatOk 9 (toldV27 p q) = true := by
  unfold toldV27
  split <;> first | rfl | decide +kernel
theorem told27e : D.lst ((os27.map tt27).take 6) = D.lst ([rat (maxSq 1000 1) (10 ^ (Int.toNat 6) + 1), .str "large 1000", .tup [.int (10 ^ (Int.toNat 6)), .int 2002001], .tup [.int 0, .int 1]] ++ [.tup [.int 5, .int 17], .tup [.int 4, .int 13]]) :=
  congrArg D.lst ((show (os27.map tt27).take 6 = os27.map tt27 from rfl).trans told27_v)
theorem told27x : ∃ v : Int, v = maxSq 1000 1 ∧ Bd 110 v ∧ D.lst ((os27.map tt27).take 6) = D.lst ([rat v (10 ^ (Int.toNat 6) + 1), .str "large 1000", .tup [.int (10 ^ (Int.toNat 6)), .int 2002001], .tup [.int 0, .int 1]] ++ [.tup [.int 5, .int 17], .tup [.int 4, .int 13]]) :=
  ⟨_, rfl, maxSq_bd (os27_tn (1000, 1, 0) (by decide)), told27e⟩
theorem told27f (v : Int) : flatOk 9 (D.lst ([rat v (10 ^ (Int.toNat 6) + 1), .str "large 1000", .tup [.int (10 ^ (Int.toNat 6)), .int 2002001], .tup [.int 0, .int 1]] ++ [.tup [.int 5, .int 17], .tup [.int 4, .int 13]])) = true := by
  have h : flatOkL 8 [D.str "large 1000", .tup [.int (10 ^ (Int.toNat 6)), .int 2002001], .tup [.int 0, .int 1], .tup [.int 5, .int 17], .tup [.int 4, .int 13]] = true := by decide +kernel
  exact h

end Tp
namespace Tp
open PySem PySem.Spec PyProof.Rows L2 DL
/-! ### misses by rests -/
theorem rat_cross {n d n' d' : Int} (h : 0 < d) (h' : 0 < d') (e : n * d' = n' * d) : rat n d = rat n' d' := by
  have e1 : rat (d' * n) (d' * d) = rat n d := rat_mul (by omega)
  have e2 : rat (d * n') (d * d') = rat n' d' := rat_mul (by omega)
  rw [← e1, ← e2, Int.mul_comm d' n, Int.mul_comm d n', e, Int.mul_comm d d']
theorem back_miss {p q k x y : Int} (h : Tn p q k) (hb : cbB p q k x y = true) : rat (reX p (-q) (imX p q k x y) (imY p q k x y) * reX p (-q) (imX p q k x y) (imY p q k x y) + reY p (-q) (imX p q k x y) (imY p q k x y) * reY p (-q) (imX p q k x y) (imY p q k x y)) (cc p (-q)) = rat (reX p q x y * reX p q x y + reY p q x y * reY p q x y) (cc p q) := by
  obtain ⟨c1, c2⟩ := of_decide_eq_true hb
  have hk : 0 ≤ k ∧ k < 4 := ⟨h.k1, by have := h.k2; omega⟩
  have ht : Tn p (-q) (-k % 4) := by
    have := tn_bk h
    rw [show (4 - k) % 4 = -k % 4 by omega] at this
    exact this
  have r1 := im_rot ht hk (imX p q k x y) (imY p q k x y)
  rw [show (-k % 4 + k) % 4 = 0 by omega, c1, c2] at r1
  have r2 := im_rot (Tn.zero h) hk x y
  rw [show ((0 : Int) + k) % 4 = k by omega] at r2
  rw [cc_neg]
  congr 1
  unfold reX reY
  rw [r1.1, r1.2, r2.1, r2.2]
  generalize imX p q 0 x y = X
  generalize imY p q 0 x y = Y
  rcases (by omega : k = 0 ∨ k = 1 ∨ k = 2 ∨ k = 3) with e | e | e | e <;> subst e <;> simp only [rtX, rtY, show ((0 : Int) % 4).toNat = 0 from rfl, show ((1 : Int) % 4).toNat = 1 from rfl, show ((2 : Int) % 4).toNat = 2 from rfl, show ((3 : Int) % 4).toNat = 3 from rfl] <;> grind
theorem gcd_lot {a c : Int} (hc : 0 < c) : ∃ g : Int, 1 ≤ g ∧ a = g * (a / ((Nat.gcd a.natAbs c.natAbs : Nat) : Int)) ∧ c = g * (c / ((Nat.gcd a.natAbs c.natAbs : Nat) : Int)) := by
  refine ⟨((Nat.gcd a.natAbs c.natAbs : Nat) : Int), ?_, ?_, ?_⟩
  · have := Nat.gcd_pos_of_pos_right a.natAbs (show 0 < c.natAbs by omega)
    omega
  · exact (Int.mul_ediv_cancel' (Int.ofNat_dvd_left.mpr (Nat.gcd_dvd_left _ _))).symm
  · exact (Int.mul_ediv_cancel' (Int.ofNat_dvd_left.mpr (Nat.gcd_dvd_right _ _))).symm
theorem parts76 {a b c a1 c1 b2 c2 : Int} (hc : 0 < c) (h1 : ∃ g : Int, 1 ≤ g ∧ a = g * a1 ∧ c = g * c1) (h2 : ∃ g : Int, 1 ≤ g ∧ b = g * b2 ∧ c = g * c2) : 0 < c1 * c1 * c2 * c2 ∧ rat ((a1 * c2) ^ (Int.toNat 2) + (b2 * c1) ^ (Int.toNat 2)) (c1 * c1 * c2 * c2) = rat (a * a + b * b) (c * c) := by
  obtain ⟨g, g1, ea, ec⟩ := h1
  obtain ⟨k, k1, eb, ec'⟩ := h2
  have p1 : 0 < c1 := by
    rcases Int.lt_or_le 0 c1 with z | z
    · exact z
    · have := Int.mul_le_mul_of_nonneg_left z (show 0 ≤ g by omega)
      rw [Int.mul_zero] at this
      omega
  have p2 : 0 < c2 := by
    rcases Int.lt_or_le 0 c2 with z | z
    · exact z
    · have := Int.mul_le_mul_of_nonneg_left z (show 0 ≤ k by omega)
      rw [Int.mul_zero] at this
      omega
  have pl : 0 < c1 * c1 * c2 * c2 := Int.mul_pos (Int.mul_pos (Int.mul_pos p1 p1) p2) p2
  refine ⟨pl, rat_cross pl (Int.mul_pos hc hc) ?_⟩
  rw [pow22, pow22]
  have e1 : (a1 * c2 * (a1 * c2) + b2 * c1 * (b2 * c1)) * (c * c) = (a1 * c) * (a1 * c) * (c2 * c2) + (b2 * c) * (b2 * c) * (c1 * c1) := by grind
  have e2 : a1 * c = a * c1 := by rw [ea, ec]; grind
  have e3 : b2 * c = b * c2 := by rw [eb, ec']; grind
  rw [e1, e2, e3]
  grind
theorem bd_unabs {n : Nat} {v : Int} (h : Bd n (absI v)) : Bd n v := by
  unfold absI Bd at *
  split at h <;> omega
theorem offs_bd {p q k : Int} (h : Tn p q k) (x y : Int) : Bd 110 (imX p q k x y * cc p q - exX p q k x y) ∧ Bd 110 (imY p q k x y * cc p q - exY p q k x y) :=
  ⟨bd_unabs (off_max h x y _ (by simp [cc])).1, bd_unabs (off_max h x y _ (by simp [cc])).1⟩
theorem tn_mk76 {p q k : Int} (h : Tn p q k) : Tn p (0 - q) k := by
  have := tn_bk h
  rw [Int.zero_sub]
  exact ⟨this.p1, this.p2, this.q1, this.q2, this.g, this.o, h.k1, h.k2⟩
theorem tn_rot76 {p q k : Int} (h : Tn p q k) : Tn p q ((k + 1) % 4) := tn_rot h 1
def told76 (p q x y : Int) : D := rat (reX p q x y * reX p q x y + reY p q x y * reY p q x y) (cc p q)
theorem alike76 {p q k x y : Int} (h : Tn p q k) (l : List (Int × Int)) (hl : l.length = 2) : D.lst ([told76 p q x y, told76 p (0 - q) x (0 - y)] ++ (l.map fun _ => told76 p q x y).take 2) = D.lst (List.replicate (Int.toNat 4) [told76 p q x y]).flatten := by
  rw [Int.zero_sub, Int.zero_sub, show told76 p (-q) x (-y) = told76 p q x y from miss_mir h x y]
  match l, hl with
  | [_, _], _ => rfl
theorem alike76f (p q x y : Int) (l : List (Int × Int)) (hl : l.length = 2) : flatOk 9 (D.lst ([told76 p q x y, told76 p (0 - q) x (0 - y)] ++ (l.map fun _ => told76 p q x y).take 2)) = true := by
  match l, hl with
  | [_, _], _ => rfl
theorem sq76_sum {p q k : Int} (h : Tn p q k) : 6 * ((restL p q).map sqT).sum = cc p q * cc p q - 1 := by
  have e := sqR_sum h 0 0
  have : (sqR p q 0 0).sum = ((restL p q).map sqT).sum := by
    unfold sqR
    rw [← sumN_list, row1 h 0 0 fun t => t.1 * t.1 + t.2 * t.2]
    rfl
  rw [← this]
  exact e
theorem mean76 {p q k s : Int} (h : Tn p q k) (hs : 6 * s = cc p q * cc p q - 1) : rat (cc p q * cc p q - 1) (6 * cc p q * cc p q) = rat s ((p * p + q * q) * (p * p + q * q)) := by
  have hc := cc_pos h
  have ec : p * p + q * q = cc p q := rfl
  rw [ec, ← hs]
  exact rat_cross (Int.mul_pos (by omega) hc) (Int.mul_pos hc hc) (by grind)
theorem max76 {p q k v : Int} (h : Tn p q k) (h1 : v ∈ (restL p q).map sqT) (h2 : ∀ z, z ∈ (restL p q).map sqT → z ≤ v) : v = maxSq p q := by
  obtain ⟨t, ht, e⟩ := List.mem_map.mp h1
  exact maxSq_eq h (fun m n hr => h2 _ (List.mem_map.mpr ⟨(m, n), (restL_mem h).mpr hr, rfl⟩)) ⟨t.1, t.2, (restL_mem h).mp ht, by rw [← e]; exact Int.le_refl _⟩
def con_one76 : Con := fun ds S Q => ∃ p q k x y z w : Int, ds = [.tup [.int p, .int q, .int k], .tup [.int x, .int y], .tup [.int z, .int w]] ∧ Tn p q k ∧ (Bd 160 x ∧ Bd 160 y ∧ Bd 160 z ∧ Bd 160 w) ∧ Q (.bl true) S

end Tp
namespace Tp
open PySem PySem.Spec PyProof.Rows L2 DL
/-! ### a loss told; numbers of no loss -/
theorem eqB_t3 (a b c d e f : Int) : eqB (.tup [.int a, .int b, .int c]) (.tup [.int d, .int e, .int f]) = (decide (a = d) && (decide (b = e) && decide (c = f))) := by
  unfold eqB
  simp [toPy, toPyL, PyData.eqv, PyData.eqvAll] <;> rfl
theorem eq_t3 {a b c d e f : Int} {S : Sto} {Q : Bool → Sto → Prop} (q : ∀ v : Bool, (v = true ↔ a = d ∧ b = e ∧ c = f) → Q v S) : eqP (.tup [.int a, .int b, .int c]) (.tup [.int d, .int e, .int f]) S Q := by
  refine eq_tup ?_
  exact q _ (by rw [eqB_t3, Bool.and_eq_true, Bool.and_eq_true, decide_eq_true_eq, decide_eq_true_eq, decide_eq_true_eq])
theorem sumN_all {c : Nat → Prop} [DecidablePred c] : ∀ {n : Nat}, (∀ j, j < n → c j) → sumN n (fun j => if c j then (1 : Int) else 0) = n
  | 0, _ => rfl
  | n + 1, h => by
    show sumN n _ + (if c n then (1 : Int) else 0) = _
    rw [sumN_all fun j hj => h j (by omega), if_pos (h n (by omega))]
    rfl
theorem sumN_nn72 {c : Nat → Prop} [DecidablePred c] : ∀ {n : Nat}, 0 ≤ sumN n (fun j => if c j then (1 : Int) else 0)
  | 0 => Int.le_refl _
  | n + 1 => by
    show 0 ≤ sumN n _ + (if c n then (1 : Int) else 0)
    have := sumN_nn72 (c := c) (n := n)
    split <;> omega
theorem sumN_one {c : Nat → Prop} [DecidablePred c] {i : Nat} (hi : c i) : ∀ {n : Nat}, i < n → 1 ≤ sumN n (fun j => if c j then (1 : Int) else 0)
  | 0, h => by omega
  | n + 1, h => by
    show 1 ≤ sumN n _ + (if c n then (1 : Int) else 0)
    by_cases e : i = n
    · subst e
      have := sumN_nn72 (c := c) (n := i)
      rw [if_pos hi]
      omega
    · have := sumN_one hi (n := n) (by omega)
      split <;> omega
theorem keeps_nums {p q k : Int} (h : Tn p q k) (hk : keepsP p q) : twN p (absI q) = 0 ∧ backN p (absI q) = cc p q := by
  have hc := cc_pos h
  have e := cb_row h 0 0
  rw [sumN_all (c := fun j : Nat => cbB p q k (0 + (j : Int)) 0 = true) fun j _ => (cb_rest h _ _).mpr (ka_isC hk (re_is h _ _))] at e
  have e : ((cc p q).toNat : Int) = backN p (absI q) := e
  have n := (kinds_nn h).2
  have m := (twN_le h).1
  omega
theorem loses_nums {p q k : Int} (h : Tn p q k) (hk : ¬ keepsP p q) : 1 ≤ twN p (absI q) ∧ backN p (absI q) < cc p q := by
  have hc := cc_pos h
  obtain ⟨f, hf, hb⟩ := row_bare h hk 0 0
  have e := hit_none h 0 0
  have hz : (srcL p q k (0 + (f : Int)) 0).length = 0 := by
    have : (srcL p q k (0 + (f : Int)) 0).isEmpty = true := hb
    rw [List.isEmpty_iff] at this
    rw [this] <;> rfl
  have := sumN_one (c := fun j : Nat => (srcL p q k (0 + (j : Int)) 0).length = 0) hz (n := (cc p q).toNat) (by omega)
  have n := (kinds_nn h).2
  omega
abbrev keepB (p q : Int) : Bool := decide (p = (if q < 0 then -q else q) + 1)
theorem tw_keep {p q k : Int} (h : Tn p q k) : decide (twN p (absI q) = 0) = keepB p q := by
  rw [decide_eq_decide]
  by_cases c : keepsP p q
  · exact ⟨fun _ => c, fun _ => (keeps_nums h c).1⟩
  · exact ⟨fun z => by have := (loses_nums h c).1; omega, fun z => absurd z c⟩
theorem bk_keep {p q k c : Int} (h : Tn p q k) (hc : c = cc p q) : decide (backN p (absI q) = c) = keepB p q := by
  subst hc
  rw [decide_eq_decide]
  by_cases c : keepsP p q
  · exact ⟨fun _ => c, fun _ => (keeps_nums h c).2⟩
  · exact ⟨fun z => by have := (loses_nums h c).2; omega, fun z => absurd z c⟩
theorem share_keep {p q k : Int} {v : Bool} (h : Tn p q k) (hv : v = true ↔ twN p (absI q) / ((Nat.gcd (twN p (absI q)).natAbs (cc p q).natAbs : Nat) : Int) = 0 ∧ cc p q / ((Nat.gcd (twN p (absI q)).natAbs (cc p q).natAbs : Nat) : Int) = 1) : v = keepB p q := by
  have hc := cc_pos h
  by_cases c : keepsP p q
  · have e := (keeps_nums h c).1
    rw [show keepB p q = true from decide_eq_true c, hv, e]
    rw [show (0 : Int).natAbs = 0 from rfl, Nat.gcd_zero_left]
    refine ⟨Int.zero_ediv _, ?_⟩
    rw [show (((cc p q).natAbs : Nat) : Int) = cc p q by omega]
    exact Int.ediv_self (by omega)
  · rw [show keepB p q = false from decide_eq_false c]
    refine Bool.eq_false_iff.mpr fun z => ?_
    obtain ⟨z1, _⟩ := hv.mp z
    obtain ⟨g, g1, e1, _⟩ := gcd_lot (a := twN p (absI q)) hc
    rw [z1, Int.mul_zero] at e1
    have := (loses_nums h c).1
    omega
theorem kinds_keep {p q k c : Int} {v : Bool} (h : Tn p q k) (hc : c = cc p q) (hv : v = true ↔ backN p (absI q) - twN p (absI q) = c ∧ cc p q - backN p (absI q) - twN p (absI q) = 0 ∧ 2 * twN p (absI q) = 0) : v = keepB p q := by
  subst hc
  by_cases c : keepsP p q
  · obtain ⟨e1, e2⟩ := keeps_nums h c
    rw [show keepB p q = true from decide_eq_true c, hv]
    omega
  · obtain ⟨e1, e2⟩ := loses_nums h c
    rw [show keepB p q = false from decide_eq_false c]
    refine Bool.eq_false_iff.mpr fun z => ?_
    have := hv.mp z
    omega
/-- the rest of the pixel that is told -/
theorem loss_rest {p q k : Int} (h : Tn p q k) : isR p (-q) ((1 - p + q) / 2) ((1 - p - q) / 2) := by
  have h1 := h.p1
  have h2 := h.q1
  have h3 := h.q2
  have ho := h.o
  have hc := cc_odd h
  rw [isR_mir]
  obtain ⟨m, hm⟩ : ∃ m, m = (1 - p + q) / 2 := ⟨_, rfl⟩
  obtain ⟨n, hn⟩ : ∃ n, n = (1 - p - q) / 2 := ⟨_, rfl⟩
  rw [← hm, ← hn]
  have em : 2 * m = 1 - p + q := by omega
  have en : 2 * n = 1 - p - q := by omega
  have c0 : p * p + q * q = cc p q := rfl
  have e1 : 2 * (p * m + q * n) = p + q - cc p q := by
    have : 2 * (p * m + q * n) = p * (2 * m) + q * (2 * n) := by grind
    rw [this, em, en, ← c0]
    grind
  have e2 : 2 * (p * n - q * m) = p - q - cc p q := by
    have : 2 * (p * n - q * m) = p * (2 * n) - q * (2 * m) := by grind
    rw [this, em, en, ← c0]
    grind
  have hp : p ≤ p * p := by
    have := Int.mul_le_mul_of_nonneg_left h1 (show 0 ≤ p by omega)
    rw [Int.mul_one] at this
    exact this
  have hq : 0 ≤ q * q := by
    rcases Int.le_total 0 q with z | z
    · exact Int.mul_nonneg z z
    · have := Int.mul_nonneg (show 0 ≤ -q by omega) (show 0 ≤ -q by omega)
      rw [Int.neg_mul_neg] at this
      exact this
  unfold isC
  omega
theorem floor_at {a c X r : Int} (hc : 0 < c) (e : a = c * X + r) (h1 : -c ≤ r) (h2 : r < 0) : a / c = X - 1 := by
  have e2 : a = (r + c) + c * (X - 1) := by rw [e, Int.mul_sub]; omega
  rw [e2, Int.add_mul_ediv_left _ _ (show c ≠ 0 by omega), Int.ediv_eq_zero_of_lt (by omega) (by omega)]
  omega
theorem loss_bare0 {p q k f : Int} (h : Tn p q k) (hk : ¬ keepsP p q) (e1 : reX p (-q) f 0 = (1 - p + q) / 2) (e2 : reY p (-q) f 0 = (1 - p - q) / 2) : bareP p q 0 f 0 := by
  have h1 := h.p1
  have h2 := h.q1
  have h3 := h.q2
  have ho := h.o
  have hc := cc_pos h
  have hod := cc_odd h
  have hg := gap_pos h hk
  have hgI : gapI p q = 2 * (if q < 0 then -q else q) * (p - (if q < 0 then -q else q)) := rfl
  rw [← hgI] at hg
  obtain ⟨m, hm⟩ : ∃ m, m = (1 - p + q) / 2 := ⟨_, rfl⟩
  obtain ⟨n, hn⟩ : ∃ n, n = (1 - p - q) / 2 := ⟨_, rfl⟩
  rw [← hm] at e1
  rw [← hn] at e2
  have em : 2 * m = 1 - p + q := by omega
  have en : 2 * n = 1 - p - q := by omega
  unfold reX at e1
  unfold reY at e2
  obtain ⟨X, hX⟩ : ∃ X, X = imX p (-q) 0 f 0 := ⟨_, rfl⟩
  obtain ⟨Y, hY⟩ : ∃ Y, Y = imY p (-q) 0 f 0 := ⟨_, rfl⟩
  rw [← hX, ← hY] at e1 e2
  have c0 : p * p + q * q = cc p q := rfl
  have la : lgA p q 0 = p * p - q * q := by unfold lgA; rfl
  have lb : lgB p q 0 = p * q + q * p := by unfold lgB; rfl
  have hp : p ≤ p * p := by
    have := Int.mul_le_mul_of_nonneg_left h1 (show 0 ≤ p by omega)
    rw [Int.mul_one] at this
    exact this
  have hq : 0 ≤ q * q := by
    rcases Int.le_total 0 q with z | z
    · exact Int.mul_nonneg z z
    · have := Int.mul_nonneg (show 0 ≤ -q by omega) (show 0 ≤ -q by omega)
      rw [Int.neg_mul_neg] at this
      exact this
  have s1 : (p * p - q * q) * f = cc p q * X + (p * m + q * n) := by rw [← c0]; grind
  have s2 : -((p * q + q * p) * f) = cc p q * Y + (p * n - q * m) := by rw [← c0]; grind
  have t1 : 2 * (p * m + q * n) = p + q - cc p q := by
    have : 2 * (p * m + q * n) = p * (2 * m) + q * (2 * n) := by grind
    rw [this, em, en, ← c0]
    grind
  have t2 : 2 * (p * n - q * m) = p - q - cc p q := by
    have : 2 * (p * n - q * m) = p * (2 * n) - q * (2 * m) := by grind
    rw [this, em, en, ← c0]
    grind
  have hp3 : 3 ≤ p := by
    have hk' : p ≠ (if q < 0 then -q else q) + 1 := hk
    split at hk' <;> omega
  have hpp : 3 * p ≤ p * p := Int.mul_le_mul_of_nonneg_right hp3 (by omega)
  have f1 := floor_at hc s1 (by omega) (by omega)
  have f2 := floor_at hc s2 (by omega) (by omega)
  rw [← gap_iff (Tn.zero h), la, lb]
  rw [show (p * p - q * q) * f + (p * q + q * p) * 0 = (p * p - q * q) * f by rw [Int.mul_zero, Int.add_zero], show (p * p - q * q) * 0 - (p * q + q * p) * f = -((p * q + q * p) * f) by rw [Int.mul_zero, Int.zero_sub], f1, f2]
  have u1 : 2 * (p * m - q * n) = p - q - (p * p - q * q) + (p * q + q * p) := by
    have : 2 * (p * m - q * n) = p * (2 * m) - q * (2 * n) := by grind
    rw [this, em, en]
    grind
  have u2 : 2 * (q * m + p * n) = p + q - (p * p - q * q) - (p * q + q * p) := by
    have : 2 * (q * m + p * n) = q * (2 * m) + p * (2 * n) := by grind
    rw [this, em, en]
    grind
  have v1 : cc p q * f = (p * p - q * q) * X - (p * q + q * p) * Y + (p * m - q * n) := by rw [← c0]; grind
  have v2 : 0 = (p * q + q * p) * X + (p * p - q * q) * Y + (q * m + p * n) := by grind
  have w1 : lieD (p * p - q * q) (p * q + q * p) (cc p q) f (2 * (X - 1) + 1) (2 * (Y - 1) + 1) = p - q := by
    unfold lieD
    have : 2 * cc p q * f - (p * p - q * q) * (2 * (X - 1) + 1) + (p * q + q * p) * (2 * (Y - 1) + 1) = 2 * (cc p q * f) - 2 * ((p * p - q * q) * X - (p * q + q * p) * Y) + (p * p - q * q) - (p * q + q * p) := by grind
    rw [this]
    omega
  have w2 : lieE (p * p - q * q) (p * q + q * p) (cc p q) 0 (2 * (X - 1) + 1) (2 * (Y - 1) + 1) = p + q := by
    unfold lieE
    have : 2 * cc p q * 0 - (p * q + q * p) * (2 * (X - 1) + 1) - (p * p - q * q) * (2 * (Y - 1) + 1) = -(2 * ((p * q + q * p) * X + (p * p - q * q) * Y)) + (p * q + q * p) + (p * p - q * q) := by grind
    rw [this]
    omega
  rw [w1, w2, absI_lt, absI_lt]
  split at hg <;> omega
theorem im_turned {p q k : Int} (h : Tn p q k) (j : Nat) (x y : Int) : imX p q 0 (rtX j x y) (rtY j x y) = rtX j (imX p q 0 x y) (imY p q 0 x y) ∧ imY p q 0 (rtX j x y) (rtY j x y) = rtY j (imX p q 0 x y) (imY p q 0 x y) := by
  have e : exX p q 0 (rtX j x y) (rtY j x y) = rtX j (exX p q 0 x y) (exY p q 0 x y) ∧ exY p q 0 (rtX j x y) (rtY j x y) = rtY j (exX p q 0 x y) (exY p q 0 x y) := by
    unfold exX exY
    match j with
    | 0 => exact ⟨rfl, rfl⟩
    | 1 => simp only [rtX, rtY]; constructor <;> grind
    | 2 => simp only [rtX, rtY]; constructor <;> grind
    | _ + 3 => simp only [rtX, rtY]; constructor <;> grind
  unfold imX imY
  rw [e.1, e.2]
  exact nrr_rot h j _ _
theorem bare_any {p q k w v : Int} (h : Tn p q k) (hb : bareP p q 0 w v) : bareP p q k w v := fun x y hi => by
  have hk4 : 0 ≤ k ∧ k < 4 := ⟨h.k1, by have := h.k2; omega⟩
  have e := im_rot (Tn.zero h) hk4 x y
  rw [show (0 + k) % 4 = k by omega, show k % 4 = k by omega] at e
  have t := im_turned h k.toNat x y
  exact hb _ _ ⟨t.1.trans (e.1.symm.trans hi.1), t.2.trans (e.2.symm.trans hi.2)⟩
def lossX (p q : Int) : Int := fstF p (-q) ((1 - p + q) / 2, (1 - p - q) / 2)
theorem lossX_of {p q k f : Int} (h : Tn p q k) (h0 : 0 ≤ f) (h1 : f < cc p (-q)) (e1 : reX p (-q) f 0 = (1 - p + q) / 2) (e2 : reY p (-q) f 0 = (1 - p - q) / 2) : f = lossX p q := (fstF_eq (t := ((1 - p + q) / 2, (1 - p - q) / 2)) (tn_bk h) h0 h1 e1 e2).symm
theorem bd_lossX {p q k : Int} (h : Tn p q k) : Bd 110 (lossX p q) := by
  have hc := cc_pos h
  unfold lossX fstF
  cases e : (List.range (cc p (-q)).toNat).find? fun j : Nat => decide (reX p (-q) (j : Int) 0 = ((1 - p + q) / 2, (1 - p - q) / 2).1 ∧ reY p (-q) (j : Int) 0 = ((1 - p + q) / 2, (1 - p - q) / 2).2) with
  | none => show Bd 110 ((0 : Nat) : Int); unfold Bd; decide
  | some j =>
    have := List.mem_range.mp (List.mem_of_find?_eq_some e)
    show Bd 110 (j : Int)
    rw [cc_neg] at this
    exact Bd.of_lt (by omega) (show (j : Int) < cc p q by omega) ((Bd.cc h.bp h.bq).up (by decide))
def con_alossX (CK : Addr) : ConX := fun ds S Q R => ∃ p q k : Int, ds = [.tup [.int p, .int q, .int k]] ∧ Tn p q k ∧ (keepsP p q → R ⟨.ref CK, none⟩ S) ∧ (¬ keepsP p q → bareB p q k (lossX p q) 0 = true → Q (.tup [.str "bare", .tup [.int (lossX p q), .int 0]]) S)
theorem loss_bare {p q k f : Int} (h : Tn p q k) (hk : ¬ keepsP p q) (e1 : reX p (-q) f 0 = (1 - p + q) / 2) (e2 : reY p (-q) f 0 = (1 - p - q) / 2) : bareB p q k f 0 = true := (bareB_iff h f 0).mpr (bare_any h (loss_bare0 h hk e1 e2))
def lossV (p q : Int) : D := if keepsP p q then .str "keeps" else .tup [.str "bare", .tup [.int (lossX p q), .int 0]]
theorem lossV_k {p q : Int} (h : keepsP p q) : lossV p q = .str "keeps" := if_pos h
theorem lossV_n {p q : Int} (h : ¬ keepsP p q) : lossV p q = .tup [.str "bare", .tup [.int (lossX p q), .int 0]] := if_neg h
def con_loss72 : Con := fun ds S Q => ∃ p q k : Int, ds = [.tup [.int p, .int q, .int k]] ∧ Tn p q k ∧ ((¬ keepsP p q → bareB p q k (lossX p q) 0 = true) → Q (lossV p q) S)
def con_shows72 : Con := fun ds S Q => ∃ p q k x y : Int, ds = [.tup [.int p, .int q, .int k], .tup [.str "bare", .tup [.int x, .int y]]] ∧ Tn p q k ∧ (Bd 300 x ∧ Bd 300 y) ∧ Q (.bl (bareB p q k x y)) S
def con_num72 : Con := fun ds S Q => ∃ p q k : Int, ds = [.tup [.int p, .int q, .int k]] ∧ Tn p q k ∧ Q (.bl true) S
def con_rows72 : Con := fun ds S Q => ∃ p q k x y : Int, ds = [.tup [.int p, .int q, .int k], .int x, .int y] ∧ Tn p q k ∧ p ≤ 12 ∧ (Bd 160 x ∧ Bd 160 y) ∧ Q (.bl true) S
theorem gcd_keep (n : Nat) : Nat.gcd (n * n) ((n + 1) * (n + 1) + n * n) = 1 := by
  have e : (n + 1) * (n + 1) + n * n = n * (2 * n + 2) + 1 := by grind
  have c : Nat.Coprime n (n * (2 * n + 2) + 1) := by
    show Nat.gcd n (n * (2 * n + 2) + 1) = 1
    simp
  rw [e]
  exact Nat.Coprime.mul_left c c
theorem great_keep {p q k : Int} (h : Tn p q k) (hk : keepsP p q) : rat (maxSq p q) (cc p q) = .tup [.int (q * q), .int (p * p + q * q)] := by
  rw [maxSq_kp h hk, absI_sq27]
  have e1 : (q * q).natAbs = q.natAbs * q.natAbs := Int.natAbs_mul q q
  have e2 : (cc p q).natAbs = (q.natAbs + 1) * (q.natAbs + 1) + q.natAbs * q.natAbs := by
    have ep : p = ((q.natAbs + 1 : Nat) : Int) := by
      have : p = (if q < 0 then -q else q) + 1 := hk
      split at this <;> omega
    have eq : q * q = (q.natAbs : Int) * (q.natAbs : Int) := (Int.natAbs_mul_self' q).symm
    have et : cc p q = (((q.natAbs + 1) * (q.natAbs + 1) + q.natAbs * q.natAbs : Nat) : Int) := by
      show p * p + q * q = _
      rw [eq, Int.natCast_add, Int.natCast_mul, Int.natCast_mul, ← ep]
    rw [et]
    exact Int.natAbs_natCast _
  unfold rat
  rw [e1, e2, gcd_keep]
  show D.tup [.int (q * q / 1), .int (cc p q / 1)] = _
  rw [Int.ediv_one, Int.ediv_one] <;> rfl
/-- rows -/
def bareF (p q k : Int) (t : Int × Int) : Bool := bareB p q k t.1 t.2
def awayF (p q k : Int) (t : Int × Int) : Bool := !cbB p q k t.1 t.2
def lineS (x y : Int) (n : Nat) : List (Int × Int) := (List.range n).map fun j : Nat => (x + (j : Int), y)
theorem lineS_at {x y : Int} {n i : Nat} (h : i < n) : (lineS x y n)[i]? = some (x + (i : Int), y) := by
  unfold lineS
  rw [List.getElem?_map, List.getElem?_range h] <;> rfl
theorem lineS_len (x y : Int) (n : Nat) : (lineS x y n).length = n := by unfold lineS; rw [List.length_map, List.length_range]
theorem row_keep {p q k : Int} (h : Tn p q k) (x y : Int) : ((lineS x y (cc p q).toNat).filter (bareF p q k)).isEmpty = keepB p q ∧ ((lineS x y (cc p q).toNat).filter (awayF p q k)).isEmpty = keepB p q := by
  have hc := cc_pos h
  by_cases c : keepsP p q
  · rw [show keepB p q = true from decide_eq_true c, List.isEmpty_iff, List.isEmpty_iff, List.filter_eq_nil_iff, List.filter_eq_nil_iff]
    refine ⟨fun t ht hb => ?_, fun t ht hb => ?_⟩
    · obtain ⟨j, hj, rfl⟩ := List.mem_map.mp ht
      have e := hit_none h x y
      have hz : (srcL p q k (x + (j : Int)) y).length = 0 := by
        have : (srcL p q k (x + (j : Int)) y).isEmpty = true := hb
        rw [List.isEmpty_iff] at this
        rw [this] <;> rfl
      have s1 := sumN_one (c := fun j : Nat => (srcL p q k (x + (j : Int)) y).length = 0) hz (List.mem_range.mp hj)
      have := (keeps_nums h c).1
      omega
    · have := (cb_rest h t.1 t.2).mpr (ka_isC c (re_is h _ _))
      unfold awayF at hb
      rw [this] at hb
      cases hb
  · rw [show keepB p q = false from decide_eq_false c]
    constructor
    · obtain ⟨f, hf, hb⟩ := row_bare h c x y
      refine Bool.eq_false_iff.mpr fun z => ?_
      rw [List.isEmpty_iff, List.filter_eq_nil_iff] at z
      exact z _ (List.mem_of_getElem? (lineS_at (x := x) (y := y) (n := (cc p q).toNat) (i := f) (by omega))) hb
    · refine Bool.eq_false_iff.mpr fun z => ?_
      rw [List.isEmpty_iff, List.filter_eq_nil_iff] at z
      have e := cb_row h x y
      rw [sumN_all (c := fun j : Nat => cbB p q k (x + (j : Int)) y = true) fun j hj => by
        have := z _ (List.mem_of_getElem? (lineS_at (x := x) (y := y) (n := (cc p q).toNat) (i := j) hj))
        unfold awayF at this
        cases g : cbB p q k (x + (j : Int)) y with
        | true => rfl
        | false => rw [g] at this; exact absurd rfl this] at e
      have := (loses_nums h c).2
      omega
theorem eq_ts {l : List D} {s : Str} {S : Sto} {Q : Bool → Sto → Prop} (h : flatOk 9 (.tup l) = true ∧ flatOk 9 (.str s) = true) (q : Q false S) : eqP (.tup l) (.str s) S Q := by
  refine eq_deep ?_ h (fun _ _ z _ => (nomatch z)) (fun _ _ z _ => (nomatch z))
  have e : eqB (.tup l) (.str s) = false := by
    unfold eqB
    simp [toPy, PyData.eqv]
  rw [e]
  exact q
theorem flat_loss (x y : Int) : flatOk 9 (.tup [.str "bare", .tup [.int x, .int y]]) = true := by
  show (PyData.strOk "bare" && true) = true
  decide +kernel
theorem flat_keeps : flatOk 9 (.str "keeps") = true := by decide +kernel

end Tp
namespace Tp
open PySem PySem.Spec PyProof.Rows L2 DL
/-! ### turns whose p may be a little too great -/
structure Tw (p q k : Int) : Prop where
  p1 : 1 ≤ p
  p2 : p ≤ 1100000000000000
  q1 : -p < q
  q2 : q < p
  g : Nat.gcd p.natAbs q.natAbs = 1
  o : (p + q) % 2 = 1
  k1 : 0 ≤ k
  k2 : k ≤ 3
theorem Tw.bp {p q k : Int} (h : Tw p q k) : Bd 50 p := by
  have := h.p1
  have := h.p2
  unfold Bd
  omega
theorem Tw.bq {p q k : Int} (h : Tw p q k) : Bd 50 q := by
  have := h.p1
  have := h.p2
  have := h.q1
  have := h.q2
  unfold Bd
  omega
theorem Tw.zero {p q k : Int} (h : Tw p q k) : Tw p q 0 := ⟨h.p1, h.p2, h.q1, h.q2, h.g, h.o, by decide, by decide⟩
theorem Tn.w {p q k : Int} (h : Tn p q k) : Tw p q k := ⟨h.p1, by have := h.p2; omega, h.q1, h.q2, h.g, h.o, h.k1, h.k2⟩
theorem Tw.n {p q k : Int} (h : Tw p q k) (hp : p ≤ 1000000000000000) : Tn p q k := ⟨h.p1, hp, h.q1, h.q2, h.g, h.o, h.k1, h.k2⟩
theorem cc_posW {p q k : Int} (h : Tw p q k) : 0 < cc p q := by
  have h1 := h.p1
  have h2 : 0 < p * p := Int.mul_pos (by omega) (by omega)
  have h3 : 0 ≤ q * q := sq_nn q
  unfold cc
  omega
theorem cc_oddW {p q k : Int} (h : Tw p q k) : cc p q % 2 = 1 := by
  obtain ⟨t, ht⟩ : ∃ t, p + q = 2 * t + 1 := ⟨(p + q) / 2, by have := h.o; omega⟩
  have e : cc p q = 2 * (2 * t * t + 2 * t - 2 * t * q - q + q * q) + 1 := by
    have : p = 2 * t + 1 - q := by omega
    subst this
    unfold cc
    grind
  omega
theorem co_acW {p q k : Int} (h : Tw p q k) : ∃ s t : Int, s * (p * p - q * q) + t * cc p q = 1 := by
  obtain ⟨s, t, b⟩ := bez h.g
  obtain ⟨j, hj⟩ : ∃ j, cc p q = 2 * j + 1 := ⟨cc p q / 2, by have := cc_oddW h; omega⟩
  obtain ⟨α, hα⟩ : ∃ α, α = s * s * s * p + 3 * s * s * t * q := ⟨_, rfl⟩
  obtain ⟨β, hβ⟩ : ∃ β, β = 3 * s * t * t * p + t * t * t * q := ⟨_, rfl⟩
  have e : p * p * α + q * q * β = 1 := by
    have : p * p * α + q * q * β = (s * p + t * q) * (s * p + t * q) * (s * p + t * q) := by rw [hα, hβ]; grind
    rw [this, b] <;> rfl
  refine ⟨-j * (α - β), 1 - j * (α + β), ?_⟩
  have e2 : -j * (α - β) * (p * p - q * q) + (1 - j * (α + β)) * cc p q = cc p q - 2 * j * (p * p * α + q * q * β) := by unfold cc; grind
  rw [e2, e, hj]
  omega
theorem co_abW {p q k : Int} (h : Tw p q k) : ∃ s t : Int, s * (p * p - q * q) + t * (p * q + q * p) = 1 := by
  obtain ⟨s, t, e⟩ := co_acW h
  refine ⟨s * s * (p * p - q * q) + 2 * s * t * cc p q + t * t * (p * p - q * q), t * t * (p * q + q * p), ?_⟩
  have c2 : cc p q * cc p q = (p * p - q * q) * (p * p - q * q) + (p * q + q * p) * (p * q + q * p) := by unfold cc; grind
  generalize p * p - q * q = a at *
  generalize p * q + q * p = b at *
  generalize cc p q = c at *
  have : (s * s * a + 2 * s * t * c + t * t * a) * a + t * t * b * b = (s * a + t * c) * (s * a + t * c) + t * t * (a * a + b * b - c * c) := by grind
  rw [this, e, c2]
  grind
theorem gcd_lgW {p q k : Int} (h : Tw p q k) : Nat.gcd (lgA p q k).natAbs (lgB p q k).natAbs = 1 := by
  obtain ⟨s, t, e⟩ := co_abW h
  unfold lgA lgB
  generalize p * p - q * q = a at *
  generalize p * q + q * p = b at *
  generalize k.toNat = j
  match j with
  | 0 => exact gcd_of (s := s) (t := t) e
  | 1 => exact gcd_of (s := -t) (t := s) (by show -t * -b + s * a = 1; grind)
  | 2 => exact gcd_of (s := -s) (t := -t) (by show -s * -a + -t * -b = 1; grind)
  | _ + 3 => exact gcd_of (s := t) (t := -s) (by show t * b + -s * -a = 1; grind)
theorem gcd_mlgW {p q k m : Int} (h : Tw p q k) (hm : 0 ≤ m) : ((Nat.gcd (m * lgA p q k).natAbs (m * lgB p q k).natAbs : Nat) : Int) = m := by
  rw [Int.natAbs_mul, Int.natAbs_mul, Nat.gcd_mul_left, gcd_lgW h, Nat.mul_one]
  omega
theorem go_onW {p q : Int} (h : Tw p q 0) (j : Nat) (hj : j < 4) : (rtY j (p * p - q * q) (p * q + q * p) % 2 = 1 ∨ rtX j (p * p - q * q) (p * q + q * p) < 0) ↔ j ≠ 0 := by
  have hp := h.p1
  have a1 := h.q1
  have a2 := h.q2
  have a0 : 0 < p * p - q * q := by
    have : p * p - q * q = (p - q) * (p + q) := by grind
    rw [this]
    exact Int.mul_pos (by omega) (by omega)
  have ao : (p * p - q * q) % 2 = 1 := by
    have := cc_oddW h
    unfold cc at this
    have e : p * p - q * q = p * p + q * q - 2 * (q * q) := by omega
    omega
  have bo : (p * q + q * p) % 2 = 0 := by
    have : p * q + q * p = 2 * (p * q) := by grind
    omega
  generalize p * p - q * q = a at *
  generalize p * q + q * p = b at *
  rcases (by omega : j = 0 ∨ j = 1 ∨ j = 2 ∨ j = 3) with e | e | e | e <;> subst e <;> simp only [rtX, rtY] <;> omega
theorem one_mcW {p q k m : Int} (h : Tw p q k) (hm : 1 ≤ m) : 1 ≤ m * cc p q := by
  have := Int.mul_pos (show 0 < m by omega) (cc_posW h)
  omega
def con_turnX (CT : Addr) : ConX := fun ds S Q R => ∃ a b c p q k m : Int, ds = [.tup [.int a, .int b, .int c]] ∧ (a = m * lgA p q k ∧ b = m * lgB p q k ∧ c = m * cc p q) ∧ Tw p q k ∧ 1 ≤ m ∧ Bd 300 m ∧ (1000000000000000 < p → R ⟨.ref CT, some ("limit", .int 1000000000000000)⟩ S) ∧ (p ≤ 1000000000000000 → Q (.tup [.int p, .int q, .int k]) S)
def told03 (p q k : Int) : D := if p ≤ 1000000000000000 then .tup [.int p, .int q, .int k] else .lst [.str "large", .int 1000000000000000]
def con_told03 : Con := fun ds S Q => ∃ a b c p q k : Int, ds = [.tup [.int a, .int b, .int c]] ∧ (a = lgA p q k ∧ b = lgB p q k ∧ c = cc p q) ∧ Tw p q k ∧ Q (told03 p q k) S
def con_r03 : Con := fun ds S Q => ∃ (pp : Addr) (l : List D) (m : Nat) (p q k : Int), ds = [.raw (.ref pp), .tup [.int p, .int q, .int k]] ∧ getS pp S = some l ∧ Src m l ∧ m ≤ 800000 ∧ Tn p q k ∧ ∀ l', Src (m + 10) l' → Q (.bl true) (setS pp l' S)
theorem lg_due {p q k : Int} (hk : 0 ≤ k ∧ k ≤ 3) : rtX (k % 4).toNat (p * p - q * q) (2 * p * q) = lgA p q k ∧ rtY (k % 4).toNat (p * p - q * q) (2 * p * q) = lgB p q k := by
  unfold lgA lgB
  rw [show k % 4 = k by omega, show 2 * p * q = p * q + q * p by grind]
  exact ⟨rfl, rfl⟩
theorem pw15 : (10 : Int) ^ (Int.toNat 15) = 1000000000000000 := by decide
theorem odd_on {p q : Int} (hp : 2 ≤ p) (he : p % 2 = 0) (hq : 0 ≤ q) (h1 : 2 * q + 1 ≤ p - 1) (z : 1 < ((Nat.gcd p.natAbs (2 * q + 1).natAbs : Nat) : Int)) : 2 * (q + 1) + 1 ≤ p - 1 := by
  by_cases e : 2 * q + 1 = p - 1
  · rw [e] at z
    have : Nat.gcd p.natAbs (p - 1).natAbs = 1 := gcd_of (s := 1) (t := -1) (by omega)
    rw [this] at z
    exact absurd z (by decide)
  · omega
theorem tw_mk {p q k : Int} (hp : 2 ≤ p) (hp2 : p ≤ 1100000000000000) (he : p % 2 = 0) (hq : 0 ≤ q) (h1 : 2 * q + 1 ≤ p - 1) (z : ¬ 1 < ((Nat.gcd p.natAbs (2 * q + 1).natAbs : Nat) : Int)) (hk : 0 ≤ k ∧ k < 4) : Tw p (2 * q + 1) k :=
  ⟨by omega, hp2, by omega, by omega, gcd_one (by omega) z, by omega, hk.1, by omega⟩
theorem told03_s {p q k : Int} (h : p ≤ 1000000000000000) : told03 p q k = .tup [.int p, .int q, .int k] := if_pos h
theorem told03_l {p q k : Int} (h : 1000000000000000 < p) : told03 p q k = .lst [.str "large", .int 1000000000000000] := if_neg (by omega)
theorem fin03 : D.lst [.tup [.int 2, .int 1, .int 1], .tup [.int 1, .int 0, .int 3], .tup [.int 1, .int 0, .int 0], .tup [.int (lgA 1 0 1), .int (lgB 1 0 1), .int (cc 1 0)], .tup [.int (lgA 2 1 1), .int (lgB 2 1 1), .int (cc 2 1)]] = D.lst [.tup [.int 2, .int 1, .int 1], .tup [.int 1, .int 0, .int 3], .tup [.int 1, .int 0, .int 0], .tup [.int 0, .int 1, .int 1], .tup [.int (-4), .int 3, .int 5]] := by
  unfold lgA lgB
  rfl

end Tp
namespace Tp
open PySem PySem.Spec PyProof.Rows L2 DL
def top (i : Nat) : Stmt := PySem.Challenge.pw_turnedpixels_k03_legs_there_and_back.main.body.getD i (.Pass ⟨0, 0, 0, 0⟩)
local macro_rules | `(tactic| walk_at "bd") => `(tactic| first
  | assumption
  | (with_reducible refine' Bd.exX _ (by assumption) (by assumption) ?a1 ?a2; (case a1 => walk_at "bd"); (case a2 => walk_at "bd"))
  | (with_reducible refine' Bd.exY _ (by assumption) (by assumption) ?a1 ?a2; (case a1 => walk_at "bd"); (case a2 => walk_at "bd"))
  | (with_reducible refine' Bd.imX _ (by assumption) (by assumption) ?a1 ?a2; (case a1 => walk_at "bd"); (case a2 => walk_at "bd"))
  | (with_reducible refine' Bd.imY _ (by assumption) (by assumption) ?a1 ?a2; (case a1 => walk_at "bd"); (case a2 => walk_at "bd"))
  | (with_reducible refine' Bd.reX (by assumption) (by assumption) ?a1 ?a2; (case a1 => walk_at "bd"); (case a2 => walk_at "bd"))
  | (with_reducible refine' Bd.reY (by assumption) (by assumption) ?a1 ?a2; (case a1 => walk_at "bd"); (case a2 => walk_at "bd"))
  | (with_reducible refine' Bd.rtX _ ?a1 ?a2; (case a1 => walk_at "bd"); (case a2 => walk_at "bd"))
  | (with_reducible refine' Bd.rtY _ ?a1 ?a2; (case a1 => walk_at "bd"); (case a2 => walk_at "bd"))
  | (with_reducible refine' Bd.nrr ?a1 ?a2; (case a1 => walk_at "bd"); (case a2 => walk_at "bd"))
  | with_reducible exact Bd.lgA _ (by assumption) (by assumption)
  | with_reducible exact Bd.lgB _ (by assumption) (by assumption)
  | with_reducible exact Bd.cc (by assumption) (by assumption)
  | with_reducible exact bd_cc (by unfold Bd; decide)
  | with_reducible exact Bd.lit (OfNat.ofNat _)
  | (with_reducible refine' Bd.isq ?a1; (case a1 => walk_at "bd"))
  | with_reducible exact Bd.lit ((OfNat.ofNat _) ^ _)
  | (with_reducible refine' Bd.abs ?a1; (case a1 => walk_at "bd"))
  | (with_reducible refine' Bd.neg ?a1; (case a1 => walk_at "bd"))
  | (with_reducible refine' Bd.mul ?a1 ?a2; (case a1 => walk_at "bd"); (case a2 => walk_at "bd"))
  | (with_reducible refine' Bd.add ?a1 ?a2; (case a1 => walk_at "bd"); (case a2 => walk_at "bd"))
  | (with_reducible refine' Bd.sub ?a1 ?a2; (case a1 => walk_at "bd"); (case a2 => walk_at "bd"))
  | (with_reducible refine' Bd.pow ?a1 _; (case a1 => walk_at "bd"))
  | (with_reducible refine' Bd.ite ?a1 ?a2; (case a1 => walk_at "bd"); (case a2 => walk_at "bd"))
  | (with_reducible refine' Bd.of_lt ?z1 ?z2 ?z3; (case z1 => assumption); (case z2 => assumption); (case z3 => walk_at "bd"))
  | (with_reducible refine' Bd.of_le ?z1 ?z2 ?z3; (case z1 => assumption); (case z2 => assumption); (case z3 => walk_at "bd"))
  | (with_reducible refine' Bd.div ?a1; (case a1 => walk_at "bd"))
  | (with_reducible refine' Bd.mod ?a1 ?a2; (case a1 => walk_at "bd"); (case a2 => walk_at "pos")))
local macro_rules | `(tactic| walk_at "bdu") => `(tactic| (refine' Bd.up ?u1 ?u2; (case u1 => walk_at "bd"); (case u2 => decide +kernel)))
local macro_rules | `(tactic| walk_at "tn") => `(tactic| first | assumption | exact tn_bk2 (by assumption) | exact Tn.zero (by assumption) | exact tn_one (by assumption) (by assumption) | exact ⟨by decide, by decide, by decide, by decide, by decide, by decide, by decide, by decide⟩)
local macro_rules | `(tactic| walk_at "m") => `(tactic| first | assumption | omega)
local macro_rules | `(tactic| walk_at "isi") => `(tactic| first | refine drc_isi rfl k_ii ?_ | refine drc_isi rfl k_ib ?_ | refine drc_isi rfl k_tt ?_ | refine drc_isi rfl k_bi ?_ | refine drc_isi rfl k_bb ?_ | refine drc_isi rfl k_it ?_ | refine drc_isi rfl k_st ?_ | refine drc_isi rfl k_nt ?_ | refine drc_isi rfl k_lt ?_ | refine drc_isi rfl k_bt ?_ | refine drc_isi rfl k_si ?_ | refine drc_isi rfl k_ni ?_ | refine drc_isi rfl k_ti ?_ | refine drc_isi rfl k_li ?_ | refine drc_isi rfl k_ll ?_)
local macro_rules | `(tactic| walk_at "no") => `(tactic| exact absurd hc (by simp))
local macro_rules | `(tactic| walk_at "cmw") => `(tactic| (refine' cmw ?h1 ?h2 ?h3; (case h1 => walk_at "bd"); (case h2 => walk_at "bd"); (case h3 => decide +kernel)))
local macro_rules | `(tactic| walk_at "cdw") => `(tactic| (refine' cdw ?h1 ?h2 ?h3; (case h1 => walk_at "bd"); (case h2 => walk_at "pos"); (case h3 => decide +kernel)))
local macro_rules | `(tactic| walk_at "cpw") => `(tactic| (refine' cpw ?h1 ?h2 ?h3; (case h1 => walk_at "bd"); (case h2 => exact ⟨by decide, by decide⟩); (case h3 => decide +kernel)))
local macro_rules | `(tactic| walk_at "pos") => `(tactic| first | assumption | exact of_decide_eq_true (by assumption) | exact cc_pos (by assumption) | exact Int.mul_pos (cc_pos (by assumption)) (cc_pos (by assumption)) | omega | (split <;> omega) | decide +kernel)
local macro_rules | `(tactic| walk_at "len") => `(tactic| first | decide | omega | (simp; done) | (simp; omega) | (simp only [List.length_map, shC_len]; decide))
local macro_rules | `(tactic| walk_at "len3") => `(tactic| first | decide | exact ⟨by simp, by simp, by simp⟩)
local macro_rules | `(tactic| walk_at "slice") => `(tactic| first | refine sl_t31 ?_ | refine sl_t2 ?_ | refine sl_l ?_)
local macro_rules | `(tactic| walk_at "ix") => `(tactic| first | refine ix_t ?_ | refine ix_t ?_ (by assumption) | refine ix_l ?_ | refine ix_o getS_hd ?_ | (refine ix_o (by walk_at "gets") ?_))
local macro_rules | `(tactic| walk_at "gets") => `(tactic| first | exact getS_hd | assumption | (rw [getS_tl (by assumption)]; first | exact getS_hd | assumption | exact getS_setS_same (by assumption)) | exact getS_setS_same (by assumption))
local macro_rules | `(tactic| walk_at "sets") => `(tactic| first | rw [setS_hd] | rw [setS_setS] | rw [setS_tl (by assumption)] | skip)
local macro_rules | `(tactic| walk_at "eq") => `(tactic| first | refine eq_int ?_ | refine eq_tup ?_ | refine eq_lst ?_ | refine eq_scr ?_ | refine eq_str ?_)
local macro_rules | `(tactic| walk_at "flat") => `(tactic| first | rfl | decide)
local macro_rules | `(tactic| walk_at "sho") => `(tactic| (simp only [rat, shoP, shoL, List.cons_append, List.nil_append, true_and, and_true] <;> walk_at "shos"))
local macro_rules | `(tactic| walk_at "shos") => `(tactic| first | trivial | (refine ⟨?_, ?_⟩ <;> walk_at "shos") | (refine' shw ?h1 ?h2; (case h1 => walk_at "bd"); (case h2 => decide +kernel)))
local macro_rules | `(tactic| walk_at "big") => `(tactic| (simp only [rat, bigD, bigL, List.cons_append, List.nil_append]; decide))
local macro_rules | `(tactic| walk_at "obj") => `(tactic| first | exact .inl ⟨_, rfl⟩ | exact .inr ⟨_, rfl⟩)
local macro_rules | `(tactic| walk_at "lenP") => `(tactic| first | refine (show lenP (.tup _) _ _ from ?_) | refine (show lenP (.lst _) _ _ from ?_) | refine (show lenP (.scr _) _ _ from ?_) | skip)
local macro_rules | `(tactic| walk_at "rng") => `(tactic| first | decide | omega)
local macro_rules | `(tactic| walk_at "ord") => `(tactic| skip)
local macro_rules | `(tactic| walk_at "wk") => `(tactic| (repeat (first | refine ⟨rfl, ?_⟩ | exact trivial)))
local macro_rules | `(tactic| walk_at "spx") => `(tactic| first | exact ⟨by assumption, by assumption⟩ | (refine ⟨?_, ?_⟩ <;> first | omega | (split <;> omega)))
local macro_rules | `(tactic| walk_at "at") => `(tactic| first | rfl | assumption)
local macro_rules | `(tactic| walk_at "isr") => `(tactic| first | assumption | exact re_is (by assumption) _ _ | exact ⟨⟨by decide, by decide⟩, by decide, by decide⟩)
local macro_rules | `(tactic| walk_at "isq") => `(tactic| first | exact isq_ok (root_p _ _) (sq_bd (by assumption)) | exact isq_ok (root_q _ _) (sq_bd (by assumption)) | exact ⟨by omega, (show Bd 3000 _ by walk_at "bdu")⟩)
local macro_rules | `(tactic| walk_at "n0") => `(tactic| first | assumption | omega | decide)
local macro_rules | `(tactic| walk_at "cfl") => `(tactic| first | exact flat_ints _ | exact flat_bls _ | rfl)
local macro_rules | `(tactic| walk_at "cpl") => `(tactic| first | exact plain_ints _ | exact plain_bls _ | rfl)
local macro_rules | `(tactic| walk_at "zl") => `(tactic| first | (rw [List.length_map, List.length_map]; assumption) | (simp only [List.length_map, List.length_range]; done) | (simp; done))
local macro_rules | `(tactic| walk_at "sets2") => `(tactic| first | rw [setS_hd] | (rw [setS_tl (by assumption)]; first | rw [setS_hd] | rw [setS_setS] | skip) | rw [setS_setS] | skip)
local macro_rules | `(tactic| walk_at "sc") => `(tactic| first | assumption | exact sc_great ⟨by assumption, by assumption⟩ ⟨by assumption, by assumption⟩ ⟨by assumption, by assumption⟩ | exact ⟨by decide, by decide, by decide, by decide, by decide, by decide, by decide⟩ | exact ⟨by decide +kernel, by decide +kernel, by decide +kernel, by decide +kernel, by decide +kernel, by decide +kernel, by decide +kernel⟩)
local macro_rules | `(tactic| walk_at "gi") => `(tactic| first | exact ⟨by assumption, by assumption⟩ | exact ⟨by omega, by omega⟩ | (refine ⟨?_, ?_⟩ <;> (try dsimp only) <;> split <;> omega) | (dsimp only; omega) | (refine ⟨?_, ?_⟩ <;> dsimp only <;> omega))
local macro_rules | `(tactic| walk_at "kw1") => `(tactic| first | assumption | exact ⟨by assumption, by assumption⟩)
local macro_rules | `(tactic| walk_at "kw") => `(tactic| first | assumption)
local macro_rules | `(tactic| walk_at "kwt") => `(tactic| first | assumption | exact kw_tn (by assumption))
local macro_rules | `(tactic| walk_at "kwl") => `(tactic| first | assumption | omega | (simp only [List.length_map, List.length_reverse]; omega))
local macro_rules | `(tactic| walk_at "rd") => `(tactic| first | (refine ⟨?_, ?_⟩ <;> first | assumption | omega | decide +kernel))
local macro_rules | `(tactic| walk_at "sx") => `(tactic| first | assumption | exact sx_bk (by assumption) | exact sx_rot (by assumption) _ | exact sx_kin (by assumption) _ _ ⟨by omega, by omega⟩ | exact ⟨by decide, by decide, by decide, by decide, by decide, by decide, by decide, by decide, by decide, by decide⟩)
local macro_rules | `(tactic| walk_at "k6") => `(tactic| first | exact ⟨by assumption, by assumption⟩ | exact ⟨by omega, by omega⟩)
section
variable {P : Program} {w : World} {K : PySem.W.Frag} {mg : Str → Option Value} {base : Heap}
abbrev s_is_whole : Stmt := top 7
theorem sc_is_whole : FnScope ["value"] ["value"] (defScope s_is_whole) := ⟨rfl, rfl, rfl, by decide +kernel, rfl, by decide +kernel, by decide +kernel⟩
set_option maxHeartbeats 40000000 in
theorem ok_is_whole {f : Addr} {fd : FuncData} (F : Fun K "is_whole" "is_whole" s_is_whole f fd) (n_bool : mg "bool" = none) (n_int : mg "int" = none) (n_isinstance : mg "isinstance" = none) : GOk P w K mg base 1 f fd ["value"] (spD K con_is_whole) := by
  refine gok_ds F sc_is_whole (m := 0) rfl (fun ds S0 Q h => ?_) fun cdv A fr s0 H0 E0' gd hr ds S0 Q h => ?_
  · obtain ⟨_, rfl, _⟩ := h
    rfl
  obtain ⟨i, rfl, q⟩ := h
  refine ds_nrm ?_ (by set_option simprocs false in dsimp only [List.map, List.replicate, List.cons_append, List.nil_append])
  refine ds_cons ?_
  refine ds_ret ?_
  refine de_and ?_
  refine de_B call_isi n_isinstance bt_isinstance ?_
  refine da_cons ?_
  refine de_name 0 ?_
  refine da_cons ?_
  refine de_ty n_int bt_int ?_
  refine da_nil ?_
  walk_at "isi"
  refine ⟨_, rfl, fun hb => ?_, fun hb => ?_⟩
  · exact absurd hb (by simp)
  refine de_one ?_
  refine de_not ?_
  refine de_B call_isi n_isinstance bt_isinstance ?_
  refine da_cons ?_
  refine de_name 0 ?_
  refine da_cons ?_
  refine de_ty n_bool bt_bool ?_
  refine da_nil ?_
  walk_at "isi"
  refine ⟨_, rfl, ?_⟩
  exact q
abbrev s_is_whole_tuple : Stmt := top 8
theorem sc_is_whole_tuple : FnScope ["value", "size", "part"] ["value", "size"] (defScope s_is_whole_tuple) := ⟨rfl, rfl, rfl, by decide +kernel, rfl, by decide +kernel, by decide +kernel⟩
set_option maxHeartbeats 40000000 in
theorem ok_is_whole_tuple {f : Addr} {fd : FuncData} (F : Fun K "is_whole_tuple" "is_whole_tuple" s_is_whole_tuple f fd) (c_is_whole : Cal P w K mg base 1 "is_whole" ["value"] [] con_is_whole) (n_all : mg "all" = none) (n_isinstance : mg "isinstance" = none) (n_len : mg "len" = none) (n_tuple : mg "tuple" = none) : GOk P w K mg base 2 f fd ["value", "size"] (spD K con_is_whole_tuple) := by
  refine gok_ds F sc_is_whole_tuple (m := 1) rfl (fun ds S0 Q h => ?_) fun cdv A fr s0 H0 E0' gd hr ds S0 Q h => ?_
  · obtain ⟨_, rfl, _⟩ := h
    rfl
  obtain ⟨ns, rfl, hn, q⟩ := h
  refine ds_nrm ?_ (by set_option simprocs false in dsimp only [List.map, List.replicate, List.cons_append, List.nil_append])
  refine ds_cons ?_
  refine ds_ret ?_
  refine de_and ?_
  refine de_B call_isi n_isinstance bt_isinstance ?_
  refine da_cons ?_
  refine de_name 0 ?_
  refine da_cons ?_
  refine de_ty n_tuple bt_tuple ?_
  refine da_nil ?_
  walk_at "isi"
  refine ⟨_, rfl, fun hb => ?_, fun hb => ?_⟩
  · exact absurd hb (by simp)
  refine de_and ?_
  refine de_eq (hr.units) ?_
  refine de_B call_len_seq n_len bt_len ?_
  refine da_cons ?_
  refine de_name 0 ?_
  refine da_nil ?_
  refine drc_len ?_
  walk_at "lenP"
  refine de_name 1 ?_
  walk_at "eq"
  refine ⟨_, rfl, fun hb => ?_, fun hb => ?_⟩
  · exact absurd hb (by simp)
  refine de_one ?_
  refine de_B (cr_all rfl) n_all bt_all ?_
  refine da_cons ?_
  refine de_lc 2 rfl sc_is_whole_tuple.nd (blkOk_by (N := ["value", "size", "part"]) (sc := defScope s_is_whole_tuple) (by decide +kernel)) ?_ (fun _ _ _ _ _ => pg_name sc_is_whole_tuple.nd rfl (Or.inl rfl))
  refine di_tup ?_
  refine de_name 0 ?_
  refine ⟨_, rfl, ?_⟩
  refine ⟨fun k acc S' => S' = S0 ∧ acc = (List.replicate k true).map D.bl, ⟨rfl, rfl⟩, fun k d acc S' p hk hP hp hl s H C cl fp => ?_, by simp; omega, fun acc S' hl hP => ?_⟩
  · obtain ⟨rfl, rfl⟩ := hP
    obtain ⟨m, _, rfl⟩ := List.mem_map.mp (List.mem_of_getElem? hk)
    refine de_call c_is_whole gd (hr.mono (by decide)) ?_
    refine da_cons ?_
    refine de_name 2 ?_
    refine da_nil ?_
    refine ⟨_, rfl, ?_⟩
    exact ⟨_, rfl, rfl, by rw [List.replicate_succ', List.map_append] <;> rfl⟩
  obtain ⟨rfl, rfl⟩ := hP
  rw [List.length_map]
  refine da_nil ?_
  refine drc_all ?_
  rw [show (List.replicate ns.length true).all id = true by simp]
  exact q
abbrev s_times : Stmt := top 9
theorem sc_times : FnScope ["one", "other", "x", "y", "r", "s"] ["one", "other"] (defScope s_times) := ⟨rfl, rfl, rfl, by decide +kernel, rfl, by decide +kernel, by decide +kernel⟩
set_option maxHeartbeats 40000000 in
theorem ok_times {f : Addr} {fd : FuncData} (F : Fun K "times" "times" s_times f fd)  : GOk P w K mg base 1 f fd ["one", "other"] (spD K con_times) := by
  refine gok_ds F sc_times (m := 4) rfl (fun ds S0 Q h => ?_) fun cdv A fr s0 H0 E0' gd hr ds S0 Q h => ?_
  · obtain ⟨_, _, _, _, rfl, _⟩ := h
    rfl
  obtain ⟨x, y, r, s, rfl, ⟨b1, b2, b3, b4⟩, q⟩ := h
  refine ds_nrm ?_ (by set_option simprocs false in dsimp only [List.map, List.replicate, List.cons_append, List.nil_append])
  refine ds_cons ?_
  refine ds_asg (h := ?_)
  refine de_name 0 ?_
  first | refine dg_tup rfl rfl ?_ | refine dg_tupL rfl rfl ?_ (fun h => pg_lst rfl h)
  refine dgs_cons (h := ?_)
  refine dg_name 2 ?_ sc_times.nd
  refine dgs_cons (h := ?_)
  refine dg_name 3 ?_ sc_times.nd
  refine dgs_nil ?_
  refine ds_cons ?_
  refine ds_asg (h := ?_)
  refine de_name 1 ?_
  first | refine dg_tup rfl rfl ?_ | refine dg_tupL rfl rfl ?_ (fun h => pg_lst rfl h)
  refine dgs_cons (h := ?_)
  refine dg_name 4 ?_ sc_times.nd
  refine dgs_cons (h := ?_)
  refine dg_name 5 ?_ sc_times.nd
  refine dgs_nil ?_
  refine ds_cons ?_
  refine ds_ret ?_
  refine de_tup ?_
  refine da_cons ?_
  refine de_sub ?_
  refine de_mul ?_
  refine de_name 2 ?_
  refine de_name 4 ?_
  first | refine mul_i ?_ (by walk_at "cmw") | refine mul_l ?_ ⟨by decide, by decide, by first | decide | exact Nat.le_of_ble_eq_true rfl⟩
  refine de_mul ?_
  refine de_name 3 ?_
  refine de_name 5 ?_
  first | refine mul_i ?_ (by walk_at "cmw") | refine mul_l ?_ ⟨by decide, by decide, by first | decide | exact Nat.le_of_ble_eq_true rfl⟩
  refine ⟨_, _, rfl, rfl, ?_⟩
  refine da_cons ?_
  refine de_add ?_
  refine de_mul ?_
  refine de_name 2 ?_
  refine de_name 5 ?_
  first | refine mul_i ?_ (by walk_at "cmw") | refine mul_l ?_ ⟨by decide, by decide, by first | decide | exact Nat.le_of_ble_eq_true rfl⟩
  refine de_mul ?_
  refine de_name 3 ?_
  refine de_name 4 ?_
  first | refine mul_i ?_ (by walk_at "cmw") | refine mul_l ?_ ⟨by decide, by decide, by first | decide | exact Nat.le_of_ble_eq_true rfl⟩
  first | refine add_int ?_ | refine add_lst ?_ (by walk_at "len") | refine add_tup ?_ (by walk_at "len3") | refine add_scr ?_ (by walk_at "len") | refine (show addP (.str _) (.str _) _ _ from ⟨by decide +kernel, ?_⟩)
  refine da_nil ?_
  refine ⟨by walk_at "len", ?_⟩
  exact q
abbrev s_is_turn : Stmt := top 12
theorem sc_is_turn : FnScope ["value", "p", "q", "quarters"] ["value"] (defScope s_is_turn) := ⟨rfl, rfl, rfl, by decide +kernel, rfl, by decide +kernel, by decide +kernel⟩
set_option maxHeartbeats 40000000 in
theorem ok_is_turn {f : Addr} {fd : FuncData} (F : Fun K "is_turn" "is_turn" s_is_turn f fd) (b_gcd : mg "gcd" = some (.builtin "math.gcd")) (c_is_whole_tuple : Cal P w K mg base 2 "is_whole_tuple" ["value", "size"] [] con_is_whole_tuple) (g_GREATEST_P : ∃ u, mg "GREATEST_P" = some (.int (1000000000000000) u)) (n_abs : mg "abs" = none) : GOk P w K mg base 3 f fd ["value"] (spD K con_is_turn) := by
  refine gok_ds F sc_is_turn (m := 3) rfl (fun ds S0 Q h => ?_) fun cdv A fr s0 H0 E0' gd hr ds S0 Q h => ?_
  · obtain ⟨_, _, _, rfl, _⟩ := h
    rfl
  obtain ⟨p, q, k, rfl, hT, qq⟩ := h
  obtain ⟨u0, gP⟩ := g_GREATEST_P
  have h1 := hT.p1
  have h2 := hT.p2
  have h3 := hT.q1
  have h4 := hT.q2
  have h5 := hT.k1
  have h6 := hT.k2
  have b1 := hT.bp
  have b2 := hT.bq
  refine ds_nrm ?_ (by set_option simprocs false in dsimp only [List.map, List.replicate, List.cons_append, List.nil_append])
  refine ds_cons ?_
  refine ds_if ?_
  refine dt_not ?_
  refine dt_val (h := ?_)
  refine de_call c_is_whole_tuple gd (hr.mono (by decide)) ?_
  refine da_cons ?_
  refine de_name 0 ?_
  refine da_cons ?_
  refine de_int ?_
  refine da_nil ?_
  first | refine ⟨[_, _, _], rfl, by simp, ?_⟩ | refine ⟨[_, _], rfl, by simp, ?_⟩
  refine ⟨_, rfl, ?_⟩
  refine ⟨fun ht => ?_, fun ht => ?_⟩
  · exact absurd ht (by simp)
  refine ds_nil ?_
  refine ds_cons ?_
  refine ds_asg (h := ?_)
  refine de_name 0 ?_
  first | refine dg_tup rfl rfl ?_ | refine dg_tupL rfl rfl ?_ (fun h => pg_lst rfl h)
  refine dgs_cons (h := ?_)
  refine dg_name 1 ?_ sc_is_turn.nd
  refine dgs_cons (h := ?_)
  refine dg_name 2 ?_ sc_is_turn.nd
  refine dgs_cons (h := ?_)
  refine dg_name 3 ?_ sc_is_turn.nd
  refine dgs_nil ?_
  refine ds_cons ?_
  refine ds_if ?_
  refine dt_w ?_
  refine dw_or ?_
  refine dt_lt ?_
  refine de_name 1 ?_
  refine de_int ?_
  refine ⟨_, _, rfl, rfl, ?_⟩
  refine ⟨fun hb => ?_, fun hb => ?_⟩
  · exact absurd (of_decide_eq_true hb) (by first | omega | (split <;> omega))
  refine dw_or ?_
  refine dt_gt ?_
  refine de_name 1 ?_
  refine de_globI gP ?_
  refine ⟨_, _, rfl, rfl, ?_⟩
  refine ⟨fun hb => ?_, fun hb => ?_⟩
  · exact absurd (of_decide_eq_true hb) (by first | omega | (split <;> omega))
  refine dw_or ?_
  refine dt_ge ?_
  refine de_B call_abs n_abs bt_abs ?_
  refine da_cons ?_
  refine de_name 2 ?_
  refine da_nil ?_
  refine drc_abs ?_
  refine de_name 1 ?_
  refine ⟨_, _, rfl, rfl, ?_⟩
  refine ⟨fun hb => ?_, fun hb => ?_⟩
  · exact absurd (of_decide_eq_true hb) (by first | omega | (split <;> omega))
  refine dw_or ?_
  refine dt_lt ?_
  refine de_name 3 ?_
  refine de_int ?_
  refine ⟨_, _, rfl, rfl, ?_⟩
  refine ⟨fun hb => ?_, fun hb => ?_⟩
  · exact absurd (of_decide_eq_true hb) (by first | omega | (split <;> omega))
  refine dw_or1 ?_
  refine dt_gt ?_
  refine de_name 3 ?_
  refine de_int ?_
  refine ⟨_, _, rfl, rfl, ?_⟩
  refine ⟨fun ht => ?_, fun ht => ?_⟩
  · exact absurd (of_decide_eq_true ht) (by omega)
  refine ds_nil ?_
  refine ds_cons ?_
  refine ds_ret ?_
  refine de_and ?_
  refine de_eq (hr.units) ?_
  refine de_mod ?_
  refine de_add ?_
  refine de_name 1 ?_
  refine de_name 2 ?_
  first | refine add_int ?_ | refine add_lst ?_ (by walk_at "len") | refine add_tup ?_ (by walk_at "len3") | refine add_scr ?_ (by walk_at "len") | refine (show addP (.str _) (.str _) _ _ from ⟨by decide +kernel, ?_⟩)
  refine de_int ?_
  refine ⟨_, _, rfl, rfl, (by walk_at "pos"), ?_⟩
  refine de_int ?_
  walk_at "eq"
  refine ⟨_, rfl, fun hb => ?_, fun hb => ?_⟩
  · exact absurd hb (by simp [hT.o])
  refine de_one ?_
  refine de_eq (hr.units) ?_
  refine de_gcd b_gcd ?_
  refine da_cons ?_
  refine de_name 1 ?_
  refine da_cons ?_
  refine de_name 2 ?_
  refine da_nil ?_
  refine ⟨_, _, rfl, ?_⟩
  refine de_int ?_
  walk_at "eq"
  rw [decide_eq_true (show ((Nat.gcd p.natAbs q.natAbs : Nat) : Int) = 1 by rw [hT.g] <;> rfl)]
  exact qq
abbrev s_check_turn : Stmt := top 13
theorem sc_check_turn : FnScope ["turn"] ["turn"] (defScope s_check_turn) := ⟨rfl, rfl, rfl, by decide +kernel, rfl, by decide +kernel, by decide +kernel⟩
set_option maxHeartbeats 40000000 in
theorem ok_check_turn {f : Addr} {fd : FuncData} (F : Fun K "check_turn" "check_turn" s_check_turn f fd) (c_is_turn : Cal P w K mg base 3 "is_turn" ["value"] [] con_is_turn) : GOk P w K mg base 4 f fd ["turn"] (spD K con_check_turn) := by
  refine gok_ds F sc_check_turn (m := 0) rfl (fun ds S0 Q h => ?_) fun cdv A fr s0 H0 E0' gd hr ds S0 Q h => ?_
  · obtain ⟨_, _, _, rfl, _⟩ := h
    rfl
  obtain ⟨p, q, k, rfl, hT, qq⟩ := h
  refine ds_nrm ?_ (by set_option simprocs false in dsimp only [List.map, List.replicate, List.cons_append, List.nil_append])
  refine ds_cons ?_
  refine ds_if ?_
  refine dt_not ?_
  refine dt_val (h := ?_)
  refine de_call c_is_turn gd (hr.mono (by decide)) ?_
  refine da_cons ?_
  refine de_name 0 ?_
  refine da_nil ?_
  refine ⟨_, _, _, rfl, by walk_at "tn", ?_⟩
  refine ⟨_, rfl, ?_⟩
  refine ⟨fun ht => ?_, fun ht => ?_⟩
  · exact absurd ht (by simp)
  refine ds_nil ?_
  refine ds_nil ?_
  exact qq
abbrev s_legs_of : Stmt := top 14
theorem sc_legs_of : FnScope ["turn", "p", "q", "quarters", "a", "b", "_"] ["turn"] (defScope s_legs_of) := ⟨rfl, rfl, rfl, by decide +kernel, rfl, by decide +kernel, by decide +kernel⟩
set_option maxHeartbeats 40000000 in
theorem ok_legs_of {f : Addr} {fd : FuncData} (F : Fun K "legs_of" "legs_of" s_legs_of f fd) (c_check_turn : Cal P w K mg base 4 "check_turn" ["turn"] [] con_check_turn) (c_times : Cal P w K mg base 1 "times" ["one", "other"] [] con_times) (n_range : mg "range" = none) : GOk P w K mg base 5 f fd ["turn"] (spD K con_legs_of) := by
  refine gok_ds F sc_legs_of (m := 6) rfl (fun ds S0 Q h => ?_) fun cdv A fr s0 H0 E0' gd hr ds S0 Q h => ?_
  · obtain ⟨_, _, _, rfl, _⟩ := h
    rfl
  obtain ⟨p, q, k, rfl, hT, qq⟩ := h
  have h5 := hT.k1
  have h6 := hT.k2
  have b1 := hT.bp
  have b2 := hT.bq
  refine ds_nrm ?_ (by set_option simprocs false in dsimp only [List.map, List.replicate, List.cons_append, List.nil_append])
  refine ds_cons ?_
  refine ds_expr (h := ?_)
  refine de_call c_check_turn gd (hr.mono (by decide)) ?_
  refine da_cons ?_
  refine de_name 0 ?_
  refine da_nil ?_
  refine ⟨_, _, _, rfl, by walk_at "tn", ?_⟩
  refine ds_cons ?_
  refine ds_asg (h := ?_)
  refine de_name 0 ?_
  first | refine dg_tup rfl rfl ?_ | refine dg_tupL rfl rfl ?_ (fun h => pg_lst rfl h)
  refine dgs_cons (h := ?_)
  refine dg_name 1 ?_ sc_legs_of.nd
  refine dgs_cons (h := ?_)
  refine dg_name 2 ?_ sc_legs_of.nd
  refine dgs_cons (h := ?_)
  refine dg_name 3 ?_ sc_legs_of.nd
  refine dgs_nil ?_
  refine ds_cons ?_
  refine ds_asg (h := ?_)
  refine de_call c_times gd (hr.mono (by decide)) ?_
  refine da_cons ?_
  refine de_tup ?_
  refine da_cons ?_
  refine de_name 1 ?_
  refine da_cons ?_
  refine de_name 2 ?_
  refine da_nil ?_
  refine ⟨by walk_at "len", ?_⟩
  refine da_cons ?_
  refine de_tup ?_
  refine da_cons ?_
  refine de_name 1 ?_
  refine da_cons ?_
  refine de_name 2 ?_
  refine da_nil ?_
  refine ⟨by walk_at "len", ?_⟩
  refine da_nil ?_
  refine ⟨_, _, _, _, rfl, ⟨by walk_at "bdu", by walk_at "bdu", by walk_at "bdu", by walk_at "bdu"⟩, ?_⟩
  first | refine dg_tup rfl rfl ?_ | refine dg_tupL rfl rfl ?_ (fun h => pg_lst rfl h)
  refine dgs_cons (h := ?_)
  refine dg_name 4 ?_ sc_legs_of.nd
  refine dgs_cons (h := ?_)
  refine dg_name 5 ?_ sc_legs_of.nd
  refine dgs_nil ?_
  refine ds_cons ?_
  refine ds_for (γ := Nat) PassesOwn.never rfl ?_
  refine di_rng1 n_range ?_
  refine da_cons ?_
  refine de_name 3 ?_
  refine da_nil ?_
  refine ⟨_, rfl, (by walk_at "rng"), ?_⟩
  refine ⟨fun j : Nat => [some (.tup [.int p, .int q, .int k]), some (.int p), some (.int q), some (.int k), some (.int (rtX j (p * p - q * q) (p * q + q * p))), some (.int (rtY j (p * p - q * q) (p * q + q * p))), none], fun i j S' => j = i ∧ S' = S0, 0, ⟨rfl, rfl, rfl, rfl, rfl, rfl, trivial⟩, ⟨rfl, rfl⟩, fun i d j S' hi hP => ?_, fun j S' hP => ?_⟩
  · obtain ⟨rfl, rfl⟩ := hP
    obtain ⟨hlt, rfl⟩ := rngD_get hi
    have hj : j < 3 := by omega
    refine dg_name 6 ?_ sc_legs_of.nd
    refine ds_cons ?_
    refine ds_par (i := 4) (j := 5) rfl sc_legs_of.nd rfl rfl (by decide) ?_
    refine da_cons ?_
    refine de_neg ?_
    refine de_name 5 ?_
    refine ⟨_, rfl, ?_⟩
    refine da_cons ?_
    refine de_name 4 ?_
    refine da_nil ?_
    refine ⟨_, _, rfl, ?_⟩
    refine ds_nrm ?_
    refine ds_nil ?_
    exact ⟨j + 1, ⟨rfl, rfl, rfl, rfl, by rw [(rt_step j hj _ _).1] <;> rfl, by rw [(rt_step j hj _ _).2] <;> rfl, trivial⟩, rfl, rfl⟩
  obtain ⟨rfl, rfl⟩ := hP
  rw [rngD_len]
  refine ds_cons ?_
  refine ds_ret ?_
  refine de_tup ?_
  refine da_cons ?_
  refine de_name 4 ?_
  refine da_cons ?_
  refine de_name 5 ?_
  refine da_cons ?_
  refine de_add ?_
  refine de_mul ?_
  refine de_name 1 ?_
  refine de_name 1 ?_
  first | refine mul_i ?_ (by walk_at "cmw") | refine mul_l ?_ ⟨by decide, by decide, by first | decide | exact Nat.le_of_ble_eq_true rfl⟩
  refine de_mul ?_
  refine de_name 2 ?_
  refine de_name 2 ?_
  first | refine mul_i ?_ (by walk_at "cmw") | refine mul_l ?_ ⟨by decide, by decide, by first | decide | exact Nat.le_of_ble_eq_true rfl⟩
  first | refine add_int ?_ | refine add_lst ?_ (by walk_at "len") | refine add_tup ?_ (by walk_at "len3") | refine add_scr ?_ (by walk_at "len") | refine (show addP (.str _) (.str _) _ _ from ⟨by decide +kernel, ?_⟩)
  refine da_nil ?_
  refine ⟨by walk_at "len", ?_⟩
  unfold lgA lgB at qq
  exact qq
abbrev s__law_source : Stmt := top 19
theorem sc__law_source : FnScope ["_law_entry", "_law_k", "_law_great"] ["_law_entry", "_law_k"] (defScope s__law_source) := ⟨rfl, rfl, rfl, by decide +kernel, rfl, by decide +kernel, by decide +kernel⟩
set_option maxHeartbeats 40000000 in
theorem ok__law_source {f : Addr} {fd : FuncData} (F : Fun K "_law_source" "_law_source" s__law_source f fd) (n_abs : mg "abs" = none) (n_int : mg "int" = none) (n_max : mg "max" = none) : GOk P w K mg base 1 f fd ["_law_entry", "_law_k"] (spD K con_source) := by
  refine gok_ds F sc__law_source (m := 1) rfl (fun ds S0 Q h => ?_) fun cdv A fr s0 H0 E0' gd hr ds S0 Q h => ?_
  · obtain ⟨_, _, rfl, _⟩ := h
    rfl
  obtain ⟨e, k, rfl, ⟨k1, k2⟩, q⟩ := h
  have bk : Bd 7 k := by unfold Bd; omega
  refine ds_nrm ?_ (by set_option simprocs false in dsimp only [List.map, List.replicate, List.cons_append, List.nil_append])
  refine ds_cons ?_
  refine ds_asg (h := ?_)
  refine de_B call_abs n_abs bt_abs ?_
  refine da_cons ?_
  refine de_name 0 ?_
  refine da_nil ?_
  refine drc_abs ?_
  refine dg_name 2 ?_ sc__law_source.nd
  refine ds_cons ?_
  refine ds_ret ?_
  refine de_lstO ?_
  refine da_cons ?_
  refine de_B (call_max2 rfl) n_max bt_max ?_
  refine da_cons ?_
  refine de_int ?_
  refine da_cons ?_
  refine de_sub ?_
  refine de_name 2 ?_
  refine de_pow ?_
  refine de_int ?_
  refine de_int ?_
  refine ⟨_, _, rfl, rfl, (by walk_at "cpw"), ?_⟩
  refine ⟨_, _, rfl, rfl, ?_⟩
  refine da_nil ?_
  refine drc_max ?_
  refine da_cons ?_
  refine de_add ?_
  refine de_add ?_
  refine de_mul ?_
  refine de_mod ?_
  refine de_T call_int1 n_int bt_int ?_
  refine da_cons ?_
  refine de_name 2 ?_
  refine da_nil ?_
  first | refine drc_int ?_ | refine drc_intb ?_
  refine de_add ?_
  refine de_pow ?_
  refine de_int ?_
  refine de_int ?_
  refine ⟨_, _, rfl, rfl, (by walk_at "cpw"), ?_⟩
  refine de_int ?_
  first | refine add_int ?_ | refine add_lst ?_ (by walk_at "len") | refine add_tup ?_ (by walk_at "len3") | refine add_scr ?_ (by walk_at "len") | refine (show addP (.str _) (.str _) _ _ from ⟨by decide +kernel, ?_⟩)
  refine ⟨_, _, rfl, rfl, (by walk_at "pos"), ?_⟩
  refine de_int ?_
  first | refine mul_i ?_ (by walk_at "cmw") | refine mul_l ?_ ⟨by decide, by decide, by first | decide | exact Nat.le_of_ble_eq_true rfl⟩
  refine de_mul ?_
  refine de_int ?_
  refine de_name 1 ?_
  first | refine mul_i ?_ (by walk_at "cmw") | refine mul_l ?_ ⟨by decide, by decide, by first | decide | exact Nat.le_of_ble_eq_true rfl⟩
  first | refine add_int ?_ | refine add_lst ?_ (by walk_at "len") | refine add_tup ?_ (by walk_at "len3") | refine add_scr ?_ (by walk_at "len") | refine (show addP (.str _) (.str _) _ _ from ⟨by decide +kernel, ?_⟩)
  refine de_T call_int1 n_int bt_int ?_
  refine da_cons ?_
  refine de_lt ?_
  refine de_name 0 ?_
  refine de_int ?_
  refine ⟨_, _, rfl, rfl, ?_⟩
  refine da_nil ?_
  first | refine drc_int ?_ | refine drc_intb ?_
  first | refine add_int ?_ | refine add_lst ?_ (by walk_at "len") | refine add_tup ?_ (by walk_at "len3") | refine add_scr ?_ (by walk_at "len") | refine (show addP (.str _) (.str _) _ _ from ⟨by decide +kernel, ?_⟩)
  refine da_cons ?_
  refine de_int ?_
  refine da_nil ?_
  refine ⟨by walk_at "len", fun p1 hp1 => ?_⟩
  exact q _ _ (by assumption) (src_mk (src_a _ _) (src_b _ _ _ ⟨k1, k2⟩))
abbrev s__law_draw : Stmt := top 20
theorem sc__law_draw : FnScope ["_law_source_here", "_law_count", "_law_digit", "_law_mixed"] ["_law_source_here", "_law_count"] (defScope s__law_draw) := ⟨rfl, rfl, rfl, by decide +kernel, rfl, by decide +kernel, by decide +kernel⟩
set_option maxHeartbeats 40000000 in
theorem ok__law_draw {f : Addr} {fd : FuncData} (F : Fun K "_law_draw" "_law_draw" s__law_draw f fd) (n_int : mg "int" = none) : GOk P w K mg base 1 f fd ["_law_source_here", "_law_count"] (spD K con_draw) := by
  refine gok_ds F sc__law_draw (m := 2) rfl (fun ds S0 Q h => ?_) fun cdv A fr s0 H0 E0' gd hr ds S0 Q h => ?_
  · obtain ⟨_, _, _, _, rfl, _⟩ := h
    rfl
  obtain ⟨p, n, l, m, rfl, hg, ⟨a, b, c, rfl, ha, hb, hc, hb0⟩, hm, hn, bn, qq⟩ := h
  have bc : Bd 30 c := by unfold Bd; omega
  have bc1 : Bd 30 (c + 1) := by unfold Bd; omega
  refine ds_nrm ?_ (by set_option simprocs false in dsimp only [List.map, List.replicate, List.cons_append, List.nil_append])
  refine ds_cons ?_
  refine ds_if ?_
  refine dt_gt ?_
  refine de_ix (h := ?_)
  refine de_name 0 ?_
  refine de_int ?_
  walk_at "ix"
  refine de_int ?_
  refine ⟨_, _, rfl, rfl, ?_⟩
  refine ⟨fun ht => ?_, fun ht => ?_⟩
  · refine ds_cons ?_
    refine ds_asg (h := ?_)
    refine de_mod ?_
    refine de_T call_int1 n_int bt_int ?_
    refine da_cons ?_
    refine de_ix (h := ?_)
    refine de_name 0 ?_
    refine de_int ?_
    walk_at "ix"
    refine da_nil ?_
    first | refine drc_int ?_ | refine drc_intb ?_
    refine de_name 1 ?_
    refine ⟨_, _, rfl, rfl, (by walk_at "pos"), ?_⟩
    refine dg_name 2 ?_ sc__law_draw.nd
    refine ds_cons ?_
    refine ds_asg (h := ?_)
    refine de_fdiv ?_
    refine de_ix (h := ?_)
    refine de_name 0 ?_
    refine de_int ?_
    walk_at "ix"
    refine de_name 1 ?_
    refine ⟨_, _, rfl, rfl, (by walk_at "cdw"), ?_⟩
    refine dg_sub ?_
    refine de_name 0 ?_
    refine de_int ?_
    refine ⟨_, _, _, _, rfl, rfl, (by walk_at "gets"), rfl, ?_⟩
    walk_at "sets"
    refine ds_cons ?_
    refine ds_ret ?_
    refine de_name 2 ?_
    exact qq _ _ (Int.emod_nonneg _ (by omega)) (Int.emod_lt_of_pos _ hn) (src_div ha hb hc hb0 hn)
  refine ds_nil ?_
  refine ds_cons ?_
  refine ds_asg (h := ?_)
  refine de_add ?_
  refine de_ix (h := ?_)
  refine de_name 0 ?_
  refine de_int ?_
  walk_at "ix"
  refine de_int ?_
  first | refine add_int ?_ | refine add_lst ?_ (by walk_at "len") | refine add_tup ?_ (by walk_at "len3") | refine add_scr ?_ (by walk_at "len") | refine (show addP (.str _) (.str _) _ _ from ⟨by decide +kernel, ?_⟩)
  refine dg_sub ?_
  refine de_name 0 ?_
  refine de_int ?_
  refine ⟨_, _, _, _, rfl, rfl, (by walk_at "gets"), rfl, ?_⟩
  walk_at "sets"
  refine ds_cons ?_
  refine ds_asg (h := ?_)
  refine de_mod ?_
  refine de_T call_int1 n_int bt_int ?_
  refine da_cons ?_
  refine de_pow ?_
  refine de_add ?_
  refine de_ix (h := ?_)
  refine de_name 0 ?_
  refine de_int ?_
  walk_at "ix"
  refine de_mul ?_
  refine de_int ?_
  refine de_ix (h := ?_)
  refine de_name 0 ?_
  refine de_int ?_
  walk_at "ix"
  first | refine mul_i ?_ (by walk_at "cmw") | refine mul_l ?_ ⟨by decide, by decide, by first | decide | exact Nat.le_of_ble_eq_true rfl⟩
  first | refine add_int ?_ | refine add_lst ?_ (by walk_at "len") | refine add_tup ?_ (by walk_at "len3") | refine add_scr ?_ (by walk_at "len") | refine (show addP (.str _) (.str _) _ _ from ⟨by decide +kernel, ?_⟩)
  refine de_int ?_
  refine ⟨_, _, rfl, rfl, (by walk_at "cpw"), ?_⟩
  refine da_nil ?_
  first | refine drc_int ?_ | refine drc_intb ?_
  refine de_add ?_
  refine de_pow ?_
  refine de_int ?_
  refine de_int ?_
  refine ⟨_, _, rfl, rfl, (by walk_at "cpw"), ?_⟩
  refine de_int ?_
  first | refine add_int ?_ | refine add_lst ?_ (by walk_at "len") | refine add_tup ?_ (by walk_at "len3") | refine add_scr ?_ (by walk_at "len") | refine (show addP (.str _) (.str _) _ _ from ⟨by decide +kernel, ?_⟩)
  refine ⟨_, _, rfl, rfl, (by walk_at "pos"), ?_⟩
  refine dg_name 3 ?_ sc__law_draw.nd
  refine ds_cons ?_
  refine ds_asg (h := ?_)
  refine de_mod ?_
  refine de_T call_int1 n_int bt_int ?_
  refine da_cons ?_
  refine de_pow ?_
  refine de_add ?_
  refine de_mul ?_
  refine de_name 3 ?_
  refine de_ix (h := ?_)
  refine de_name 0 ?_
  refine de_int ?_
  walk_at "ix"
  first | refine mul_i ?_ (by walk_at "cmw") | refine mul_l ?_ ⟨by decide, by decide, by first | decide | exact Nat.le_of_ble_eq_true rfl⟩
  refine de_int ?_
  first | refine add_int ?_ | refine add_lst ?_ (by walk_at "len") | refine add_tup ?_ (by walk_at "len3") | refine add_scr ?_ (by walk_at "len") | refine (show addP (.str _) (.str _) _ _ from ⟨by decide +kernel, ?_⟩)
  refine de_int ?_
  refine ⟨_, _, rfl, rfl, (by walk_at "cpw"), ?_⟩
  refine da_nil ?_
  first | refine drc_int ?_ | refine drc_intb ?_
  refine de_add ?_
  refine de_pow ?_
  refine de_int ?_
  refine de_int ?_
  refine ⟨_, _, rfl, rfl, (by walk_at "cpw"), ?_⟩
  refine de_int ?_
  first | refine add_int ?_ | refine add_lst ?_ (by walk_at "len") | refine add_tup ?_ (by walk_at "len3") | refine add_scr ?_ (by walk_at "len") | refine (show addP (.str _) (.str _) _ _ from ⟨by decide +kernel, ?_⟩)
  refine ⟨_, _, rfl, rfl, (by walk_at "pos"), ?_⟩
  refine dg_name 3 ?_ sc__law_draw.nd
  refine ds_cons ?_
  refine ds_ret ?_
  refine de_mod ?_
  refine de_T call_int1 n_int bt_int ?_
  refine da_cons ?_
  refine de_fdiv ?_
  refine de_name 3 ?_
  refine de_int ?_
  refine ⟨_, _, rfl, rfl, (by walk_at "cdw"), ?_⟩
  refine da_nil ?_
  first | refine drc_int ?_ | refine drc_intb ?_
  refine de_name 1 ?_
  refine ⟨_, _, rfl, rfl, (by walk_at "pos"), ?_⟩
  exact qq _ _ (Int.emod_nonneg _ (by omega)) (Int.emod_lt_of_pos _ hn) (src_next ha hb hc hb0)
abbrev s__law_common : Stmt := top 21
theorem sc__law_common : FnScope ["_law_one", "_law_two"] ["_law_one", "_law_two"] (defScope s__law_common) := ⟨rfl, rfl, rfl, by decide +kernel, rfl, by decide +kernel, by decide +kernel⟩
set_option maxHeartbeats 40000000 in
theorem ok__law_common {f : Addr} {fd : FuncData} (F : Fun K "_law_common" "_law_common" s__law_common f fd) (n_abs : mg "abs" = none) (n_int : mg "int" = none) : GOk P w K mg base 1 f fd ["_law_one", "_law_two"] (spD K con_common) := by
  refine gok_ds F sc__law_common (m := 0) rfl (fun ds S0 Q h => ?_) fun cdv A fr s0 H0 E0' gd hr ds S0 Q h => ?_
  · obtain ⟨_, _, rfl, _⟩ := h
    rfl
  obtain ⟨a, b, rfl, qq⟩ := h
  refine ds_nrm ?_ (by set_option simprocs false in dsimp only [List.map, List.replicate, List.cons_append, List.nil_append])
  refine ds_cons ?_
  refine ds_par (i := 0) (j := 1) rfl sc__law_common.nd rfl rfl (by decide) ?_
  refine da_cons ?_
  refine de_B call_abs n_abs bt_abs ?_
  refine da_cons ?_
  refine de_name 0 ?_
  refine da_nil ?_
  refine drc_abs ?_
  refine da_cons ?_
  refine de_B call_abs n_abs bt_abs ?_
  refine da_cons ?_
  refine de_name 1 ?_
  refine da_nil ?_
  refine drc_abs ?_
  refine da_nil ?_
  refine ⟨_, _, rfl, ?_⟩
  refine ds_nrm ?_
  refine ds_cons ?_
  refine ds_while (γ := Nat × Nat) PassesOwn.never (fun g => [some (.int g.1), some (.int g.2)]) (fun g S' => S' = S0 ∧ Nat.gcd g.1 g.2 = Nat.gcd a.natAbs b.natAbs) (fun g => g.2) (a.natAbs, b.natAbs) ⟨by rw [abs_nat] <;> rfl, by rw [abs_nat] <;> rfl, trivial⟩ ⟨rfl, rfl⟩ (fun g S' hP => ?_)
  obtain ⟨rfl, hG⟩ := hP
  obtain ⟨x, y⟩ := g
  refine dt_gt ?_
  refine de_name 1 ?_
  refine de_int ?_
  refine ⟨_, _, rfl, rfl, ?_⟩
  refine ⟨fun ht => ?_, fun ht => ?_⟩
  · have hy : 0 < y := by have := of_decide_eq_true ht; omega
    refine ds_cons ?_
    refine ds_par (i := 0) (j := 1) rfl sc__law_common.nd rfl rfl (by decide) ?_
    refine da_cons ?_
    refine de_name 1 ?_
    refine da_cons ?_
    refine de_mod ?_
    refine de_T call_int1 n_int bt_int ?_
    refine da_cons ?_
    refine de_name 0 ?_
    refine da_nil ?_
    first | refine drc_int ?_ | refine drc_intb ?_
    refine de_name 1 ?_
    refine ⟨_, _, rfl, rfl, (by walk_at "pos"), ?_⟩
    refine da_nil ?_
    refine ⟨_, _, rfl, ?_⟩
    refine ds_nrm ?_
    refine ds_nil ?_
    exact ⟨(y, x % y), ⟨rfl, rfl, trivial⟩, ⟨rfl, by rw [← hG]; exact gcd_step x y⟩, Nat.mod_lt x hy⟩
  have hy : y = 0 := by have := of_decide_eq_false ht; omega
  subst hy
  have hG : x = Nat.gcd a.natAbs b.natAbs := by rw [← hG] <;> exact (Nat.gcd_zero_right x).symm
  refine ds_cons ?_
  refine ds_ret ?_
  refine de_name 0 ?_
  rw [hG]
  exact qq
abbrev s__law_spin : Stmt := top 22
theorem sc__law_spin : FnScope ["_law_source_here", "_law_most", "_law_p", "_law_sort", "_law_q"] ["_law_source_here", "_law_most"] (defScope s__law_spin) := ⟨rfl, rfl, rfl, by decide +kernel, rfl, by decide +kernel, by decide +kernel⟩
set_option maxHeartbeats 40000000 in
theorem ok__law_spin {f : Addr} {fd : FuncData} (F : Fun K "_law_spin" "_law_spin" s__law_spin f fd) (c__law_common : Cal P w K mg base 1 "_law_common" ["_law_one", "_law_two"] [] con_common) (c__law_draw : Cal P w K mg base 1 "_law_draw" ["_law_source_here", "_law_count"] [] con_draw) (n_int : mg "int" = none) (n_max : mg "max" = none) (n_min : mg "min" = none) : GOk P w K mg base 2 f fd ["_law_source_here", "_law_most"] (spD K con_spin) := by
  refine gok_ds F sc__law_spin (m := 3) rfl (fun ds S0 Q h => ?_) fun cdv A fr s0 H0 E0' gd hr ds S0 Q h => ?_
  · obtain ⟨_, _, _, _, rfl, _⟩ := h
    rfl
  obtain ⟨pp, n, l, m, rfl, hg, hS, hm, hn, hn2, qq⟩ := h
  have bn : Bd 50 n := by unfold Bd; omega
  refine ds_nrm ?_ (by set_option simprocs false in dsimp only [List.map, List.replicate, List.cons_append, List.nil_append])
  refine ds_cons ?_
  refine ds_par (i := 2) (j := 3) rfl sc__law_spin.nd rfl rfl (by decide) ?_
  refine da_cons ?_
  refine de_add ?_
  refine de_int ?_
  refine de_call c__law_draw gd (hr.mono (by decide)) ?_
  refine da_cons ?_
  refine de_name 0 ?_
  refine da_cons ?_
  refine de_name 1 ?_
  refine da_nil ?_
  refine ⟨_, _, _, _, rfl, (by walk_at "gets"), (by assumption), (by walk_at "m"), (by walk_at "pos"), (by walk_at "bdu"), fun r1 l1 hr1 hn1 hs1 => ?_⟩
  walk_at "sets"
  first | refine add_int ?_ | refine add_lst ?_ (by walk_at "len") | refine add_tup ?_ (by walk_at "len3") | refine add_scr ?_ (by walk_at "len") | refine (show addP (.str _) (.str _) _ _ from ⟨by decide +kernel, ?_⟩)
  refine da_cons ?_
  refine de_call c__law_draw gd (hr.mono (by decide)) ?_
  refine da_cons ?_
  refine de_name 0 ?_
  refine da_cons ?_
  refine de_int ?_
  refine da_nil ?_
  refine ⟨_, _, _, _, rfl, (by walk_at "gets"), (by assumption), (by walk_at "m"), (by walk_at "pos"), (by walk_at "bdu"), fun r2 l2 hr2 hn2 hs2 => ?_⟩
  walk_at "sets"
  refine da_nil ?_
  refine ⟨_, _, rfl, ?_⟩
  refine ds_nrm ?_
  refine ds_cons ?_
  refine ds_asg (h := ?_)
  refine de_ix (h := ?_)
  refine de_lst ?_
  refine da_cons ?_
  refine de_call c__law_draw gd (hr.mono (by decide)) ?_
  refine da_cons ?_
  refine de_name 0 ?_
  refine da_cons ?_
  refine de_name 2 ?_
  refine da_nil ?_
  refine ⟨_, _, _, _, rfl, (by walk_at "gets"), (by assumption), (by walk_at "m"), (by walk_at "pos"), (by walk_at "bdu"), fun r3 l3 hr3 hn3 hs3 => ?_⟩
  walk_at "sets"
  refine da_cons ?_
  refine de_sub ?_
  refine de_name 2 ?_
  refine de_int ?_
  refine ⟨_, _, rfl, rfl, ?_⟩
  refine da_cons ?_
  refine de_B (call_max2 rfl) n_max bt_max ?_
  refine da_cons ?_
  refine de_int ?_
  refine da_cons ?_
  refine de_sub ?_
  refine de_name 2 ?_
  refine de_int ?_
  refine ⟨_, _, rfl, rfl, ?_⟩
  refine da_nil ?_
  refine drc_max ?_
  refine da_cons ?_
  refine de_call c__law_draw gd (hr.mono (by decide)) ?_
  refine da_cons ?_
  refine de_name 0 ?_
  refine da_cons ?_
  refine de_B (call_min2 rfl) n_min bt_min ?_
  refine da_cons ?_
  refine de_name 2 ?_
  refine da_cons ?_
  refine de_int ?_
  refine da_nil ?_
  refine drc_min ?_
  refine da_nil ?_
  refine ⟨_, _, _, _, rfl, (by walk_at "gets"), (by assumption), (by walk_at "m"), (by walk_at "pos"), (by walk_at "bdu"), fun r4 l4 hr4 hn4 hs4 => ?_⟩
  walk_at "sets"
  refine da_cons ?_
  refine de_call c__law_draw gd (hr.mono (by decide)) ?_
  refine da_cons ?_
  refine de_name 0 ?_
  refine da_cons ?_
  refine de_name 2 ?_
  refine da_nil ?_
  refine ⟨_, _, _, _, rfl, (by walk_at "gets"), (by assumption), (by walk_at "m"), (by walk_at "pos"), (by walk_at "bdu"), fun r5 l5 hr5 hn5 hs5 => ?_⟩
  walk_at "sets"
  refine da_nil ?_
  refine ⟨by walk_at "len", ?_⟩
  refine de_name 3 ?_
  first | refine ix_pick (fun d => ∃ x : Int, d = .int x ∧ 0 ≤ x ∧ x < 1 + r1) (fa_cons ⟨_, rfl, by walk_at "spx"⟩ (fa_cons ⟨_, rfl, by walk_at "spx"⟩ (fa_cons ⟨_, rfl, by walk_at "spx"⟩ (fa_cons ⟨_, rfl, by walk_at "spx"⟩ (fa_cons ⟨_, rfl, by walk_at "spx"⟩ fa_nil))))) (by assumption) (by show r2 < 5; assumption) ?_ | refine ix_pick (fun d => ∃ x : Int, d = .int x ∧ (x = q0 ∨ x = -q0)) (fa_cons ⟨_, rfl, .inl rfl⟩ (fa_cons ⟨_, rfl, .inr rfl⟩ fa_nil)) (by assumption) (by assumption) ?_
  rintro _ ⟨xq, rfl, hxq⟩
  refine dg_name 4 ?_ sc__law_spin.nd
  refine ds_cons ?_
  refine ds_while (γ := Int) PassesOwn.never (fun q => [some (.raw (.ref pp)), some (.int n), some (.int (1 + r1)), some (.int r2), some (.int q)]) (fun q S' => S' = setS pp l5 S0 ∧ 0 ≤ q ∧ q < 1 + r1) (fun q => (1 + r1 - q).toNat) xq ⟨rfl, rfl, rfl, rfl, rfl, trivial⟩ ⟨rfl, hxq⟩ (fun q S' hP => ?_)
  obtain ⟨rfl, hq0, hq1⟩ := hP
  refine dt_w ?_
  refine dw_or ?_
  refine dt_gt ?_
  refine de_call c__law_common gd (hr.mono (by decide)) ?_
  refine da_cons ?_
  refine de_name 2 ?_
  refine da_cons ?_
  refine de_name 4 ?_
  refine da_nil ?_
  refine ⟨_, _, rfl, ?_⟩
  refine de_int ?_
  refine ⟨_, _, rfl, rfl, ?_⟩
  refine ⟨fun hb => ?_, fun hb => ?_⟩
  · refine ⟨fun _ => ?_, fun h => absurd h (by simp)⟩
    refine ds_cons ?_
    refine ds_asg (h := ?_)
    refine de_add ?_
    refine de_name 4 ?_
    refine de_int ?_
    refine add_int ?_
    refine dg_name 4 ?_ sc__law_spin.nd
    refine ds_nil ?_
    have hq2 := spin_turn (p := 1 + r1) (q := q) (by omega) (by omega) (.inl (of_decide_eq_true hb))
    exact ⟨q + 1, ⟨rfl, rfl, rfl, rfl, rfl, trivial⟩, ⟨rfl, by omega, hq2⟩, by omega⟩
  refine dw_or1 ?_
  refine dt_eq (hr.units) ?_
  refine de_mod ?_
  refine de_T call_int1 n_int bt_int ?_
  refine da_cons ?_
  refine de_add ?_
  refine de_name 2 ?_
  refine de_name 4 ?_
  first | refine add_int ?_ | refine add_lst ?_ (by walk_at "len") | refine add_tup ?_ (by walk_at "len3") | refine add_scr ?_ (by walk_at "len") | refine (show addP (.str _) (.str _) _ _ from ⟨by decide +kernel, ?_⟩)
  refine da_nil ?_
  first | refine drc_int ?_ | refine drc_intb ?_
  refine de_int ?_
  refine ⟨_, _, rfl, rfl, (by walk_at "pos"), ?_⟩
  refine de_int ?_
  walk_at "eq"
  refine ⟨fun ht => ?_, fun ht => ?_⟩
  · refine ds_cons ?_
    refine ds_asg (h := ?_)
    refine de_add ?_
    refine de_name 4 ?_
    refine de_int ?_
    first | refine add_int ?_ | refine add_lst ?_ (by walk_at "len") | refine add_tup ?_ (by walk_at "len3") | refine add_scr ?_ (by walk_at "len") | refine (show addP (.str _) (.str _) _ _ from ⟨by decide +kernel, ?_⟩)
    refine dg_name 4 ?_ sc__law_spin.nd
    refine ds_nil ?_
    have hq2 := spin_turn (p := 1 + r1) (q := q) (by omega) (by omega) (.inr (of_decide_eq_true ht))
    exact ⟨q + 1, ⟨rfl, rfl, rfl, rfl, rfl, trivial⟩, ⟨rfl, by omega, hq2⟩, by omega⟩
  have hgc := gcd_one (p := 1 + r1) (q := q) (by omega) (of_decide_eq_false hb)
  have hod : (1 + r1 + q) % 2 = 1 := by have := of_decide_eq_false ht; omega
  obtain ⟨q0, hq0'⟩ : ∃ q0, q0 = q := ⟨q, rfl⟩
  subst hq0'
  refine ds_cons ?_
  refine ds_ret ?_
  refine de_tup ?_
  refine da_cons ?_
  refine de_name 2 ?_
  refine da_cons ?_
  refine de_ix (h := ?_)
  refine de_lst ?_
  refine da_cons ?_
  refine de_name 4 ?_
  refine da_cons ?_
  refine de_neg ?_
  refine de_name 4 ?_
  refine ⟨_, rfl, ?_⟩
  refine da_nil ?_
  refine ⟨by walk_at "len", ?_⟩
  refine de_call c__law_draw gd (hr.mono (by decide)) ?_
  refine da_cons ?_
  refine de_name 0 ?_
  refine da_cons ?_
  refine de_int ?_
  refine da_nil ?_
  refine ⟨_, _, _, _, rfl, (by walk_at "gets"), (by assumption), (by walk_at "m"), (by walk_at "pos"), (by walk_at "bdu"), fun r7 l7 hr7 hn7 hs7 => ?_⟩
  walk_at "sets"
  first | refine ix_pick (fun d => ∃ x : Int, d = .int x ∧ 0 ≤ x ∧ x < 1 + r1) (fa_cons ⟨_, rfl, by walk_at "spx"⟩ (fa_cons ⟨_, rfl, by walk_at "spx"⟩ (fa_cons ⟨_, rfl, by walk_at "spx"⟩ (fa_cons ⟨_, rfl, by walk_at "spx"⟩ (fa_cons ⟨_, rfl, by walk_at "spx"⟩ fa_nil))))) (by assumption) (by show r2 < 5; assumption) ?_ | refine ix_pick (fun d => ∃ x : Int, d = .int x ∧ (x = q0 ∨ x = -q0)) (fa_cons ⟨_, rfl, .inl rfl⟩ (fa_cons ⟨_, rfl, .inr rfl⟩ fa_nil)) (by assumption) (by assumption) ?_
  rintro _ ⟨xq, rfl, hxq⟩
  refine da_cons ?_
  refine de_call c__law_draw gd (hr.mono (by decide)) ?_
  refine da_cons ?_
  refine de_name 0 ?_
  refine da_cons ?_
  refine de_int ?_
  refine da_nil ?_
  refine ⟨_, _, _, _, rfl, (by walk_at "gets"), (by assumption), (by walk_at "m"), (by walk_at "pos"), (by walk_at "bdu"), fun r8 l8 hr8 hn8 hs8 => ?_⟩
  walk_at "sets"
  refine da_nil ?_
  refine ⟨by walk_at "len", ?_⟩
  refine qq _ _ _ _ ?_ (by omega) ((by assumption : Src _ _).up (by omega))
  have tt := tn_mk (p := 1 + r1) (q := q0) (by omega) (by omega) hq0 hq1 hgc hod ⟨by assumption, by assumption⟩
  rcases hxq with e | e
  · rw [e]; exact tt.1
  · rw [e]; exact tt.2
abbrev s__law_swung : Stmt := top 24
theorem sc__law_swung : FnScope ["_law_dot", "_law_many", "_law_turned_here"] ["_law_dot", "_law_many"] (defScope s__law_swung) := ⟨rfl, rfl, rfl, by decide +kernel, rfl, by decide +kernel, by decide +kernel⟩
set_option maxHeartbeats 40000000 in
theorem ok__law_swung {f : Addr} {fd : FuncData} (F : Fun K "_law_swung" "_law_swung" s__law_swung f fd) (n_int : mg "int" = none) (n_range : mg "range" = none) : GOk P w K mg base 1 f fd ["_law_dot", "_law_many"] (spD K con_swung) := by
  refine gok_ds F sc__law_swung (m := 1) rfl (fun ds S0 Q h => ?_) fun cdv A fr s0 H0 E0' gd hr ds S0 Q h => ?_
  · obtain ⟨_, _, _, rfl, _⟩ := h
    rfl
  obtain ⟨x, y, k, rfl, qq⟩ := h
  have hk1 := Int.emod_nonneg k (show (4 : Int) ≠ 0 by decide)
  have hk2 := Int.emod_lt_of_pos k (show (0 : Int) < 4 by decide)
  refine ds_nrm ?_ (by set_option simprocs false in dsimp only [List.map, List.replicate, List.cons_append, List.nil_append])
  refine ds_cons ?_
  refine ds_for (γ := Nat) PassesOwn.never rfl ?_
  refine di_rng1 n_range ?_
  refine da_cons ?_
  refine de_mod ?_
  refine de_T call_int1 n_int bt_int ?_
  refine da_cons ?_
  refine de_name 1 ?_
  refine da_nil ?_
  first | refine drc_int ?_ | refine drc_intb ?_
  refine de_int ?_
  refine ⟨_, _, rfl, rfl, (by walk_at "pos"), ?_⟩
  refine da_nil ?_
  refine ⟨_, rfl, (by walk_at "rng"), ?_⟩
  refine ⟨fun j => [some (.tup [.int (rtX j x y), .int (rtY j x y)]), some (.int k), none], fun i j S' => j = i ∧ S' = S0, 0, ⟨rfl, rfl, trivial⟩, ⟨rfl, rfl⟩, fun i d j S' hi hP => ?_, fun j S' hP => ?_⟩
  · obtain ⟨rfl, rfl⟩ := hP
    obtain ⟨hlt, rfl⟩ := rngD_get hi
    have hj : j < 3 := by omega
    refine dg_name 2 ?_ sc__law_swung.nd
    refine ds_cons ?_
    refine ds_asg (h := ?_)
    refine de_tup ?_
    refine da_cons ?_
    refine de_neg ?_
    refine de_ix (h := ?_)
    refine de_name 0 ?_
    refine de_int ?_
    walk_at "ix"
    refine ⟨_, rfl, ?_⟩
    refine da_cons ?_
    refine de_ix (h := ?_)
    refine de_name 0 ?_
    refine de_int ?_
    walk_at "ix"
    refine da_nil ?_
    refine ⟨by walk_at "len", ?_⟩
    refine dg_name 0 ?_ sc__law_swung.nd
    refine ds_nil ?_
    exact ⟨j + 1, ⟨by rw [(rt_step j hj _ _).1, (rt_step j hj _ _).2] <;> rfl, rfl, trivial⟩, rfl, rfl⟩
  obtain ⟨rfl, rfl⟩ := hP
  rw [rngD_len]
  refine ds_cons ?_
  refine ds_ret ?_
  refine de_name 0 ?_
  exact qq
abbrev s__law_legs : Stmt := top 23
theorem sc__law_legs : FnScope ["_law_spin_here", "_law_p", "_law_q"] ["_law_spin_here"] (defScope s__law_legs) := ⟨rfl, rfl, rfl, by decide +kernel, rfl, by decide +kernel, by decide +kernel⟩
set_option maxHeartbeats 40000000 in
theorem ok__law_legs {f : Addr} {fd : FuncData} (F : Fun K "_law_legs" "_law_legs" s__law_legs f fd)  : GOk P w K mg base 1 f fd ["_law_spin_here"] (spD K con_llegs) := by
  refine gok_ds F sc__law_legs (m := 2) rfl (fun ds S0 Q h => ?_) fun cdv A fr s0 H0 E0' gd hr ds S0 Q h => ?_
  · obtain ⟨_, _, _, rfl, _⟩ := h
    rfl
  obtain ⟨l, p, q, rfl, e0, e1, ⟨b1, b2⟩, qq⟩ := h
  refine ds_nrm ?_ (by set_option simprocs false in dsimp only [List.map, List.replicate, List.cons_append, List.nil_append])
  refine ds_cons ?_
  refine ds_par (i := 1) (j := 2) rfl sc__law_legs.nd rfl rfl (by decide) ?_
  refine da_cons ?_
  refine de_ix (h := ?_)
  refine de_name 0 ?_
  refine de_int ?_
  first | refine ix_t ?_ e0 | refine ix_t ?_ e1
  refine da_cons ?_
  refine de_ix (h := ?_)
  refine de_name 0 ?_
  refine de_int ?_
  first | refine ix_t ?_ e0 | refine ix_t ?_ e1
  refine da_nil ?_
  refine ⟨_, _, rfl, ?_⟩
  refine ds_nrm ?_
  refine ds_cons ?_
  refine ds_ret ?_
  refine de_tup ?_
  refine da_cons ?_
  refine de_sub ?_
  refine de_mul ?_
  refine de_name 1 ?_
  refine de_name 1 ?_
  first | refine mul_i ?_ (by walk_at "cmw") | refine mul_l ?_ ⟨by decide, by decide, by first | decide | exact Nat.le_of_ble_eq_true rfl⟩
  refine de_mul ?_
  refine de_name 2 ?_
  refine de_name 2 ?_
  first | refine mul_i ?_ (by walk_at "cmw") | refine mul_l ?_ ⟨by decide, by decide, by first | decide | exact Nat.le_of_ble_eq_true rfl⟩
  refine ⟨_, _, rfl, rfl, ?_⟩
  refine da_cons ?_
  refine de_mul ?_
  refine de_mul ?_
  refine de_int ?_
  refine de_name 1 ?_
  first | refine mul_i ?_ (by walk_at "cmw") | refine mul_l ?_ ⟨by decide, by decide, by first | decide | exact Nat.le_of_ble_eq_true rfl⟩
  refine de_name 2 ?_
  first | refine mul_i ?_ (by walk_at "cmw") | refine mul_l ?_ ⟨by decide, by decide, by first | decide | exact Nat.le_of_ble_eq_true rfl⟩
  refine da_cons ?_
  refine de_add ?_
  refine de_mul ?_
  refine de_name 1 ?_
  refine de_name 1 ?_
  first | refine mul_i ?_ (by walk_at "cmw") | refine mul_l ?_ ⟨by decide, by decide, by first | decide | exact Nat.le_of_ble_eq_true rfl⟩
  refine de_mul ?_
  refine de_name 2 ?_
  refine de_name 2 ?_
  first | refine mul_i ?_ (by walk_at "cmw") | refine mul_l ?_ ⟨by decide, by decide, by first | decide | exact Nat.le_of_ble_eq_true rfl⟩
  first | refine add_int ?_ | refine add_lst ?_ (by walk_at "len") | refine add_tup ?_ (by walk_at "len3") | refine add_scr ?_ (by walk_at "len") | refine (show addP (.str _) (.str _) _ _ from ⟨by decide +kernel, ?_⟩)
  refine da_nil ?_
  refine ⟨by walk_at "len", ?_⟩
  exact qq
abbrev s__is_legs : Stmt := top 17
theorem sc__is_legs : FnScope ["value", "a", "b", "c"] ["value"] (defScope s__is_legs) := ⟨rfl, rfl, rfl, by decide +kernel, rfl, by decide +kernel, by decide +kernel⟩
set_option maxHeartbeats 40000000 in
theorem ok__is_legs {f : Addr} {fd : FuncData} (F : Fun K "_is_legs" "_is_legs" s__is_legs f fd) (c_is_whole_tuple : Cal P w K mg base 2 "is_whole_tuple" ["value", "size"] [] con_is_whole_tuple) : GOk P w K mg base 3 f fd ["value"] (spD K con_is_legs) := by
  refine gok_ds F sc__is_legs (m := 3) rfl (fun ds S0 Q h => ?_) fun cdv A fr s0 H0 E0' gd hr ds S0 Q h => ?_
  · obtain ⟨_, _, _, rfl, _⟩ := h
    rfl
  obtain ⟨a, b, c, rfl, ⟨h1, h2⟩, ⟨b1, b2, b3⟩, qq⟩ := h
  refine ds_nrm ?_ (by set_option simprocs false in dsimp only [List.map, List.replicate, List.cons_append, List.nil_append])
  refine ds_cons ?_
  refine ds_if ?_
  refine dt_not ?_
  refine dt_val (h := ?_)
  refine de_call c_is_whole_tuple gd (hr.mono (by decide)) ?_
  refine da_cons ?_
  refine de_name 0 ?_
  refine da_cons ?_
  refine de_int ?_
  refine da_nil ?_
  first | refine ⟨[_, _, _], rfl, by simp, ?_⟩ | refine ⟨[_, _], rfl, by simp, ?_⟩
  refine ⟨_, rfl, ?_⟩
  refine ⟨fun ht => ?_, fun ht => ?_⟩
  · exact absurd ht (by simp)
  refine ds_nil ?_
  refine ds_cons ?_
  refine ds_asg (h := ?_)
  refine de_name 0 ?_
  first | refine dg_tup rfl rfl ?_ | refine dg_tupL rfl rfl ?_ (fun h => pg_lst rfl h)
  refine dgs_cons (h := ?_)
  refine dg_name 1 ?_ sc__is_legs.nd
  refine dgs_cons (h := ?_)
  refine dg_name 2 ?_ sc__is_legs.nd
  refine dgs_cons (h := ?_)
  refine dg_name 3 ?_ sc__is_legs.nd
  refine dgs_nil ?_
  refine ds_cons ?_
  refine ds_ret ?_
  refine de_and ?_
  refine de_ge ?_
  refine de_name 3 ?_
  refine de_int ?_
  refine ⟨_, _, rfl, rfl, ?_⟩
  refine ⟨_, rfl, fun hb => ?_, fun hb => ?_⟩
  · exact absurd (of_decide_eq_false hb) (by omega)
  refine de_one ?_
  refine de_eq (hr.units) ?_
  refine de_add ?_
  refine de_mul ?_
  refine de_name 1 ?_
  refine de_name 1 ?_
  first | refine mul_i ?_ (by walk_at "cmw") | refine mul_l ?_ ⟨by decide, by decide, by first | decide | exact Nat.le_of_ble_eq_true rfl⟩
  refine de_mul ?_
  refine de_name 2 ?_
  refine de_name 2 ?_
  first | refine mul_i ?_ (by walk_at "cmw") | refine mul_l ?_ ⟨by decide, by decide, by first | decide | exact Nat.le_of_ble_eq_true rfl⟩
  first | refine add_int ?_ | refine add_lst ?_ (by walk_at "len") | refine add_tup ?_ (by walk_at "len3") | refine add_scr ?_ (by walk_at "len") | refine (show addP (.str _) (.str _) _ _ from ⟨by decide +kernel, ?_⟩)
  refine de_mul ?_
  refine de_name 3 ?_
  refine de_name 3 ?_
  first | refine mul_i ?_ (by walk_at "cmw") | refine mul_l ?_ ⟨by decide, by decide, by first | decide | exact Nat.le_of_ble_eq_true rfl⟩
  refine eq_int ?_
  rw [decide_eq_true h2]
  exact qq
abbrev s_turn_by : Stmt := top 16
theorem sc_turn_by : FnScope ["legs", "a", "b", "c", "common", "quarters", "p", "q"] ["legs"] (defScope s_turn_by) := ⟨rfl, rfl, rfl, by decide +kernel, rfl, by decide +kernel, by decide +kernel⟩
set_option maxHeartbeats 40000000 in
theorem ok_turn_by {f : Addr} {fd : FuncData} (F : Fun K "turn_by" "turn_by" s_turn_by f fd) (b_gcd : mg "gcd" = some (.builtin "math.gcd")) (b_isqrt : mg "isqrt" = some (.builtin "math.isqrt")) (g_GREATEST_P : ∃ u, mg "GREATEST_P" = some (.int (1000000000000000) u)) : GOk P w K mg base 1 f fd ["legs"] (spD K con_turn_by) := by
  refine gok_ds F sc_turn_by (m := 7) rfl (fun ds S0 Q h => ?_) fun cdv A fr s0 H0 E0' gd hr ds S0 Q h => ?_
  · obtain ⟨_, _, _, _, _, _, _, rfl, _⟩ := h
    rfl
  obtain ⟨a, b, c, p, q, k, m, rfl, ⟨ea, eb, ec⟩, hT, hm, bm, qq⟩ := h
  subst ea
  subst eb
  subst ec
  have b1 := hT.bp
  have b2 := hT.bq
  have hm0 : 0 < m := by omega
  have hT0 := Tn.zero hT
  have hp0 := hT.p1
  have hp2 := hT.p2
  have hk1 := hT.k1
  have hk2 := hT.k2
  obtain ⟨u0, gP⟩ := g_GREATEST_P
  refine ds_nrm ?_ (by set_option simprocs false in dsimp only [List.map, List.replicate, List.cons_append, List.nil_append])
  refine ds_cons ?_
  refine ds_asg (h := ?_)
  refine de_name 0 ?_
  first | refine dg_tup rfl rfl ?_ | refine dg_tupL rfl rfl ?_ (fun h => pg_lst rfl h)
  refine dgs_cons (h := ?_)
  refine dg_name 1 ?_ sc_turn_by.nd
  refine dgs_cons (h := ?_)
  refine dg_name 2 ?_ sc_turn_by.nd
  refine dgs_cons (h := ?_)
  refine dg_name 3 ?_ sc_turn_by.nd
  refine dgs_nil ?_
  refine ds_cons ?_
  refine ds_asg (h := ?_)
  refine de_gcd b_gcd ?_
  refine da_cons ?_
  refine de_name 1 ?_
  refine da_cons ?_
  refine de_name 2 ?_
  refine da_nil ?_
  refine ⟨_, _, rfl, ?_⟩
  refine dg_name 4 ?_ sc_turn_by.nd
  rw [gcd_mlg hT (by omega)]
  refine ds_cons ?_
  refine ds_par3 (i := 1) (j := 2) (k := 3) rfl sc_turn_by.nd rfl rfl rfl ?_
  refine da_cons ?_
  refine de_fdiv ?_
  refine de_name 1 ?_
  refine de_name 4 ?_
  refine ⟨_, _, rfl, rfl, (by walk_at "cdw"), ?_⟩
  refine da_cons ?_
  refine de_fdiv ?_
  refine de_name 2 ?_
  refine de_name 4 ?_
  refine ⟨_, _, rfl, rfl, (by walk_at "cdw"), ?_⟩
  refine da_cons ?_
  refine de_fdiv ?_
  refine de_name 3 ?_
  refine de_name 4 ?_
  refine ⟨_, _, rfl, rfl, (by walk_at "cdw"), ?_⟩
  refine da_nil ?_
  refine ⟨_, _, _, rfl, ?_⟩
  refine ds_nrm ?_
  rw [ediv_l hm, ediv_l hm, ediv_l hm]
  refine ds_cons ?_
  refine ds_asg (h := ?_)
  refine de_int ?_
  refine dg_name 5 ?_ sc_turn_by.nd
  refine ds_cons ?_
  refine ds_while (γ := Nat) PassesOwn.never (fun j => [some (.tup [.int (m * lgA p q k), .int (m * lgB p q k), .int (m * cc p q)]), some (.int (rtX j (p * p - q * q) (p * q + q * p))), some (.int (rtY j (p * p - q * q) (p * q + q * p))), some (.int (cc p q)), some (.int m), some (.int (k - (j : Int))), none, none]) (fun j S' => S' = S0 ∧ j ≤ k.toNat) (fun j => j) k.toNat ⟨rfl, by unfold lgA; rfl, by unfold lgB; rfl, rfl, rfl, congrArg (fun z => some (D.int z)) (by omega), trivial⟩ ⟨rfl, Nat.le_refl _⟩ (fun j S' hP => ?_)
  obtain ⟨rfl, hjk⟩ := hP
  have hj4 : j < 4 := by omega
  refine dt_w ?_
  refine dw_or ?_
  refine dt_eq (hr.units) ?_
  refine de_mod ?_
  refine de_name 2 ?_
  refine de_int ?_
  refine ⟨_, _, rfl, rfl, (by walk_at "pos"), ?_⟩
  refine de_int ?_
  refine eq_int ?_
  refine ⟨fun hb => ?_, fun hb => ?_⟩
  · refine ⟨fun _ => ?_, fun h => absurd h (by simp)⟩
    refine ds_cons ?_
    refine ds_par (i := 1) (j := 2) rfl sc_turn_by.nd rfl rfl (by decide) ?_
    refine da_cons ?_
    refine de_name 2 ?_
    refine da_cons ?_
    refine de_neg ?_
    refine de_name 1 ?_
    refine ⟨_, rfl, ?_⟩
    refine da_nil ?_
    refine ⟨_, _, rfl, ?_⟩
    refine ds_nrm ?_
    refine ds_cons ?_
    refine ds_augI 5 sc_turn_by.nd rfl rfl rfl ?_
    refine de_int ?_
    refine ⟨_, rfl, ?_⟩
    refine ds_nrm ?_
    refine ds_nil ?_
    have hz : j ≠ 0 := (go_on hT0 j hj4).mp (.inl (of_decide_eq_true hb))
    obtain ⟨i, rfl⟩ : ∃ i, j = i + 1 := ⟨j - 1, by omega⟩
    exact ⟨i, ⟨rfl, congrArg (fun z => some (D.int z)) (rt_back i (by omega) _ _).1, congrArg (fun z => some (D.int z)) (rt_back i (by omega) _ _).2, rfl, rfl, congrArg (fun z => some (D.int z)) (by omega), trivial⟩, ⟨rfl, by omega⟩, by omega⟩
  refine dw_or1 ?_
  refine dt_lt ?_
  refine de_name 1 ?_
  refine de_int ?_
  refine ⟨_, _, rfl, rfl, ?_⟩
  refine ⟨fun ht => ?_, fun ht => ?_⟩
  · refine ds_cons ?_
    refine ds_par (i := 1) (j := 2) rfl sc_turn_by.nd rfl rfl (by decide) ?_
    refine da_cons ?_
    refine de_name 2 ?_
    refine da_cons ?_
    refine de_neg ?_
    refine de_name 1 ?_
    refine ⟨_, rfl, ?_⟩
    refine da_nil ?_
    refine ⟨_, _, rfl, ?_⟩
    refine ds_nrm ?_
    refine ds_cons ?_
    refine ds_augI 5 sc_turn_by.nd rfl rfl rfl ?_
    refine de_int ?_
    refine ⟨_, rfl, ?_⟩
    refine ds_nrm ?_
    refine ds_nil ?_
    have hz : j ≠ 0 := (go_on hT0 j hj4).mp (.inr (of_decide_eq_true ht))
    obtain ⟨i, rfl⟩ : ∃ i, j = i + 1 := ⟨j - 1, by omega⟩
    exact ⟨i, ⟨rfl, congrArg (fun z => some (D.int z)) (rt_back i (by omega) _ _).1, congrArg (fun z => some (D.int z)) (rt_back i (by omega) _ _).2, rfl, rfl, congrArg (fun z => some (D.int z)) (by omega), trivial⟩, ⟨rfl, by omega⟩, by omega⟩
  have hz : j = 0 := Decidable.byContradiction fun z => ((go_on hT0 j hj4).mpr z).elim (of_decide_eq_false hb) (of_decide_eq_false ht)
  subst hz
  refine ds_cons ?_
  refine ds_asg (h := ?_)
  refine de_isqrt b_isqrt ?_
  refine da_cons ?_
  refine de_fdiv ?_
  refine de_add ?_
  refine de_name 3 ?_
  refine de_name 1 ?_
  first | refine add_int ?_ | refine add_lst ?_ (by walk_at "len") | refine add_tup ?_ (by walk_at "len3") | refine add_scr ?_ (by walk_at "len") | refine (show addP (.str _) (.str _) _ _ from ⟨by decide +kernel, ?_⟩)
  refine de_int ?_
  refine ⟨_, _, rfl, rfl, (by walk_at "cdw"), ?_⟩
  refine da_nil ?_
  refine ⟨_, rfl, (by walk_at "isq"), ?_⟩
  first | rw [isq_eq (show (0 : Int) ≤ p by omega) (show (cc p q + rtX 0 (p * p - q * q) (p * q + q * p)) / 2 = p * p from root_p p q)] | rw [isq_eq (Int.natCast_nonneg q.natAbs) (show (cc p q - rtX 0 (p * p - q * q) (p * q + q * p)) / 2 = _ from (root_q p q).trans (abs_sq q))]
  refine dg_name 6 ?_ sc_turn_by.nd
  refine ds_cons ?_
  refine ds_asg (h := ?_)
  refine de_isqrt b_isqrt ?_
  refine da_cons ?_
  refine de_fdiv ?_
  refine de_sub ?_
  refine de_name 3 ?_
  refine de_name 1 ?_
  refine ⟨_, _, rfl, rfl, ?_⟩
  refine de_int ?_
  refine ⟨_, _, rfl, rfl, (by walk_at "cdw"), ?_⟩
  refine da_nil ?_
  refine ⟨_, rfl, (by walk_at "isq"), ?_⟩
  first | rw [isq_eq (show (0 : Int) ≤ p by omega) (show (cc p q + rtX 0 (p * p - q * q) (p * q + q * p)) / 2 = p * p from root_p p q)] | rw [isq_eq (Int.natCast_nonneg q.natAbs) (show (cc p q - rtX 0 (p * p - q * q) (p * q + q * p)) / 2 = _ from (root_q p q).trans (abs_sq q))]
  refine dg_name 7 ?_ sc_turn_by.nd
  refine ds_cons ?_
  refine ds_if ?_
  refine dt_gt ?_
  refine de_name 6 ?_
  refine de_globI gP ?_
  refine ⟨_, _, rfl, rfl, ?_⟩
  refine ⟨fun ht => ?_, fun ht => ?_⟩
  · exact absurd (of_decide_eq_true ht) (by omega)
  refine ds_nil ?_
  refine ds_cons ?_
  refine ds_ret ?_
  refine de_tup ?_
  refine da_cons ?_
  refine de_name 6 ?_
  refine da_cons ?_
  refine de_ifE ?_
  refine dt_gt ?_
  refine de_name 2 ?_
  refine de_int ?_
  refine ⟨_, _, rfl, rfl, ?_⟩
  refine ⟨fun ht => ?_, fun ht => ?_⟩
  · refine de_name 7 ?_
    refine da_cons ?_
    refine de_name 5 ?_
    refine da_nil ?_
    refine ⟨by walk_at "len", ?_⟩
    rw [(q_sign hp0 q).1 (of_decide_eq_true ht), show k - ((0 : Nat) : Int) = k by omega]
    exact qq
  refine de_neg ?_
  refine de_name 7 ?_
  refine ⟨_, rfl, ?_⟩
  refine da_cons ?_
  refine de_name 5 ?_
  refine da_nil ?_
  refine ⟨by walk_at "len", ?_⟩
  rw [(q_sign hp0 q).2 (of_decide_eq_false ht), show k - ((0 : Nat) : Int) = k by omega]
  exact qq
abbrev s_turn_of : Stmt := top 15
theorem sc_turn_of : FnScope ["legs"] ["legs"] (defScope s_turn_of) := ⟨rfl, rfl, rfl, by decide +kernel, rfl, by decide +kernel, by decide +kernel⟩
set_option maxHeartbeats 40000000 in
theorem ok_turn_of {f : Addr} {fd : FuncData} (F : Fun K "turn_of" "turn_of" s_turn_of f fd) (c__is_legs : Cal P w K mg base 3 "_is_legs" ["value"] [] con_is_legs) (c_turn_by : Cal P w K mg base 1 "turn_by" ["legs"] [] con_turn_by) : GOk P w K mg base 4 f fd ["legs"] (spD K con_turn_by) := by
  refine gok_ds F sc_turn_of (m := 0) rfl (fun ds S0 Q h => ?_) fun cdv A fr s0 H0 E0' gd hr ds S0 Q h => ?_
  · obtain ⟨_, _, _, _, _, _, _, rfl, _⟩ := h
    rfl
  obtain ⟨a, b, c, p, q, k, m, rfl, ⟨ea, eb, ec⟩, hT, hm, bm, qq⟩ := h
  subst ea
  subst eb
  subst ec
  have b1 := hT.bp
  have b2 := hT.bq
  refine ds_nrm ?_ (by set_option simprocs false in dsimp only [List.map, List.replicate, List.cons_append, List.nil_append])
  refine ds_cons ?_
  refine ds_if ?_
  refine dt_not ?_
  refine dt_val (h := ?_)
  refine de_call c__is_legs gd (hr.mono (by decide)) ?_
  refine da_cons ?_
  refine de_name 0 ?_
  refine da_nil ?_
  refine ⟨_, _, _, rfl, ⟨one_mc hT hm, is_legs rfl rfl rfl⟩, ⟨by walk_at "bdu", by walk_at "bdu", by walk_at "bdu"⟩, ?_⟩
  refine ⟨_, rfl, ?_⟩
  refine ⟨fun ht => ?_, fun ht => ?_⟩
  · exact absurd ht (by simp)
  refine ds_nil ?_
  refine ds_cons ?_
  refine ds_ret ?_
  refine de_call c_turn_by gd (hr.mono (by decide)) ?_
  refine da_cons ?_
  refine de_name 0 ?_
  refine da_nil ?_
  refine ⟨_, _, _, _, _, _, _, rfl, ⟨rfl, rfl, rfl⟩, hT, hm, bm, ?_⟩
  exact qq
set_option maxHeartbeats 40000000 in
theorem okx_turn_by {f : Addr} {fd : FuncData} (F : Fun K "turn_by" "turn_by" s_turn_by f fd) {C_TooLarge fI_TooLarge : Addr} (b_gcd : mg "gcd" = some (.builtin "math.gcd")) (b_isqrt : mg "isqrt" = some (.builtin "math.isqrt")) (g_GREATEST_P : ∃ u, mg "GREATEST_P" = some (.int (1000000000000000) u)) (l_TooLarge : PySem.LimX.LimTxt P K mg "TooLarge" "TooLarge.__init__" "limit" "greater than " C_TooLarge fI_TooLarge) : GOkX P w K mg base 2 f fd ["legs"] (spDX K (con_turnX C_TooLarge)) := by
  refine gokx_ds F sc_turn_by (m := 7) rfl (fun ds S0 Q R h => ?_) fun cdv A fr s0 H0 E0' gd hr ds S0 Q R h => ?_
  · obtain ⟨_, _, _, _, _, _, _, rfl, _⟩ := h
    rfl
  obtain ⟨a, b, c, p, q, k, m, rfl, ⟨ea, eb, ec⟩, hT, hm, bm, q1, q2⟩ := h
  subst ea
  subst eb
  subst ec
  have b1 := hT.bp
  have b2 := hT.bq
  have hm0 : 0 < m := by omega
  have hT0 := Tw.zero hT
  have hp0 := hT.p1
  have hp2 := hT.p2
  have hk1 := hT.k1
  have hk2 := hT.k2
  obtain ⟨u0, gP⟩ := g_GREATEST_P
  refine dsx_nrm ?_ (by set_option simprocs false in dsimp only [List.map, List.replicate, List.cons_append, List.nil_append])
  refine dsx_cons ?_
  refine ds1x_of ?_
  refine ds_asg (h := ?_)
  refine de_name 0 ?_
  first | refine dg_tup rfl rfl ?_ | refine dg_tupL rfl rfl ?_ (fun h => pg_lst rfl h)
  refine dgs_cons (h := ?_)
  refine dg_name 1 ?_ sc_turn_by.nd
  refine dgs_cons (h := ?_)
  refine dg_name 2 ?_ sc_turn_by.nd
  refine dgs_cons (h := ?_)
  refine dg_name 3 ?_ sc_turn_by.nd
  refine dgs_nil ?_
  refine dsx_cons ?_
  refine ds1x_of ?_
  refine ds_asg (h := ?_)
  refine de_gcd b_gcd ?_
  refine da_cons ?_
  refine de_name 1 ?_
  refine da_cons ?_
  refine de_name 2 ?_
  refine da_nil ?_
  refine ⟨_, _, rfl, ?_⟩
  refine dg_name 4 ?_ sc_turn_by.nd
  rw [gcd_mlgW hT (by omega)]
  refine dsx_cons ?_
  refine ds1x_of ?_
  refine ds_par3 (i := 1) (j := 2) (k := 3) rfl sc_turn_by.nd rfl rfl rfl ?_
  refine da_cons ?_
  refine de_fdiv ?_
  refine de_name 1 ?_
  refine de_name 4 ?_
  refine ⟨_, _, rfl, rfl, (by walk_at "cdw"), ?_⟩
  refine da_cons ?_
  refine de_fdiv ?_
  refine de_name 2 ?_
  refine de_name 4 ?_
  refine ⟨_, _, rfl, rfl, (by walk_at "cdw"), ?_⟩
  refine da_cons ?_
  refine de_fdiv ?_
  refine de_name 3 ?_
  refine de_name 4 ?_
  refine ⟨_, _, rfl, rfl, (by walk_at "cdw"), ?_⟩
  refine da_nil ?_
  refine ⟨_, _, _, rfl, ?_⟩
  first | refine dsx_nrm ?_ | refine ds_nrm ?_
  rw [ediv_l hm, ediv_l hm, ediv_l hm]
  refine dsx_cons ?_
  refine ds1x_of ?_
  refine ds_asg (h := ?_)
  refine de_int ?_
  refine dg_name 5 ?_ sc_turn_by.nd
  refine dsx_cons ?_
  refine ds1x_of ?_
  refine ds_while (γ := Nat) (passes_of rfl) (fun j => [some (.tup [.int (m * lgA p q k), .int (m * lgB p q k), .int (m * cc p q)]), some (.int (rtX j (p * p - q * q) (p * q + q * p))), some (.int (rtY j (p * p - q * q) (p * q + q * p))), some (.int (cc p q)), some (.int m), some (.int (k - (j : Int))), none, none]) (fun j S' => S' = S0 ∧ j ≤ k.toNat) (fun j => j) k.toNat ⟨rfl, by unfold lgA; rfl, by unfold lgB; rfl, rfl, rfl, congrArg (fun z => some (D.int z)) (by omega), trivial⟩ ⟨rfl, Nat.le_refl _⟩ (fun j S' hP => ?_)
  obtain ⟨rfl, hjk⟩ := hP
  have hj4 : j < 4 := by omega
  refine dt_w ?_
  refine dw_or ?_
  refine dt_eq (hr.units) ?_
  refine de_mod ?_
  refine de_name 2 ?_
  refine de_int ?_
  refine ⟨_, _, rfl, rfl, (by walk_at "pos"), ?_⟩
  refine de_int ?_
  refine eq_int ?_
  refine ⟨fun hb => ?_, fun hb => ?_⟩
  · refine ⟨fun _ => ?_, fun h => absurd h (by simp)⟩
    refine ds_cons ?_
    refine ds_par (i := 1) (j := 2) rfl sc_turn_by.nd rfl rfl (by decide) ?_
    refine da_cons ?_
    refine de_name 2 ?_
    refine da_cons ?_
    refine de_neg ?_
    refine de_name 1 ?_
    refine ⟨_, rfl, ?_⟩
    refine da_nil ?_
    refine ⟨_, _, rfl, ?_⟩
    first | refine dsx_nrm ?_ | refine ds_nrm ?_
    refine ds_cons ?_
    refine ds_augI 5 sc_turn_by.nd rfl rfl rfl ?_
    refine de_int ?_
    refine ⟨_, rfl, ?_⟩
    first | refine dsx_nrm ?_ | refine ds_nrm ?_
    refine ds_nil ?_
    have hz : j ≠ 0 := (go_onW hT0 j hj4).mp (.inl (of_decide_eq_true hb))
    obtain ⟨i, rfl⟩ : ∃ i, j = i + 1 := ⟨j - 1, by omega⟩
    exact ⟨i, ⟨rfl, congrArg (fun z => some (D.int z)) (rt_back i (by omega) _ _).1, congrArg (fun z => some (D.int z)) (rt_back i (by omega) _ _).2, rfl, rfl, congrArg (fun z => some (D.int z)) (by omega), trivial⟩, ⟨rfl, by omega⟩, by omega⟩
  refine dw_or1 ?_
  refine dt_lt ?_
  refine de_name 1 ?_
  refine de_int ?_
  refine ⟨_, _, rfl, rfl, ?_⟩
  refine ⟨fun ht => ?_, fun ht => ?_⟩
  · refine ds_cons ?_
    refine ds_par (i := 1) (j := 2) rfl sc_turn_by.nd rfl rfl (by decide) ?_
    refine da_cons ?_
    refine de_name 2 ?_
    refine da_cons ?_
    refine de_neg ?_
    refine de_name 1 ?_
    refine ⟨_, rfl, ?_⟩
    refine da_nil ?_
    refine ⟨_, _, rfl, ?_⟩
    first | refine dsx_nrm ?_ | refine ds_nrm ?_
    refine ds_cons ?_
    refine ds_augI 5 sc_turn_by.nd rfl rfl rfl ?_
    refine de_int ?_
    refine ⟨_, rfl, ?_⟩
    first | refine dsx_nrm ?_ | refine ds_nrm ?_
    refine ds_nil ?_
    have hz : j ≠ 0 := (go_onW hT0 j hj4).mp (.inr (of_decide_eq_true ht))
    obtain ⟨i, rfl⟩ : ∃ i, j = i + 1 := ⟨j - 1, by omega⟩
    exact ⟨i, ⟨rfl, congrArg (fun z => some (D.int z)) (rt_back i (by omega) _ _).1, congrArg (fun z => some (D.int z)) (rt_back i (by omega) _ _).2, rfl, rfl, congrArg (fun z => some (D.int z)) (by omega), trivial⟩, ⟨rfl, by omega⟩, by omega⟩
  have hz : j = 0 := Decidable.byContradiction fun z => ((go_onW hT0 j hj4).mpr z).elim (of_decide_eq_false hb) (of_decide_eq_false ht)
  subst hz
  refine dsx_cons ?_
  refine ds1x_of ?_
  refine ds_asg (h := ?_)
  refine de_isqrt b_isqrt ?_
  refine da_cons ?_
  refine de_fdiv ?_
  refine de_add ?_
  refine de_name 3 ?_
  refine de_name 1 ?_
  first | refine add_int ?_ | refine add_lst ?_ (by walk_at "len") | refine add_tup ?_ (by walk_at "len3") | refine add_scr ?_ (by walk_at "len") | refine (show addP (.str _) (.str _) _ _ from ⟨by decide +kernel, ?_⟩)
  refine de_int ?_
  refine ⟨_, _, rfl, rfl, (by walk_at "cdw"), ?_⟩
  refine da_nil ?_
  refine ⟨_, rfl, (by walk_at "isq"), ?_⟩
  first | rw [isq_eq (show (0 : Int) ≤ p by omega) (show (cc p q + rtX 0 (p * p - q * q) (p * q + q * p)) / 2 = p * p from root_p p q)] | rw [isq_eq (Int.natCast_nonneg q.natAbs) (show (cc p q - rtX 0 (p * p - q * q) (p * q + q * p)) / 2 = _ from (root_q p q).trans (abs_sq q))]
  refine dg_name 6 ?_ sc_turn_by.nd
  refine dsx_cons ?_
  refine ds1x_of ?_
  refine ds_asg (h := ?_)
  refine de_isqrt b_isqrt ?_
  refine da_cons ?_
  refine de_fdiv ?_
  refine de_sub ?_
  refine de_name 3 ?_
  refine de_name 1 ?_
  refine ⟨_, _, rfl, rfl, ?_⟩
  refine de_int ?_
  refine ⟨_, _, rfl, rfl, (by walk_at "cdw"), ?_⟩
  refine da_nil ?_
  refine ⟨_, rfl, (by walk_at "isq"), ?_⟩
  first | rw [isq_eq (show (0 : Int) ≤ p by omega) (show (cc p q + rtX 0 (p * p - q * q) (p * q + q * p)) / 2 = p * p from root_p p q)] | rw [isq_eq (Int.natCast_nonneg q.natAbs) (show (cc p q - rtX 0 (p * p - q * q) (p * q + q * p)) / 2 = _ from (root_q p q).trans (abs_sq q))]
  refine dg_name 7 ?_ sc_turn_by.nd
  refine dsx_cons ?_
  refine dsx_if ?_
  refine dt_gt ?_
  refine de_name 6 ?_
  refine de_globI gP ?_
  refine ⟨_, _, rfl, rfl, ?_⟩
  refine ⟨fun ht => ?_, fun ht => ?_⟩
  · refine dsx_cons ?_
    refine dsx_raise_lim l_TooLarge PySem.LimX.fld_limit (by decide) hr rfl ?_
    refine de_globI gP ?_
    exact ⟨by show (1000000000000000 : Int).natAbs < 2 ^ 1900; decide +kernel, q1 (of_decide_eq_true ht)⟩
  have hp15 : p ≤ 1000000000000000 := by have := of_decide_eq_false ht; omega
  refine dsx_nil ?_
  refine dsx_cons ?_
  refine dsx_ret ?_
  refine dex_of ?_
  refine de_tup ?_
  refine da_cons ?_
  refine de_name 6 ?_
  refine da_cons ?_
  refine de_ifE ?_
  refine dt_gt ?_
  refine de_name 2 ?_
  refine de_int ?_
  refine ⟨_, _, rfl, rfl, ?_⟩
  refine ⟨fun ht => ?_, fun ht => ?_⟩
  · refine de_name 7 ?_
    refine da_cons ?_
    refine de_name 5 ?_
    refine da_nil ?_
    refine ⟨by walk_at "len", ?_⟩
    rw [(q_sign hp0 q).1 (of_decide_eq_true ht), show k - ((0 : Nat) : Int) = k by omega]
    exact (q2 hp15)
  refine de_neg ?_
  refine de_name 7 ?_
  refine ⟨_, rfl, ?_⟩
  refine da_cons ?_
  refine de_name 5 ?_
  refine da_nil ?_
  refine ⟨by walk_at "len", ?_⟩
  rw [(q_sign hp0 q).2 (of_decide_eq_false ht), show k - ((0 : Nat) : Int) = k by omega]
  exact (q2 hp15)
set_option maxHeartbeats 40000000 in
theorem okx_turn_of {f : Addr} {fd : FuncData} (F : Fun K "turn_of" "turn_of" s_turn_of f fd) {C_TooLarge : Addr} (c__is_legs : Cal P w K mg base 3 "_is_legs" ["value"] [] con_is_legs) (r_turn_by : CalX P w K mg base 2 "turn_by" ["legs"] [] (con_turnX C_TooLarge)) : GOkX P w K mg base 4 f fd ["legs"] (spDX K (con_turnX C_TooLarge)) := by
  refine gokx_ds F sc_turn_of (m := 0) rfl (fun ds S0 Q R h => ?_) fun cdv A fr s0 H0 E0' gd hr ds S0 Q R h => ?_
  · obtain ⟨_, _, _, _, _, _, _, rfl, _⟩ := h
    rfl
  obtain ⟨a, b, c, p, q, k, m, rfl, ⟨ea, eb, ec⟩, hT, hm, bm, q1, q2⟩ := h
  subst ea
  subst eb
  subst ec
  have b1 := hT.bp
  have b2 := hT.bq
  refine dsx_nrm ?_ (by set_option simprocs false in dsimp only [List.map, List.replicate, List.cons_append, List.nil_append])
  refine dsx_cons ?_
  refine dsx_if ?_
  refine dt_not ?_
  refine dt_val (h := ?_)
  refine de_call c__is_legs gd (hr.mono (by decide)) ?_
  refine da_cons ?_
  refine de_name 0 ?_
  refine da_nil ?_
  refine ⟨_, _, _, rfl, ⟨one_mcW hT hm, is_legs rfl rfl rfl⟩, ⟨by walk_at "bdu", by walk_at "bdu", by walk_at "bdu"⟩, ?_⟩
  refine ⟨_, rfl, ?_⟩
  refine ⟨fun ht => ?_, fun ht => ?_⟩
  · exact absurd ht (by simp)
  refine dsx_nil ?_
  refine dsx_cons ?_
  refine dsx_ret ?_
  refine dex_call r_turn_by gd (hr.mono (by decide)) ?_
  refine dax_of ?_
  refine da_cons ?_
  refine de_name 0 ?_
  refine da_nil ?_
  refine ⟨_, _, _, _, _, _, _, rfl, ⟨rfl, rfl, rfl⟩, hT, hm, bm, fun hk2 => ?_, fun hk2 => ?_⟩
  · exact q1 (by assumption)
  exact q2 (by assumption)
abbrev s__law_right : Stmt := top 25
theorem sc__law_right : FnScope ["_law_source_here", "_law_spin_here", "_law_a", "_law_b", "_law_c", "_law_due", "_law_many", "_law_some", "_law_one"] ["_law_source_here", "_law_spin_here"] (defScope s__law_right) := ⟨rfl, rfl, rfl, by decide +kernel, rfl, by decide +kernel, by decide +kernel⟩
set_option maxHeartbeats 40000000 in
theorem ok__law_right {f : Addr} {fd : FuncData} (F : Fun K "_law_right" "_law_right" s__law_right f fd) (c__law_common : Cal P w K mg base 1 "_law_common" ["_law_one", "_law_two"] [] con_common) (c__law_draw : Cal P w K mg base 1 "_law_draw" ["_law_source_here", "_law_count"] [] con_draw) (c__law_legs : Cal P w K mg base 1 "_law_legs" ["_law_spin_here"] [] con_llegs) (c__law_swung : Cal P w K mg base 1 "_law_swung" ["_law_dot", "_law_many"] [] con_swung) (c_legs_of : Cal P w K mg base 5 "legs_of" ["turn"] [(0, ["turn"])] con_legs_of) (c_turn_of : Cal P w K mg base 4 "turn_of" ["legs"] [(0, ["legs"])] con_turn_by) (n_repr : mg "repr" = none) (n_tuple : mg "tuple" = none) : GOk P w K mg base 6 f fd ["_law_source_here", "_law_spin_here"] (spD K con_r03) := by
  refine gok_ds F sc__law_right (m := 7) rfl (fun ds S0 Q h => ?_) fun cdv A fr s0 H0 E0' gd hr ds S0 Q h => ?_
  · obtain ⟨_, _, _, _, _, _, rfl, _⟩ := h
    rfl
  obtain ⟨pp, l, m, p, q, k, rfl, hg, hS, hm, hT, qq⟩ := h
  have b1 := hT.bp
  have b2 := hT.bq
  have b3 := tn_b3 hT
  have k1 := hT.k1
  have k2 := hT.k2
  have eg := gcd_lg hT
  refine ds_nrm ?_ (by set_option simprocs false in dsimp only [List.map, List.replicate, List.cons_append, List.nil_append])
  refine ds_cons ?_
  refine ds_asg (h := ?_)
  refine de_call c__law_legs gd (hr.mono (by decide)) ?_
  refine da_cons ?_
  refine de_name 1 ?_
  refine da_nil ?_
  refine ⟨_, _, _, rfl, (by walk_at "at"), (by walk_at "at"), ⟨by walk_at "bdu", by walk_at "bdu"⟩, ?_⟩
  first | refine dg_tup rfl rfl ?_ | refine dg_tupL rfl rfl ?_ (fun h => pg_lst rfl h)
  refine dgs_cons (h := ?_)
  refine dg_name 2 ?_ sc__law_right.nd
  refine dgs_cons (h := ?_)
  refine dg_name 3 ?_ sc__law_right.nd
  refine dgs_cons (h := ?_)
  refine dg_name 4 ?_ sc__law_right.nd
  refine dgs_nil ?_
  refine ds_cons ?_
  refine ds_asg (h := ?_)
  refine de_add ?_
  refine de_call c__law_swung gd (hr.mono (by decide)) ?_
  refine da_cons ?_
  refine de_tup ?_
  refine da_cons ?_
  refine de_name 2 ?_
  refine da_cons ?_
  refine de_name 3 ?_
  refine da_nil ?_
  refine ⟨by walk_at "len", ?_⟩
  refine da_cons ?_
  refine de_ix (h := ?_)
  refine de_name 1 ?_
  refine de_int ?_
  walk_at "ix"
  refine da_nil ?_
  refine ⟨_, _, _, rfl, ?_⟩
  refine de_tup ?_
  refine da_cons ?_
  refine de_name 4 ?_
  refine da_nil ?_
  refine ⟨by walk_at "len", ?_⟩
  first | refine add_int ?_ | refine add_lst ?_ (by walk_at "len") | refine add_tup ?_ (by walk_at "len3") | refine add_scr ?_ (by walk_at "len") | refine (show addP (.str _) (.str _) _ _ from ⟨by decide +kernel, ?_⟩)
  refine dg_name 5 ?_ sc__law_right.nd
  rw [(lg_due ⟨k1, k2⟩).1, (lg_due ⟨k1, k2⟩).2, show p * p + q * q = cc p q from rfl]
  refine ds_cons ?_
  refine ds_if ?_
  refine dt_ne (hr.units) ?_
  refine de_B (call_repr_data gd hr.units) n_repr bt_repr ?_
  refine da_cons ?_
  refine de_lst ?_
  refine da_cons ?_
  refine de_call c_legs_of gd (hr.mono (by decide)) ?_
  refine da_cons ?_
  refine de_name 1 ?_
  refine da_nil ?_
  refine ⟨_, _, _, rfl, by walk_at "tn", ?_⟩
  refine da_cons ?_
  refine de_callN (ks := ["turn"]) c_legs_of gd (hr.mono (by decide)) (by decide) ?_
  refine dk_cons (h := ?_)
  refine de_name 1 ?_
  refine dk_nil ?_
  refine ⟨rfl, ?_⟩
  walk_at "ord"
  refine ⟨_, _, _, rfl, by walk_at "tn", ?_⟩
  refine da_nil ?_
  refine ⟨by walk_at "len", ?_⟩
  refine da_nil ?_
  first | refine drc_repr ?_ (by walk_at "flat") (by walk_at "sho") (by walk_at "big") (by walk_at "obj")
  refine de_B (call_repr_data gd hr.units) n_repr bt_repr ?_
  refine da_cons ?_
  refine de_lst ?_
  refine da_cons ?_
  refine de_name 5 ?_
  refine da_cons ?_
  refine de_name 5 ?_
  refine da_nil ?_
  refine ⟨by walk_at "len", ?_⟩
  refine da_nil ?_
  first | refine drc_repr ?_ (by walk_at "flat") (by walk_at "sho") (by walk_at "big") (by walk_at "obj")
  refine eq_strT rfl ?_
  refine ⟨fun ht => ?_, fun ht => ?_⟩
  · exact (nb ht rfl).elim
  refine ds_nil ?_
  refine ds_cons ?_
  refine ds_if ?_
  refine dt_w ?_
  refine dw_or ?_
  refine dt_ne (hr.units) ?_
  refine de_add ?_
  refine de_pow ?_
  refine de_ix (h := ?_)
  refine de_name 5 ?_
  refine de_int ?_
  walk_at "ix"
  refine de_int ?_
  refine ⟨_, _, rfl, rfl, (by walk_at "cpw"), ?_⟩
  refine de_pow ?_
  refine de_ix (h := ?_)
  refine de_name 5 ?_
  refine de_int ?_
  walk_at "ix"
  refine de_int ?_
  refine ⟨_, _, rfl, rfl, (by walk_at "cpw"), ?_⟩
  first | refine add_int ?_ | refine add_lst ?_ (by walk_at "len") | refine add_tup ?_ (by walk_at "len3") | refine add_scr ?_ (by walk_at "len") | refine (show addP (.str _) (.str _) _ _ from ⟨by decide +kernel, ?_⟩)
  refine de_pow ?_
  refine de_name 4 ?_
  refine de_int ?_
  refine ⟨_, _, rfl, rfl, (by walk_at "cpw"), ?_⟩
  refine eq_int ?_
  rw [pow22, pow22, pow22, decide_eq_true (lg_sq p q k)]
  refine ⟨fun hb => ?_, fun hb => ?_⟩
  · cases hb
  refine dw_or1 ?_
  refine dt_ne (hr.units) ?_
  refine de_call c__law_common gd (hr.mono (by decide)) ?_
  refine da_cons ?_
  refine de_ix (h := ?_)
  refine de_name 5 ?_
  refine de_int ?_
  walk_at "ix"
  refine da_cons ?_
  refine de_ix (h := ?_)
  refine de_name 5 ?_
  refine de_int ?_
  walk_at "ix"
  refine da_nil ?_
  refine ⟨_, _, rfl, ?_⟩
  refine de_int ?_
  refine eq_int ?_
  rw [eg]
  refine ⟨fun ht => ?_, fun ht => ?_⟩
  · exact absurd ht (by decide)
  refine ds_nil ?_
  refine ds_cons ?_
  refine ds_forG (γ := Unit) [6, 7] PassesOwn.never rfl ?_
  refine di_tup ?_
  refine de_tup ?_
  refine da_cons ?_
  refine de_int ?_
  refine da_cons ?_
  refine de_add ?_
  refine de_int ?_
  refine de_call c__law_draw gd (hr.mono (by decide)) ?_
  refine da_cons ?_
  refine de_name 0 ?_
  refine da_cons ?_
  refine de_int ?_
  refine da_nil ?_
  refine ⟨_, _, _, _, rfl, (by walk_at "gets"), (by assumption), (by walk_at "m"), (by walk_at "pos"), (by walk_at "bdu"), fun r6 l6 hr6 hn6 hs6 => ?_⟩
  walk_at "sets"
  first | refine add_int ?_ | refine add_lst ?_ (by walk_at "len") | refine add_tup ?_ (by walk_at "len3") | refine add_scr ?_ (by walk_at "len") | refine (show addP (.str _) (.str _) _ _ from ⟨by decide +kernel, ?_⟩)
  refine da_cons ?_
  refine de_add ?_
  refine de_int ?_
  refine de_call c__law_draw gd (hr.mono (by decide)) ?_
  refine da_cons ?_
  refine de_name 0 ?_
  refine da_cons ?_
  refine de_pow ?_
  refine de_int ?_
  refine de_int ?_
  refine ⟨_, _, rfl, rfl, (by walk_at "cpw"), ?_⟩
  refine da_nil ?_
  refine ⟨_, _, _, _, rfl, (by walk_at "gets"), (by assumption), (by walk_at "m"), (by walk_at "pos"), (by walk_at "bdu"), fun r7 l7 hr7 hn7 hs7 => ?_⟩
  walk_at "sets"
  first | refine add_int ?_ | refine add_lst ?_ (by walk_at "len") | refine add_tup ?_ (by walk_at "len3") | refine add_scr ?_ (by walk_at "len") | refine (show addP (.str _) (.str _) _ _ from ⟨by decide +kernel, ?_⟩)
  refine da_nil ?_
  refine ⟨by walk_at "len", ?_⟩
  refine ⟨_, rfl, ?_⟩
  have hall1 : ∀ d ∈ [D.int 1, D.int (2 + r6), D.int (1 + r7)], ∃ m : Int, d = .int m ∧ 1 ≤ m ∧ m ≤ 2000000000000 := fa_cons ⟨_, rfl, by decide, by decide⟩ (fa_cons ⟨_, rfl, by omega, by omega⟩ (fa_cons ⟨_, rfl, by omega, by rw [show (10 : Int) ^ (Int.toNat 12) = 1000000000000 by decide] at hn7; omega⟩ fa_nil))
  refine ⟨fun _ => [], _, fun _ => (by dsimp only [putU, fgt, List.set]), fun i _ S' => setS pp l7 S0 = S', (), by walk_at "wk", rfl, fun i1 d1 g1 S1 hi1 hP1 => ?_, fun g1 S1 hP1 => ?_⟩
  · subst hP1
    obtain ⟨m9, rfl, hm9, hm8⟩ := hall1 d1 (List.mem_of_getElem? hi1)
    have bm9 : Bd 300 m9 := by unfold Bd; omega
    have bm8 : Bd 50 m9 := by unfold Bd; omega
    refine dg_name 6 ?_ sc__law_right.nd
    refine ds_cons ?_
    refine ds_asg (h := ?_)
    refine de_T call_tuple_of n_tuple bt_tuple ?_
    refine da_cons ?_
    refine de_lc 8 rfl sc__law_right.nd (blkOk_by (N := ["_law_source_here", "_law_spin_here", "_law_a", "_law_b", "_law_c", "_law_due", "_law_many", "_law_some", "_law_one"]) (sc := defScope s__law_right) (by decide +kernel)) ?_ (fun _ _ _ _ _ => pg_name sc__law_right.nd rfl (Or.inl rfl))
    refine di_tup ?_
    refine de_name 5 ?_
    refine ⟨_, rfl, ?_⟩
    refine ⟨fun i9 acc S' => setS pp l7 S0 = S' ∧ acc = ([lgA p q k, lgB p q k, cc p q].map (fun v => D.int (m9 * v))).take i9, ⟨rfl, rfl⟩, fun k9 d acc S' p9 hk hP hp hl s5 H5 C5 cl5 fp5 => ?_, by show 3 ≤ 100000; decide, fun acc S' hl hP => ?_⟩
    · obtain ⟨rfl, rfl⟩ := hP
      obtain ⟨v9, hv9, rfl⟩ := int_at (os := [lgA p q k, lgB p q k, cc p q]) hk
      have bv9 : Bd 110 v9 := by have := List.mem_of_getElem? hv9; simp only [List.mem_cons, List.not_mem_nil, or_false] at this; rcases this with rfl | rfl | rfl; exact (Bd.lgA k b1 b2).up (by decide); exact (Bd.lgB k b1 b2).up (by decide); exact (Bd.cc b1 b2).up (by decide)
      refine de_mul ?_
      refine de_name 6 ?_
      refine de_name 8 ?_
      first | refine mul_i ?_ (by walk_at "cmw") | refine mul_l ?_ ⟨by decide, by decide, by first | decide | exact Nat.le_of_ble_eq_true rfl⟩
      exact ⟨_, rfl, rfl, by rw [take_step (fun v => D.int (m9 * v)) hv9] <;> rfl⟩
    obtain ⟨rfl, rfl⟩ := hP
    refine da_nil ?_
    first | refine drc_tuple ?_ | refine drc_tupleO getS_hd ?_
    refine dg_name 7 ?_ sc__law_right.nd
    refine ds_cons ?_
    refine ds_if ?_
    refine dt_ne (hr.units) ?_
    refine de_B (call_repr_data gd hr.units) n_repr bt_repr ?_
    refine da_cons ?_
    refine de_lst ?_
    refine da_cons ?_
    refine de_call c_turn_of gd (hr.mono (by decide)) ?_
    refine da_cons ?_
    refine de_name 7 ?_
    refine da_nil ?_
    refine ⟨_, _, _, _, _, _, _, rfl, ⟨rfl, rfl, rfl⟩, hT, hm9, bm9, ?_⟩
    refine da_cons ?_
    refine de_callN (ks := ["legs"]) c_turn_of gd (hr.mono (by decide)) (by decide) ?_
    refine dk_cons (h := ?_)
    refine de_name 7 ?_
    refine dk_nil ?_
    refine ⟨rfl, ?_⟩
    walk_at "ord"
    refine ⟨_, _, _, _, _, _, _, rfl, ⟨rfl, rfl, rfl⟩, hT, hm9, bm9, ?_⟩
    refine da_nil ?_
    refine ⟨by walk_at "len", ?_⟩
    refine da_nil ?_
    first | refine drc_repr ?_ (by walk_at "flat") (by walk_at "sho") (by walk_at "big") (by walk_at "obj")
    refine de_B (call_repr_data gd hr.units) n_repr bt_repr ?_
    refine da_cons ?_
    refine de_lst ?_
    refine da_cons ?_
    refine de_name 1 ?_
    refine da_cons ?_
    refine de_name 1 ?_
    refine da_nil ?_
    refine ⟨by walk_at "len", ?_⟩
    refine da_nil ?_
    first | refine drc_repr ?_ (by walk_at "flat") (by walk_at "sho") (by walk_at "big") (by walk_at "obj")
    refine eq_strT rfl ?_
    refine ⟨fun ht => ?_, fun ht => ?_⟩
    · exact (nb ht rfl).elim
    refine ds_nil ?_
    refine ds_nil ?_
    exact ⟨(), by walk_at "wk", rfl⟩
  subst hP1
  refine ds_cons ?_
  refine ds_ret ?_
  refine de_bl ?_
  exact qq _ ((by assumption : Src (_ + 2) _).up (by omega))
abbrev s__law_told : Stmt := top 26
theorem sc__law_told : FnScope ["_law_some", "_law_told_here", "e"] ["_law_some"] (defScope s__law_told) := ⟨rfl, rfl, rfl, by decide +kernel, rfl, by decide +kernel, by decide +kernel⟩
set_option maxHeartbeats 40000000 in
theorem ok__law_told {f : Addr} {fd : FuncData} (F : Fun K "_law_told" "_law_told" s__law_told f fd) {C_TooLarge fI_TooLarge : Addr} (l_TooLarge : PySem.LimX.LimTxt P K mg "TooLarge" "TooLarge.__init__" "limit" "greater than " C_TooLarge fI_TooLarge) (m_TooLarge__TooLarge : PySem.W.exmOne K (.ref C_TooLarge) (.ref C_TooLarge) = some true) (r_turn_of : CalX P w K mg base 4 "turn_of" ["legs"] [(0, ["legs"])] (con_turnX C_TooLarge)) : GOk P w K mg base 5 f fd ["_law_some"] (spD K con_told03) := by
  refine gok_ds F sc__law_told (m := 2) rfl (fun ds S0 Q h => ?_) fun cdv A fr s0 H0 E0' gd hr ds S0 Q h => ?_
  · obtain ⟨_, _, _, _, _, _, rfl, _⟩ := h
    rfl
  obtain ⟨a, b, c, p, q, k, rfl, ⟨ea, eb, ec⟩, hT, qq⟩ := h
  subst ea
  subst eb
  subst ec
  have b1 := hT.bp
  have b2 := hT.bq
  refine ds_nrm ?_ (by set_option simprocs false in dsimp only [List.map, List.replicate, List.cons_append, List.nil_append])
  refine ds_cons ?_
  refine ds_asg (h := ?_)
  refine de_non ?_
  refine dg_name 1 ?_ sc__law_told.nd
  refine ds_cons ?_
  refine ds_join (γ := D) (fun d => [some (.tup [.int (lgA p q k), .int (lgB p q k), .int (cc p q)]), some d, none]) (fun d S' => S0 = S' ∧ d = told03 p q k) ?_ ?_
  · refine ds_try rfl rfl (.consA ⟨rfl, by decide, .inl l_TooLarge.gC⟩ sc__law_told.nd (i := 2) rfl rfl .nil) (fun pn8 xe8 => ?_)
    refine dsx_cons ?_
    refine dsx_asg (h := ?_)
    refine dex_call r_turn_of gd (hr.mono (by decide)) ?_
    refine dax_of ?_
    refine da_cons ?_
    refine de_name 0 ?_
    refine da_nil ?_
    refine ⟨_, _, _, p, q, k, 1, rfl, ⟨(Int.one_mul _).symm, (Int.one_mul _).symm, (Int.one_mul _).symm⟩, hT, by decide, by unfold Bd; decide, fun hk1 => ?_, fun hk1 => ?_⟩
    · refine ⟨true, m_TooLarge__TooLarge, fun _ a9 oe9 d9 pn9 hz9 hf9 => ?_, fun z => (nomatch z)⟩
      refine ds_cons ?_
      refine ds_asg (h := ?_)
      refine de_lst ?_
      refine da_cons ?_
      refine de_str ?_
      refine da_cons ?_
      refine de_exf (dv := (.int 1000000000000000)) (xf_of l_TooLarge) l_TooLarge.noN hz9 hf9 ?_
      refine de_name 2 ?_
      refine ⟨rfl, ?_⟩
      refine da_nil ?_
      refine ⟨by walk_at "len", ?_⟩
      refine dg_name 1 ?_ sc__law_told.nd
      refine ds_nil ?_
      exact ⟨_, by walk_at "wk", rfl, (told03_l (by assumption)).symm⟩
    refine dg_name 1 ?_ sc__law_told.nd
    refine dsx_nil ?_
    exact ⟨_, by walk_at "wk", rfl, (told03_s (by assumption)).symm⟩
  rintro _ _ ⟨rfl, rfl⟩
  refine ds_cons ?_
  refine ds_ret ?_
  refine de_name 1 ?_
  exact qq
abbrev s_law : Stmt := top 27
theorem sc_law : FnScope ["_law_script", "_law_k", "_law_entry", "_law_source_here", "_law_most", "_law_q", "_law_more", "_law_a", "_law_b", "_law_c", "_law_p", "_law_told_here"] ["_law_script"] (defScope s_law) := ⟨rfl, rfl, rfl, by decide +kernel, rfl, by decide +kernel, by decide +kernel⟩
set_option maxHeartbeats 40000000 in
theorem ok_law {f : Addr} {fd : FuncData} (F : Fun K "law" "law" s_law f fd) (c__law_common : Cal P w K mg base 1 "_law_common" ["_law_one", "_law_two"] [] con_common) (c__law_draw : Cal P w K mg base 1 "_law_draw" ["_law_source_here", "_law_count"] [] con_draw) (c__law_legs : Cal P w K mg base 1 "_law_legs" ["_law_spin_here"] [] con_llegs) (c__law_right : Cal P w K mg base 6 "_law_right" ["_law_source_here", "_law_spin_here"] [] con_r03) (c__law_source : Cal P w K mg base 1 "_law_source" ["_law_entry", "_law_k"] [] con_source) (c__law_spin : Cal P w K mg base 2 "_law_spin" ["_law_source_here", "_law_most"] [] con_spin) (c__law_swung : Cal P w K mg base 1 "_law_swung" ["_law_dot", "_law_many"] [] con_swung) (c__law_told : Cal P w K mg base 5 "_law_told" ["_law_some"] [] con_told03) (c_legs_of : Cal P w K mg base 5 "legs_of" ["turn"] [(0, ["turn"])] con_legs_of) (c_turn_of : Cal P w K mg base 4 "turn_of" ["legs"] [(0, ["legs"])] con_turn_by) (n_enumerate : mg "enumerate" = none) (n_int : mg "int" = none) (n_len : mg "len" = none) (n_max : mg "max" = none) (n_min : mg "min" = none) : GOk P w K mg base 7 f fd ["_law_script"] (spD K (conLaw 63)) := by
  refine gok_ds F sc_law (m := 11) rfl (fun ds S0 Q h => ?_) fun cdv A fr s0 H0 E0' gd hr ds S0 Q h => ?_
  · obtain ⟨_, _, rfl, _⟩ := h
    rfl
  obtain ⟨ns, hns, rfl, rfl, qq⟩ := h
  refine ds_nrm ?_ (by set_option simprocs false in dsimp only [List.map, List.replicate, List.cons_append, List.nil_append])
  refine ds_cons ?_
  refine ds_forG (γ := Unit) [1, 2, 3, 4, 5, 6, 7, 8, 9, 10] PassesOwn.never rfl ?_
  refine di_enum n_enumerate ?_
  refine da_cons ?_
  refine de_slice ?_
  refine de_add ?_
  refine de_name 0 ?_
  refine de_lst ?_
  refine da_cons ?_
  refine de_int ?_
  refine da_nil ?_
  refine ⟨by walk_at "len", ?_⟩
  first | refine add_int ?_ | refine add_lst ?_ (by walk_at "len") | refine add_tup ?_ (by walk_at "len3") | refine add_scr ?_ (by walk_at "len") | refine (show addP (.str _) (.str _) _ _ from ⟨by decide +kernel, ?_⟩)
  refine do_none ?_
  refine do_some ?_
  refine de_B (call_max2 rfl) n_max bt_max ?_
  refine da_cons ?_
  refine de_int ?_
  refine da_cons ?_
  refine de_B (call_min2 rfl) n_min bt_min ?_
  refine da_cons ?_
  refine de_B call_len_seq n_len bt_len ?_
  refine da_cons ?_
  refine de_name 0 ?_
  refine da_nil ?_
  refine drc_len ?_
  walk_at "lenP"
  refine da_cons ?_
  refine de_int ?_
  refine da_nil ?_
  refine drc_min ?_
  refine da_nil ?_
  refine drc_max ?_
  refine ⟨rfl, _, rfl, ?_⟩
  walk_at "slice"
  refine da_nil ?_
  refine ⟨_, rfl, ?_⟩
  refine ⟨fun _ => [], _, fun _ => (by dsimp only [putU, fgt, List.set]), fun i _ S' => [] = S', (), by walk_at "wk", rfl, fun i1 d1 g1 S1 hi1 hP1 => ?_, fun g1 S1 hP1 => ?_⟩
  · subst hP1
    obtain ⟨hi64, e, rfl⟩ := scr_turn (by refine ⟨?_, ?_⟩ <;> split <;> (try split) <;> omega) hi1
    first | refine dg_tup rfl rfl ?_ | refine dg_tupL rfl rfl ?_ (fun h => pg_lst rfl h)
    refine dgs_cons (h := ?_)
    refine dg_name 1 ?_ sc_law.nd
    refine dgs_cons (h := ?_)
    refine dg_name 2 ?_ sc_law.nd
    refine dgs_nil ?_
    refine ds_cons ?_
    refine ds_asg (h := ?_)
    refine de_call c__law_source gd (hr.mono (by decide)) ?_
    refine da_cons ?_
    refine de_name 2 ?_
    refine da_cons ?_
    refine de_name 1 ?_
    refine da_nil ?_
    refine ⟨_, _, rfl, (by walk_at "rng"), fun p1 l1 hp1 hs1 => ?_⟩
    refine dg_name 3 ?_ sc_law.nd
    refine ds_cons ?_
    refine ds_forG (γ := Unit) [4] PassesOwn.never rfl ?_
    refine di_tup ?_
    refine de_tup ?_
    refine da_cons ?_
    refine de_int ?_
    refine da_cons ?_
    refine de_int ?_
    refine da_cons ?_
    refine de_ix (h := ?_)
    refine de_lst ?_
    refine da_cons ?_
    refine de_int ?_
    refine da_cons ?_
    refine de_pow ?_
    refine de_int ?_
    refine de_int ?_
    refine ⟨_, _, rfl, rfl, (by walk_at "cpw"), ?_⟩
    refine da_nil ?_
    refine ⟨by walk_at "len", ?_⟩
    refine de_T call_int1 n_int bt_int ?_
    refine da_cons ?_
    refine de_ne (hr.units) ?_
    refine de_name 0 ?_
    refine de_lst ?_
    refine da_nil ?_
    refine ⟨by walk_at "len", ?_⟩
    walk_at "eq"
    refine da_nil ?_
    first | refine drc_int ?_ | refine drc_intb ?_
    refine ix_pick (fun d => ∃ m : Int, d = .int m ∧ 1 ≤ m ∧ m ≤ 1000000000000000) (fa_cons ⟨_, rfl, by decide, by decide⟩ (fa_cons ⟨_, rfl, by decide, by decide⟩ fa_nil)) (by split <;> decide) (by split <;> decide) ?_
    rintro _ ⟨mx, rfl, hmx0, hmx1⟩
    refine da_nil ?_
    refine ⟨by walk_at "len", ?_⟩
    refine ⟨_, rfl, ?_⟩
    have hall2 : ∀ d ∈ [D.int 3, D.int 40, D.int mx], ∃ m : Int, d = .int m ∧ 1 ≤ m ∧ m ≤ 1000000000000000 := fa_cons ⟨_, rfl, by decide, by decide⟩ (fa_cons ⟨_, rfl, by decide, by decide⟩ (fa_cons ⟨_, rfl, hmx0, hmx1⟩ fa_nil))
    refine ⟨fun _ => [], _, fun _ => (by dsimp only [putU, fgt, List.set]), fun i _ S' => ∃ l, [(p1, l)] = S' ∧ Src (1000 * i) l, (), by walk_at "wk", ⟨l1, rfl, hs1⟩, fun i2 d2 g2 S2 hi2 hP2 => ?_, fun g2 S2 hP2 => ?_⟩
    · obtain ⟨m, rfl, hm0, hm1⟩ := hall2 d2 (List.mem_of_getElem? hi2)
      obtain ⟨l0, rfl, hs0⟩ := hP2
      have hj3 : i2 < 3 := (List.getElem?_eq_some_iff.mp hi2).1
      refine dg_name 4 ?_ sc_law.nd
      refine ds_cons ?_
      refine ds_if ?_
      refine dt_not ?_
      refine dt_val (h := ?_)
      refine de_call c__law_right gd (hr.mono (by decide)) ?_
      refine da_cons ?_
      refine de_name 3 ?_
      refine da_cons ?_
      refine de_call c__law_spin gd (hr.mono (by decide)) ?_
      refine da_cons ?_
      refine de_name 3 ?_
      refine da_cons ?_
      refine de_name 4 ?_
      refine da_nil ?_
      refine ⟨_, _, _, _, rfl, (by walk_at "gets"), (by assumption), (by walk_at "m"), (by walk_at "pos"), (by walk_at "pos"), fun p3 q3 k3 l3 ht3 hm3 hs3 => ?_⟩
      have bp3 := ht3.bp
      have bq3 := ht3.bq
      have bk3 := tn_b3 ht3
      walk_at "sets"
      refine da_nil ?_
      refine ⟨_, _, _, _, _, _, rfl, (by walk_at "gets"), (by assumption), (by walk_at "m"), (by assumption), fun l2 hs2 => ?_⟩
      walk_at "sets"
      refine ⟨_, rfl, ?_⟩
      refine ⟨fun ht => ?_, fun ht => ?_⟩
      · exact (nb ht rfl).elim
      refine ds_nil ?_
      refine ds_nil ?_
      exact ⟨(), by walk_at "wk", _, rfl, (by assumption : Src (_ + 10) _).up (by omega)⟩
    obtain ⟨l9, rfl, hs9⟩ := hP2
    have hs9 : Src 3000 l9 := hs9
    refine ds_cons ?_
    refine ds_par (i := 5) (j := 6) rfl sc_law.nd rfl rfl (by decide) ?_
    refine da_cons ?_
    refine de_call c__law_draw gd (hr.mono (by decide)) ?_
    refine da_cons ?_
    refine de_name 3 ?_
    refine da_cons ?_
    refine de_pow ?_
    refine de_int ?_
    refine de_int ?_
    refine ⟨_, _, rfl, rfl, (by walk_at "cpw"), ?_⟩
    refine da_nil ?_
    refine ⟨_, _, _, _, rfl, (by walk_at "gets"), (by assumption), (by walk_at "m"), (by walk_at "pos"), (by walk_at "bdu"), fun r4 l4 hr4 hn4 hs4 => ?_⟩
    walk_at "sets"
    refine da_cons ?_
    refine de_call c__law_draw gd (hr.mono (by decide)) ?_
    refine da_cons ?_
    refine de_name 3 ?_
    refine da_cons ?_
    refine de_int ?_
    refine da_nil ?_
    refine ⟨_, _, _, _, rfl, (by walk_at "gets"), (by assumption), (by walk_at "m"), (by walk_at "pos"), (by walk_at "bdu"), fun r5 l5 hr5 hn5 hs5 => ?_⟩
    walk_at "sets"
    refine da_nil ?_
    refine ⟨_, _, rfl, ?_⟩
    refine ds_nrm ?_
    have hmr : 0 ≤ r5 ∧ r5 ≤ 3 := ⟨by assumption, by omega⟩
    have hq15 : 2 * r4 + 1 ≤ (10 : Int) ^ (Int.toNat 15) - 1 := by rw [show (10 : Int) ^ (Int.toNat 14) = 100000000000000 by decide] at hn4; rw [pw15]; omega
    refine ds_cons ?_
    refine ds_whileG (γ := Int) [] PassesOwn.never (fun g => [(5, .int g)]) _ (fun _ => (by dsimp only [putU, fgt, List.set])) (fun g S' => [(p1, l5)] = S' ∧ 0 ≤ g ∧ 2 * g + 1 ≤ (10 : Int) ^ (Int.toNat 15) - 1) (fun g => ((10 : Int) ^ (Int.toNat 15) - g).toNat) r4 (by walk_at "wk") ⟨rfl, by omega, by omega⟩ (fun g S' hP => ?_)
    obtain ⟨rfl, hg0, hg1⟩ := hP
    have bg : Bd 55 g := by have h9 := hg1; rw [pw15] at h9; unfold Bd; omega
    refine dt_gt ?_
    refine de_call c__law_common gd (hr.mono (by decide)) ?_
    refine da_cons ?_
    refine de_pow ?_
    refine de_int ?_
    refine de_int ?_
    refine ⟨_, _, rfl, rfl, (by walk_at "cpw"), ?_⟩
    refine da_cons ?_
    refine de_add ?_
    refine de_mul ?_
    refine de_int ?_
    refine de_name 5 ?_
    first | refine mul_i ?_ (by walk_at "cmw") | refine mul_l ?_ ⟨by decide, by decide, by first | decide | exact Nat.le_of_ble_eq_true rfl⟩
    refine de_int ?_
    first | refine add_int ?_ | refine add_lst ?_ (by walk_at "len") | refine add_tup ?_ (by walk_at "len3") | refine add_scr ?_ (by walk_at "len") | refine (show addP (.str _) (.str _) _ _ from ⟨by decide +kernel, ?_⟩)
    refine da_nil ?_
    refine ⟨_, _, rfl, ?_⟩
    refine de_int ?_
    refine ⟨_, _, rfl, rfl, ?_⟩
    refine ⟨fun ht => ?_, fun ht => ?_⟩
    · refine ds_cons ?_
      refine ds_asg (h := ?_)
      refine de_add ?_
      refine de_name 5 ?_
      refine de_int ?_
      first | refine add_int ?_ | refine add_lst ?_ (by walk_at "len") | refine add_tup ?_ (by walk_at "len3") | refine add_scr ?_ (by walk_at "len") | refine (show addP (.str _) (.str _) _ _ from ⟨by decide +kernel, ?_⟩)
      refine dg_name 5 ?_ sc_law.nd
      refine ds_nil ?_
      have hon := odd_on (by rw [pw15]; decide) (by rw [pw15] <;> decide) hg0 hg1 (of_decide_eq_true ht)
      exact ⟨g + 1, by walk_at "wk", ⟨rfl, by omega, hon⟩, by rw [pw15] at *; omega⟩
    have hTA := tw_mk (k := r5) (by rw [pw15]; decide) (by rw [pw15]; decide) (by rw [pw15] <;> decide) hg0 hg1 (of_decide_eq_false ht) ⟨by assumption, by omega⟩
    have e15 := pw15
    obtain ⟨g0, hg9⟩ : ∃ g0, g0 = g := ⟨_, rfl⟩
    subst hg9
    have hgA := hg0
    have hgB := hg1
    refine ds_cons ?_
    refine ds_asg (h := ?_)
    refine de_call c__law_legs gd (hr.mono (by decide)) ?_
    refine da_cons ?_
    refine de_tup ?_
    refine da_cons ?_
    refine de_pow ?_
    refine de_int ?_
    refine de_int ?_
    refine ⟨_, _, rfl, rfl, (by walk_at "cpw"), ?_⟩
    refine da_cons ?_
    refine de_add ?_
    refine de_mul ?_
    refine de_int ?_
    refine de_name 5 ?_
    first | refine mul_i ?_ (by walk_at "cmw") | refine mul_l ?_ ⟨by decide, by decide, by first | decide | exact Nat.le_of_ble_eq_true rfl⟩
    refine de_int ?_
    first | refine add_int ?_ | refine add_lst ?_ (by walk_at "len") | refine add_tup ?_ (by walk_at "len3") | refine add_scr ?_ (by walk_at "len") | refine (show addP (.str _) (.str _) _ _ from ⟨by decide +kernel, ?_⟩)
    refine da_nil ?_
    refine ⟨by walk_at "len", ?_⟩
    refine da_nil ?_
    refine ⟨_, _, _, rfl, (by walk_at "at"), (by walk_at "at"), ⟨by walk_at "bdu", by walk_at "bdu"⟩, ?_⟩
    first | refine dg_tup rfl rfl ?_ | refine dg_tupL rfl rfl ?_ (fun h => pg_lst rfl h)
    refine dgs_cons (h := ?_)
    refine dg_name 7 ?_ sc_law.nd
    refine dgs_cons (h := ?_)
    refine dg_name 8 ?_ sc_law.nd
    refine dgs_cons (h := ?_)
    refine dg_name 9 ?_ sc_law.nd
    refine dgs_nil ?_
    refine ds_cons ?_
    refine ds_if ?_
    refine dt_ne (hr.units) ?_
    refine de_call c__law_told gd (hr.mono (by decide)) ?_
    refine da_cons ?_
    refine de_add ?_
    refine de_call c__law_swung gd (hr.mono (by decide)) ?_
    refine da_cons ?_
    refine de_tup ?_
    refine da_cons ?_
    refine de_name 7 ?_
    refine da_cons ?_
    refine de_name 8 ?_
    refine da_nil ?_
    refine ⟨by walk_at "len", ?_⟩
    refine da_cons ?_
    refine de_name 6 ?_
    refine da_nil ?_
    refine ⟨_, _, _, rfl, ?_⟩
    refine de_tup ?_
    refine da_cons ?_
    refine de_name 9 ?_
    refine da_nil ?_
    refine ⟨by walk_at "len", ?_⟩
    first | refine add_int ?_ | refine add_lst ?_ (by walk_at "len") | refine add_tup ?_ (by walk_at "len3") | refine add_scr ?_ (by walk_at "len") | refine (show addP (.str _) (.str _) _ _ from ⟨by decide +kernel, ?_⟩)
    refine da_nil ?_
    refine ⟨_, _, _, _, _, _, rfl, ⟨(lg_due hmr).1, (lg_due hmr).2, rfl⟩, (by assumption), ?_⟩
    refine de_tup ?_
    refine da_cons ?_
    refine de_pow ?_
    refine de_int ?_
    refine de_int ?_
    refine ⟨_, _, rfl, rfl, (by walk_at "cpw"), ?_⟩
    refine da_cons ?_
    refine de_add ?_
    refine de_mul ?_
    refine de_int ?_
    refine de_name 5 ?_
    first | refine mul_i ?_ (by walk_at "cmw") | refine mul_l ?_ ⟨by decide, by decide, by first | decide | exact Nat.le_of_ble_eq_true rfl⟩
    refine de_int ?_
    first | refine add_int ?_ | refine add_lst ?_ (by walk_at "len") | refine add_tup ?_ (by walk_at "len3") | refine add_scr ?_ (by walk_at "len") | refine (show addP (.str _) (.str _) _ _ from ⟨by decide +kernel, ?_⟩)
    refine da_cons ?_
    refine de_name 6 ?_
    refine da_nil ?_
    refine ⟨by walk_at "len", ?_⟩
    rw [told03_s (by rw [pw15]; decide)]
    refine eqP_same rfl rfl ?_
    refine ⟨fun ht => ?_, fun ht => ?_⟩
    · exact (nb ht rfl).elim
    refine ds_nil ?_
    refine ds_cons ?_
    refine ds_asg (h := ?_)
    refine de_add ?_
    refine de_add ?_
    refine de_pow ?_
    refine de_int ?_
    refine de_int ?_
    refine ⟨_, _, rfl, rfl, (by walk_at "cpw"), ?_⟩
    refine de_int ?_
    first | refine add_int ?_ | refine add_lst ?_ (by walk_at "len") | refine add_tup ?_ (by walk_at "len3") | refine add_scr ?_ (by walk_at "len") | refine (show addP (.str _) (.str _) _ _ from ⟨by decide +kernel, ?_⟩)
    refine de_mul ?_
    refine de_int ?_
    refine de_call c__law_draw gd (hr.mono (by decide)) ?_
    refine da_cons ?_
    refine de_name 3 ?_
    refine da_cons ?_
    refine de_pow ?_
    refine de_int ?_
    refine de_int ?_
    refine ⟨_, _, rfl, rfl, (by walk_at "cpw"), ?_⟩
    refine da_nil ?_
    refine ⟨_, _, _, _, rfl, (by walk_at "gets"), (by assumption), (by walk_at "m"), (by walk_at "pos"), (by walk_at "bdu"), fun r10 l10 hr10 hn10 hs10 => ?_⟩
    walk_at "sets"
    first | refine mul_i ?_ (by walk_at "cmw") | refine mul_l ?_ ⟨by decide, by decide, by first | decide | exact Nat.le_of_ble_eq_true rfl⟩
    first | refine add_int ?_ | refine add_lst ?_ (by walk_at "len") | refine add_tup ?_ (by walk_at "len3") | refine add_scr ?_ (by walk_at "len") | refine (show addP (.str _) (.str _) _ _ from ⟨by decide +kernel, ?_⟩)
    refine dg_name 10 ?_ sc_law.nd
    have hr10 := hn10
    rw [show (10 : Int) ^ (Int.toNat 6) = 1000000 by decide] at hr10
    obtain ⟨P9, hP9⟩ : ∃ P9, P9 = 10 ^ (Int.toNat 15) + 2 + 2 * r10 := ⟨_, rfl⟩
    rw [← hP9]
    have hP8 : 1000000000000002 ≤ P9 ∧ P9 ≤ 1000002000000000 ∧ P9 % 2 = 0 := by rw [hP9, pw15]; omega
    have bP9 : Bd 50 P9 := by unfold Bd; omega
    have hgP : 2 * g0 + 1 ≤ P9 - 1 := by rw [pw15] at hgB; omega
    refine ds_cons ?_
    refine ds_whileG (γ := Int) [] PassesOwn.never (fun g => [(5, .int g)]) _ (fun _ => (by dsimp only [putU, fgt, List.set])) (fun g S' => [(p1, l10)] = S' ∧ 0 ≤ g ∧ 2 * g + 1 ≤ P9 - 1) (fun g => (P9 - g).toNat) g0 (by walk_at "wk") ⟨rfl, by omega, by omega⟩ (fun g S' hP => ?_)
    obtain ⟨rfl, hg0, hg1⟩ := hP
    have bg : Bd 55 g := by have h9 := hg1; skip; unfold Bd; omega
    refine dt_gt ?_
    refine de_call c__law_common gd (hr.mono (by decide)) ?_
    refine da_cons ?_
    refine de_name 10 ?_
    refine da_cons ?_
    refine de_add ?_
    refine de_mul ?_
    refine de_int ?_
    refine de_name 5 ?_
    first | refine mul_i ?_ (by walk_at "cmw") | refine mul_l ?_ ⟨by decide, by decide, by first | decide | exact Nat.le_of_ble_eq_true rfl⟩
    refine de_int ?_
    first | refine add_int ?_ | refine add_lst ?_ (by walk_at "len") | refine add_tup ?_ (by walk_at "len3") | refine add_scr ?_ (by walk_at "len") | refine (show addP (.str _) (.str _) _ _ from ⟨by decide +kernel, ?_⟩)
    refine da_nil ?_
    refine ⟨_, _, rfl, ?_⟩
    refine de_int ?_
    refine ⟨_, _, rfl, rfl, ?_⟩
    refine ⟨fun ht => ?_, fun ht => ?_⟩
    · refine ds_cons ?_
      refine ds_asg (h := ?_)
      refine de_add ?_
      refine de_name 5 ?_
      refine de_int ?_
      first | refine add_int ?_ | refine add_lst ?_ (by walk_at "len") | refine add_tup ?_ (by walk_at "len3") | refine add_scr ?_ (by walk_at "len") | refine (show addP (.str _) (.str _) _ _ from ⟨by decide +kernel, ?_⟩)
      refine dg_name 5 ?_ sc_law.nd
      refine ds_nil ?_
      have hon := odd_on (by omega) hP8.2.2 hg0 hg1 (of_decide_eq_true ht)
      exact ⟨g + 1, by walk_at "wk", ⟨rfl, by omega, hon⟩, by omega⟩
    have hTB := tw_mk (k := r5) (by omega) (by omega) hP8.2.2 hg0 hg1 (of_decide_eq_false ht) ⟨hmr.1, by omega⟩
    refine ds_cons ?_
    refine ds_asg (h := ?_)
    refine de_call c__law_legs gd (hr.mono (by decide)) ?_
    refine da_cons ?_
    refine de_tup ?_
    refine da_cons ?_
    refine de_name 10 ?_
    refine da_cons ?_
    refine de_add ?_
    refine de_mul ?_
    refine de_int ?_
    refine de_name 5 ?_
    first | refine mul_i ?_ (by walk_at "cmw") | refine mul_l ?_ ⟨by decide, by decide, by first | decide | exact Nat.le_of_ble_eq_true rfl⟩
    refine de_int ?_
    first | refine add_int ?_ | refine add_lst ?_ (by walk_at "len") | refine add_tup ?_ (by walk_at "len3") | refine add_scr ?_ (by walk_at "len") | refine (show addP (.str _) (.str _) _ _ from ⟨by decide +kernel, ?_⟩)
    refine da_nil ?_
    refine ⟨by walk_at "len", ?_⟩
    refine da_nil ?_
    refine ⟨_, _, _, rfl, (by walk_at "at"), (by walk_at "at"), ⟨by walk_at "bdu", by walk_at "bdu"⟩, ?_⟩
    first | refine dg_tup rfl rfl ?_ | refine dg_tupL rfl rfl ?_ (fun h => pg_lst rfl h)
    refine dgs_cons (h := ?_)
    refine dg_name 7 ?_ sc_law.nd
    refine dgs_cons (h := ?_)
    refine dg_name 8 ?_ sc_law.nd
    refine dgs_cons (h := ?_)
    refine dg_name 9 ?_ sc_law.nd
    refine dgs_nil ?_
    refine ds_cons ?_
    refine ds_if ?_
    refine dt_ne (hr.units) ?_
    refine de_call c__law_told gd (hr.mono (by decide)) ?_
    refine da_cons ?_
    refine de_add ?_
    refine de_call c__law_swung gd (hr.mono (by decide)) ?_
    refine da_cons ?_
    refine de_tup ?_
    refine da_cons ?_
    refine de_name 7 ?_
    refine da_cons ?_
    refine de_name 8 ?_
    refine da_nil ?_
    refine ⟨by walk_at "len", ?_⟩
    refine da_cons ?_
    refine de_name 6 ?_
    refine da_nil ?_
    refine ⟨_, _, _, rfl, ?_⟩
    refine de_tup ?_
    refine da_cons ?_
    refine de_name 9 ?_
    refine da_nil ?_
    refine ⟨by walk_at "len", ?_⟩
    first | refine add_int ?_ | refine add_lst ?_ (by walk_at "len") | refine add_tup ?_ (by walk_at "len3") | refine add_scr ?_ (by walk_at "len") | refine (show addP (.str _) (.str _) _ _ from ⟨by decide +kernel, ?_⟩)
    refine da_nil ?_
    refine ⟨_, _, _, _, _, _, rfl, ⟨(lg_due hmr).1, (lg_due hmr).2, rfl⟩, (by assumption), ?_⟩
    refine de_lst ?_
    refine da_cons ?_
    refine de_str ?_
    refine da_cons ?_
    refine de_pow ?_
    refine de_int ?_
    refine de_int ?_
    refine ⟨_, _, rfl, rfl, (by walk_at "cpw"), ?_⟩
    refine da_nil ?_
    refine ⟨by walk_at "len", ?_⟩
    rw [told03_l (by omega)]
    refine eqP_same (by rw [pw15]) (by decide +kernel) ?_
    refine ⟨fun ht => ?_, fun ht => ?_⟩
    · exact (nb ht rfl).elim
    refine ds_nil ?_
    refine ds_forget ?_ rfl
    refine ds_nil ?_
    exact ⟨(), by walk_at "wk", rfl⟩
  subst hP1
  refine ds_cons ?_
  refine ds_asg (h := ?_)
  refine de_lst ?_
  refine da_cons ?_
  refine de_call c_turn_of gd (hr.mono (by decide)) ?_
  refine da_cons ?_
  refine de_tup ?_
  refine da_cons ?_
  refine de_neg ?_
  refine de_int ?_
  refine ⟨_, rfl, ?_⟩
  refine da_cons ?_
  refine de_int ?_
  refine da_cons ?_
  refine de_int ?_
  refine da_nil ?_
  refine ⟨by walk_at "len", ?_⟩
  refine da_nil ?_
  first | refine ⟨_, _, _, 2, 1, 1, 2, rfl, ⟨by unfold lgA; rfl, by unfold lgB; rfl, rfl⟩, ⟨by decide, by decide, by decide, by decide, by decide, by decide, by decide, by decide⟩, by decide, by unfold Bd; decide, ?_⟩ | refine ⟨_, _, _, 1, 0, 3, 7, rfl, ⟨by unfold lgA; rfl, by unfold lgB; rfl, rfl⟩, ⟨by decide, by decide, by decide, by decide, by decide, by decide, by decide, by decide⟩, by decide, by unfold Bd; decide, ?_⟩ | refine ⟨_, _, _, 1, 0, 0, 5, rfl, ⟨by unfold lgA; rfl, by unfold lgB; rfl, rfl⟩, ⟨by decide, by decide, by decide, by decide, by decide, by decide, by decide, by decide⟩, by decide, by unfold Bd; decide, ?_⟩
  refine da_cons ?_
  refine de_call c_turn_of gd (hr.mono (by decide)) ?_
  refine da_cons ?_
  refine de_tup ?_
  refine da_cons ?_
  refine de_int ?_
  refine da_cons ?_
  refine de_neg ?_
  refine de_int ?_
  refine ⟨_, rfl, ?_⟩
  refine da_cons ?_
  refine de_int ?_
  refine da_nil ?_
  refine ⟨by walk_at "len", ?_⟩
  refine da_nil ?_
  first | refine ⟨_, _, _, 2, 1, 1, 2, rfl, ⟨by unfold lgA; rfl, by unfold lgB; rfl, rfl⟩, ⟨by decide, by decide, by decide, by decide, by decide, by decide, by decide, by decide⟩, by decide, by unfold Bd; decide, ?_⟩ | refine ⟨_, _, _, 1, 0, 3, 7, rfl, ⟨by unfold lgA; rfl, by unfold lgB; rfl, rfl⟩, ⟨by decide, by decide, by decide, by decide, by decide, by decide, by decide, by decide⟩, by decide, by unfold Bd; decide, ?_⟩ | refine ⟨_, _, _, 1, 0, 0, 5, rfl, ⟨by unfold lgA; rfl, by unfold lgB; rfl, rfl⟩, ⟨by decide, by decide, by decide, by decide, by decide, by decide, by decide, by decide⟩, by decide, by unfold Bd; decide, ?_⟩
  refine da_cons ?_
  refine de_call c_turn_of gd (hr.mono (by decide)) ?_
  refine da_cons ?_
  refine de_tup ?_
  refine da_cons ?_
  refine de_int ?_
  refine da_cons ?_
  refine de_int ?_
  refine da_cons ?_
  refine de_int ?_
  refine da_nil ?_
  refine ⟨by walk_at "len", ?_⟩
  refine da_nil ?_
  first | refine ⟨_, _, _, 2, 1, 1, 2, rfl, ⟨by unfold lgA; rfl, by unfold lgB; rfl, rfl⟩, ⟨by decide, by decide, by decide, by decide, by decide, by decide, by decide, by decide⟩, by decide, by unfold Bd; decide, ?_⟩ | refine ⟨_, _, _, 1, 0, 3, 7, rfl, ⟨by unfold lgA; rfl, by unfold lgB; rfl, rfl⟩, ⟨by decide, by decide, by decide, by decide, by decide, by decide, by decide, by decide⟩, by decide, by unfold Bd; decide, ?_⟩ | refine ⟨_, _, _, 1, 0, 0, 5, rfl, ⟨by unfold lgA; rfl, by unfold lgB; rfl, rfl⟩, ⟨by decide, by decide, by decide, by decide, by decide, by decide, by decide, by decide⟩, by decide, by unfold Bd; decide, ?_⟩
  refine da_cons ?_
  refine de_call c_legs_of gd (hr.mono (by decide)) ?_
  refine da_cons ?_
  refine de_tup ?_
  refine da_cons ?_
  refine de_int ?_
  refine da_cons ?_
  refine de_int ?_
  refine da_cons ?_
  refine de_int ?_
  refine da_nil ?_
  refine ⟨by walk_at "len", ?_⟩
  refine da_nil ?_
  refine ⟨_, _, _, rfl, by walk_at "tn", ?_⟩
  refine da_cons ?_
  refine de_call c_legs_of gd (hr.mono (by decide)) ?_
  refine da_cons ?_
  refine de_tup ?_
  refine da_cons ?_
  refine de_int ?_
  refine da_cons ?_
  refine de_int ?_
  refine da_cons ?_
  refine de_int ?_
  refine da_nil ?_
  refine ⟨by walk_at "len", ?_⟩
  refine da_nil ?_
  refine ⟨_, _, _, rfl, by walk_at "tn", ?_⟩
  refine da_nil ?_
  refine ⟨by walk_at "len", ?_⟩
  refine dg_name 11 ?_ sc_law.nd
  refine ds_cons ?_
  refine ds_ret ?_
  refine de_eq (hr.units) ?_
  refine de_name 11 ?_
  refine de_lst ?_
  refine da_cons ?_
  refine de_tup ?_
  refine da_cons ?_
  refine de_int ?_
  refine da_cons ?_
  refine de_int ?_
  refine da_cons ?_
  refine de_int ?_
  refine da_nil ?_
  refine ⟨by walk_at "len", ?_⟩
  refine da_cons ?_
  refine de_tup ?_
  refine da_cons ?_
  refine de_int ?_
  refine da_cons ?_
  refine de_int ?_
  refine da_cons ?_
  refine de_int ?_
  refine da_nil ?_
  refine ⟨by walk_at "len", ?_⟩
  refine da_cons ?_
  refine de_tup ?_
  refine da_cons ?_
  refine de_int ?_
  refine da_cons ?_
  refine de_int ?_
  refine da_cons ?_
  refine de_int ?_
  refine da_nil ?_
  refine ⟨by walk_at "len", ?_⟩
  refine da_cons ?_
  refine de_tup ?_
  refine da_cons ?_
  refine de_int ?_
  refine da_cons ?_
  refine de_int ?_
  refine da_cons ?_
  refine de_int ?_
  refine da_nil ?_
  refine ⟨by walk_at "len", ?_⟩
  refine da_cons ?_
  refine de_tup ?_
  refine da_cons ?_
  refine de_neg ?_
  refine de_int ?_
  refine ⟨_, rfl, ?_⟩
  refine da_cons ?_
  refine de_int ?_
  refine da_cons ?_
  refine de_int ?_
  refine da_nil ?_
  refine ⟨by walk_at "len", ?_⟩
  refine da_nil ?_
  refine ⟨by walk_at "len", ?_⟩
  refine eqP_same fin03 rfl ?_
  exact qq
end
theorem all_mk {l : PySem.W.OpenLaw} {w : World} {K : PySem.W.Frag} {h : Heap} {mg : Str → Option Value} {fa f0 f1 f2 f3 f4 f5 f6 f7 f8 f9 f10 f11 f12 f13 f14 f15 f16 f17 : Addr} (X : K.In h) (G : h.Ns mainGlobals mg) (hfa : mg "law" = some (.ref fa))
    {od0 an0 od1 an1 od2 an2 od3 an3 od4 an4 od5 an5 od6 an6 od7 an7 od8 an8 od9 an9 od10 an10 od11 an11 od12 an12 od13 an13 od14 an14 od15 an15 od16 an16 od17 an17 : Option Addr} {sl0 sl1 sl2 sl3 sl4 sl5 sl6 sl7 sl8 sl9 sl10 sl11 sl12 sl13 sl14 sl15 sl16 sl17 : Array (Option Value)} {oc0 kV0 dc0 pm0 cd0 ct0 oc1 kV1 dc1 pm1 cd1 ct1 oc2 kV2 dc2 pm2 cd2 ct2 oc3 kV3 dc3 pm3 cd3 ct3 oc4 kV4 dc4 pm4 cd4 ct4 oc5 kV5 dc5 pm5 cd5 ct5 oc6 kV6 dc6 pm6 cd6 ct6 oc7 kV7 dc7 pm7 cd7 ct7 oc8 kV8 dc8 pm8 cd8 ct8 oc9 kV9 dc9 pm9 cd9 ct9 oc10 kV10 dc10 pm10 cd10 ct10 oc11 kV11 dc11 pm11 cd11 ct11 oc12 kV12 dc12 pm12 cd12 ct12 oc13 kV13 dc13 pm13 cd13 ct13 oc14 kV14 dc14 pm14 cd14 ct14 oc15 kV15 dc15 pm15 cd15 ct15 oc16 kV16 dc16 pm16 cd16 ct16 oc17 kV17 dc17 pm17 cd17 ct17 : Value}
    {C_TooLarge fI_TooLarge cc_TooLarge cda_TooLarge N_TooLarge : Addr} {nm_TooLarge q_TooLarge file_TooLarge : Str} {bs_TooLarge bm_TooLarge sub_TooLarge : List Value} {sn_TooLarge : List Str} {ab_TooLarge : Bool} {col_TooLarge : Option Bool} {dd_TooLarge : Option Addr} {k0_TooLarge k1_TooLarge k2_TooLarge k3_TooLarge k5_TooLarge : Option Value}
    {oc_TooLarge kV_TooLarge doc_TooLarge pm_TooLarge ct_TooLarge cl_TooLarge ccl_TooLarge : Value} {od_TooLarge an_TooLarge cld_TooLarge cdd_TooLarge : Option Addr} {osl_TooLarge csl_TooLarge ccs_TooLarge : Array (Option Value)} {vs_TooLarge : Array Value} {tf_TooLarge : Tok}
    {p1_TooLarge p2_TooLarge q1_TooLarge q2_TooLarge q3_TooLarge q4_TooLarge q5_TooLarge q6_TooLarge q7_TooLarge q8_TooLarge q9_TooLarge r1_TooLarge r2_TooLarge r3_TooLarge r4_TooLarge : Pos}
    (a0 : PySem.W.nsIn K mainGlobals "is_whole" = some (some (.ref f0))) (l0 : K.lookup f0 = some ⟨oc0, od0, .func (PySem.W.fnOf "is_whole" "is_whole" (defArgs s_is_whole) (defBody s_is_whole) (defScope s_is_whole) .none kV0 dc0 pm0 an0 cd0 ct0), sl0⟩) (c0 : PySem.W.codeIn K cd0 "is_whole" = true) (k0 : PySem.W.keepIn K (.ref f0) = true)
    (a1 : PySem.W.nsIn K mainGlobals "is_whole_tuple" = some (some (.ref f1))) (l1 : K.lookup f1 = some ⟨oc1, od1, .func (PySem.W.fnOf "is_whole_tuple" "is_whole_tuple" (defArgs s_is_whole_tuple) (defBody s_is_whole_tuple) (defScope s_is_whole_tuple) .none kV1 dc1 pm1 an1 cd1 ct1), sl1⟩) (c1 : PySem.W.codeIn K cd1 "is_whole_tuple" = true) (k1 : PySem.W.keepIn K (.ref f1) = true)
    (a2 : PySem.W.nsIn K mainGlobals "times" = some (some (.ref f2))) (l2 : K.lookup f2 = some ⟨oc2, od2, .func (PySem.W.fnOf "times" "times" (defArgs s_times) (defBody s_times) (defScope s_times) .none kV2 dc2 pm2 an2 cd2 ct2), sl2⟩) (c2 : PySem.W.codeIn K cd2 "times" = true) (k2 : PySem.W.keepIn K (.ref f2) = true)
    (a3 : PySem.W.nsIn K mainGlobals "is_turn" = some (some (.ref f3))) (l3 : K.lookup f3 = some ⟨oc3, od3, .func (PySem.W.fnOf "is_turn" "is_turn" (defArgs s_is_turn) (defBody s_is_turn) (defScope s_is_turn) .none kV3 dc3 pm3 an3 cd3 ct3), sl3⟩) (c3 : PySem.W.codeIn K cd3 "is_turn" = true) (k3 : PySem.W.keepIn K (.ref f3) = true)
    (a4 : PySem.W.nsIn K mainGlobals "check_turn" = some (some (.ref f4))) (l4 : K.lookup f4 = some ⟨oc4, od4, .func (PySem.W.fnOf "check_turn" "check_turn" (defArgs s_check_turn) (defBody s_check_turn) (defScope s_check_turn) .none kV4 dc4 pm4 an4 cd4 ct4), sl4⟩) (c4 : PySem.W.codeIn K cd4 "check_turn" = true) (k4 : PySem.W.keepIn K (.ref f4) = true)
    (a5 : PySem.W.nsIn K mainGlobals "legs_of" = some (some (.ref f5))) (l5 : K.lookup f5 = some ⟨oc5, od5, .func (PySem.W.fnOf "legs_of" "legs_of" (defArgs s_legs_of) (defBody s_legs_of) (defScope s_legs_of) .none kV5 dc5 pm5 an5 cd5 ct5), sl5⟩) (c5 : PySem.W.codeIn K cd5 "legs_of" = true) (k5 : PySem.W.keepIn K (.ref f5) = true)
    (a6 : PySem.W.nsIn K mainGlobals "_law_source" = some (some (.ref f6))) (l6 : K.lookup f6 = some ⟨oc6, od6, .func (PySem.W.fnOf "_law_source" "_law_source" (defArgs s__law_source) (defBody s__law_source) (defScope s__law_source) .none kV6 dc6 pm6 an6 cd6 ct6), sl6⟩) (c6 : PySem.W.codeIn K cd6 "_law_source" = true) (k6 : PySem.W.keepIn K (.ref f6) = true)
    (a7 : PySem.W.nsIn K mainGlobals "_law_draw" = some (some (.ref f7))) (l7 : K.lookup f7 = some ⟨oc7, od7, .func (PySem.W.fnOf "_law_draw" "_law_draw" (defArgs s__law_draw) (defBody s__law_draw) (defScope s__law_draw) .none kV7 dc7 pm7 an7 cd7 ct7), sl7⟩) (c7 : PySem.W.codeIn K cd7 "_law_draw" = true) (k7 : PySem.W.keepIn K (.ref f7) = true)
    (a8 : PySem.W.nsIn K mainGlobals "_law_common" = some (some (.ref f8))) (l8 : K.lookup f8 = some ⟨oc8, od8, .func (PySem.W.fnOf "_law_common" "_law_common" (defArgs s__law_common) (defBody s__law_common) (defScope s__law_common) .none kV8 dc8 pm8 an8 cd8 ct8), sl8⟩) (c8 : PySem.W.codeIn K cd8 "_law_common" = true) (k8 : PySem.W.keepIn K (.ref f8) = true)
    (a9 : PySem.W.nsIn K mainGlobals "_law_spin" = some (some (.ref f9))) (l9 : K.lookup f9 = some ⟨oc9, od9, .func (PySem.W.fnOf "_law_spin" "_law_spin" (defArgs s__law_spin) (defBody s__law_spin) (defScope s__law_spin) .none kV9 dc9 pm9 an9 cd9 ct9), sl9⟩) (c9 : PySem.W.codeIn K cd9 "_law_spin" = true) (k9 : PySem.W.keepIn K (.ref f9) = true)
    (a10 : PySem.W.nsIn K mainGlobals "_law_swung" = some (some (.ref f10))) (l10 : K.lookup f10 = some ⟨oc10, od10, .func (PySem.W.fnOf "_law_swung" "_law_swung" (defArgs s__law_swung) (defBody s__law_swung) (defScope s__law_swung) .none kV10 dc10 pm10 an10 cd10 ct10), sl10⟩) (c10 : PySem.W.codeIn K cd10 "_law_swung" = true) (k10 : PySem.W.keepIn K (.ref f10) = true)
    (a11 : PySem.W.nsIn K mainGlobals "_law_legs" = some (some (.ref f11))) (l11 : K.lookup f11 = some ⟨oc11, od11, .func (PySem.W.fnOf "_law_legs" "_law_legs" (defArgs s__law_legs) (defBody s__law_legs) (defScope s__law_legs) .none kV11 dc11 pm11 an11 cd11 ct11), sl11⟩) (c11 : PySem.W.codeIn K cd11 "_law_legs" = true) (k11 : PySem.W.keepIn K (.ref f11) = true)
    (a12 : PySem.W.nsIn K mainGlobals "_is_legs" = some (some (.ref f12))) (l12 : K.lookup f12 = some ⟨oc12, od12, .func (PySem.W.fnOf "_is_legs" "_is_legs" (defArgs s__is_legs) (defBody s__is_legs) (defScope s__is_legs) .none kV12 dc12 pm12 an12 cd12 ct12), sl12⟩) (c12 : PySem.W.codeIn K cd12 "_is_legs" = true) (k12 : PySem.W.keepIn K (.ref f12) = true)
    (a13 : PySem.W.nsIn K mainGlobals "turn_by" = some (some (.ref f13))) (l13 : K.lookup f13 = some ⟨oc13, od13, .func (PySem.W.fnOf "turn_by" "turn_by" (defArgs s_turn_by) (defBody s_turn_by) (defScope s_turn_by) .none kV13 dc13 pm13 an13 cd13 ct13), sl13⟩) (c13 : PySem.W.codeIn K cd13 "turn_by" = true) (k13 : PySem.W.keepIn K (.ref f13) = true)
    (a14 : PySem.W.nsIn K mainGlobals "turn_of" = some (some (.ref f14))) (l14 : K.lookup f14 = some ⟨oc14, od14, .func (PySem.W.fnOf "turn_of" "turn_of" (defArgs s_turn_of) (defBody s_turn_of) (defScope s_turn_of) .none kV14 dc14 pm14 an14 cd14 ct14), sl14⟩) (c14 : PySem.W.codeIn K cd14 "turn_of" = true) (k14 : PySem.W.keepIn K (.ref f14) = true)
    (a15 : PySem.W.nsIn K mainGlobals "_law_right" = some (some (.ref f15))) (l15 : K.lookup f15 = some ⟨oc15, od15, .func (PySem.W.fnOf "_law_right" "_law_right" (defArgs s__law_right) (defBody s__law_right) (defScope s__law_right) .none kV15 dc15 pm15 an15 cd15 ct15), sl15⟩) (c15 : PySem.W.codeIn K cd15 "_law_right" = true) (k15 : PySem.W.keepIn K (.ref f15) = true)
    (a16 : PySem.W.nsIn K mainGlobals "_law_told" = some (some (.ref f16))) (l16 : K.lookup f16 = some ⟨oc16, od16, .func (PySem.W.fnOf "_law_told" "_law_told" (defArgs s__law_told) (defBody s__law_told) (defScope s__law_told) .none kV16 dc16 pm16 an16 cd16 ct16), sl16⟩) (c16 : PySem.W.codeIn K cd16 "_law_told" = true) (k16 : PySem.W.keepIn K (.ref f16) = true)
    (a17 : PySem.W.nsIn K mainGlobals "law" = some (some (.ref f17))) (l17 : K.lookup f17 = some ⟨oc17, od17, .func (PySem.W.fnOf "law" "law" (defArgs s_law) (defBody s_law) (defScope s_law) .none kV17 dc17 pm17 an17 cd17 ct17), sl17⟩) (c17 : PySem.W.codeIn K cd17 "law" = true) (k17 : PySem.W.keepIn K (.ref f17) = true)
    (z_abs : PySem.W.nsIn K mainGlobals "abs" = some none)
    (z_all : PySem.W.nsIn K mainGlobals "all" = some none)
    (z_bool : PySem.W.nsIn K mainGlobals "bool" = some none)
    (z_enumerate : PySem.W.nsIn K mainGlobals "enumerate" = some none)
    (z_int : PySem.W.nsIn K mainGlobals "int" = some none)
    (z_isinstance : PySem.W.nsIn K mainGlobals "isinstance" = some none)
    (z_len : PySem.W.nsIn K mainGlobals "len" = some none)
    (z_max : PySem.W.nsIn K mainGlobals "max" = some none)
    (z_min : PySem.W.nsIn K mainGlobals "min" = some none)
    (z_range : PySem.W.nsIn K mainGlobals "range" = some none)
    (z_repr : PySem.W.nsIn K mainGlobals "repr" = some none)
    (z_tuple : PySem.W.nsIn K mainGlobals "tuple" = some none)
    (y_gcd : PySem.W.nsIn K mainGlobals "gcd" = some (some (.builtin "math.gcd")))
    (y_isqrt : PySem.W.nsIn K mainGlobals "isqrt" = some (some (.builtin "math.isqrt")))
    (x_GREATEST_P : ∃ u, mg "GREATEST_P" = some (.int (1000000000000000) u))
    (eA_TooLarge : PySem.W.nsIn K mainGlobals "TooLarge" = some (some (.ref C_TooLarge)))
    (eL_TooLarge : K.lookup C_TooLarge = some (excClassObj nm_TooLarge q_TooLarge C_TooLarge N_TooLarge bs_TooLarge bm_TooLarge true sn_TooLarge sub_TooLarge ab_TooLarge col_TooLarge dd_TooLarge k0_TooLarge k1_TooLarge k2_TooLarge k3_TooLarge k5_TooLarge "ValueError.__new__"))
    (eR_TooLarge : PySem.HandSPX.refsVE bm_TooLarge = true)
    (eS_TooLarge : PySem.W.findIn K (.ref C_TooLarge) "__setattr__" = some (some (.builtin "object.__setattr__")))
    (eG_TooLarge : PySem.W.findIn K (.ref C_TooLarge) "__getattribute__" = some (some (.builtin "BaseException.__getattribute__")))
    (eH_TooLarge : PySem.W.findIn K (.ref C_TooLarge) "__getattr__" = some none)
    (eF_TooLarge : PySem.W.findIn K (.ref C_TooLarge) "limit" = some none)
    (eI_TooLarge : PySem.W.findIn K (.ref C_TooLarge) "__init__" = some (some (.ref fI_TooLarge)))
    (eJ_TooLarge : PySem.W.typeIn K (.ref fI_TooLarge) = some (.type "function"))
    (eK_TooLarge : PySem.W.keepIn K (.ref C_TooLarge) = true)
    (eX_TooLarge : PySem.W.subIn K (.ref C_TooLarge) (.type "BaseException") = some true)
    (eV_TooLarge : PySem.W.subIn K (.ref C_TooLarge) (.type "ValueError") = some true)
    (eT_TooLarge : PySem.W.typeIn K (.ref C_TooLarge) = some (.type "type"))
    (eD_TooLarge : PySem.W.hasDictIn K C_TooLarge = true)
    (eM_TooLarge : K.lookup fI_TooLarge = some ⟨oc_TooLarge, od_TooLarge, .func (PySem.W.ksFn "__init__" "TooLarge.__init__" (PySem.LimX.iA "limit" p1_TooLarge p2_TooLarge) (PySem.LimX.iB "limit" "greater than " q1_TooLarge q2_TooLarge q3_TooLarge q4_TooLarge q5_TooLarge q6_TooLarge q7_TooLarge q8_TooLarge q9_TooLarge r1_TooLarge r2_TooLarge r3_TooLarge r4_TooLarge) (PySem.LimX.iS "limit") .none kV_TooLarge doc_TooLarge pm_TooLarge an_TooLarge (.ref cda_TooLarge) ct_TooLarge cc_TooLarge), osl_TooLarge⟩)
    (eN_TooLarge : PySem.W.codeIn K (.ref cda_TooLarge) "TooLarge.__init__" = true)
    (eO_TooLarge : K.lookup cc_TooLarge = some ⟨cl_TooLarge, cld_TooLarge, .cell (some (.ref C_TooLarge)), csl_TooLarge⟩)
    (eP_TooLarge : K.lookup cda_TooLarge = some ⟨ccl_TooLarge, cdd_TooLarge, .fields vs_TooLarge, ccs_TooLarge⟩)
    (eU_TooLarge : vs_TooLarge[2]? = some (.str file_TooLarge tf_TooLarge))
    (eW_TooLarge : ((l.prog.main.file : Str) == file_TooLarge) = true)
    (eY_TooLarge : (q3_TooLarge.endLine == q8_TooLarge.line) = true)
    (eZ_TooLarge : PySem.W.ks_superIn K C_TooLarge C_TooLarge "__init__" = some (some (.builtin "ValueError.__init__")))
    (e_any : PySem.W.nsIn K cStatics "thirdparty.any" = some none)
    (e_super : PySem.W.nsIn K mainGlobals "super" = some none)
    (e_top : (l.prog.main.scope.names.lookup ("super" : Str)).isSome = false)
    (eC_TooLarge : PySem.W.isClsIn K C_TooLarge = true)
    (w_TooLarge__TooLarge : PySem.W.subIn K (.ref C_TooLarge) (.ref C_TooLarge) = some true)
    : ∃ fd : FuncData, (∀ (s : Shared) (v : Value), BindsTo s fd ⟨[v], []⟩ [("_law_script", v)]) ∧ ∀ base : Heap, K.In base → base.Ns mainGlobals mg → GOk l.prog w K mg base 7 fa fd ["_law_script"] (spD K (conLaw 63)) := by
  have e := hfa.symm.trans (PySem.W.mg_of X G a17)
  cases e
  have F0 := fun_mk (st := s_is_whole) l0 c0 k0
  have F1 := fun_mk (st := s_is_whole_tuple) l1 c1 k1
  have F2 := fun_mk (st := s_times) l2 c2 k2
  have F3 := fun_mk (st := s_is_turn) l3 c3 k3
  have F4 := fun_mk (st := s_check_turn) l4 c4 k4
  have F5 := fun_mk (st := s_legs_of) l5 c5 k5
  have F6 := fun_mk (st := s__law_source) l6 c6 k6
  have F7 := fun_mk (st := s__law_draw) l7 c7 k7
  have F8 := fun_mk (st := s__law_common) l8 c8 k8
  have F9 := fun_mk (st := s__law_spin) l9 c9 k9
  have F10 := fun_mk (st := s__law_swung) l10 c10 k10
  have F11 := fun_mk (st := s__law_legs) l11 c11 k11
  have F12 := fun_mk (st := s__is_legs) l12 c12 k12
  have F13 := fun_mk (st := s_turn_by) l13 c13 k13
  have F14 := fun_mk (st := s_turn_of) l14 c14 k14
  have F15 := fun_mk (st := s__law_right) l15 c15 k15
  have F16 := fun_mk (st := s__law_told) l16 c16 k16
  have F17 := fun_mk (st := s_law) l17 c17 k17
  have n_abs := PySem.W.mg_none_of X G z_abs
  have n_all := PySem.W.mg_none_of X G z_all
  have n_bool := PySem.W.mg_none_of X G z_bool
  have n_enumerate := PySem.W.mg_none_of X G z_enumerate
  have n_int := PySem.W.mg_none_of X G z_int
  have n_isinstance := PySem.W.mg_none_of X G z_isinstance
  have n_len := PySem.W.mg_none_of X G z_len
  have n_max := PySem.W.mg_none_of X G z_max
  have n_min := PySem.W.mg_none_of X G z_min
  have n_range := PySem.W.mg_none_of X G z_range
  have n_repr := PySem.W.mg_none_of X G z_repr
  have n_tuple := PySem.W.mg_none_of X G z_tuple
  have b_gcd := PySem.W.mg_of X G y_gcd
  have b_isqrt := PySem.W.mg_of X G y_isqrt
  have g_GREATEST_P := x_GREATEST_P
  have l_TooLarge : PySem.LimX.LimTxt l.prog K mg "TooLarge" "TooLarge.__init__" "limit" "greater than " C_TooLarge fI_TooLarge := { gC := PySem.W.mg_of X G eA_TooLarge, cls := ⟨_, _, _, _, _, _, _, _, _, _, _, _, _, _, _, eL_TooLarge, eR_TooLarge⟩, sa := eS_TooLarge, ga := eG_TooLarge, gg := eH_TooLarge, noN := eF_TooLarge, iC := eI_TooLarge, tC := eJ_TooLarge, kC := eK_TooLarge, exC := eX_TooLarge, veC := eV_TooLarge, tyC := eT_TooLarge, hdC := eD_TooLarge, sup := eZ_TooLarge, any := e_any, sG := PySem.W.mg_none_of X G e_super, top := e_top, fn := ⟨oc_TooLarge, od_TooLarge, kV_TooLarge, doc_TooLarge, pm_TooLarge, an_TooLarge, ct_TooLarge, osl_TooLarge, cc_TooLarge, cda_TooLarge, p1_TooLarge, p2_TooLarge, q1_TooLarge, q2_TooLarge, q3_TooLarge, q4_TooLarge, q5_TooLarge, q6_TooLarge, q7_TooLarge, q8_TooLarge, q9_TooLarge, r1_TooLarge, r2_TooLarge, r3_TooLarge, r4_TooLarge, cl_TooLarge, cld_TooLarge, csl_TooLarge, ccl_TooLarge, cdd_TooLarge, ccs_TooLarge, vs_TooLarge, file_TooLarge, tf_TooLarge, eM_TooLarge, eN_TooLarge, eO_TooLarge, eP_TooLarge, eU_TooLarge, eW_TooLarge, eY_TooLarge⟩ }
  have m_TooLarge__TooLarge := exm_two eX_TooLarge eC_TooLarge eT_TooLarge w_TooLarge__TooLarge
  refine ⟨PySem.W.fnOf "law" "law" (defArgs s_law) (defBody s_law) (defScope s_law) .none kV17 dc17 pm17 an17 cd17 ct17, fun s v => .of_eq rfl, fun base _ _ => ?_⟩
  have c_is_whole := cal_of (kws := []) F0 (ok_is_whole (P := l.prog) (w := w) (base := base) F0 n_bool n_int n_isinstance) (PySem.W.mg_of X G a0) (bargs_of F0 fun _ _ _ _ _ _ us hl => match us, hl with | [_], _ => rfl) (fun _ h => nomatch h)
  have c_is_whole_tuple := cal_of (kws := []) F1 (ok_is_whole_tuple (P := l.prog) (w := w) (base := base) F1 c_is_whole n_all n_isinstance n_len n_tuple) (PySem.W.mg_of X G a1) (bargs_of F1 fun _ _ _ _ _ _ us hl => match us, hl with | [_, _], _ => rfl) (fun _ h => nomatch h)
  have c_times := cal_of (kws := []) F2 (ok_times (P := l.prog) (w := w) (base := base) F2 ) (PySem.W.mg_of X G a2) (bargs_of F2 fun _ _ _ _ _ _ us hl => match us, hl with | [_, _], _ => rfl) (fun _ h => nomatch h)
  have c_is_turn := cal_of (kws := []) F3 (ok_is_turn (P := l.prog) (w := w) (base := base) F3 b_gcd c_is_whole_tuple g_GREATEST_P n_abs) (PySem.W.mg_of X G a3) (bargs_of F3 fun _ _ _ _ _ _ us hl => match us, hl with | [_], _ => rfl) (fun _ h => nomatch h)
  have c_check_turn := cal_of (kws := []) F4 (ok_check_turn (P := l.prog) (w := w) (base := base) F4 c_is_turn) (PySem.W.mg_of X G a4) (bargs_of F4 fun _ _ _ _ _ _ us hl => match us, hl with | [_], _ => rfl) (fun _ h => nomatch h)
  have c_legs_of := cal_of (kws := [(0, ["turn"])]) F5 (ok_legs_of (P := l.prog) (w := w) (base := base) F5 c_check_turn c_times n_range) (PySem.W.mg_of X G a5) (bargs_of F5 fun _ _ _ _ _ _ us hl => match us, hl with | [_], _ => rfl) (kws_cons (kw_of F5 rfl (by decide) fun _ _ _ _ _ _ us ws h1 h2 => match us, ws, h1, h2 with | [], [_], _, _ => rfl) (fun _ h => nomatch h))
  have c__law_source := cal_of (kws := []) F6 (ok__law_source (P := l.prog) (w := w) (base := base) F6 n_abs n_int n_max) (PySem.W.mg_of X G a6) (bargs_of F6 fun _ _ _ _ _ _ us hl => match us, hl with | [_, _], _ => rfl) (fun _ h => nomatch h)
  have c__law_draw := cal_of (kws := []) F7 (ok__law_draw (P := l.prog) (w := w) (base := base) F7 n_int) (PySem.W.mg_of X G a7) (bargs_of F7 fun _ _ _ _ _ _ us hl => match us, hl with | [_, _], _ => rfl) (fun _ h => nomatch h)
  have c__law_common := cal_of (kws := []) F8 (ok__law_common (P := l.prog) (w := w) (base := base) F8 n_abs n_int) (PySem.W.mg_of X G a8) (bargs_of F8 fun _ _ _ _ _ _ us hl => match us, hl with | [_, _], _ => rfl) (fun _ h => nomatch h)
  have c__law_spin := cal_of (kws := []) F9 (ok__law_spin (P := l.prog) (w := w) (base := base) F9 c__law_common c__law_draw n_int n_max n_min) (PySem.W.mg_of X G a9) (bargs_of F9 fun _ _ _ _ _ _ us hl => match us, hl with | [_, _], _ => rfl) (fun _ h => nomatch h)
  have c__law_swung := cal_of (kws := []) F10 (ok__law_swung (P := l.prog) (w := w) (base := base) F10 n_int n_range) (PySem.W.mg_of X G a10) (bargs_of F10 fun _ _ _ _ _ _ us hl => match us, hl with | [_, _], _ => rfl) (fun _ h => nomatch h)
  have c__law_legs := cal_of (kws := []) F11 (ok__law_legs (P := l.prog) (w := w) (base := base) F11 ) (PySem.W.mg_of X G a11) (bargs_of F11 fun _ _ _ _ _ _ us hl => match us, hl with | [_], _ => rfl) (fun _ h => nomatch h)
  have c__is_legs := cal_of (kws := []) F12 (ok__is_legs (P := l.prog) (w := w) (base := base) F12 c_is_whole_tuple) (PySem.W.mg_of X G a12) (bargs_of F12 fun _ _ _ _ _ _ us hl => match us, hl with | [_], _ => rfl) (fun _ h => nomatch h)
  have c_turn_by := cal_of (kws := []) F13 (ok_turn_by (P := l.prog) (w := w) (base := base) F13 b_gcd b_isqrt g_GREATEST_P) (PySem.W.mg_of X G a13) (bargs_of F13 fun _ _ _ _ _ _ us hl => match us, hl with | [_], _ => rfl) (fun _ h => nomatch h)
  have c_turn_of := cal_of (kws := [(0, ["legs"])]) F14 (ok_turn_of (P := l.prog) (w := w) (base := base) F14 c__is_legs c_turn_by) (PySem.W.mg_of X G a14) (bargs_of F14 fun _ _ _ _ _ _ us hl => match us, hl with | [_], _ => rfl) (kws_cons (kw_of F14 rfl (by decide) fun _ _ _ _ _ _ us ws h1 h2 => match us, ws, h1, h2 with | [], [_], _, _ => rfl) (fun _ h => nomatch h))
  have r_turn_by := calx_of (kws := []) F13 (okx_turn_by (P := l.prog) (w := w) (base := base) F13 b_gcd b_isqrt g_GREATEST_P l_TooLarge) (PySem.W.mg_of X G a13) (bargs_of F13 fun _ _ _ _ _ _ us hl => match us, hl with | [_], _ => rfl) (fun _ h => nomatch h)
  have r_turn_of := calx_of (kws := [(0, ["legs"])]) F14 (okx_turn_of (P := l.prog) (w := w) (base := base) F14 c__is_legs r_turn_by) (PySem.W.mg_of X G a14) (bargs_of F14 fun _ _ _ _ _ _ us hl => match us, hl with | [_], _ => rfl) (kws_cons (kw_of F14 rfl (by decide) fun _ _ _ _ _ _ us ws h1 h2 => match us, ws, h1, h2 with | [], [_], _, _ => rfl) (fun _ h => nomatch h))
  have c__law_right := cal_of (kws := []) F15 (ok__law_right (P := l.prog) (w := w) (base := base) F15 c__law_common c__law_draw c__law_legs c__law_swung c_legs_of c_turn_of n_repr n_tuple) (PySem.W.mg_of X G a15) (bargs_of F15 fun _ _ _ _ _ _ us hl => match us, hl with | [_, _], _ => rfl) (fun _ h => nomatch h)
  have c__law_told := cal_of (kws := []) F16 (ok__law_told (P := l.prog) (w := w) (base := base) F16 l_TooLarge m_TooLarge__TooLarge r_turn_of) (PySem.W.mg_of X G a16) (bargs_of F16 fun _ _ _ _ _ _ us hl => match us, hl with | [_], _ => rfl) (fun _ h => nomatch h)
  exact ok_law (P := l.prog) (w := w) (base := base) F17 c__law_common c__law_draw c__law_legs c__law_right c__law_source c__law_spin c__law_swung c__law_told c_legs_of c_turn_of n_enumerate n_int n_len n_max n_min
end Tp
set_option maxRecDepth 100000 in
set_option maxHeartbeats 0 in
theorem PySem.Challenge.cw_turnedpixels_k03_legs_there_and_back_holds : PySem.Challenge.rw_turnedpixels_k03_legs_there_and_back.Holds := by
  w_on; o_law; k_head; (case hw => w_witness2)
  k_fill
  refine DL.law_end (l := PySem.Challenge.rw_turnedpixels_k03_legs_there_and_back) (n := 63) (k := 7) (x := "_law_script") rfl (by decide) rfl ⟨rfl, by decide, by decide⟩ (fun w h Y => PySem.W.kIn_of Y) ?F
  case F =>
    intro w mg fa h KX G hmg
    refine' Tp.all_mk KX G hmg ?a0 ?l0 ?c0 ?k0 ?a1 ?l1 ?c1 ?k1 ?a2 ?l2 ?c2 ?k2 ?a3 ?l3 ?c3 ?k3 ?a4 ?l4 ?c4 ?k4 ?a5 ?l5 ?c5 ?k5 ?a6 ?l6 ?c6 ?k6 ?a7 ?l7 ?c7 ?k7 ?a8 ?l8 ?c8 ?k8 ?a9 ?l9 ?c9 ?k9 ?a10 ?l10 ?c10 ?k10 ?a11 ?l11 ?c11 ?k11 ?a12 ?l12 ?c12 ?k12 ?a13 ?l13 ?c13 ?k13 ?a14 ?l14 ?c14 ?k14 ?a15 ?l15 ?c15 ?k15 ?a16 ?l16 ?c16 ?k16 ?a17 ?l17 ?c17 ?k17 ?z_abs ?z_all ?z_bool ?z_enumerate ?z_int ?z_isinstance ?z_len ?z_max ?z_min ?z_range ?z_repr ?z_tuple ?y_gcd ?y_isqrt ?x_GREATEST_P ?eA_TooLarge ?eL_TooLarge ?eR_TooLarge ?eS_TooLarge ?eG_TooLarge ?eH_TooLarge ?eF_TooLarge ?eI_TooLarge ?eJ_TooLarge ?eK_TooLarge ?eX_TooLarge ?eV_TooLarge ?eT_TooLarge ?eD_TooLarge ?eM_TooLarge ?eN_TooLarge ?eO_TooLarge ?eP_TooLarge ?eU_TooLarge ?eW_TooLarge ?eY_TooLarge ?eZ_TooLarge ?e_any ?e_super ?e_top ?eC_TooLarge ?w_TooLarge__TooLarge
    (case a0 => k_is)
    (case l0 => k_is)
    (case c0 => k_is)
    (case k0 => k_is)
    (case a1 => k_is)
    (case l1 => k_is)
    (case c1 => k_is)
    (case k1 => k_is)
    (case a2 => k_is)
    (case l2 => k_is)
    (case c2 => k_is)
    (case k2 => k_is)
    (case a3 => k_is)
    (case l3 => k_is)
    (case c3 => k_is)
    (case k3 => k_is)
    (case a4 => k_is)
    (case l4 => k_is)
    (case c4 => k_is)
    (case k4 => k_is)
    (case a5 => k_is)
    (case l5 => k_is)
    (case c5 => k_is)
    (case k5 => k_is)
    (case a6 => k_is)
    (case l6 => k_is)
    (case c6 => k_is)
    (case k6 => k_is)
    (case a7 => k_is)
    (case l7 => k_is)
    (case c7 => k_is)
    (case k7 => k_is)
    (case a8 => k_is)
    (case l8 => k_is)
    (case c8 => k_is)
    (case k8 => k_is)
    (case a9 => k_is)
    (case l9 => k_is)
    (case c9 => k_is)
    (case k9 => k_is)
    (case a10 => k_is)
    (case l10 => k_is)
    (case c10 => k_is)
    (case k10 => k_is)
    (case a11 => k_is)
    (case l11 => k_is)
    (case c11 => k_is)
    (case k11 => k_is)
    (case a12 => k_is)
    (case l12 => k_is)
    (case c12 => k_is)
    (case k12 => k_is)
    (case a13 => k_is)
    (case l13 => k_is)
    (case c13 => k_is)
    (case k13 => k_is)
    (case a14 => k_is)
    (case l14 => k_is)
    (case c14 => k_is)
    (case k14 => k_is)
    (case a15 => k_is)
    (case l15 => k_is)
    (case c15 => k_is)
    (case k15 => k_is)
    (case a16 => k_is)
    (case l16 => k_is)
    (case c16 => k_is)
    (case k16 => k_is)
    (case a17 => k_is)
    (case l17 => k_is)
    (case c17 => k_is)
    (case k17 => k_is)
    (case z_abs => k_is)
    (case z_all => k_is)
    (case z_bool => k_is)
    (case z_enumerate => k_is)
    (case z_int => k_is)
    (case z_isinstance => k_is)
    (case z_len => k_is)
    (case z_max => k_is)
    (case z_min => k_is)
    (case z_range => k_is)
    (case z_repr => k_is)
    (case z_tuple => k_is)
    (case y_gcd => k_is)
    (case y_isqrt => k_is)
    (case x_GREATEST_P => exact ⟨_, PySem.W.mg_of KX G (by k_is)⟩)
    (case eA_TooLarge => k_is)
    (case eL_TooLarge => k_is)
    (case eR_TooLarge => first | rfl | decide +kernel)
    (case eS_TooLarge => k_is)
    (case eG_TooLarge => k_is)
    (case eH_TooLarge => k_is)
    (case eF_TooLarge => k_is)
    (case eI_TooLarge => k_is)
    (case eJ_TooLarge => k_is)
    (case eK_TooLarge => k_is)
    (case eX_TooLarge => k_is)
    (case eV_TooLarge => k_is)
    (case eT_TooLarge => k_is)
    (case eD_TooLarge => k_is)
    (case eM_TooLarge => k_is)
    (case eN_TooLarge => k_is)
    (case eO_TooLarge => k_is)
    (case eP_TooLarge => k_is)
    (case eU_TooLarge => first | rfl | k_is)
    (case eW_TooLarge => first | rfl | decide +kernel)
    (case eY_TooLarge => first | rfl | decide)
    (case eZ_TooLarge => ks_is)
    (case e_any => k_is)
    (case e_super => k_is)
    (case e_top => first | rfl | decide +kernel)
    (case eC_TooLarge => k_is)
    (case w_TooLarge__TooLarge => first | rfl | k_is)
#print axioms PySem.Challenge.cw_turnedpixels_k03_legs_there_and_back_holds
