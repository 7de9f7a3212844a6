import PyProof.Rows.All
import Wide.All
import OpenK.AllK
import Wide.FinOn
import HandS.ForMost
import HandS.Wide
import HandS.Gcd
import HandS.IsInst
import HandS.RaiseMore
import HandS.ForExc
import KE.DatumOrd
import HandS.Deep
import HandS.Style
import HandS.Sort
import KE.SortData
import HandS.FStr
import HandS.ExcField
import KE.KExcSuper
import KE.KExcMake
import HandS.TryMany
import HandS.ExcOwn
import KE.DataFind
import KE.KTupSum
import HandS.Zip
import PyProof.MaxThree
import PyProof.LongRange
import KE.DataCmp
import HandS.TupLe
import KE.KExcStr
import PyProof.ExcReprCall
import PyProof.ReprUnder
import PyProof.ReprLen
import HandS.ExcValue
import HandS.ExcIs
import HandS.Dict
import HandS.HotCalls
import KE.KExcIs
import KE.KIntText
import PyProof.StrOps2
import PyProof.CallStr
import HandS.WideBits
import HandS.TupSets
import PySem.Challenge.RW_turnedpixels_k54_six_cornered_balls
set_option Elab.async false
set_option linter.all false
set_option exponentiation.threshold 3000
set_option maxRecDepth 100000
set_option maxHeartbeats 4000000
/-! Data in place of the heap: what a value is as data, kept while the heap grows; lists that are changed stand apart. -/
namespace DL
open PySem PySem.Spec PyProof.Rows L2

/-! ### the readings that the semantics itself gives -/
def wE (X : Cx) (e : Expr) : TE := fun σ H Q => ∀ pins s, Inv X pins σ H s → wpAny (model X.prog X.w) X.A (eval e X.env) (EP X pins σ Q) X.xe s
def wT (X : Cx) (e : Expr) : TT := fun σ H Q => ∀ pins s, Inv X pins σ H s → wpAny (model X.prog X.w) X.A (isTrue e X.env (eval e X.env)) (TP X pins σ Q) X.xe s
def wW (X : Cx) (e : Expr) : TT := fun σ H Q => ∀ whole pins s, Inv X pins σ H s → wpAny (model X.prog X.w) X.A (isTrue e X.env whole) (TP X pins σ Q) X.xe s
def wA (X : Cx) (es : List Expr) : TA := fun σ H Q => ∀ pos pins s, Inv X pins σ H s → wpAny (model X.prog X.w) X.A (spliced (backTo pos (starEach es X.env))) (AP X pins σ Q) X.xe s
def wS (X : Cx) (st : Stmt) : TS := fun D σ H => ∀ pins s, Inv X pins σ H s → wpAny (model X.prog X.w) X.A (exec st X.env) (SP X pins D) X.xe s
def wSs (X : Cx) (st : List Stmt) : TS := fun D σ H => ∀ pins s, Inv X pins σ H s → wpAny (model X.prog X.w) X.A (execs st X.env) (SP X pins D) X.xe s
def wG (X : Cx) (tg : Expr) : TG := fun v σ H Q => ∀ pins s u, Inv X pins σ H s → RelV v u →
  wpAny (model X.prog X.w) X.A (assign tg X.env u) (fun _ s' => ∃ σ' H', Inv X pins σ' H' s' ∧ Q σ' H') X.xe s
section
variable {X : Cx} {e : Expr} {es : List Expr} {st : Stmt} {sts : List Stmt} {σ : L2.St} {H : Hp}
theorem peW : PE X e (wE X e) := ⟨fun pins s _ _ _ I h => h pins s I⟩
theorem ptW : PT X e (wT X e) := ⟨fun pins s _ _ _ I h => h pins s I⟩
theorem pwW : PW X e (wW X e) := ⟨fun wh pins s _ _ _ I h => h wh pins s I⟩
theorem paW : PA X es (wA X es) := ⟨fun pos pins s _ _ _ I h => h pos pins s I⟩
theorem psW : PS X st (wS X st) := ⟨fun pins s _ _ _ I h => h pins s I⟩
theorem pssW : PSs X sts (wSs X sts) := ⟨fun pins s _ _ _ I h => h pins s I⟩
theorem pgW {tg : Expr} : PG X tg (wG X tg) := ⟨fun pins s _ _ _ u _ I r h => h pins s u I r⟩
theorem wE_of {t : TE} {Q : VK} (h : PE X e t) (q : t σ H Q) : wE X e σ H Q := fun pins s I => h.run pins s σ H Q I q
theorem wT_of {t : TT} {Q : Bool → Hp → Prop} (h : PT X e t) (q : t σ H Q) : wT X e σ H Q := fun pins s I => h.run pins s σ H Q I q
theorem wW_of {t : TT} {Q : Bool → Hp → Prop} (h : PW X e t) (q : t σ H Q) : wW X e σ H Q := fun wh pins s I => h.run wh pins s σ H Q I q
theorem wA_of {t : TA} {Q : List V → Hp → Prop} (h : PA X es t) (q : t σ H Q) : wA X es σ H Q := fun pos pins s I => h.run pos pins s σ H Q I q
theorem wS_of {t : TS} {De : Ends} (h : PS X st t) (q : t De σ H) : wS X st De σ H := fun pins s I => h.run pins s σ H De I q
theorem wSs_of {t : TS} {De : Ends} (h : PSs X sts t) (q : t De σ H) : wSs X sts De σ H := fun pins s I => h.run pins s σ H De I q
theorem wG_of {tg : Expr} {t : TG} {v : V} {Q : L2.St → Hp → Prop} (h : PG X tg t) (q : t v σ H Q) : wG X tg v σ H Q := fun pins s u I r => h.run pins s σ H v u Q I r q
theorem wE_mono {Q Q' : VK} (h : wE X e σ H Q) (k : ∀ v H', Q v H' → Q' v H') : wE X e σ H Q' := fun pins s I =>
  thn (h pins s I) fun _ _ ⟨v, H', I', r, q⟩ => ⟨v, H', I', r, k v H' q⟩
theorem wT_mono {Q Q' : Bool → Hp → Prop} (h : wT X e σ H Q) (k : ∀ b H', Q b H' → Q' b H') : wT X e σ H Q' := fun pins s I =>
  thn (h pins s I) fun b _ ⟨H', I', q⟩ => ⟨H', I', k b H' q⟩
theorem wW_mono {Q Q' : Bool → Hp → Prop} (h : wW X e σ H Q) (k : ∀ b H', Q b H' → Q' b H') : wW X e σ H Q' := fun wh pins s I =>
  thn (h wh pins s I) fun b _ ⟨H', I', q⟩ => ⟨H', I', k b H' q⟩
theorem wA_mono {Q Q' : List V → Hp → Prop} (h : wA X es σ H Q) (k : ∀ v H', Q v H' → Q' v H') : wA X es σ H Q' := fun pos pins s I =>
  thn (h pos pins s I) fun _ _ ⟨v, H', I', r, q⟩ => ⟨v, H', I', r, k v H' q⟩
theorem wG_mono {tg : Expr} {v : V} {Q Q' : L2.St → Hp → Prop} (h : wG X tg v σ H Q) (k : ∀ σ' H', Q σ' H' → Q' σ' H') : wG X tg v σ H Q' := fun pins s u I r =>
  thn (h pins s u I r) fun _ _ ⟨σ', H', I', q⟩ => ⟨σ', H', I', k σ' H' q⟩
end

/-! ### data -/
inductive D where
  | non
  | bl (b : Bool)
  | int (i : Int)
  | str (x : Str)
  | tup (l : List D)
  | lst (l : List D)
  | raw (v : V)
  | ext (P : Hp → V → Prop)
  | scr (ns : List Int)

mutual
def Rp (K : PySem.W.Frag) (H : Hp) : D → V → Prop
  | .non, v => v = .non
  | .bl b, v => v = .bl b
  | .int i, v => v = .int i
  | .str x, v => v = .str x
  | .tup l, v => ∃ (a : Addr) (xs : List V), v = .ref a ∧ SqT K H a xs ∧ RpL K H l xs
  | .lst l, v => ∃ (a : Addr) (xs : List V), v = .ref a ∧ H a = some (.lst xs) ∧ RpL K H l xs
  | .raw u, v => v = u
  | .ext P, v => ∃ H0 : Hp, Same H0 H ∧ P H0 v
  | .scr ns, v => ∃ a : Addr, v = .ref a ∧ SqL K H a (ns.map V.int)
def RpL (K : PySem.W.Frag) (H : Hp) : List D → List V → Prop
  | [], vs => vs = []
  | d :: ds, vs => ∃ (x : V) (xs : List V), vs = x :: xs ∧ Rp K H d x ∧ RpL K H ds xs
end
theorem same_l {K : PySem.W.Frag} {H H' : Hp} (e : Same H H') {a : Addr} {xs : List V} (h : SqL K H a xs) : SqL K H' a xs := e.seq h
theorem same_t {K : PySem.W.Frag} {H H' : Hp} (e : Same H H') {a : Addr} {xs : List V} (h : SqT K H a xs) : SqT K H' a xs := by
  rcases h with (h | ⟨o, h⟩) | h
  · exact .inl (.inl (e _ _ h))
  · exact .inl (.inr ⟨o, e _ _ h⟩)
  · exact .inr h
mutual
theorem Rp.mono {K : PySem.W.Frag} {H H' : Hp} (e : Same H H') : ∀ (d : D) (v : V), Rp K H d v → Rp K H' d v
  | .non, _, h => h
  | .bl _, _, h => h
  | .int _, _, h => h
  | .str _, _, h => h
  | .tup l, _, h => let ⟨a, xs, e1, e2, e3⟩ := h; ⟨a, xs, e1, same_t e e2, RpL.mono e l xs e3⟩
  | .lst l, _, h => let ⟨a, xs, e1, e2, e3⟩ := h; ⟨a, xs, e1, e _ _ e2, RpL.mono e l xs e3⟩
  | .raw _, _, h => h
  | .ext _, _, h => let ⟨H0, e0, p⟩ := h; ⟨H0, e0.trans e, p⟩
  | .scr _, _, h => let ⟨a, e1, e2⟩ := h; ⟨a, e1, same_l e e2⟩
theorem RpL.mono {K : PySem.W.Frag} {H H' : Hp} (e : Same H H') : ∀ (l : List D) (vs : List V), RpL K H l vs → RpL K H' l vs
  | [], _, h => h
  | d :: ds, _, h => let ⟨x, xs, e1, e2, e3⟩ := h; ⟨x, xs, e1, Rp.mono e d x e2, RpL.mono e ds xs e3⟩
end
theorem RpL.length {K : PySem.W.Frag} {H : Hp} : ∀ {l : List D} {vs : List V}, RpL K H l vs → vs.length = l.length
  | [], _, h => by
    have h : _ = [] := h
    rw [h] <;> rfl
  | d :: ds, _, h => by
    obtain ⟨x, xs, rfl, _, h3⟩ := h
    rw [List.length_cons, List.length_cons, RpL.length h3]
theorem RpL.get {K : PySem.W.Frag} {H : Hp} : ∀ {l : List D} {vs : List V} {i : Nat} {d : D}, RpL K H l vs → l[i]? = some d → ∃ v, vs[i]? = some v ∧ Rp K H d v
  | [], _, _, _, _, e => by simp at e
  | d :: ds, _, 0, d', h, e => by
    obtain ⟨x, xs, rfl, h2, h3⟩ := h
    have e : d = d' := by simpa using e
    subst e
    exact ⟨x, rfl, h2⟩
  | d :: ds, _, i + 1, d', h, e => by
    obtain ⟨x, xs, rfl, h2, h3⟩ := h
    obtain ⟨v, e1, e2⟩ := RpL.get (i := i) h3 (by simpa using e)
    exact ⟨v, by simpa using e1, e2⟩
theorem RpL.back {K : PySem.W.Frag} {H : Hp} {l : List D} {vs : List V} {i : Nat} {v : V} (h : RpL K H l vs) (e : vs[i]? = some v) : ∃ d, l[i]? = some d ∧ Rp K H d v := by
  have hl := h.length
  have hi : i < vs.length := (List.getElem?_eq_some_iff.mp e).1
  obtain ⟨d, hd⟩ : ∃ d, l[i]? = some d := ⟨l[i]'(by omega), List.getElem?_eq_getElem (by omega)⟩
  obtain ⟨w, e1, r⟩ := h.get hd
  rw [e] at e1
  cases e1
  exact ⟨d, hd, r⟩
theorem RpL.append {K : PySem.W.Frag} {H : Hp} : ∀ {l m : List D} {vs ws : List V}, RpL K H l vs → RpL K H m ws → RpL K H (l ++ m) (vs ++ ws)
  | [], _, _, _, h, k => by
    have h : _ = [] := h
    subst h
    exact k
  | d :: ds, _, _, _, h, k => by
    obtain ⟨x, xs, rfl, h2, h3⟩ := h
    exact ⟨x, xs ++ _, rfl, h2, RpL.append h3 k⟩
theorem RpL.take {K : PySem.W.Frag} {H : Hp} : ∀ {l : List D} {vs : List V} (n : Nat), RpL K H l vs → RpL K H (l.take n) (vs.take n)
  | _, _, 0, _ => by rw [List.take_zero, List.take_zero]; rfl
  | [], _, n + 1, h => by
    have h : _ = [] := h
    subst h
    rfl
  | d :: ds, _, n + 1, h => by
    obtain ⟨x, xs, rfl, h2, h3⟩ := h
    exact ⟨x, xs.take n, rfl, h2, RpL.take n h3⟩
theorem RpL.drop {K : PySem.W.Frag} {H : Hp} : ∀ {l : List D} {vs : List V} (n : Nat), RpL K H l vs → RpL K H (l.drop n) (vs.drop n)
  | _, _, 0, h => h
  | [], _, n + 1, h => by
    have h : _ = [] := h
    subst h
    rfl
  | d :: ds, _, n + 1, h => by
    obtain ⟨x, xs, rfl, h2, h3⟩ := h
    exact RpL.drop n h3
theorem RpL.set {K : PySem.W.Frag} {H : Hp} {d : D} {v : V} (r : Rp K H d v) : ∀ {l : List D} {vs : List V} (i : Nat), RpL K H l vs → RpL K H (l.set i d) (vs.set i v)
  | [], _, _, h => by
    have h : _ = [] := h
    subst h
    exact h
  | d :: ds, _, 0, h => by
    obtain ⟨x, xs, rfl, h2, h3⟩ := h
    exact ⟨v, xs, rfl, r, h3⟩
  | d :: ds, _, i + 1, h => by
    obtain ⟨x, xs, rfl, h2, h3⟩ := h
    exact ⟨x, xs.set i v, rfl, h2, RpL.set r i h3⟩
theorem RpL.ints {K : PySem.W.Frag} {H : Hp} : ∀ (ns : List Int), RpL K H (ns.map D.int) (ns.map V.int)
  | [] => rfl
  | n :: ns => ⟨.int n, ns.map V.int, rfl, rfl, RpL.ints ns⟩

/-! ### lists that are changed; the slots -/
abbrev Sto := List (Addr × List D)
def getS (p : Addr) : Sto → Option (List D)
  | [] => none
  | (q, l) :: S => if q = p then some l else getS p S
def setS (p : Addr) (n : List D) : Sto → Sto
  | [] => []
  | (q, l) :: S => if q = p then (q, n) :: S else (q, l) :: setS p n S
def Own (K : PySem.W.Frag) (Hd H : Hp) : Sto → Prop
  | [] => True
  | (p, l) :: S => Hd p = none ∧ getS p S = none ∧ (∃ xs, H p = some (.lst xs) ∧ RpL K Hd l xs) ∧ Own K Hd H S
structure St0 (K : PySem.W.Frag) (S : Sto) (Hd H : Hp) : Prop where
  sub : Same Hd H
  own : Own K Hd H S
theorem getS_hd {p : Addr} {l : List D} {S : Sto} : getS p ((p, l) :: S) = some l := by
  show (if p = p then some l else getS p S) = some l
  rw [if_pos rfl]
theorem setS_hd {p : Addr} {l n : List D} {S : Sto} : setS p n ((p, l) :: S) = (p, n) :: S := by
  show (if p = p then (p, n) :: S else (p, l) :: setS p n S) = _
  rw [if_pos rfl]
theorem getS_tl {p q : Addr} {l : List D} {S : Sto} (h : q ≠ p) : getS p ((q, l) :: S) = getS p S := by
  show (if q = p then some l else getS p S) = _
  rw [if_neg h]
theorem setS_tl {p q : Addr} {l n : List D} {S : Sto} (h : q ≠ p) : setS p n ((q, l) :: S) = (q, l) :: setS p n S := by
  show (if q = p then (q, n) :: S else (q, l) :: setS p n S) = _
  rw [if_neg h]
theorem getS_setS {p : Addr} {n : List D} : ∀ {S : Sto} {q : Addr}, getS q (setS p n S) = if q = p then (getS p S).map (fun _ => n) else getS q S
  | [], q => by split <;> rfl
  | (r, l) :: S, q => by
    by_cases h1 : r = p
    · subst h1
      rw [setS_hd]
      by_cases h2 : q = r
      · subst h2
        rw [getS_hd, if_pos rfl, getS_hd] <;> rfl
      · rw [getS_tl (Ne.symm h2), if_neg h2, getS_tl (Ne.symm h2)]
    · rw [setS_tl h1, getS_tl (S := S) h1]
      by_cases h2 : r = q
      · subst h2
        rw [getS_hd, if_neg h1, getS_hd]
      · rw [getS_tl h2, getS_tl h2]
        exact getS_setS
section
variable {K : PySem.W.Frag} {Hd Hd' H H' : Hp} {S : Sto} {p : Addr}
theorem Own.at : ∀ {S : Sto} {l : List D}, Own K Hd H S → getS p S = some l → Hd p = none ∧ ∃ xs, H p = some (.lst xs) ∧ RpL K Hd l xs
  | [], _, _, e => by cases e
  | (q, m) :: S, l, o, e => by
    by_cases h : q = p
    · subst h
      rw [getS_hd] at e
      cases e
      exact ⟨o.1, o.2.2.1⟩
    · rw [getS_tl h] at e
      exact Own.at o.2.2.2 e
/-- new things are laid: none of the changed lists' own -/
theorem Own.grow : ∀ {S : Sto}, Own K Hd H S → Same Hd Hd' → (∀ q l, getS q S = some l → Hd' q = none) → (∀ q xs l, getS q S = some l → H q = some (.lst xs) → H' q = some (.lst xs)) → Own K Hd' H' S
  | [], _, _, _, _ => trivial
  | (q, l) :: S, o, e, f, k => by
    obtain ⟨o1, o2, ⟨xs, o3, o4⟩, o5⟩ := o
    refine ⟨f q l getS_hd, o2, ⟨xs, k q xs l getS_hd o3, o4.mono e⟩, o5.grow e (fun r m hr => ?_) (fun r ys m hr => ?_)⟩
    · by_cases h : q = r
      · subst h
        rw [o2] at hr; cases hr
      · exact f r m (by rw [getS_tl h]; exact hr)
    · by_cases h : q = r
      · subst h
        rw [o2] at hr; cases hr
      · exact k r ys m (by rw [getS_tl h]; exact hr)
/-- one changed list is written -/
theorem Own.write {l' : List D} {ys : List V} : ∀ {S : Sto} {l : List D}, Own K Hd H S → getS p S = some l → RpL K Hd l' ys → Own K Hd (upd H p (.lst ys)) (setS p l' S)
  | [], _, _, e, _ => by cases e
  | (q, m) :: S, l, o, e, r => by
    obtain ⟨o1, o2, ⟨xs, o3, o4⟩, o5⟩ := o
    by_cases h : q = p
    · subst h
      rw [setS_hd]
      refine ⟨o1, o2, ⟨ys, upd_same, r⟩, o5.grow (fun _ _ z => z) (fun b w hb => (o5.at hb).1) (fun b zs w hb hz => ?_)⟩
      rw [upd_ne]
      · exact hz
      · intro z
        subst z
        rw [o2] at hb; cases hb
    · rw [getS_tl h] at e
      rw [setS_tl h]
      refine ⟨o1, ?_, ⟨xs, (upd_ne h).trans o3, o4⟩, o5.write e r⟩
      rw [getS_setS, if_neg h]
      exact o2
theorem St0.tracked (s : St0 K S Hd H) {l : List D} (h : getS p S = some l) : H p ≠ none := by
  obtain ⟨_, xs, e, _⟩ := s.own.at h
  rw [e]
  exact fun z => nomatch z
/-- a new object that is not changed any more -/
theorem St0.laid {o : HO} (s : St0 K S Hd H) (hp : H p = none) : Same Hd (upd Hd p o) ∧ St0 K S (upd Hd p o) (upd H p o) := by
  have hd : Hd p = none := s.sub.free hp
  have e : Same Hd (upd Hd p o) := fun b u q => by rw [upd_ne (ne_of_none q hd)]; exact q
  refine ⟨e, fun b u q => ?_, s.own.grow e (fun q l h => ?_) (fun q xs l h z => ?_)⟩
  · by_cases hb : b = p
    · subst hb
      rw [upd_same] at q ⊢
      exact q
    · rw [upd_ne hb] at q ⊢
      exact s.sub b u q
  · rw [upd_ne (fun z => s.tracked h (by rw [z]; exact hp))]
    exact (s.own.at h).1
  · rw [upd_ne (ne_of_none z hp)]
    exact z
/-- a new list that will be changed -/
theorem St0.laidO {l : List D} {xs : List V} (s : St0 K S Hd H) (hp : H p = none) (r : RpL K Hd l xs) : getS p S = none ∧ St0 K ((p, l) :: S) Hd (upd H p (.lst xs)) := by
  have hd : Hd p = none := s.sub.free hp
  have g : getS p S = none := by
    cases q : getS p S with
    | none => rfl
    | some m => exact absurd hp (s.tracked q)
  refine ⟨g, fun b u q => ?_, hd, g, ⟨xs, upd_same, r⟩, s.own.grow (fun _ _ z => z) (fun q l h => (s.own.at h).1) (fun q xs l h z => ?_)⟩
  · rw [upd_ne (ne_of_none q hd)]
    exact s.sub b u q
  · rw [upd_ne (ne_of_none z hp)]
    exact z
theorem St0.written {l l' : List D} {ys : List V} (s : St0 K S Hd H) (h : getS p S = some l) (r : RpL K Hd l' ys) : St0 K (setS p l' S) Hd (upd H p (.lst ys)) := by
  refine ⟨fun b u q => ?_, s.own.write h r⟩
  rw [upd_ne (ne_of_none q (s.own.at h).1)]
  exact s.sub b u q
/-- a changed list is changed no more -/
theorem St0.frozen {l : List D} (s : St0 K ((p, l) :: S) Hd H) : ∃ xs, RpL K Hd l xs ∧ Same Hd (upd Hd p (.lst xs)) ∧ St0 K S (upd Hd p (.lst xs)) H := by
  obtain ⟨sub, o1, o2, ⟨xs, o3, o4⟩, o5⟩ := s
  have e : Same Hd (upd Hd p (.lst xs)) := fun b u q => by rw [upd_ne (ne_of_none q o1)]; exact q
  refine ⟨xs, o4, e, fun b u q => ?_, o5.grow e (fun q l h => ?_) (fun q xs l h z => z)⟩
  · by_cases hb : b = p
    · subst hb
      rw [upd_same] at q
      cases q
      exact o3
    · rw [upd_ne hb] at q
      exact sub b u q
  · rw [upd_ne (fun z => by rw [z, o2] at h; cases h)]
    exact (o5.at h).1
theorem St0.drop {l : List D} (s : St0 K ((p, l) :: S) Hd H) : St0 K S Hd H := ⟨s.sub, s.own.2.2.2⟩
end

/-- the slots as data; none: not known -/
abbrev DEnv := List (Option D)
def RpE (K : PySem.W.Frag) (H : Hp) : DEnv → L2.St → Prop
  | [], σ => σ = []
  | none :: es, σ => ∃ (o : Option V) (σ' : L2.St), σ = o :: σ' ∧ RpE K H es σ'
  | some d :: es, σ => ∃ (v : V) (σ' : L2.St), σ = some v :: σ' ∧ Rp K H d v ∧ RpE K H es σ'
theorem RpE.mono {K : PySem.W.Frag} {H H' : Hp} (e : Same H H') : ∀ {en : DEnv} {σ : L2.St}, RpE K H en σ → RpE K H' en σ
  | [], _, h => h
  | none :: es, _, h => let ⟨o, σ', e1, e2⟩ := h; ⟨o, σ', e1, RpE.mono e e2⟩
  | some d :: es, _, h => let ⟨v, σ', e1, e2, e3⟩ := h; ⟨v, σ', e1, Rp.mono e d v e2, RpE.mono e e3⟩
theorem RpE.get {K : PySem.W.Frag} {H : Hp} : ∀ {en : DEnv} {σ : L2.St} {i : Nat} {d : D}, RpE K H en σ → en[i]? = some (some d) → ∃ v, σ[i]? = some (some v) ∧ Rp K H d v
  | [], _, _, _, _, e => by simp at e
  | none :: es, _, 0, _, h, e => by simp at e
  | none :: es, _, i + 1, d, h, e => by
    obtain ⟨o, σ', rfl, h2⟩ := h
    obtain ⟨v, e1, e2⟩ := RpE.get (i := i) h2 (by simpa using e)
    exact ⟨v, by simpa using e1, e2⟩
  | some x :: es, _, 0, d, h, e => by
    obtain ⟨v, σ', rfl, h2, _⟩ := h
    have e : x = d := by simpa using e
    subst e
    exact ⟨v, rfl, h2⟩
  | some x :: es, _, i + 1, d, h, e => by
    obtain ⟨o, σ', rfl, _, h2⟩ := h
    obtain ⟨v, e1, e2⟩ := RpE.get (i := i) h2 (by simpa using e)
    exact ⟨v, by simpa using e1, e2⟩
theorem RpE.set {K : PySem.W.Frag} {H : Hp} {d : D} {v : V} (r : Rp K H d v) : ∀ {en : DEnv} {σ : L2.St} (i : Nat), RpE K H en σ → RpE K H (en.set i (some d)) (σ.set i (some v))
  | [], _, _, h => by
    have h : _ = [] := h
    subst h
    rfl
  | none :: es, _, 0, h => let ⟨o, σ', e1, e2⟩ := h; ⟨v, σ', by rw [e1] <;> rfl, r, e2⟩
  | some x :: es, _, 0, h => let ⟨o, σ', e1, _, e2⟩ := h; ⟨v, σ', by rw [e1] <;> rfl, r, e2⟩
  | none :: es, _, i + 1, h => let ⟨o, σ', e1, e2⟩ := h; ⟨o, σ'.set i (some v), by rw [e1] <;> rfl, e2.set r i⟩
  | some x :: es, _, i + 1, h => let ⟨o, σ', e1, e0, e2⟩ := h; ⟨o, σ'.set i (some v), by rw [e1] <;> rfl, e0, e2.set r i⟩
/-- less is known -/
def Wk : DEnv → DEnv → Prop
  | [], [] => True
  | _ :: xs, none :: ys => Wk xs ys
  | x :: xs, some d :: ys => x = some d ∧ Wk xs ys
  | _, _ => False
theorem Wk.refl : ∀ (en : DEnv), Wk en en
  | [] => trivial
  | none :: es => Wk.refl es
  | some _ :: es => ⟨rfl, Wk.refl es⟩
theorem Wk.use {K : PySem.W.Frag} {H : Hp} : ∀ {a b : DEnv} {σ : L2.St}, Wk a b → RpE K H a σ → RpE K H b σ
  | [], [], _, _, h => h
  | none :: xs, none :: ys, _, w, h => let ⟨o, σ', e1, e2⟩ := h; ⟨o, σ', e1, Wk.use (a := xs) (b := ys) w e2⟩
  | some x :: xs, none :: ys, _, w, h => let ⟨v, σ', e1, _, e2⟩ := h; ⟨some v, σ', e1, Wk.use (a := xs) (b := ys) w e2⟩
  | x :: xs, some d :: ys, _, w, h => by
    obtain ⟨w1, w2⟩ := w
    subst w1
    obtain ⟨v, σ', e1, e2, e3⟩ := h
    exact ⟨v, σ', e1, e2, Wk.use w2 e3⟩
  | [], none :: _, _, w, _ => w.elim
  | [], some _ :: _, _, w, _ => w.elim
  | _ :: _, [], _, w, _ => w.elim
theorem RpE.start {K : PySem.W.Frag} {H : Hp} : ∀ {ds : List D} {vs : List V} (n : Nat), RpL K H ds vs → RpE K H (ds.map some ++ List.replicate n none) (vs.map some ++ List.replicate n none)
  | [], _, 0, h => by
    have h : _ = [] := h
    subst h
    rfl
  | [], _, n + 1, h => by
    have h : _ = [] := h
    subst h
    exact ⟨none, List.replicate n none, rfl, RpE.start (ds := []) (vs := []) n rfl⟩
  | d :: ds, _, n, h => by
    obtain ⟨x, xs, rfl, h2, h3⟩ := h
    exact ⟨x, xs.map some ++ List.replicate n none, rfl, h2, RpE.start n h3⟩
end DL
namespace DL
open PySem PySem.Spec PyProof.Rows L2

/-! ### what the semantics asks of the form of an expression, quickly answered -/
def nSet : Expr → Bool
  | .Set _ _ _ => false
  | _ => true
theorem fset {e : Expr} {env : Env} (h : nSet e = true) : ∀ x, foldedSetIterable e env x = pure x := fun x => by
  cases e <;> first | rfl | cases h
def nComp : Expr → Bool
  | .ListComp _ _ _ _ => false
  | .SetComp _ _ _ _ => false
  | .DictComp _ _ _ _ _ => false
  | _ => true
theorem sw0 {e : Expr} {t : Option Expr} {l : Nat} {env : Env} (h : nComp e = true) : swapsWith e t l env = pure false := by
  cases e <;> first | rfl | cases h
theorem sws1 {e t : Expr} {l : Nat} {env : Env} (h : nComp e = true) : swapsWithSole [t] e l env = pure false := sw0 h
def nTup2 : Expr → Expr → Bool
  | .Tuple _ _ _, .Tuple _ _ _ => false
  | .List _ _, .Tuple _ _ _ => false
  | _, _ => true
theorem sst {t e : Expr} {env : Env} (h : nTup2 t e = true) : swappedStores [t] e env = pure none := by
  cases t <;> first | rfl | (cases e <;> first | rfl | cases h)

/-! ### what an expression, a test, a list of arguments is as data -/
def QD (K : PySem.W.Frag) (Hd : Hp) (Q : D → Sto → Prop) : VK := fun v H' => ∃ d S' Hd', Same Hd Hd' ∧ St0 K S' Hd' H' ∧ Rp K Hd' d v ∧ Q d S'
def QB (K : PySem.W.Frag) (Hd : Hp) (Q : Bool → Sto → Prop) : Bool → Hp → Prop := fun b H' => ∃ S' Hd', Same Hd Hd' ∧ St0 K S' Hd' H' ∧ Q b S'
def QA (K : PySem.W.Frag) (Hd : Hp) (Q : List D → Sto → Prop) : List V → Hp → Prop := fun vs H' => ∃ ds S' Hd', Same Hd Hd' ∧ St0 K S' Hd' H' ∧ RpL K Hd' ds vs ∧ Q ds S'
structure DE (X : Cx) (e : Expr) (en : DEnv) (S : Sto) (Q : D → Sto → Prop) : Prop where
  run : ∀ (σ : L2.St) (H Hd : Hp), St0 X.K S Hd H → RpE X.K Hd en σ → wE X e σ H (QD X.K Hd Q)
instance {X : Cx} {e : Expr} {en : DEnv} {S : Sto} {Q : D → Sto → Prop} : CoeFun (DE X e en S Q) (fun _ => ∀ (σ : L2.St) (H Hd : Hp), St0 X.K S Hd H → RpE X.K Hd en σ → wE X e σ H (QD X.K Hd Q)) := ⟨fun h => h.run⟩
structure DT (X : Cx) (e : Expr) (en : DEnv) (S : Sto) (Q : Bool → Sto → Prop) : Prop where
  run : ∀ (σ : L2.St) (H Hd : Hp), St0 X.K S Hd H → RpE X.K Hd en σ → wT X e σ H (QB X.K Hd Q)
instance {X : Cx} {e : Expr} {en : DEnv} {S : Sto} {Q : Bool → Sto → Prop} : CoeFun (DT X e en S Q) (fun _ => ∀ (σ : L2.St) (H Hd : Hp), St0 X.K S Hd H → RpE X.K Hd en σ → wT X e σ H (QB X.K Hd Q)) := ⟨fun h => h.run⟩
structure DW (X : Cx) (e : Expr) (en : DEnv) (S : Sto) (Q : Bool → Sto → Prop) : Prop where
  run : ∀ (σ : L2.St) (H Hd : Hp), St0 X.K S Hd H → RpE X.K Hd en σ → wW X e σ H (QB X.K Hd Q)
instance {X : Cx} {e : Expr} {en : DEnv} {S : Sto} {Q : Bool → Sto → Prop} : CoeFun (DW X e en S Q) (fun _ => ∀ (σ : L2.St) (H Hd : Hp), St0 X.K S Hd H → RpE X.K Hd en σ → wW X e σ H (QB X.K Hd Q)) := ⟨fun h => h.run⟩
structure DA (X : Cx) (es : List Expr) (en : DEnv) (S : Sto) (Q : List D → Sto → Prop) : Prop where
  run : ∀ (σ : L2.St) (H Hd : Hp), St0 X.K S Hd H → RpE X.K Hd en σ → wA X es σ H (QA X.K Hd Q)
instance {X : Cx} {es : List Expr} {en : DEnv} {S : Sto} {Q : List D → Sto → Prop} : CoeFun (DA X es en S Q) (fun _ => ∀ (σ : L2.St) (H Hd : Hp), St0 X.K S Hd H → RpE X.K Hd en σ → wA X es σ H (QA X.K Hd Q)) := ⟨fun h => h.run⟩
theorem QD.up {K : PySem.W.Frag} {Hd Hd' H' : Hp} {Q : D → Sto → Prop} {v : V} (e : Same Hd Hd') (h : QD K Hd' Q v H') : QD K Hd Q v H' :=
  let ⟨d, S, Hd2, e2, st, r, q⟩ := h; ⟨d, S, Hd2, e.trans e2, st, r, q⟩
theorem QB.up {K : PySem.W.Frag} {Hd Hd' H' : Hp} {Q : Bool → Sto → Prop} {b : Bool} (e : Same Hd Hd') (h : QB K Hd' Q b H') : QB K Hd Q b H' :=
  let ⟨S, Hd2, e2, st, q⟩ := h; ⟨S, Hd2, e.trans e2, st, q⟩
theorem QA.up {K : PySem.W.Frag} {Hd Hd' H' : Hp} {Q : List D → Sto → Prop} {v : List V} (e : Same Hd Hd') (h : QA K Hd' Q v H') : QA K Hd Q v H' :=
  let ⟨d, S, Hd2, e2, st, r, q⟩ := h; ⟨d, S, Hd2, e.trans e2, st, r, q⟩
/-- a value that is there -/
theorem QD.here {K : PySem.W.Frag} {S : Sto} {Hd H : Hp} {Q : D → Sto → Prop} {d : D} {v : V} (st : St0 K S Hd H) (r : Rp K Hd d v) (q : Q d S) : QD K Hd Q v H := ⟨d, S, Hd, Same.refl _, st, r, q⟩

section
variable {X : Cx} {a b c e : Expr} {es : List Expr} {en : DEnv} {S : Sto} {Q : D → Sto → Prop} {pos : Pos}
theorem DE.mono {Q' : D → Sto → Prop} (h : DE X e en S Q) (k : ∀ d S', Q d S' → Q' d S') : DE X e en S Q' := ⟨fun σ H Hd st re =>
  wE_mono (h σ H Hd st re) fun _ _ ⟨d, S', Hd', e', st', r, q⟩ => ⟨d, S', Hd', e', st', r, k d S' q⟩⟩
theorem DT.mono {Q Q' : Bool → Sto → Prop} (h : DT X e en S Q) (k : ∀ d S', Q d S' → Q' d S') : DT X e en S Q' := ⟨fun σ H Hd st re =>
  wT_mono (h σ H Hd st re) fun b _ ⟨S', Hd', e', st', q⟩ => ⟨S', Hd', e', st', k b S' q⟩⟩
/-! ### names and constants -/
theorem de_name (i : Nat) {x : Str} {d : D} (q : Q d S) (he : en[i]? = some (some d) := by rfl) (hN : X.N[i]? = some x := by rfl)
    (hv : Vis X.env.scope x := by first | exact Or.inl rfl | exact Or.inr (Or.inl rfl) | exact Or.inr (Or.inr rfl)) (hd : (x == ("__debug__" : Str)) = false := by decide)
    (hcd : (x == ("__classdict__" : Str)) = false := by decide) : DE X (.Name x pos) en S Q := ⟨fun σ H Hd st re => by
  obtain ⟨v, e1, r⟩ := re.get he
  exact wE_of (pe_var hN hv hd hcd) ⟨v, e1, .here st r q⟩⟩
theorem de_int {i : Int} {j} (q : Q (.int i) S) : DE X (.Constant (.int i) j pos) en S Q := ⟨fun _ _ _ st _ => wE_of pe_int (.here (d := .int i) st rfl q)⟩
theorem de_bl {i : Bool} {j} (q : Q (.bl i) S) : DE X (.Constant (.bool i) j pos) en S Q := ⟨fun _ _ _ st _ => wE_of pe_bl (.here (d := .bl i) st rfl q)⟩
theorem de_non {j} (q : Q .non S) : DE X (.Constant .none j pos) en S Q := ⟨fun _ _ _ st _ => wE_of pe_non (.here (d := .non) st rfl q)⟩
theorem de_str {i : Str} {j} (q : Q (.str i) S) : DE X (.Constant (.str i) j pos) en S Q := ⟨fun _ _ _ st _ => wE_of pe_str (.here (d := .str i) st rfl q)⟩
theorem de_globI {x : Str} {i : Int} {u : Tok} (hm : X.mg x = some (.int i u)) (q : Q (.int i) S) (hg : Gl X x := by rfl) (hd : (x == ("__debug__" : Str)) = false := by decide) : DE X (.Name x pos) en S Q := ⟨fun _ _ _ st _ => wE_of (pe_glob (v := .int i) hg hm ⟨u, rfl⟩ hd) (.here (d := .int i) st rfl q)⟩
/-! ### operators -/
def DR2 (K : PySem.W.Frag) (r : R2) (x y : D) (S : Sto) (Q : D → Sto → Prop) : Prop :=
  ∀ (H Hd : Hp) (vx vy : V) (Qv : VK), St0 K S Hd H → Rp K Hd x vx → Rp K Hd y vy → (∀ v H', QD K Hd Q v H' → Qv v H') → r vx vy H Qv
theorem de_two {f : Value → Value → Sem Value} {r : R2} (mk : ∀ {ta tb : TE}, PE X a ta → PE X b tb → PE X e (tOp r ta tb))
    (h : DE X a en S fun x S1 => DE X b en S1 fun y S2 => DR2 X.K r x y S2 Q) : DE X e en S Q := ⟨fun σ H Hd st re => by
  refine wE_of (mk peW peW) ?_
  refine wE_mono (h σ H Hd st re) fun v H1 ⟨x, S1, Hd1, e1, st1, r1, q1⟩ => ?_
  refine wE_mono (q1 σ H1 Hd1 st1 (re.mono e1)) fun u H2 ⟨y, S2, Hd2, e2, st2, r2, q2⟩ => ?_
  exact q2 H2 Hd2 v u _ st2 (Rp.mono e2 x v r1) r2 fun w H3 z => .up (e1.trans e2) z⟩
theorem de_op {op : Operator} {r : R2} (ho : OpR X (binaryOp op) r) (h : DE X a en S fun x S1 => DE X b en S1 fun y S2 => DR2 X.K r x y S2 Q) : DE X (.BinOp a op b pos) en S Q :=
  de_two (f := binaryOp op) (pe_op ho) h
theorem de_cmpR {op : CmpOp} {r : R2} (ho : OpR X (compareOp op) r) (hm : behindInMarks op b = false) (h : DE X a en S fun x S1 => DE X b en S1 fun y S2 => DR2 X.K r x y S2 Q) : DE X (.Compare a [op] [b] pos) en S Q :=
  de_two (f := compareOp op) (fun ha hb => pe_cmpR ho ha hb hm) h
theorem dr_I {C : Int → Int → Prop} {g : Int → Int → Int} {i j : Int} {K : PySem.W.Frag} (hc : C i j) (q : Q (.int (g i j)) S) : DR2 K (rI C fun i j => .int (g i j)) (.int i) (.int j) S Q :=
  fun H Hd vx vy Qv st rx ry k => ⟨i, j, rx, ry, hc, k _ _ (.here (d := .int (g i j)) st rfl q)⟩
theorem dr_I0 {g : Int → Int → Int} {i j : Int} {K : PySem.W.Frag} (q : Q (.int (g i j)) S) : DR2 K (rI0 fun i j => .int (g i j)) (.int i) (.int j) S Q :=
  fun H Hd vx vy Qv st rx ry k => ⟨i, j, rx, ry, k _ _ (.here (d := .int (g i j)) st rfl q)⟩
theorem dr_B0 {g : Int → Int → Bool} {i j : Int} {K : PySem.W.Frag} (q : Q (.bl (g i j)) S) : DR2 K (rI0 fun i j => .bl (g i j)) (.int i) (.int j) S Q :=
  fun H Hd vx vy Qv st rx ry k => ⟨i, j, rx, ry, k _ _ (.here (d := .bl (g i j)) st rfl q)⟩

/-- list + list, lists of any kind -/
def rCatL (K : PySem.W.Frag) : R2 := fun x y H Q => ∃ l b xs zs, x = .ref l ∧ y = .ref b ∧ SqL K H l xs ∧ SqL K H b zs ∧ xs.length + zs.length ≤ sizeLine ∧ ∀ p, H p = none → Q (.ref p) (upd H p (.lst (xs ++ zs)))
theorem op_catL : OpR X (binaryOp .Add) (rCatL X.K) := by
  intro pins s σ H x y v u Q I rx ry h
  obtain ⟨l, b, xs, zs, rfl, rfl, hl, hb, hz, q⟩ := h
  cases rx
  cases ry
  obtain ⟨its, r, ⟨⟨c1, d1, da1, s1⟩, n1, g1, k1, k2, k3⟩, _⟩ := I.list hl
  obtain ⟨its2, r2, ⟨⟨c2, d2, da2, s2⟩, n2, g2, j1, j2, j3⟩, _⟩ := I.list hb
  simp only at k1 k2 k3 j1 j2 j3
  subst k1 k2 k3 j1 j2 j3
  have ez : its.toArray.size + its2.toArray.size ≤ sizeLine := by
    rw [List.size_toArray, List.size_toArray, ← r.length, ← r2.length]
    exact hz
  refine concat_meets ⟨_, g1, rfl⟩ ⟨_, g2, rfl⟩ noFill_list_add seq_list_add PySem.F.slot_list_add PySem.F.entry_list_add (PySem.F.args_list_add_2 _ _) (PyProof.Rows.list_addW l b its.toArray its2.toArray n1 n2 none none s1 s2 ez) ⟨g1, g2, ?_⟩
  have ea : its.toArray ++ its2.toArray = (its ++ its2).toArray := by simp
  rw [ea]
  exact ⟨.ref _, _, I.lnew (t' := s.toks) (r.append r2) (by rw [List.length_append]; exact hz), rfl, q _ I.fresh⟩

/-- a + b -/
def addP (x y : D) (S : Sto) (Q : D → Sto → Prop) : Prop := match x, y with
  | .int i, .int j => Q (.int (i + j)) S
  | .lst l, .lst m => l.length + m.length ≤ 100000 ∧ Q (.lst (l ++ m)) S
  | .scr l, .lst m => l.length + m.length ≤ 100000 ∧ Q (.lst (l.map D.int ++ m)) S
  | .tup l, .tup m => (l.length ≠ 0 ∧ m.length ≠ 0 ∧ l.length + m.length ≤ 100000) ∧ Q (.tup (l ++ m)) S
  | .str i, .str j => i.length + j.length ≤ sizeLine ∧ Q (.str (i ++ j)) S
  | _, _ => False
theorem RpL.ne_nil {K : PySem.W.Frag} {H : Hp} {l : List D} {vs : List V} (h : RpL K H l vs) (n : l.length ≠ 0) : vs ≠ [] := fun z => by
  have := h.length
  rw [z] at this
  exact n this.symm
theorem sz5 {n : Nat} (h : n ≤ 100000) : n ≤ sizeLine := Nat.le_trans h (by decide)
/-- the reading of a new tuple, of a new list -/
theorem new_tup {K : PySem.W.Frag} {Hd H : Hp} {l : List D} {xs : List V} {p : Addr} (st : St0 K S Hd H) (r : RpL K Hd l xs) (hp : H p = none) (q : Q (.tup l) S) : QD K Hd Q (.ref p) (upd H p (.tup xs)) := by
  obtain ⟨e, st'⟩ := st.laid (o := .tup xs) hp
  exact ⟨.tup l, S, _, e, st', ⟨p, xs, rfl, SqT.of upd_same, r.mono e⟩, q⟩
theorem new_lst {K : PySem.W.Frag} {Hd H : Hp} {l : List D} {xs : List V} {p : Addr} (st : St0 K S Hd H) (r : RpL K Hd l xs) (hp : H p = none) (q : Q (.lst l) S) : QD K Hd Q (.ref p) (upd H p (.lst xs)) := by
  obtain ⟨e, st'⟩ := st.laid (o := .lst xs) hp
  exact ⟨.lst l, S, _, e, st', ⟨p, xs, rfl, upd_same, r.mono e⟩, q⟩
theorem OpR.or {f : Value → Value → Sem Value} {r r' : R2} (h : OpR X f r) (h' : OpR X f r') : OpR X f (fun x y H Q => r x y H Q ∨ r' x y H Q) := by
  intro pins s σ H x y v u Q I rx ry q
  rcases q with q | q
  · exact h pins s σ H x y v u Q I rx ry q
  · exact h' pins s σ H x y v u Q I rx ry q
theorem de_add (h : DE X a en S fun x S1 => DE X b en S1 fun y S2 => addP x y S2 Q) : DE X (.BinOp a .Add b pos) en S Q := by
  refine de_op (OpR.or op_add (OpR.or op_catL (OpR.or op_catT op_add_str))) (h.mono fun x S1 h1 => h1.mono fun y S2 h2 => ?_)
  intro H Hd vx vy Qv st rx ry k
  unfold addP at h2
  split at h2
  · exact .inl ⟨_, _, rx, ry, k _ _ (.here (d := .int _) st rfl h2)⟩
  · rename_i l m
    obtain ⟨p, xs, e1, e2, e3⟩ := rx
    obtain ⟨p', ys, f1, f2, f3⟩ := ry
    exact .inr (.inl ⟨p, p', xs, ys, e1, f1, .of (st.sub _ _ e2), .of (st.sub _ _ f2), by rw [e3.length, f3.length]; exact sz5 h2.1, fun q hq => k _ _ (new_lst st (e3.append f3) hq h2.2)⟩)
  · rename_i l m
    obtain ⟨p, e1, e2⟩ := rx
    obtain ⟨p', ys, f1, f2, f3⟩ := ry
    exact .inr (.inl ⟨p, p', l.map V.int, ys, e1, f1, same_l st.sub e2, .of (st.sub _ _ f2), by rw [List.length_map, f3.length]; exact sz5 h2.1, fun q hq => k _ _ (new_lst st (RpL.append (RpL.ints l) f3) hq h2.2)⟩)
  · rename_i l m
    obtain ⟨p, xs, e1, e2, e3⟩ := rx
    obtain ⟨p', ys, f1, f2, f3⟩ := ry
    obtain ⟨⟨n1, n2, n3⟩, h2⟩ := h2
    refine .inr (.inr (.inl ⟨p, p', xs, ys, e1, f1, same_t st.sub e2, same_t st.sub f2, e3.ne_nil n1, by rw [e3.length, f3.length]; exact sz5 n3, fun z => absurd z (f3.ne_nil n2), fun _ q hq => k _ _ (new_tup st (e3.append f3) hq h2)⟩))
  · exact .inr (.inr (.inr ⟨_, _, rx, ry, h2.1, k _ _ (.here (d := .str _) st rfl h2.2)⟩))
  · exact h2.elim
theorem add_int {i j : Int} (q : Q (.int (i + j)) S) : addP (.int i) (.int j) S Q := q
theorem add_lst {l m : List D} (q : Q (.lst (l ++ m)) S) (h : l.length + m.length ≤ 100000) : addP (.lst l) (.lst m) S Q := ⟨h, q⟩
theorem add_scr {l : List Int} {m : List D} (q : Q (.lst (l.map D.int ++ m)) S) (h : l.length + m.length ≤ 100000) : addP (.scr l) (.lst m) S Q := ⟨h, q⟩
theorem add_tup {l m : List D} (q : Q (.tup (l ++ m)) S) (h : l.length ≠ 0 ∧ m.length ≠ 0 ∧ l.length + m.length ≤ 100000) : addP (.tup l) (.tup m) S Q := ⟨h, q⟩
/-- a - b, a * b, a // b, a % b, a ** b -/
theorem de_sub (h : DE X a en S fun x S1 => DE X b en S1 fun y S2 => ∃ i j, x = .int i ∧ y = .int j ∧ Q (.int (i - j)) S2) : DE X (.BinOp a .Sub b pos) en S Q :=
  de_op op_sub (h.mono fun _ _ h1 => h1.mono fun _ _ ⟨_, _, e1, e2, q⟩ => by subst e1 e2; exact dr_I0 q)
def mulP (x y : D) (S : Sto) (Q : D → Sto → Prop) : Prop := match x, y with
  | .int i, .int j => CMulW i j ∧ Q (.int (i * j)) S
  | .lst l, .int k => (-(2 ^ 63) ≤ k ∧ k < 2 ^ 63 ∧ l.length * k.toNat ≤ 100000) ∧ Q (.lst (List.replicate k.toNat l).flatten) S
  | _, _ => False
theorem RpL.rep {K : PySem.W.Frag} {H : Hp} {l : List D} {vs : List V} (h : RpL K H l vs) : ∀ n : Nat, RpL K H (List.replicate n l).flatten (List.replicate n vs).flatten
  | 0 => rfl
  | n + 1 => by
    rw [List.replicate_succ, List.replicate_succ, List.flatten_cons, List.flatten_cons]
    exact h.append (RpL.rep h n)
theorem de_mul (h : DE X a en S fun x S1 => DE X b en S1 fun y S2 => mulP x y S2 Q) : DE X (.BinOp a .Mult b pos) en S Q := by
  refine de_op (OpR.or op_mulW op_rep) (h.mono fun x S1 h1 => h1.mono fun y S2 h2 => ?_)
  intro H Hd vx vy Qv st rx ry k
  unfold mulP at h2
  split at h2
  · exact .inl ⟨_, _, rx, ry, h2.1, k _ _ (.here (d := .int _) st rfl h2.2)⟩
  · obtain ⟨p, xs, e1, e2, e3⟩ := rx
    obtain ⟨⟨n1, n2, n3⟩, h2⟩ := h2
    exact .inr ⟨p, _, xs, e1, ry, st.sub _ _ e2, n1, n2, by rw [e3.length]; exact sz5 n3, fun q hq => k _ _ (new_lst st (e3.rep _) hq h2)⟩
  · exact h2.elim
theorem mul_i {i j : Int} (q : Q (.int (i * j)) S) (h : CMulW i j) : mulP (.int i) (.int j) S Q := ⟨h, q⟩
theorem mul_l {l : List D} {k : Int} (q : Q (.lst (List.replicate k.toNat l).flatten) S) (h : -(2 ^ 63) ≤ k ∧ k < 2 ^ 63 ∧ l.length * k.toNat ≤ 100000) : mulP (.lst l) (.int k) S Q := ⟨h, q⟩
theorem de_fdiv (h : DE X a en S fun x S1 => DE X b en S1 fun y S2 => ∃ i j, x = .int i ∧ y = .int j ∧ CDivW i j ∧ Q (.int (i / j)) S2) : DE X (.BinOp a .FloorDiv b pos) en S Q :=
  de_op op_fdivW (h.mono fun _ _ h1 => h1.mono fun _ _ ⟨_, _, e1, e2, hc, q⟩ => by subst e1 e2; exact dr_I hc q)
theorem de_mod (h : DE X a en S fun x S1 => DE X b en S1 fun y S2 => ∃ i j, x = .int i ∧ y = .int j ∧ 0 < j ∧ Q (.int (i % j)) S2) : DE X (.BinOp a .Mod b pos) en S Q :=
  de_op op_mod (h.mono fun _ _ h1 => h1.mono fun _ _ ⟨_, _, e1, e2, hc, q⟩ => by subst e1 e2; exact dr_I hc q)
/-- a ** b, b small, a of less than 2 ^ 20 bits -/
def CPowW (i j : Int) : Prop := 0 ≤ j ∧ j ≤ 64 ∧ i.natAbs.log2 < 1000000
theorem op_powW : OpR X (binaryOp .Pow) (rI CPowW fun i j => .int (i ^ j.toNat)) := opI fun i j _ _ _ _ _ hc q => by
  obtain ⟨h1, h2, h3⟩ := hc
  refine pow_int h1 ?_ q
  have b : Builtin.Int.intBits i ≤ i.natAbs.log2 + 1 := by
    unfold Builtin.Int.intBits
    split <;> omega
  have b2 : (Builtin.Int.intBits i : Int) ≤ 1000000 := by omega
  have b3 : (Builtin.Int.intBits i : Int) * j ≤ 1000000 * 64 := Int.mul_le_mul b2 h2 h1 (by decide)
  have b4 : (1000000 * 64 : Int) ≤ 2 ^ 27 := by decide
  omega
theorem de_pow (h : DE X a en S fun x S1 => DE X b en S1 fun y S2 => ∃ i j, x = .int i ∧ y = .int j ∧ CPowW i j ∧ Q (.int (i ^ j.toNat)) S2) : DE X (.BinOp a .Pow b pos) en S Q :=
  de_op op_powW (h.mono fun _ _ h1 => h1.mono fun _ _ ⟨_, _, e1, e2, hc, q⟩ => by subst e1 e2; exact dr_I hc q)
theorem de_neg (h : DE X a en S fun x S1 => ∃ i, x = .int i ∧ Q (.int (-i)) S1) : DE X (.UnaryOp .USub a pos) en S Q := ⟨fun σ H Hd st re => by
  refine wE_of (pe_un un_neg peW) ?_
  refine wE_mono (h σ H Hd st re) fun v H1 ⟨x, S1, Hd1, e1, st1, r1, i, e2, q1⟩ => ?_
  subst e2
  exact ⟨i, r1, .up e1 (.here (d := .int (-i)) st1 rfl q1)⟩⟩
end
end DL
namespace DL
open PySem PySem.Spec PyProof.Rows L2

/-! ### data as the library's data -/
mutual
def toPy : D → PyData
  | .non => .none
  | .bl b => .bool b
  | .int i => .int i
  | .str x => .str x
  | .tup l => .tuple (toPyL l)
  | .lst l => .list (toPyL l)
  | .raw _ => .none
  | .ext _ => .none
  | .scr ns => .list (ns.map PyData.int)
def toPyL : List D → List PyData
  | [] => []
  | d :: ds => toPy d :: toPyL ds
end
mutual
/-- plain data of at most this depth -/
def flatOk : Nat → D → Bool
  | _, .non => true
  | _, .bl _ => true
  | _, .int _ => true
  | _, .str x => PyData.strOk x
  | n + 1, .tup l => flatOkL n l
  | n + 1, .lst l => flatOkL n l
  | n + 1, .scr _ => true
  | _, _ => false
def flatOkL : Nat → List D → Bool
  | _, [] => true
  | n, d :: ds => flatOk n d && flatOkL n ds
end
theorem dpAll_ints {K : PySem.W.Frag} {H : Hp} : ∀ ns : List Int, DpAll K H (ns.map V.int) (ns.map PyData.int)
  | [] => .nil
  | n :: ns => .cons (.int n) (dpAll_ints ns)
mutual
theorem dp_of {K : PySem.W.Frag} {H : Hp} : ∀ (n : Nat) (d : D) (v : V), flatOk n d = true → Rp K H d v → Dp K H v (toPy d)
  | _, .non, v, _, r => by
    have r : v = _ := r
    subst r
    exact .non
  | _, .bl b, v, _, r => by
    have r : v = _ := r
    subst r
    exact .bl b
  | _, .int i, v, _, r => by
    have r : v = _ := r
    subst r
    exact .int i
  | _, .str x, v, _, r => by
    have r : v = _ := r
    subst r
    exact .str x
  | 0, .tup l, v, h, r => by simp [flatOk] at h
  | n + 1, .tup l, v, h, r => by
    obtain ⟨a, xs, rfl, h1, h2⟩ := r
    exact .tup h1 (dpAll_of n l xs (by simpa [flatOk] using h) h2)
  | 0, .lst l, v, h, r => by simp [flatOk] at h
  | n + 1, .lst l, v, h, r => by
    obtain ⟨a, xs, rfl, h1, h2⟩ := r
    exact .lst (.of h1) (dpAll_of n l xs (by simpa [flatOk] using h) h2)
  | 0, .scr l, v, h, r => by simp [flatOk] at h
  | n + 1, .scr ns, v, h, r => by
    obtain ⟨a, rfl, h1⟩ := r
    exact .lst h1 (dpAll_ints ns)
  | 0, .raw _, v, h, r => by simp [flatOk] at h
  | _ + 1, .raw _, v, h, r => by simp [flatOk] at h
  | 0, .ext _, v, h, r => by simp [flatOk] at h
  | _ + 1, .ext _, v, h, r => by simp [flatOk] at h
theorem dpAll_of {K : PySem.W.Frag} {H : Hp} : ∀ (n : Nat) (l : List D) (vs : List V), flatOkL n l = true → RpL K H l vs → DpAll K H vs (toPyL l)
  | _, [], vs, _, r => by
    have r : vs = [] := r
    subst r
    exact .nil
  | n, d :: ds, vs, h, r => by
    obtain ⟨x, xs, rfl, h1, h2⟩ := r
    rw [flatOkL, Bool.and_eq_true] at h
    exact .cons (dp_of n d x h.1 h1) (dpAll_of n ds xs h.2 h2)
end
theorem canLay_ints : ∀ ns : List Int, PyData.canLayAll0 (ns.map PyData.int) = true
  | [] => rfl
  | n :: ns => by
    show (PyData.canLay0 (.int n) && PyData.canLayAll0 (ns.map PyData.int)) = true
    rw [canLay_ints ns] <;> rfl
theorem depth_ints : ∀ ns : List Int, PyData.depthAll (ns.map PyData.int) = 0
  | [] => rfl
  | n :: ns => by
    show max (PyData.depth (.int n)) (PyData.depthAll (ns.map PyData.int)) = 0
    rw [depth_ints ns] <;> rfl
mutual
theorem lay_of : ∀ (n : Nat) (d : D), flatOk n d = true → (toPy d).canLay0 = true ∧ (toPy d).depth ≤ n
  | _, .non, _ => ⟨rfl, Nat.zero_le _⟩
  | _, .bl b, _ => ⟨rfl, Nat.zero_le _⟩
  | _, .int b, _ => ⟨rfl, Nat.zero_le _⟩
  | _, .str b, h => ⟨by simpa [flatOk, toPy, PyData.canLay0] using h, Nat.zero_le _⟩
  | 0, .tup l, h => by simp [flatOk] at h
  | n + 1, .tup l, h => by
    obtain ⟨h1, h2⟩ := layAll_of n l (by simpa [flatOk] using h)
    exact ⟨by simpa [toPy, PyData.canLay0] using h1, by simpa [toPy, PyData.depth] using h2⟩
  | 0, .lst l, h => by simp [flatOk] at h
  | n + 1, .lst l, h => by
    obtain ⟨h1, h2⟩ := layAll_of n l (by simpa [flatOk] using h)
    exact ⟨by simpa [toPy, PyData.canLay0] using h1, by simpa [toPy, PyData.depth] using h2⟩
  | 0, .scr l, h => by simp [flatOk] at h
  | n + 1, .scr ns, h => by
    refine ⟨by simpa [toPy, PyData.canLay0] using canLay_ints ns, ?_⟩
    show PyData.depthAll (ns.map PyData.int) + 1 ≤ n + 1
    rw [depth_ints]
    omega
  | 0, .raw _, h => by simp [flatOk] at h
  | _ + 1, .raw _, h => by simp [flatOk] at h
  | 0, .ext _, h => by simp [flatOk] at h
  | _ + 1, .ext _, h => by simp [flatOk] at h
theorem layAll_of : ∀ (n : Nat) (l : List D), flatOkL n l = true → PyData.canLayAll0 (toPyL l) = true ∧ PyData.depthAll (toPyL l) ≤ n
  | _, [], _ => ⟨rfl, Nat.zero_le _⟩
  | n, d :: ds, h => by
    rw [flatOkL, Bool.and_eq_true] at h
    obtain ⟨h1, h2⟩ := lay_of n d h.1
    obtain ⟨h3, h4⟩ := layAll_of n ds h.2
    refine ⟨?_, ?_⟩
    · show (PyData.canLay0 (toPy d) && PyData.canLayAll0 (toPyL ds)) = true
      rw [h1, h3] <;> rfl
    · show max (PyData.depth (toPy d)) (PyData.depthAll (toPyL ds)) ≤ n
      omega
end
theorem shaped_of {n : Nat} {d : D} (h : flatOk n d = true) (hn : n ≤ 64) : SeqAt.shaped (toPy d) = true := by
  obtain ⟨h1, h2⟩ := lay_of n d h
  unfold SeqAt.shaped
  rw [h1, decide_eq_true (show (toPy d).depth ≤ 64 by omega)] <;> rfl
/-- how data is compared -/
def eqB (x y : D) : Bool := PyData.eqv (toPy x) (toPy y)
theorem eqB_refl {n : Nat} {d : D} (h : flatOk n d = true) : eqB d d = true := PySem.SeqAt.eqv_refl _ (lay_of n d h).1
section
variable {X : Cx} {a b c e : Expr} {es : List Expr} {en : DEnv} {S : Sto} {Q : D → Sto → Prop} {pos : Pos}
/-! ### comparisons as values -/
def eqP (x y : D) (S : Sto) (Q : Bool → Sto → Prop) : Prop := match x, y with
  | .int i, .int j => Q (decide (i = j)) S
  | .str i, .str j => Q (decide (i = j)) S
  | x, y => (flatOk 9 x = true ∧ flatOk 9 y = true) ∧ Q (eqB x y) S
theorem dr_eq {K : PySem.W.Frag} {x y : D} (h : eqP x y S fun b S' => Q (.bl b) S') : DR2 K (fun x y H Q => rEq x y H Q ∨ rEqD K x y H Q) x y S Q := by
  intro H Hd vx vy Qv st rx ry k
  have deep : (flatOk 9 x = true ∧ flatOk 9 y = true) ∧ Q (.bl (eqB x y)) S → rEqD K vx vy H Qv := fun ⟨⟨h1, h2⟩, q⟩ =>
    ⟨toPy x, toPy y, dp_of 9 x vx h1 (Rp.mono st.sub x vx rx), dp_of 9 y vy h2 (Rp.mono st.sub y vy ry), shaped_of h1 (by decide), shaped_of h2 (by decide), k _ _ (.here (d := .bl (eqB x y)) st rfl q)⟩
  unfold eqP at h
  split at h
  · rename_i i j
    have e1 : vx = .int i := rx
    have e2 : vy = .int j := ry
    subst e1 e2
    refine .inl ⟨rfl, ?_⟩
    have e : decide (V.int i = V.int j) = decide (i = j) := by simp
    rw [e]
    exact k _ _ (.here (d := .bl (decide (i = j))) st rfl h)
  · rename_i i j
    have e1 : vx = .str i := rx
    have e2 : vy = .str j := ry
    subst e1 e2
    refine .inl ⟨rfl, ?_⟩
    have e : decide (V.str i = V.str j) = decide (i = j) := by simp
    rw [e]
    exact k _ _ (.here (d := .bl (decide (i = j))) st rfl h)
  · exact .inr (deep h)
theorem dr_ne {K : PySem.W.Frag} {x y : D} (h : eqP x y S fun b S' => Q (.bl (!b)) S') : DR2 K (fun x y H Q => rNe x y H Q ∨ rNeD K x y H Q) x y S Q := by
  intro H Hd vx vy Qv st rx ry k
  have deep : (flatOk 9 x = true ∧ flatOk 9 y = true) ∧ Q (.bl (!eqB x y)) S → rNeD K vx vy H Qv := fun ⟨⟨h1, h2⟩, q⟩ =>
    ⟨toPy x, toPy y, dp_of 9 x vx h1 (Rp.mono st.sub x vx rx), dp_of 9 y vy h2 (Rp.mono st.sub y vy ry), shaped_of h1 (by decide), shaped_of h2 (by decide), k _ _ (.here (d := .bl (!eqB x y)) st rfl q)⟩
  unfold eqP at h
  split at h
  · rename_i i j
    have e1 : vx = .int i := rx
    have e2 : vy = .int j := ry
    subst e1 e2
    refine .inl ⟨rfl, ?_⟩
    have e : decide (V.int i = V.int j) = decide (i = j) := by simp
    rw [e]
    exact k _ _ (.here (d := .bl (!decide (i = j))) st rfl h)
  · rename_i i j
    have e1 : vx = .str i := rx
    have e2 : vy = .str j := ry
    subst e1 e2
    refine .inl ⟨rfl, ?_⟩
    have e : decide (V.str i = V.str j) = decide (i = j) := by simp
    rw [e]
    exact k _ _ (.here (d := .bl (!decide (i = j))) st rfl h)
  · exact .inr (deep h)
theorem eq_int {i j : Int} {Q : Bool → Sto → Prop} (q : Q (decide (i = j)) S) : eqP (.int i) (.int j) S Q := q
theorem eq_str {i j : Str} {Q : Bool → Sto → Prop} (q : Q (decide (i = j)) S) : eqP (.str i) (.str j) S Q := q
theorem eq_tup {l m : List D} {Q : Bool → Sto → Prop} (q : Q (eqB (.tup l) (.tup m)) S) (h : flatOk 9 (.tup l) = true ∧ flatOk 9 (.tup m) = true := by exact ⟨rfl, rfl⟩) : eqP (.tup l) (.tup m) S Q := ⟨h, q⟩
theorem eq_lst {l m : List D} {Q : Bool → Sto → Prop} (q : Q (eqB (.lst l) (.lst m)) S) (h : flatOk 9 (.lst l) = true ∧ flatOk 9 (.lst m) = true := by exact ⟨rfl, rfl⟩) : eqP (.lst l) (.lst m) S Q := ⟨h, q⟩
theorem eq_scr {l : List Int} {m : List D} {Q : Bool → Sto → Prop} (q : Q (eqB (.scr l) (.lst m)) S) (h : flatOk 9 (.scr l) = true ∧ flatOk 9 (.lst m) = true := by exact ⟨rfl, rfl⟩) : eqP (.scr l) (.lst m) S Q := ⟨h, q⟩
/-- two equal data -/
theorem eqP_same {x y : D} {Q : Bool → Sto → Prop} (z : x = y) (h : flatOk 9 x = true) (q : Q true S) : eqP x y S Q := by
  subst z
  have e := eqB_refl h
  cases x <;> first
    | (refine ⟨⟨h, h⟩, ?_⟩
       rw [e]
       exact q)
    | (show Q (decide (_ = _)) S
       rw [decide_eq_true rfl]
       exact q)
theorem de_eq (hu : X.A.units + 64 < cLine) (h : DE X a en S fun x S1 => DE X b en S1 fun y S2 => eqP x y S2 fun b S' => Q (.bl b) S') : DE X (.Compare a [.Eq] [b] pos) en S Q :=
  de_cmpR (OpR.or op_eq (op_eqD hu)) (nobehind _ (by decide) (by decide)) (h.mono fun _ _ h1 => h1.mono fun _ _ h2 => dr_eq h2)
theorem de_ne (hu : X.A.units + 64 < cLine) (h : DE X a en S fun x S1 => DE X b en S1 fun y S2 => eqP x y S2 fun b S' => Q (.bl (!b)) S') : DE X (.Compare a [.NotEq] [b] pos) en S Q :=
  de_cmpR (OpR.or op_ne (op_neD hu)) (nobehind _ (by decide) (by decide)) (h.mono fun _ _ h1 => h1.mono fun _ _ h2 => dr_ne h2)
theorem de_lt (h : DE X a en S fun x S1 => DE X b en S1 fun y S2 => ∃ i j, x = .int i ∧ y = .int j ∧ Q (.bl (decide (i < j))) S2) : DE X (.Compare a [.Lt] [b] pos) en S Q :=
  de_cmpR op_lt (nobehind _ (by decide) (by decide)) (h.mono fun _ _ h1 => h1.mono fun _ _ ⟨_, _, e1, e2, q⟩ => by subst e1 e2; exact dr_B0 q)
theorem de_gt (h : DE X a en S fun x S1 => DE X b en S1 fun y S2 => ∃ i j, x = .int i ∧ y = .int j ∧ Q (.bl (decide (j < i))) S2) : DE X (.Compare a [.Gt] [b] pos) en S Q :=
  de_cmpR op_gt (nobehind _ (by decide) (by decide)) (h.mono fun _ _ h1 => h1.mono fun _ _ ⟨_, _, e1, e2, q⟩ => by subst e1 e2; exact dr_B0 q)
/-! ### truths as values -/
theorem de_not (h : DE X a en S fun x S1 => ∃ c, x = .bl c ∧ Q (.bl (!c)) S1) : DE X (.UnaryOp .Not a pos) en S Q := ⟨fun σ H Hd st re => by
  refine wE_of (pe_not peW) ?_
  refine wE_mono (h σ H Hd st re) fun v H1 ⟨x, S1, Hd1, e1, st1, r1, i, e2, q1⟩ => ?_
  subst e2
  exact ⟨i, r1, .up e1 (.here (d := .bl (!i)) st1 rfl q1)⟩⟩
theorem de_one {op} (h : DE X a en S Q) : DE X (.BoolOp op [a] pos) en S Q := ⟨fun σ H Hd st re => wE_of (pe_one peW) (h σ H Hd st re)⟩
theorem de_and {rest : List Expr} (h : DE X a en S fun x S1 => ∃ c, x = .bl c ∧ (c = false → Q (.bl false) S1) ∧ (c = true → DE X (.BoolOp .And (b :: rest) pos) en S1 Q)) : DE X (.BoolOp .And (a :: b :: rest) pos) en S Q := ⟨fun σ H Hd st re => by
  refine wE_of (pe_and peW peW) ?_
  refine wE_mono (h σ H Hd st re) fun v H1 ⟨x, S1, Hd1, e1, st1, r1, i, e2, q1, q2⟩ => ?_
  subst e2
  refine ⟨i, r1, ?_⟩
  cases i with
  | true =>
    rw [if_pos rfl]
    exact wE_mono (q2 rfl σ H1 Hd1 st1 (re.mono e1)) fun _ _ z => .up e1 z
  | false =>
    rw [if_neg Bool.false_ne_true]
    exact .up e1 (.here (d := .bl false) st1 rfl (q1 rfl))⟩
theorem de_or {rest : List Expr} (h : DE X a en S fun x S1 => ∃ c, x = .bl c ∧ (c = true → Q (.bl true) S1) ∧ (c = false → DE X (.BoolOp .Or (b :: rest) pos) en S1 Q)) : DE X (.BoolOp .Or (a :: b :: rest) pos) en S Q := ⟨fun σ H Hd st re => by
  refine wE_of (pe_or peW peW) ?_
  refine wE_mono (h σ H Hd st re) fun v H1 ⟨x, S1, Hd1, e1, st1, r1, i, e2, q1, q2⟩ => ?_
  subst e2
  refine ⟨i, r1, ?_⟩
  cases i with
  | false =>
    rw [if_neg Bool.false_ne_true]
    exact wE_mono (q2 rfl σ H1 Hd1 st1 (re.mono e1)) fun _ _ z => .up e1 z
  | true =>
    rw [if_pos rfl]
    exact .up e1 (.here (d := .bl true) st1 rfl (q1 rfl))⟩
theorem de_ifE (h : DT X c en S fun t S1 => (t = true → DE X a en S1 Q) ∧ (t = false → DE X b en S1 Q)) : DE X (.IfExp c a b pos) en S Q := ⟨fun σ H Hd st re => by
  refine wE_of (pe_ifExp ptW peW peW) ?_
  refine wT_mono (h σ H Hd st re) fun t H1 ⟨S1, Hd1, e1, st1, q1, q2⟩ => ?_
  cases t with
  | true =>
    rw [if_pos rfl]
    exact wE_mono (q1 rfl σ H1 Hd1 st1 (re.mono e1)) fun _ _ z => .up e1 z
  | false =>
    rw [if_neg Bool.false_ne_true]
    exact wE_mono (q2 rfl σ H1 Hd1 st1 (re.mono e1)) fun _ _ z => .up e1 z⟩
/-! ### tests -/
variable {P : Bool → Sto → Prop}
theorem dt_val (h : DE X a en S fun x S1 => ∃ c, x = .bl c ∧ P c S1) (he : ∀ whole, isTrue a X.env whole = (do let v ← whole; standAt a.pos; holding [v] (truthy v)) := by intro _; rfl) : DT X a en S P := ⟨fun σ H Hd st re => by
  refine wT_of (pt_val peW he) ?_
  refine wE_mono (h σ H Hd st re) fun v H1 ⟨x, S1, Hd1, e1, st1, r1, i, e2, q1⟩ => ?_
  subst e2
  exact ⟨i, r1, S1, Hd1, e1, st1, q1⟩⟩
theorem dt_not (h : DT X a en S fun c S1 => P (!c) S1) : DT X (.UnaryOp .Not a pos) en S P := ⟨fun σ H Hd st re => by
  refine wT_of (pt_not ptW) ?_
  exact wT_mono (h σ H Hd st re) fun c H1 ⟨S1, Hd1, e1, st1, q⟩ => ⟨S1, Hd1, e1, st1, q⟩⟩
theorem dt_w (h : DW X a en S P) : DT X a en S P := ⟨fun σ H Hd st re => wT_of (PW.pt pwW) (h σ H Hd st re)⟩
theorem dw_and1 (h : DT X a en S P) : DW X (.BoolOp .And [a] pos) en S P := ⟨fun σ H Hd st re => wW_of (pw_and1 ptW) (h σ H Hd st re)⟩
theorem dw_or1 (h : DT X a en S P) : DW X (.BoolOp .Or [a] pos) en S P := ⟨fun σ H Hd st re => wW_of (pw_or1 ptW) (h σ H Hd st re)⟩
theorem dw_and {rest : List Expr} (h : DT X a en S fun c S1 => (c = false → P false S1) ∧ (c = true → DW X (.BoolOp .And (b :: rest) pos) en S1 P)) : DW X (.BoolOp .And (a :: b :: rest) pos) en S P := ⟨fun σ H Hd st re => by
  refine wW_of (pw_and ptW pwW) ?_
  refine wT_mono (h σ H Hd st re) fun c H1 ⟨S1, Hd1, e1, st1, q1, q2⟩ => ?_
  cases c with
  | true =>
    rw [if_pos rfl]
    exact wW_mono (q2 rfl σ H1 Hd1 st1 (re.mono e1)) fun _ _ z => .up e1 z
  | false =>
    rw [if_neg Bool.false_ne_true]
    exact ⟨S1, Hd1, e1, st1, q1 rfl⟩⟩
theorem dw_or {rest : List Expr} (h : DT X a en S fun c S1 => (c = true → P true S1) ∧ (c = false → DW X (.BoolOp .Or (b :: rest) pos) en S1 P)) : DW X (.BoolOp .Or (a :: b :: rest) pos) en S P := ⟨fun σ H Hd st re => by
  refine wW_of (pw_or ptW pwW) ?_
  refine wT_mono (h σ H Hd st re) fun c H1 ⟨S1, Hd1, e1, st1, q1, q2⟩ => ?_
  cases c with
  | false =>
    rw [if_neg Bool.false_ne_true]
    exact wW_mono (q2 rfl σ H1 Hd1 st1 (re.mono e1)) fun _ _ z => .up e1 z
  | true =>
    rw [if_pos rfl]
    exact ⟨S1, Hd1, e1, st1, q1 rfl⟩⟩
/-- a comparison as a test -/
theorem dt_cmp {op : CmpOp} {r : R2} (ho : OpR X (compareOp op) r) (hm : behindInMarks op b = false) (h : DE X a en S fun x S1 => DE X b en S1 fun y S2 => DR2 X.K r x y S2 fun d S' => ∃ c, d = .bl c ∧ P c S') : DT X (.Compare a [op] [b] pos) en S P := ⟨fun σ H Hd st re => by
  refine wT_of (pt_cmpR ho peW peW hm) ?_
  refine wE_mono (h σ H Hd st re) fun v H1 ⟨x, S1, Hd1, e1, st1, r1, q1⟩ => ?_
  refine wE_mono (q1 σ H1 Hd1 st1 (re.mono e1)) fun u H2 ⟨y, S2, Hd2, e2, st2, r2, q2⟩ => ?_
  refine q2 H2 Hd2 v u _ st2 (Rp.mono e2 x v r1) r2 fun w H3 ⟨d, S3, Hd3, e3, st3, r3, c, ed, q3⟩ => ?_
  subst ed
  exact ⟨c, r3, S3, Hd3, (e1.trans e2).trans e3, st3, q3⟩⟩
theorem dt_lt (h : DE X a en S fun x S1 => DE X b en S1 fun y S2 => ∃ i j, x = .int i ∧ y = .int j ∧ P (decide (i < j)) S2) : DT X (.Compare a [.Lt] [b] pos) en S P :=
  dt_cmp op_lt (nobehind _ (by decide) (by decide)) (h.mono fun _ _ h1 => h1.mono fun _ _ ⟨_, _, e1, e2, q⟩ => by subst e1 e2; exact dr_B0 ⟨_, rfl, q⟩)
theorem dt_gt (h : DE X a en S fun x S1 => DE X b en S1 fun y S2 => ∃ i j, x = .int i ∧ y = .int j ∧ P (decide (j < i)) S2) : DT X (.Compare a [.Gt] [b] pos) en S P :=
  dt_cmp op_gt (nobehind _ (by decide) (by decide)) (h.mono fun _ _ h1 => h1.mono fun _ _ ⟨_, _, e1, e2, q⟩ => by subst e1 e2; exact dr_B0 ⟨_, rfl, q⟩)
theorem dt_eq (hu : X.A.units + 64 < cLine) (h : DE X a en S fun x S1 => DE X b en S1 fun y S2 => eqP x y S2 P) : DT X (.Compare a [.Eq] [b] pos) en S P :=
  dt_cmp (OpR.or op_eq (op_eqD hu)) (nobehind _ (by decide) (by decide)) (h.mono fun _ _ h1 => h1.mono fun x y h2 => dr_eq (by
    unfold eqP at h2 ⊢
    split at h2 <;> first | exact ⟨_, rfl, h2⟩ | exact ⟨h2.1, _, rfl, h2.2⟩))
theorem dt_ne (hu : X.A.units + 64 < cLine) (h : DE X a en S fun x S1 => DE X b en S1 fun y S2 => eqP x y S2 fun b S' => P (!b) S') : DT X (.Compare a [.NotEq] [b] pos) en S P :=
  dt_cmp (OpR.or op_ne (op_neD hu)) (nobehind _ (by decide) (by decide)) (h.mono fun _ _ h1 => h1.mono fun x y h2 => dr_ne (by
    unfold eqP at h2 ⊢
    split at h2 <;> first | exact ⟨_, rfl, h2⟩ | exact ⟨h2.1, _, rfl, h2.2⟩))
/-! ### displays, subscripts, slices -/
variable {R : List D → Sto → Prop}
theorem da_nil (q : R [] S) : DA X [] en S R := ⟨fun σ H Hd st _ => wA_of pa_nil ⟨[], S, Hd, Same.refl _, st, rfl, q⟩⟩
theorem da_cons (h : DE X e en S fun x S1 => DA X es en S1 fun xs S2 => R (x :: xs) S2) (hs : starEach (e :: es) X.env = (false, eval e X.env) :: starEach es X.env := by rfl) : DA X (e :: es) en S R := ⟨fun σ H Hd st re => by
  refine wA_of (pa_cons peW paW hs) ?_
  refine wE_mono (h σ H Hd st re) fun v H1 ⟨x, S1, Hd1, e1, st1, r1, q1⟩ => ?_
  refine wA_mono (q1 σ H1 Hd1 st1 (re.mono e1)) fun vs H2 ⟨xs, S2, Hd2, e2, st2, r2, q2⟩ => ?_
  exact ⟨x :: xs, S2, Hd2, e1.trans e2, st2, ⟨v, vs, rfl, Rp.mono e2 x v r1, r2⟩, q2⟩⟩
theorem DA.mono {R' : List D → Sto → Prop} (h : DA X es en S R) (k : ∀ d S', R d S' → R' d S') : DA X es en S R' := ⟨fun σ H Hd st re =>
  wA_mono (h σ H Hd st re) fun _ _ ⟨d, S', Hd', e', st', r, q⟩ => ⟨d, S', Hd', e', st', r, k d S' q⟩⟩
theorem de_tup {x1} (h : DA X es en S fun xs S1 => xs.length ≤ 100000 ∧ Q (.tup xs) S1) : DE X (.Tuple es x1 pos) en S Q := ⟨fun σ H Hd st re => by
  refine wE_of (pe_tup paW) ?_
  refine wA_mono (h σ H Hd st re) fun vs H1 ⟨xs, S1, Hd1, e1, st1, r1, n1, q1⟩ => ?_
  exact ⟨by rw [r1.length]; exact sz5 n1, fun p hp => .up e1 (new_tup st1 r1 hp q1)⟩⟩
theorem de_lst (h : DA X es en S fun xs S1 => xs.length ≤ 100000 ∧ Q (.lst xs) S1) : DE X (.List es pos) en S Q := ⟨fun σ H Hd st re => by
  refine wE_of (pe_lst paW) ?_
  refine wA_mono (h σ H Hd st re) fun vs H1 ⟨xs, S1, Hd1, e1, st1, r1, n1, q1⟩ => ?_
  exact ⟨by rw [r1.length]; exact sz5 n1, fun p hp => .up e1 (new_lst st1 r1 hp q1)⟩⟩
/-- a list that will be changed -/
theorem de_lstO (h : DA X es en S fun xs S1 => xs.length ≤ 100000 ∧ ∀ p, getS p S1 = none → Q (.raw (.ref p)) ((p, xs) :: S1)) : DE X (.List es pos) en S Q := ⟨fun σ H Hd st re => by
  refine wE_of (pe_lst paW) ?_
  refine wA_mono (h σ H Hd st re) fun vs H1 ⟨xs, S1, Hd1, e1, st1, r1, n1, q1⟩ => ?_
  refine ⟨by rw [r1.length]; exact sz5 n1, fun p hp => ?_⟩
  obtain ⟨g, st2⟩ := st1.laidO hp r1
  exact ⟨.raw (.ref p), _, Hd1, e1, st2, rfl, q1 p g⟩⟩
def ixP (x y : D) (S : Sto) (Q : D → Sto → Prop) : Prop := match x, y with
  | .tup l, .int i => ∃ d, atI l i = some d ∧ Q d S
  | .lst l, .int i => ∃ d, atI l i = some d ∧ Q d S
  | .raw (.ref p), .int i => ∃ l d, getS p S = some l ∧ atI l i = some d ∧ Q d S
  | _, _ => False
theorem RpL.at {K : PySem.W.Frag} {H : Hp} {l : List D} {vs : List V} {i : Int} {d : D} (h : RpL K H l vs) (e : atI l i = some d) : ∃ v, atI vs i = some v ∧ Rp K H d v := by
  unfold atI at e ⊢
  rw [h.length]
  cases q : ixN l.length i with
  | none =>
    rw [q] at e
    cases e
  | some j =>
    rw [q] at e
    exact h.get e
theorem de_ix (hs : PlainIx b := by exact fun _ _ => rfl) (h : DE X a en S fun x S1 => DE X b en S1 fun y S2 => ixP x y S2 Q) : DE X (.Subscript a b pos) en S Q := by
  refine de_two (f := fun _ _ => pure .none) (fun ha hb => pe_ix (IxR.or ix_list ix_tup) ha hb hs) (h.mono fun x S1 h1 => h1.mono fun y S2 h2 => ?_)
  intro H Hd vx vy Qv st rx ry k
  unfold ixP at h2
  split at h2
  · obtain ⟨p, xs, e1, e2, e3⟩ := rx
    obtain ⟨d, ed, q⟩ := h2
    obtain ⟨v, ev, rv⟩ := e3.at ed
    exact .inr ⟨p, xs, _, v, e1, ry, same_t st.sub e2, ev, k _ _ (.here st rv q)⟩
  · obtain ⟨p, xs, e1, e2, e3⟩ := rx
    obtain ⟨d, ed, q⟩ := h2
    obtain ⟨v, ev, rv⟩ := e3.at ed
    exact .inl ⟨p, xs, _, v, e1, ry, .of (st.sub _ _ e2), ev, k _ _ (.here st rv q)⟩
  · obtain ⟨l, d, g, ed, q⟩ := h2
    obtain ⟨_, xs, e2, e3⟩ := st.own.at g
    obtain ⟨v, ev, rv⟩ := e3.at ed
    exact .inl ⟨_, xs, _, v, rx, ry, .of e2, ev, k _ _ (.here st rv q)⟩
  · exact h2.elim
theorem ix_t {l : List D} {i : Int} {d : D} (q : Q d S) (h : atI l i = some d := by rfl) : ixP (.tup l) (.int i) S Q := ⟨d, h, q⟩
theorem ix_l {l : List D} {i : Int} {d : D} (q : Q d S) (h : atI l i = some d := by rfl) : ixP (.lst l) (.int i) S Q := ⟨d, h, q⟩
theorem ix_o {p : Addr} {l : List D} {i : Int} {d : D} (g : getS p S = some l) (q : Q d S) (h : atI l i = some d := by rfl) : ixP (.raw (.ref p)) (.int i) S Q := ⟨l, d, g, h, q⟩
/-- the part of a slice -/
def DO (X : Cx) (e : Option Expr) (en : DEnv) (S : Sto) (Q : Option Int → Prop) : Prop := match e with
  | none => Q none
  | some e => DE X e en S fun x S' => S' = S ∧ ∃ i, x = .int i ∧ Q (some i)
def cutD (l : List D) (lo hi : Option Int) : List D := (l.drop (HT.sIx l.length 0 lo)).take (HT.sIx l.length l.length hi - HT.sIx l.length 0 lo)
theorem RpL.cut {K : PySem.W.Frag} {H : Hp} {l : List D} {vs : List V} (h : RpL K H l vs) (lo hi : Option Int) : RpL K H (cutD l lo hi) (cutV vs lo hi) := by
  unfold cutD cutV
  rw [h.length]
  exact (h.drop _).take _
theorem SlR.or {r r' : V → Option Int → Option Int → Hp → VK → Prop} (h : SlR X r) (h' : SlR X r') : SlR X (fun x l u H Q => r x l u H Q ∨ r' x l u H Q) := by
  intro pins s σ H x v vl vu lo hi sl Q I rx hs pl pu q
  rcases q with q | q
  · exact h pins s σ H x v vl vu lo hi sl Q I rx hs pl pu q
  · exact h' pins s σ H x v vl vu lo hi sl Q I rx hs pl pu q
def slP (x : D) (lo hi : Option Int) (S : Sto) (Q : D → Sto → Prop) : Prop := match x with
  | .tup l => ¬ (HT.sIx l.length 0 lo = 0 ∧ HT.sIx l.length l.length hi = l.length) ∧ Q (.tup (cutD l lo hi)) S
  | .lst l => Q (.lst (cutD l lo hi)) S
  | _ => False
theorem de_slice {lo hi : Option Expr} {p2 : Pos} (h : DE X a en S fun x S1 => DO X lo en S1 fun l => DO X hi en S1 fun u => slP x l u S1 Q) : DE X (.Subscript a (.Slice lo hi none p2) pos) en S Q := ⟨fun σ H Hd st re => by
  -- each part's own reading
  have part : ∀ (o : Option Expr), ∃ t : TO, PO X o t ∧ ∀ {S : Sto} {R : Option Int → Prop} (H Hd : Hp), DO X o en S R → St0 X.K S Hd H → RpE X.K Hd en σ → ∀ Qo : Option Int → Hp → Prop, (∀ i H' Hd', Same Hd Hd' → St0 X.K S Hd' H' → R i → Qo i H') → t σ H Qo := by
    intro o
    cases o with
    | none => exact ⟨_, po_none, fun H Hd d st re Qo k => k none H Hd (Same.refl _) st d⟩
    | some e =>
      refine ⟨_, po_some peW, fun {S R} H Hd d st re Qo k => ?_⟩
      have d : DE X e en S fun x S' => S' = S ∧ ∃ i, x = .int i ∧ R (some i) := d
      show wE X e σ H _
      refine wE_mono (d σ H Hd st re) fun v H1 ⟨x, S1, Hd1, e1, st1, r1, eS, i, ex, q⟩ => ?_
      subst ex eS
      exact ⟨i, r1, k (some i) H1 Hd1 e1 st1 q⟩
  obtain ⟨tl, pl, kl⟩ := part lo
  obtain ⟨th, ph, kh⟩ := part hi
  refine wE_of (pe_slice (SlR.or sl_list sl_tup) peW pl ph) ?_
  refine wE_mono (h σ H Hd st re) fun v H1 ⟨x, S1, Hd1, e1, st1, r1, q1⟩ => ?_
  refine kl H1 Hd1 q1 st1 (re.mono e1) _ fun l H2 Hd2 e2 st2 q2 => ?_
  refine kh H2 Hd2 q2 st2 (re.mono (e1.trans e2)) _ fun u H3 Hd3 e3 st3 q3 => ?_
  have r3 := Rp.mono (e2.trans e3) x v r1
  unfold slP at q3
  split at q3
  · obtain ⟨p, xs, f1, f2, f3⟩ := r3
    refine .inr ⟨p, xs, f1, same_t st3.sub f2, ?_, fun a ha => .up ((e1.trans e2).trans e3) (new_tup st3 (f3.cut l u) ha q3.2)⟩
    rw [f3.length]
    exact q3.1
  · obtain ⟨p, xs, f1, f2, f3⟩ := r3
    exact .inl ⟨p, xs, f1, .of (st3.sub _ _ f2), fun a ha => .up ((e1.trans e2).trans e3) (new_lst st3 (f3.cut l u) ha q3)⟩
  · exact q3.elim⟩
end
end DL
namespace DL
open PySem PySem.Spec PyProof.Rows L2

/-! ### promises of defs that may show data (repr): nothing is being shown around them -/
structure GOk (P : Program) (w : World) (K : PySem.W.Frag) (mg : Str → Option Value) (base : Heap) (k : Nat) (f : Addr) (fd : FuncData) (ps : List Str) (sp : Sp) : Prop where
  len : ∀ vs H Q E, sp vs H Q E → vs.length = ps.length
  run : ∀ (A : Around) (fr : List Env) (s : Shared) (H : Hp) (ar : Args) (us : List Value) (vs : List V) (Q : VK) (E : XK), A.guards = some [] → Room k A →
    Env0 P w K mg base A fr s H → BindsTo s fd ar (ps.zip us) → Vals vs us → sp vs H Q E → codeAny (model P w) A (.call (.ref f) ar) (CR CX0 fr P w H s Q E) s
section
variable {P : Program} {w : World} {K : PySem.W.Frag} {mg : Str → Option Value} {base : Heap}
/-- a def of the text keeps its promise, by its body -/
theorem gok_of {k : Nat} {x qual : Str} {st : Stmt} {f : Addr} {fd : FuncData} {N ps : List Str} {sp : Sp} (F : Fun K x qual st f fd) (S : FnScope N ps (defScope st)) (ln : ∀ vs H Q E, sp vs H Q E → vs.length = ps.length)
    (body : ∀ (cdv : Value) (A : Around) (fr : List Env) (s : Shared) (H : Hp) (vs : List V) (Q : VK) (E : XK), (A.deeper (envOfC qual (defScope st) s.heap.objs.size f cdv)).guards = some [] → Room k (A.deeper (envOfC qual (defScope st) s.heap.objs.size f cdv)) → sp vs H Q E →
      wSs (cxOf CX0 P w K mg base N qual (defScope st) f cdv A fr s H E).nox (defBody st) { nx := fun _ H' => Q .non H', rt := Q } (start N vs) H) : GOk P w K mg base (k + 1) f fd ps sp := by
  obtain ⟨oc, od, kV, doc, pm, an, cdv, ct, osl, rfl, lk, hcd⟩ := F.ex
  refine ⟨ln, fun A fr s H ar us vs Q E gd hr e0 hb r hsp => ?_⟩
  have long := ln _ _ _ _ hsp
  have KX : K.In s.heap := e0.mod.kin.keeps fun b o e => (e0.bs b o e).1
  have free : s.heap.NoLimit := e0.mod.nolimit.keeps fun b o e => (e0.bs b o e).1
  refine codeAny_call_function hr.depth (KX _ _ lk) rfl S.co S.gen rfl (PySem.W.codeRec_of KX hcd) (hb _ _ _ _ ?_)
  refine wpAny_newFunctionEnv_cells S.kind (fun y hy => ?_) fun env he s1 xx => ?_
  · obtain ⟨n, v⟩ := y
    rcases S.par n (List.of_mem_zip hy).1 with z | z
    · exact .inl z
    · exact .inr ⟨z, PySem.W.cellsFrom_some _ _ _ (.inl z)⟩
  subst he
  refine ⟨free.keeps xx.toInCall.keep, codeAny_func ?_⟩
  have J : Inv (cxOf CX0 P w K mg base N qual (defScope st) f cdv A fr s H E) [] (start N vs) H s1 := inv_start S hr.hd e0 long r xx
  have run := (pssW (X := (cxOf CX0 P w K mg base N qual (defScope st) f cdv A fr s H E).nox) (sts := defBody st)).nox.run [] s1 (start N vs) H _ J (body cdv A fr s H vs Q E gd (hr.deeper _) hsp)
  refine wpAny_mono run (fun fl s' hs => ?_) fun e s' hs => hs
  have out : ∀ {σ' : L2.St} {H' : Hp} {v : V} {u : Value}, Inv (cxOf CX0 P w K mg base N qual (defScope st) f cdv A fr s H E) [] σ' H' s' → RelV v u → Q v H' → CE fr P w H s Q u s' :=
    fun {σ' H' v u} I rv q => ⟨v, H', I.os, I.bare, I.base, I.hok, rv, q⟩
  cases fl with
  | ret u =>
    obtain ⟨v, σ', H', I, rv, q⟩ := hs
    exact out I rv q
  | next =>
    obtain ⟨σ', H', I, q⟩ := hs
    exact out (v := V.non) (u := Value.none) I rfl q
  | brk => exact hs.elim fun _ h => h.elim fun _ h => h.2.elim
  | cont => exact hs.elim fun _ h => h.elim fun _ h => h.2.elim
end

/-! ### what a def does to data -/
abbrev Con := List D → Sto → (D → Sto → Prop) → Prop
def spD (K : PySem.W.Frag) (C : Con) : Sp := fun vs H Q _ => ∃ (ds : List D) (S : Sto) (Hd : Hp) (Qd : D → Sto → Prop), RpL K Hd ds vs ∧ St0 K S Hd H ∧ C ds S Qd ∧
  ∀ d S' v H' Hd', Qd d S' → Same Hd Hd' → St0 K S' Hd' H' → Rp K Hd' d v → Q v H'
/-- the values in the parameters' order, the named ones by their names -/
def ordV {α : Type} (df : α) (names ks : List Str) (zs : List α) : List α := names.map fun x => ((ks.zip zs).lookup x).getD df
/-- how such a call's arguments are bound: n of them by position -/
def KwOk (fd : FuncData) (ps : List Str) (p : Nat × List Str) : Prop := p.1 + p.2.length = ps.length ∧ (∀ y ∈ ps.drop p.1, y ∈ p.2) ∧
  ∀ us ws : List Value, us.length = p.1 → ws.length = p.2.length → bindArgs fd ⟨us, p.2.zip ws⟩ = pure (ps.zip (us ++ ordV .none (ps.drop p.1) p.2 ws))
/-- a def that stands in the module under the name x, with its promise -/
structure Cal (P : Program) (w : World) (K : PySem.W.Frag) (mg : Str → Option Value) (base : Heap) (k : Nat) (x : Str) (ps : List Str) (kws : List (Nat × List Str)) (C : Con) : Prop where
  ex : ∃ (f : Addr) (fd : FuncData), GOk P w K mg base k f fd ps (spD K C) ∧ mg x = some (.ref f) ∧ PySem.W.keepIn K (.ref f) = true ∧
    (∀ us : List Value, us.length = ps.length → bindArgs fd ⟨us, []⟩ = pure (ps.zip us)) ∧ ∀ p ∈ kws, KwOk fd ps p
theorem RpL.vals {K : PySem.W.Frag} {H : Hp} {ds : List D} {vs : List V} (h : RpL K H ds vs) : vs.length = ds.length := h.length
theorem lookup_rp {K : PySem.W.Frag} {H : Hp} {y : Str} : ∀ {ks : List Str} {ds : List D} {vs : List V}, RpL K H ds vs → ks.length = ds.length → y ∈ ks → Rp K H (((ks.zip ds).lookup y).getD .non) (((ks.zip vs).lookup y).getD .non)
  | [], _, _, _, _, hy => nomatch hy
  | k :: ks, [], _, _, e, _ => by simp at e
  | k :: ks, d :: ds, _, h, e, hy => by
    obtain ⟨x, xs, rfl, h1, h2⟩ := h
    show Rp K H ((((k, d) :: ks.zip ds).lookup y).getD .non) ((((k, x) :: ks.zip xs).lookup y).getD .non)
    rw [List.lookup_cons, List.lookup_cons]
    cases q : (y == k) with
    | true => exact h1
    | false =>
      have ne : ¬ y = k := fun z => by
        rw [z] at q
        simp at q
      rcases List.mem_cons.mp hy with z | z
      · exact absurd z ne
      · exact lookup_rp h2 (by simpa using e) z
theorem lookup_vals {y : Str} : ∀ {ks : List Str} {vs : List V} {ws : List Value}, Vals vs ws → ks.length = vs.length → y ∈ ks → RelV (((ks.zip vs).lookup y).getD .non) (((ks.zip ws).lookup y).getD .none)
  | [], _, _, _, _, hy => nomatch hy
  | k :: ks, _, _, .nil, e, _ => by simp at e
  | k :: ks, _, _, .cons (a := a) (b := b) (l₁ := l1) (l₂ := l2) h1 h2, e, hy => by
    show RelV ((((k, a) :: ks.zip l1).lookup y).getD .non) ((((k, b) :: ks.zip l2).lookup y).getD .none)
    rw [List.lookup_cons, List.lookup_cons]
    cases q : (y == k) with
    | true => exact h1
    | false =>
      have ne : ¬ y = k := fun z => by
        rw [z] at q
        simp at q
      rcases List.mem_cons.mp hy with z | z
      · exact absurd z ne
      · exact lookup_vals h2 (by simpa using e) z
theorem ord_rp {K : PySem.W.Frag} {H : Hp} {ks : List Str} {ds : List D} {vs : List V} (h : RpL K H ds vs) (e : ks.length = ds.length) : ∀ {names : List Str}, (∀ y ∈ names, y ∈ ks) → RpL K H (ordV .non names ks ds) (ordV .non names ks vs)
  | [], _ => rfl
  | n :: ns, hm => ⟨_, _, rfl, lookup_rp h e (hm n List.mem_cons_self), ord_rp h e fun y hy => hm y (List.mem_cons_of_mem _ hy)⟩
theorem ord_vals {ks : List Str} {vs : List V} {ws : List Value} (h : Vals vs ws) (e : ks.length = vs.length) : ∀ {names : List Str}, (∀ y ∈ names, y ∈ ks) → Vals (ordV .non names ks vs) (ordV .none names ks ws)
  | [], _ => .nil
  | n :: ns, hm => .cons (lookup_vals h e (hm n List.mem_cons_self)) (ord_vals h e fun y hy => hm y (List.mem_cons_of_mem _ hy))

/-! ### calls -/
def wK (X : Cx) (kws : List Keyword) : TA := fun σ H Q => ∀ (pos : Pos) pins s, Inv X pins σ H s → wpAny (model X.prog X.w) X.A (evalAll ((backToKw pos (keywordEach kws X.env)).map (·.2))) (AP X pins σ Q) X.xe s
structure DK (X : Cx) (kws : List Keyword) (en : DEnv) (S : Sto) (Q : List D → Sto → Prop) : Prop where
  run : ∀ (σ : L2.St) (H Hd : Hp), St0 X.K S Hd H → RpE X.K Hd en σ → wK X kws σ H (QA X.K Hd Q)
instance {X : Cx} {kws : List Keyword} {en : DEnv} {S : Sto} {Q : List D → Sto → Prop} : CoeFun (DK X kws en S Q) (fun _ => ∀ (σ : L2.St) (H Hd : Hp), St0 X.K S Hd H → RpE X.K Hd en σ → wK X kws σ H (QA X.K Hd Q)) := ⟨fun h => h.run⟩
section
variable {X : Cx} {a b c e : Expr} {es : List Expr} {kwl : List Keyword} {en : DEnv} {S : Sto} {Q : D → Sto → Prop} {R : List D → Sto → Prop} {pos p kpos : Pos} {k : Nat} {x : Str} {ps ks : List Str} {kws : List (Nat × List Str)} {C : Con}
theorem pkW : PK X kwl (wK X kwl) := ⟨fun pos pins s _ _ _ I h => h pos pins s I⟩
theorem wK_of {t : TA} {σ : L2.St} {H : Hp} {Q : List V → Hp → Prop} (h : PK X kwl t) (q : t σ H Q) : wK X kwl σ H Q := fun pos pins s I => h.run pos pins s σ H Q I q
theorem wK_mono {σ : L2.St} {H : Hp} {Q Q' : List V → Hp → Prop} (h : wK X kwl σ H Q) (k : ∀ v H', Q v H' → Q' v H') : wK X kwl σ H Q' := fun pos pins s I =>
  thn (h pos pins s I) fun _ _ ⟨v, H', I', r, q⟩ => ⟨v, H', I', r, k v H' q⟩
theorem dk_nil (q : R [] S) : DK X [] en S R := ⟨fun σ H Hd st _ => wK_of pk_nil ⟨[], S, Hd, Same.refl _, st, rfl, q⟩⟩
theorem dk_cons {nm : Option Str} (h : DE X e en S fun x S1 => DK X kwl en S1 fun xs S2 => R (x :: xs) S2) (hp : PK X (⟨nm, e, kpos⟩ :: kwl) (tCons (wE X e) (wK X kwl)) := by exact pk_cons peW pkW) : DK X (⟨nm, e, kpos⟩ :: kwl) en S R := ⟨fun σ H Hd st re => by
  refine wK_of hp ?_
  refine wE_mono (h σ H Hd st re) fun v H1 ⟨x, S1, Hd1, e1, st1, r1, q1⟩ => ?_
  refine wK_mono (q1 σ H1 Hd1 st1 (re.mono e1)) fun vs H2 ⟨xs, S2, Hd2, e2, st2, r2, q2⟩ => ?_
  exact ⟨x :: xs, S2, Hd2, e1.trans e2, st2, ⟨v, vs, rfl, Rp.mono e2 x v r1, r2⟩, q2⟩⟩
/-- the callee runs -/
theorem run_cal (c : Cal X.prog X.w X.K X.mg X.base k x ps kws C) (gd : X.A.guards = some []) (hr : Room k X.A) : ∃ f : Addr, X.mg x = some (.ref f) ∧ PySem.W.keepIn X.K (.ref f) = true ∧
    (∀ {pins : List (Addr × Obj)} {σ : L2.St} {H Hd : Hp} {s : Shared} {us : List Value} {vs : List V} {ds : List D} {S : Sto} {Q : D → Sto → Prop} {Qv : VK}, Inv X pins σ H s → Vals vs us → RpL X.K Hd ds vs → St0 X.K S Hd H → C ds S Q → (∀ v H', QD X.K Hd Q v H' → Qv v H') →
      wpAny (model X.prog X.w) X.A (call (.ref f) us) (EP X pins σ Qv) X.xe s) ∧
    ∀ (n : Nat) (ks : List Str), (n, ks) ∈ kws → ∀ {pins : List (Addr × Obj)} {σ : L2.St} {H Hd : Hp} {s : Shared} {us ws : List Value} {vs zs : List V} {ds fs : List D} {S : Sto} {Q : D → Sto → Prop} {Qv : VK}, Inv X pins σ H s → Vals vs us → Vals zs ws → us.length = n → ws.length = ks.length →
      RpL X.K Hd ds vs → RpL X.K Hd fs zs → St0 X.K S Hd H → C (ds ++ ordV .non (ps.drop n) ks fs) S Q → (∀ v H', QD X.K Hd Q v H' → Qv v H') → wpAny (model X.prog X.w) X.A (call (.ref f) us (ks.zip ws)) (EP X pins σ Qv) X.xe s := by
  obtain ⟨f, fd, G, hm, hk, hb, hkw⟩ := c.ex
  refine ⟨f, hm, hk, fun {pins σ H Hd s us vs ds S Q Qv} I r rd st q kq => ?_, fun n ks hn {pins σ H Hd s us ws vs zs ds fs S Q Qv} I r rz ln lw rd rf st q kq => ?_⟩
  · have hs : spD X.K C vs H Qv E0 := ⟨ds, S, Hd, Q, rd, st, q, fun d S' v H' Hd' z1 z2 z3 z4 => kq v H' ⟨d, S', Hd', z2, z3, z4, z1⟩⟩
    have hl : us.length = ps.length := by rw [← r.length]; exact G.len _ _ _ _ hs
    refine wpAny_call (codeAny_mono (G.run X.A X.stack s H ⟨us, []⟩ us vs Qv E0 gd hr I.env0 (.of_eq (hb us hl)) r hs) fun res s' hq => ?_)
    cases res with
    | error e => exact hq.elim
    | ok fl =>
      cases fl with
      | ret u => exact I.after hq
      | next => exact hq.elim
      | brk => exact hq.elim
      | cont => exact hq.elim
  · obtain ⟨k1, k2, k3⟩ := hkw _ hn
    have lz : ks.length = zs.length := by rw [rz.length]; exact lw.symm
    have lf : ks.length = fs.length := by rw [lz, rf.length]
    have hs : spD X.K C (vs ++ ordV .non (ps.drop n) ks zs) H Qv E0 := ⟨_, S, Hd, Q, rd.append (ord_rp rf lf k2), st, q, fun d S' v H' Hd' z1 z2 z3 z4 => kq v H' ⟨d, S', Hd', z2, z3, z4, z1⟩⟩
    refine wpAny_call (codeAny_mono (G.run X.A X.stack s H ⟨us, ks.zip ws⟩ (us ++ ordV .none (ps.drop n) ks ws) _ Qv E0 gd hr I.env0 (.of_eq (k3 us ws ln lw)) (r.append (ord_vals rz lz k2)) hs) fun res s' hq => ?_)
    cases res with
    | error e => exact hq.elim
    | ok fl =>
      cases fl with
      | ret u => exact I.after hq
      | next => exact hq.elim
      | brk => exact hq.elim
      | cont => exact hq.elim
/-- f(e, ..) -/
theorem de_call (c : Cal X.prog X.w X.K X.mg X.base k x ps kws C) (gd : X.A.guards = some []) (hr : Room k X.A) (h : DA X (e :: es) en S fun ds S1 => C ds S1 Q) (hg : Gl X x := by rfl)
    (hdb : (x == ("__debug__" : Str)) = false := by decide) (he : starEach (e :: es) X.env = (false, eval e X.env) :: starEach es X.env := by rfl) (hpl : (backTo pos (starEach es X.env)).any (·.1) = false := by rfl) : DE X (.Call (.Name x p) (e :: es) [] pos) en S Q := by
  refine ⟨fun σ H Hd st re => ?_⟩
  intro pins s I
  obtain ⟨f, hm, hk, run, _⟩ := run_cal c gd hr
  refine wpAny_Call_Name_kw (ld_glob I hg hm ?_ hdb)
  refine PySem.W.callWith_K (h₀ := X.base) I.ok.mod.kin hk (thn (h σ H Hd st re pos pins s I) fun us s1 ⟨vs, H1, I1, r, ds, S1, Hd1, e1, st1, r1, q1⟩ => ⟨I1.kIn, ?_⟩) he hpl
  exact run I1 r r1 st1 q1 fun v H' z => .up e1 z
/-- f(k = v, ..) -/
theorem de_callN (c : Cal X.prog X.w X.K X.mg X.base k x ps kws C) (gd : X.A.guards = some []) (hr : Room k X.A) (hn : (0, ks) ∈ kws) (h : DK X kwl en S fun zs S1 => zs.length = ks.length ∧ C (ordV .non ps ks zs) S1 Q) (hg : Gl X x := by rfl)
    (hall : (backToKw pos (keywordEach kwl X.env)).all (·.1.isSome) = true := by rfl) (hks : (backToKw pos (keywordEach kwl X.env)).filterMap (·.1) = ks := by rfl) (hdb : (x == ("__debug__" : Str)) = false := by decide)
    (hpl : ((backTo pos (starEach [] X.env)).any (·.1) || (backToKw pos (keywordEach kwl X.env)).any (·.1.isNone)) = false := by rfl) : DE X (.Call (.Name x p) [] kwl pos) en S Q := by
  refine ⟨fun σ H Hd st re => ?_⟩
  intro pins s I
  obtain ⟨f, hm, hk, _, run⟩ := run_cal c gd hr
  refine wpAny_Call_Name_kw (ld_glob I hg hm ?_ hdb)
  refine PySem.W.callWith_KW0 (h₀ := X.base) I.ok.mod.kin hk hall (thn (h σ H Hd st re pos pins s I) fun ws s1 ⟨zs, H1, I1, rz, fs, S1, Hd1, e1, st1, r1, l1, q1⟩ => ⟨I1.kIn, ?_⟩) hpl
  rw [hks]
  exact run 0 ks hn (us := []) (vs := []) (ds := []) I1 .nil rz rfl (by rw [← rz.length, r1.length, l1]) rfl r1 st1 q1 fun v H' z => .up e1 z
/-! ### built-ins -/
def DRC (K : PySem.W.Frag) (r : List V → Hp → VK → Prop) (ds : List D) (S : Sto) (Q : D → Sto → Prop) : Prop :=
  ∀ (H Hd : Hp) (vs : List V) (Qv : VK), St0 K S Hd H → RpL K Hd ds vs → (∀ v H', QD K Hd Q v H' → Qv v H') → r vs H Qv
variable {id T : String} {r : List V → Hp → VK → Prop}
theorem de_B (hc : CallR X (.builtin id) r) (hm : X.mg x = none) (hv : bootBuiltins x = some (.builtin id)) (h : DA X (e :: es) en S fun ds S1 => DRC X.K r ds S1 Q) (hg : Gl X x := by rfl) (hn : x ≠ "__name__" := by decide) (hdb : (x == ("__debug__" : Str)) = false := by decide)
    (he : starEach (e :: es) X.env = (false, eval e X.env) :: starEach es X.env := by rfl) (hpl : (backTo pos (starEach es X.env)).any (·.1) = false := by rfl) : DE X (.Call (.Name x p) (e :: es) [] pos) en S Q := ⟨fun σ H Hd st re => by
  refine wE_of (pe_callB hc hg hm hv paW hn hdb he hpl) ?_
  exact wA_mono (h σ H Hd st re) fun vs H1 ⟨ds, S1, Hd1, e1, st1, r1, q1⟩ => q1 H1 Hd1 vs _ st1 r1 fun v H' z => .up e1 z⟩
theorem de_T (hc : CallR X (.type T) r) (hm : X.mg x = none) (hv : bootBuiltins x = some (.type T)) (h : DA X (e :: es) en S fun ds S1 => DRC X.K r ds S1 Q) (hg : Gl X x := by rfl) (hn : x ≠ "__name__" := by decide) (hdb : (x == ("__debug__" : Str)) = false := by decide)
    (he : starEach (e :: es) X.env = (false, eval e X.env) :: starEach es X.env := by rfl) (hpl : (backTo pos (starEach es X.env)).any (·.1) = false := by rfl) : DE X (.Call (.Name x p) (e :: es) [] pos) en S Q := ⟨fun σ H Hd st re => by
  refine wE_of (pe_callTy hc hg hm hv paW hn hdb he hpl) ?_
  exact wA_mono (h σ H Hd st re) fun vs H1 ⟨ds, S1, Hd1, e1, st1, r1, q1⟩ => q1 H1 Hd1 vs _ st1 r1 fun v H' z => .up e1 z⟩
theorem one_rp {K : PySem.W.Frag} {H : Hp} {d : D} {vs : List V} (h : RpL K H [d] vs) : ∃ v, vs = [v] ∧ Rp K H d v := by
  obtain ⟨v, vs', e1, rv, e2⟩ := h
  have e2 : vs' = [] := e2
  subst e2
  exact ⟨v, e1, rv⟩
theorem two_rp {K : PySem.W.Frag} {H : Hp} {d e : D} {vs : List V} (h : RpL K H [d, e] vs) : ∃ v w, vs = [v, w] ∧ Rp K H d v ∧ Rp K H e w := by
  obtain ⟨v, vs', e1, rv, e2⟩ := h
  obtain ⟨w, e3, rw'⟩ := one_rp e2
  subst e3
  exact ⟨v, w, e1, rv, rw'⟩
variable {K : PySem.W.Frag}
theorem drc_abs {i : Int} (q : Q (.int (if i < 0 then -i else i)) S) : DRC K (fun xs H Q => ∃ i, xs = [.int i] ∧ Q (.int (if i < 0 then -i else i)) H) [.int i] S Q := fun H Hd vs Qv st rr k => by
  obtain ⟨v, e1, rv⟩ := one_rp rr
  have rv : v = V.int i := rv
  subst e1 rv
  exact ⟨i, rfl, k _ _ (.here (d := .int _) st rfl q)⟩
theorem drc_int {i : Int} (q : Q (.int i) S) : DRC K (fun xs H Q => (∃ i, xs = [.int i] ∧ Q (.int i) H) ∨ ∃ k, xs = [.bl k] ∧ Q (.int (if k then 1 else 0)) H) [.int i] S Q := fun H Hd vs Qv st rr k => by
  obtain ⟨v, e1, rv⟩ := one_rp rr
  have rv : v = V.int i := rv
  subst e1 rv
  exact .inl ⟨i, rfl, k _ _ (.here (d := .int _) st rfl q)⟩
theorem drc_intb {i : Bool} (q : Q (.int (if i then 1 else 0)) S) : DRC K (fun xs H Q => (∃ i, xs = [.int i] ∧ Q (.int i) H) ∨ ∃ k, xs = [.bl k] ∧ Q (.int (if k then 1 else 0)) H) [.bl i] S Q := fun H Hd vs Qv st rr k => by
  obtain ⟨v, e1, rv⟩ := one_rp rr
  have rv : v = V.bl i := rv
  subst e1 rv
  exact .inr ⟨i, rfl, k _ _ (.here (d := .int _) st rfl q)⟩
theorem drc_max {i j : Int} (q : Q (.int (if j > i then j else i)) S) : DRC K (fun xs H Q => ∃ i j, xs = [.int i, .int j] ∧ Q (.int (if j > i then j else i)) H) [.int i, .int j] S Q := fun H Hd vs Qv st rr k => by
  obtain ⟨v, w, e1, rv, rw'⟩ := two_rp rr
  have rv : v = V.int i := rv
  have rw' : w = V.int j := rw'
  subst e1 rv rw'
  exact ⟨i, j, rfl, k _ _ (.here (d := .int _) st rfl q)⟩
theorem drc_min {i j : Int} (q : Q (.int (if j < i then j else i)) S) : DRC K (fun xs H Q => ∃ i j, xs = [.int i, .int j] ∧ Q (.int (if j < i then j else i)) H) [.int i, .int j] S Q := fun H Hd vs Qv st rr k => by
  obtain ⟨v, w, e1, rv, rw'⟩ := two_rp rr
  have rv : v = V.int i := rv
  have rw' : w = V.int j := rw'
  subst e1 rv rw'
  exact ⟨i, j, rfl, k _ _ (.here (d := .int _) st rfl q)⟩
/-- math.gcd -/
theorem de_gcd {gx : Str} (hm : X.mg gx = some (.builtin "math.gcd")) (h : DA X [a, b] en S fun ds S1 => ∃ i j : Int, ds = [.int i, .int j] ∧ Q (.int ((Nat.gcd i.natAbs j.natAbs : Nat) : Int)) S1) (hg : Gl X gx := by rfl) (hn : gx ≠ "__name__" := by decide) (hdb : (gx == ("__debug__" : Str)) = false := by decide)
    (he : starEach (a :: [b]) X.env = (false, eval a X.env) :: starEach [b] X.env := by rfl) (hpl : (backTo pos (starEach [b] X.env)).any (·.1) = false := by rfl) : DE X (.Call (.Name gx p) [a, b] [] pos) en S Q := ⟨fun σ H Hd st re => by
  refine wE_of (pe_callBfun cr_gcd hg hm paW (hdb := hdb) (he := he) (hpl := hpl)) ?_
  refine wA_mono (h σ H Hd st re) fun vs H1 ⟨ds, S1, Hd1, e1, st1, r1, i, j, e2, q⟩ => ?_
  subst e2
  obtain ⟨v, vs', e3, rv, w, vs2, e4, rw', e5⟩ := r1
  have e5 : vs2 = [] := e5
  subst e3 e4 e5
  exact ⟨i, j, by rw [show v = V.int i from rv, show w = V.int j from rw'], .up e1 (.here (d := .int _) st1 rfl q)⟩⟩
/-- len -/
def lenP (d : D) (S : Sto) (Q : D → Sto → Prop) : Prop := match d with
  | .tup l => Q (.int (l.length : Int)) S
  | .lst l => Q (.int (l.length : Int)) S
  | .scr l => Q (.int (l.length : Int)) S
  | .raw (.ref p) => ∃ l, getS p S = some l ∧ Q (.int (l.length : Int)) S
  | _ => False
theorem drc_len {d : D} (q : lenP d S Q) : DRC K (fun xs H Q => ∃ p ys, xs = [.ref p] ∧ (SqL K H p ys ∨ SqT K H p ys) ∧ Q (.int ys.length) H) [d] S Q := fun H Hd vs Qv st rr k => by
  obtain ⟨v, e1, rv⟩ := one_rp rr
  subst e1
  unfold lenP at q
  split at q
  · obtain ⟨a, xs, f1, f2, f3⟩ := rv
    exact ⟨a, xs, by rw [f1], .inr (same_t st.sub f2), by rw [f3.length]; exact k _ _ (.here (d := .int _) st rfl q)⟩
  · obtain ⟨a, xs, f1, f2, f3⟩ := rv
    exact ⟨a, xs, by rw [f1], .inl (.of (st.sub _ _ f2)), by rw [f3.length]; exact k _ _ (.here (d := .int _) st rfl q)⟩
  · rename_i l
    obtain ⟨a, f1, f2⟩ := rv
    exact ⟨a, l.map V.int, by rw [f1], .inl (same_l st.sub f2), by rw [List.length_map]; exact k _ _ (.here (d := .int _) st rfl q)⟩
  · rename_i a
    obtain ⟨l, g, q⟩ := q
    obtain ⟨_, xs, f2, f3⟩ := st.own.at g
    exact ⟨a, xs, by rw [show v = V.ref a from rv], .inl (.of f2), by rw [f3.length]; exact k _ _ (.here (d := .int _) st rfl q)⟩
  · exact q.elim
/-- tuple(list) -/
theorem drc_tuple {l : List D} (q : Q (.tup l) S) : DRC K (fun xs H Q => ∃ p ys, xs = [.ref p] ∧ ((SqL K H p ys ∧ ∀ l, H l = none → Q (.ref l) (upd H l (.tup ys))) ∨ (SqT K H p ys ∧ Q (.ref p) H))) [.lst l] S Q := fun H Hd vs Qv st rr k => by
  obtain ⟨v, e1, a, xs, f1, f2, f3⟩ := one_rp rr
  subst e1 f1
  exact ⟨a, xs, rfl, .inl ⟨.of (st.sub _ _ f2), fun p hp => k _ _ (new_tup st f3 hp q)⟩⟩
theorem drc_tupleO {p : Addr} {l : List D} (g : getS p S = some l) (q : Q (.tup l) S) : DRC K (fun xs H Q => ∃ p ys, xs = [.ref p] ∧ ((SqL K H p ys ∧ ∀ l, H l = none → Q (.ref l) (upd H l (.tup ys))) ∨ (SqT K H p ys ∧ Q (.ref p) H))) [.raw (.ref p)] S Q := fun H Hd vs Qv st rr k => by
  obtain ⟨v, e1, f1⟩ := one_rp rr
  have f1 : v = V.ref p := f1
  subst e1 f1
  obtain ⟨_, xs, f2, f3⟩ := st.own.at g
  exact ⟨p, xs, rfl, .inl ⟨.of f2, fun p hp => k _ _ (new_tup st f3 hp q)⟩⟩
end

/-! ### repr -/
mutual
/-- data that is shown: ints of less than 1900 bits, plain texts, not too many things -/
def shoP : D → Prop
  | .int i => i.natAbs < 2 ^ 1900
  | .str x => (x.cps.toList.all fun c => decide (c < 16 ^ 8)) = true
  | .tup l => shoL l
  | .lst l => shoL l
  | .scr _ => False
  | .raw _ => False
  | .ext _ => False
  | .non => True
  | .bl _ => True
def shoL : List D → Prop
  | [] => True
  | d :: ds => shoP d ∧ shoL ds
end
theorem digits_le {i : Int} (h : i.natAbs < 2 ^ 1900) : ((PyData.shown (.int i)).length ≤ 1921) ∧ i.natAbs.log2 < 1920 := by
  have h2 : i.natAbs.log2 < 1920 := Nat.lt_of_lt_of_le (PySem.Flt.log2_lt_of (by decide) h) (by decide)
  exact ⟨int_text_len_1921 h2, h2⟩
mutual
theorem sho_of : ∀ (n : Nat) (d : D), flatOk n d = true → shoP d → (toPy d).showable = true ∧ (toPy d).leavesShort 1921 = true ∧ (toPy d).hasDict = false
  | _, .non, _, _ => ⟨rfl, rfl, rfl⟩
  | _, .bl b, _, _ => ⟨rfl, rfl, rfl⟩
  | _, .int i, _, h => by
    obtain ⟨h1, h2⟩ := digits_le (show i.natAbs < 2 ^ 1900 from by simpa only [shoP] using h)
    exact ⟨decide_eq_true h2, decide_eq_true h1, rfl⟩
  | _, .str x, _, h => ⟨rfl, by simpa [toPy, PyData.leavesShort, shoP] using h, rfl⟩
  | 0, .tup l, h, _ => by simp [flatOk] at h
  | n + 1, .tup l, h, g => by
    obtain ⟨h1, h2, h3⟩ := shoAll_of n l (by simpa [flatOk] using h) (by simpa only [shoP] using g)
    exact ⟨by simpa [toPy, PyData.showable] using h1, by simpa [toPy, PyData.leavesShort] using h2, by simpa [toPy, PyData.hasDict] using h3⟩
  | 0, .lst l, h, _ => by simp [flatOk] at h
  | n + 1, .lst l, h, g => by
    obtain ⟨h1, h2, h3⟩ := shoAll_of n l (by simpa [flatOk] using h) (by simpa only [shoP] using g)
    exact ⟨by simpa [toPy, PyData.showable] using h1, by simpa [toPy, PyData.leavesShort] using h2, by simpa [toPy, PyData.hasDict] using h3⟩
  | 0, .scr l, h, _ => by simp [flatOk] at h
  | n + 1, .scr ns, h, g => by simp only [shoP] at g
  | 0, .raw _, h, _ => by simp [flatOk] at h
  | _ + 1, .raw _, h, _ => by simp [flatOk] at h
  | 0, .ext _, h, _ => by simp [flatOk] at h
  | _ + 1, .ext _, h, _ => by simp [flatOk] at h
theorem shoAll_of : ∀ (n : Nat) (l : List D), flatOkL n l = true → shoL l → PyData.showableAll (toPyL l) = true ∧ PyData.leavesShortAll 1921 (toPyL l) = true ∧ PyData.hasDictAll (toPyL l) = false
  | _, [], _, _ => ⟨rfl, rfl, rfl⟩
  | n, d :: ds, h, g => by
    rw [flatOkL, Bool.and_eq_true] at h
    rw [shoL] at g
    obtain ⟨h1, h2, h3⟩ := sho_of n d h.1 g.1
    obtain ⟨k1, k2, k3⟩ := shoAll_of n ds h.2 g.2
    refine ⟨?_, ?_, ?_⟩
    · show (PyData.showable (toPy d) && PyData.showableAll (toPyL ds)) = true
      rw [h1, k1] <;> rfl
    · show (PyData.leavesShort 1921 (toPy d) && PyData.leavesShortAll 1921 (toPyL ds)) = true
      rw [h2, k2] <;> rfl
    · show (PyData.hasDict (toPy d) || PyData.hasDictAll (toPyL ds)) = false
      rw [h3, k3] <;> rfl
end
mutual
/-- how many things -/
def bigD : D → Nat
  | .str x => x.cps.size
  | .tup l => bigL l
  | .lst l => bigL l
  | _ => 0
def bigL : List D → Nat
  | [] => 0
  | d :: ds => bigD d + 1 + bigL ds
end
mutual
theorem bulk_of : ∀ d : D, shoP d → (toPy d).bulk = bigD d
  | .non, _ => rfl
  | .bl _, _ => rfl
  | .int _, _ => rfl
  | .str _, _ => rfl
  | .tup l, h => by
    show PyData.bulkAll (toPyL l) = bigL l
    exact bulkAll_of l (by simpa only [shoP] using h)
  | .lst l, h => by
    show PyData.bulkAll (toPyL l) = bigL l
    exact bulkAll_of l (by simpa only [shoP] using h)
  | .raw _, h => by simp only [shoP] at h
  | .ext _, h => by simp only [shoP] at h
  | .scr _, h => by simp only [shoP] at h
theorem bulkAll_of : ∀ l : List D, shoL l → PyData.bulkAll (toPyL l) = bigL l
  | [], _ => rfl
  | d :: ds, h => by
    rw [shoL] at h
    show PyData.bulk (toPy d) + 1 + PyData.bulkAll (toPyL ds) = bigD d + 1 + bigL ds
    rw [bulk_of d h.1, bulkAll_of ds h.2]
end
theorem shown_fits {n : Nat} {d : D} (h : flatOk n d = true) (g : shoP d) (b : bigD d ≤ 8000) : (toPy d).shown.length ≤ sizeLine := by
  obtain ⟨_, h2, _⟩ := sho_of n d h g
  have k := PyData.shown_le_bulk 1921 (by decide) (toPy d) h2
  rw [bulk_of d g] at k
  have e : sizeLine = 16777216 := by decide
  omega
section
variable {X : Cx}
/-- repr of data that stands in an object -/
def rRepD (K : PySem.W.Frag) : List V → Hp → VK → Prop := fun vs H Q => ∃ (a : Addr) (d : PyData), vs = [.ref a] ∧ Dp K H (.ref a) d ∧ d.showable = true ∧ d.hasDict = false ∧ d.depth ≤ 20 ∧ d.shown.length ≤ sizeLine ∧ Q (.str d.shown) H
theorem call_repr_data (gd : X.A.guards = some []) (hu : X.A.units + 64 < cLine) : CallR X (.builtin "repr") (rRepD X.K) := by
  intro pins s σ H vs us Q I rv h
  obtain ⟨a, d, e1, hd, h1, h2, h3, h4, q⟩ := h
  subst e1
  obtain ⟨u, e2, ru⟩ := rv.one
  subst e2
  cases ru
  obtain ⟨as, rr⟩ := Dp.reads I d (.ref a) _ hd rfl
  refine PySem.repr_of_reads' rr h1 (PyData.noDict_hsm h2) gd (by omega) (fun _ _ z => z) (fun h' u tk kp => ?_) h4
  exact ⟨.str d.shown, H, I.kept kp, ⟨u, rfl⟩, q⟩
theorem drc_repr {K : PySem.W.Frag} {d : D} {S : Sto} {Q : D → Sto → Prop} (q : Q (.str (toPy d).shown) S) (h : flatOk 9 d = true) (g : shoP d) (b : bigD d ≤ 8000) (obj : (∃ l, d = .lst l) ∨ ∃ l, d = .tup l) : DRC K (rRepD K) [d] S Q := fun H Hd vs Qv st rr k => by
  obtain ⟨v, e1, rv⟩ := one_rp rr
  subst e1
  obtain ⟨a, ea⟩ : ∃ a, v = V.ref a := by
    rcases obj with ⟨l, z⟩ | ⟨l, z⟩
    · subst z
      obtain ⟨a, xs, f1, _⟩ := rv
      exact ⟨a, f1⟩
    · subst z
      obtain ⟨a, xs, f1, _⟩ := rv
      exact ⟨a, f1⟩
  subst ea
  obtain ⟨s1, s2, s3⟩ := sho_of 9 d h g
  exact ⟨a, toPy d, rfl, dp_of 9 d _ h (Rp.mono st.sub d _ rv), s1, s3, Nat.le_trans (lay_of 9 d h).2 (by decide), shown_fits h g b, k _ _ (.here (d := .str _) st rfl q)⟩
end
end DL
namespace DL
open PySem PySem.Spec PyProof.Rows L2

/-! ### statements -/
structure Dn where
  nx : DEnv → Sto → Prop
  rt : D → Sto → Prop
  bk : DEnv → Sto → Prop := fun _ _ => False
  ct : DEnv → Sto → Prop := fun _ _ => False
structure Lift (K : PySem.W.Frag) (Hd : Hp) (Z : Dn) (De : Ends) : Prop where
  nx : ∀ en S σ H Hd', Same Hd Hd' → St0 K S Hd' H → RpE K Hd' en σ → Z.nx en S → De.nx σ H
  rt : ∀ d S v H Hd', Same Hd Hd' → St0 K S Hd' H → Rp K Hd' d v → Z.rt d S → De.rt v H
  bk : ∀ en S σ H Hd', Same Hd Hd' → St0 K S Hd' H → RpE K Hd' en σ → Z.bk en S → De.bk σ H
  ct : ∀ en S σ H Hd', Same Hd Hd' → St0 K S Hd' H → RpE K Hd' en σ → Z.ct en S → De.ct σ H
theorem Lift.up {K : PySem.W.Frag} {Hd Hd' : Hp} {Z : Dn} {De : Ends} (e : Same Hd Hd') (l : Lift K Hd Z De) : Lift K Hd' Z De :=
  ⟨fun en S σ H H2 k => l.nx en S σ H H2 (e.trans k), fun d S v H H2 k => l.rt d S v H H2 (e.trans k), fun en S σ H H2 k => l.bk en S σ H H2 (e.trans k), fun en S σ H H2 k => l.ct en S σ H H2 (e.trans k)⟩
structure DS1 (X : Cx) (st : Stmt) (en : DEnv) (S : Sto) (Z : Dn) : Prop where
  run : ∀ (σ : L2.St) (H Hd : Hp), St0 X.K S Hd H → RpE X.K Hd en σ → ∀ De : Ends, Lift X.K Hd Z De → wS X st De σ H
instance {X : Cx} {st : Stmt} {en : DEnv} {S : Sto} {Z : Dn} : CoeFun (DS1 X st en S Z) (fun _ => ∀ (σ : L2.St) (H Hd : Hp), St0 X.K S Hd H → RpE X.K Hd en σ → ∀ De : Ends, Lift X.K Hd Z De → wS X st De σ H) := ⟨fun h => h.run⟩
structure DS (X : Cx) (sts : List Stmt) (en : DEnv) (S : Sto) (Z : Dn) : Prop where
  run : ∀ (σ : L2.St) (H Hd : Hp), St0 X.K S Hd H → RpE X.K Hd en σ → ∀ De : Ends, Lift X.K Hd Z De → wSs X sts De σ H
instance {X : Cx} {sts : List Stmt} {en : DEnv} {S : Sto} {Z : Dn} : CoeFun (DS X sts en S Z) (fun _ => ∀ (σ : L2.St) (H Hd : Hp), St0 X.K S Hd H → RpE X.K Hd en σ → ∀ De : Ends, Lift X.K Hd Z De → wSs X sts De σ H) := ⟨fun h => h.run⟩
/-- a target takes data -/
structure DG (X : Cx) (tg : Expr) (d : D) (en : DEnv) (S : Sto) (N : DEnv → Sto → Prop) : Prop where
  run : ∀ (σ : L2.St) (H Hd : Hp) (v : V), St0 X.K S Hd H → RpE X.K Hd en σ → Rp X.K Hd d v →
  wG X tg v σ H fun σ' H' => ∃ en' S' Hd', Same Hd Hd' ∧ St0 X.K S' Hd' H' ∧ RpE X.K Hd' en' σ' ∧ N en' S'
instance {X : Cx} {tg : Expr} {d : D} {en : DEnv} {S : Sto} {N : DEnv → Sto → Prop} : CoeFun (DG X tg d en S N) (fun _ => ∀ (σ : L2.St) (H Hd : Hp) (v : V), St0 X.K S Hd H → RpE X.K Hd en σ → Rp X.K Hd d v →
  wG X tg v σ H fun σ' H' => ∃ en' S' Hd', Same Hd Hd' ∧ St0 X.K S' Hd' H' ∧ RpE X.K Hd' en' σ' ∧ N en' S') := ⟨fun h => h.run⟩
def wGs (X : Cx) (ts : List Expr) : TGs := fun vs σ H Q => ∀ pins s us, Inv X pins σ H s → Vals vs us →
  wpAny (model X.prog X.w) X.A (assignInOrder ((assignEach ts X.env).map (·.2)) us) (fun _ s' => ∃ σ' H', Inv X pins σ' H' s' ∧ Q σ' H') X.xe s
structure DGs (X : Cx) (ts : List Expr) (ds : List D) (en : DEnv) (S : Sto) (N : DEnv → Sto → Prop) : Prop where
  run : ∀ (σ : L2.St) (H Hd : Hp) (vs : List V), St0 X.K S Hd H → RpE X.K Hd en σ → RpL X.K Hd ds vs →
  wGs X ts vs σ H fun σ' H' => ∃ en' S' Hd', Same Hd Hd' ∧ St0 X.K S' Hd' H' ∧ RpE X.K Hd' en' σ' ∧ N en' S'
instance {X : Cx} {ts : List Expr} {ds : List D} {en : DEnv} {S : Sto} {N : DEnv → Sto → Prop} : CoeFun (DGs X ts ds en S N) (fun _ => ∀ (σ : L2.St) (H Hd : Hp) (vs : List V), St0 X.K S Hd H → RpE X.K Hd en σ → RpL X.K Hd ds vs →
  wGs X ts vs σ H fun σ' H' => ∃ en' S' Hd', Same Hd Hd' ∧ St0 X.K S' Hd' H' ∧ RpE X.K Hd' en' σ' ∧ N en' S') := ⟨fun h => h.run⟩
section
variable {X : Cx} {a b c e tg : Expr} {es ts : List Expr} {st : Stmt} {sts rest : List Stmt} {en en' : DEnv} {S : Sto} {Z : Dn} {N : DEnv → Sto → Prop} {pos pos' p2 : Pos} {x : Str} {d : D} {ds : List D}
theorem pgsW : PGs X ts (wGs X ts) := ⟨fun pins s _ _ vs us _ I r h => h pins s us I r⟩
theorem wGs_of {t : TGs} {vs : List V} {σ : L2.St} {H : Hp} {Q : L2.St → Hp → Prop} (h : PGs X ts t) (q : t vs σ H Q) : wGs X ts vs σ H Q := fun pins s us I r => h.run pins s σ H vs us Q I r q
theorem DG.mono {N' : DEnv → Sto → Prop} (h : DG X tg d en S N) (k : ∀ en' S', N en' S' → N' en' S') : DG X tg d en S N' := ⟨fun σ H Hd v st re r =>
  wG_mono (h σ H Hd v st re r) fun _ _ ⟨en', S', Hd', z1, z2, z3, q⟩ => ⟨en', S', Hd', z1, z2, z3, k _ _ q⟩⟩
theorem ds_nil (q : Z.nx en S) : DS X [] en S Z := ⟨fun σ H Hd st re De l => wSs_of pss_nil (l.nx en S σ H Hd (Same.refl _) st re q)⟩
theorem ds_cons (h : DS1 X st en S { Z with nx := fun en' S' => DS X rest en' S' Z }) : DS X (st :: rest) en S Z := ⟨fun σ H Hd s0 re De l => by
  refine wSs_of (pss_cons psW pssW) ?_
  exact h σ H Hd s0 re _ ⟨fun en' S' σ' H' Hd' z1 z2 z3 q => q σ' H' Hd' z2 z3 De (l.up z1), l.rt, l.bk, l.ct⟩⟩
/-- a changed list is changed no more -/
theorem ds_freeze (i : Nat) {p : Addr} {l : List D} {S' : Sto} (he : en[i]? = some (some (.raw (.ref p))) := by rfl) (h : DS X sts (en.set i (some (.lst l))) S' Z) (hS : S = (p, l) :: S' := by rfl) : DS X sts en S Z := ⟨fun σ H Hd st re De lf => by
  subst hS
  obtain ⟨xs, r, e1, st'⟩ := st.frozen
  obtain ⟨v, e2, rv⟩ := re.get he
  have rv : v = V.ref p := rv
  subst rv
  have re' : RpE X.K (upd Hd p (.lst xs)) (en.set i (some (.lst l))) (σ.set i (some (.ref p))) := (re.mono e1).set (d := .lst l) ⟨p, xs, rfl, upd_same, r.mono e1⟩ i
  have es : σ.set i (some (.ref p)) = σ := by
    have hi := List.getElem?_eq_some_iff.mp e2
    obtain ⟨h1, h2⟩ := hi
    rw [← h2]
    exact List.set_getElem_self h1
  rw [es] at re'
  exact h σ H _ st' re' De (lf.up e1)⟩
/-- a changed list is forgotten -/
theorem ds_forget {p : Addr} {l : List D} {S' : Sto} (h : DS X sts en S' Z) (hS : S = (p, l) :: S' := by rfl) : DS X sts en S Z := ⟨fun σ H Hd st re De lf => by
  subst hS
  exact h σ H Hd st.drop re De lf⟩
/-! ### targets -/
theorem dg_name (i : Nat) {en' : DEnv} (q : N en' S) (hN : X.N.Nodup) (hi : X.N[i]? = some x := by rfl) (hx : Loc X.env.scope x := by first | exact Or.inl rfl | exact Or.inr rfl)
    (hf : X.fn x = true ∨ X.env.scope.names.lookup x = some .local := by first | exact .inl rfl | exact .inr rfl) (he : en.set i (some d) = en' := by set_option simprocs false in dsimp only [List.set]) : DG X (.Name x pos) d en S N := ⟨fun σ H Hd v st re r =>
  wG_of (pg_name hN hi hx hf) ⟨_, S, Hd, Same.refl _, st, re.set r i, by rw [he]; exact q⟩⟩
/-- the slots written out -/
theorem ds_nrm {en' : DEnv} (h : DS X sts en' S Z) (he : en = en' := by set_option simprocs false in dsimp only [List.set]) : DS X sts en S Z := by
  rw [he]
  exact h
theorem dgs_nil (q : N en S) : DGs X [] [] en S N := ⟨fun σ H Hd vs st re r => wGs_of pgs_nil ⟨r, en, S, Hd, Same.refl _, st, re, q⟩⟩
theorem dgs_cons (h : DG X e d en S fun en1 S1 => DGs X es ds en1 S1 N) (hs : (assignEach (e :: es) X.env).map (·.2) = assign e X.env :: (assignEach es X.env).map (·.2) := by rfl) : DGs X (e :: es) (d :: ds) en S N := ⟨fun σ H Hd vs st re r => by
  obtain ⟨v, vr, e1, r1, r2⟩ := r
  subst e1
  refine wGs_of (pgs_cons pgW pgsW hs) ⟨v, vr, rfl, ?_⟩
  refine wG_mono (h σ H Hd v st re r1) fun σ1 H1 ⟨en1, S1, Hd1, z1, z2, z3, q⟩ => ?_
  intro pins s us I rr
  refine thn (q σ1 H1 Hd1 vr z2 z3 (r2.mono z1) pins s us I rr) fun _ s2 ⟨σ2, H2, I2, en2, S2, Hd2, y1, y2, y3, y4⟩ => ⟨σ2, H2, I2, en2, S2, Hd2, z1.trans y1, y2, y3, y4⟩⟩
theorem dg_tup {k : Nat} {n : Nat} (hc : X.calm = true) (hl : ds.length = n) (h : DGs X es ds en S N) (hn : (assignEach es X.env).length = n := by rfl) (hst : (assignEach es X.env).findIdx? (·.1) = none := by rfl) : DG X (.Tuple es k pos) (.tup ds) en S N := ⟨fun σ H Hd v st re r => by
  obtain ⟨a, xs, e1, e2, e3⟩ := r
  subst e1
  exact wG_of (pg_tup hc pgsW hn hst) ⟨a, xs, rfl, same_t st.sub e2, by rw [e3.length]; exact hl, h σ H Hd xs st re e3⟩⟩
theorem dg_tupL {k : Nat} {n : Nat} (hc : X.calm = true) (hl : ds.length = n) (h : DGs X es ds en S N) (pl : ∀ {t : TGs}, PGs X es t → PG X (.Tuple es k pos) (gLst X.K n t)) : DG X (.Tuple es k pos) (.lst ds) en S N := ⟨fun σ H Hd v st re r => by
  obtain ⟨a, xs, e1, e2, e3⟩ := r
  subst e1
  exact wG_of (pl pgsW) ⟨a, xs, rfl, .of (st.sub _ _ e2), by rw [e3.length]; exact hl, h σ H Hd xs st re e3⟩⟩
/-- xs[i] = .., a changed list -/
theorem dg_sub (h : DE X a en S fun o S1 => DE X b en S1 fun i S2 => ∃ (p : Addr) (k : Int) (l : List D) (j : Nat), o = .raw (.ref p) ∧ i = .int k ∧ getS p S2 = some l ∧ ixN l.length k = some j ∧ N en (setS p (l.set j d) S2))
    (ha : ∀ v, assign (.Subscript a b pos) X.env v = (do
      let ov ← holding [v] (eval a X.env)
      let iv ← holding [v, ov] (eval b X.env)
      standAt pos
      holding [v, ov, iv] (setItem ov iv v)
      release [v, ov, iv] []) := by intro _; rfl) : DG X (.Subscript a b pos) d en S N := ⟨fun σ H Hd v st re r => by
  refine wG_of (pg_sub peW peW set_list ha) ?_
  refine wE_mono (h σ H Hd st re) fun o H1 ⟨od, S1, Hd1, e1, st1, r1, q1⟩ => ?_
  refine wE_mono (q1 σ H1 Hd1 st1 (re.mono e1)) fun i H2 ⟨idd, S2, Hd2, e2, st2, r2, p, k, l, j, f1, f2, g, hj, q⟩ => ?_
  subst f1 f2
  have r1 : o = V.ref p := r1
  have r2 : i = V.int k := r2
  subst r1 r2
  obtain ⟨hd, xs, hx, rx⟩ := st2.own.at g
  have e12 := e1.trans e2
  refine ⟨p, xs, k, j, rfl, rfl, hx, by rw [rx.length]; exact hj, ?_⟩
  exact ⟨en, _, Hd2, e12, st2.written g (RpL.set (Rp.mono e12 d v r) j rx), re.mono e12, q⟩⟩
/-! ### assignments, return, if -/
theorem ds_asg (h : DE X e en S fun d S1 => DG X tg d en S1 Z.nx) (hs : swapsWithSole [tg] e pos.line X.env = pure false := by first | exact sws1 rfl | exact sw0 rfl | rfl) (hw : swappedStores [tg] e X.env = pure none := by first | exact sst rfl | rfl)
    (h1 : (assignEach [tg] X.env).map (·.2) = [assign tg X.env] := by rfl) : DS1 X (.Assign [tg] e pos) en S Z := ⟨fun σ H Hd st re De l => by
  refine wS_of (ps_asg peW pgW hs hw h1) ?_
  refine wE_mono (h σ H Hd st re) fun v H1 ⟨d, S1, Hd1, e1, st1, r1, q⟩ => ?_
  refine wG_mono (q σ H1 Hd1 v st1 (re.mono e1) r1) fun σ2 H2 ⟨en2, S2, Hd2, z1, z2, z3, z4⟩ => ?_
  exact l.nx en2 S2 σ2 H2 Hd2 (e1.trans z1) z2 z3 z4⟩
/-- a, b = x, y -/
theorem ds_par {i j : Nat} {y : Str} {px py pt : Pos} {kt k2 pt2} (hc : X.calm = true) (hN : X.N.Nodup) (hi : X.N[i]? = some x) (hj : X.N[j]? = some y) (hij : i ≠ j) (h : DA X [a, b] en S fun vs S1 => ∃ v w, vs = [v, w] ∧ Z.nx ((en.set i (some v)).set j (some w)) S1)
    (hx : X.env.scope.names.lookup x = some .local := by rfl) (hy : X.env.scope.names.lookup y = some .local := by rfl)
    (hw : swappedStores [.Tuple [.Name x px, .Name y py] kt pt] (.Tuple [a, b] k2 pt2) X.env = pure (some [x, y]) := by rfl)
    (hs : swapsWithSole [.Tuple [.Name x px, .Name y py] kt pt] (.Tuple [a, b] k2 pt2) pos.line X.env = pure false := by first | exact sws1 rfl | exact sw0 rfl | rfl) : DS1 X (.Assign [.Tuple [.Name x px, .Name y py] kt pt] (.Tuple [a, b] k2 pt2) pos) en S Z := ⟨fun σ H Hd st re De l => by
  refine wS_of (ps_par hc hN hi hj hij hx hy paW hw hs) ?_
  refine wA_mono (h σ H Hd st re) fun vs H1 ⟨ds, S1, Hd1, e1, st1, r1, v, w, e2, q⟩ => ?_
  subst e2
  obtain ⟨v1, w1, e3, rv, rw'⟩ := two_rp r1
  exact ⟨v1, w1, e3, l.nx _ S1 _ H1 Hd1 e1 st1 (((re.mono e1).set rv i).set rw' j) q⟩⟩
theorem ds_ret (h : DE X e en S Z.rt) : DS1 X (.Return (some e) pos) en S Z := ⟨fun σ H Hd st re De l =>
  wS_of (ps_ret peW) (wE_mono (h σ H Hd st re) fun v H1 ⟨d, S1, Hd1, e1, st1, r1, q⟩ => l.rt d S1 v H1 Hd1 e1 st1 r1 q)⟩
theorem ds_if {s1 s2 : List Stmt} (h : DT X c en S fun t S1 => (t = true → DS X s1 en S1 Z) ∧ (t = false → DS X s2 en S1 Z)) : DS1 X (.If c s1 s2 pos) en S Z := ⟨fun σ H Hd st re De l => by
  refine wS_of (ps_if ptW pssW pssW) ?_
  refine wT_mono (h σ H Hd st re) fun t H1 ⟨S1, Hd1, e1, st1, q1, q2⟩ => ?_
  cases t with
  | true =>
    rw [if_pos rfl]
    exact q1 rfl σ H1 Hd1 st1 (re.mono e1) De (l.up e1)
  | false =>
    rw [if_neg Bool.false_ne_true]
    exact q2 rfl σ H1 Hd1 st1 (re.mono e1) De (l.up e1)⟩
theorem ds_expr (h : DE X e en S fun _ S1 => Z.nx en S1) (hs : swapsWith e none pos.line X.env = pure false := by first | exact sws1 rfl | exact sw0 rfl | rfl) : DS1 X (.Expr e pos) en S Z := ⟨fun σ H Hd st re De l =>
  wS_of (ps_expr peW hs) (wE_mono (h σ H Hd st re) fun v H1 ⟨d, S1, Hd1, e1, st1, r1, q⟩ => l.nx en S1 σ H1 Hd1 e1 st1 (re.mono e1) q)⟩
/-- xs.append(e) -/
theorem de_append {o : Expr} {apos cpos : Pos} {Q : D → Sto → Prop} (h : DE X o en S fun d S1 => ∃ p l, d = .raw (.ref p) ∧ getS p S1 = some l ∧ DA X [e] en S1 fun vs S2 => ∃ v l, vs = [v] ∧ getS p S2 = some l ∧ l.length < 100000 ∧ Q .non (setS p (l ++ [v]) S2))
    (mk : ∀ {to : TE} {t : TA}, PE X o to → PA X [e] t → PE X (.Call (.Attribute o "append" apos) [e] [] cpos) (tBM X.K "list" rAppend to t) := by
      exact fun ho ha => pe_bm PySem.F.plainAttrs_list PySem.F.slot_list_append PySem.F.type_list_append mt_append ho ha) : DE X (.Call (.Attribute o "append" apos) [e] [] cpos) en S Q := ⟨fun σ H Hd st re => by
  refine wE_of (mk peW paW) ?_
  refine wE_mono (h σ H Hd st re) fun o' H1 ⟨d, S1, Hd1, e1, st1, r1, p, l, f1, g, q⟩ => ?_
  subst f1
  have r1 : o' = V.ref p := r1
  subst r1
  obtain ⟨_, xs, hx, _⟩ := st1.own.at g
  refine ⟨.inl ⟨rfl, xs, .of hx⟩, ?_⟩
  refine wA_mono (q σ H1 Hd1 st1 (re.mono e1)) fun vs H2 ⟨ds, S2, Hd2, e2, st2, r2, v, l2, f2, g2, n2, q2⟩ => ?_
  subst f2
  obtain ⟨v1, f3, rv⟩ := one_rp r2
  subst f3
  obtain ⟨_, ys, hy, ry⟩ := st2.own.at g2
  have ln : ys.length < sizeLine := by
    rw [ry.length]
    exact Nat.lt_of_lt_of_le n2 (by decide)
  refine ⟨p, ys, v1, rfl, rfl, hy, ln, ?_⟩
  exact ⟨.non, _, Hd2, e1.trans e2, st2.written g2 (ry.append (show RpL X.K Hd2 [v] [v1] from ⟨v1, [], rfl, rv, rfl⟩)), rfl, q2⟩⟩
end

/-! ### loops -/
/-- the iterator yields these data, one after another -/
structure ItOk (K : PySem.W.Frag) (Hd : Hp) (J : It) (ds : List D) : Prop where
  go : ∀ {Hd' H : Hp} {S : Sto} {i : Nat} {d : D}, Same Hd Hd' → St0 K S Hd' H → ds[i]? = some d → J.go i H ∧ ∀ x H', J.yld i H x H' → ∃ Hd2, Same Hd' Hd2 ∧ St0 K S Hd2 H' ∧ Rp K Hd2 d x
  stop : ∀ {Hd' H : Hp} {S : Sto}, Same Hd Hd' → St0 K S Hd' H → J.stop ds.length H
def wI (X : Cx) (tg iter : Expr) : TI := fun σ H R => ∀ pins s, Inv X pins σ H s →
  wpAny (model X.prog X.w) X.A (eval iter X.env) (fun v s1 => wpAny (model X.prog X.w) X.A (pyIter v) (PIE X pins σ tg R) X.xe s1) X.xe s
structure DI (X : Cx) (tg iter : Expr) (en : DEnv) (S : Sto) (R : List D → Sto → Prop) : Prop where
  run : ∀ (σ : L2.St) (H Hd : Hp), St0 X.K S Hd H → RpE X.K Hd en σ →
  wI X tg iter σ H fun J H' => ∃ ds S' Hd', Same Hd Hd' ∧ St0 X.K S' Hd' H' ∧ ItOk X.K Hd' J ds ∧ R ds S'
instance {X : Cx} {tg iter : Expr} {en : DEnv} {S : Sto} {R : List D → Sto → Prop} : CoeFun (DI X tg iter en S R) (fun _ => ∀ (σ : L2.St) (H Hd : Hp), St0 X.K S Hd H → RpE X.K Hd en σ →
  wI X tg iter σ H fun J H' => ∃ ds S' Hd', Same Hd Hd' ∧ St0 X.K S' Hd' H' ∧ ItOk X.K Hd' J ds ∧ R ds S') := ⟨fun h => h.run⟩
section
variable {X : Cx} {a b c e tg iter : Expr} {es ts : List Expr} {st : Stmt} {sts rest body : List Stmt} {en en' : DEnv} {S : Sto} {Z : Dn} {N : DEnv → Sto → Prop} {pos pos' p2 p : Pos} {x : Str} {d : D} {ds : List D} {R : List D → Sto → Prop}
theorem piW : PI X tg iter (wI X tg iter) := ⟨fun pins s _ _ _ I h => h pins s I⟩
theorem wI_of {t : TI} {σ : L2.St} {H : Hp} {Q : It → Hp → Prop} (h : PI X tg iter t) (q : t σ H Q) : wI X tg iter σ H Q := fun pins s I => h.run pins s σ H Q I q
theorem it_list {K : PySem.W.Frag} {Hd : Hp} {a : Addr} {xs : List V} (h : SqL K Hd a xs) (r : RpL K Hd ds xs) (inj : ∀ {H : Hp} {ys zs : List V}, SqL K H a ys → SqL K H a zs → True) : ItOk K Hd (Itl K a) ds where
  go := fun {Hd' H S i d} e st hi => by
    obtain ⟨v, hv, rv⟩ := r.get hi
    have hs := same_l (e.trans st.sub) h
    refine ⟨⟨xs, v, hs, hv⟩, fun x H' y => ?_⟩
    obtain ⟨e1, y⟩ := y
    subst e1
    have q := y xs hs
    rw [hv] at q
    cases q
    exact ⟨Hd', Same.refl _, st, Rp.mono e d v rv⟩
  stop := fun {Hd' H S} e st => ⟨xs, same_l (e.trans st.sub) h, by rw [r.length]; exact Nat.le_refl _⟩
theorem it_tup {K : PySem.W.Frag} {Hd : Hp} {a : Addr} {xs : List V} (h : SqT K Hd a xs) (r : RpL K Hd ds xs) : ItOk K Hd (Itt K a) ds where
  go := fun {Hd' H S i d} e st hi => by
    obtain ⟨v, hv, rv⟩ := r.get hi
    have hs := same_t (e.trans st.sub) h
    refine ⟨⟨xs, v, hs, hv⟩, fun x H' y => ?_⟩
    obtain ⟨e1, y⟩ := y
    subst e1
    have q := y xs hs
    rw [hv] at q
    cases q
    exact ⟨Hd', Same.refl _, st, Rp.mono e d v rv⟩
  stop := fun {Hd' H S} e st => ⟨xs, same_t (e.trans st.sub) h, by rw [r.length]; exact Nat.le_refl _⟩
def rngD (lo : Int) (n : Nat) : List D := (List.range n).map fun i => D.int (lo + (i : Nat))
theorem rngD_len {lo : Int} {n : Nat} : (rngD lo n).length = n := by unfold rngD; simp
theorem rngD_get {lo : Int} {n i : Nat} {d : D} (h : (rngD lo n)[i]? = some d) : i < n ∧ d = .int (lo + (i : Nat)) := by
  have hi : i < n := by
    have := (List.getElem?_eq_some_iff.mp h).1
    rw [rngD_len] at this
    exact this
  refine ⟨hi, ?_⟩
  unfold rngD at h
  rw [List.getElem?_map, List.getElem?_range hi] at h
  exact (Option.some.inj h).symm
theorem it_rng {K : PySem.W.Frag} {Hd : Hp} {lo : Int} {n : Nat} : ItOk K Hd (Itr lo n) (rngD lo n) where
  go := fun {Hd' H S i d} e st hi => by
    obtain ⟨h1, h2⟩ := rngD_get hi
    subst h2
    refine ⟨h1, fun x H' y => ?_⟩
    obtain ⟨e1, e2⟩ := y
    subst e1 e2
    exact ⟨Hd', Same.refl _, st, rfl⟩
  stop := fun {Hd' H S} e st => by
    show n ≤ (rngD lo n).length
    rw [rngD_len]
    exact Nat.le_refl _
def enuD (ds : List D) : List D := ds.mapIdx fun i d => D.tup [.int (i : Nat), d]
theorem enuD_get {i : Nat} {d : D} (h : (enuD ds)[i]? = some d) : ∃ x, ds[i]? = some x ∧ d = .tup [.int (i : Nat), x] := by
  unfold enuD at h
  rw [List.getElem?_mapIdx] at h
  cases q : ds[i]? with
  | none => rw [q] at h; cases h
  | some x =>
    rw [q] at h
    exact ⟨x, rfl, (Option.some.inj h).symm⟩
theorem it_enu {K : PySem.W.Frag} {Hd : Hp} {a : Addr} {xs : List V} (h : SqL K Hd a xs) (r : RpL K Hd ds xs) : ItOk K Hd (Ite K a) (enuD ds) where
  go := fun {Hd' H S i d} e st hi => by
    obtain ⟨z, hz, ez⟩ := enuD_get hi
    subst ez
    obtain ⟨v, hv, rv⟩ := r.get hz
    have hs := same_l (e.trans st.sub) h
    refine ⟨⟨xs, v, hs, hv⟩, fun x H' y => ?_⟩
    obtain ⟨T, w, e1, hT, e2, y⟩ := y
    subst e1 e2
    have q := y xs hs
    rw [hv] at q
    cases q
    obtain ⟨k1, k2⟩ := st.laid (o := .tup [.int (i : Nat), v]) hT
    exact ⟨_, k1, k2, T, _, rfl, SqT.of upd_same, ⟨_, _, rfl, rfl, _, _, rfl, Rp.mono (e.trans k1) z v rv, rfl⟩⟩
  stop := fun {Hd' H S} e st => by
    refine ⟨xs, same_l (e.trans st.sub) h, ?_⟩
    rw [r.length]
    unfold enuD
    simp
theorem di_lst (h : DE X iter en S fun d S1 => ∃ l, d = .lst l ∧ R l S1) : DI X tg iter en S R := ⟨fun σ H Hd st re => by
  refine wI_of (pi_list peW) ?_
  refine wE_mono (h σ H Hd st re) fun v H1 ⟨d, S1, Hd1, e1, st1, r1, l, e2, q⟩ => ?_
  subst e2
  obtain ⟨a, xs, f1, f2, f3⟩ := r1
  exact ⟨a, f1, ⟨xs, .of (st1.sub _ _ f2)⟩, l, S1, Hd1, e1, st1, it_list (.of f2) f3 (fun _ _ => trivial), q⟩⟩
theorem di_tup (h : DE X iter en S fun d S1 => ∃ l, d = .tup l ∧ R l S1) : DI X tg iter en S R := ⟨fun σ H Hd st re => by
  refine wI_of (pi_tup peW) ?_
  refine wE_mono (h σ H Hd st re) fun v H1 ⟨d, S1, Hd1, e1, st1, r1, l, e2, q⟩ => ?_
  subst e2
  obtain ⟨a, xs, f1, f2, f3⟩ := r1
  exact ⟨a, f1, ⟨xs, same_t st1.sub f2⟩, l, S1, Hd1, e1, st1, it_tup f2 f3, q⟩⟩
theorem di_rng1 (hm : X.mg "range" = none) (h : DA X [a] en S fun ds S1 => ∃ n : Int, ds = [.int n] ∧ (-(2 ^ 62) ≤ n ∧ n < 2 ^ 62) ∧ R (rngD 0 n.toNat) S1) (hg : Gl X "range" := by rfl) (hs : starEach [a] X.env = [(false, eval a X.env)] := by rfl) : DI X tg (.Call (.Name "range" p) [a] [] pos) en S R := ⟨fun σ H Hd st re => by
  refine wI_of (pi_range1 hg hm paW hs) ?_
  refine wA_mono (h σ H Hd st re) fun vs H1 ⟨ds, S1, Hd1, e1, st1, r1, n, e2, ⟨n1, n2⟩, q⟩ => ?_
  subst e2
  obtain ⟨v, f1, rv⟩ := one_rp r1
  have rv : v = V.int n := rv
  subst f1 rv
  exact ⟨n, rfl, n1, n2, _, S1, Hd1, e1, st1, it_rng, q⟩⟩
theorem di_rng2 (hm : X.mg "range" = none) (h : DA X [a, b] en S fun ds S1 => ∃ m n : Int, ds = [.int m, .int n] ∧ (-(2 ^ 62) ≤ m ∧ m < 2 ^ 62 ∧ -(2 ^ 62) ≤ n ∧ n < 2 ^ 62) ∧ R (rngD m (n - m).toNat) S1) (hg : Gl X "range" := by rfl)
    (hs : starEach [a, b] X.env = [(false, eval a X.env), (false, eval b X.env)] := by rfl) (hs2 : starEach [b] X.env = [(false, eval b X.env)] := by rfl) : DI X tg (.Call (.Name "range" p) [a, b] [] pos) en S R := ⟨fun σ H Hd st re => by
  refine wI_of (pi_range2 hg hm paW hs hs2) ?_
  refine wA_mono (h σ H Hd st re) fun vs H1 ⟨ds, S1, Hd1, e1, st1, r1, m, n, e2, nn, q⟩ => ?_
  subst e2
  obtain ⟨v, w, f1, rv, rw'⟩ := two_rp r1
  have rv : v = V.int m := rv
  have rw' : w = V.int n := rw'
  subst f1 rv rw'
  exact ⟨m, n, rfl, nn, _, S1, Hd1, e1, st1, it_rng, q⟩⟩
theorem di_enum {elts : List Expr} {kk : Nat} {tpos : Pos} (hm : X.mg "enumerate" = none) (h : DA X [e] en S fun ds S1 => ∃ l, ds = [.lst l] ∧ R (enuD l) S1) (hg : Gl X "enumerate" := by rfl) (hs : starEach [e] X.env = [(false, eval e X.env)] := by rfl) :
    DI X (.Tuple elts kk tpos) (.Call (.Name "enumerate" p) [e] [] pos) en S R := ⟨fun σ H Hd st re => by
  refine wI_of (pi_enum hg hm paW hs) ?_
  refine wA_mono (h σ H Hd st re) fun vs H1 ⟨ds, S1, Hd1, e1, st1, r1, l, e2, q⟩ => ?_
  subst e2
  obtain ⟨v, f1, a, xs, f2, f3, f4⟩ := one_rp r1
  subst f1 f2
  exact ⟨a, xs, rfl, .of (st1.sub _ _ f3), _, S1, Hd1, e1, st1, it_enu (.of f3) f4, q⟩⟩
/-- THE LOOP: E g, what is known of the slots; P i g, what holds ahead of turn i; g is yours -/
theorem ds_for {γ : Type} (hp : PassesOwn (model X.prog X.w) X.A X.env X.xe) (hc : X.calm = true)
    (h : DI X tg iter en S fun ds S1 => ∃ (E : γ → DEnv) (P : Nat → γ → Sto → Prop) (g0 : γ), Wk en (E g0) ∧ P 0 g0 S1 ∧
      (∀ i d g S', ds[i]? = some d → P i g S' → DG X tg d (E g) S' fun en2 S2 => DS X body en2 S2 { nx := fun en3 S3 => ∃ g', Wk en3 (E g') ∧ P (i + 1) g' S3, rt := Z.rt, ct := fun en3 S3 => ∃ g', Wk en3 (E g') ∧ P (i + 1) g' S3, bk := Z.nx }) ∧
      ∀ g S', P ds.length g S' → Z.nx (E g) S') (hs : ∀ x, foldedSetIterable iter X.env x = pure x := by first | exact fset rfl | (intro _; rfl)) : DS1 X (.For tg iter body [] pos) en S Z := ⟨fun σ H Hd st re De l => by
  refine wS_of (ps_for hp hc piW pgW pssW hs) ?_
  intro pins s I
  refine thn (h σ H Hd st re pins s I) fun v s1 h1 => thn h1 fun itv s2 h2 => ?_
  obtain ⟨it, fp, tn, J, H2, e, I2, T, st2, f2, ds, S1, Hd1, e1, s01, io, E, P, g0, wk, p0, turn, fin⟩ := h2
  refine ⟨it, fp, tn, J, H2, e, I2, T, st2, f2, ?_⟩
  refine ⟨fun i m σ H => m = ds.length - i ∧ i ≤ ds.length ∧ ∃ g S' Hd', Same Hd1 Hd' ∧ St0 X.K S' Hd' H ∧ RpE X.K Hd' (E g) σ ∧ P i g S', ⟨_, rfl, Nat.zero_le _, g0, S1, Hd1, Same.refl _, s01, wk.use (re.mono e1), p0⟩, ?_⟩
  rintro i m σ H ⟨rfl, hi, g, S', Hd', k1, k2, k3, k4⟩
  by_cases hlt : i < ds.length
  · obtain ⟨go, yl⟩ := io.go k1 k2 (List.getElem?_eq_getElem hlt)
    refine .inr ⟨go, fun σ' H' => ∃ g S' Hd', Same Hd1 Hd' ∧ St0 X.K S' Hd' H' ∧ RpE X.K Hd' (E g) σ' ∧ P (i + 1) g S', fun σ' H' q => ⟨ds.length - (i + 1), by omega, rfl, hlt, q⟩, fun x H' y => ?_⟩
    obtain ⟨Hd2, y1, y2, y3⟩ := yl x H' y
    refine wG_mono (turn i _ g S' (List.getElem?_eq_getElem hlt) k4 σ H' Hd2 x y2 (k3.mono y1) y3) fun σ4 H4 ⟨en4, S4, Hd4, z1, z2, z3, z4⟩ => ?_
    have up : Same Hd1 Hd4 := k1.trans (y1.trans z1)
    exact z4 σ4 H4 Hd4 z2 z3 _ ⟨fun en5 S5 σ5 H5 Hd5 w1 w2 w3 ⟨g', w4, w5⟩ => ⟨g', S5, Hd5, up.trans w1, w2, w4.use w3, w5⟩, fun d5 S5 v5 H5 Hd5 w1 => l.rt d5 S5 v5 H5 Hd5 (e1.trans (up.trans w1)),
      fun en5 S5 σ5 H5 Hd5 w1 => l.nx en5 S5 σ5 H5 Hd5 (e1.trans (up.trans w1)), fun en5 S5 σ5 H5 Hd5 w1 w2 w3 ⟨g', w4, w5⟩ => ⟨g', S5, Hd5, up.trans w1, w2, w4.use w3, w5⟩⟩
  · have e0 : i = ds.length := by omega
    subst e0
    exact .inl ⟨io.stop k1 k2, l.nx (E g) S' σ H Hd' (e1.trans k1) k2 k3 (fin g S' k4)⟩⟩
end
end DL
namespace DL
open PySem PySem.Spec PyProof.Rows L2

/-! ### comprehensions -/
theorem RpE.reset {K : PySem.W.Frag} {H : Hp} {d : D} {v : V} {en : DEnv} {σ : L2.St} (i : Nat) (h : RpE K H en σ) (r : Rp K H d v) : RpE K H (en.set i (some d)) ((wipe σ [i]).set i (some v)) := by
  have e : (wipe σ [i]).set i (some v) = σ.set i (some v) := by
    show (σ.set i none).set i (some v) = _
    rw [List.set_set]
  rw [e]
  exact h.set r i
theorem wipe_back {σ : L2.St} {i : Nat} {v : V} : wipe ((wipe σ [i]).set i (some v)) [i] = wipe σ [i] := by
  show ((σ.set i none).set i (some v)).set i none = σ.set i none
  rw [List.set_set, List.set_set]
section
variable {X : Cx} {elt iter c : Expr} {en : DEnv} {S : Sto} {Q : D → Sto → Prop} {pos py : Pos} {y : Str} {scope : Scope}
/-- the block of a comprehension -/
abbrev bX (X : Cx) (scope : Scope) (s : Shared) (H : Hp) (C : Addr) (cl : List (Str × Addr)) (fp : List Addr) : Cx := X.blk s H scope (compEnvC scope cl C X.env) fp
/-- one turn's item: the element's data behind the items so far -/
def Turn1 (X : Cx) (scope : Scope) (elt : Expr) (en : DEnv) (S : Sto) (p : Addr) (acc : List D) (N : List D → Sto → Prop) : Prop :=
  ∀ s H C cl fp, DE (bX X scope s H C cl fp) elt en ((p, acc) :: S) fun d S2 => ∃ S3, S2 = (p, acc) :: S3 ∧ N (acc ++ [d]) S3
theorem pe_blk (te : TE) (h : te = fun σ H Q => ∀ s0 H0 C cl fp, wE (bX X scope s0 H0 C cl fp) elt σ H Q) : ∀ (s : Shared) (H : Hp) (C : Addr) (cl : List (Str × Addr)) (fp : List Addr), PE (bX X scope s H C cl fp) elt te := fun s0 H0 C cl fp => by
  subst h
  exact ⟨fun pins s _ _ _ I q => q s0 H0 C cl fp pins s I⟩
theorem pt_blk (tt : TT) (h : tt = fun σ H Q => ∀ s0 H0 C cl fp, wT (bX X scope s0 H0 C cl fp) c σ H Q) : ∀ (s : Shared) (H : Hp) (C : Addr) (cl : List (Str × Addr)) (fp : List Addr), PT (bX X scope s H C cl fp) c tt := fun s0 H0 C cl fp => by
  subst h
  exact ⟨fun pins s _ _ _ I q => q s0 H0 C cl fp pins s I⟩
variable {ifs : List Expr} {tt : TT}
/-- the comprehension's walk, whatever its tests -/
theorem lc_go (i : Nat) (te : TE) {own : List Nat} (ho : own = [i]) (mT : ∀ (σ : L2.St) (H : Hp) (A B : Bool → Hp → Prop), tt σ H A → (∀ b H', A b H' → B b H') → tt σ H B) (mE : ∀ (σ : L2.St) (H : Hp) (A B : VK), te σ H A → (∀ v H', A v H' → B v H') → te σ H B)
    (h : DI X (.Name y py) iter en S fun ds S1 => ∃ (P : Nat → List D → Sto → Prop), P 0 [] S1 ∧
      (∀ k d acc S' p, ds[k]? = some d → P k acc S' → getS p S' = none → acc.length ≤ k → ∀ (σ : L2.St) (H Hd : Hp), St0 X.K ((p, acc) :: S') Hd H → RpE X.K Hd (en.set i (some d)) σ →
        tt σ H fun b H3 => if b = true then te σ H3 fun v H4 => ∃ d2 S4 Hd4, Same Hd Hd4 ∧ St0 X.K ((p, acc) :: S4) Hd4 H4 ∧ Rp X.K Hd4 d2 v ∧ P (k + 1) (acc ++ [d2]) S4 else ∃ S4 Hd4, Same Hd Hd4 ∧ St0 X.K ((p, acc) :: S4) Hd4 H3 ∧ P (k + 1) acc S4) ∧
      ds.length ≤ 100000 ∧ ∀ acc S', acc.length ≤ ds.length → P ds.length acc S' → Q (.lst acc) S') {σ : L2.St} {H Hd : Hp} (st : St0 X.K S Hd H) (re : RpE X.K Hd en σ) (Qv : VK) (kq : ∀ v H', QD X.K Hd Q v H' → Qv v H') : tLc (wI X (.Name y py) iter) (gName i) tt te own σ H Qv := by
  subst ho
  intro pins s I
  refine thn (DI.run h σ H Hd st re pins s I) fun v s1 h1 => thn h1 fun itv s2 h2 => ?_
  obtain ⟨it, fp, tn, J, H2, e, I2, T, st2, f2, ds, S1, Hd1, e1, s01, io, P, p0, turn, lim, fin⟩ := h2
  refine ⟨it, fp, tn, J, H2, e, I2, T, st2, f2, fun p hp => ?_⟩
  obtain ⟨fr, s02⟩ := s01.laidO (l := []) (xs := []) hp rfl
  refine ⟨fun k m H => m = ds.length - k ∧ k ≤ ds.length ∧ ∃ acc S' Hd', acc.length ≤ k ∧ Same Hd1 Hd' ∧ St0 X.K ((p, acc) :: S') Hd' H ∧ P k acc S', ⟨_, rfl, Nat.zero_le _, [], S1, Hd1, Nat.le_refl _, Same.refl _, s02, p0⟩, ?_⟩
  rintro k m H ⟨rfl, hk, acc, S', Hd', ka, k1, k2, k3⟩
  by_cases hlt : k < ds.length
  · obtain ⟨go, yl⟩ := io.go k1 k2 (List.getElem?_eq_getElem hlt)
    refine .inr ⟨go, fun H' => ∃ acc S' Hd', acc.length ≤ k + 1 ∧ Same Hd1 Hd' ∧ St0 X.K ((p, acc) :: S') Hd' H' ∧ P (k + 1) acc S', fun H' q => ⟨ds.length - (k + 1), by omega, rfl, hlt, q⟩, fun x H' y => ?_⟩
    obtain ⟨Hd2, y1, y2, y3⟩ := yl x H' y
    refine ⟨wipe_back, ?_⟩
    have reB := RpE.reset i (re.mono (e1.trans (k1.trans y1))) y3
    have go2 := turn k _ acc S' p (List.getElem?_eq_getElem hlt) k3 k2.own.2.1 ka _ H' Hd2 y2 reB
    have en1 : ∀ (H4 : Hp) (v : V) (d2 : D) (S4 : Sto) (Hd4 : Hp), Same Hd2 Hd4 → St0 X.K ((p, acc) :: S4) Hd4 H4 → Rp X.K Hd4 d2 v → P (k + 1) (acc ++ [d2]) S4 →
        ∃ vs, H4 p = some (.lst vs) ∧ vs.length < sizeLine ∧ ∃ acc S' Hd', acc.length ≤ k + 1 ∧ Same Hd1 Hd' ∧ St0 X.K ((p, acc) :: S') Hd' (upd H4 p (.lst (vs ++ [v]))) ∧ P (k + 1) acc S' := by
      intro H4 v d2 S4 Hd4 z1 z2 z3 z4
      obtain ⟨_, xs, hx, rx⟩ := z2.own.at (l := acc) getS_hd
      refine ⟨xs, hx, by rw [rx.length]; exact Nat.lt_of_le_of_lt (Nat.le_trans ka hk) (Nat.lt_of_le_of_lt lim (by decide)), acc ++ [d2], S4, Hd4, by rw [List.length_append, List.length_singleton]; omega, k1.trans (y1.trans z1), ?_, z4⟩
      have w := z2.written (l' := acc ++ [d2]) (ys := xs ++ [v]) getS_hd (rx.append (show RpL X.K Hd4 [d2] [v] from ⟨v, [], rfl, z3, rfl⟩))
      rw [setS_hd] at w
      exact w
    refine mT _ _ _ _ go2 fun b H3 q => ?_
    cases b with
    | true =>
      rw [if_pos rfl] at q ⊢
      exact mE _ _ _ _ q fun v H4 ⟨d2, S4, Hd4, z1, z2, z3, z4⟩ => en1 H4 v d2 S4 Hd4 z1 z2 z3 z4
    | false =>
      rw [if_neg Bool.false_ne_true] at q ⊢
      obtain ⟨S4, Hd4, z1, z2, z3⟩ := q
      exact ⟨acc, S4, Hd4, Nat.le_succ_of_le ka, k1.trans (y1.trans z1), z2, z3⟩
  · have e0 : k = ds.length := by omega
    subst e0
    obtain ⟨xs, rx, ex, sx⟩ := k2.frozen
    exact .inl ⟨io.stop k1 k2, kq _ _ ⟨.lst acc, S', _, e1.trans (k1.trans ex), sx, ⟨p, xs, rfl, upd_same, rx.mono ex⟩, fin acc S' ka k3⟩⟩
abbrev teB (X : Cx) (scope : Scope) (elt : Expr) : TE := fun σ H Q => ∀ s0 H0 C cl fp, wE (bX X scope s0 H0 C cl fp) elt σ H Q
abbrev ttB (X : Cx) (scope : Scope) (c : Expr) : TT := fun σ H Q => ∀ s0 H0 C cl fp, wT (bX X scope s0 H0 C cl fp) c σ H Q
/-- what a comprehension without a test is asked -/
def Lc0 (X : Cx) (scope : Scope) (i : Nat) (y : Str) (py : Pos) (elt iter : Expr) (en : DEnv) (S : Sto) (Q : D → Sto → Prop) : Prop := DI X (.Name y py) iter en S fun ds S1 => ∃ (P : Nat → List D → Sto → Prop), P 0 [] S1 ∧
  (∀ k d acc S' p, ds[k]? = some d → P k acc S' → getS p S' = none → acc.length ≤ k → Turn1 X scope elt (en.set i (some d)) S' p acc (P (k + 1))) ∧ ds.length ≤ 100000 ∧ ∀ acc S', acc.length ≤ ds.length → P ds.length acc S' → Q (.lst acc) S'
/-- .. with a test -/
def Lc1 (X : Cx) (scope : Scope) (i : Nat) (y : Str) (py : Pos) (elt iter c : Expr) (en : DEnv) (S : Sto) (Q : D → Sto → Prop) : Prop := DI X (.Name y py) iter en S fun ds S1 => ∃ (P : Nat → List D → Sto → Prop), P 0 [] S1 ∧
  (∀ k d acc S' p, ds[k]? = some d → P k acc S' → getS p S' = none → acc.length ≤ k → ∀ s H C cl fp, DT (bX X scope s H C cl fp) c (en.set i (some d)) ((p, acc) :: S') fun b S2 => ∃ S3, S2 = (p, acc) :: S3 ∧ (b = true → Turn1 X scope elt (en.set i (some d)) S3 p acc (P (k + 1))) ∧ (b = false → P (k + 1) acc S3)) ∧
  ds.length ≤ 100000 ∧ ∀ acc S', acc.length ≤ ds.length → P ds.length acc S' → Q (.lst acc) S'
theorem lc0_read {i : Nat} (h : Lc0 X scope i y py elt iter en S Q) {σ : L2.St} {H Hd : Hp} (st : St0 X.K S Hd H) (re : RpE X.K Hd en σ) (Qv : VK) (kq : ∀ v H', QD X.K Hd Q v H' → Qv v H') : tLc (wI X (.Name y py) iter) (gName i) tYes (teB X scope elt) [i] σ H Qv := by
  refine lc_go (tt := tYes) i _ rfl (fun σ H A B q k => k _ _ q) (fun σ H A B q k s0 H0 C cl fp => wE_mono (q s0 H0 C cl fp) k) ?_ st re Qv kq
  refine ⟨fun σ H Hd st re => ?_⟩
  intro pins s I
  refine thn (DI.run h σ H Hd st re pins s I) fun v s1 h1 => thn h1 fun itv s2 h2 => ?_
  obtain ⟨it, fp, tn, J, H2, e, I2, T, st2, f2, ds, S1, Hd1, e1, s01, io, P, p0, turn, lim, fin⟩ := h2
  refine ⟨it, fp, tn, J, H2, e, I2, T, st2, f2, ds, S1, Hd1, e1, s01, io, P, p0, fun k d acc S' p hk hP hp hl σ H Hd st re => ?_, lim, fin⟩
  show tYes σ H _
  unfold tYes
  simp only [↓reduceIte]
  intro s0 H0 C cl fp
  exact wE_mono (turn k d acc S' p hk hP hp hl s0 H0 C cl fp σ H Hd st re) fun v H4 ⟨d2, S2, Hd4, z1, z2, z3, S3, z4, z5⟩ => by
    subst z4
    exact ⟨d2, S3, Hd4, z1, z2, z3, z5⟩
theorem lc1_read {i : Nat} (h : Lc1 X scope i y py elt iter c en S Q) {σ : L2.St} {H Hd : Hp} (st : St0 X.K S Hd H) (re : RpE X.K Hd en σ) (Qv : VK) (kq : ∀ v H', QD X.K Hd Q v H' → Qv v H') : tLc (wI X (.Name y py) iter) (gName i) (ttB X scope c) (teB X scope elt) [i] σ H Qv := by
  refine lc_go i _ rfl (fun σ H A B q k s0 H0 C cl fp => wT_mono (q s0 H0 C cl fp) k) (fun σ H A B q k s0 H0 C cl fp => wE_mono (q s0 H0 C cl fp) k) ?_ st re Qv kq
  refine ⟨fun σ H Hd st re => ?_⟩
  intro pins s I
  refine thn (DI.run h σ H Hd st re pins s I) fun v s1 h1 => thn h1 fun itv s2 h2 => ?_
  obtain ⟨it, fp, tn, J, H2, e, I2, T, st2, f2, ds, S1, Hd1, e1, s01, io, P, p0, turn, lim, fin⟩ := h2
  refine ⟨it, fp, tn, J, H2, e, I2, T, st2, f2, ds, S1, Hd1, e1, s01, io, P, p0, fun k d acc S' p hk hP hp hl σ H Hd st re => ?_, lim, fin⟩
  intro s0 H0 C cl fp
  refine wT_mono (turn k d acc S' p hk hP hp hl s0 H0 C cl fp σ H Hd st re) fun b H3 ⟨S2, Hd3, e3, st3, S3, z, q1, q2⟩ => ?_
  subst z
  cases b with
  | true =>
    rw [if_pos rfl]
    intro s5 H5 C5 cl5 fp5
    exact wE_mono (q1 rfl s5 H5 C5 cl5 fp5 σ H3 Hd3 st3 (re.mono e3)) fun v H4 ⟨d2, S5, Hd4, y1, y2, y3, S6, y4, y5⟩ => by
      subst y4
      exact ⟨d2, S6, Hd4, e3.trans y1, y2, y3, y5⟩
  | false =>
    rw [if_neg Bool.false_ne_true]
    exact ⟨S3, Hd3, e3, st3, q2 rfl⟩
/-- [elt for y in iter] -/
theorem de_lc (i : Nat) (hc : X.calm = true) (hN : X.N.Nodup) (ok : BlkOk X.N X.env.scope scope [(y, i)]) (h : Lc0 X scope i y py elt iter en S Q)
    (hg : ∀ (s : Shared) (H : Hp) (C : Addr) (cl : List (Str × Addr)) (fp : List Addr), PG (bX X scope s H C cl fp) (.Name y py) (gName i))
    (hs : ∀ x, foldedSetIterable iter X.env x = pure x := by first | exact fset rfl | (intro _; rfl)) : DE X (.ListComp elt [⟨.Name y py, iter, [], 0⟩] scope pos) en S Q := ⟨fun σ H Hd st re =>
  wE_of (pe_lc hc hN piW ok hg (fun _ _ _ _ _ => pts_nil) (pe_blk (te := teB X scope elt) rfl) hs) (lc0_read h st re _ fun _ _ z => z)⟩
/-- [elt for y in iter if c] -/
theorem de_lcIf (i : Nat) (hc : X.calm = true) (hN : X.N.Nodup) (ok : BlkOk X.N X.env.scope scope [(y, i)]) (h : Lc1 X scope i y py elt iter c en S Q)
    (hg : ∀ (s : Shared) (H : Hp) (C : Addr) (cl : List (Str × Addr)) (fp : List Addr), PG (bX X scope s H C cl fp) (.Name y py) (gName i))
    (hs : ∀ x, foldedSetIterable iter X.env x = pure x := by first | exact fset rfl | (intro _; rfl)) : DE X (.ListComp elt [⟨.Name y py, iter, [c], 0⟩] scope pos) en S Q := ⟨fun σ H Hd st re =>
  wE_of (pe_lc hc hN piW ok hg (fun s H C cl fp => pts_one (pt_blk (tt := ttB X scope c) rfl s H C cl fp)) (pe_blk (te := teB X scope elt) rfl) hs) (lc1_read h st re _ fun _ _ z => z)⟩
/-- x = [elt for y in iter], x a plain local on the same line -/
theorem ds_setLc {Z : Dn} {spos px : Pos} {x : Str} (j i : Nat) (hc : X.calm = true) (hN : X.N.Nodup) (hj : X.N[j]? = some x) (hx : X.env.scope.names.lookup x = some .local)
    (hsw : swapsWith (.ListComp elt [⟨.Name y py, iter, [], 0⟩] scope pos) (some (.Name x px)) spos.line X.env = pure true) (ok : BlkOk X.N X.env.scope scope [(y, i)])
    (h : Lc0 X scope i y py elt iter en S fun d S' => Z.nx (en.set j (some d)) S')
    (hg : ∀ (s : Shared) (H : Hp) (C : Addr) (cl : List (Str × Addr)) (fp : List Addr), PG (bX X scope s H C cl fp) (.Name y py) (gName i))
    (hs : ∀ x, foldedSetIterable iter X.env x = pure x := by first | exact fset rfl | (intro _; rfl)) : DS1 X (.Assign [.Name x px] (.ListComp elt [⟨.Name y py, iter, [], 0⟩] scope pos) spos) en S Z := ⟨fun σ H Hd st re De l =>
  wS_of (ps_setLc hc hN hj hx hsw piW ok hg (fun _ _ _ _ _ => pts_nil) (pe_blk (te := teB X scope elt) rfl) hs) (lc0_read h st re _ fun v H' ⟨d, S', Hd', e', st', r, q⟩ => l.nx _ S' _ H' Hd' e' st' ((re.mono e').set r j) q)⟩
end

/-! ### the law's end -/
/-- the promise of a law: it gives True of every such script -/
def conLaw (n : Nat) : Con := fun ds S Q => ∃ ns : List Int, ns.length ≤ n ∧ ds = [.scr ns] ∧ S = [] ∧ Q (.bl true) []
theorem law_end {l : PySem.W.OpenLaw} {n k : Nat} {q : Program} {loose : List Str} {XP : (Str → Option Value) → Heap → Prop} {YP : World → Heap → Prop} {d : DefRec} {K : Params → PySem.W.Frag} {x : Str}
    (hn : l.most = some n) (hn2 : n ≤ sizeLine) (hdf : d.params.defaults = []) (hr : Room k callerA) (hY : ∀ (w : World) (h : Heap), YP w h → (K w.params).In h)
    (F : ∀ (w : World) (mg : Str → Option Value) (fa : Addr) (h : Heap), (K w.params).In h → h.Ns mainGlobals mg → mg d.name = some (.ref fa) → ∃ fd : FuncData, (∀ (s : Shared) (u : Value), BindsTo s fd ⟨[u], []⟩ [(x, u)]) ∧
      ∀ base : Heap, (K w.params).In base → base.Ns mainGlobals mg → GOk l.prog w (K w.params) mg base k fa fd [x] (spD (K w.params) (conLaw n))) : PySem.W.WalkO q loose XP YP l.row.toRowW d [] (fun f vs => PySem.call f vs) := by
  refine Att.attach_call hn hdf fun w s0 s1 mg mb fa o pm cd doc a vs ns G Y ho hd hcd hmg hobj hints hlen hg => ?_
  have KX := hY w _ Y
  obtain ⟨fd, hb, hF⟩ := F w mg fa _ KX G.T.g hmg
  have rv := vals_ints hints
  -- the script is tracked, as known to its object, unless the module itself holds it
  generalize hH : (fun b => if b = a ∧ (K w.params).lookup a = none then some (HO.frz { cls := .type "list", data := .seq vs.toArray } (.lst (ns.map V.int))) else none : Hp) = H
  have none_of : ∀ b, ¬ (b = a ∧ (K w.params).lookup a = none) → H b = none := fun b z => by rw [← hH]; exact if_neg z
  have some_of : ∀ b u, H b = some u → b = a ∧ (K w.params).lookup a = none ∧ u = .frz { cls := .type "list", data := .seq vs.toArray } (.lst (ns.map V.int)) := fun b u z => by
    rw [← hH] at z
    by_cases c : b = a ∧ (K w.params).lookup a = none
    · have z2 := (if_pos c).symm.trans z
      exact ⟨c.1, c.2, (Option.some.inj z2).symm⟩
    · have z2 := (if_neg c).symm.trans z
      cases z2
  have scr : SqL (K w.params) H a (ns.map V.int) := by
    cases hk : (K w.params).lookup a with
    | none =>
      refine .inl (.inr ⟨{ cls := .type "list", data := .seq vs.toArray }, ?_⟩)
      rw [← hH]
      exact if_pos ⟨rfl, hk⟩
    | some ob =>
      have e := KX a ob hk
      rw [hobj] at e
      cases e
      exact .inr ⟨_, vs.toArray, _, hk, rfl, rfl, rfl, by rw [List.size_toArray, hints.length]; exact Nat.le_trans hlen hn2, by simpa using rv⟩
  have hok : HOk l.prog w H s1.heap := fun b u z => by
    obtain ⟨e1, _, e3⟩ := some_of b u z
    subst e1 e3
    exact ⟨hobj, by rw [List.length_map]; exact Nat.le_trans hlen hn2, vs, _, rv, hobj⟩
  have dictN : ∀ {b : Addr} {ob : Obj} {es : Array DictEntry} {ep : Nat}, s1.heap.get? b = some ob → ob.data = .dict es ep → H b = none := fun {b ob es ep} e dd => by
    refine none_of b fun z => ?_
    rw [z.1, hobj] at e
    cases e
    cases dd
  have nsB : ∀ {b : Addr} {m : Str → Option Value}, s1.heap.Ns b m → (hidT s1.heap H).Ns b m := fun ⟨ob, es, ep, e, dd, rr⟩ => ⟨ob, es, ep, hidT_get e (dictN e dd), dd, rr⟩
  have KB : (K w.params).In (hidT s1.heap H) := fun b ob e => hidT_get (KX b ob e) (none_of b fun z => by rw [z.1, z.2] at e; cases e)
  have M : Mod (K w.params) mg (hidT s1.heap H) := ⟨KB, nsB G.T.g, ⟨mb, nsB G.T.b, G.T.builtins⟩, let ⟨mc, z1, z2⟩ := G.T.nolimit; ⟨mc, nsB z1, z2⟩⟩
  have e0 : Env0 l.prog w (K w.params) mg (hidT s1.heap H) callerA [] s1 H := ⟨rfl, M, fun b ob e => of_hidT e, Nat.le_of_eq (hidT_size _ _), trivial, (fun b z => absurd (show b ∈ ([] : List Addr) from z) List.not_mem_nil), hok, .of_eq hg⟩
  have st : St0 (K w.params) [] H H := ⟨Same.refl _, trivial⟩
  have sp : spD (K w.params) (conLaw n) [V.ref a] H (fun v _ => v = V.bl true) fun _ _ _ => False := ⟨[.scr ns], [], H, fun d _ => d = .bl true, ⟨V.ref a, [], rfl, ⟨a, rfl, scr⟩, rfl⟩, st, ⟨ns, hlen, rfl, rfl, rfl⟩, fun d S' v H' Hd' z _ _ r => by
    subst z
    exact r⟩
  refine codeAny_mono ((hF _ KB (nsB G.T.g)).run callerA [] s1 H ⟨[.ref a], []⟩ [.ref a] [.ref a] _ _ rfl hr e0 (hb s1 (.ref a)) (.cons rfl .nil) sp) fun r s' h => ?_
  cases r with
  | error e => exact h.elim
  | ok fl =>
    cases fl with
    | next => exact False.elim h
    | brk => exact False.elim h
    | cont => exact False.elim h
    | ret u =>
      obtain ⟨v, H', os, bare, un, hok', r', q'⟩ := h
      have q' : v = V.bl true := q'
      subst q'
      have r' : u = Value.bool true := r'
      subst r'
      refine ⟨rfl, OldK.of_keep fun b ob e => ?_, os, bare⟩
      cases z : H b with
      | none => exact un.keep b ob e z (fun y => absurd (show b ∈ ([] : List Addr) from y) List.not_mem_nil) List.not_mem_nil
      | some u =>
        obtain ⟨_, _, e3⟩ := some_of b u z
        subst e3
        obtain ⟨k1, _⟩ := hok b _ z
        obtain ⟨k2, _⟩ := hok' b _ (un.frzs b _ _ z)
        rw [e] at k1
        cases k1
        exact k2
end DL
namespace DL
open PySem PySem.Spec PyProof.Rows L2

/-! ### sizes of ints -/
def Bd (n : Nat) (i : Int) : Prop := i.natAbs < 2 ^ n
section
variable {a b n : Nat} {i j : Int}
theorem Bd.up (h : Bd a i) (k : a ≤ b) : Bd b i := Nat.lt_of_lt_of_le h (Nat.pow_le_pow_right (by decide) k)
theorem Bd.mul (h : Bd a i) (k : Bd b j) : Bd (a + b) (i * j) := wide_lt h k
theorem Bd.neg (h : Bd a i) : Bd a (-i) := by
  unfold Bd at h ⊢
  rw [Int.natAbs_neg]
  exact h
theorem Bd.add (h : Bd a i) (k : Bd b j) : Bd (max a b + 1) (i + j) := by
  have h1 : i.natAbs < 2 ^ (max a b) := Bd.up h (Nat.le_max_left a b)
  have k1 : j.natAbs < 2 ^ (max a b) := Bd.up k (Nat.le_max_right a b)
  have := Int.natAbs_add_le i j
  unfold Bd
  rw [Nat.pow_succ]
  omega
theorem Bd.sub (h : Bd a i) (k : Bd b j) : Bd (max a b + 1) (i - j) := by
  rw [Int.sub_eq_add_neg]
  exact h.add k.neg
theorem Bd.div (h : Bd a i) : Bd a (i / j) := Nat.lt_of_le_of_lt (Int.natAbs_ediv_le_natAbs i j) h
theorem Bd.mod (h : Bd b j) (h0 : 0 < j) : Bd b (i % j) := by
  have h1 := Int.emod_nonneg i (by omega : j ≠ 0)
  have h2 := Int.emod_lt_of_pos i h0
  have h3 : j.natAbs < 2 ^ b := h
  unfold Bd
  omega
theorem Bd.abs (h : Bd a i) : Bd a (if i < 0 then -i else i) := by
  split
  · exact h.neg
  · exact h
theorem Bd.of_le (h0 : 0 ≤ i) (h1 : i ≤ j) (h : Bd a j) : Bd a i := by
  unfold Bd at h ⊢
  omega
theorem Bd.of_lt (h0 : 0 ≤ i) (h1 : i < j) (h : Bd a j) : Bd a i := Bd.of_le h0 (Int.le_of_lt h1) h
theorem Bd.of_abs (h0 : -j ≤ i) (h1 : i ≤ j) (h : Bd a j) : Bd a i := by
  unfold Bd at h ⊢
  omega
theorem Bd.lit (i : Int) : Bd (i.natAbs.log2 + 1) i := Nat.lt_log2_self
theorem Bd.pow (h : Bd a i) : ∀ k : Nat, Bd (a * k + 1) (i ^ k)
  | 0 => by
    rw [Int.pow_zero]
    show (1 : Int).natAbs < _
    rw [Nat.mul_zero]
    decide
  | k + 1 => by
    rw [Int.pow_succ]
    exact ((Bd.pow h k).mul h).up (by rw [Nat.mul_succ]; omega)
theorem cmw (h : Bd a i) (k : Bd b j) (z : a + b ≤ 900000) : CMulW i j := by
  have h1 := wide_lt h k
  unfold CMulW
  have x : ∀ (n : Nat) (m : Nat), m < 2 ^ n → m.log2 ≤ n := fun n m hm => by
    by_cases e : m = 0
    · subst e
      simp
    · exact Nat.le_of_lt ((Nat.log2_lt e).mpr hm)
  have := x a _ h
  have := x b _ k
  omega
theorem cdw (h : Bd b j) (h0 : 0 < j) (z : b ≤ 8000) : CDivW i j := ⟨h0, by
  have e : ¬ j.natAbs = 0 := by omega
  exact Nat.lt_of_lt_of_le ((Nat.log2_lt e).mpr h) (by omega)⟩
theorem cpw (h : Bd a i) (h0 : 0 ≤ j ∧ j ≤ 64) (z : a ≤ 900000) : CPowW i j := ⟨h0.1, h0.2, by
  by_cases e : i.natAbs = 0
  · rw [e]
    decide
  · exact Nat.lt_of_lt_of_le ((Nat.log2_lt e).mpr h) (by omega)⟩
theorem shw (h : Bd a i) (z : a ≤ 1900) : i.natAbs < 2 ^ 1900 := h.up z
end

/-! ### the built-ins by their names -/
theorem bt_abs : bootBuiltins "abs" = some (.builtin "abs") := by decide +kernel
theorem bt_max : bootBuiltins "max" = some (.builtin "max") := by decide +kernel
theorem bt_min : bootBuiltins "min" = some (.builtin "min") := by decide +kernel
theorem bt_len : bootBuiltins "len" = some (.builtin "len") := by decide +kernel
theorem bt_int : bootBuiltins "int" = some (.type "int") := by decide +kernel
theorem bt_tuple : bootBuiltins "tuple" = some (.type "tuple") := by decide +kernel
theorem bt_repr : bootBuiltins "repr" = some (.builtin "repr") := by decide +kernel
theorem bt_isinstance : bootBuiltins "isinstance" = some (.builtin "isinstance") := by decide +kernel
theorem bt_all : bootBuiltins "all" = some (.builtin "all") := by decide +kernel
/-! ### a def by its body, over data -/
theorem gok_ds {P : Program} {w : World} {K : PySem.W.Frag} {mg : Str → Option Value} {base : Heap} {k m : Nat} {x qual : Str} {st : Stmt} {f : Addr} {fd : FuncData} {N ps : List Str} {C : Con} (F : Fun K x qual st f fd) (S : FnScope N ps (defScope st))
    (hm : N.length - ps.length = m) (ln : ∀ ds S Q, C ds S Q → ds.length = ps.length)
    (body : ∀ (cdv : Value) (A : Around) (fr : List Env) (s : Shared) (H : Hp) (E : XK), (A.deeper (envOfC qual (defScope st) s.heap.objs.size f cdv)).guards = some [] → Room k (A.deeper (envOfC qual (defScope st) s.heap.objs.size f cdv)) → ∀ (ds : List D) (S0 : Sto) (Q : D → Sto → Prop), C ds S0 Q →
      DS (cxOf CX0 P w K mg base N qual (defScope st) f cdv A fr s H E).nox (defBody st) (ds.map some ++ List.replicate m none) S0 { nx := fun _ S' => Q .non S', rt := Q }) : GOk P w K mg base (k + 1) f fd ps (spD K C) := by
  refine gok_of F S (fun vs H Q E h => ?_) fun cdv A fr s H vs Q E gd hr h => ?_
  · obtain ⟨ds, S0, Hd, Qd, r, _, c, _⟩ := h
    rw [r.length]
    exact ln _ _ _ c
  · obtain ⟨ds, S0, Hd, Qd, r, st0, c, fin⟩ := h
    have e : L2.start N vs = vs.map some ++ List.replicate m none := by
      unfold L2.start
      rw [r.length, ln _ _ _ c, hm]
    rw [e]
    exact body cdv A fr s H E gd hr ds S0 Qd c _ H Hd st0 (RpE.start m r) _ ⟨fun en S' σ H' Hd' z1 z2 _ q => fin .non S' .non H' Hd' q z1 z2 rfl, fun d S' v H' Hd' z1 z2 z3 q => fin d S' v H' Hd' q z1 z2 z3, fun _ _ _ _ _ _ _ _ q => q.elim, fun _ _ _ _ _ _ _ _ q => q.elim⟩
/-- it stands in the module -/
theorem cal_of {P : Program} {w : World} {K : PySem.W.Frag} {mg : Str → Option Value} {base : Heap} {k : Nat} {x qual : Str} {st : Stmt} {f : Addr} {fd : FuncData} {ps : List Str} {kws : List (Nat × List Str)} {C : Con} (F : Fun K x qual st f fd)
    (G : GOk P w K mg base k f fd ps (spD K C)) (hm : mg x = some (.ref f)) (hb : ∀ us : List Value, us.length = ps.length → bindArgs fd ⟨us, []⟩ = pure (ps.zip us)) (hk : ∀ p ∈ kws, KwOk fd ps p) : Cal P w K mg base k x ps kws C := ⟨f, fd, G, hm, F.kp, hb, hk⟩
theorem bargs_of {K : PySem.W.Frag} {x qual : Str} {st : Stmt} {f : Addr} {fd : FuncData} {ps : List Str} (F : Fun K x qual st f fd)
    (h : ∀ (kV doc pm : Value) (an : Option Addr) (cdv ct : Value) (us : List Value), us.length = ps.length → bindArgs (PySem.W.fnOf x qual (defArgs st) (defBody st) (defScope st) .none kV doc pm an cdv ct) ⟨us, []⟩ = pure (ps.zip us)) : ∀ us : List Value, us.length = ps.length → bindArgs fd ⟨us, []⟩ = pure (ps.zip us) := by
  obtain ⟨oc, od, kV, doc, pm, an, cdv, ct, osl, rfl, _, _⟩ := F.ex
  exact h kV doc pm an cdv ct
theorem kw_of {K : PySem.W.Frag} {x qual : Str} {st : Stmt} {f : Addr} {fd : FuncData} {ps : List Str} {p : Nat × List Str} (F : Fun K x qual st f fd) (h1 : p.1 + p.2.length = ps.length) (h2 : ∀ y ∈ ps.drop p.1, y ∈ p.2)
    (h : ∀ (kV doc pm : Value) (an : Option Addr) (cdv ct : Value) (us ws : List Value), us.length = p.1 → ws.length = p.2.length → bindArgs (PySem.W.fnOf x qual (defArgs st) (defBody st) (defScope st) .none kV doc pm an cdv ct) ⟨us, p.2.zip ws⟩ = pure (ps.zip (us ++ ordV .none (ps.drop p.1) p.2 ws))) : KwOk fd ps p := by
  obtain ⟨oc, od, kV, doc, pm, an, cdv, ct, osl, rfl, _, _⟩ := F.ex
  exact ⟨h1, h2, h kV doc pm an cdv ct⟩
end DL
namespace DL
open PySem PySem.Spec PyProof.Rows L2

/-! ### isinstance with a built-in type -/
def tyD : D → Option String
  | .non => some "NoneType"
  | .bl _ => some "bool"
  | .int _ => some "int"
  | .str _ => some "str"
  | .tup _ => some "tuple"
  | .lst _ => some "list"
  | .scr _ => some "list"
  | .raw _ => none
  | .ext _ => none
theorem tyX_of {K : PySem.W.Frag} {H : Hp} {d : D} {v : V} {t : String} (h : tyD d = some t) (r : Rp K H d v) (hs : ∀ l, d ≠ .scr l) : TyX K H v (.type t) := by
  cases d with
  | non => cases h; cases (show v = _ from r); exact .base .non
  | bl b => cases h; cases (show v = _ from r); exact .base (.bl b)
  | int i => cases h; cases (show v = _ from r); exact .base (.int i)
  | str x => cases h; cases (show v = _ from r); exact .base (.str x)
  | tup l =>
    cases h
    obtain ⟨a, xs, rfl, h1, _⟩ := r
    rcases h1 with (h1 | ⟨o, h1⟩) | ⟨o, its, n, h1, h2, _⟩
    · exact .base (.tup h1)
    · exact .fTuple h1
    · exact .kTuple h1 h2
  | lst l =>
    cases h
    obtain ⟨a, xs, rfl, h1, _⟩ := r
    exact .base (.lst h1)
  | raw u => cases h
  | ext u => cases h
  | scr l => exact absurd rfl (hs l)
section
variable {X : Cx} {K : PySem.W.Frag} {S : Sto} {Q : D → Sto → Prop} {d : D}
theorem drc_isi {t T : String} {b : Bool} (ht : tyD d = some t) (hk : kitB t T = some b) (q : Q (.bl b) S) (hs : ∀ l, d ≠ .scr l := by intro _ z; cases z) : DRC K (rIsi K) [d, .raw (.ty T)] S Q := fun H Hd vs Qv st rr k => by
  obtain ⟨v, w, e1, rv, rw'⟩ := two_rp rr
  have rw' : w = V.ty T := rw'
  subst e1 rw'
  exact ⟨v, .ty T, .type t, .type T, b, rfl, .ty T, tyX_of ht (Rp.mono st.sub d v rv) hs, kit_ty hk, k _ _ (.here (d := .bl b) st rfl q)⟩
theorem k_ii : kitB "int" "int" = some true := by decide +kernel
theorem k_ib : kitB "int" "bool" = some false := by decide +kernel
theorem k_bi : kitB "bool" "int" = some true := by decide +kernel
theorem k_bb : kitB "bool" "bool" = some true := by decide +kernel
theorem k_tt : kitB "tuple" "tuple" = some true := by decide +kernel
theorem k_si : kitB "str" "int" = some false := by decide +kernel
theorem k_ni : kitB "NoneType" "int" = some false := by decide +kernel
theorem k_ti : kitB "tuple" "int" = some false := by decide +kernel
theorem k_li : kitB "list" "int" = some false := by decide +kernel
theorem k_it : kitB "int" "tuple" = some false := by decide +kernel
theorem k_bt : kitB "bool" "tuple" = some false := by decide +kernel
theorem k_st : kitB "str" "tuple" = some false := by decide +kernel
theorem k_nt : kitB "NoneType" "tuple" = some false := by decide +kernel
theorem k_lt : kitB "list" "tuple" = some false := by decide +kernel
/-- a built-in type's name as a value -/
theorem de_ty {x : Str} {T : String} {en : DEnv} {pos : Pos} (hm : X.mg x = none) (hv : bootBuiltins x = some (.type T)) (q : Q (.raw (.ty T)) S) (hg : Gl X x := by rfl) (hn : x ≠ "__name__" := by decide) (hd : (x == ("__debug__" : Str)) = false := by decide) : DE X (.Name x pos) en S Q := ⟨fun _ _ _ st _ => wE_of (pe_bltn (v := .ty T) hg hm hv rfl hn hd) (.here (d := .raw (.ty T)) st rfl q)⟩
theorem bt_bool : bootBuiltins "bool" = some (.type "bool") := by decide +kernel
/-- all, any of a list of truths -/
theorem bls_of {H : Hp} : ∀ {bs : List Bool} {vs : List V}, RpL K H (bs.map D.bl) vs → vs = bs.map V.bl
  | [], _, h => h
  | b :: bs, _, h => by
    obtain ⟨x, xs, e1, e2, e3⟩ := h
    have e2 : x = V.bl b := e2
    rw [e1, e2, bls_of e3] <;> rfl
theorem drc_all {bs : List Bool} (q : Q (.bl (bs.all id)) S) : DRC K (rAll K) [.lst (bs.map D.bl)] S Q := fun H Hd vs Qv st rr k => by
  obtain ⟨v, e1, a, xs, f1, f2, f3⟩ := one_rp rr
  subst e1 f1
  exact ⟨a, bs, rfl, by rw [← bls_of f3]; exact .of (st.sub _ _ f2), k _ _ (.here (d := .bl _) st rfl q)⟩
/-! ### slices -/
variable {e : Expr} {en : DEnv} {R : Option Int → Prop}
theorem do_none (q : R none) : DO X none en S R := q
theorem do_some (h : DE X e en S fun x S' => S' = S ∧ ∃ i, x = .int i ∧ R (some i)) : DO X (some e) en S R := h
theorem sl_t2 {a b c : D} (q : Q (.tup [a, b]) S) : slP (.tup [a, b, c]) none (some 2) S Q := ⟨(show ¬ (HT.sIx 3 0 none = 0 ∧ HT.sIx 3 3 (some 2) = 3) by decide), q⟩
theorem sl_l {l : List D} {lo hi : Option Int} (q : Q (.lst (cutD l lo hi)) S) : slP (.lst l) lo hi S Q := q
theorem cut_to {l : List D} {n : Int} (h : 0 ≤ n) : cutD l none (some n) = l.take n.toNat := by
  unfold cutD HT.sIx
  simp only [Nat.sub_zero, List.drop_zero]
  have e1 : ¬ n < 0 := by omega
  simp only [e1, if_false]
  by_cases h2 : n.toNat ≤ l.length
  · congr 1
    omega
  · rw [List.take_of_length_le (by omega), List.take_of_length_le (by omega)]

theorem kws_cons {fd : FuncData} {ps : List Str} {p : Nat × List Str} {r : List (Nat × List Str)} (h : KwOk fd ps p) (k : ∀ q ∈ r, KwOk fd ps q) : ∀ q ∈ p :: r, KwOk fd ps q := fun q hq => by
  rcases List.mem_cons.mp hq with e | e
  · rw [e]
    exact h
  · exact k q e

/-! ### three targets at once -/
end

/-! ### the turns of a law over its script -/
theorem scr_turn {ns : List Int} {n : Int} (hn : 0 ≤ n ∧ n ≤ 64) {i : Nat} {d : D} (h : (enuD (cutD (ns.map D.int ++ [.int 0]) none (some n)))[i]? = some d) : i < 64 ∧ ∃ e : Int, d = .tup [.int (i : Nat), .int e] := by
  obtain ⟨x, h1, h2⟩ := enuD_get h
  rw [cut_to hn.1] at h1
  have hi := (List.getElem?_eq_some_iff.mp h1).1
  rw [List.length_take] at hi
  refine ⟨by omega, ?_⟩
  have m := List.mem_of_getElem? h1
  have m2 := List.mem_of_mem_take m
  rcases List.mem_append.mp m2 with z | z
  · obtain ⟨e, _, z2⟩ := List.mem_map.mp z
    exact ⟨e, by rw [h2, ← z2]⟩
  · have z2 : x = .int 0 := by simpa using z
    exact ⟨0, by rw [h2, z2]⟩

/-! ### the source of a law's numbers -/
def Src (m : Nat) (l : List D) : Prop := ∃ a b c : Int, l = [.int a, .int b, .int c] ∧ 0 ≤ a ∧ Bd 200 b ∧ (0 ≤ c ∧ c ≤ (m : Int)) ∧ 0 ≤ b
def con_source : Con := fun ds S Q => ∃ e k : Int, ds = [.int e, .int k] ∧ (0 ≤ k ∧ k ≤ 100) ∧ ∀ p l, getS p S = none → Src 0 l → Q (.raw (.ref p)) ((p, l) :: S)
def con_draw : Con := fun ds S Q => ∃ (p : Addr) (n : Int) (l : List D) (m : Nat), ds = [.raw (.ref p), .int n] ∧ getS p S = some l ∧ Src m l ∧ m ≤ 1000000 ∧ 0 < n ∧ Bd 400 n ∧ ∀ r l', 0 ≤ r → r < n → Src (m + 1) l' → Q (.int r) (setS p l' S)
/-- p, q, quarters are a turn -/
structure Tn (p q k : Int) : Prop where
  p1 : 1 ≤ p
  p2 : p ≤ 1000000000000000
  q1 : -p < q
  q2 : q < p
  g : Nat.gcd p.natAbs q.natAbs = 1
  o : (p + q) % 2 = 1
  k1 : 0 ≤ k
  k2 : k ≤ 3
theorem Tn.bp {p q k : Int} (h : Tn p q k) : Bd 50 p := by
  have := h.p1
  have := h.p2
  unfold Bd
  omega
theorem Tn.bq {p q k : Int} (h : Tn p q k) : Bd 50 q := by
  have := h.p2
  have := h.q1
  have := h.q2
  unfold Bd
  omega
def con_dot : Con := fun ds S Q => ∃ (p : Addr) (n : Int) (l : List D) (m : Nat), ds = [.raw (.ref p), .int n] ∧ getS p S = some l ∧ Src m l ∧ m ≤ 900000 ∧ 0 ≤ n ∧ Bd 300 n ∧ ∀ x y l', (-n ≤ x ∧ x ≤ n) → (-n ≤ y ∧ y ≤ n) → Src (m + 2) l' → Q (.tup [.int x, .int y]) (setS p l' S)
theorem Src.up {m n : Nat} {l : List D} (h : Src m l) (k : m ≤ n) : Src n l := by
  obtain ⟨a, b, c, e, h1, h2, h3, h4⟩ := h
  exact ⟨a, b, c, e, h1, h2, ⟨h3.1, by omega⟩, h4⟩
theorem getS_setS_same {p : Addr} {S : Sto} {l n : List D} (h : getS p S = some l) : getS p (setS p n S) = some n := by
  rw [getS_setS, if_pos rfl, h] <;> rfl
theorem setS_setS {p : Addr} {n m : List D} : ∀ {S : Sto}, setS p n (setS p m S) = setS p n S
  | [] => rfl
  | (q, l) :: S => by
    by_cases h : q = p
    · subst h
      rw [setS_hd, setS_hd, setS_hd]
    · rw [setS_tl h, setS_tl h, setS_tl h, setS_setS]
end DL
namespace DL
open PySem PySem.Spec PyProof.Rows L2
def rIsq : List V → Hp → VK → Prop := fun vs H Q => ∃ a : Int, vs = [.int a] ∧ 0 ≤ a ∧ a.natAbs < 2 ^ 3000 ∧ Q (.int ((Float64.isqrt a.toNat : Nat) : Int)) H
theorem cr_isqrt {X : Cx} : CallR X (.builtin "math.isqrt") rIsq := by
  intro pins s σ H vs us Q I r h
  obtain ⟨a, rfl, h0, h1, q⟩ := h
  obtain ⟨u, rfl, t, rfl⟩ := Vals.one r
  have hl : a.toNat.log2 < 3000 := by
    by_cases z : a.toNat = 0
    · rw [z]
      decide
    · exact (Nat.log2_lt z).mpr (by have : a.natAbs = a.toNat := by omega
                                    rw [← this]
                                    exact h1)
  exact call_function_meets PySem.W.MGF.kind_isqrt PySem.W.MGF.plain_isqrt PySem.W.MGF.entry_isqrt (PySem.W.MGF.args_isqrt _) (PySem.W.mg_run_isqrt a t (by omega) (by omega) (by omega)).meets ⟨.int _, H, I.tok _, ⟨_, rfl⟩, q⟩
section
variable {X : Cx} {a b : Expr} {en : DEnv} {S : Sto} {Q : D → Sto → Prop} {pos p : Pos}
/-- math.isqrt -/
theorem de_isqrt {gx : Str} (hm : X.mg gx = some (.builtin "math.isqrt")) (h : DA X [a] en S fun ds S1 => ∃ i : Int, ds = [.int i] ∧ (0 ≤ i ∧ i.natAbs < 2 ^ 3000) ∧ Q (.int ((Float64.isqrt i.toNat : Nat) : Int)) S1) (hg : Gl X gx := by rfl) (hn : gx ≠ "__name__" := by decide) (hdb : (gx == ("__debug__" : Str)) = false := by decide)
    (he : starEach (a :: []) X.env = (false, eval a X.env) :: starEach [] X.env := by rfl) (hpl : (backTo pos (starEach [] X.env)).any (·.1) = false := by rfl) : DE X (.Call (.Name gx p) [a] [] pos) en S Q := ⟨fun σ H Hd st re => by
  refine wE_of (pe_callBfun cr_isqrt hg hm paW (hdb := hdb) (he := he) (hpl := hpl)) ?_
  refine wA_mono (h σ H Hd st re) fun vs H1 ⟨ds, S1, Hd1, e1, st1, r1, i, e2, ⟨h0, h1⟩, q⟩ => ?_
  subst e2
  obtain ⟨v, vs', e3, rv, e5⟩ := r1
  have e5 : vs' = [] := e5
  subst e3 e5
  exact ⟨i, by rw [show v = V.int i from rv], h0, h1, .up e1 (.here (d := .int _) st1 rfl q)⟩⟩
/-- x += e, of whole numbers -/
theorem ds_augI {Z : Dn} {x : Str} {e : Expr} {i : Int} (k : Nat) (hN : X.N.Nodup) (hk : X.N[k]? = some x) (hx : X.env.scope.names.lookup x = some .local) (he : en[k]? = some (some (.int i)))
    (h : DE X e en S fun d S1 => ∃ j, d = .int j ∧ Z.nx (en.set k (some (.int (i + j)))) S1) : DS1 X (.AugAssign (.Name x p) .Add e pos) en S Z := ⟨fun σ H Hd st re De l => by
  refine wS_of (ps_aug hN hk (.inl hx) peW ip_add (.inr hx)) ?_
  obtain ⟨v, e1, rv⟩ := re.get he
  have rv : v = V.int i := rv
  subst rv
  refine ⟨_, e1, ?_⟩
  refine wE_mono (h σ H Hd st re) fun w H1 ⟨d, S1, Hd1, z1, st1, r1, j, e2, q⟩ => ?_
  subst e2
  have r1 : w = V.int j := r1
  subst r1
  exact ⟨i, j, rfl, rfl, l.nx _ S1 _ H1 Hd1 z1 st1 ((re.mono z1).set (d := .int (i + j)) rfl k) q⟩⟩
end
end DL
namespace Tp
open PySem DL
end Tp
namespace DL
open PySem PySem.Spec PyProof.Rows L2
end DL
namespace DL
open PySem PySem.Spec PyProof.Rows L2
/-- a number and a pair of numbers -/
def d3 (t : Int × Int × Int) : D := .tup [.int t.1, .tup [.int t.2.1, .int t.2.2]]
/-- the ends of a statement's ways, told by one form -/
theorem ds_join {X : Cx} {st : Stmt} {en : DEnv} {S : Sto} {Z : Dn} {γ : Type} (E : γ → DEnv) (P : γ → Sto → Prop)
    (h : DS1 X st en S { nx := fun en3 S3 => ∃ g, Wk en3 (E g) ∧ P g S3, rt := Z.rt, bk := Z.bk, ct := Z.ct }) (k : ∀ g S', P g S' → Z.nx (E g) S') : DS1 X st en S Z := ⟨fun σ H Hd st re De l =>
  h σ H Hd st re De ⟨fun _ S5 σ5 H5 Hd5 w1 w2 w3 ⟨g, w4, w5⟩ => l.nx (E g) S5 σ5 H5 Hd5 w1 w2 (w4.use w3) (k g S5 w5), l.rt, l.bk, l.ct⟩⟩
end DL
namespace DL
open PySem PySem.Spec PyProof.Rows L2
/-- slots forgotten; slots with values -/
def fgt : List Nat → DEnv → DEnv
  | [], en => en
  | k :: ks, en => fgt ks (en.set k none)
def putU : List (Nat × D) → DEnv → DEnv
  | [], en => en
  | (k, d) :: us, en => putU us (en.set k (some d))
section
variable {X : Cx} {c tg iter : Expr} {body : List Stmt} {en : DEnv} {S : Sto} {Z : Dn} {pos : Pos}
theorem ds_forG {γ : Type} (ks : List Nat) (hp : PassesOwn (model X.prog X.w) X.A X.env X.xe) (hc : X.calm = true)
    (h : DI X tg iter en S fun ds S1 => ∃ (U : γ → List (Nat × D)) (E : γ → DEnv) (_ : ∀ g, putU (U g) (fgt ks en) = E g) (P : Nat → γ → Sto → Prop) (g0 : γ), Wk en (E g0) ∧ P 0 g0 S1 ∧
      (∀ i d g S', ds[i]? = some d → P i g S' → DG X tg d (E g) S' fun en2 S2 => DS X body en2 S2 { nx := fun en3 S3 => ∃ g', Wk en3 (E g') ∧ P (i + 1) g' S3, rt := Z.rt, ct := fun en3 S3 => ∃ g', Wk en3 (E g') ∧ P (i + 1) g' S3, bk := Z.nx }) ∧
      ∀ g S', P ds.length g S' → Z.nx (E g) S') (hs : ∀ x, foldedSetIterable iter X.env x = pure x := by first | exact fset rfl | (intro _; rfl)) : DS1 X (.For tg iter body [] pos) en S Z := by
  refine ds_for (γ := γ) hp hc ⟨fun σ H Hd st re => ?_⟩ hs
  intro pins s I
  refine thn (DI.run h σ H Hd st re pins s I) fun v s1 h1 => thn h1 fun itv s2 h2 => ?_
  obtain ⟨it, fp, tn, J, H2, e, I2, T, st2, f2, ds, S1, Hd1, e1, s01, io, U, E, _, P, g0, wk, p0, turn, fin⟩ := h2
  exact ⟨it, fp, tn, J, H2, e, I2, T, st2, f2, ds, S1, Hd1, e1, s01, io, E, P, g0, wk, p0, turn, fin⟩
end
end DL
namespace DL
open PySem PySem.Spec PyProof.Rows L2
section
variable {X : Cx} {K : PySem.W.Frag} {S : Sto} {Q : D → Sto → Prop}
theorem ints_of {H : Hp} : ∀ {ns : List Int} {vs : List V}, RpL K H (ns.map D.int) vs → vs = ns.map V.int
  | [], _, h => h
  | n :: ns, _, h => by
    obtain ⟨x, xs, e1, e2, e3⟩ := h
    have e2 : x = V.int n := e2
    rw [e1, e2, ints_of e3] <;> rfl
/-- max, min, sum of a list of ints -/
theorem drc_maxI (ns : List Int) (h : 0 < ns.length) (q : ∀ m, m ∈ ns → (∀ y, y ∈ ns → y ≤ m) → Q (.int m) S) : DRC K (rMax K) [.lst (ns.map D.int)] S Q := fun H Hd vs Qv st rr k => by
  obtain ⟨v, e1, a, xs, f1, f2, f3⟩ := one_rp rr
  subst e1 f1
  exact ⟨a, ns, rfl, by rw [← ints_of f3]; exact .of (st.sub _ _ f2), h, fun m h1 h2 => k _ _ (.here (d := .int m) st rfl (q m h1 h2))⟩
theorem drc_minI (ns : List Int) (h : 0 < ns.length) (q : ∀ m, m ∈ ns → (∀ y, y ∈ ns → m ≤ y) → Q (.int m) S) : DRC K (rMin K) [.lst (ns.map D.int)] S Q := fun H Hd vs Qv st rr k => by
  obtain ⟨v, e1, a, xs, f1, f2, f3⟩ := one_rp rr
  subst e1 f1
  exact ⟨a, ns, rfl, by rw [← ints_of f3]; exact .of (st.sub _ _ f2), h, fun m h1 h2 => k _ _ (.here (d := .int m) st rfl (q m h1 h2))⟩
end
end DL
namespace DL
open PySem PySem.Spec PyProof.Rows L2
/-! ### comprehensions with several targets -/
def setV : List Nat → List D → DEnv → DEnv
  | i :: is, d :: ds, en => setV is ds (en.set i (some d))
  | _, _, en => en
def wipeE : List Nat → DEnv → DEnv
  | [], en => en
  | i :: is, en => (wipeE is en).set i none
def setW : List Nat → List V → L2.St → L2.St
  | i :: is, v :: vs, σ => setW is vs (σ.set i (some v))
  | _, _, σ => σ
def gNames : List Nat → TGs
  | [] => gNil
  | i :: is => gCons (gName i) (gNames is)
theorem RpE.drop {K : PySem.W.Frag} {H : Hp} : ∀ {en : DEnv} {σ : L2.St} (i : Nat), RpE K H en σ → RpE K H (en.set i none) (σ.set i none)
  | [], _, _, h => by
    have h : _ = [] := h
    subst h
    rfl
  | none :: es, _, 0, h => let ⟨o, σ', e1, e2⟩ := h; ⟨none, σ', by rw [e1] <;> rfl, e2⟩
  | some x :: es, _, 0, h => let ⟨o, σ', e1, _, e2⟩ := h; ⟨none, σ', by rw [e1] <;> rfl, e2⟩
  | none :: es, _, i + 1, h => let ⟨o, σ', e1, e2⟩ := h; ⟨o, σ'.set i none, by rw [e1] <;> rfl, e2.drop i⟩
  | some x :: es, _, i + 1, h => let ⟨o, σ', e1, e0, e2⟩ := h; ⟨o, σ'.set i none, by rw [e1] <;> rfl, e0, e2.drop i⟩
theorem RpE.wipe {K : PySem.W.Frag} {H : Hp} {en : DEnv} {σ : L2.St} (h : RpE K H en σ) : ∀ is : List Nat, RpE K H (wipeE is en) (wipe σ is)
  | [] => h
  | i :: is => (RpE.wipe h is).drop i
theorem RpE.setV {K : PySem.W.Frag} {H : Hp} : ∀ {is : List Nat} {ds : List D} {vs : List V} {en : DEnv} {σ : L2.St}, RpE K H en σ → RpL K H ds vs → RpE K H (setV is ds en) (setW is vs σ)
  | [], _, _, _, _, h, _ => h
  | i :: is, [], vs, _, _, h, r => by
    have r : vs = [] := r
    subst r
    exact h
  | i :: is, d :: ds, _, _, _, h, r => by
    obtain ⟨v, vs', e1, rv, r2⟩ := r
    subst e1
    exact RpE.setV (is := is) (h.set rv i) r2
theorem gNames_go : ∀ {is : List Nat} {vs : List V} {σ : L2.St} {H : Hp} {Q : L2.St → Hp → Prop}, vs.length = is.length → Q (setW is vs σ) H → gNames is vs σ H Q
  | [], [], _, _, _, _, q => ⟨rfl, q⟩
  | [], _ :: _, _, _, _, h, _ => by cases h
  | _ :: _, [], _, _, _, h, _ => by cases h
  | i :: is, v :: vs, _, _, _, h, q => ⟨v, vs, rfl, gNames_go (is := is) (by simpa using h) q⟩
theorem wipe_at (σ : L2.St) (n : Nat) : ∀ is : List Nat, (wipe σ is)[n]? = if n ∈ is then (σ[n]?).map (fun _ => none) else σ[n]?
  | [] => by simp [wipe]
  | i :: is => by
    show ((wipe σ is).set i none)[n]? = _
    rw [List.getElem?_set, wipe_at σ n is, wipe_length]
    by_cases e : i = n
    · subst e
      rw [if_pos rfl, if_pos List.mem_cons_self]
      by_cases hl : i < σ.length
      · rw [if_pos hl, List.getElem?_eq_getElem hl] <;> rfl
      · rw [if_neg hl, List.getElem?_eq_none (by omega)] <;> rfl
    · rw [if_neg e]
      have : (n ∈ i :: is) ↔ n ∈ is := ⟨fun h => (List.mem_cons.mp h).elim (fun z => absurd z.symm e) id, List.mem_cons_of_mem _⟩
      simp only [this]
theorem wipe_set {i : Nat} {x : Option V} {σ : L2.St} {is : List Nat} (h : i ∈ is) : wipe (σ.set i x) is = wipe σ is := by
  refine List.ext_getElem? fun n => ?_
  rw [wipe_at, wipe_at]
  by_cases hn : n ∈ is
  · rw [if_pos hn, if_pos hn, List.getElem?_set]
    by_cases e : i = n
    · subst e
      rw [if_pos rfl]
      by_cases hl : i < σ.length
      · rw [if_pos hl, List.getElem?_eq_getElem hl] <;> rfl
      · rw [if_neg hl, List.getElem?_eq_none (by omega)]
    · rw [if_neg e]
  · rw [if_neg hn, if_neg hn, List.getElem?_set, if_neg (fun e : i = n => hn (by rw [← e]; exact h))]
theorem wipe_setW : ∀ {js : List Nat} {vs : List V} {σ : L2.St} {is : List Nat}, (∀ j ∈ js, j ∈ is) → wipe (setW js vs σ) is = wipe σ is
  | [], _, _, _, _ => rfl
  | _ :: _, [], _, _, _ => rfl
  | j :: js, v :: vs, σ, is, h => by
    show wipe (setW js vs (σ.set j (some v))) is = _
    rw [wipe_setW (js := js) fun k hk => h k (List.mem_cons_of_mem _ hk), wipe_set (h j List.mem_cons_self)]
theorem wipe_wipe (σ : L2.St) (is : List Nat) : wipe (wipe σ is) is = wipe σ is := by
  refine List.ext_getElem? fun n => ?_
  rw [wipe_at, wipe_at]
  by_cases hn : n ∈ is
  · rw [if_pos hn, if_pos hn, Option.map_map] <;> rfl
  · rw [if_neg hn, if_neg hn]
section
variable {X : Cx} {elt iter c tg : Expr} {en : DEnv} {S : Sto} {Q : D → Sto → Prop} {pos : Pos} {scope : Scope} {ifs : List Expr} {tt : TT}
theorem lc_goT (is : List Nat) (te : TE) {n : Nat} (hn : is.length = n) (mT : ∀ (σ : L2.St) (H : Hp) (A B : Bool → Hp → Prop), tt σ H A → (∀ b H', A b H' → B b H') → tt σ H B) (mE : ∀ (σ : L2.St) (H : Hp) (A B : VK), te σ H A → (∀ v H', A v H' → B v H') → te σ H B)
    (h : DI X tg iter en S fun ds S1 => ∃ (P : Nat → List D → Sto → Prop), P 0 [] S1 ∧
      (∀ k d acc S' p, ds[k]? = some d → P k acc S' → getS p S' = none → acc.length ≤ k → ∃ vals, d = .tup vals ∧ vals.length = n ∧ ∀ (σ : L2.St) (H Hd : Hp), St0 X.K ((p, acc) :: S') Hd H → RpE X.K Hd (setV is vals (wipeE is en)) σ →
        tt σ H fun b H3 => if b = true then te σ H3 fun v H4 => ∃ d2 S4 Hd4, Same Hd Hd4 ∧ St0 X.K ((p, acc) :: S4) Hd4 H4 ∧ Rp X.K Hd4 d2 v ∧ P (k + 1) (acc ++ [d2]) S4 else ∃ S4 Hd4, Same Hd Hd4 ∧ St0 X.K ((p, acc) :: S4) Hd4 H3 ∧ P (k + 1) acc S4) ∧
      ds.length ≤ 100000 ∧ ∀ acc S', acc.length ≤ ds.length → P ds.length acc S' → Q (.lst acc) S') {σ : L2.St} {H Hd : Hp} (st : St0 X.K S Hd H) (re : RpE X.K Hd en σ) (Qv : VK) (kq : ∀ v H', QD X.K Hd Q v H' → Qv v H') : tLc (wI X tg iter) (gTup X.K n (gNames is)) tt te is σ H Qv := by
  intro pins s I
  refine thn (h σ H Hd st re pins s I) fun v s1 h1 => thn h1 fun itv s2 h2 => ?_
  obtain ⟨it, fp, tn, J, H2, e, I2, T, st2, f2, ds, S1, Hd1, e1, s01, io, P, p0, turn, lim, fin⟩ := h2
  refine ⟨it, fp, tn, J, H2, e, I2, T, st2, f2, fun p hp => ?_⟩
  obtain ⟨fr, s02⟩ := s01.laidO (l := []) (xs := []) hp rfl
  refine ⟨fun k m H => m = ds.length - k ∧ k ≤ ds.length ∧ ∃ acc S' Hd', acc.length ≤ k ∧ Same Hd1 Hd' ∧ St0 X.K ((p, acc) :: S') Hd' H ∧ P k acc S', ⟨_, rfl, Nat.zero_le _, [], S1, Hd1, Nat.le_refl _, Same.refl _, s02, p0⟩, ?_⟩
  rintro k m H ⟨rfl, hk, acc, S', Hd', ka, k1, k2, k3⟩
  by_cases hlt : k < ds.length
  · obtain ⟨go, yl⟩ := io.go k1 k2 (List.getElem?_eq_getElem hlt)
    refine .inr ⟨go, fun H' => ∃ acc S' Hd', acc.length ≤ k + 1 ∧ Same Hd1 Hd' ∧ St0 X.K ((p, acc) :: S') Hd' H' ∧ P (k + 1) acc S', fun H' q => ⟨ds.length - (k + 1), by omega, rfl, hlt, q⟩, fun x H' y => ?_⟩
    obtain ⟨Hd2, y1, y2, y3⟩ := yl x H' y
    obtain ⟨vals, ed, el, go2⟩ := turn k _ acc S' p (List.getElem?_eq_getElem hlt) k3 k2.own.2.1 ka
    rw [ed] at y3
    obtain ⟨a, xs, f1, f2', f3⟩ := y3
    have hxl : xs.length = n := by rw [f3.length]; exact el
    refine ⟨a, xs, f1, same_t y2.sub f2', hxl, ?_⟩
    refine gNames_go (is := is) (by rw [hxl, hn]) ?_
    refine ⟨by rw [wipe_setW fun j hj => hj, wipe_wipe], ?_⟩
    have reB := RpE.setV (is := is) ((re.mono (e1.trans (k1.trans y1))).wipe is) f3
    have go2 := go2 _ H' Hd2 y2 reB
    have en1 : ∀ (H4 : Hp) (v : V) (d2 : D) (S4 : Sto) (Hd4 : Hp), Same Hd2 Hd4 → St0 X.K ((p, acc) :: S4) Hd4 H4 → Rp X.K Hd4 d2 v → P (k + 1) (acc ++ [d2]) S4 →
        ∃ vs, H4 p = some (.lst vs) ∧ vs.length < sizeLine ∧ ∃ acc S' Hd', acc.length ≤ k + 1 ∧ Same Hd1 Hd' ∧ St0 X.K ((p, acc) :: S') Hd' (upd H4 p (.lst (vs ++ [v]))) ∧ P (k + 1) acc S' := by
      intro H4 v d2 S4 Hd4 z1 z2 z3 z4
      obtain ⟨_, xs, hx, rx⟩ := z2.own.at (l := acc) getS_hd
      refine ⟨xs, hx, by rw [rx.length]; exact Nat.lt_of_le_of_lt (Nat.le_trans ka hk) (Nat.lt_of_le_of_lt lim (by decide)), acc ++ [d2], S4, Hd4, by rw [List.length_append, List.length_singleton]; omega, k1.trans (y1.trans z1), ?_, z4⟩
      have w := z2.written (l' := acc ++ [d2]) (ys := xs ++ [v]) getS_hd (rx.append (show RpL X.K Hd4 [d2] [v] from ⟨v, [], rfl, z3, rfl⟩))
      rw [setS_hd] at w
      exact w
    refine mT _ _ _ _ go2 fun b H3 q => ?_
    cases b with
    | true =>
      rw [if_pos rfl] at q ⊢
      exact mE _ _ _ _ q fun v H4 ⟨d2, S4, Hd4, z1, z2, z3, z4⟩ => en1 H4 v d2 S4 Hd4 z1 z2 z3 z4
    | false =>
      rw [if_neg Bool.false_ne_true] at q ⊢
      obtain ⟨S4, Hd4, z1, z2, z3⟩ := q
      exact ⟨acc, S4, Hd4, Nat.le_succ_of_le ka, k1.trans (y1.trans z1), z2, z3⟩
  · have e0 : k = ds.length := by omega
    subst e0
    obtain ⟨xs, rx, ex, sx⟩ := k2.frozen
    exact .inl ⟨io.stop k1 k2, kq _ _ ⟨.lst acc, S', _, e1.trans (k1.trans ex), sx, ⟨p, xs, rfl, upd_same, rx.mono ex⟩, fin acc S' ka k3⟩⟩
def Lc0T (X : Cx) (scope : Scope) (is : List Nat) (n : Nat) (tg : Expr) (elt iter : Expr) (en : DEnv) (S : Sto) (Q : D → Sto → Prop) : Prop := DI X tg iter en S fun ds S1 => ∃ (P : Nat → List D → Sto → Prop), P 0 [] S1 ∧
  (∀ k d acc S' p, ds[k]? = some d → P k acc S' → getS p S' = none → acc.length ≤ k → ∃ vals, d = .tup vals ∧ vals.length = n ∧ ∃ en', setV is vals (wipeE is en) = en' ∧ Turn1 X scope elt en' S' p acc (P (k + 1))) ∧ ds.length ≤ 100000 ∧ ∀ acc S', acc.length ≤ ds.length → P ds.length acc S' → Q (.lst acc) S'
theorem lc0T_read {is : List Nat} {n : Nat} (hn : is.length = n) (h : Lc0T X scope is n tg elt iter en S Q) {σ : L2.St} {H Hd : Hp} (st : St0 X.K S Hd H) (re : RpE X.K Hd en σ) (Qv : VK) (kq : ∀ v H', QD X.K Hd Q v H' → Qv v H') : tLc (wI X tg iter) (gTup X.K n (gNames is)) tYes (teB X scope elt) is σ H Qv := by
  refine lc_goT (tt := tYes) is _ hn (fun σ H A B q k => k _ _ q) (fun σ H A B q k s0 H0 C cl fp => wE_mono (q s0 H0 C cl fp) k) ?_ st re Qv kq
  refine ⟨fun σ H Hd st re => ?_⟩
  intro pins s I
  refine thn (DI.run h σ H Hd st re pins s I) fun v s1 h1 => thn h1 fun itv s2 h2 => ?_
  obtain ⟨it, fp, tn, J, H2, e, I2, T, st2, f2, ds, S1, Hd1, e1, s01, io, P, p0, turn, lim, fin⟩ := h2
  refine ⟨it, fp, tn, J, H2, e, I2, T, st2, f2, ds, S1, Hd1, e1, s01, io, P, p0, fun k d acc S' p hk hP hp hl => ?_, lim, fin⟩
  obtain ⟨vals, ed, el, en', ee, t1⟩ := turn k d acc S' p hk hP hp hl
  refine ⟨vals, ed, el, fun σ H Hd st re => ?_⟩
  rw [ee] at re
  show tYes σ H _
  unfold tYes
  simp only [↓reduceIte]
  intro s0 H0 C cl fp
  exact wE_mono (t1 s0 H0 C cl fp σ H Hd st re) fun v H4 ⟨d2, S2, Hd4, z1, z2, z3, S3, z4, z5⟩ => by
    subst z4
    exact ⟨d2, S3, Hd4, z1, z2, z3, z5⟩
variable {own : List (Str × Nat)} {n : Nat}
/-- [elt for a, b in iter] -/
theorem de_lcT (is : List Nat) (hc : X.calm = true) (hN : X.N.Nodup) (ok : BlkOk X.N X.env.scope scope own) (ho : own.map (·.2) = is) (hn : is.length = n) (h : Lc0T X scope is n tg elt iter en S Q)
    (hg : ∀ (s : Shared) (H : Hp) (C : Addr) (cl : List (Str × Addr)) (fp : List Addr), PG (bX X scope s H C cl fp) tg (gTup X.K n (gNames is)))
    (hs : ∀ x, foldedSetIterable iter X.env x = pure x := by first | exact fset rfl | (intro _; rfl)) : DE X (.ListComp elt [⟨tg, iter, [], 0⟩] scope pos) en S Q := ⟨fun σ H Hd st re => by
  subst ho
  exact wE_of (pe_lc hc hN piW ok hg (fun _ _ _ _ _ => pts_nil) (pe_blk (te := teB X scope elt) rfl) hs) (lc0T_read hn h st re _ fun _ _ z => z)⟩
end
end DL
namespace DL
open PySem PySem.Spec PyProof.Rows L2
/-! ### in, not in over any data; is None; repr of plain values -/
theorem room_shaped {d : PyData} {A : Around} (h : SeqAt.shaped d = true) (hu : A.units + 65 < cLine) {n : Nat} : A.units + 1 + min n d.depth < cLine := by
  have h2 : d.depth ≤ 64 := by
    unfold SeqAt.shaped at h
    rw [Bool.and_eq_true] at h
    exact of_decide_eq_true h.2
  omega
def rInT (K : PySem.W.Frag) (neg : Bool) : R2 := fun x y H Q => ∃ d ds, Dp K H x d ∧ Dp K H y (.tuple ds) ∧ SeqAt.shaped d = true ∧ PyData.canLayAll0 ds = true ∧ Q (.bl (if neg then !ds.any fun z => PyData.eqv z d else ds.any fun z => PyData.eqv z d)) H
theorem op_inT {X : Cx} (hu : X.A.units + 65 < cLine) : OpR X (compareOp .In) (rInT X.K false) := by
  intro pins s σ H x y v u Q I rx ry h
  obtain ⟨d, ds, hd, he, sd, se, q⟩ := h
  obtain ⟨as, r1⟩ := Dp.reads I d x v hd rx
  obtain ⟨bs, r2⟩ := Dp.reads I (.tuple ds) y u he ry
  exact SeqAt.in_tuple_reads r2 r1 se (SeqAt.canLay_of_shaped sd) (room_shaped sd hu) ⟨.bl _, H, I, rfl, q⟩
theorem any_toPy (x : D) : ∀ l : List D, ((toPyL l).any fun z => PyData.eqv z (toPy x)) = l.any fun z => eqB z x
  | [] => rfl
  | d :: l => by
    show (PyData.eqv (toPy d) (toPy x) || (toPyL l).any _) = (eqB d x || l.any _)
    rw [any_toPy x l] <;> rfl
def inP (x y : D) (S : Sto) (Q : Bool → Sto → Prop) : Prop := match y with
  | .lst l => (flatOk 9 x = true ∧ flatOkL 8 l = true) ∧ Q (l.any fun z => eqB z x) S
  | .tup l => (flatOk 9 x = true ∧ flatOkL 8 l = true) ∧ Q (l.any fun z => eqB z x) S
  | _ => False
theorem flat9l {l : List D} (h : flatOkL 8 l = true) : flatOk 9 (.lst l) = true := by simpa [flatOk] using h
theorem flat9t {l : List D} (h : flatOkL 8 l = true) : flatOk 9 (.tup l) = true := by simpa [flatOk] using h
theorem dr_in {K : PySem.W.Frag} {x y : D} {S : Sto} {Q : D → Sto → Prop} (h : inP x y S fun b S' => Q (.bl b) S') : DR2 K (fun x y H Q => rInD K x y H Q ∨ rInT K false x y H Q) x y S Q := by
  intro H Hd vx vy Qv st rx ry k
  unfold inP at h
  split at h
  · rename_i l
    obtain ⟨⟨h1, h2⟩, q⟩ := h
    exact .inl ⟨toPy x, toPyL l, dp_of 9 x vx h1 (Rp.mono st.sub x vx rx), dp_of 9 (.lst l) vy (flat9l h2) (Rp.mono st.sub _ vy ry), shaped_of h1 (by decide), shaped_of (d := .lst l) (flat9l h2) (by decide), by rw [any_toPy]; exact k _ _ (.here (d := .bl _) st rfl q)⟩
  · rename_i l
    obtain ⟨⟨h1, h2⟩, q⟩ := h
    exact .inr ⟨toPy x, toPyL l, dp_of 9 x vx h1 (Rp.mono st.sub x vx rx), dp_of 9 (.tup l) vy (flat9t h2) (Rp.mono st.sub _ vy ry), shaped_of h1 (by decide), (layAll_of 8 l h2).1, by rw [any_toPy]; exact k _ _ (.here (d := .bl _) st rfl q)⟩
  · exact h.elim
section
variable {X : Cx} {a b c e : Expr} {en : DEnv} {S : Sto} {Q : D → Sto → Prop} {P : Bool → Sto → Prop} {pos p : Pos}
theorem hu65 {A : Around} {k : Nat} (hr : Room k A) : A.units + 65 < cLine := by
  have := hr.un
  omega
theorem dt_in (hu : X.A.units + 65 < cLine) (h : DE X a en S fun x S1 => DE X b en S1 fun y S2 => inP x y S2 P) (hm : behindInMarks .In b = false := by rfl) : DT X (.Compare a [.In] [b] pos) en S P :=
  dt_cmp (OpR.or (op_inD hu) (op_inT hu)) hm (h.mono fun _ _ h1 => h1.mono fun x S2 h2 => dr_in (by
    unfold inP at h2 ⊢
    split at h2 <;> first | exact ⟨h2.1, _, rfl, h2.2⟩ | exact h2))
end
end DL
namespace DL
open PySem PySem.Spec PyProof.Rows L2
/-! ### sorted over data -/
/-- pairs of ints -/
def pr2 (t : Int × Int) : D := .tup [.int t.1, .int t.2]
end DL
namespace DL
open PySem PySem.Spec PyProof.Rows L2
/-! ### constants of the module -/
section
variable {X : Cx} {en : DEnv} {S : Sto} {Q : D → Sto → Prop} {pos : Pos}
theorem de_globI2 {x : Str} {i : Int} (h : ∃ u, X.mg x = some (.int i u)) (q : Q (.int i) S) (hg : Gl X x := by rfl) (hd : (x == ("__debug__" : Str)) = false := by decide) : DE X (.Name x pos) en S Q := by
  obtain ⟨u, hm⟩ := h
  exact de_globI hm q hg hd
theorem de_globT {x : Str} {d : D} (h : ∃ a, X.mg x = some (.ref a) ∧ Rp X.K (fun _ => none) d (.ref a)) (q : Q d S) (hg : Gl X x := by rfl) (hd : (x == ("__debug__" : Str)) = false := by decide) : DE X (.Name x pos) en S Q := ⟨fun σ H Hd st re => by
  obtain ⟨a, hm, r⟩ := h
  exact wE_of (pe_glob (v := .ref a) hg hm rfl hd) (.here (d := d) st (Rp.mono (fun _ _ z => by cases z) d _ r) q)⟩
end
section
variable {K : PySem.W.Frag} {H : Hp} {a : Addr} {od : Option Addr} {n : Nat} {sl : Array (Option Value)}
theorem rp_pairK {i j : Int} {t u : Tok} (l : K.lookup a = some ⟨.type "tuple", od, .seq #[.int i t, .int j u] n, sl⟩) : Rp K H (.tup [.int i, .int j]) (.ref a) :=
  ⟨a, [.int i, .int j], rfl, .inr ⟨_, #[.int i t, .int j u], n, l, rfl, rfl, (by show 2 ≤ sizeLine; decide), .cons ⟨t, rfl⟩ (.cons ⟨u, rfl⟩ .nil)⟩, ⟨_, _, rfl, rfl, _, _, rfl, rfl, rfl⟩⟩
theorem vals_refs : ∀ as : List Addr, Vals (as.map V.ref) (as.map Value.ref)
  | [] => .nil
  | a :: as => .cons rfl (vals_refs as)
theorem rp_tupsK {as : List Addr} {ds : List D} (l : K.lookup a = some ⟨.type "tuple", od, .seq (as.map Value.ref).toArray n, sl⟩) (hs : as.length ≤ 1000) (r : RpL K H ds (as.map V.ref)) : Rp K H (.tup ds) (.ref a) :=
  ⟨a, as.map V.ref, rfl, .inr ⟨_, (as.map Value.ref).toArray, n, l, rfl, rfl, by rw [List.size_toArray, List.length_map]; exact Nat.le_trans hs (by show 1000 ≤ sizeLine; decide), by simpa using vals_refs as⟩, r⟩
theorem rpl_cons {d : D} {ds : List D} {v : V} {vs : List V} (r : Rp K H d v) (k : RpL K H ds vs) : RpL K H (d :: ds) (v :: vs) := ⟨v, vs, rfl, r, k⟩
theorem rpl_nil : RpL K H [] [] := rfl
end
end DL
namespace DL
open PySem PySem.Spec PyProof.Rows L2
/-! ### comprehensions that give a list that may be changed -/
section
variable {X : Cx} {elt iter c : Expr} {en : DEnv} {S : Sto} {Q : D → Sto → Prop} {pos py : Pos} {y : Str} {scope : Scope}
variable {ifs : List Expr} {tt : TT}
end
section
variable {X : Cx} {elt iter c tg : Expr} {en : DEnv} {S : Sto} {Q : D → Sto → Prop} {pos : Pos} {scope : Scope} {ifs : List Expr} {tt : TT}
variable {own : List (Str × Nat)} {n : Nat}
end

/-! ### data with changed lists in it, as it stands -/
end DL
/-! An error class of the program whose __init__ says super().__init__(f"..{x}"), self.x = x: made, held, its field read. -/
namespace PySem
namespace LimX
open PySem.W PySem.Calls PyProof.Rows PySem.HandSPX
section
variable {prog : Program} {w : World} {A : Around} {E : Value → Shared → Prop} {R : Result → Shared → Prop} {s : Shared} {K : Frag} {mg : Str → Option Value} {C fI : Addr} {x qual fld pre : Str}
end
end LimX
end PySem
namespace L2
open PySem PySem.Spec PyProof.Rows
section
variable {X : Cx} {C fI : Addr} {x qual fld pre : Str}
end
end L2
namespace DL
open PySem PySem.Spec PyProof.Rows L2
/-! ### errors over data -/
structure XD where
  cls : Value
  fld : Option (Str × D)
/-- an error's class and dict, in the heap of data -/
def XR (K : PySem.W.Frag) (Hd : Hp) (x : XD) (cls : Value) (d : Option Addr) : Prop := cls = x.cls ∧ match x.fld with
  | none => d = none
  | some (f, dv) => ∃ dd v, d = some dd ∧ Hd dd = some (.xd [(f, v)]) ∧ Rp K Hd dv v
abbrev RX := XD → DEnv → Sto → Prop
/-- what is wanted of an error is taken -/
structure LiftX (X : Cx) (Hd : Hp) (R : RX) : Prop where
  ex : ∃ W : WX, Takes X W ∧ ∀ x en S cls d σ H Hd', Same Hd Hd' → St0 X.K S Hd' H → RpE X.K Hd' en σ → XR X.K Hd' x cls d → R x en S → W cls d σ H
theorem LiftX.up {X : Cx} {Hd Hd' : Hp} {R : RX} (e : Same Hd Hd') (l : LiftX X Hd R) : LiftX X Hd' R := by
  obtain ⟨W, tk, h⟩ := l.ex
  exact ⟨W, tk, fun x en S cls d σ H H2 k => h x en S cls d σ H H2 (e.trans k)⟩
structure DEX (X : Cx) (e : Expr) (en : DEnv) (S : Sto) (Q : D → Sto → Prop) (R : RX) : Prop where
  run : ∀ (σ : L2.St) (H Hd : Hp), St0 X.K S Hd H → RpE X.K Hd en σ → LiftX X Hd R → wE X e σ H (QD X.K Hd Q)
structure DAX (X : Cx) (es : List Expr) (en : DEnv) (S : Sto) (Q : List D → Sto → Prop) (R : RX) : Prop where
  run : ∀ (σ : L2.St) (H Hd : Hp), St0 X.K S Hd H → RpE X.K Hd en σ → LiftX X Hd R → wA X es σ H (QA X.K Hd Q)
structure DS1X (X : Cx) (st : Stmt) (en : DEnv) (S : Sto) (Z : Dn) (R : RX) : Prop where
  run : ∀ (σ : L2.St) (H Hd : Hp), St0 X.K S Hd H → RpE X.K Hd en σ → ∀ De : Ends, Lift X.K Hd Z De → LiftX X Hd R → wS X st De σ H
structure DSX (X : Cx) (sts : List Stmt) (en : DEnv) (S : Sto) (Z : Dn) (R : RX) : Prop where
  run : ∀ (σ : L2.St) (H Hd : Hp), St0 X.K S Hd H → RpE X.K Hd en σ → ∀ De : Ends, Lift X.K Hd Z De → LiftX X Hd R → wSs X sts De σ H
abbrev ConX := List D → Sto → (D → Sto → Prop) → (XD → Sto → Prop) → Prop
def spDX (K : PySem.W.Frag) (C : ConX) : Sp := fun vs H Q E => ∃ (ds : List D) (S : Sto) (Hd : Hp) (Qd : D → Sto → Prop) (Rd : XD → Sto → Prop), RpL K Hd ds vs ∧ St0 K S Hd H ∧ C ds S Qd Rd ∧
  (∀ d S' v H' Hd', Qd d S' → Same Hd Hd' → St0 K S' Hd' H' → Rp K Hd' d v → Q v H') ∧ ∀ x S' cls d H' Hd', Rd x S' → Same Hd Hd' → St0 K S' Hd' H' → XR K Hd' x cls d → E cls d H'
/-! ### a def that may raise keeps its promise, by its body -/
structure GOkX (P : Program) (w : World) (K : PySem.W.Frag) (mg : Str → Option Value) (base : Heap) (k : Nat) (f : Addr) (fd : FuncData) (ps : List Str) (sp : Sp) : Prop where
  len : ∀ vs H Q E, sp vs H Q E → vs.length = ps.length
  run : ∀ (A : Around) (fr : List Env) (s : Shared) (H : Hp) (ar : Args) (us : List Value) (vs : List V) (Q : VK) (E : XK), A.guards = some [] → Room k A →
    Env0 P w K mg base A fr s H → BindsTo s fd ar (ps.zip us) → Vals vs us → sp vs H Q E → codeAny (model P w) A (.call (.ref f) ar) (CR (L2.CX P w) fr P w H s Q E) s
section
variable {P : Program} {w : World} {K : PySem.W.Frag} {mg : Str → Option Value} {base : Heap}
theorem gokx_of {k : Nat} {x qual : Str} {st : Stmt} {f : Addr} {fd : FuncData} {N ps : List Str} {sp : Sp} (F : Fun K x qual st f fd) (S : FnScope N ps (defScope st)) (ln : ∀ vs H Q E, sp vs H Q E → vs.length = ps.length)
    (body : ∀ (cdv : Value) (A : Around) (fr : List Env) (s : Shared) (H : Hp) (vs : List V) (Q : VK) (E : XK), (A.deeper (envOfC qual (defScope st) s.heap.objs.size f cdv)).guards = some [] → Room k (A.deeper (envOfC qual (defScope st) s.heap.objs.size f cdv)) → sp vs H Q E →
      wSs (cxOf (L2.CX P w) P w K mg base N qual (defScope st) f cdv A fr s H E) (defBody st) { nx := fun _ H' => Q .non H', rt := Q } (start N vs) H) : GOkX P w K mg base (k + 1) f fd ps sp := by
  obtain ⟨oc, od, kV, doc, pm, an, cdv, ct, osl, rfl, lk, hcd⟩ := F.ex
  refine ⟨ln, fun A fr s H ar us vs Q E gd hr e0 hb r hsp => ?_⟩
  have long := ln _ _ _ _ hsp
  have KX : K.In s.heap := e0.mod.kin.keeps fun b o e => (e0.bs b o e).1
  have free : s.heap.NoLimit := e0.mod.nolimit.keeps fun b o e => (e0.bs b o e).1
  refine codeAny_call_function hr.depth (KX _ _ lk) rfl S.co S.gen rfl (PySem.W.codeRec_of KX hcd) (hb _ _ _ _ ?_)
  refine wpAny_newFunctionEnv_cells S.kind (fun y hy => ?_) fun env he s1 xx => ?_
  · obtain ⟨n, v⟩ := y
    rcases S.par n (List.of_mem_zip hy).1 with z | z
    · exact .inl z
    · exact .inr ⟨z, PySem.W.cellsFrom_some _ _ _ (.inl z)⟩
  subst he
  refine ⟨free.keeps xx.toInCall.keep, codeAny_func ?_⟩
  have J : Inv (cxOf (L2.CX P w) P w K mg base N qual (defScope st) f cdv A fr s H E) [] (start N vs) H s1 := inv_start S hr.hd e0 long r xx
  have run := (pssW (X := (cxOf (L2.CX P w) P w K mg base N qual (defScope st) f cdv A fr s H E)) (sts := defBody st)).run [] s1 (start N vs) H _ J (body cdv A fr s H vs Q E gd (hr.deeper _) hsp)
  refine wpAny_mono run (fun fl s' hs => ?_) fun e s' hs => hs
  have out : ∀ {σ' : L2.St} {H' : Hp} {v : V} {u : Value}, Inv (cxOf (L2.CX P w) P w K mg base N qual (defScope st) f cdv A fr s H E) [] σ' H' s' → RelV v u → Q v H' → CE fr P w H s Q u s' :=
    fun {σ' H' v u} I rv q => ⟨v, H', I.os, I.bare, I.base, I.hok, rv, q⟩
  cases fl with
  | ret u =>
    obtain ⟨v, σ', H', I, rv, q⟩ := hs
    exact out I rv q
  | next =>
    obtain ⟨σ', H', I, q⟩ := hs
    exact out (v := V.non) (u := Value.none) I rfl q
  | brk => exact hs.elim fun _ h => h.elim fun _ h => h.2.elim
  | cont => exact hs.elim fun _ h => h.elim fun _ h => h.2.elim
theorem gokx_ds {k m : Nat} {x qual : Str} {st : Stmt} {f : Addr} {fd : FuncData} {N ps : List Str} {C : ConX} (F : Fun K x qual st f fd) (S : FnScope N ps (defScope st))
    (hm : N.length - ps.length = m) (ln : ∀ ds S Q R, C ds S Q R → ds.length = ps.length)
    (body : ∀ (cdv : Value) (A : Around) (fr : List Env) (s : Shared) (H : Hp) (E : XK), (A.deeper (envOfC qual (defScope st) s.heap.objs.size f cdv)).guards = some [] → Room k (A.deeper (envOfC qual (defScope st) s.heap.objs.size f cdv)) → ∀ (ds : List D) (S0 : Sto) (Q : D → Sto → Prop) (R : XD → Sto → Prop), C ds S0 Q R →
      DSX (cxOf (L2.CX P w) P w K mg base N qual (defScope st) f cdv A fr s H E) (defBody st) (ds.map some ++ List.replicate m none) S0 { nx := fun _ S' => Q .non S', rt := Q } (fun x _ S' => R x S')) : GOkX P w K mg base (k + 1) f fd ps (spDX K C) := by
  refine gokx_of F S (fun vs H Q E h => ?_) fun cdv A fr s H vs Q E gd hr h => ?_
  · obtain ⟨ds, S0, Hd, Qd, Rd, r, _, c, _⟩ := h
    rw [r.length]
    exact ln _ _ _ _ c
  · obtain ⟨ds, S0, Hd, Qd, Rd, r, st0, c, fin, finx⟩ := h
    have e : L2.start N vs = vs.map some ++ List.replicate m none := by
      unfold L2.start
      rw [r.length, ln _ _ _ _ c, hm]
    rw [e]
    refine (body cdv A fr s H E gd hr ds S0 Qd Rd c).run _ H Hd st0 (RpE.start m r) _ ⟨fun en S' σ H' Hd' z1 z2 _ q => fin .non S' .non H' Hd' q z1 z2 rfl, fun d S' v H' Hd' z1 z2 z3 q => fin d S' v H' Hd' q z1 z2 z3, fun _ _ _ _ _ _ _ _ q => q.elim, fun _ _ _ _ _ _ _ _ q => q.elim⟩ ?_
    exact ⟨fun cls d _ H => E cls d H, takes_of rfl rfl rfl rfl, fun x en S cls d σ H' Hd' z1 z2 _ z3 q => finx x S cls d H' Hd' q z1 z2 z3⟩
end
/-- a def that may raise, in the module -/
structure CalX (P : Program) (w : World) (K : PySem.W.Frag) (mg : Str → Option Value) (base : Heap) (k : Nat) (x : Str) (ps : List Str) (kws : List (Nat × List Str)) (C : ConX) : Prop where
  ex : ∃ (f : Addr) (fd : FuncData), GOkX P w K mg base k f fd ps (spDX K C) ∧ mg x = some (.ref f) ∧ PySem.W.keepIn K (.ref f) = true ∧
    (∀ us : List Value, us.length = ps.length → bindArgs fd ⟨us, []⟩ = pure (ps.zip us)) ∧ ∀ p ∈ kws, KwOk fd ps p
theorem calx_of {P : Program} {w : World} {K : PySem.W.Frag} {mg : Str → Option Value} {base : Heap} {k : Nat} {x qual : Str} {st : Stmt} {f : Addr} {fd : FuncData} {ps : List Str} {kws : List (Nat × List Str)} {C : ConX} (F : Fun K x qual st f fd)
    (G : GOkX P w K mg base k f fd ps (spDX K C)) (hm : mg x = some (.ref f)) (hb : ∀ us : List Value, us.length = ps.length → bindArgs fd ⟨us, []⟩ = pure (ps.zip us)) (hk : ∀ p ∈ kws, KwOk fd ps p) : CalX P w K mg base k x ps kws C := ⟨f, fd, G, hm, F.kp, hb, hk⟩
section
variable {X : Cx} {a b c e tg : Expr} {es : List Expr} {kwl : List Keyword} {st : Stmt} {sts rest : List Stmt} {en : DEnv} {S : Sto} {Z : Dn} {Q : D → Sto → Prop} {R : RX} {QL : List D → Sto → Prop} {pos pos' p kpos : Pos} {k : Nat} {x : Str} {ps ks : List Str} {kws : List (Nat × List Str)} {C : ConX}
/-! ### what raises nothing -/
theorem dax_of (h : DA X es en S QL) : DAX X es en S QL R := ⟨fun σ H Hd st re _ => h σ H Hd st re⟩
theorem dsx_of (h : DS X sts en S Z) : DSX X sts en S Z R := ⟨fun σ H Hd st re De l _ => h σ H Hd st re De l⟩
theorem dsx_nil (q : Z.nx en S) : DSX X [] en S Z R := dsx_of (ds_nil q)
theorem dsx_cons (h : DS1X X st en S { Z with nx := fun en' S' => DSX X rest en' S' Z R } R) : DSX X (st :: rest) en S Z R := ⟨fun σ H Hd s0 re De l lx => by
  refine wSs_of (pss_cons psW pssW) ?_
  exact h.run σ H Hd s0 re _ ⟨fun en' S' σ' H' Hd' z1 z2 z3 q => q.run σ' H' Hd' z2 z3 De (l.up z1) (lx.up z1), l.rt, l.bk, l.ct⟩ lx⟩
theorem dsx_nrm {en' : DEnv} (h : DSX X sts en' S Z R) (he : en = en' := by set_option simprocs false in dsimp only [List.set]) : DSX X sts en S Z R := by
  rw [he]
  exact h
theorem dsx_expr (h : DEX X e en S (fun _ S1 => Z.nx en S1) R) (hs : swapsWith e none pos.line X.env = pure false := by first | exact sws1 rfl | exact sw0 rfl | rfl) : DS1X X (.Expr e pos) en S Z R := ⟨fun σ H Hd st re De l lx =>
  wS_of (ps_expr peW hs) (wE_mono (h.run σ H Hd st re lx) fun v H1 ⟨d, S1, Hd1, e1, st1, r1, q⟩ => l.nx en S1 σ H1 Hd1 e1 st1 (re.mono e1) q)⟩
theorem dsx_if {s1 s2 : List Stmt} (h : DT X c en S fun t S1 => (t = true → DSX X s1 en S1 Z R) ∧ (t = false → DSX X s2 en S1 Z R)) : DS1X X (.If c s1 s2 pos) en S Z R := ⟨fun σ H Hd st re De l lx => by
  refine wS_of (ps_if ptW pssW pssW) ?_
  refine wT_mono (h σ H Hd st re) fun t H1 ⟨S1, Hd1, e1, st1, q1, q2⟩ => ?_
  cases t with
  | true =>
    rw [if_pos rfl]
    exact (q1 rfl).run σ H1 Hd1 st1 (re.mono e1) De (l.up e1) (lx.up e1)
  | false =>
    rw [if_neg Bool.false_ne_true]
    exact (q2 rfl).run σ H1 Hd1 st1 (re.mono e1) De (l.up e1) (lx.up e1)⟩
/-! ### calls of what may raise -/
theorem run_calX (c : CalX X.prog X.w X.K X.mg X.base k x ps kws C) (gd : X.A.guards = some []) (hr : Room k X.A) : ∃ f : Addr, X.mg x = some (.ref f) ∧ PySem.W.keepIn X.K (.ref f) = true ∧
    (∀ {pins : List (Addr × Obj)} {σ : L2.St} {H Hd : Hp} {s : Shared} {us : List Value} {vs : List V} {ds : List D} {S : Sto} {en : DEnv} {Q : D → Sto → Prop} {Qv : VK}, Inv X pins σ H s → Vals vs us → RpL X.K Hd ds vs → St0 X.K S Hd H → RpE X.K Hd en σ → C ds S Q (fun x S' => R x en S') → LiftX X Hd R → (∀ v H', QD X.K Hd Q v H' → Qv v H') →
      wpAny (model X.prog X.w) X.A (call (.ref f) us) (EP X pins σ Qv) X.xe s) ∧
    ∀ (n : Nat) (ks : List Str), (n, ks) ∈ kws → ∀ {pins : List (Addr × Obj)} {σ : L2.St} {H Hd : Hp} {s : Shared} {us ws : List Value} {vs zs : List V} {ds fs : List D} {S : Sto} {en : DEnv} {Q : D → Sto → Prop} {Qv : VK}, Inv X pins σ H s → Vals vs us → Vals zs ws → us.length = n → ws.length = ks.length →
      RpL X.K Hd ds vs → RpL X.K Hd fs zs → St0 X.K S Hd H → RpE X.K Hd en σ → C (ds ++ ordV .non (ps.drop n) ks fs) S Q (fun x S' => R x en S') → LiftX X Hd R → (∀ v H', QD X.K Hd Q v H' → Qv v H') → wpAny (model X.prog X.w) X.A (call (.ref f) us (ks.zip ws)) (EP X pins σ Qv) X.xe s := by
  obtain ⟨f, fd, G, hm, hk, hb, hkw⟩ := c.ex
  refine ⟨f, hm, hk, fun {pins σ H Hd s us vs ds S en Q Qv} I r rd st re q lx kq => ?_, fun n ks hn {pins σ H Hd s us ws vs zs ds fs S en Q Qv} I r rz ln lw rd rf st re q lx kq => ?_⟩
  · obtain ⟨W, tk, hW⟩ := lx.ex
    have hs : spDX X.K C vs H Qv (fun cls d H' => ∃ x S' Hd', Same Hd Hd' ∧ St0 X.K S' Hd' H' ∧ XR X.K Hd' x cls d ∧ R x en S') := ⟨ds, S, Hd, Q, _, rd, st, q, fun d S' v H' Hd' z1 z2 z3 z4 => kq v H' ⟨d, S', Hd', z2, z3, z4, z1⟩, fun x S' cls d H' Hd' z1 z2 z3 z4 => ⟨x, S', Hd', z2, z3, z4, z1⟩⟩
    have hl : us.length = ps.length := by rw [← r.length]; exact G.len _ _ _ _ hs
    refine wpAny_call (codeAny_mono (G.run X.A X.stack s H ⟨us, []⟩ us vs Qv _ gd hr I.env0 (.of_eq (hb us hl)) r hs) fun res s' hq => ?_)
    cases res with
    | error e => exact tk e s' (XE.of_call I (fun cls d H' ⟨x, S', Hd', z1, z2, z3, z4⟩ => hW x en S' cls d σ H' Hd' z1 z2 (re.mono z1) z3 z4) hq)
    | ok fl =>
      cases fl with
      | ret u => exact I.after hq
      | next => exact hq.elim
      | brk => exact hq.elim
      | cont => exact hq.elim
  · obtain ⟨k1, k2, k3⟩ := hkw _ hn
    have lz : ks.length = zs.length := by rw [rz.length]; exact lw.symm
    have lf : ks.length = fs.length := by rw [lz, rf.length]
    obtain ⟨W, tk, hW⟩ := lx.ex
    have hs : spDX X.K C (vs ++ ordV .non (ps.drop n) ks zs) H Qv (fun cls d H' => ∃ x S' Hd', Same Hd Hd' ∧ St0 X.K S' Hd' H' ∧ XR X.K Hd' x cls d ∧ R x en S') := ⟨_, S, Hd, Q, _, rd.append (ord_rp rf lf k2), st, q, fun d S' v H' Hd' z1 z2 z3 z4 => kq v H' ⟨d, S', Hd', z2, z3, z4, z1⟩, fun x S' cls d H' Hd' z1 z2 z3 z4 => ⟨x, S', Hd', z2, z3, z4, z1⟩⟩
    refine wpAny_call (codeAny_mono (G.run X.A X.stack s H ⟨us, ks.zip ws⟩ (us ++ ordV .none (ps.drop n) ks ws) _ Qv _ gd hr I.env0 (.of_eq (k3 us ws ln lw)) (r.append (ord_vals rz lz k2)) hs) fun res s' hq => ?_)
    cases res with
    | error e => exact tk e s' (XE.of_call I (fun cls d H' ⟨x, S', Hd', z1, z2, z3, z4⟩ => hW x en S' cls d σ H' Hd' z1 z2 (re.mono z1) z3 z4) hq)
    | ok fl =>
      cases fl with
      | ret u => exact I.after hq
      | next => exact hq.elim
      | brk => exact hq.elim
      | cont => exact hq.elim
/-- f(e, ..) -/
theorem dex_call (c : CalX X.prog X.w X.K X.mg X.base k x ps kws C) (gd : X.A.guards = some []) (hr : Room k X.A) (h : DAX X (e :: es) en S (fun ds S1 => C ds S1 Q (fun x S' => R x en S')) R) (hg : Gl X x := by rfl)
    (hdb : (x == ("__debug__" : Str)) = false := by decide) (he : starEach (e :: es) X.env = (false, eval e X.env) :: starEach es X.env := by rfl) (hpl : (backTo pos (starEach es X.env)).any (·.1) = false := by rfl) : DEX X (.Call (.Name x p) (e :: es) [] pos) en S Q R := by
  refine ⟨fun σ H Hd st re lx => ?_⟩
  intro pins s I
  obtain ⟨f, hm, hk, run, _⟩ := run_calX (R := R) c gd hr
  refine wpAny_Call_Name_kw (ld_glob I hg hm ?_ hdb)
  refine PySem.W.callWith_K (h₀ := X.base) I.ok.mod.kin hk (thn (h.run σ H Hd st re lx pos pins s I) fun us s1 ⟨vs, H1, I1, r, ds, S1, Hd1, e1, st1, r1, q1⟩ => ⟨I1.kIn, ?_⟩) he hpl
  exact run I1 r r1 st1 (re.mono e1) q1 (lx.up e1) fun v H' z => .up e1 z
theorem DEX.mono {Q' : D → Sto → Prop} (h : DEX X e en S Q R) (k : ∀ d S', Q d S' → Q' d S') : DEX X e en S Q' R := ⟨fun σ H Hd st re lx =>
  wE_mono (h.run σ H Hd st re lx) fun _ _ ⟨d, S', Hd', e', st', r, q⟩ => ⟨d, S', Hd', e', st', r, k d S' q⟩⟩
end
end DL
/-! try with several clauses, some of which name the error -/
namespace DL
open PySem PySem.Spec PyProof.Rows L2
abbrev TCl := Addr → Value → Option Addr → TS
def dSet (i : Nat) (D : Ends) : Ends := { nx := fun σ' H' => D.nx (σ'.set i none) H', rt := D.rt, bk := fun σ' H' => D.bk (σ'.set i none) H', ct := fun σ' H' => D.ct (σ'.set i none) H' }
def wMix (K : PySem.W.Frag) (Wout : WX) (D : Ends) : List (Value × Option Nat × TCl) → WX
  | [] => Wout
  | (c, none, ts) :: r => fun cls d σ H => ∃ b, PySem.W.exmOne K cls c = some b ∧ (b = true → ∀ a, H a = none → ts a cls d D σ H) ∧ (b = false → wMix K Wout D r cls d σ H)
  | (c, some i, ts) :: r => fun cls d σ H => ∃ b, PySem.W.exmOne K cls c = some b ∧ (b = true → ∀ a, H a = none → ts a cls d (dSet i D) (σ.set i (some (.ref a))) H) ∧ (b = false → wMix K Wout D r cls d σ H)
inductive HdsMix (X : Cx) : List ExceptHandler → List (Value × Option Nat × TCl) → Prop
  | nil : HdsMix X [] []
  | cons {x : Str} {c : Value} {ts : TCl} {b₀ : Stmt} {suite : List Stmt} {np pos' : Pos} {hds : List ExceptHandler} {l : List (Value × Option Nat × TCl)} (hc : Names X x c)
      (hsu : ∀ (a : Addr) (oe : Obj) (cls : Value) (d : Option Addr) (pn : List (Addr × Obj)), Zc cls d oe → (∃ vs, oe.data = .fields vs) → PSs (X.suite a ((a, oe) :: pn)) (b₀ :: suite) (ts a cls d)) (r : HdsMix X hds l) :
      HdsMix X (.ExceptHandler (some (.Name x np)) none (b₀ :: suite) pos' :: hds) ((c, none, ts) :: l)
  | consA {x n : Str} {i : Nat} {c : Value} {ts : TCl} {b₀ : Stmt} {suite : List Stmt} {np pos' : Pos} {hds : List ExceptHandler} {l : List (Value × Option Nat × TCl)} (hc : Names X x c) (hN : X.N.Nodup) (hi : X.N[i]? = some n) (hln : X.env.kindOf n = some .local)
      (hsu : ∀ (a : Addr) (oe : Obj) (cls : Value) (d : Option Addr) (pn : List (Addr × Obj)), Zc cls d oe → (∃ vs, oe.data = .fields vs) → PSs (X.suite a ((a, oe) :: pn)) (b₀ :: suite) (ts a cls d)) (r : HdsMix X hds l) :
      HdsMix X (.ExceptHandler (some (.Name x np)) (some n) (b₀ :: suite) pos' :: hds) ((c, some i, ts) :: l)
section
variable {X : Cx} {body : List Stmt} {h₀ : ExceptHandler} {hds : List ExceptHandler} {l : List (Value × Option Nat × TCl)} {pos : Pos} {tb : WX → TS} {Wout : WX}
theorem ps_try_mix (hs : X.stack = X.env :: X.outer) (hf : X.env.frame = some X.env.locals) (tk : Takes X Wout)
    (hb : ∀ (W : WX) (pn : List (Addr × Obj)) (xe : Value → Shared → Prop), Takes (X.tr pn xe) W → PassesOwn (model X.prog X.w) X.A X.env xe → PSs (X.tr pn xe) body (tb W))
    (hh : HdsMix X (h₀ :: hds) l) : PS X (.Try body (h₀ :: hds) [] [] pos) (fun D σ H => tb (wMix X.K Wout D l) D σ H) := by
  refine ⟨fun pins s σ H D I h => ?_⟩
  have ok := I.ok
  have hfr : X.A.frames = some (X.env :: X.outer) := by rw [ok.frames, hs]
  refine wpAny_Try_except ?_
  refine wpAny_mono ((hb (wMix X.K Wout D l) (X.pn ++ pins) (fun e s₁ => wpAny (model X.prog X.w) X.A (noteFrame e X.env) (fun _ s₂ => wpAny (model X.prog X.w) X.A (setFlight e none) (fun _ s₃ =>
    wpAny (model X.prog X.w) X.A (handleBy e X.env (h₀ :: hds)) (SP X pins D) X.xe s₃) X.xe s₂) X.xe s₁) (fun u s' xx => ?_) PassesOwn.looking).run [] s σ H D (I.toTry _) h) (fun f s1 hsp => ?_) (fun e s1 he => he)
  · -- the catch
    obtain ⟨a, B, sI, pins', σ', H', cls, d, rfl, J', nb, up, sky, na, os, ag, w⟩ := xx
    have J : Inv X pins σ' H' sI := J'.ofTry ok
    have sky' : Sky B (X.env :: X.outer) a (Zc cls d) X.env.locals s'.heap := by rw [← hs]; exact sky
    show wpAny (model X.prog X.w) X.A (noteFrame (.ref a) X.env) _ _ _
    refine Sky.land Zc.steady hfr hf sky' fun h3 fl3 up3 => ?_
    have J3 : Inv X pins σ' H' { s' with heap := h3 } := J.landed nb fl3.1 (up.trans up3) os ag
    obtain ⟨oe3, vs3, he3, hz3, hd3⟩ := fl3.there
    have notFr : ∀ {h : Heap} {o : Obj} {vs : Array Value}, h.FunFrames B (X.env :: X.outer) → h.get? a = some o → o.data = .fields vs → a ∉ frs (X.env :: X.outer) := fun {h o vs} ff e dd hm => by
      obtain ⟨_, o', e', hnf⟩ := ff.mem hm
      rw [e] at e'; cases e'
      exact hnf _ dd
    have nfr := notFr fl3.2.2.1 he3 hd3
    have nL : a ≠ X.env.locals := fun z => nfr (List.mem_filterMap.mpr ⟨X.env, List.mem_cons_self, by rw [hf, z]⟩)
    have nF : a ∉ X.fs := fun hm => by
      obtain ⟨e, he, q⟩ := List.mem_filterMap.mp hm
      exact nfr (List.mem_filterMap.mpr ⟨e, List.mem_cons_of_mem _ he, q⟩)
    have S3 := J3.suite he3 hd3 na nL nF
    have go : ∀ {hds' : List ExceptHandler} {l' : List (Value × Option Nat × TCl)}, HdsMix X hds' l' → wMix X.K Wout D l' cls d σ' H' →
        wpAny (model X.prog X.w) X.A (handleBy (.ref a) X.env hds') (SP X pins D) X.xe { s' with heap := h3 } := by
      intro hds' l' hk
      induction hk with
      | nil =>
        intro w
        refine wpAny_handleBy_nil ?_
        obtain ⟨k1, k2, k3, oe, vs, T, oT, ts', he, hz, hd, h1, hr⟩ := id fl3
        unfold PySem.passOn
        refine wpAny_bind (wpAny_field he hd h1 ?_)
        rw [if_neg (show ¬ ((Value.ref T == Value.none) = true) from by simp)]
        have fin : wpAny (model X.prog X.w) X.A (setFlight (.ref a) X.env.frame) (fun _ s4 => wpAny (model X.prog X.w) X.A (throw (.ref a) : Sem Flow) (SP X pins D) X.xe s4) X.xe { s' with heap := h3 } := by
          rw [hf]
          refine HandSPX.setFlight_upZ fl3 fun h4 hh4 up4 => wpAny_throw (tk _ _ ?_)
          exact ⟨a, B, sI, pins, σ', H', cls, d, rfl, J, nb, (up.trans up3).trans up4, .inr (.inr (by rw [hs]; exact hh4)), na, os, ag, w⟩
        first
          | exact wpAny_bind (wpAny_pure (wpAny_bind fin))
          | exact wpAny_bind fin
      | @cons x c ts b₀ suite np pos' hds2 l2 hc hsu r ih =>
        intro w
        obtain ⟨b, hb1, hyes, hno⟩ := w
        refine wpAny_handleBy_cons (codeAny_handlers_test ?_) (by intro q; cases q)
        have LT : PySem.W.Looks (model X.prog X.w) h3 (typeOf (.ref a)) cls := fun A Q E s k q => wpAny_typeOf_ref (k _ _ he3) (by rw [hz3.1]; exact q)
        have LM := PySem.W.exm_one (M := model X.prog X.w) (J3.kIn) LT hb1
        have test : ∀ {Q : Value → Shared → Prop} {E : Value → Shared → Prop}, Q c { s' with heap := h3 } → wpAny (model X.prog X.w) (X.A.mark (some (.ref a))) (eval (.Name x np) X.env) Q E { s' with heap := h3 } := fun {Q E} q => by
          obtain ⟨hg, hdbg, hm | ⟨hm, hv, hnn⟩⟩ := hc
          · exact ld_glob (X := X.suite a ((a, oe3) :: (X.pn ++ pins))) S3 hg hm q hdbg
          · exact ld_blt (X := X.suite a ((a, oe3) :: (X.pn ++ pins))) S3 hg hm hv q hnn hdbg
        refine test (LM.here ?_)
        cases b with
        | true =>
          refine codeAny_handlers_suite ?_
          refine HandSPX.lands_againZ fl3 fun h4 fl4 up4 => ?_
          have J4 : Inv X pins σ' H' { s' with heap := h4 } := J.landed nb fl4.1 ((up.trans up3).trans up4) os ag
          obtain ⟨oe4, vs4, he4, hz4, hd4⟩ := fl4.there
          have S4 := J4.suite he4 hd4 na nL nF
          refine wpAny_mono ((hsu a oe4 cls d (X.pn ++ pins) hz4 ⟨_, hd4⟩).run [] _ _ H' _ S4 (hyes rfl a na)) (fun f s6 hsp => ?_) (fun _ _ z => False.elim z)
          cases f with
          | next =>
            obtain ⟨σ6, H6, S6, q6⟩ := hsp
            exact ⟨_, _, S6.unsuite ok, q6⟩
          | brk =>
            obtain ⟨σ6, H6, S6, q6⟩ := hsp
            exact ⟨_, _, S6.unsuite ok, q6⟩
          | cont =>
            obtain ⟨σ6, H6, S6, q6⟩ := hsp
            exact ⟨_, _, S6.unsuite ok, q6⟩
          | ret u =>
            obtain ⟨v6, σ6, H6, S6, r6, q6⟩ := hsp
            exact ⟨_, _, _, S6.unsuite ok, r6, q6⟩
        | false =>
          show wpAny _ X.A (handleBy (.ref a) X.env hds2) _ _ _
          exact ih (hno rfl)
      | @consA x n i c ts b₀ suite np pos' hds2 l2 hc hN hi hln hsu r ih =>
        intro w
        obtain ⟨b, hb1, hyes, hno⟩ := w
        refine wpAny_handleBy_cons (codeAny_handlers_test ?_) (by intro q; cases q)
        have LT : PySem.W.Looks (model X.prog X.w) h3 (typeOf (.ref a)) cls := fun A Q E s k q => wpAny_typeOf_ref (k _ _ he3) (by rw [hz3.1]; exact q)
        have LM := PySem.W.exm_one (M := model X.prog X.w) (J3.kIn) LT hb1
        have test : ∀ {Q : Value → Shared → Prop} {E : Value → Shared → Prop}, Q c { s' with heap := h3 } → wpAny (model X.prog X.w) (X.A.mark (some (.ref a))) (eval (.Name x np) X.env) Q E { s' with heap := h3 } := fun {Q E} q => by
          obtain ⟨hg, hdbg, hm | ⟨hm, hv, hnn⟩⟩ := hc
          · exact ld_glob (X := X.suite a ((a, oe3) :: (X.pn ++ pins))) S3 hg hm q hdbg
          · exact ld_blt (X := X.suite a ((a, oe3) :: (X.pn ++ pins))) S3 hg hm hv q hnn hdbg
        refine test (LM.here ?_)
        cases b with
        | true =>
          refine codeAny_handlers_suite_as ?_
          refine HandSPX.lands_againZ fl3 fun h4 fl4 up4 => ?_
          have J4 : Inv X pins σ' H' { s' with heap := h4 } := J.landed nb fl4.1 ((up.trans up3).trans up4) os ag
          obtain ⟨oe4, vs4, he4, hz4, hd4⟩ := fl4.there
          have S4 := J4.suite he4 hd4 na nL nF
          refine store_ok (X := X.suite a ((a, oe4) :: (X.pn ++ pins))) (v := .ref a) S4 hN hi (.inl hln) rfl (fun s5 S5 => ?_) (.inr hln)
          refine wpAny_mono ((hsu a oe4 cls d (X.pn ++ pins) hz4 ⟨_, hd4⟩).run [] s5 _ H' _ S5 (hyes rfl a na)) (fun f s6 hsp => ?_) (fun _ _ z => False.elim z)
          have end_ : ∀ {σ6 : L2.St} {H6 : Hp} {Q : Shared → Prop}, Inv (X.suite a ((a, oe4) :: (X.pn ++ pins))) [] σ6 H6 s6 → (∀ s7, Inv X pins (σ6.set i none) H6 s7 → Q s7) →
              wpAny (model X.prog X.w) X.A (do bindName X.env n .none; unbindBehindTheSuite X.env n pos') (fun _ s7 => Q s7) X.xe s6 := fun {σ6 H6 Q} S6 hq => gone_ok (S6.unsuite ok) hN hi hln hq
          cases f with
          | next =>
            obtain ⟨σ6, H6, S6, q6⟩ := hsp
            exact end_ S6 fun s7 J7 => ⟨_, _, J7, q6⟩
          | brk =>
            obtain ⟨σ6, H6, S6, q6⟩ := hsp
            exact end_ S6 fun s7 J7 => ⟨_, _, J7, q6⟩
          | cont =>
            obtain ⟨σ6, H6, S6, q6⟩ := hsp
            exact end_ S6 fun s7 J7 => ⟨_, _, J7, q6⟩
          | ret u =>
            obtain ⟨v6, σ6, H6, S6, r6, q6⟩ := hsp
            exact end_ S6 fun s7 J7 => ⟨_, _, _, J7, r6, q6⟩
        | false =>
          show wpAny _ X.A (handleBy (.ref a) X.env hds2) _ _ _
          exact ih (hno rfl)
    exact go hh w
  · cases f with
    | next =>
      obtain ⟨σ', H', J', q⟩ := hsp
      exact wpAny_execs_nil ⟨σ', H', J'.ofTry ok, q⟩
    | brk =>
      obtain ⟨σ', H', J', q⟩ := hsp
      exact ⟨σ', H', J'.ofTry ok, q⟩
    | cont =>
      obtain ⟨σ', H', J', q⟩ := hsp
      exact ⟨σ', H', J'.ofTry ok, q⟩
    | ret u =>
      obtain ⟨v, σ', H', J', r, q⟩ := hsp
      exact ⟨v, σ', H', J'.ofTry ok, r, q⟩
end
end DL
namespace DL
open PySem PySem.Spec PyProof.Rows L2
/-! ### errors raised -/
/-- an error class of the program without an own __init__ -/
structure OwnErr (K : PySem.W.Frag) (mg : Str → Option Value) (x : Str) (C : Addr) : Prop where
  gC : mg x = some (.ref C)
  kC : PySem.W.keepIn K (.ref C) = true
  q : PySem.W.excIn K C [.type "ValueError", .type "Exception", .type "BaseException", .type "object"] "ValueError.__new__" = true
  exC : PySem.W.subIn K (.ref C) (.type "BaseException") = some true
  tyC : PySem.W.typeIn K (.ref C) = some (.type "type")
section
variable {X : Cx} {a e : Expr} {st : Stmt} {sts : List Stmt} {en : DEnv} {S : Sto} {Z : Dn} {Q : D → Sto → Prop} {R : RX} {pos pos' p p2 : Pos} {x qual fld pre : Str} {C fI : Addr} {j : Nat} {m : Str} {k : Nat}
theorem dsx_raise_own (T : OwnErr X.K X.mg x C) (hc : X.calm = true) (q : R ⟨.ref C, none⟩ en S) (hg : Gl X x := by rfl) (hdb : (x == ("__debug__" : Str)) = false := by decide) : DS1X X (.Raise (some (.Call (.Name x p) [.Constant (.str m) j p2] [] pos)) none pos') en S Z R := ⟨fun σ H Hd st re De l lx => by
  obtain ⟨W, tk, hW⟩ := lx.ex
  refine wS_of (ps_raise hc tk (pmk_own PySem.F.excBase_ValueError T.q T.gC T.kC (raises_own T.exC T.tyC) hg (hdb := hdb))) ?_
  exact hW ⟨.ref C, none⟩ en S _ none σ H Hd (Same.refl _) st re ⟨rfl, rfl⟩ q⟩
/-! ### errors caught -/
def excD (K : PySem.W.Frag) (a : Addr) (d : Option Addr) (x : XD) : D := .ext fun H v => v = .ref a ∧ XR K H x x.cls d
/-- what an except suite does -/
def SuD (X : Cx) (o : Option Nat) (su : List Stmt) (x : XD) (en : DEnv) (S : Sto) (Z : Dn) : Prop := match o with
  | none => ∀ (a : Addr) (oe : Obj) (d : Option Addr) (pn : List (Addr × Obj)), Zc x.cls d oe → (∃ vs, oe.data = .fields vs) → DS (X.suite a ((a, oe) :: pn)) su en S Z
  | some i => ∀ (a : Addr) (oe : Obj) (d : Option Addr) (pn : List (Addr × Obj)), Zc x.cls d oe → (∃ vs, oe.data = .fields vs) →
      DS (X.suite a ((a, oe) :: pn)) su (en.set i (some (excD X.K a d x))) S { nx := fun en2 S2 => Z.nx (en2.set i none) S2, rt := Z.rt, bk := fun en2 S2 => Z.bk (en2.set i none) S2, ct := fun en2 S2 => Z.ct (en2.set i none) S2 }
def RMix (X : Cx) (Z : Dn) (R : RX) : List (Value × Option Nat × List Stmt) → RX
  | [] => R
  | (c, o, su) :: r => fun x en S => ∃ b, PySem.W.exmOne X.K x.cls c = some b ∧ (b = true → SuD X o su x en S Z) ∧ (b = false → RMix X Z R r x en S)
/-- the clauses, as they stand -/
inductive DHds (X : Cx) : List ExceptHandler → List (Value × Option Nat × List Stmt) → Prop
  | nil : DHds X [] []
  | cons {x : Str} {c : Value} {b₀ : Stmt} {suite : List Stmt} {np pos' : Pos} {hds : List ExceptHandler} {l : List (Value × Option Nat × List Stmt)} (hc : Names X x c) (r : DHds X hds l) :
      DHds X (.ExceptHandler (some (.Name x np)) none (b₀ :: suite) pos' :: hds) ((c, none, b₀ :: suite) :: l)
  | consA {x n : Str} {i : Nat} {c : Value} {b₀ : Stmt} {suite : List Stmt} {np pos' : Pos} {hds : List ExceptHandler} {l : List (Value × Option Nat × List Stmt)} (hc : Names X x c) (hN : X.N.Nodup) (hi : X.N[i]? = some n) (hln : X.env.kindOf n = some .local) (r : DHds X hds l) :
      DHds X (.ExceptHandler (some (.Name x np)) (some n) (b₀ :: suite) pos' :: hds) ((c, some i, b₀ :: suite) :: l)
def tSu (X : Cx) (su : List Stmt) : TCl := fun a cls d De σ H => ∀ (oe : Obj) (pn : List (Addr × Obj)), Zc cls d oe → (∃ vs, oe.data = .fields vs) → wSs (X.suite a ((a, oe) :: pn)) su De σ H
theorem mix_of : ∀ {hds : List ExceptHandler} {cl : List (Value × Option Nat × List Stmt)}, DHds X hds cl → HdsMix X hds (cl.map fun t => (t.1, t.2.1, tSu X t.2.2))
  | _, _, .nil => .nil
  | _, _, .cons hc r => .cons hc (fun a oe cls d pn hz hf => ⟨fun pins s _ _ _ I h => h oe pn hz hf pins s I⟩) (mix_of r)
  | _, _, .consA hc hN hi hln r => .consA hc hN hi hln (fun a oe cls d pn hz hf => ⟨fun pins s _ _ _ I h => h oe pn hz hf pins s I⟩) (mix_of r)
theorem rmix_w {Hd : Hp} {De : Ends} {Wout : WX} (l : Lift X.K Hd Z De) (hW : ∀ x en S cls d σ H Hd', Same Hd Hd' → St0 X.K S Hd' H → RpE X.K Hd' en σ → XR X.K Hd' x cls d → R x en S → Wout cls d σ H) : ∀ (cl : List (Value × Option Nat × List Stmt)) (x : XD) (en : DEnv) (S : Sto) (cls : Value) (d : Option Addr) (σ : L2.St) (H Hd' : Hp),
    Same Hd Hd' → St0 X.K S Hd' H → RpE X.K Hd' en σ → XR X.K Hd' x cls d → RMix X Z R cl x en S → wMix X.K Wout De (cl.map fun t => (t.1, t.2.1, tSu X t.2.2)) cls d σ H
  | [], x, en, S, cls, d, σ, H, Hd', z1, z2, z3, z4, q => hW x en S cls d σ H Hd' z1 z2 z3 z4 q
  | (c, none, su) :: r, x, en, S, cls, d, σ, H, Hd', z1, z2, z3, z4, q => by
    obtain ⟨b, hb, hy, hn⟩ := q
    refine ⟨b, by rw [z4.1]; exact hb, fun hbt a ha oe pn hz hf => ?_, fun hbf => rmix_w l hW r x en S cls d σ H Hd' z1 z2 z3 z4 (hn hbf)⟩
    exact (hy hbt a oe d pn (by rw [← z4.1]; exact hz) hf).run σ H Hd' z2 z3 De (l.up z1)
  | (c, some i, su) :: r, x, en, S, cls, d, σ, H, Hd', z1, z2, z3, z4, q => by
    obtain ⟨b, hb, hy, hn⟩ := q
    refine ⟨b, by rw [z4.1]; exact hb, fun hbt a ha oe pn hz hf => ?_, fun hbf => rmix_w l hW r x en S cls d σ H Hd' z1 z2 z3 z4 (hn hbf)⟩
    have l' := l.up z1
    refine (hy hbt a oe d pn (by rw [← z4.1]; exact hz) hf).run (σ.set i (some (.ref a))) H Hd' z2 (z3.set (d := excD X.K a d x) ⟨Hd', Same.refl _, rfl, by rw [← z4.1]; exact z4⟩ i) (dSet i De) ?_
    exact ⟨fun en2 S2 σ2 H2 Hd2 y1 y2 y3 q2 => l'.nx _ S2 _ H2 Hd2 y1 y2 (y3.drop i) q2, l'.rt, fun en2 S2 σ2 H2 Hd2 y1 y2 y3 q2 => l'.bk _ S2 _ H2 Hd2 y1 y2 (y3.drop i) q2, fun en2 S2 σ2 H2 Hd2 y1 y2 y3 q2 => l'.ct _ S2 _ H2 Hd2 y1 y2 (y3.drop i) q2⟩
/-- try: body / except C: .. / except D as e: .. -/
theorem dsx_try {body : List Stmt} {h₀ : ExceptHandler} {hds : List ExceptHandler} {cl : List (Value × Option Nat × List Stmt)} (hs : X.stack = X.env :: X.outer) (hf : X.env.frame = some X.env.locals) (hh : DHds X (h₀ :: hds) cl)
    (hb : ∀ (pn : List (Addr × Obj)) (xe : Value → Shared → Prop), DSX (X.tr pn xe) body en S Z (RMix X Z R cl)) : DS1X X (.Try body (h₀ :: hds) [] [] pos) en S Z R := ⟨fun σ H Hd st re De l lx => by
  obtain ⟨Wout, tk, hW⟩ := lx.ex
  refine wS_of (ps_try_mix (tb := fun W => fun De σ H => ∀ (pn : List (Addr × Obj)) (xe : Value → Shared → Prop), Takes (X.tr pn xe) W → PassesOwn (model X.prog X.w) X.A X.env xe → wSs (X.tr pn xe) body De σ H) hs hf tk (fun W pn xe t pa => ⟨fun pins s _ _ _ I h => h pn xe t pa pins s I⟩) (mix_of hh)) ?_
  intro pn xe t pa
  exact (hb pn xe).run σ H Hd st re De l ⟨_, t, fun x en S cls d σ H Hd' z1 z2 z3 z4 q => rmix_w l hW cl x en S cls d σ H Hd' z1 z2 z3 z4 q⟩⟩
/-- .. where all errors are caught: nothing leaves -/
theorem ds_try {body : List Stmt} {h₀ : ExceptHandler} {hds : List ExceptHandler} {cl : List (Value × Option Nat × List Stmt)} (hs : X.stack = X.env :: X.outer) (hf : X.env.frame = some X.env.locals) (hh : DHds X (h₀ :: hds) cl)
    (hb : ∀ (pn : List (Addr × Obj)) (xe : Value → Shared → Prop), DSX (X.tr pn xe) body en S Z (RMix X Z (fun _ _ _ => False) cl)) : DS1 X (.Try body (h₀ :: hds) [] [] pos) en S Z := ⟨fun σ H Hd st re De l =>
  (dsx_try (R := fun _ _ _ => False) hs hf hh hb).run σ H Hd st re De l ⟨_, takes_none5, fun _ _ _ _ _ _ _ _ _ _ _ _ q => q⟩⟩
end
end DL
namespace DL
open PySem PySem.Spec PyProof.Rows L2
theorem exm_two {K : PySem.W.Frag} {A B : Addr} {b : Bool} (h1 : PySem.W.subIn K (.ref B) (.type "BaseException") = some true) (h2 : PySem.W.isClsIn K B = true) (h3 : PySem.W.typeIn K (.ref B) = some (.type "type")) (h4 : PySem.W.subIn K (.ref A) (.ref B) = some b) :
    PySem.W.exmOne K (.ref A) (.ref B) = some b := by
  have e1 : (PySem.W.subIn K (.ref B) (.type "BaseException") == some true) = true := by rw [h1] <;> rfl
  have e2 : ((PySem.W.clsIn K B).isSome && PySem.W.typeIn K (.ref B) == some (.type "type")) = true := by
    have h2' : (PySem.W.clsIn K B).isSome = true := h2
    rw [h2', h3] <;> rfl
  show (if (PySem.W.subIn K (.ref B) (.type "BaseException") == some true) = true then (if ((PySem.W.clsIn K B).isSome && PySem.W.typeIn K (.ref B) == some (.type "type")) = true then PySem.W.subIn K (.ref A) (.ref B) else none) else none) = some b
  rw [if_pos e1, if_pos e2]
  exact h4
section
variable {X : Cx} {sts : List Stmt} {en : DEnv} {S : Sto} {Z : Dn} {R : RX}
end
end DL
/-! l.count(x) over data; sum, zip -/
namespace DL
open PySem PySem.Spec PyProof.Rows L2
section
variable {X : Cx} {e : Expr} {en : DEnv} {S : Sto}
end
/-- whole numbers, truths -/
theorem flat_ints : ∀ l : List Int, flatOkL 8 (l.map D.int) = true
  | [] => rfl
  | i :: l => by
    show (flatOk 8 (.int i) && flatOkL 8 (l.map D.int)) = true
    rw [flat_ints l] <;> rfl
theorem flat_bls : ∀ l : List Bool, flatOkL 8 (l.map D.bl) = true
  | [] => rfl
  | i :: l => by
    show (flatOk 8 (.bl i) && flatOkL 8 (l.map D.bl)) = true
    rw [flat_bls l] <;> rfl
theorem plain_ints : ∀ l : List Int, PyData.plainAll (toPyL (l.map D.int)) = true
  | [] => rfl
  | i :: l => by
    show ((toPy (.int i)).plain && PyData.plainAll (toPyL (l.map D.int))) = true
    rw [plain_ints l] <;> rfl
theorem plain_bls : ∀ l : List Bool, PyData.plainAll (toPyL (l.map D.bl)) = true
  | [] => rfl
  | i :: l => by
    show ((toPy (.bl i)).plain && PyData.plainAll (toPyL (l.map D.bl))) = true
    rw [plain_bls l] <;> rfl
end DL
/-! sum and min of a tuple of whole numbers -/
namespace DL
open PySem PySem.Spec PyProof.Rows L2
end DL
/-! xs.extend(ys) -/
namespace DL
open PySem PySem.Spec PyProof.Rows L2
section
variable {X : Cx} {e : Expr} {en : DEnv} {S : Sto}
end
end DL
/-! zip of two lists -/
namespace DL
open PySem PySem.Spec PyProof.Rows L2
section
variable {X : Cx} {e e2 : Expr} {en : DEnv} {S : Sto} {R : List D → Sto → Prop} {p pos : Pos}
end
end DL
/-! repr of many small numbers -/
namespace DL
open PySem PySem.Spec PyProof.Rows L2
end DL
/-! max of three -/
namespace DL
open PySem PySem.Spec PyProof.Rows L2
def mx3 (a b c : Int) : Int := if b > a then (if c > b then c else b) else (if c > a then c else a)
def rMax3 : List V → Hp → VK → Prop := fun xs H Q => ∃ i j k : Int, xs = [.int i, .int j, .int k] ∧ Q (.int (mx3 i j k)) H
theorem call_max3 {X : Cx} (hc : X.calm = true) : CallR X (.builtin "max") rMax3 := by
  intro pins s σ H xs us Q I r h
  obtain ⟨i, j, k, rfl, q⟩ := h
  cases r with
  | cons r1 r =>
    cases r with
    | cons r2 r =>
      cases r with
      | cons r3 r =>
        cases r
        obtain ⟨t, rfl⟩ := r1
        obtain ⟨t', rfl⟩ := r2
        obtain ⟨t'', rfl⟩ := r3
        refine PySem.max_three_ints (I.ok.hd hc) fun h' tk kp => ⟨_, H, I.kept kp, ?_, q⟩
        unfold mx3
        by_cases a : j > i
        · by_cases b : k > j
          · rw [if_pos a, if_pos b, if_pos a, if_pos b]; exact ⟨_, rfl⟩
          · rw [if_pos a, if_neg b, if_pos a, if_neg b]; exact ⟨_, rfl⟩
        · by_cases b : k > i
          · rw [if_neg a, if_pos b, if_neg a, if_pos b]; exact ⟨_, rfl⟩
          · rw [if_neg a, if_neg b, if_neg a, if_neg b]; exact ⟨_, rfl⟩
theorem drc_max3I {K : PySem.W.Frag} {S : Sto} {Q : D → Sto → Prop} {i j k : Int} (q : Q (.int (mx3 i j k)) S) : DRC K rMax3 [.int i, .int j, .int k] S Q := fun H Hd vs Qv st rr kk => by
  obtain ⟨v, vs1, e1, rv, w, vs2, e2, rw', u, vs3, e3, ru, e4⟩ := rr
  have rv : v = V.int i := rv
  have rw' : w = V.int j := rw'
  have ru : u = V.int k := ru
  have e4 : vs3 = [] := e4
  subst e4 e3 e2 e1 rv rw' ru
  exact ⟨i, j, k, rfl, kk _ _ (.here (d := .int _) st rfl q)⟩
end DL
namespace DL
open PySem PySem.Spec PyProof.Rows L2
/-! ### ranges whose ends are great -/
section
variable {X : Cx} {tg : Expr}
variable {a b : Expr} {en : DEnv} {S : Sto} {R : List D → Sto → Prop} {p pos : Pos}
end
end DL
namespace DL
open PySem PySem.Spec PyProof.Rows L2
/-! ### comprehensions over two walks -/
section
variable {X : Cx} {elt iter iter1 : Expr} {en : DEnv} {S : Sto} {Q : D → Sto → Prop} {pos py pz : Pos} {y z : Str} {scope : Scope}
end
end DL
namespace DL
open PySem PySem.Spec PyProof.Rows L2
/-! ### for x in a list that may be changed, but is not, within -/
section
variable {X : Cx} {tg iter : Expr} {body : List Stmt} {en : DEnv} {S : Sto} {Z : Dn} {pos : Pos}
end
end DL
namespace DL
open PySem PySem.Spec PyProof.Rows L2
/-! ### xs[i] += e, of whole numbers in a changed list -/
section
variable {X : Cx} {a b e : Expr} {en : DEnv} {S : Sto} {Z : Dn} {pos tpos : Pos}
end
end DL
namespace DL
open PySem PySem.Spec PyProof.Rows L2
/-! ### pairs of whole numbers in order -/
section
variable {X : Cx} {a b : Expr} {en : DEnv} {S : Sto} {Q : D → Sto → Prop} {P : Bool → Sto → Prop} {pos : Pos}
end
end DL
/-! sorted of a tuple of ints -/
namespace DL
open PySem PySem.Spec PyProof.Rows L2
end DL
/-! repr of an own exception that was made with one text -/
namespace PySem
namespace ExR
open Sem (wp)
open Builtin Builtin.Str Builtin.BaseException Builtin.Exceptions
open PySem.W (Looks Frag findIn subIn clsIn looks_findIn looks_subIn looks_clsIn)
def nmOf (cd : PySem.ClassData) : Str := Str.ofString ((cd.name.toString.cutAt '.').getLastD "")
/-- how such an error is shown -/
def txtOf (cd : PySem.ClassData) (m : Str) : Str := nmOf cd ++ Str.ofString "(" ++ reprText m ++ Str.ofString ")"
section
variable {prog : Program} {w : World} {M : Model} {A : Around} {E : Value → Shared → Prop} {s : Shared} {K : Frag} {C e t0 : Addr} {cd : PySem.ClassData} {m : Str} {tk : Tok}
end
end ExR
end PySem
/-! what any value is shown as: plain data, dicts, own errors, lists and tuples of them -/
namespace DL
open PySem PySem.Spec PyProof.Rows L2
/-! ### how deep a value is -/
mutual
inductive Dpt (h : Heap) : Value → Nat → Prop
  | leaf {v : Value} : (∀ a, v ≠ .ref a) → Dpt h v 0
  | obj {a : Addr} {o : Obj} : h.get? a = some o → (∀ xs n, o.data ≠ .seq xs n) → Dpt h (.ref a) 1
  | seq {a : Addr} {o : Obj} {items : List Value} {n k : Nat} : h.get? a = some o → o.data = .seq items.toArray n → DptL h items k → Dpt h (.ref a) (k + 1)
inductive DptL (h : Heap) : List Value → Nat → Prop
  | nil : DptL h [] 0
  | cons {v : Value} {vs : List Value} {j k : Nat} : Dpt h v j → DptL h vs k → DptL h (v :: vs) (max j k)
end
mutual
theorem Dpt.det {h : Heap} : ∀ {v : Value} {n m : Nat}, Dpt h v n → Dpt h v m → n = m
  | _, _, _, .leaf e, .leaf _ => rfl
  | _, _, _, .leaf e, .obj _ _ => absurd rfl (e _)
  | _, _, _, .leaf e, .seq _ _ _ => absurd rfl (e _)
  | _, _, _, .obj _ _, .leaf e => absurd rfl (e _)
  | _, _, _, .obj _ _, .obj _ _ => rfl
  | _, _, _, .obj e f, .seq e2 f2 _ => by
    rw [e] at e2
    cases e2
    exact absurd f2 (f _ _)
  | _, _, _, .seq _ _ _, .leaf e => absurd rfl (e _)
  | _, _, _, .seq e f _, .obj e2 f2 => by
    rw [e] at e2
    cases e2
    exact absurd f (f2 _ _)
  | _, _, _, .seq (items := i1) e f g, .seq (items := i2) e2 f2 g2 => by
    rw [e] at e2
    cases e2
    rw [f] at f2
    have z : i1 = i2 := by
      have w := congrArg (fun d => match d with | Data.seq xs _ => xs.toList | _ => []) f2
      simpa using w
    subst z
    rw [DptL.det g g2]
theorem DptL.det {h : Heap} : ∀ {vs : List Value} {n m : Nat}, DptL h vs n → DptL h vs m → n = m
  | _, _, _, .nil, .nil => rfl
  | _, _, _, .cons a b, .cons c d => by rw [Dpt.det a c, DptL.det b d]
end
def AsB (h : Heap) (n : Nat) (as : List Addr) : Prop := ∀ b ∈ as, ∃ m, m ≤ n ∧ Dpt h (.ref b) m
theorem AsB.nil {h : Heap} {n : Nat} : AsB h n [] := fun _ z => nomatch z
theorem AsB.up {h : Heap} {n m : Nat} {as : List Addr} (x : AsB h n as) (k : n ≤ m) : AsB h m as := fun b hb => let ⟨j, h1, h2⟩ := x b hb; ⟨j, Nat.le_trans h1 k, h2⟩
theorem AsB.app {h : Heap} {n : Nat} {as bs : List Addr} (x : AsB h n as) (y : AsB h n bs) : AsB h n (as ++ bs) := fun b hb => (List.mem_append.mp hb).elim (x b) (y b)
theorem AsB.notIn {h : Heap} {n : Nat} {as : List Addr} {a : Addr} (x : AsB h n as) (d : Dpt h (.ref a) (n + 1)) : a ∉ as := fun hm => by
  obtain ⟨m, h1, h2⟩ := x a hm
  have := Dpt.det d h2
  omega
/-- u is shown as t -/
def Sh (P : Program) (w : World) (h : Heap) (u : Value) (t : Str) (n : Nat) : Prop := ∃ as, Dpt h u n ∧ AsB h n as ∧ ReprK P w as h n u t
def ShL (P : Program) (w : World) (h : Heap) (us : List Value) (ts : List Str) (n : Nat) : Prop := ∃ as, DptL h us n ∧ AsB h n as ∧ ReprAllK P w as h n us ts
section
variable {P : Program} {w : World} {h : Heap} {u : Value} {us : List Value} {t : Str} {ts : List Str} {n j k : Nat} {a : Addr} {o : Obj} {na : Nat}
theorem ShL.nil : ShL P w h [] [] 0 := ⟨[], .nil, .nil, .nil⟩
theorem ShL.cons (x : Sh P w h u t j) (y : ShL P w h us ts k) : ShL P w h (u :: us) (t :: ts) (max j k) := by
  obtain ⟨as, d1, b1, r1⟩ := x
  obtain ⟨bs, d2, b2, r2⟩ := y
  exact ⟨as ++ bs, .cons d1 d2, (b1.up (Nat.le_max_left _ _)).app (b2.up (Nat.le_max_right _ _)),
    .cons ((r1.more fun b hb => List.mem_append_left _ hb).level_le (Nat.le_max_left _ _)) (r2.more_le (fun b hb => List.mem_append_right _ hb) (Nat.le_max_right _ _))⟩
theorem Sh.lst (x : ShL P w h us ts n) (ho : h.get? a = some o) (hc : o.cls = .type "list") (hd : o.data = .seq us.toArray na) : Sh P w h (.ref a) (listText ts) (n + 1) := by
  obtain ⟨as, d, b, r⟩ := x
  have D : Dpt h (.ref a) (n + 1) := .seq ho hd d
  refine ⟨a :: as, D, fun c hc2 => ?_, ?_⟩
  · rcases List.mem_cons.mp hc2 with e | e
    · rw [e]
      exact ⟨_, Nat.le_refl _, D⟩
    · exact (b.up (Nat.le_succ _)) c e
  · cases us with
    | nil =>
      cases r
      rw [listText_nil]
      exact ReprK.listEmpty ho hc hd
    | cons x l => exact ReprK.list ho hc hd (b.notIn D) (by simpa using r.length_eq) (fun i y e => r.item i y (by simpa using e))
theorem Sh.tup (x : ShL P w h us ts n) (ho : h.get? a = some o) (hc : o.cls = .type "tuple") (hd : o.data = .seq us.toArray na) : Sh P w h (.ref a) (tupleText ts) (n + 1) := by
  obtain ⟨as, d, b, r⟩ := x
  have D : Dpt h (.ref a) (n + 1) := .seq ho hd d
  refine ⟨a :: as, D, fun c hc2 => ?_, ReprK.tuple ho hc hd (b.notIn D) r⟩
  rcases List.mem_cons.mp hc2 with e | e
  · rw [e]
    exact ⟨_, Nat.le_refl _, D⟩
  · exact (b.up (Nat.le_succ _)) c e
end

/-! ### data that is shown -/
section
variable {P : Program} {w : World} {K : PySem.W.Frag}
end
section
variable {X : Cx} {pins : List (Addr × Obj)} {σ : L2.St} {H Hd : Hp} {s : Shared}
end
end DL
/-! dicts of ints, own errors as values: their text, their kind; repr and isinstance of any value -/
namespace DL
open PySem PySem.Spec PyProof.Rows L2
/-- a dict of ints -/
def dicD (kvs : List (Key × Int)) : D := .ext fun H v => ∃ a, v = .ref a ∧ H a = some (.dK (kvs.map fun p => (p.1, V.int p.2)))
section
variable {P : Program} {w : World} {h : Heap}
end
theorem dic_at {X : Cx} {pins : List (Addr × Obj)} {σ : L2.St} {H Hd : Hp} {s : Shared} {kvs : List (Key × Int)} {v : V} {u : Value} (I : Inv X pins σ H s) (e : Same Hd H) (q : ∃ a, v = .ref a ∧ Hd a = some (.dK (kvs.map fun p => (p.1, V.int p.2)))) (r : RelV v u) :
    ∃ (a : Addr) (o : Obj) (es : Array DictEntry) (ep : Nat) (vs : List (Key × Value)), u = .ref a ∧ s.heap.get? a = some o ∧ o.cls = .type "dict" ∧ o.data = .dict es ep ∧ (a == sysModules) = false ∧ KV (kvs.map fun p => (p.1, V.int p.2)) vs ∧ Pairs (mixKind X.prog X.w) es.toList vs := by
  obtain ⟨a, rfl, ha⟩ := q
  have r : u = .ref a := r
  subst r
  obtain ⟨_, sy, vs, kv, o, es, ep, ho, hx, hd, _, hp, _⟩ := I.hok a _ (e _ _ ha)
  exact ⟨a, o, es, ep, vs, rfl, ho, hx.1, hd, sy, kv, hp⟩
/-! ### own errors as values -/
/-- what is asked of the class -/
structure ExcK (K : PySem.W.Frag) (C : Addr) (cd : PySem.ClassData) : Prop where
  cls : PySem.W.clsIn K C = some cd
  exC : PySem.W.subIn K (.ref C) (.type "BaseException") = some true
  rp : PySem.W.findIn K (.ref C) "__repr__" = some (some (.builtin "BaseException.__repr__"))
  nm : (PySem.ExR.nmOf cd).length ≤ 100
theorem ExcK.len {K : PySem.W.Frag} {C : Addr} {cd : PySem.ClassData} (T : ExcK K C cd) (m : Str) : (PySem.ExR.txtOf cd m).length ≤ (reprText m).length + 102 := by
  unfold PySem.ExR.txtOf
  have p1 : (Str.ofString "(").length = 1 := by rw [PySem.ofString_length] <;> rfl
  have p2 : (Str.ofString ")").length = 1 := by rw [PySem.ofString_length] <;> rfl
  rw [strLen_append, strLen_append, strLen_append, p1, p2]
  have := T.nm
  omega
/-! ### repr of any value that is shown -/
/-! ### isinstance of any value -/
/-- what stands behind an ext is of the kind t -/
def KTy (K : PySem.W.Frag) (Q : Hp → V → Prop) (t : Value) : Prop := ∀ {X : Cx} {pins : List (Addr × Obj)} {σ : L2.St} {H Hd : Hp} {s : Shared} {v : V} {u : Value}, X.K = K → Inv X pins σ H s → Same Hd H → Q Hd v → RelV v u →
  ∃ Pp : Heap → Prop, PySem.W.KitX K u t Pp ∧ Pp s.heap ∧ u ≠ .builtin "__main__.__loader__#opaque"
def TyV (K : PySem.W.Frag) : D → Value → Prop
  | .ext Q, t => KTy K Q t
  | .scr _, _ => False
  | d, t => ∃ n, tyD d = some n ∧ t = .type n
theorem kit_v {X : Cx} {pins : List (Addr × Obj)} {σ : L2.St} {H Hd : Hp} {s : Shared} {d : D} {t : Value} {v : V} {u : Value} (I : Inv X pins σ H s) (e : Same Hd H) (T : TyV X.K d t) (r : Rp X.K Hd d v) (q : RelV v u) :
    ∃ Pp : Heap → Prop, PySem.W.KitX X.K u t Pp ∧ Pp s.heap ∧ u ≠ .builtin "__main__.__loader__#opaque" := by
  have pl : ∀ n, tyD d = some n → t = .type n → (∀ l, d ≠ .scr l) → ∃ Pp : Heap → Prop, PySem.W.KitX X.K u t Pp ∧ Pp s.heap ∧ u ≠ .builtin "__main__.__loader__#opaque" := fun n h1 h2 h3 => by
    subst h2
    exact kit_of I q (tyX_of h1 (Rp.mono e d v r) h3)
  cases d with
  | ext Q =>
    obtain ⟨H0, e0, r⟩ := r
    exact T rfl I (e0.trans e) r q
  | scr l => exact T.elim
  | raw x => obtain ⟨n, h1, h2⟩ := T; cases h1
  | non => obtain ⟨n, h1, h2⟩ := T; exact pl n h1 h2 (fun _ z => nomatch z)
  | bl b => obtain ⟨n, h1, h2⟩ := T; exact pl n h1 h2 (fun _ z => nomatch z)
  | int b => obtain ⟨n, h1, h2⟩ := T; exact pl n h1 h2 (fun _ z => nomatch z)
  | str b => obtain ⟨n, h1, h2⟩ := T; exact pl n h1 h2 (fun _ z => nomatch z)
  | tup b => obtain ⟨n, h1, h2⟩ := T; exact pl n h1 h2 (fun _ z => nomatch z)
  | lst b => obtain ⟨n, h1, h2⟩ := T; exact pl n h1 h2 (fun _ z => nomatch z)
def rIsiD (K : PySem.W.Frag) : List V → Hp → VK → Prop := fun vs H Q => ∃ (v c : V) (d : D) (t u : Value) (b : Bool) (Hd : Hp), vs = [v, c] ∧ Same Hd H ∧ Rp K Hd d v ∧ TyV K d t ∧ ClsV c u ∧ PySem.W.kitOne K t u = some b ∧ Q (.bl b) H
theorem call_isi_D {X : Cx} : CallR X (.builtin "isinstance") (rIsiD X.K) := by
  intro pins s σ H vs us Q I r h
  obtain ⟨v, c, d, t, u, b, Hd, rfl, e, rd, T, k, kb, q⟩ := h
  obtain ⟨u1, u2, rfl, r1, r2⟩ := vals2 r
  have e2 := k.eq r2
  subst e2
  obtain ⟨Pp, Z, p, hx⟩ := kit_v I e T rd r1
  exact PySem.W.kia_one Z I.kIn p kb hx fun tk => ⟨.bl b, H, I.tok tk, rfl, q⟩
theorem drc_isiD {K : PySem.W.Frag} {d : D} {t : Value} {T : String} {b : Bool} {S : Sto} {Q : D → Sto → Prop} (ht : TyV K d t) (hk : PySem.W.kitOne K t (.type T) = some b) (q : Q (.bl b) S) : DRC K (rIsiD K) [d, .raw (.ty T)] S Q := fun H Hd vs Qv st rr k => by
  obtain ⟨v, w', e1, rv, rw'⟩ := two_rp rr
  have rw' : w' = V.ty T := rw'
  subst e1 rw'
  exact ⟨v, .ty T, d, t, .type T, b, Hd, rfl, st.sub, rv, ht, .ty T, hk, k _ _ (.here (d := .bl b) st rfl q)⟩
theorem kty_dic {K : PySem.W.Frag} {kvs : List (Key × Int)} : KTy K (fun H v => ∃ a, v = .ref a ∧ H a = some (.dK (kvs.map fun p => (p.1, V.int p.2)))) (.type "dict") := fun {X pins σ H Hd s v u} eK I e q r => by
  subst eK
  obtain ⟨a, o, es, ep, vs, rfl, ho, hc, _⟩ := dic_at I e q r
  exact ⟨_, PySem.W.kitx_dict, ⟨o, ho, hc⟩, fun z => nomatch z⟩
end DL
/-! dicts and own errors made; defs as values, called -/
namespace DL
open PySem PySem.Spec PyProof.Rows L2
section
variable {X : Cx} {a b c e fe : Expr} {es : List Expr} {en : DEnv} {S : Sto} {Q : D → Sto → Prop} {R : RX} {pos p p2 p3 : Pos} {j j2 : Nat}
theorem de_dic0 (q : Q (dicD []) S) : DE X (.Dict [] [] pos) en S Q := ⟨fun σ H Hd st re => by
  refine wE_of pe_dnewK ?_
  intro p hp
  obtain ⟨e1, st1⟩ := st.laid (o := .dK []) hp
  exact ⟨dicD [], S, _, e1, st1, ⟨_, Same.refl _, p, rfl, upd_same⟩, q⟩⟩
/-! ### an own error made, held as a value -/
/-! ### defs as values -/
theorem GOkX.mono {P : Program} {w : World} {K : PySem.W.Frag} {mg : Str → Option Value} {base : Heap} {k k2 : Nat} {f : Addr} {fd : FuncData} {ps : List Str} {C C2 : ConX} (G : GOkX P w K mg base k f fd ps (spDX K C)) (hk : k ≤ k2) (wk : ∀ ds S Q R, C2 ds S Q R → C ds S Q R) : GOkX P w K mg base k2 f fd ps (spDX K C2) :=
  ⟨fun vs H Q E ⟨ds, S, Hd, Qd, Rd, z1, z2, z3, z4⟩ => G.len vs H Q E ⟨ds, S, Hd, Qd, Rd, z1, z2, wk _ _ _ _ z3, z4⟩,
   fun A fr s H ar us vs Q E gd hr e0 hb r ⟨ds, S, Hd, Qd, Rd, z1, z2, z3, z4⟩ => G.run A fr s H ar us vs Q E gd (hr.mono hk) e0 hb r ⟨ds, S, Hd, Qd, Rd, z1, z2, wk _ _ _ _ z3, z4⟩⟩
/-- a def that raises nothing, as one that may -/
theorem GOk.x {P : Program} {w : World} {K : PySem.W.Frag} {mg : Str → Option Value} {base : Heap} {k : Nat} {f : Addr} {fd : FuncData} {ps : List Str} {C : Con} (G : GOk P w K mg base k f fd ps (spD K C)) : GOkX P w K mg base k f fd ps (spDX K fun ds S Q _ => C ds S Q) :=
  ⟨fun vs H Q E ⟨ds, S, Hd, Qd, Rd, z1, z2, z3, z4⟩ => G.len vs H Q E ⟨ds, S, Hd, Qd, z1, z2, z3, z4.1⟩,
   fun A fr s H ar us vs Q E gd hr e0 hb r ⟨ds, S, Hd, Qd, Rd, z1, z2, z3, z4⟩ => codeAny_mono (G.run A fr s H ar us vs Q E gd hr e0 hb r ⟨ds, S, Hd, Qd, z1, z2, z3, z4.1⟩) fun res s' q => by
     cases res with
     | error e => exact q.elim
     | ok fl =>
       cases fl with
       | ret u => exact q
       | next => exact q
       | brk => exact q
       | cont => exact q⟩
theorem Cal.x {P : Program} {w : World} {K : PySem.W.Frag} {mg : Str → Option Value} {base : Heap} {k : Nat} {x : Str} {ps : List Str} {kws : List (Nat × List Str)} {C : Con} (c : Cal P w K mg base k x ps kws C) : CalX P w K mg base k x ps kws (fun ds S Q _ => C ds S Q) := by
  obtain ⟨f, fd, G, h⟩ := c.ex
  exact ⟨f, fd, G.x, h⟩
end
end DL
/-! defs that a caught error is handed to, within the except suite -/
namespace L2H
open PySem PySem.Spec PyProof.Rows L2 HotX
theorem RoomH.units {k : Nat} {A : Around} (r : RoomH k A) : A.units + 64 < cLine := by have := r.un; omega
end L2H
namespace DL
open PySem PySem.Spec PyProof.Rows L2
section
variable {P : Program} {w : World} {K : PySem.W.Frag} {mg : Str → Option Value} {base : Heap}
abbrev ConE := Addr × Obj → Con
end
section
variable {X : Cx} {a : Addr} {oe : Obj} {pn : List (Addr × Obj)} {e : Expr} {es : List Expr} {en : DEnv} {S : Sto} {Q : D → Sto → Prop} {pos p p2 : Pos} {k : Nat} {x : Str} {ps : List Str} {C : ConE}
/-! ### what such a def asks of the error -/
theorem exc_dict {K : PySem.W.Frag} {H : Hp} {x : XD} {cls : Value} {d : Option Addr} (r : XR K H x cls d) : ∀ d0, d = some d0 → ∃ fs, H d0 = some (.xd fs) := fun d0 e => by
  obtain ⟨_, r⟩ := r
  obtain ⟨c, fl⟩ := x
  cases fl with
  | none =>
    have r : d = none := r
    rw [r] at e
    cases e
  | some t =>
    obtain ⟨dd, v, e1, e2, _⟩ := r
    rw [e1] at e
    cases e
    exact ⟨_, e2⟩
theorem inst_pin {K : PySem.W.Frag} {prog : Program} {w : World} {H : Hp} {h : Heap} {C : Addr} {d : Option Addr} (ha : h.get? a = some oe) (hz : Zc (.ref C) d oe) (hf : ∃ vs, oe.data = .fields vs) (hk : HOk prog w H h) (hd : ∀ d0, d = some d0 → ∃ fs, H d0 = some (.xd fs)) :
    ∃ od, PySem.W.InstAt h a oe C od := by
  obtain ⟨vs, hf⟩ := hf
  have no : PySem.W.notCls oe = true := by unfold PySem.W.notCls; rw [hf]
  cases d with
  | none => exact ⟨none, ha, hz.1, no, by rw [hz.2]; trivial⟩
  | some d0 =>
    obtain ⟨fs, e⟩ := hd d0 rfl
    obtain ⟨mA, ⟨od, es, ep, ho, _⟩, _⟩ := hk d0 _ e
    exact ⟨some od, ha, hz.1, no, by rw [hz.2]; exact ho⟩
def rIsP (K : PySem.W.Frag) (C a : Addr) (d : Option Addr) : List V → Hp → VK → Prop := fun vs H Q => ∃ (c : V) (u : Value) (b : Bool), vs = [.ref a, c] ∧ (∀ d0, d = some d0 → ∃ fs, H d0 = some (.xd fs)) ∧ ClsV c u ∧ PySem.W.kitOne K (.ref C) u = some b ∧ Q (.bl b) H
theorem exc_kit {K : PySem.W.Frag} {C : Addr} (T : L2.ExcC K C) {od : Option Obj} : PySem.W.KitX K (.ref a) (.ref C) (fun h => PySem.W.InstAt h a oe C od) := by
  refine PySem.W.kitx_exc ?_ T.hg T.hk T.hs T.ha T.hn T.ht T.hm
  obtain ⟨cd, hc, _⟩ := PySem.W.any_some T.hd
  rw [hc] <;> rfl
theorem call_isP {C : Addr} {d : Option Addr} (T : L2.ExcC X.K C) (hp : (a, oe) ∈ X.pn) (hz : Zc (.ref C) d oe) (hf : ∃ vs, oe.data = .fields vs) : CallR X (.builtin "isinstance") (rIsP X.K C a d) := by
  intro pins s σ H vs us Q I r h
  obtain ⟨c, u, b, rfl, hd, k, kb, q⟩ := h
  obtain ⟨u1, u2, rfl, r1, r2⟩ := vals2 r
  have r1 : u1 = .ref a := r1
  subst r1
  have e2 := k.eq r2
  subst e2
  obtain ⟨od, J⟩ := inst_pin (K := X.K) (I.pin (a, oe) (List.mem_append_left _ hp)).1 hz hf I.hok hd
  exact PySem.W.kia_one (exc_kit T) I.kIn J kb (fun z => nomatch z) fun tk => ⟨.bl b, H, I.tok tk, rfl, q⟩
theorem drc_isP {K : PySem.W.Frag} {C : Addr} {d : Option Addr} {y : XD} {c : V} {u : Value} {b : Bool} (k : ClsV c u) (hk : PySem.W.kitOne K (.ref C) u = some b) (q : Q (.bl b) S) : DRC K (rIsP K C a d) [excD K a d y, .raw c] S Q := fun H Hd vs Qv st rr kq => by
  obtain ⟨v, w', e1, ⟨H0, s0, ev, xr⟩, rw'⟩ := two_rp rr
  have rw' : w' = c := rw'
  subst e1 rw' ev
  exact ⟨_, u, b, rfl, fun d0 z => (exc_dict xr d0 z).imp fun fs hfs => st.sub _ _ (s0 _ _ hfs), k, hk, kq _ _ (.here (d := .bl b) st rfl q)⟩
end
/-! ### xs.index(e) -/
section
variable {X : Cx} {e : Expr} {en : DEnv} {S : Sto}
end
end DL
/-! what may raise, within expressions -/
namespace DL
open PySem PySem.Spec PyProof.Rows L2
section
variable {X : Cx} {a b c e tg : Expr} {es : List Expr} {st : Stmt} {sts rest : List Stmt} {en : DEnv} {S : Sto} {Z : Dn} {Q : D → Sto → Prop} {R : RX} {QL : List D → Sto → Prop} {pos p cpos : Pos} {k : Nat} {x : Str} {ps : List Str} {kws : List (Nat × List Str)} {C : Con} {j2 : Nat}
end
/-! ### repr of any value that is shown -/
/-! ### parts that may raise -/
section
variable {X : Cx} {a b c e tg iter : Expr} {es : List Expr} {st : Stmt} {sts rest body : List Stmt} {en : DEnv} {S : Sto} {Z : Dn} {Q : D → Sto → Prop} {R : RX} {QL : List D → Sto → Prop} {pos p cpos p2 : Pos} {k : Nat} {x : Str} {ps : List Str} {kws : List (Nat × List Str)} {C : Con} {j2 : Nat} {P : Bool → Sto → Prop}
/-! ### tests -/
/-! ### loops -/
variable {RI : List D → Sto → Prop}
end
end DL
/-! texts repeated; a text read as a number, a number written as a text -/
namespace DL
open PySem PySem.Spec PyProof.Rows L2
/-- x, n times -/
def repS (x : Str) (n : Int) : Str := ⟨(List.replicate n.toNat x.cps).foldl (· ++ ·) #[]⟩
theorem rep_size (a : Array Nat) : ∀ (k : Nat) (b : Array Nat), ((List.replicate k a).foldl (· ++ ·) b).size = b.size + a.size * k
  | 0, b => by simp
  | k + 1, b => by
    rw [List.replicate_succ, List.foldl_cons, rep_size a k, Array.size_append, Nat.mul_succ]
    omega
theorem rep_len (x : Str) (k : Nat) : (⟨(List.replicate k x.cps).foldl (· ++ ·) #[]⟩ : Str).length = x.length * k := by
  show ((List.replicate k x.cps).foldl (· ++ ·) #[]).size = x.cps.size * k
  rw [rep_size]
  show 0 + _ = _
  omega
theorem op_mulS {X : Cx} : OpR X (binaryOp .Mult) (fun x y H Q => ∃ (i : Str) (n : Int), x = .str i ∧ y = .int n ∧ (2 ≤ n ∧ n ≤ 100000 ∧ 0 < i.length ∧ i.length * n.toNat ≤ 100000) ∧ Q (.str (repS i n)) H) := by
  intro pins s σ H x y v u Q I rx ry h
  obtain ⟨i, n, rfl, rfl, ⟨h1, h2, h3, h4⟩, q⟩ := h
  obtain ⟨t, rfl⟩ := rx
  obtain ⟨t', rfl⟩ := ry
  have e1 : (n == 1 || i.length == 0) = false := by
    rw [Bool.or_eq_false_iff]
    refine ⟨?_, ?_⟩
    · exact beq_eq_false_iff_ne.mpr (by omega)
    · exact beq_eq_false_iff_ne.mpr (by omega)
  refine PySem.P.mul_str ?_ (fun _ _ z => ?_) (fun _ _ => ?_) ?_
  · rw [decide_eq_false (show ¬ n < -(2 ^ 63 : Int) from fun z => absurd (Int.lt_trans z (by decide : -(2 ^ 63 : Int) < 0)) (by omega)), decide_eq_false (show ¬ n ≥ 2 ^ 63 from fun z => absurd (Int.lt_of_lt_of_le (by decide : (100000 : Int) < 2 ^ 63) z) (by omega))]
    rfl
  · have e : n = (n.toNat : Int) := by omega
    have h5 : (i.length : Int) * n ≤ 2 ^ 63 - 1 := by
      rw [e, ← Int.natCast_mul]
      exact Int.le_trans (Int.ofNat_le.mpr h4) (by decide)
    have h6 := Int.le_ediv_of_mul_le (by omega) h5
    exact absurd z (Int.not_lt.mpr h6)
  · show decide (_ > sizeLine) = false
    exact decide_eq_false (by rw [sizeLine_eq]; omega)
  · rw [if_neg (by omega), if_neg (by rw [e1]; decide)]
    refine ⟨?_, ?_⟩
    · exact Nat.le_trans (Nat.le_of_eq (rep_len i n.toNat)) (Nat.le_trans h4 (by rw [sizeLine_eq]; decide))
    · exact ⟨.str (repS i n), H, I.tok _, ⟨_, rfl⟩, q⟩
section
variable {X : Cx} {a b : Expr} {en : DEnv} {S : Sto} {Q : D → Sto → Prop} {pos : Pos} {K : PySem.W.Frag}
/-- "x" * n -/
theorem de_mulS (h : DE X a en S fun x S1 => DE X b en S1 fun y S2 => ∃ (i : Str) (n : Int), x = .str i ∧ y = .int n ∧ (2 ≤ n ∧ n ≤ 100000 ∧ 0 < i.length ∧ i.length * n.toNat ≤ 100000) ∧ Q (.str (repS i n)) S2) : DE X (.BinOp a .Mult b pos) en S Q := by
  refine de_op op_mulS (h.mono fun x S1 h1 => h1.mono fun y S2 ⟨i, n, e1, e2, hh, q⟩ => ?_)
  intro H Hd vx vy Qv st rx ry k
  subst e1 e2
  exact ⟨i, n, rx, ry, hh, k _ _ (.here (d := .str _) st rfl q)⟩
/-- int("..") -/
def rIntS : List V → Hp → VK → Prop := fun vs H Q => ∃ (x : Str) (n : Int), vs = [.str x] ∧ PySem.intText? x = some n ∧ x.length ≤ 640 ∧ Q (.int n) H
theorem call_intS {X : Cx} : CallR X (.type "int") rIntS := by
  intro pins s σ H xs us Q I r h
  obtain ⟨x, n, rfl, hn, hl, q⟩ := h
  obtain ⟨u, rfl, r1⟩ := r.one
  obtain ⟨t1, rfl⟩ := r1
  exact PySem.W.KIN.call_text hn hl ⟨.int n, H, I.tok _, ⟨_, rfl⟩, q⟩
theorem drc_intS {x : Str} {n : Int} (h : PySem.intText? x = some n) (hl : x.length ≤ 640) (q : Q (.int n) S) : DRC K rIntS [.str x] S Q := fun H Hd vs Qv st rr k => by
  obtain ⟨v, e1, rv⟩ := one_rp rr
  have rv : v = V.str x := rv
  subst e1 rv
  exact ⟨x, n, rfl, h, hl, k _ _ (.here (d := .int _) st rfl q)⟩
end
end DL
/-! a list that may be changed, lent to a call that reads it; shifts -/
namespace DL
open PySem PySem.Spec PyProof.Rows L2
/-! ### data without lists -/
mutual
def noL : D → Bool
  | .non => true
  | .bl _ => true
  | .int _ => true
  | .str _ => true
  | .raw _ => true
  | .tup l => noLL l
  | .lst _ => false
  | .ext _ => false
  | .scr _ => false
def noLL : List D → Bool
  | [] => true
  | d :: ds => noL d && noLL ds
end
def noS (S : Sto) : Prop := ∀ p l, getS p S = some l → noLL l = true
section
variable {K : PySem.W.Frag} {H : Hp} {p : Addr} {xs : List V}
end
section
variable {X : Cx} {a b e : Expr} {en : DEnv} {S : Sto} {Q : D → Sto → Prop} {pos : Pos}
end
theorem noS_nil : noS [] := fun _ _ h => nomatch h
theorem noS_cons {p : Addr} {l : List D} {S : Sto} (h : noLL l = true) (k : noS S) : noS ((p, l) :: S) := fun q m hq => by
  by_cases e : p = q
  · subst e
    rw [getS_hd] at hq
    cases hq
    exact h
  · rw [getS_tl e] at hq
    exact k q m hq
end DL
namespace DL
open PySem PySem.Spec PyProof.Rows L2
section
variable {X : Cx} {a b : Expr} {en : DEnv} {S : Sto} {Q : D → Sto → Prop} {P : Bool → Sto → Prop} {pos : Pos}
theorem dr_isB {K : PySem.W.Frag} {x y : D} (h : ∃ p q : Bool, x = .bl p ∧ y = .bl q ∧ Q (.bl (decide (p = q))) S) : DR2 K (fun x y H Q => ∃ a b, x = V.bl a ∧ y = V.bl b ∧ Q (.bl (decide (a = b))) H) x y S Q := by
  intro H Hd vx vy Qv st rx ry k
  obtain ⟨p, q, rfl, rfl, qq⟩ := h
  exact ⟨p, q, rx, ry, k _ _ (.here (d := .bl _) st rfl qq)⟩
theorem de_isB (h : DE X a en S fun x S1 => DE X b en S1 fun y S2 => ∃ p q : Bool, x = .bl p ∧ y = .bl q ∧ Q (.bl (decide (p = q))) S2) (hm : behindInMarks .Is b = false := by rfl) : DE X (.Compare a [.Is] [b] pos) en S Q :=
  de_cmpR op_is_bl hm (h.mono fun _ _ h1 => h1.mono fun _ _ h2 => dr_isB h2)
end
end DL
namespace Tp
open PySem PySem.Spec PyProof.Rows L2 DL
/-! ### the mathematics of turns -/
theorem sq_nn (q : Int) : 0 ≤ q * q := by
  rcases Int.le_total 0 q with h | h
  · exact Int.mul_nonneg h h
  · exact Int.mul_nonneg_of_nonpos_of_nonpos h h
def rtX (k : Nat) (x y : Int) : Int := match k with | 0 => x | 1 => -y | 2 => -x | _ => y
def rtY (k : Nat) (x y : Int) : Int := match k with | 0 => y | 1 => x | 2 => -y | _ => -x
def cc (p q : Int) : Int := p * p + q * q
@[irreducible] def lgA (p q k : Int) : Int := rtX k.toNat (p * p - q * q) (p * q + q * p)
@[irreducible] def lgB (p q k : Int) : Int := rtY k.toNat (p * p - q * q) (p * q + q * p)
@[irreducible] def exX (p q k x y : Int) : Int := lgA p q k * x - lgB p q k * y
@[irreducible] def exY (p q k x y : Int) : Int := lgA p q k * y + lgB p q k * x
@[irreducible] def nrr (n d : Int) : Int := (2 * n + d) / (2 * d)
@[irreducible] def imX (p q k x y : Int) : Int := nrr (exX p q k x y) (cc p q)
@[irreducible] def imY (p q k x y : Int) : Int := nrr (exY p q k x y) (cc p q)
theorem Bd.rtX {a b : Nat} {x y : Int} (k : Nat) (h : Bd a x) (g : Bd b y) : Bd (max a b) (rtX k x y) := by
  have h1 := h.up (Nat.le_max_left a b)
  have g1 := g.up (Nat.le_max_right a b)
  unfold Tp.rtX
  split
  · exact h1
  · exact g1.neg
  · exact h1.neg
  · exact g1
theorem Bd.rtY {a b : Nat} {x y : Int} (k : Nat) (h : Bd a x) (g : Bd b y) : Bd (max a b) (rtY k x y) := by
  have h1 := h.up (Nat.le_max_left a b)
  have g1 := g.up (Nat.le_max_right a b)
  unfold Tp.rtY
  split
  · exact g1
  · exact h1
  · exact g1.neg
  · exact h1.neg
theorem Bd.cc {p q : Int} (h : Bd 50 p) (g : Bd 50 q) : Bd 101 (cc p q) := (h.mul h).add (g.mul g)
theorem Bd.lgA {p q : Int} (k : Int) (h : Bd 50 p) (g : Bd 50 q) : Bd 101 (lgA p q k) := by unfold Tp.lgA; exact (Bd.rtX _ ((h.mul h).sub (g.mul g)) ((h.mul g).add (g.mul h))).up (by decide)
theorem Bd.lgB {p q : Int} (k : Int) (h : Bd 50 p) (g : Bd 50 q) : Bd 101 (lgB p q k) := by unfold Tp.lgB; exact (Bd.rtY _ ((h.mul h).sub (g.mul g)) ((h.mul g).add (g.mul h))).up (by decide)
theorem Bd.exX {p q x y : Int} {n : Nat} (k : Int) (h : Bd 50 p) (g : Bd 50 q) (hx : Bd n x) (hy : Bd n y) : Bd (102 + n) (exX p q k x y) := by unfold Tp.exX; exact (((Bd.lgA k h g).mul hx).sub ((Bd.lgB k h g).mul hy)).up (by omega)
theorem Bd.exY {p q x y : Int} {n : Nat} (k : Int) (h : Bd 50 p) (g : Bd 50 q) (hx : Bd n x) (hy : Bd n y) : Bd (102 + n) (exY p q k x y) := by unfold Tp.exY; exact (((Bd.lgA k h g).mul hy).add ((Bd.lgB k h g).mul hx)).up (by omega)
theorem Bd.nrr {n d : Int} {a b : Nat} (h : Bd a n) (g : Bd b d) : Bd (max (2 + a) b + 1) (nrr n d) := by unfold Tp.nrr; exact (((Bd.lit 2).mul h).add g).div
theorem Bd.imX {p q x y : Int} {n : Nat} (k : Int) (h : Bd 50 p) (g : Bd 50 q) (hx : Bd n x) (hy : Bd n y) : Bd (105 + n) (imX p q k x y) := by unfold Tp.imX; exact (Bd.nrr (Bd.exX k h g hx hy) (Bd.cc h g)).up (by omega)
theorem Bd.imY {p q x y : Int} {n : Nat} (k : Int) (h : Bd 50 p) (g : Bd 50 q) (hx : Bd n x) (hy : Bd n y) : Bd (105 + n) (imY p q k x y) := by unfold Tp.imY; exact (Bd.nrr (Bd.exY k h g hx hy) (Bd.cc h g)).up (by omega)
theorem cc_pos {p q k : Int} (h : Tn p q k) : 0 < cc p q := by
  have h1 := h.p1
  have h2 : 0 < p * p := Int.mul_pos (by omega) (by omega)
  have h3 : 0 ≤ q * q := sq_nn q
  unfold cc
  omega
/-! ### what the program's defs promise of turns, pixels -/
def con_check_pixel : Con := fun ds S Q => ∃ x y : Int, ds = [.tup [.int x, .int y]] ∧ Q .non S
/-! ### what the laws' helpers do -/
theorem src_mk {a b : Int} (h : 0 ≤ a) (hb : 0 ≤ b ∧ Bd 200 b) : Src 0 [.int a, .int b, .int 0] := ⟨a, b, 0, rfl, h, hb.2, ⟨Int.le_refl 0, Int.le_refl 0⟩, hb.1⟩
theorem src_a (g m : Int) : 0 ≤ (if g - m > 0 then g - m else 0) := by split <;> omega
theorem src_b (g k : Int) (c : Bool) (hk : 0 ≤ k ∧ k ≤ 100) : 0 ≤ g % (10 ^ (Int.toNat 44) + 31) * 97 + 2 * k + (if c = true then 1 else 0) ∧ Bd 200 (g % (10 ^ (Int.toNat 44) + 31) * 97 + 2 * k + (if c = true then 1 else 0)) := by
  have e : (10 : Int) ^ (Int.toNat 44) + 31 = 100000000000000000000000000000000000000000031 := by decide +kernel
  rw [e]
  have h1 := Int.emod_nonneg g (show (100000000000000000000000000000000000000000031 : Int) ≠ 0 by decide)
  have h2 := Int.emod_lt_of_pos g (show (0 : Int) < 100000000000000000000000000000000000000000031 by decide)
  generalize g % 100000000000000000000000000000000000000000031 = r at *
  unfold Bd
  split <;> omega
theorem src_div {a b c n : Int} {m : Nat} (ha : 0 ≤ a) (hb : Bd 200 b) (hc : 0 ≤ c ∧ c ≤ (m : Int)) (hb0 : 0 ≤ b) (hn : 0 < n) : Src (m + 1) [.int (a / n), .int b, .int c] :=
  ⟨_, _, _, rfl, Int.ediv_nonneg ha (by omega), hb, ⟨hc.1, by omega⟩, hb0⟩
theorem src_next {a b c : Int} {m : Nat} (ha : 0 ≤ a) (hb : Bd 200 b) (hc : 0 ≤ c ∧ c ≤ (m : Int)) (hb0 : 0 ≤ b) : Src (m + 1) [.int a, .int b, .int (c + 1)] :=
  ⟨_, _, _, rfl, ha, hb, ⟨by omega, by omega⟩, hb0⟩
theorem pickL {l : List D} {i : Int} {P : D → Prop} (h : ∀ x ∈ l, P x) (h0 : 0 ≤ i) (h1 : i < (l.length : Int)) : ∃ x, atI l i = some x ∧ P x := by
  obtain ⟨j, rfl⟩ : ∃ j : Nat, i = (j : Int) := ⟨i.toNat, by omega⟩
  have hj : j < l.length := by omega
  exact ⟨l[j], atI_nat (List.getElem?_eq_getElem hj), h _ (List.getElem_mem hj)⟩
theorem ix_pick {l : List D} {i : Int} {S : Sto} {Q : D → Sto → Prop} (P : D → Prop) (h : ∀ x ∈ l, P x) (h0 : 0 ≤ i) (h1 : i < (l.length : Int)) (k : ∀ x, P x → Q x S) : ixP (.lst l) (.int i) S Q := by
  obtain ⟨x, e, px⟩ := pickL h h0 h1
  exact ⟨x, e, k x px⟩
theorem fa_nil {P : D → Prop} : ∀ x ∈ ([] : List D), P x := fun _ h => nomatch h
theorem fa_cons {P : D → Prop} {a : D} {l : List D} (h : P a) (k : ∀ x ∈ l, P x) : ∀ x ∈ a :: l, P x := fun x hx => by
  rcases List.mem_cons.mp hx with e | e
  · rw [e]
    exact h
  · exact k x e
theorem Bd.ite {a b : Nat} {c : Prop} [Decidable c] {x y : Int} (h : Bd a x) (k : Bd b y) : Bd (max a b) (if c then x else y) := by
  split
  · exact h.up (Nat.le_max_left _ _)
  · exact k.up (Nat.le_max_right _ _)
theorem setS_self {p : Addr} {l : List D} : ∀ {S : Sto}, getS p S = some l → setS p l S = S
  | [], h => by cases h
  | (q, m) :: S, h => by
    by_cases e : q = p
    · subst e
      rw [getS_hd] at h
      cases h
      rw [setS_hd]
    · rw [getS_tl e] at h
      rw [setS_tl e, setS_self h]

theorem eq_strT {i j : Str} {S : Sto} {Q : Bool → Sto → Prop} (e : i = j) (q : Q true S) : eqP (.str i) (.str j) S Q := by
  refine eq_str ?_
  rw [decide_eq_true e]
  exact q
/-! ### further helpers of the laws -/
theorem ex_raw (p q k x y : Int) : exX p q k x y = rtX k.toNat ((p * p - q * q) * x - 2 * p * q * y) ((p * p - q * q) * y + 2 * p * q * x) ∧ exY p q k x y = rtY k.toNat ((p * p - q * q) * x - 2 * p * q * y) ((p * p - q * q) * y + 2 * p * q * x) := by
  unfold exX exY lgA lgB
  generalize k.toNat = j
  match j with
  | 0 => simp only [rtX, rtY]; constructor <;> grind
  | 1 => simp only [rtX, rtY]; constructor <;> grind
  | 2 => simp only [rtX, rtY]; constructor <;> grind
  | _ + 3 => simp only [rtX, rtY]; constructor <;> grind
theorem tup2 {a b c d : Int} (h : a = c) (g : b = d) : D.tup [.int a, .int b] = D.tup [.int c, .int d] := by rw [h, g]
def rat (x c : Int) : D := .tup [.int (x / ((Nat.gcd x.natAbs c.natAbs : Nat) : Int)), .int (c / ((Nat.gcd x.natAbs c.natAbs : Nat) : Int))]
theorem Bd.isq {n : Nat} {i : Int} (h : Bd n i) : Bd n ((Float64.isqrt i.toNat : Nat) : Int) := by
  obtain ⟨s1, _⟩ := Float64.isqrt_spec i.toNat
  generalize Float64.isqrt i.toNat = r at *
  unfold Bd at h ⊢
  have h1 : r ≤ r * r := by
    rcases Nat.eq_zero_or_pos r with z | z
    · subst z; decide
    · exact Nat.le_mul_of_pos_left r z
  have : (r : Int).natAbs = r := by omega
  omega

end Tp
namespace Tp
open PySem PySem.Spec PyProof.Rows L2 DL
/-! ### turns by quarters, and back -/
theorem cc_odd {p q k : Int} (h : Tn p q k) : cc p q % 2 = 1 := by
  obtain ⟨t, ht⟩ : ∃ t, p + q = 2 * t + 1 := ⟨(p + q) / 2, by have := h.o; omega⟩
  have e : cc p q = 2 * (2 * t * t + 2 * t - 2 * t * q - q + q * q) + 1 := by
    have : p = 2 * t + 1 - q := by omega
    subst this
    unfold cc
    grind
  omega
theorem four {k : Int} (h : 0 ≤ k ∧ k < 4) : k = 0 ∨ k = 1 ∨ k = 2 ∨ k = 3 := by omega
theorem tn_bk {p q k : Int} (h : Tn p q k) : Tn p (-q) ((4 - k) % 4) := by
  have := h.q1
  have := h.q2
  have := h.o
  exact ⟨h.p1, h.p2, by omega, by omega, by rw [Int.natAbs_neg]; exact h.g, by omega, by omega, by omega⟩
theorem bk_1 {p q k : Int} (h : Tn p q k) : -k % 4 = (4 - k) % 4 := by omega
theorem cc_neg (p q : Int) : cc p (-q) = cc p q := by unfold cc; grind
theorem nrr_near {n c : Int} (h : c % 2 = 1) (h0 : 0 < c) : -c < 2 * (n - c * nrr n c) ∧ 2 * (n - c * nrr n c) < c := by
  unfold nrr
  have e := Int.emod_add_mul_ediv (2 * n + c) (2 * c)
  have r0 := Int.emod_nonneg (2 * n + c) (show 2 * c ≠ 0 by omega)
  have r1 := Int.emod_lt_of_pos (2 * n + c) (show 0 < 2 * c by omega)
  generalize (2 * n + c) % (2 * c) = r at *
  generalize (2 * n + c) / (2 * c) = m at *
  have e2 : 2 * c * m = 2 * (c * m) := by rw [Int.mul_assoc]
  have rn : r ≠ 0 := by omega
  omega
theorem im_near {p q k : Int} (h : Tn p q k) (x y : Int) : (-(cc p q) < 2 * (exX p q k x y - cc p q * imX p q k x y) ∧ 2 * (exX p q k x y - cc p q * imX p q k x y) < cc p q) ∧ -(cc p q) < 2 * (exY p q k x y - cc p q * imY p q k x y) ∧ 2 * (exY p q k x y - cc p q * imY p q k x y) < cc p q :=
  by unfold imX imY; exact ⟨nrr_near (cc_odd h) (cc_pos h), nrr_near (cc_odd h) (cc_pos h)⟩

/-- a pixel within a bound -/
def DotB (n : Nat) (d : D) : Prop := ∃ x y : Int, d = .tup [.int x, .int y] ∧ Bd n x ∧ Bd n y
theorem DotB.up {n m : Nat} {d : D} (h : DotB n d) (k : n ≤ m) : DotB m d := by
  obtain ⟨x, y, e, a, b⟩ := h
  exact ⟨x, y, e, a.up k, b.up k⟩
end Tp
namespace Tp
open PySem PySem.Spec PyProof.Rows L2 DL
/-! ### rests -/
def reX (p q x y : Int) : Int := p * x - q * y - (p * imX p q 0 x y - -q * imY p q 0 x y)
def reY (p q x y : Int) : Int := p * y + q * x - (p * imY p q 0 x y + -q * imX p q 0 x y)
def isR (p q m n : Int) : Prop := (-(cc p q) < 2 * (p * m - q * n) ∧ 2 * (p * m - q * n) < cc p q) ∧ -(cc p q) < 2 * (p * n + q * m) ∧ 2 * (p * n + q * m) < cc p q
theorem bez_nat (m n : Nat) : ∃ s t : Int, s * (m : Int) + t * (n : Int) = (Nat.gcd m n : Int) := by
  induction m, n using Nat.gcd.induction with
  | H0 n => exact ⟨0, 1, by simp⟩
  | H1 m n hm ih =>
    obtain ⟨s, t, e⟩ := ih
    rw [← Nat.gcd_rec] at e
    have d : ((n % m : Nat) : Int) = (n : Int) - (m : Int) * ((n / m : Nat) : Int) := by
      have := Nat.mod_add_div n m
      omega
    refine ⟨t - s * ((n / m : Nat) : Int), s, ?_⟩
    rw [← e, d]
    grind
theorem bez {p q : Int} (g : Nat.gcd p.natAbs q.natAbs = 1) : ∃ s t : Int, s * p + t * q = 1 := by
  obtain ⟨s, t, e⟩ := bez_nat p.natAbs q.natAbs
  rw [g] at e
  rcases Int.natAbs_eq p with h | h <;> rcases Int.natAbs_eq q with h' | h'
  · exact ⟨s, t, by rw [h, h']; exact e⟩
  · exact ⟨s, -t, by rw [h, h', Int.neg_mul_neg]; exact e⟩
  · exact ⟨-s, t, by rw [h, h', Int.neg_mul_neg]; exact e⟩
  · exact ⟨-s, -t, by rw [h, h', Int.neg_mul_neg, Int.neg_mul_neg]; exact e⟩
theorem ex0 (p q x y : Int) : exX p q 0 x y = (p * p - q * q) * x - 2 * p * q * y ∧ exY p q 0 x y = (p * p - q * q) * y + 2 * p * q * x := by have h := ex_raw p q 0 x y; simpa [rtX, rtY] using h
/-- u times the rest is what the exact place has over c times the image -/
theorem u_re (p q x y : Int) : p * reX p q x y - q * reY p q x y = exX p q 0 x y - cc p q * imX p q 0 x y ∧ p * reY p q x y + q * reX p q x y = exY p q 0 x y - cc p q * imY p q 0 x y := by
  unfold reX reY
  rw [(ex0 p q x y).1, (ex0 p q x y).2]
  unfold cc
  generalize imX p q 0 x y = X
  generalize imY p q 0 x y = Y
  constructor <;> grind
theorem re_is {p q k : Int} (h : Tn p q k) (x y : Int) : isR p q (reX p q x y) (reY p q x y) := by
  unfold isR
  rw [(u_re p q x y).1, (u_re p q x y).2]
  have h0 : Tn p q 0 := ⟨h.p1, h.p2, h.q1, h.q2, h.g, h.o, by decide, by decide⟩
  exact im_near h0 x y
theorem eqB_t2 (a b c d : Int) : eqB (.tup [.int a, .int b]) (.tup [.int c, .int d]) = (decide (a = c) && decide (b = d)) := by
  unfold eqB
  simp [toPy, toPyL, PyData.eqv, PyData.eqvAll] <;> rfl
theorem nb {b : Bool} (h : (!b) = true) (k : b = true) : False := by subst k; cases h
theorem Bd.reX {p q x y : Int} {n : Nat} (h : Bd 50 p) (g : Bd 50 q) (hx : Bd n x) (hy : Bd n y) : Bd (160 + n) (reX p q x y) :=
  (((h.mul hx).sub (g.mul hy)).sub ((h.mul (Bd.imX 0 h g hx hy)).sub (g.neg.mul (Bd.imY 0 h g hx hy)))).up (by omega)
theorem Bd.reY {p q x y : Int} {n : Nat} (h : Bd 50 p) (g : Bd 50 q) (hx : Bd n x) (hy : Bd n y) : Bd (160 + n) (reY p q x y) :=
  (((h.mul hy).add (g.mul hx)).sub ((h.mul (Bd.imY 0 h g hx hy)).add (g.neg.mul (Bd.imX 0 h g hx hy)))).up (by omega)
/-- the rounds that find an inverse -/
structure InvI (n m h l a b : Int) : Prop where
  h0 : 0 < h
  l0 : 0 ≤ l
  az : ∃ z, a * n - h = m * z
  bz : ∃ z, b * n - l = m * z
  co : ∀ d, d ∣ h → d ∣ l → d ∣ 1
  sg : (0 ≤ a ∧ b ≤ 0 ∧ a * l - b * h = m) ∨ (a ≤ 0 ∧ 0 ≤ b ∧ b * h - a * l = m)
  hm : h ≤ m
  lm : l ≤ m
  ab : -m ≤ a ∧ a ≤ m
theorem InvI.b_le {n m h l a b : Int} (I : InvI n m h l a b) : -m ≤ b ∧ b ≤ m := by
  have h0 := I.h0
  have l0 := I.l0
  rcases I.sg with ⟨a0, b0, e⟩ | ⟨a0, b0, e⟩
  · have x1 : 0 ≤ a * l := Int.mul_nonneg a0 l0
    have x2 : (-b) * 1 ≤ (-b) * h := Int.mul_le_mul_of_nonneg_left (by omega) (by omega)
    have x3 : (-b) * h = -(b * h) := Int.neg_mul _ _
    omega
  · have x1 : 0 ≤ (-a) * l := Int.mul_nonneg (by omega) l0
    have x2 : b * 1 ≤ b * h := Int.mul_le_mul_of_nonneg_left (by omega) (by omega)
    have x3 : (-a) * l = -(a * l) := Int.neg_mul _ _
    omega
theorem InvI.less {h l : Int} (h0 : 0 < l) : 0 ≤ h - h / l * l ∧ h - h / l * l < l := by
  have r0 := Int.emod_nonneg h (show l ≠ 0 by omega)
  have r1 := Int.emod_lt_of_pos h h0
  have r2 := Int.emod_add_mul_ediv h l
  have r3 : h / l * l = l * (h / l) := Int.mul_comm _ _
  omega
theorem InvI.step {n m h l a b : Int} (I : InvI n m h l a b) (hl : 0 < l) : InvI n m l (h - h / l * l) b (a - h / l * b) := by
  obtain ⟨l1, l2⟩ := InvI.less (h := h) hl
  have q0 : 0 ≤ h / l := Int.ediv_nonneg (by have := I.h0; omega) (by omega)
  have hlm := I.lm
  obtain ⟨z, hz⟩ := I.az
  obtain ⟨w, hw⟩ := I.bz
  refine ⟨hl, l1, I.bz, ⟨z - h / l * w, ?_⟩, fun d h1 h2 => I.co d ?_ h1, ?_, hlm, by omega, I.b_le⟩
  · have : (a - h / l * b) * n - (h - h / l * l) = (a * n - h) - h / l * (b * n - l) := by grind
    rw [this, hz, hw]
    grind
  · have : h = (h - h / l * l) + h / l * l := by omega
    rw [this]
    exact Int.dvd_add h2 (Int.dvd_trans h1 (Int.dvd_mul_left _ _))
  · generalize h / l = k at *
    rcases I.sg with ⟨a0, b0, e⟩ | ⟨a0, b0, e⟩
    · have x : 0 ≤ k * (-b) := Int.mul_nonneg q0 (by omega)
      have x2 : k * (-b) = -(k * b) := Int.mul_neg _ _
      exact .inr ⟨b0, by omega, by rw [← e]; grind⟩
    · have x : 0 ≤ k * b := Int.mul_nonneg q0 b0
      exact .inl ⟨b0, by omega, by rw [← e]; grind⟩
theorem Tn.zero {p q k : Int} (h : Tn p q k) : Tn p q 0 := ⟨h.p1, h.p2, h.q1, h.q2, h.g, h.o, by decide, by decide⟩
theorem bd_cc {p q : Int} (h : Bd 101 (cc p q)) : Bd 101 (cc p q) := h

end Tp
namespace Tp
open PySem PySem.Spec PyProof.Rows L2 DL

/-! ### pixels with one rest -/
end Tp
namespace Tp
open PySem PySem.Spec PyProof.Rows L2 DL
/-! ### the nearest pixel with a rest -/
theorem three {i : Nat} {d : D} (h : [D.int (-1), D.int 0, D.int 1][i]? = some d) : i < 3 ∧ d = .int ((i : Int) - 1) := by
  have hi : i < 3 := (List.getElem?_eq_some_iff.mp h).1
  refine ⟨hi, ?_⟩
  rcases (by omega : i = 0 ∨ i = 1 ∨ i = 2) with e | e | e <;> subst e <;> exact (Option.some.inj h).symm
end Tp
namespace Tp
open PySem PySem.Spec PyProof.Rows L2 DL
/-! ### turns of legs, and joined turns -/
theorem gcd_of {a b s t : Int} (e : s * a + t * b = 1) : Nat.gcd a.natAbs b.natAbs = 1 := by
  have h1 : ((Nat.gcd a.natAbs b.natAbs : Nat) : Int) ∣ a := PySem.W.mg_dvd_left a b
  have h2 : ((Nat.gcd a.natAbs b.natAbs : Nat) : Int) ∣ b := PySem.W.mg_dvd_right a b
  have h3 : ((Nat.gcd a.natAbs b.natAbs : Nat) : Int) ∣ 1 := by
    rw [← e]
    exact Int.dvd_add (Int.dvd_trans h1 (Int.dvd_mul_left _ _)) (Int.dvd_trans h2 (Int.dvd_mul_left _ _))
  have h4 := Int.le_of_dvd (by decide) h3
  have h5 : Nat.gcd a.natAbs b.natAbs ≠ 0 := fun z => by
    rw [z] at h3
    obtain ⟨w, hw⟩ := h3
    omega
  omega
/-- the last step of what finds a turn of legs -/
theorem root_p (p q : Int) : (cc p q + (p * p - q * q)) / 2 = p * p := by unfold cc; omega
theorem root_q (p q : Int) : (cc p q - (p * p - q * q)) / 2 = q * q := by unfold cc; omega
theorem rt_mul {k l : Int} (hk : 0 ≤ k ∧ k < 4) (hl : 0 ≤ l ∧ l < 4) (A B C D : Int) : rtX k.toNat A B * rtX l.toNat C D - rtY k.toNat A B * rtY l.toNat C D = rtX ((k + l) % 4).toNat (A * C - B * D) (A * D + B * C) ∧ rtX k.toNat A B * rtY l.toNat C D + rtY k.toNat A B * rtX l.toNat C D = rtY ((k + l) % 4).toNat (A * C - B * D) (A * D + B * C) := by
  rcases four hk with h | h | h | h <;> rcases four hl with g | g | g | g <;> subst h <;> subst g <;> simp [rtX, rtY] <;> grind
theorem tn_bk2 {p q k : Int} (h : Tn p q k) : Tn p (-q) (-k % 4) := by
  have := tn_bk h
  have e := bk_1 h
  rw [e]
  exact this
theorem isq_ok {i p : Int} (e : i = p * p) (b : Bd 100 (p * p)) : 0 ≤ i ∧ i.natAbs < 2 ^ 3000 := by
  subst e
  exact ⟨sq_nn p, b.up (by decide)⟩
theorem sq_bd {p : Int} (h : Bd 50 p) : Bd 100 (p * p) := h.mul h
end Tp
namespace Tp
open PySem PySem.Spec PyProof.Rows L2 DL
/-! ### misses -/
def absI (v : Int) : Int := if v < 0 then -v else v
theorem take_step {α β : Type} (f : α → β) {os : List α} {k : Nat} {v : α} (h : os[k]? = some v) : (os.map f).take (k + 1) = (os.map f).take k ++ [f v] := by
  rw [List.take_add_one, List.getElem?_map, h] <;> rfl
end Tp
namespace Tp
open PySem PySem.Spec PyProof.Rows L2 DL
/-! ### how many turns keep all -/
end Tp
namespace Tp
open PySem PySem.Spec PyProof.Rows L2 DL
/-! ### pixels with one image; bare pixels -/
/-- a rest of a pixel that comes back -/
def isC (p q m n : Int) : Prop := (-(cc p q) < 2 * (p * m + q * n) ∧ 2 * (p * m + q * n) < cc p q) ∧ -(cc p q) < 2 * (p * n - q * m) ∧ 2 * (p * n - q * m) < cc p q
/-! ### turns that keep all -/
/-! ### a bare pixel of each turn that does not keep all -/
/-! ### where some are bare, some meet -/
end Tp
namespace Tp
open PySem PySem.Spec PyProof.Rows L2 DL
/-! ### where a pixel comes from -/
theorem lg_back {p q k : Int} (h : Tn p q k) (x y : Int) : exX p (-q) (-k % 4) x y = lgA p q k * x + lgB p q k * y ∧ exY p (-q) (-k % 4) x y = lgA p q k * y - lgB p q k * x := by
  have hk : 0 ≤ k ∧ k < 4 := ⟨h.k1, by have := h.k2; omega⟩
  obtain ⟨a1, a2⟩ := ex_raw p (-q) (-k % 4) x y
  rw [a1, a2]
  unfold lgA lgB
  rcases four hk with g | g | g | g <;> subst g
  · show rtX 0 _ _ = _ ∧ rtY 0 _ _ = _
    simp only [rtX, rtY]
    constructor <;> grind
  · show rtX 3 _ _ = rtX 1 _ _ * _ + rtY 1 _ _ * _ ∧ rtY 3 _ _ = rtX 1 _ _ * _ - rtY 1 _ _ * _
    simp only [rtX, rtY]
    constructor <;> grind
  · show rtX 2 _ _ = rtX 2 _ _ * _ + rtY 2 _ _ * _ ∧ rtY 2 _ _ = rtX 2 _ _ * _ - rtY 2 _ _ * _
    simp only [rtX, rtY]
    constructor <;> grind
  · show rtX 1 _ _ = rtX 3 _ _ * _ + rtY 3 _ _ * _ ∧ rtY 1 _ _ = rtX 3 _ _ * _ - rtY 3 _ _ * _
    simp only [rtX, rtY]
    constructor <;> grind
theorem pr_at {os : List (Int × Int)} {k : Nat} {d : D} (h : (os.map pr2)[k]? = some d) : ∃ t, os[k]? = some t ∧ d = .tup [.int t.1, .int t.2] := by
  rw [List.getElem?_map] at h
  cases e : os[k]? with
  | none => rw [e] at h; cases h
  | some t => rw [e] at h; exact ⟨t, rfl, (Option.some.inj h).symm⟩
end Tp
namespace Tp
open PySem PySem.Spec PyProof.Rows L2 DL
/-! ### the gaps between the exact places -/
/-- the four ways a point lies out of the gap -/
def Hit (a b c D E : Int) : Prop := ∃ m n : Int, (m = 1 ∨ m = -1) ∧ (n = 1 ∨ n = -1) ∧ (-c < D - (a * m - b * n) ∧ D - (a * m - b * n) < c) ∧ -c < E - (b * m + a * n) ∧ E - (b * m + a * n) < c
theorem Hit.turn {a b c D E : Int} (h : Hit b (-a) c D E) : Hit a b c D E := by
  obtain ⟨m, n, hm, hn, h1, h2⟩ := h
  refine ⟨n, -m, hn, by omega, ?_⟩
  have e1 : D - (a * n - b * -m) = D - (b * m - -a * n) := by grind
  have e2 : E - (b * n + a * -m) = E - (-a * m + b * n) := by grind
  rw [e1, e2]; omega
/-! ### the law's own lists of pixels around a place -/
/-! ### pixels that meet a pixel, of those around -/
theorem flat_pr2 : ∀ l : List (Int × Int), flatOkL 8 (l.map pr2) = true
  | [] => rfl
  | t :: l => by
    show (flatOk 8 (pr2 t) && flatOkL 8 (l.map pr2)) = true
    rw [flat_pr2 l] <;> rfl
end Tp
namespace Tp
open PySem PySem.Spec PyProof.Rows L2 DL
/-! ### sources, with lists that may be changed -/
end Tp
namespace Tp
open PySem PySem.Spec PyProof.Rows L2 DL
/-! ### sums over rows of pixels -/
def sumN : Nat → (Nat → Int) → Int
  | 0, _ => 0
  | n + 1, f => sumN n f + f n
end Tp
namespace Tp
open PySem PySem.Spec PyProof.Rows L2 DL
/-! ### bare pixels in a row -/
def keepsP (p q : Int) : Prop := p = (if q < 0 then -q else q) + 1
instance (p q : Int) : Decidable (keepsP p q) := by unfold keepsP; infer_instance
end Tp
namespace Tp
open PySem PySem.Spec PyProof.Rows L2 DL
/-! ### sums of floors -/
def fs (n : Nat) (d s b : Int) : Int := sumN n fun k => (s * (k : Int) + b) / d
structure FsI (T t n d s b : Int) : Prop where
  e : t + fs n.toNat d s b = T
  n0 : 0 ≤ n
  d0 : 0 < d
  bt : Bd 320 t
  bn : Bd 102 n
  bd : Bd 102 d
  bs : Bd 102 s
  bb : Bd 204 b
theorem FsI.pos {T t n d s b : Int} (h : FsI T t n d s b) (g : ¬ s % d * n + b % d < d) : 0 < s % d := by
  have d0 := h.d0
  have n0 := Int.emod_nonneg s (show d ≠ 0 by omega)
  have n1 := Int.emod_lt_of_pos b d0
  rcases Int.lt_or_eq_of_le n0 with z | z
  · exact z
  · rw [← z, Int.zero_mul] at g; omega
end Tp
namespace Tp
open PySem PySem.Spec PyProof.Rows L2 DL
/-! ### rests of a row -/
instance (p q m n : Int) : Decidable (isR p q m n) := by unfold isR; infer_instance
instance (p q m n : Int) : Decidable (isC p q m n) := by unfold isC; infer_instance
end Tp
namespace Tp
open PySem PySem.Spec PyProof.Rows L2 DL
/-! ### counting rests -/
def octP (p Q h m n : Int) : Prop := p * absI m + Q * absI n ≤ h ∧ Q * absI m + p * absI n ≤ h
instance (p Q h m n : Int) : Decidable (octP p Q h m n) := by unfold octP; infer_instance
end Tp
namespace Tp
open PySem PySem.Spec PyProof.Rows L2 DL
end Tp
namespace Tp
open PySem PySem.Spec PyProof.Rows L2 DL
/-! ### pairs of a row -/
def isH (c v : Int) : Prop := -c < 2 * v ∧ 2 * v < c
instance (c v : Int) : Decidable (isH c v) := by unfold isH; infer_instance
/-- the condition that a pixel and the one beside it have one image -/
def meetO (p q dx dy X Y : Int) : Prop := isH (cc p q) (X + ((p * p - q * q) * dx - 2 * p * q * dy)) ∧ isH (cc p q) (Y + ((p * p - q * q) * dy + 2 * p * q * dx))
instance (p q dx dy X Y : Int) : Decidable (meetO p q dx dy X Y) := by unfold meetO; infer_instance
end Tp
namespace Tp
open PySem PySem.Spec PyProof.Rows L2 DL
/-! ### places of a row and what comes to them -/
end Tp
namespace Tp
open PySem PySem.Spec PyProof.Rows L2 DL
/-! ### k13 -/
end Tp
namespace Tp
open PySem PySem.Spec PyProof.Rows L2 DL
/-! ### kinds of pixels -/
def metR (p q : Int) (t : Int × Int) : Prop := meetO p q 1 0 (p * t.1 - q * t.2) (p * t.2 + q * t.1) ∨ meetO p q (-1) 0 (p * t.1 - q * t.2) (p * t.2 + q * t.1) ∨ meetO p q 0 1 (p * t.1 - q * t.2) (p * t.2 + q * t.1) ∨ meetO p q 0 (-1) (p * t.1 - q * t.2) (p * t.2 + q * t.1)
instance (p q : Int) (t : Int × Int) : Decidable (metR p q t) := by unfold metR; infer_instance
end Tp
namespace Tp
open PySem PySem.Spec PyProof.Rows L2 DL
/-! ### mirrored and turned by a quarter -/
end Tp
namespace Tp
open PySem PySem.Spec PyProof.Rows L2 DL
/-! ### all rests, row by row -/
end Tp
namespace Tp
open PySem PySem.Spec PyProof.Rows L2 DL
end Tp
namespace Tp
open PySem PySem.Spec PyProof.Rows L2 DL
/-! ### a row as a whole -/
end Tp
namespace Tp
open PySem PySem.Spec PyProof.Rows L2 DL
/-! ### k10 -/
end Tp
namespace Tp
open PySem PySem.Spec PyProof.Rows L2 DL
/-! ### greatest misses -/
/-- the ends of a row, as the law takes them -/
def lawLo (p q m : Int) : Int × Int := (0 - ((p * p + q * q) / 2 + q * m) / p, if 0 < q then 0 - ((p * p + q * q) / 2 - p * m) / q else 0 - p)
def lawHi (p q m : Int) : Int × Int := (((p * p + q * q) / 2 - q * m) / p, if 0 < q then ((p * p + q * q) / 2 + p * m) / q else p)
end Tp
namespace Tp
open PySem PySem.Spec PyProof.Rows L2 DL
/-! ### greatest misses: the program's list, the law's rows -/
/-- the law's rows -/
def loI (p q m : Int) : Int := max (lawLo p q m).1 (lawLo p q m).2
def hiI (p q m : Int) : Int := min (lawHi p q m).1 (lawHi p q m).2
def rowC (p q m : Int) : Prop := loI p q m ≤ hiI p q m ∧ (0 < q ∨ absI (p * m) ≤ (p * p + q * q) / 2)
instance (p q m : Int) : Decidable (rowC p q m) := by unfold rowC; infer_instance
end Tp
namespace Tp
open PySem PySem.Spec PyProof.Rows L2 DL
/-! ### misses by rests -/
end Tp
namespace Tp
open PySem PySem.Spec PyProof.Rows L2 DL
/-! ### a loss told; numbers of no loss -/
end Tp
namespace Tp
open PySem PySem.Spec PyProof.Rows L2 DL
/-! ### turns whose p may be a little too great -/
structure Tw (p q k : Int) : Prop where
  p1 : 1 ≤ p
  p2 : p ≤ 1100000000000000
  q1 : -p < q
  q2 : q < p
  g : Nat.gcd p.natAbs q.natAbs = 1
  o : (p + q) % 2 = 1
  k1 : 0 ≤ k
  k2 : k ≤ 3
theorem Tw.bp {p q k : Int} (h : Tw p q k) : Bd 50 p := by
  have := h.p1
  have := h.p2
  unfold Bd
  omega
theorem Tw.bq {p q k : Int} (h : Tw p q k) : Bd 50 q := by
  have := h.p1
  have := h.p2
  have := h.q1
  have := h.q2
  unfold Bd
  omega
theorem Tw.zero {p q k : Int} (h : Tw p q k) : Tw p q 0 := ⟨h.p1, h.p2, h.q1, h.q2, h.g, h.o, by decide, by decide⟩
theorem Tn.w {p q k : Int} (h : Tn p q k) : Tw p q k := ⟨h.p1, by have := h.p2; omega, h.q1, h.q2, h.g, h.o, h.k1, h.k2⟩
theorem Tw.n {p q k : Int} (h : Tw p q k) (hp : p ≤ 1000000000000000) : Tn p q k := ⟨h.p1, hp, h.q1, h.q2, h.g, h.o, h.k1, h.k2⟩
end Tp
namespace Tp
open PySem PySem.Spec PyProof.Rows L2 DL
/-! ### joined turns -/
structure Tv (p q k : Int) : Prop where
  p1 : 1 ≤ p
  p2 : p ≤ 2535301200456458802993406410752
  q1 : -p < q
  q2 : q < p
  g : Nat.gcd p.natAbs q.natAbs = 1
  o : (p + q) % 2 = 1
  k1 : 0 ≤ k
  k2 : k ≤ 3
theorem Tv.bp {p q k : Int} (h : Tv p q k) : Bd 102 p := by
  have := h.p1
  have := h.p2
  unfold Bd
  omega
theorem Tv.bq {p q k : Int} (h : Tv p q k) : Bd 102 q := by
  have := h.p1
  have := h.p2
  have := h.q1
  have := h.q2
  unfold Bd
  omega
theorem Tv.zero {p q k : Int} (h : Tv p q k) : Tv p q 0 := ⟨h.p1, h.p2, h.q1, h.q2, h.g, h.o, by decide, by decide⟩
end Tp
namespace Tp
open PySem PySem.Spec PyProof.Rows L2 DL
/-! ### chains -/
abbrev Stp := Bool × Int × Int
def OkS (t : Stp) : Prop := 1 ≤ t.2.2 ∧ Bd 150 t.2.1 ∧ Bd 150 t.2.2
def led1 (t : Stp) (v : Int × Int) : Int × Int := if t.1 then (v.1 + nrr (t.2.1 * v.2) t.2.2, v.2) else (v.1, v.2 + nrr (t.2.1 * v.1) t.2.2)
def unl1 (t : Stp) (v : Int × Int) : Int × Int := if t.1 then (v.1 - nrr (t.2.1 * v.2) t.2.2, v.2) else (v.1, v.2 - nrr (t.2.1 * v.1) t.2.2)
def ledN (l : List Stp) (v : Int × Int) : Int × Int := l.foldl (fun v t => led1 t v) v
def unlN (l : List Stp) (v : Int × Int) : Int × Int := l.reverse.foldl (fun v t => unl1 t v) v
def BdP (n : Nat) (v : Int × Int) : Prop := Bd n v.1 ∧ Bd n v.2
theorem BdP.up {n m : Nat} {v : Int × Int} (h : BdP n v) (k : n ≤ m) : BdP m v := ⟨h.1.up k, h.2.up k⟩
/-! the chains that are drawn -/
def OkT (t : Stp) : Prop := 1 ≤ t.2.2 ∧ Bd 145 t.2.1 ∧ Bd 145 t.2.2
theorem OkT.s {t : Stp} (h : OkT t) : OkS t := ⟨h.1, h.2.1.up (by decide), h.2.2.up (by decide)⟩
/-! steps in lowest terms -/
theorem k_ll : kitB "list" "list" = some true := by decide +kernel
theorem sl_t31 {a b c : D} {S : Sto} {Q : D → Sto → Prop} (q : Q (.tup [b, c]) S) : slP (.tup [a, b, c]) (some 1) none S Q := ⟨by show ¬ ((1 : Nat) = 0 ∧ _); omega, q⟩
end Tp
namespace Tp
open PySem PySem.Spec PyProof.Rows L2 DL
/-! ### where chains part -/
instance (t : Stp) : Decidable (OkS t) := by unfold OkS Bd; infer_instance
end Tp
namespace Tp
open PySem PySem.Spec PyProof.Rows L2 DL
/-! ### how many unlike tuples -/
section
variable {X : Cx}
end
/-! ### chains done and undone -/
end Tp
namespace Tp
open PySem PySem.Spec PyProof.Rows L2 DL
/-! ### matrices of chains -/
abbrev Mt := Int × Int × Int × Int × Int
def ml (m : Mt) : List Int := [m.1, m.2.1, m.2.2.1, m.2.2.2.1, m.2.2.2.2]
def detM (m : Mt) : Int := m.1 * m.2.2.2.1 - m.2.1 * m.2.2.1
/-! common divisors -/
def foldG (ns : List Int) : Nat := ns.foldl (fun g n => Nat.gcd g n.natAbs) 0
def IsM (m : Mt) : Prop := 1 ≤ m.2.2.2.2 ∧ detM m = m.2.2.2.2 * m.2.2.2.2 ∧ foldG (ml m) = 1
/-! the way back, scaled, crossed -/
/-! pixels that are led without rounding -/
end Tp
namespace Tp
open PySem PySem.Spec PyProof.Rows L2 DL
def BdM (n : Nat) (m : Mt) : Prop := Bd n m.1 ∧ Bd n m.2.1 ∧ Bd n m.2.2.1 ∧ Bd n m.2.2.2.1 ∧ Bd n m.2.2.2.2
theorem BdM.up {n k : Nat} {m : Mt} (b : BdM n m) (h : n ≤ k) : BdM k m := ⟨b.1.up h, b.2.1.up h, b.2.2.1.up h, b.2.2.2.1.up h, b.2.2.2.2.up h⟩
end Tp
namespace Tp
open PySem PySem.Spec PyProof.Rows L2 DL
/-! ### fewest shears -/
instance (m : Mt) : Decidable (IsM m) := by unfold IsM; infer_instance
instance (n : Nat) (m : Mt) : Decidable (BdM n m) := by unfold BdM Bd; infer_instance
end Tp
namespace Tp
open PySem PySem.Spec PyProof.Rows L2 DL
/-! ### scales: each pixel to the nearest place -/
structure Sc (a b n : Int) : Prop where
  n1 : 1 ≤ n
  n2 : n ≤ 1000000000000000000000000000000
  a1 : -1000000000000000000000000000000 ≤ a
  a2 : a ≤ 1000000000000000000000000000000
  b1 : -1000000000000000000000000000000 ≤ b
  b2 : b ≤ 1000000000000000000000000000000
  s : n * n ≤ a * a + b * b
theorem bd_30 {x : Int} (h : -1000000000000000000000000000000 ≤ x ∧ x ≤ 1000000000000000000000000000000) : Bd 100 x := by unfold Bd; omega
theorem Sc.bn {a b n : Int} (h : Sc a b n) : Bd 100 n := bd_30 ⟨by have := h.n1; omega, h.n2⟩
theorem Sc.np {a b n : Int} (h : Sc a b n) : 0 < n := by have := h.n1; omega
theorem sc_great {a b r : Int} (h1 : 0 ≤ a ∧ a < 10 ^ (Int.toNat 30)) (h2 : 0 ≤ b ∧ b < 10 ^ (Int.toNat 29)) (h3 : 0 ≤ r ∧ r < 9) : Sc (10 ^ (Int.toNat 30) - a) (10 ^ (Int.toNat 29) + b) (1 + r) := by
  have e1 : (10 : Int) ^ (Int.toNat 30) = 1000000000000000000000000000000 := by decide +kernel
  have e2 : (10 : Int) ^ (Int.toNat 29) = 100000000000000000000000000000 := by decide +kernel
  rw [e1] at h1 ⊢
  rw [e2] at h2 ⊢
  refine ⟨by omega, by omega, by omega, by omega, by omega, by omega, ?_⟩
  have s1 := sq_nn (1000000000000000000000000000000 - a)
  have s2 : 100000000000000000000000000000 * 100000000000000000000000000000 ≤ (100000000000000000000000000000 + b) * (100000000000000000000000000000 + b) := Int.mul_le_mul (by omega) (by omega) (by omega) (by omega)
  have s3 : (1 + r) * (1 + r) ≤ 9 * 9 := Int.mul_le_mul (by omega) (by omega) (by omega) (by omega)
  omega
end Tp
namespace Tp
open PySem PySem.Spec PyProof.Rows L2 DL
/-! ### three shears -/
def shC (p q : Int) (o : Bool) : List Stp := if o then [(true, -q, p), (false, 2 * p * q, p * p + q * q), (true, -q, p)] else [(false, q, p), (true, -(2 * p * q), p * p + q * q), (false, q, p)]
theorem shC_len (p q : Int) (o : Bool) : (shC p q o).length = 3 := by cases o <;> rfl
def rt2 (j : Nat) (v : Int × Int) : Int × Int := (rtX j v.1 v.2, rtY j v.1 v.2)
@[irreducible] def shV (p q k : Int) (o : Bool) (x y : Int) : Int × Int := rt2 k.toNat (ledN (shC p q o) (x, y))
@[irreducible] def usV (p q k : Int) (o : Bool) (x y : Int) : Int × Int := unlN (shC p q o) (rt2 (-k % 4).toNat (x, y))
theorem tn_one {r : Int} (h0 : 0 ≤ r) (h1 : r < 4) : Tn 1 0 r := ⟨by decide, by decide, by decide, by decide, by decide, by decide, h0, by omega⟩
end Tp
namespace Tp
open PySem PySem.Spec PyProof.Rows L2 DL
/-! ### ways -/
abbrev Trn := Int × Int × Int
def TnT (t : Trn) : Prop := Tn t.1 t.2.1 t.2.2
def KW (t : Trn) : Prop := TnT t ∧ keepsP t.1 t.2.1
def bkT (t : Trn) : Trn := (t.1, -t.2.1, -t.2.2 % 4)
theorem tnT_bk {t : Trn} (h : TnT t) : TnT (bkT t) := tn_bk2 h
theorem kw_bk {t : Trn} (h : KW t) : KW (bkT t) := by
  refine ⟨tnT_bk h.1, ?_⟩
  have h2 : t.1 = (if t.2.1 < 0 then -t.2.1 else t.2.1) + 1 := h.2
  show t.1 = (if -t.2.1 < 0 then - -t.2.1 else -t.2.1) + 1
  split at h2 <;> split <;> omega
/-! how far an image may lie -/
theorem kw_tn {l : List Trn} (h : ∀ t ∈ l, KW t) : ∀ t ∈ l, TnT t := fun t ht => (h t ht).1
theorem kw_rev {l : List Trn} (h : ∀ t ∈ l, KW t) : ∀ t ∈ l.reverse.map bkT, KW t := fun t ht => by
  obtain ⟨s, hs, rfl⟩ := List.mem_map.mp ht
  exact kw_bk (h s (List.mem_reverse.mp hs))
end Tp
namespace Tp
open PySem PySem.Spec PyProof.Rows L2 DL
/-! ### six-cornered turns -/
structure Sx (p q k : Int) : Prop where
  p1 : -1000000000000000 ≤ p
  p2 : p ≤ 1000000000000000
  q1 : -1000000000000000 ≤ q
  q2 : q ≤ 1000000000000000
  d1 : -1000000000000000 ≤ p - q
  d2 : p - q ≤ 1000000000000000
  o : (p + q) % 3 ≠ 0
  g : Nat.gcd p.natAbs q.natAbs = 1
  k1 : 0 ≤ k
  k2 : k ≤ 5
theorem Sx.bp {p q k : Int} (h : Sx p q k) : Bd 50 p := by have := h.p1; have := h.p2; unfold Bd; omega
theorem Sx.bq {p q k : Int} (h : Sx p q k) : Bd 50 q := by have := h.q1; have := h.q2; unfold Bd; omega
theorem Sx.b3 {p q k : Int} (h : Sx p q k) : Bd 3 k := by have := h.k1; have := h.k2; unfold Bd; omega
def r6X (k : Nat) (x y : Int) : Int := match k with | 0 => x | 1 => x - y | 2 => -y | 3 => -x | 4 => y - x | _ => y
def r6Y (k : Nat) (x y : Int) : Int := match k with | 0 => y | 1 => x | 2 => x - y | 3 => -y | 4 => -x | _ => y - x
theorem six {k : Int} (h : 0 ≤ k ∧ k ≤ 5) : k = 0 ∨ k = 1 ∨ k = 2 ∨ k = 3 ∨ k = 4 ∨ k = 5 := by omega
@[irreducible] def sz (p q : Int) : Int := p * p - p * q + q * q
theorem sz_eq (p q : Int) : sz p q = p * p - p * q + q * q := by unfold sz; rfl
def sqA (p q : Int) : Int := p * p - q * q
def sqB (p q : Int) : Int := p * q + q * p - q * q
@[irreducible] def spX (p q k x y : Int) : Int := r6X k.toNat (sqA p q * x - sqB p q * y) (sqA p q * y + sqB p q * x - sqB p q * y)
@[irreducible] def spY (p q k x y : Int) : Int := r6Y k.toNat (sqA p q * x - sqB p q * y) (sqA p q * y + sqB p q * x - sqB p q * y)
theorem sp_eq (p q k x y : Int) : spX p q k x y = r6X k.toNat (sqA p q * x - sqB p q * y) (sqA p q * y + sqB p q * x - sqB p q * y) ∧ spY p q k x y = r6Y k.toNat (sqA p q * x - sqB p q * y) (sqA p q * y + sqB p q * x - sqB p q * y) := by
  unfold spX spY
  exact ⟨rfl, rfl⟩
/-- the program's own sequence of products -/
theorem sp_raw {k : Int} (h : 0 ≤ k ∧ k ≤ 5) (p q x y : Int) : ((p * p - q * q) * r6X k.toNat 1 0 - (p * q + q * p - q * q) * r6Y k.toNat 1 0) * x - ((p * p - q * q) * r6Y k.toNat 1 0 + (p * q + q * p - q * q) * r6X k.toNat 1 0 - (p * q + q * p - q * q) * r6Y k.toNat 1 0) * y = spX p q k x y ∧
    ((p * p - q * q) * r6X k.toNat 1 0 - (p * q + q * p - q * q) * r6Y k.toNat 1 0) * y + ((p * p - q * q) * r6Y k.toNat 1 0 + (p * q + q * p - q * q) * r6X k.toNat 1 0 - (p * q + q * p - q * q) * r6Y k.toNat 1 0) * x - ((p * p - q * q) * r6Y k.toNat 1 0 + (p * q + q * p - q * q) * r6X k.toNat 1 0 - (p * q + q * p - q * q) * r6Y k.toNat 1 0) * y = spY p q k x y := by
  obtain ⟨e1, e2⟩ := sp_eq p q k x y
  rw [e1, e2]
  unfold sqA sqB
  generalize p * p - q * q = a
  generalize p * q + q * p - q * q = b
  rcases six h with e | e | e | e | e | e <;> subst e <;> simp only [r6X, r6Y, Int.toNat] <;> constructor <;> grind
/-! the hexagon about (0, 0) -/
def HexC (c x y : Int) : Prop := (-c ≤ 2 * x - y ∧ 2 * x - y ≤ c) ∧ (-c ≤ 2 * y - x ∧ 2 * y - x ≤ c) ∧ -c ≤ x + y ∧ x + y ≤ c
def HexS (c x y : Int) : Prop := (-c < 2 * x - y ∧ 2 * x - y < c) ∧ (-c < 2 * y - x ∧ 2 * y - x < c) ∧ -c < x + y ∧ x + y < c
theorem HexC.r1 {c x y : Int} (h : HexC c x y) : HexC c (x - y) x := by unfold HexC at *; omega
theorem HexS.r1 {c x y : Int} (h : HexS c x y) : HexS c (x - y) x := by unfold HexS at *; omega
theorem HexS.neg {c x y : Int} (h : HexS c x y) : HexS c (-x) (-y) := by unfold HexS at *; omega
theorem HexS.r6 {c x y : Int} (h : HexS c x y) : ∀ k : Nat, HexS c (r6X k x y) (r6Y k x y)
  | 0 => h
  | 1 => h.r1
  | 2 => by show HexS c (-y) (x - y); unfold HexS at *; omega
  | 3 => h.neg
  | 4 => by show HexS c (y - x) (-x); unfold HexS at *; omega
  | _ + 5 => by show HexS c y (y - x); unfold HexS at *; omega
def mxI (f h : Int) : Int := if h > f then h else f
def mnI (f h : Int) : Int := if h < f then h else f
theorem mm_cas (f h : Int) : (f < h ∧ mxI f h = h ∧ mnI f h = f) ∨ (h ≤ f ∧ mxI f h = f ∧ mnI f h = h) := by
  unfold mxI mnI
  by_cases v : h > f
  · exact .inl ⟨v, if_pos v, if_neg (by omega)⟩
  · refine .inr ⟨by omega, if_neg v, ?_⟩
    split <;> omega
@[irreducible] def hexI (c X Y : Int) : Int × Int :=
  if 2 * mxI (X - c * (X / c)) (Y - c * (Y / c)) - mnI (X - c * (X / c)) (Y - c * (Y / c)) < c ∧ X - c * (X / c) + (Y - c * (Y / c)) < c then (X / c, Y / c)
  else if 2 * mnI (X - c * (X / c)) (Y - c * (Y / c)) > mxI (X - c * (X / c)) (Y - c * (Y / c)) then (X / c + 1, Y / c + 1)
  else if X - c * (X / c) > Y - c * (Y / c) then (X / c + 1, Y / c) else (X / c, Y / c + 1)
theorem hexI_1 {c X Y : Int} (h : 2 * mxI (X - c * (X / c)) (Y - c * (Y / c)) - mnI (X - c * (X / c)) (Y - c * (Y / c)) < c ∧ X - c * (X / c) + (Y - c * (Y / c)) < c) : hexI c X Y = (X / c, Y / c) := by
  unfold hexI
  rw [if_pos h]
theorem hexI_2 {c X Y : Int} (h : ¬ (2 * mxI (X - c * (X / c)) (Y - c * (Y / c)) - mnI (X - c * (X / c)) (Y - c * (Y / c)) < c ∧ X - c * (X / c) + (Y - c * (Y / c)) < c)) (g : 2 * mnI (X - c * (X / c)) (Y - c * (Y / c)) > mxI (X - c * (X / c)) (Y - c * (Y / c))) : hexI c X Y = (X / c + 1, Y / c + 1) := by
  unfold hexI
  rw [if_neg h, if_pos g]
theorem hexI_3 {c X Y : Int} (h : ¬ (2 * mxI (X - c * (X / c)) (Y - c * (Y / c)) - mnI (X - c * (X / c)) (Y - c * (Y / c)) < c ∧ X - c * (X / c) + (Y - c * (Y / c)) < c)) (g : ¬ 2 * mnI (X - c * (X / c)) (Y - c * (Y / c)) > mxI (X - c * (X / c)) (Y - c * (Y / c))) (j : X - c * (X / c) > Y - c * (Y / c)) : hexI c X Y = (X / c + 1, Y / c) := by
  unfold hexI
  rw [if_neg h, if_neg g, if_pos j]
theorem hexI_4 {c X Y : Int} (h : ¬ (2 * mxI (X - c * (X / c)) (Y - c * (Y / c)) - mnI (X - c * (X / c)) (Y - c * (Y / c)) < c ∧ X - c * (X / c) + (Y - c * (Y / c)) < c)) (g : ¬ 2 * mnI (X - c * (X / c)) (Y - c * (Y / c)) > mxI (X - c * (X / c)) (Y - c * (Y / c))) (j : ¬ X - c * (X / c) > Y - c * (Y / c)) : hexI c X Y = (X / c, Y / c + 1) := by
  unfold hexI
  rw [if_neg h, if_neg g, if_neg j]
theorem hexI_closed {c X Y : Int} (hc : 0 < c) : HexC c (X - c * (hexI c X Y).1) (Y - c * (hexI c X Y).2) := by
  have e1 := Int.emod_add_mul_ediv X c
  have f0 := Int.emod_nonneg X (show c ≠ 0 by omega)
  have f1 := Int.emod_lt_of_pos X hc
  have e2 := Int.emod_add_mul_ediv Y c
  have h0 := Int.emod_nonneg Y (show c ≠ 0 by omega)
  have h1 := Int.emod_lt_of_pos Y hc
  have ef : X - c * (X / c) = X % c := by omega
  have eh : Y - c * (Y / c) = Y % c := by omega
  have m1 : ∀ r : Int, X - c * (r + 1) = X - c * r - c := fun r => by rw [Int.mul_add, Int.mul_one]; omega
  have m2 : ∀ r : Int, Y - c * (r + 1) = Y - c * r - c := fun r => by rw [Int.mul_add, Int.mul_one]; omega
  by_cases c1 : 2 * mxI (X - c * (X / c)) (Y - c * (Y / c)) - mnI (X - c * (X / c)) (Y - c * (Y / c)) < c ∧ X - c * (X / c) + (Y - c * (Y / c)) < c
  · rw [hexI_1 c1]
    show HexC c (X - c * (X / c)) (Y - c * (Y / c))
    rw [ef, eh] at c1 ⊢
    generalize X % c = f at *
    generalize Y % c = h at *
    unfold HexC
    rcases mm_cas f h with ⟨v, v1, v2⟩ | ⟨v, v1, v2⟩ <;> rw [v1, v2] at c1 <;> omega
  · by_cases c2 : 2 * mnI (X - c * (X / c)) (Y - c * (Y / c)) > mxI (X - c * (X / c)) (Y - c * (Y / c))
    · rw [hexI_2 c1 c2]
      show HexC c (X - c * (X / c + 1)) (Y - c * (Y / c + 1))
      rw [m1, m2]
      rw [ef, eh] at c1 c2 ⊢
      generalize X % c = f at *
      generalize Y % c = h at *
      unfold HexC
      rcases mm_cas f h with ⟨v, v1, v2⟩ | ⟨v, v1, v2⟩ <;> rw [v1, v2] at c1 c2 <;> omega
    · by_cases c3 : X - c * (X / c) > Y - c * (Y / c)
      · rw [hexI_3 c1 c2 c3]
        show HexC c (X - c * (X / c + 1)) (Y - c * (Y / c))
        rw [m1]
        rw [ef, eh] at c1 c2 c3 ⊢
        generalize X % c = f at *
        generalize Y % c = h at *
        unfold HexC
        rcases mm_cas f h with ⟨v, v1, v2⟩ | ⟨v, v1, v2⟩ <;> rw [v1, v2] at c1 c2 <;> omega
      · rw [hexI_4 c1 c2 c3]
        show HexC c (X - c * (X / c)) (Y - c * (Y / c + 1))
        rw [m2]
        rw [ef, eh] at c1 c2 c3 ⊢
        generalize X % c = f at *
        generalize Y % c = h at *
        unfold HexC
        rcases mm_cas f h with ⟨v, v1, v2⟩ | ⟨v, v1, v2⟩ <;> rw [v1, v2] at c1 c2 <;> omega
/-- of two pixels just one has a place in its hexagon -/
theorem hex_uniq {c X Y a b a' b' : Int} (h : HexS c (X - c * a) (Y - c * b)) (h' : HexS c (X - c * a') (Y - c * b')) (hc : 0 < c) : a = a' ∧ b = b' := by
  obtain ⟨d, hd⟩ : ∃ d, d = a - a' := ⟨_, rfl⟩
  obtain ⟨e, he⟩ : ∃ e, e = b - b' := ⟨_, rfl⟩
  have k1 : c * a = c * a' + c * d := by rw [hd, Int.mul_sub]; omega
  have k2 : c * b = c * b' + c * e := by rw [he, Int.mul_sub]; omega
  rw [k1, k2] at h
  have key : ∀ t : Int, -(2 * c) < c * t → c * t < 2 * c → -2 < t ∧ t < 2 := fun t h1 h2 => by
    constructor
    · rcases Int.lt_or_le (-2) t with z | z
      · exact z
      · have := Int.mul_le_mul_of_nonneg_left z (show 0 ≤ c by omega)
        omega
    · rcases Int.lt_or_le t 2 with z | z
      · exact z
      · have := Int.mul_le_mul_of_nonneg_left z (show 0 ≤ c by omega)
        omega
  have e1 : c * (2 * d - e) = 2 * (c * d) - c * e := by grind
  have e2 : c * (2 * e - d) = 2 * (c * e) - c * d := by grind
  have e3 : c * (d + e) = c * d + c * e := Int.mul_add _ _ _
  unfold HexS at h h'
  have a1 := key (2 * d - e) (by omega) (by omega)
  have a2 := key (2 * e - d) (by omega) (by omega)
  have a3 := key (d + e) (by omega) (by omega)
  omega
theorem sz_pos {p q k : Int} (h : Sx p q k) : 0 < sz p q := by
  rw [sz_eq]
  have s1 := sq_nn (2 * p - q)
  have s2 := sq_nn q
  have e : 4 * (p * p - p * q + q * q) = (2 * p - q) * (2 * p - q) + 3 * (q * q) := by grind
  rcases Int.lt_or_le 0 (p * p - p * q + q * q) with z | z
  · exact z
  · have q0 : q * q = 0 := by omega
    have q1 : q = 0 := by rcases Int.mul_eq_zero.mp q0 with z | z <;> exact z
    have t0 : (2 * p - q) * (2 * p - q) = 0 := by omega
    have t1 : 2 * p - q = 0 := by rcases Int.mul_eq_zero.mp t0 with z | z <;> exact z
    have := h.o
    omega
/-- no tie: a multiple of u in the closed hexagon is not on this side of it -/
theorem no_tie {p q m n : Int} (g : Nat.gcd p.natAbs q.natAbs = 1) (o : (p + q) % 3 ≠ 0) (hc : 0 < p * p - p * q + q * q) (h : HexC (p * p - p * q + q * q) (p * m - q * n) (p * n + q * m - q * n)) : 2 * (p * m - q * n) - (p * n + q * m - q * n) ≠ p * p - p * q + q * q := fun z => by
  obtain ⟨s, t, b⟩ := bez g
  obtain ⟨c, ec⟩ : ∃ c, c = p * p - p * q + q * q := ⟨_, rfl⟩
  rw [← ec] at hc h z
  obtain ⟨A, eA⟩ : ∃ A, A = 2 * p - q := ⟨_, rfl⟩
  obtain ⟨B, eB⟩ : ∃ B, B = p + q := ⟨_, rfl⟩
  have z2 : A * (3 * m - A + B) = B * (B + 3 * n) := by rw [eA, eB]; grind
  obtain ⟨T, eT⟩ : ∃ T, T = (s - t) * (B + 3 * n) + (s + 2 * t) * (3 * m - A + B) := ⟨_, rfl⟩
  have b3 : (s - t) * A + (s + 2 * t) * B = 3 := by
    have : (s - t) * A + (s + 2 * t) * B = 3 * (s * p + t * q) := by rw [eA, eB]; grind
    rw [this, b] <;> rfl
  have t1 : 3 * (B + 3 * n) = A * T := by
    have : A * T = (s - t) * A * (B + 3 * n) + (s + 2 * t) * (A * (3 * m - A + B)) := by rw [eT]; grind
    rw [this, z2]
    have : (s - t) * A * (B + 3 * n) + (s + 2 * t) * (B * (B + 3 * n)) = ((s - t) * A + (s + 2 * t) * B) * (B + 3 * n) := by grind
    rw [this, b3]
  have t2 : 3 * (3 * m - A + B) = B * T := by
    have : B * T = (s - t) * (B * (B + 3 * n)) + (s + 2 * t) * B * (3 * m - A + B) := by rw [eT]; grind
    rw [this, ← z2]
    have : (s - t) * (A * (3 * m - A + B)) + (s + 2 * t) * B * (3 * m - A + B) = ((s - t) * A + (s + 2 * t) * B) * (3 * m - A + B) := by grind
    rw [this, b3]
  have x9 : 9 * (p * m - q * n) = c * (T + 3) := by
    have : 9 * (p * m - q * n) = p * (3 * (3 * m - A + B) + 3 * A - 3 * B) - q * (3 * (B + 3 * n) - 3 * B) := by grind
    rw [this, t1, t2, eA, eB, ec]
    grind
  have y9 : 9 * (p * n + q * m - q * n) = c * (2 * T - 3) := by
    have : 9 * (p * n + q * m - q * n) = (p - q) * (3 * (B + 3 * n) - 3 * B) + q * (3 * (3 * m - A + B) + 3 * A - 3 * B) := by grind
    rw [this, t1, t2, eA, eB, ec]
    grind
  generalize p * m - q * n = x at *
  generalize p * n + q * m - q * n = y at *
  obtain ⟨_, ⟨h1, h2⟩, h3, h4⟩ := h
  have key : ∀ w : Int, c * w ≤ 9 * c → w ≤ 9 := fun w hw => by
    rcases Int.lt_or_le 9 w with v | v
    · have := Int.mul_le_mul_of_nonneg_left (show 10 ≤ w by omega) (show 0 ≤ c by omega)
      omega
    · exact v
  have w1 := key (3 * T) (by have : c * (3 * T) = c * (T + 3) + c * (2 * T - 3) := by grind
                             omega)
  have w2 := key (9 - 3 * T) (by have : c * (9 - 3 * T) = c * (T + 3) - 2 * (c * (2 * T - 3)) := by grind
                                 omega)
  have t3 : T = 0 ∨ T = 1 ∨ T = 2 ∨ T = 3 := by omega
  rcases t3 with e | e | e | e <;> rw [e] at t1 <;> omega
theorem hex_strict {p q m n : Int} (g : Nat.gcd p.natAbs q.natAbs = 1) (o : (p + q) % 3 ≠ 0) (hc : 0 < p * p - p * q + q * q) (h : HexC (p * p - p * q + q * q) (p * m - q * n) (p * n + q * m - q * n)) : HexS (p * p - p * q + q * q) (p * m - q * n) (p * n + q * m - q * n) := by
  have r : ∀ m n : Int, p * (m - n) - q * m = (p * m - q * n) - (p * n + q * m - q * n) ∧ p * m + q * (m - n) - q * m = p * m - q * n := fun m n => ⟨by grind, by grind⟩
  have st : ∀ m n : Int, HexC (p * p - p * q + q * q) (p * m - q * n) (p * n + q * m - q * n) → HexC (p * p - p * q + q * q) (p * (m - n) - q * m) (p * m + q * (m - n) - q * m) := fun m n h => by
    rw [(r m n).1, (r m n).2]
    exact h.r1
  have n0 := no_tie g o hc h
  have h1 := st _ _ h
  have n1 := no_tie g o hc h1
  have h2 := st _ _ h1
  have n2 := no_tie g o hc h2
  have h3 := st _ _ h2
  have n3 := no_tie g o hc h3
  have h4 := st _ _ h3
  have n4 := no_tie g o hc h4
  have h5 := st _ _ h4
  have n5 := no_tie g o hc h5
  obtain ⟨a1, b1⟩ := r m n
  obtain ⟨a2, b2⟩ := r (m - n) m
  obtain ⟨a3, b3⟩ := r (m - n - m) (m - n)
  obtain ⟨a4, b4⟩ := r (m - n - m - (m - n)) (m - n - m)
  obtain ⟨a5, b5⟩ := r (m - n - m - (m - n) - (m - n - m)) (m - n - m - (m - n))
  clear h1 h2 h3 h4 h5 st r
  unfold HexC at h
  unfold HexS
  omega

end Tp
namespace Tp
open PySem PySem.Spec PyProof.Rows L2 DL
/-! ### six-cornered images -/
def mlX (x y r s : Int) : Int := x * r - y * s
def mlY (x y r s : Int) : Int := x * s + y * r - y * s
theorem gcd_bez {p q s t : Int} (h : s * p + t * q = 1) : Nat.gcd p.natAbs q.natAbs = 1 := by
  have d1 : ((Nat.gcd p.natAbs q.natAbs : Nat) : Int) ∣ p := Int.ofNat_dvd_left.mpr (Nat.gcd_dvd_left _ _)
  have d2 : ((Nat.gcd p.natAbs q.natAbs : Nat) : Int) ∣ q := Int.ofNat_dvd_left.mpr (Nat.gcd_dvd_right _ _)
  have d3 : ((Nat.gcd p.natAbs q.natAbs : Nat) : Int) ∣ 1 := by
    rw [← h]
    exact Int.dvd_add (Int.dvd_mul_of_dvd_right d1) (Int.dvd_mul_of_dvd_right d2)
  have := Int.le_of_dvd (by decide) d3
  have g0 : Nat.gcd p.natAbs q.natAbs ≠ 0 := fun z => by
    rw [z] at d3
    have := Int.zero_dvd.mp d3
    cases this
  omega
theorem ml_r6 (k : Nat) (x y r s : Int) : mlX (r6X k x y) (r6Y k x y) r s = r6X k (mlX x y r s) (mlY x y r s) ∧ mlY (r6X k x y) (r6Y k x y) r s = r6Y k (mlX x y r s) (mlY x y r s) := by
  match k with
  | 0 => exact ⟨rfl, rfl⟩
  | 1 => simp only [r6X, r6Y, mlX, mlY]; constructor <;> grind
  | 2 => simp only [r6X, r6Y, mlX, mlY]; constructor <;> grind
  | 3 => simp only [r6X, r6Y, mlX, mlY]; constructor <;> grind
  | 4 => simp only [r6X, r6Y, mlX, mlY]; constructor <;> grind
  | _ + 5 => simp only [r6X, r6Y, mlX, mlY]; constructor <;> grind
theorem ml_com (x y r s : Int) : mlX x y r s = mlX r s x y ∧ mlY x y r s = mlY r s x y := by unfold mlX mlY; constructor <;> grind
theorem r6_add (k : Nat) (c x y a b : Int) : r6X k (x + c * a) (y + c * b) = r6X k x y + c * r6X k a b ∧ r6Y k (x + c * a) (y + c * b) = r6Y k x y + c * r6Y k a b := by
  match k with
  | 0 => exact ⟨rfl, rfl⟩
  | 1 => simp only [r6X, r6Y]; constructor <;> grind
  | 2 => simp only [r6X, r6Y]; constructor <;> grind
  | 3 => simp only [r6X, r6Y]; constructor <;> grind
  | 4 => simp only [r6X, r6Y]; constructor <;> grind
  | _ + 5 => simp only [r6X, r6Y]; constructor <;> grind
theorem r6_r6 {a b : Int} (ha : 0 ≤ a ∧ a ≤ 5) (hb : 0 ≤ b ∧ b ≤ 5) (x y : Int) : r6X a.toNat (r6X b.toNat x y) (r6Y b.toNat x y) = r6X ((a + b) % 6).toNat x y ∧ r6Y a.toNat (r6X b.toNat x y) (r6Y b.toNat x y) = r6Y ((a + b) % 6).toNat x y := by
  rcases six ha with e | e | e | e | e | e <;> rcases six hb with g | g | g | g | g | g <;> subst e <;> subst g <;> (show _ = r6X (Int.toNat _) x y ∧ _; simp [r6X, r6Y] <;> omega)
theorem sp_ml (p q k x y : Int) : spX p q k x y = r6X k.toNat (mlX (sqA p q) (sqB p q) x y) (mlY (sqA p q) (sqB p q) x y) ∧ spY p q k x y = r6Y k.toNat (mlX (sqA p q) (sqB p q) x y) (mlY (sqA p q) (sqB p q) x y) := sp_eq p q k x y
theorem on_u (p q : Int) (k : Nat) (x y a b : Int) : ∃ m n, r6X k (mlX (sqA p q) (sqB p q) x y) (mlY (sqA p q) (sqB p q) x y) - sz p q * a = p * m - q * n ∧ r6Y k (mlX (sqA p q) (sqB p q) x y) (mlY (sqA p q) (sqB p q) x y) - sz p q * b = p * n + q * m - q * n := by
  obtain ⟨w, hw⟩ : ∃ w, w = r6X k x y := ⟨_, rfl⟩
  obtain ⟨v, hv⟩ : ∃ v, v = r6Y k x y := ⟨_, rfl⟩
  obtain ⟨e1, e2⟩ := ml_com (sqA p q) (sqB p q) x y
  obtain ⟨f1, f2⟩ := ml_r6 k x y (sqA p q) (sqB p q)
  rw [e1, e2, ← f1, ← f2, ← hw, ← hv, sz_eq]
  refine ⟨p * w - q * v - ((p - q) * a + q * b), p * v + q * w - q * v - (p * b - q * a), ?_, ?_⟩
  · unfold mlX sqA sqB; grind
  · unfold mlY sqA sqB; grind
@[irreducible] def siX (p q k x y : Int) : Int := (hexI (sz p q) (spX p q k x y) (spY p q k x y)).1
@[irreducible] def siY (p q k x y : Int) : Int := (hexI (sz p q) (spX p q k x y) (spY p q k x y)).2
theorem si_hex {p q k : Int} (h : Sx p q k) (x y : Int) : HexS (sz p q) (spX p q k x y - sz p q * siX p q k x y) (spY p q k x y - sz p q * siY p q k x y) := by
  have hc := sz_pos h
  have cl := hexI_closed (X := spX p q k x y) (Y := spY p q k x y) hc
  unfold siX siY
  generalize (hexI (sz p q) (spX p q k x y) (spY p q k x y)).1 = a at *
  generalize (hexI (sz p q) (spX p q k x y) (spY p q k x y)).2 = b at *
  obtain ⟨m, n, e1, e2⟩ := on_u p q k.toNat x y a b
  obtain ⟨g1, g2⟩ := sp_ml p q k x y
  rw [← g1] at e1
  rw [← g2] at e2
  rw [e1, e2] at cl ⊢
  rw [sz_eq] at cl hc ⊢
  exact hex_strict h.g h.o hc cl
theorem si_of {p q k x y a b : Int} (h : Sx p q k) (g : HexS (sz p q) (spX p q k x y - sz p q * a) (spY p q k x y - sz p q * b)) : siX p q k x y = a ∧ siY p q k x y = b := hex_uniq (si_hex h x y) g (sz_pos h)
/-! the sixths -/
theorem sx_rot {p q k : Int} (h : Sx p q k) (j : Int) : Sx p q ((k + j) % 6) := ⟨h.p1, h.p2, h.q1, h.q2, h.d1, h.d2, h.o, h.g, by omega, by omega⟩
/-! back -/
theorem sx_bk {p q k : Int} (h : Sx p q k) : Sx (p - q) (-q) (-k % 6) := by
  have := h.o
  have := h.p1
  have := h.p2
  have := h.q1
  have := h.q2
  have := h.d1
  have := h.d2
  obtain ⟨s, t, b⟩ := bez h.g
  exact ⟨by omega, by omega, by omega, by omega, by omega, by omega, by omega, gcd_bez (s := s) (t := -(s + t)) (by rw [← b]; grind), by omega, by omega⟩
theorem bk6 {p q k : Int} (h : Sx p q k) : (p - q - -q = p ∧ - -q = q) ∧ -(-k % 6) % 6 = k := by
  have := h.k1
  have := h.k2
  omega
theorem sz_bk (p q : Int) : sz (p - q) (-q) = sz p q := by rw [sz_eq, sz_eq]; grind
theorem sq_bk (p q r s : Int) : mlX (sqA (p - q) (-q)) (sqB (p - q) (-q)) (mlX (sqA p q) (sqB p q) r s) (mlY (sqA p q) (sqB p q) r s) = sz p q * sz p q * r ∧ mlY (sqA (p - q) (-q)) (sqB (p - q) (-q)) (mlX (sqA p q) (sqB p q) r s) (mlY (sqA p q) (sqB p q) r s) = sz p q * sz p q * s := by
  have a1 : sqA (p - q) (-q) = p * p - 2 * (p * q) := by unfold sqA; grind
  have a2 : sqB (p - q) (-q) = q * q - 2 * (p * q) := by unfold sqB; grind
  rw [a1, a2, sz_eq]
  unfold mlX mlY sqA sqB
  constructor <;> grind
theorem ml_r6r (k : Nat) (x y r s : Int) : mlX r s (r6X k x y) (r6Y k x y) = r6X k (mlX r s x y) (mlY r s x y) ∧ mlY r s (r6X k x y) (r6Y k x y) = r6Y k (mlX r s x y) (mlY r s x y) := by
  rw [(ml_com r s (r6X k x y) (r6Y k x y)).1, (ml_com r s (r6X k x y) (r6Y k x y)).2, (ml_r6 k x y r s).1, (ml_r6 k x y r s).2, (ml_com x y r s).1, (ml_com x y r s).2]
  exact ⟨rfl, rfl⟩
theorem sp_bk {p q k : Int} (h : Sx p q k) (x y : Int) : spX (p - q) (-q) (-k % 6) (spX p q k x y) (spY p q k x y) = sz p q * sz p q * x ∧ spY (p - q) (-q) (-k % 6) (spX p q k x y) (spY p q k x y) = sz p q * sz p q * y := by
  obtain ⟨f1, f2⟩ := sp_ml (p - q) (-q) (-k % 6) (spX p q k x y) (spY p q k x y)
  rw [f1, f2]
  obtain ⟨e1, e2⟩ := sp_ml p q k x y
  rw [e1, e2, (ml_r6r _ _ _ _ _).1, (ml_r6r _ _ _ _ _).2, (sq_bk p q x y).1, (sq_bk p q x y).2, (r6_r6 (a := -k % 6) ⟨by omega, by omega⟩ ⟨h.k1, h.k2⟩ _ _).1, (r6_r6 (a := -k % 6) ⟨by omega, by omega⟩ ⟨h.k1, h.k2⟩ _ _).2, show (-k % 6 + k) % 6 = 0 by omega]
  exact ⟨rfl, rfl⟩
/-! kin: u times a sixth -/
theorem sx_kin {p q k : Int} (h : Sx p q k) (j : Nat) (l : Int) (hl : 0 ≤ l ∧ l ≤ 5) : Sx (r6X j p q) (r6Y j p q) l := by
  have := h.o
  have := h.p1
  have := h.p2
  have := h.q1
  have := h.q2
  have := h.d1
  have := h.d2
  obtain ⟨s, t, b⟩ := bez h.g
  match j with
  | 0 => show Sx p q l; exact ⟨h.p1, h.p2, h.q1, h.q2, h.d1, h.d2, h.o, h.g, hl.1, hl.2⟩
  | 1 => exact ⟨by show _ ≤ p - q; omega, by show p - q ≤ _; omega, by show _ ≤ p; omega, by show p ≤ _; omega, by show _ ≤ p - q - p; omega, by show p - q - p ≤ _; omega, by show (p - q + p) % 3 ≠ 0; omega, gcd_bez (p := p - q) (q := p) (s := -t) (t := s + t) (by rw [← b]; grind), hl.1, hl.2⟩
  | 2 => exact ⟨by show _ ≤ -q; omega, by show -q ≤ _; omega, by show _ ≤ p - q; omega, by show p - q ≤ _; omega, by show _ ≤ -q - (p - q); omega, by show -q - (p - q) ≤ _; omega, by show (-q + (p - q)) % 3 ≠ 0; omega, gcd_bez (p := -q) (q := p - q) (s := -(s + t)) (t := s) (by rw [← b]; grind), hl.1, hl.2⟩
  | 3 => exact ⟨by show _ ≤ -p; omega, by show -p ≤ _; omega, by show _ ≤ -q; omega, by show -q ≤ _; omega, by show _ ≤ -p - -q; omega, by show -p - -q ≤ _; omega, by show (-p + -q) % 3 ≠ 0; omega, gcd_bez (p := -p) (q := -q) (s := -s) (t := -t) (by rw [← b]; grind), hl.1, hl.2⟩
  | 4 => exact ⟨by show _ ≤ q - p; omega, by show q - p ≤ _; omega, by show _ ≤ -p; omega, by show -p ≤ _; omega, by show _ ≤ q - p - -p; omega, by show q - p - -p ≤ _; omega, by show (q - p + -p) % 3 ≠ 0; omega, gcd_bez (p := q - p) (q := -p) (s := t) (t := -(s + t)) (by rw [← b]; grind), hl.1, hl.2⟩
  | _ + 5 => exact ⟨by show _ ≤ q; omega, by show q ≤ _; omega, by show _ ≤ q - p; omega, by show q - p ≤ _; omega, by show _ ≤ q - (q - p); omega, by show q - (q - p) ≤ _; omega, by show (q + (q - p)) % 3 ≠ 0; omega, gcd_bez (p := q) (q := q - p) (s := s + t) (t := -s) (by rw [← b]; grind), hl.1, hl.2⟩
end Tp
namespace Tp
open PySem PySem.Spec PyProof.Rows L2 DL
/-! ### a number without a common divisor is never far -/
/-! what the defs of six-cornered turns and the laws' helpers promise -/
def con_is6 : Con := fun ds S Q => ∃ p q k : Int, ds = [.tup [.int p, .int q, .int k]] ∧ Sx p q k ∧ Q (.bl true) S
def con_chk6 : Con := fun ds S Q => ∃ p q k : Int, ds = [.tup [.int p, .int q, .int k]] ∧ Sx p q k ∧ Q .non S
def con_size : Con := fun ds S Q => ∃ x y : Int, ds = [.int x, .int y] ∧ (Bd 2000 x ∧ Bd 2000 y) ∧ Q (.int (x * x - x * y + y * y)) S
def con_times6 : Con := fun ds S Q => ∃ x y r s : Int, ds = [.tup [.int x, .int y], .tup [.int r, .int s]] ∧ (Bd 2000 x ∧ Bd 2000 y ∧ Bd 2000 r ∧ Bd 2000 s) ∧ Q (.tup [.int (x * r - y * s), .int (x * s + y * r - y * s)]) S
def con_place6 : Con := fun ds S Q => ∃ p q k x y : Int, ds = [.tup [.int p, .int q, .int k], .tup [.int x, .int y]] ∧ Sx p q k ∧ (Bd 800 x ∧ Bd 800 y) ∧ Q (.tup [.int (spX p q k x y), .int (spY p q k x y), .int (sz p q)]) S
def con_img6 : Con := fun ds S Q => ∃ p q k x y : Int, ds = [.tup [.int p, .int q, .int k], .tup [.int x, .int y]] ∧ Sx p q k ∧ (Bd 800 x ∧ Bd 800 y) ∧ Q (.tup [.int (siX p q k x y), .int (siY p q k x y)]) S
def con_back6 : Con := fun ds S Q => ∃ p q k : Int, ds = [.tup [.int p, .int q, .int k]] ∧ Sx p q k ∧ Q (.tup [.int (p - q), .int (-q), .int (-k % 6)]) S
theorem Bd.r6X {n : Nat} {x y : Int} (k : Nat) (h : Bd n x) (g : Bd n y) : Bd (n + 1) (r6X k x y) := by
  match k with
  | 0 => exact h.up (by omega)
  | 1 => exact (h.sub g).up (by omega)
  | 2 => exact g.neg.up (by omega)
  | 3 => exact h.neg.up (by omega)
  | 4 => exact (g.sub h).up (by omega)
  | _ + 5 => exact g.up (by omega)
theorem Bd.r6Y {n : Nat} {x y : Int} (k : Nat) (h : Bd n x) (g : Bd n y) : Bd (n + 1) (r6Y k x y) := by
  match k with
  | 0 => exact g.up (by omega)
  | 1 => exact h.up (by omega)
  | 2 => exact (h.sub g).up (by omega)
  | 3 => exact g.neg.up (by omega)
  | 4 => exact h.neg.up (by omega)
  | _ + 5 => exact (g.sub h).up (by omega)
theorem Sx.bA {p q k : Int} (h : Sx p q k) : Bd 110 (sqA p q) := by unfold sqA; exact ((h.bp.mul h.bp).sub (h.bq.mul h.bq)).up (by decide)
theorem Sx.bB {p q k : Int} (h : Sx p q k) : Bd 110 (sqB p q) := by unfold sqB; exact (((h.bp.mul h.bq).add (h.bq.mul h.bp)).sub (h.bq.mul h.bq)).up (by decide)
theorem Sx.bc {p q k : Int} (h : Sx p q k) : Bd 110 (sz p q) := by rw [sz_eq]; exact (((h.bp.mul h.bp).sub (h.bp.mul h.bq)).add (h.bq.mul h.bq)).up (by decide)
theorem sp_bd {p q k x y : Int} {n : Nat} (h : Sx p q k) (bx : Bd n x) (by' : Bd n y) : Bd (n + 115) (spX p q k x y) ∧ Bd (n + 115) (spY p q k x y) := by
  obtain ⟨e1, e2⟩ := sp_eq p q k x y
  rw [e1, e2]
  have b1 : Bd (n + 114) (sqA p q * x - sqB p q * y) := ((h.bA.mul bx).sub (h.bB.mul by')).up (by omega)
  have b2 : Bd (n + 114) (sqA p q * y + sqB p q * x - sqB p q * y) := (((h.bA.mul by').add (h.bB.mul bx)).sub (h.bB.mul by')).up (by omega)
  exact ⟨Bd.r6X _ b1 b2, Bd.r6Y _ b1 b2⟩
theorem hexI_bd {c X Y : Int} {n : Nat} (bx : Bd n X) (by' : Bd n Y) : Bd (n + 2) (hexI c X Y).1 ∧ Bd (n + 2) (hexI c X Y).2 := by
  have b1 : Bd n (X / c) := bx.div
  have b2 : Bd n (Y / c) := by'.div
  have l1 : Bd 1 1 := by unfold Bd; decide
  have c1 : Bd (n + 2) (X / c + 1) := (b1.add l1).up (by omega)
  have c2 : Bd (n + 2) (Y / c + 1) := (b2.add l1).up (by omega)
  have b1' : Bd (n + 2) (X / c) := b1.up (by omega)
  have b2' : Bd (n + 2) (Y / c) := b2.up (by omega)
  unfold hexI
  split
  · exact ⟨b1', b2'⟩
  · split
    · exact ⟨c1, c2⟩
    · split
      · exact ⟨c1, b2'⟩
      · exact ⟨b1', c2⟩
theorem si_bd {p q k x y : Int} {n : Nat} (h : Sx p q k) (bx : Bd n x) (by' : Bd n y) : Bd (n + 117) (siX p q k x y) ∧ Bd (n + 117) (siY p q k x y) := by
  obtain ⟨b1, b2⟩ := sp_bd h bx by'
  unfold siX siY
  exact hexI_bd b1 b2
theorem mx3_le6 {a b c m : Int} (h1 : a ≤ m) (h2 : b ≤ m) (h3 : c ≤ m) : ¬ mx3 a b c > m := by
  unfold mx3
  split <;> split <;> omega
theorem abs_le2 {i c : Int} (h : -c ≤ i) (g : i ≤ c) : (if i < 0 then -i else i) ≤ c := by split <;> omega
theorem ix_si {k : Int} {S : Sto} {Q : D → Sto → Prop} (h : 0 ≤ k ∧ k ≤ 5) (q : Q (.tup [.int (r6X k.toNat 1 0), .int (r6Y k.toNat 1 0)]) S) : ixP (.tup [.tup [.int 1, .int 0], .tup [.int 1, .int 1], .tup [.int 0, .int 1], .tup [.int (-1), .int 0], .tup [.int (-1), .int (-1)], .tup [.int 0, .int (-1)]]) (.int k) S Q := by
  rcases six h with e | e | e | e | e | e <;> subst e <;> exact ix_t q rfl
theorem pl_val {p q k : Int} (hk : 0 ≤ k ∧ k ≤ 5) (x y : Int) {S : Sto} {Q : D → Sto → Prop} (q9 : Q (.tup [.int (spX p q k x y), .int (spY p q k x y), .int (sz p q)]) S) : Q (.tup [.int (((p * p - q * q) * r6X k.toNat 1 0 - (p * q + q * p - q * q) * r6Y k.toNat 1 0) * x - ((p * p - q * q) * r6Y k.toNat 1 0 + (p * q + q * p - q * q) * r6X k.toNat 1 0 - (p * q + q * p - q * q) * r6Y k.toNat 1 0) * y), .int (((p * p - q * q) * r6X k.toNat 1 0 - (p * q + q * p - q * q) * r6Y k.toNat 1 0) * y + ((p * p - q * q) * r6Y k.toNat 1 0 + (p * q + q * p - q * q) * r6X k.toNat 1 0 - (p * q + q * p - q * q) * r6Y k.toNat 1 0) * x - ((p * p - q * q) * r6Y k.toNat 1 0 + (p * q + q * p - q * q) * r6X k.toNat 1 0 - (p * q + q * p - q * q) * r6Y k.toNat 1 0) * y), .int (p * p - p * q + q * q)]) S := by
  rw [(sp_raw hk p q x y).1, (sp_raw hk p q x y).2, ← sz_eq]
  exact q9
end Tp
namespace Tp
open PySem PySem.Spec PyProof.Rows L2 DL
/-! ### six-cornered turns: what is near -/
/-! moved pixels -/
theorem sp_add (p q k x y a b : Int) : spX p q k (x + a) (y + b) = spX p q k x y + spX p q k a b ∧ spY p q k (x + a) (y + b) = spY p q k x y + spY p q k a b := by
  obtain ⟨e1, e2⟩ := sp_ml p q k (x + a) (y + b)
  obtain ⟨f1, f2⟩ := sp_ml p q k x y
  obtain ⟨g1, g2⟩ := sp_ml p q k a b
  rw [e1, e2, f1, f2, g1, g2]
  have m1 : mlX (sqA p q) (sqB p q) (x + a) (y + b) = mlX (sqA p q) (sqB p q) x y + 1 * mlX (sqA p q) (sqB p q) a b := by unfold mlX; grind
  have m2 : mlY (sqA p q) (sqB p q) (x + a) (y + b) = mlY (sqA p q) (sqB p q) x y + 1 * mlY (sqA p q) (sqB p q) a b := by unfold mlY; grind
  rw [m1, m2, (r6_add _ _ _ _ _ _).1, (r6_add _ _ _ _ _ _).2, Int.one_mul, Int.one_mul]
  exact ⟨rfl, rfl⟩
end Tp
namespace Tp
open PySem PySem.Spec PyProof.Rows L2 DL
/-! ### six-cornered: the laws' own words -/
def rnd6 (x y : Int) : List D := [.tup [.int (x + 1), .int y], .tup [.int (x + 1), .int (y + 1)], .tup [.int x, .int (y + 1)], .tup [.int (x - 1), .int y], .tup [.int (x - 1), .int (y - 1)], .tup [.int x, .int (y - 1)]]
def con_round : Con := fun ds S Q => ∃ x y : Int, ds = [.tup [.int x, .int y]] ∧ Q (.lst (rnd6 x y)) S
/-! nearest -/
end Tp
namespace Tp
open PySem PySem.Spec PyProof.Rows L2 DL
/-! ### scales: which classes meet -/
def cmT (a b n : Int) : Int := ((Nat.gcd ((Nat.gcd a.natAbs b.natAbs : Nat) : Int).natAbs n.natAbs : Nat) : Int)
def cmN (a b n : Int) : Int := ((Nat.gcd (n / cmT a b n).natAbs (a / cmT a b n * (a / cmT a b n) + b / cmT a b n * (b / cmT a b n)).natAbs : Nat) : Int)
theorem cmT_dvd (a b n : Int) : cmT a b n ∣ a ∧ cmT a b n ∣ b ∧ cmT a b n ∣ n := by
  unfold cmT
  have h1 : Nat.gcd ((Nat.gcd a.natAbs b.natAbs : Nat) : Int).natAbs n.natAbs ∣ Nat.gcd a.natAbs b.natAbs := Nat.gcd_dvd_left _ _
  refine ⟨Int.ofNat_dvd_left.mpr (Nat.dvd_trans h1 (Nat.gcd_dvd_left _ _)), Int.ofNat_dvd_left.mpr (Nat.dvd_trans h1 (Nat.gcd_dvd_right _ _)), Int.ofNat_dvd_left.mpr (Nat.gcd_dvd_right _ _)⟩
theorem cmT_pos {a b n : Int} (h : 1 ≤ n) : 1 ≤ cmT a b n := by
  unfold cmT
  have := Nat.gcd_pos_of_pos_right ((Nat.gcd a.natAbs b.natAbs : Nat) : Int).natAbs (show 0 < n.natAbs by omega)
  omega
/-- k: Y is k X, modulo N, for the multiples of a + b i -/
def IsK (a b n k : Int) : Prop := 0 ≤ k ∧ k < cmN a b n ∧ (b / cmT a b n * k + a / cmT a b n) % cmN a b n = 0
/-! the box of what is rounded to 0, together with what is r further -/
end Tp
namespace Tp
open PySem PySem.Spec PyProof.Rows L2 DL
/-! ### scales: the pixels that are led to one -/
def ltP (s t : Int × Int) : Prop := s.1 < t.1 ∨ (s.1 = t.1 ∧ s.2 < t.2)
instance (s t : Int × Int) : Decidable (ltP s t) := by unfold ltP; infer_instance
end Tp
namespace Tp
open PySem PySem.Spec PyProof.Rows L2 DL
/-! ### scales: what the defs promise -/
theorem cmN_le {a b n : Int} (h : 1 ≤ n) : cmT a b n ≤ n ∧ cmN a b n ≤ n := by
  obtain ⟨t1, t2, t3⟩ := cmT_dvd a b n
  have tp := cmT_pos (a := a) (b := b) h
  refine ⟨Int.le_of_dvd (by omega) t3, ?_⟩
  have e := Int.mul_ediv_cancel' t3
  have np : 0 < n / cmT a b n := by
    rcases Int.lt_or_le 0 (n / cmT a b n) with z | z
    · exact z
    · have := Int.mul_le_mul_of_nonneg_left z (show 0 ≤ cmT a b n by omega)
      omega
  have d : cmN a b n ∣ n / cmT a b n := by
    unfold cmN
    exact Int.ofNat_dvd_left.mpr (Nat.gcd_dvd_left _ _)
  have l1 := Int.le_of_dvd np d
  have l2 : n / cmT a b n ≤ n := Int.ediv_le_self _ (by omega)
  omega
theorem IsK.bk {a b n k : Int} (h : 1 ≤ n) (bn : Bd 100 n) (hk : IsK a b n k) : Bd 100 k := Bd.of_le hk.1 (show k ≤ n by have := hk.2.1; have := (cmN_le (a := a) (b := b) h).2; omega) bn
end Tp
namespace Tp
open PySem PySem.Spec PyProof.Rows L2 DL
/-! ### scales: the law of sources -/
end Tp
namespace Tp
open PySem PySem.Spec PyProof.Rows L2 DL
/-! ### two bare pixels are never neighbours -/
end Tp
namespace Tp
open PySem PySem.Spec PyProof.Rows L2 DL
/-! ### bare pixels, meetings and sources along a row -/
end Tp
namespace Tp
open PySem PySem.Spec PyProof.Rows L2 DL
/-! ### scales that are turns: the lattice, meeting numbers -/
end Tp
namespace Tp
open PySem PySem.Spec PyProof.Rows L2 DL
/-! ### scales that are turns: what the program says of both -/
end Tp
namespace Tp
open PySem PySem.Spec PyProof.Rows L2 DL
/-! ### lattice points in a box -/
end Tp
namespace Tp
open PySem PySem.Spec PyProof.Rows L2 DL
/-! ### the meeting numbers of a scale's kin -/
end Tp
namespace Tp
open PySem PySem.Spec PyProof.Rows L2 DL
/-! ### a scale's kin -/
end Tp
namespace Tp
open PySem PySem.Spec PyProof.Rows L2 DL
/-! ### the meeting numbers of a scale as boxes -/
end Tp
namespace Tp
open PySem PySem.Spec PyProof.Rows L2 DL
/-! ### k87: bounds, more than once around, whole factors -/
end Tp
namespace Tp
open PySem PySem.Spec PyProof.Rows L2 DL
/-! ### whole factors: one class, no meeting, one source; k87's helpers -/
end Tp
namespace Tp
open PySem PySem.Spec PyProof.Rows L2 DL
/-! ### any values: kinds, texts -/
def isIntD : D → Bool
  | .int _ => true
  | .bl _ => true
  | _ => false
def isBlD : D → Bool
  | .bl _ => true
  | _ => false
def isTupD : D → Bool
  | .tup _ => true
  | _ => false
def isLstD : D → Bool
  | .lst _ => true
  | _ => false
def isStrD : D → Bool
  | .str _ => true
  | _ => false
def wholeD : D → Bool
  | .int _ => true
  | _ => false
structure AnyV (K : PySem.W.Frag) (d : D) : Prop where
  ex : ∃ t, TyV K d t ∧ PySem.W.kitOne K t (.type "int") = some (isIntD d) ∧ PySem.W.kitOne K t (.type "bool") = some (isBlD d) ∧ PySem.W.kitOne K t (.type "tuple") = some (isTupD d) ∧ PySem.W.kitOne K t (.type "list") = some (isLstD d) ∧ PySem.W.kitOne K t (.type "str") = some (isStrD d)
def pvD : D → Bool
  | .non => true
  | .bl _ => true
  | .int _ => true
  | .str _ => true
  | .tup _ => true
  | .lst _ => true
  | _ => false
theorem kt_NoneType : kitB "NoneType" "int" = some false ∧ kitB "NoneType" "bool" = some false ∧ kitB "NoneType" "tuple" = some false ∧ kitB "NoneType" "list" = some false ∧ kitB "NoneType" "str" = some false := by decide +kernel
theorem kt_bool : kitB "bool" "int" = some true ∧ kitB "bool" "bool" = some true ∧ kitB "bool" "tuple" = some false ∧ kitB "bool" "list" = some false ∧ kitB "bool" "str" = some false := by decide +kernel
theorem kt_int : kitB "int" "int" = some true ∧ kitB "int" "bool" = some false ∧ kitB "int" "tuple" = some false ∧ kitB "int" "list" = some false ∧ kitB "int" "str" = some false := by decide +kernel
theorem kt_str : kitB "str" "int" = some false ∧ kitB "str" "bool" = some false ∧ kitB "str" "tuple" = some false ∧ kitB "str" "list" = some false ∧ kitB "str" "str" = some true := by decide +kernel
theorem kt_tuple : kitB "tuple" "int" = some false ∧ kitB "tuple" "bool" = some false ∧ kitB "tuple" "tuple" = some true ∧ kitB "tuple" "list" = some false ∧ kitB "tuple" "str" = some false := by decide +kernel
theorem kt_list : kitB "list" "int" = some false ∧ kitB "list" "bool" = some false ∧ kitB "list" "tuple" = some false ∧ kitB "list" "list" = some true ∧ kitB "list" "str" = some false := by decide +kernel
theorem kt_dict : kitB "dict" "int" = some false ∧ kitB "dict" "bool" = some false ∧ kitB "dict" "tuple" = some false ∧ kitB "dict" "list" = some false ∧ kitB "dict" "str" = some false := by decide +kernel
theorem any_pv {K : PySem.W.Frag} {d : D} (h : pvD d = true) : AnyV K d := by
  cases d with
  | non => exact ⟨_, ⟨_, rfl, rfl⟩, kit_ty kt_NoneType.1, kit_ty kt_NoneType.2.1, kit_ty kt_NoneType.2.2.1, kit_ty kt_NoneType.2.2.2.1, kit_ty kt_NoneType.2.2.2.2⟩
  | bl b => exact ⟨_, ⟨_, rfl, rfl⟩, kit_ty kt_bool.1, kit_ty kt_bool.2.1, kit_ty kt_bool.2.2.1, kit_ty kt_bool.2.2.2.1, kit_ty kt_bool.2.2.2.2⟩
  | int b => exact ⟨_, ⟨_, rfl, rfl⟩, kit_ty kt_int.1, kit_ty kt_int.2.1, kit_ty kt_int.2.2.1, kit_ty kt_int.2.2.2.1, kit_ty kt_int.2.2.2.2⟩
  | str b => exact ⟨_, ⟨_, rfl, rfl⟩, kit_ty kt_str.1, kit_ty kt_str.2.1, kit_ty kt_str.2.2.1, kit_ty kt_str.2.2.2.1, kit_ty kt_str.2.2.2.2⟩
  | tup b => exact ⟨_, ⟨_, rfl, rfl⟩, kit_ty kt_tuple.1, kit_ty kt_tuple.2.1, kit_ty kt_tuple.2.2.1, kit_ty kt_tuple.2.2.2.1, kit_ty kt_tuple.2.2.2.2⟩
  | lst b => exact ⟨_, ⟨_, rfl, rfl⟩, kit_ty kt_list.1, kit_ty kt_list.2.1, kit_ty kt_list.2.2.1, kit_ty kt_list.2.2.2.1, kit_ty kt_list.2.2.2.2⟩
  | raw b => cases h
  | ext b => cases h
  | scr b => cases h
theorem any_dic {K : PySem.W.Frag} {kvs : List (Key × Int)} : AnyV K (dicD kvs) := ⟨_, kty_dic, kit_ty kt_dict.1, kit_ty kt_dict.2.1, kit_ty kt_dict.2.2.1, kit_ty kt_dict.2.2.2.1, kit_ty kt_dict.2.2.2.2⟩
/-- its parts, if it is a tuple, as well -/
structure AnyT (K : PySem.W.Frag) (d : D) : Prop where
  v : AnyV K d
  p : ∀ l, d = .tup l → ∀ x ∈ l, AnyV K x
def ptD : D → Bool
  | .tup l => l.all pvD
  | d => pvD d
theorem any_pt {K : PySem.W.Frag} {d : D} (h : ptD d = true) : AnyT K d := by
  refine ⟨any_pv ?_, fun l e x hx => ?_⟩
  · cases d <;> first | rfl | exact h
  · subst e
    exact any_pv (List.all_eq_true.mp h x hx)
theorem any_ext {K : PySem.W.Frag} {Q : Hp → V → Prop} (h : AnyV K (.ext Q)) : AnyT K (.ext Q) := ⟨h, fun _ e => nomatch e⟩
/-! ### what is shown -/
section
variable {P : Program} {w : World} {K : PySem.W.Frag}
end
section
variable {P : Program} {w : World} {K : PySem.W.Frag}
end
/-! ### what values are -/
def wtB (n : Int) : D → Bool
  | .tup l => decide ((l.length : Int) = n) && l.all wholeD
  | _ => false
def pixB (d : D) : Bool := wtB 2 d
theorem wt_map : ∀ (l : List D), (l.map fun d => D.bl (wholeD d)) = (l.map wholeD).map D.bl := fun l => by rw [List.map_map]; rfl
theorem all_id (l : List D) : (l.map wholeD).all id = l.all wholeD := by
  induction l with
  | nil => rfl
  | cons d ds ih => rw [List.map_cons, List.all_cons, List.all_cons, ih]; rfl
/-! ### contracts of the checks over any values -/
def con_wholeA (K : PySem.W.Frag) : Con := fun ds S Q => ∃ d, ds = [d] ∧ AnyV K d ∧ Q (.bl (wholeD d)) S
def con_wtA (K : PySem.W.Frag) : Con := fun ds S Q => ∃ d n, ds = [d, .int n] ∧ AnyT K d ∧ (∀ l, d = .tup l → l.length ≤ 1000) ∧ Q (.bl (wtB n d)) S
def con_pixA (K : PySem.W.Frag) : Con := fun ds S Q => ∃ d, ds = [d] ∧ AnyT K d ∧ (∀ l, d = .tup l → l.length ≤ 1000) ∧ Q (.bl (pixB d)) S
/-- any value that is handed to the program -/
structure Any (K : PySem.W.Frag) (d : D) : Prop where
  t : AnyT K d
  l : ∀ l, d = .tup l → l.length ≤ 1000
theorem Any.pt {K : PySem.W.Frag} {d : D} (h : ptD d = true) (k : ∀ l, d = .tup l → l.length ≤ 1000 := by intro l e; first | (cases e; decide) | cases e) : Any K d := ⟨any_pt h, k⟩
theorem Any.ext {K : PySem.W.Frag} {Q : Hp → V → Prop} (h : AnyV K (.ext Q)) : Any K (.ext Q) := ⟨any_ext h, fun _ e => nomatch e⟩
theorem Any.i3 {K : PySem.W.Frag} {p q k : Int} : Any K (.tup [.int p, .int q, .int k]) := .pt rfl (fun l e => by cases e; exact Nat.le_add_left 3 997)
theorem Any.i2 {K : PySem.W.Frag} {p q : Int} : Any K (.tup [.int p, .int q]) := .pt rfl (fun l e => by cases e; exact Nat.le_add_left 2 998)
def con_chkX (K : PySem.W.Frag) (b : D → Bool) (C : Addr) : ConX := fun ds S Q R => ∃ d, ds = [d] ∧ Any K d ∧ (b d = false → R ⟨.ref C, none⟩ S) ∧ (b d = true → Q .non S)
/-! ### errors told apart -/
/-! ### plain values, looked at by the kernel -/
theorem bt_ValueError : bootBuiltins "ValueError" = some (.type "ValueError") := by decide +kernel

end Tp
namespace Tp
open PySem PySem.Spec PyProof.Rows L2 DL
/-! ### k06: what is told -/
/-! ### the eight answers -/
end Tp
namespace Tp
open PySem PySem.Spec PyProof.Rows L2 DL
/-! ### k18: what is told of losses -/
end Tp
namespace Tp
open PySem PySem.Spec PyProof.Rows L2 DL
/-! ### arguments that are checked one behind the other -/
/-- bounds of a pair -/
def PB (B : Nat) (d : D) : Prop := ∀ x y : Int, d = .tup [.int x, .int y] → Bd B x ∧ Bd B y
theorem PB.up {A B : Nat} {d : D} (h : PB A d) (k : A ≤ B) : PB B d := fun x y e => ⟨(h x y e).1.up k, (h x y e).2.up k⟩
/-! ### rests, of any value -/
/-! ### k11: what is told -/
end Tp
namespace Tp
open PySem PySem.Spec PyProof.Rows L2 DL
/-! ### errors with a field, told -/
/-! ### one turn checked first -/
/-! ### k28: what is told of misses -/
end Tp
namespace Tp
open PySem PySem.Spec PyProof.Rows L2 DL
/-! ### k24: what is told of losses and sources -/
end Tp
namespace Tp
open PySem PySem.Spec PyProof.Rows L2 DL
/-! ### k50: scales, of any value -/
section
variable {P : Program} {w : World} {K : PySem.W.Frag}
end
end Tp
namespace Tp
open PySem PySem.Spec PyProof.Rows L2 DL
/-! ### k55: six-cornered turns, of any value -/
/-! strips, and what lies within -/
def t3D (t : Int × Int × Int) : D := .tup [.int t.1, .int t.2.1, .int t.2.2]
def StO (t : Int × Int × Int) : Prop := Bd 60 t.1 ∧ (0 < t.2.1 ∧ Bd 60 t.2.1) ∧ Bd 120 t.2.2
theorem t3_at {ts : List (Int × Int × Int)} {k : Nat} {d : D} (h : (ts.map t3D)[k]? = some d) : ∃ i j m : Int, ts[k]? = some (i, j, m) ∧ d = .tup [.int i, .int j, .int m] := by
  rw [List.getElem?_map] at h
  obtain ⟨⟨i, j, m⟩, h1, h2⟩ := Option.map_eq_some_iff.mp h
  exact ⟨i, j, m, h1, h2.symm⟩
theorem no_zero {r s : Int} (h : (r + s) % 3 ≠ 0) : -r - s ≠ 0 ∧ 2 * r - s ≠ 0 ∧ r - 2 * s ≠ 0 := ⟨by omega, by omega, by omega⟩
theorem slope_stO {i j x y : Int} (hj : j ≠ 0) (bi : Bd 54 i) (bj : Bd 54 j) (bx : Bd 51 x) (by' : Bd 51 y) (t : Int × Int × Int) (h : t = (i, j, i * x + j * y) ∧ 0 < j ∨ t = (-i, -j, -(i * x + j * y)) ∧ ¬ 0 < j) : StO t := by
  have b : Bd 119 (i * x + j * y) := ((bi.mul bx).add (bj.mul by')).up (by decide)
  rcases h with ⟨rfl, h⟩ | ⟨rfl, h⟩
  · exact ⟨bi.up (by decide), ⟨h, bj.up (by decide)⟩, b.up (by decide)⟩
  · exact ⟨bi.neg.up (by decide), ⟨by show 0 < -j; omega, bj.neg.up (by decide)⟩, b.neg.up (by decide)⟩
/-! contracts -/
/-! what is told -/
section
variable {P : Program} {w : World} {K : PySem.W.Frag}
end
theorem reach_le {c r : Int} (c0 : 0 ≤ c) (c1 : c ≤ 2000) (h : r = ((Float64.isqrt (4 * c).toNat : Nat) : Int) / 3) : 0 ≤ r ∧ r ≤ 29 := by
  have h1 := (Float64.isqrt_spec (4 * c).toNat).1
  have h2 : Float64.isqrt (4 * c).toNat < 90 := by
    rcases Nat.lt_or_ge (Float64.isqrt (4 * c).toNat) 90 with z | z
    · exact z
    · have := Nat.mul_le_mul z z
      omega
  omega
theorem strip_bdL {ts : List (Int × Int × Int)} {c m x : Int} (hts : ∀ t ∈ ts, StO t) (bc : Bd 11 c) (bm : Bd 10 m) (h : x ∈ ts.map fun t : Int × Int × Int => -((c - 1 + t.1 * m + t.2.2) / t.2.1)) : Bd 185 x := by
  obtain ⟨⟨i, j, k⟩, ht, rfl⟩ := List.mem_map.mp h
  obtain ⟨bi, ⟨hj, bj⟩, bk⟩ := hts _ ht
  have b : Bd 184 (c - 1 + i * m + k) := ((((bc.sub (show Bd 11 (1 : Int) by unfold Bd; decide)).add (bi.mul bm)).add bk)).up (by decide)
  exact (Bd.div b).neg.up (by decide)
theorem strip_bdG {ts : List (Int × Int × Int)} {c m x : Int} (hts : ∀ t ∈ ts, StO t) (bc : Bd 11 c) (bm : Bd 10 m) (h : x ∈ ts.map fun t : Int × Int × Int => (c - 1 - t.1 * m - t.2.2) / t.2.1) : Bd 185 x := by
  obtain ⟨⟨i, j, k⟩, ht, rfl⟩ := List.mem_map.mp h
  obtain ⟨bi, ⟨hj, bj⟩, bk⟩ := hts _ ht
  have b : Bd 184 (c - 1 - i * m - k) := ((((bc.sub (show Bd 11 (1 : Int) by unfold Bd; decide)).sub (bi.mul bm)).sub bk)).up (by decide)
  exact (Bd.div b).up (by decide)
theorem step_mm {α : Type} (F : α → Int) {os : List α} {k : Nat} {v : α} (h : os[k]? = some v) : ((os.take k).map F).map D.int ++ [D.int (F v)] = ((os.take (k + 1)).map F).map D.int := by
  rw [List.take_add_one, h]
  simp

end Tp
namespace Tp
open PySem PySem.Spec PyProof.Rows L2 DL
/-! ### k01: any thing, recognized -/
section
variable {P : Program} {w : World} {K : PySem.W.Frag}
end
end Tp
namespace Tp
open PySem PySem.Spec PyProof.Rows L2 DL
/-! ### k07: rests, told of any thing -/
section
variable {P : Program} {w : World} {K : PySem.W.Frag}
end
end Tp
namespace Tp
open PySem PySem.Spec PyProof.Rows L2 DL
/-! ### ways: what turns come to, one behind the other -/
def mulL (x y : Int × Int × Int) : Int × Int × Int := (x.1 * y.1 - x.2.1 * y.2.1, x.1 * y.2.1 + x.2.1 * y.1, x.2.2 * y.2.2)
def lgT (t : Trn) : Int × Int × Int := (lgA t.1 t.2.1 t.2.2, lgB t.1 t.2.1 t.2.2, cc t.1 t.2.1)
def EqR (x y : Int × Int × Int) : Prop := x.1 * y.2.2 = y.1 * x.2.2 ∧ x.2.1 * y.2.2 = y.2.1 * x.2.2
theorem EqR.symm {x y : Int × Int × Int} (h : EqR x y) : EqR y x := ⟨h.1.symm, h.2.symm⟩
theorem mulL_assoc (x y z : Int × Int × Int) : mulL (mulL x y) z = mulL x (mulL y z) := by
  unfold mulL
  dsimp only
  refine Prod.ext ?_ (Prod.ext ?_ ?_) <;> dsimp only <;> grind
theorem mulL_one (x : Int × Int × Int) : mulL x (1, 0, 1) = x := by
  unfold mulL
  dsimp only
  refine Prod.ext ?_ (Prod.ext ?_ ?_) <;> dsimp only <;> omega
def sumL (l : List Trn) : Int × Int × Int := l.foldl (fun a t => mulL a (lgT t)) (1, 0, 1)
theorem lg_bk2 {p q k : Int} (h : Tn p q k) : lgA p (-q) (-k % 4) = lgA p q k ∧ lgB p (-q) (-k % 4) = -lgB p q k := by
  obtain ⟨h1, h2⟩ := lg_back h 1 0
  unfold exX at h1
  unfold exY at h2
  exact ⟨by omega, by omega⟩
theorem lgT_bk {t : Trn} (h : TnT t) : lgT (bkT t) = ((lgT t).1, -(lgT t).2.1, (lgT t).2.2) := by
  obtain ⟨h1, h2⟩ := lg_bk2 h
  unfold lgT bkT
  dsimp only
  rw [h1, h2, cc_neg]
theorem bk_tn {t : Trn} (h : TnT t) : TnT (bkT t) := tn_bk2 h
end Tp
namespace Tp
open PySem PySem.Spec PyProof.Rows L2 DL
/-! ### k41: ways for turns -/
theorem rt_sq2 (j : Nat) (a b : Int) : rtX j a b * rtX j a b + rtY j a b * rtY j a b = cc a b := by
  unfold cc
  match j with
  | 0 => simp only [rtX, rtY]
  | 1 => simp only [rtX, rtY]; grind
  | 2 => simp only [rtX, rtY]; grind
  | _ + 3 => simp only [rtX, rtY]; grind
end Tp
namespace Tp
open PySem PySem.Spec PyProof.Rows L2 DL
/-! ### k41: the way, item by item -/
open Classical in
def SmT (u : Trn) : Prop := u.1 ≤ 10000000000 ∧ -10000000000 ≤ u.2.1 ∧ u.2.1 ≤ 10000000000
theorem it_sm {u : Trn} (h : SmT u) : SmT (bkT u) := ⟨h.1, by have := h.2.2; show _ ≤ -u.2.1; omega, by have := h.2.1; show -u.2.1 ≤ _; omega⟩
open Classical in
structure WayOk (t : Trn) (W : List Trn) : Prop where
  kw : ∀ u ∈ W, KW u
  sm : ∀ u ∈ W, SmT u
  len : W.length ≤ 34
  eq : EqR (sumL W) (lgT t)
  cnt : ((2 ^ (W.filter fun u => !decide (u.2.1 = 0)).length : Nat) : Int) ≤ cc t.1 t.2.1
/-! ### the legs that a way comes to -/
def gst (v : Int × Int) (t : Trn) : Int × Int := (v.1 * t.1 - v.2 * t.2.1, v.1 * t.2.1 + v.2 * t.1)
def gpr (l : List Trn) : Int × Int := l.foldl gst (1, 0)
def qsm (l : List Trn) : Int := l.foldl (fun a t => a + t.2.2) 0
def legP (x y K : Int) : Int × Int × Int := (rtX (K % 4).toNat (x * x - y * y) (x * y + y * x), rtY (K % 4).toNat (x * x - y * y) (x * y + y * x), x * x + y * y)
theorem legP_mul {x y K : Int} {t : Trn} (h : TnT t) : mulL (legP x y K) (lgT t) = legP (gst (x, y) t).1 (gst (x, y) t).2 (K + t.2.2) := by
  obtain ⟨p, q, k⟩ := t
  have k1 := h.k1
  have k2 := h.k2
  have k1 : 0 ≤ k := k1
  have k2 : k ≤ 3 := k2
  obtain ⟨e1, e2⟩ := rt_mul (k := K % 4) (l := k) ⟨by omega, by omega⟩ ⟨k1, by omega⟩ (x * x - y * y) (x * y + y * x) (p * p - q * q) (p * q + q * p)
  unfold mulL legP lgT lgA lgB gst
  dsimp only
  have em : (K % 4 + k) % 4 = (K + k) % 4 := by omega
  refine Prod.ext ?_ (Prod.ext ?_ ?_) <;> dsimp only
  · rw [e1, em]
    congr 1 <;> grind
  · rw [e2, em]
    congr 1 <;> grind
  · unfold cc
    grind
theorem sum_leg (l : List Trn) (h : ∀ t ∈ l, TnT t) : sumL l = legP (gpr l).1 (gpr l).2 (qsm l) := by
  have key : ∀ (l : List Trn) (v : Int × Int) (K : Int), (∀ t ∈ l, TnT t) → l.foldl (fun a t => mulL a (lgT t)) (legP v.1 v.2 K) = legP (l.foldl gst v).1 (l.foldl gst v).2 (l.foldl (fun a t => a + t.2.2) K) := by
    intro l
    induction l with
    | nil => intro v K _; rfl
    | cons t l ih =>
      intro v K h
      rw [List.foldl_cons, List.foldl_cons, List.foldl_cons, legP_mul (h t List.mem_cons_self)]
      exact ih (gst v t) _ fun u hu => h u (List.mem_cons_of_mem _ hu)
  have := key l (1, 0) 0 h
  unfold sumL gpr qsm
  rw [← this]
  rfl
end Tp
namespace Tp
open PySem PySem.Spec PyProof.Rows L2 DL
/-! ### k41: what is promised -/
theorem noS_src1 {p : Addr} {l : List D} {m : Nat} (h : Src m l) : noS [(p, l)] := by
  obtain ⟨a, b, c, e, _⟩ := h
  exact noS_cons (by rw [e] <;> rfl) noS_nil
end Tp
namespace Tp
open PySem PySem.Spec PyProof.Rows L2 DL
/-! ### k80: products of ways -/
theorem mulL_comm (x y : Int × Int × Int) : mulL x y = mulL y x := by
  unfold mulL
  refine Prod.ext ?_ (Prod.ext ?_ ?_) <;> dsimp only <;> grind
theorem one_mulL (x : Int × Int × Int) : mulL (1, 0, 1) x = x := by rw [mulL_comm, mulL_one]
theorem fold_mul : ∀ (m : List Trn) (x : Int × Int × Int), m.foldl (fun a t => mulL a (lgT t)) x = mulL x (sumL m)
  | [], x => (mulL_one x).symm
  | t :: m, x => by
    unfold sumL
    rw [List.foldl_cons, List.foldl_cons, fold_mul m, fold_mul m, one_mulL, mulL_assoc]
theorem sumL_append (l m : List Trn) : sumL (l ++ m) = mulL (sumL l) (sumL m) := by
  unfold sumL
  rw [List.foldl_append]
  exact fold_mul m _
theorem sumL_cons (t : Trn) (l : List Trn) : sumL (t :: l) = mulL (lgT t) (sumL l) := by
  have := fold_mul l (mulL (1, 0, 1) (lgT t))
  rw [one_mulL] at this
  unfold sumL
  rw [List.foldl_cons, one_mulL]
  exact this
def conjL (z : Int × Int × Int) : Int × Int × Int := (z.1, -z.2.1, z.2.2)
theorem conj_mul (x y : Int × Int × Int) : conjL (mulL x y) = mulL (conjL x) (conjL y) := by
  unfold conjL mulL
  refine Prod.ext ?_ (Prod.ext ?_ ?_) <;> dsimp only <;> grind
theorem sumL_away : ∀ (l : List Trn), (∀ t ∈ l, TnT t) → sumL (l.reverse.map bkT) = conjL (sumL l)
  | [], _ => by decide
  | t :: l, h => by
    rw [List.reverse_cons, List.map_append, sumL_append, sumL_away l fun u hu => h u (List.mem_cons_of_mem _ hu), sumL_cons, conj_mul, mulL_comm]
    congr 1
    show sumL [bkT t] = _
    rw [sumL_cons, show sumL [] = (1, 0, 1) from rfl, mulL_one, lgT_bk (h t List.mem_cons_self)]
    rfl
theorem leg_sq (x y K : Int) : (legP x y K).1 * (legP x y K).1 + (legP x y K).2.1 * (legP x y K).2.1 = (legP x y K).2.2 * (legP x y K).2.2 := by
  unfold legP
  dsimp only
  rw [rt_sq2]
  unfold cc
  grind
theorem sum_unit {l : List Trn} (h : ∀ t ∈ l, TnT t) : EqR (mulL (sumL l) (conjL (sumL l))) (1, 0, 1) := by
  rw [sum_leg l h]
  have e := leg_sq (gpr l).1 (gpr l).2 (qsm l)
  generalize legP (gpr l).1 (gpr l).2 (qsm l) = z at e
  unfold EqR mulL conjL
  dsimp only
  constructor <;> grind
structure RdOk (n : Nat) (t : Trn) (l : List Trn) : Prop where
  tn : TnT t
  kw : ∀ u ∈ l, KW u
  sm : ∀ u ∈ l, SmT u
  len : l.length ≤ n
  eq : EqR (sumL l) (lgT t)
theorem RdOk.of {t : Trn} {W : List Trn} (hT : TnT t) (h : WayOk t W) : RdOk 34 t W := ⟨hT, h.kw, h.sm, h.len, h.eq⟩
theorem mem_app {α : Type} {P : α → Prop} {l m : List α} (h : ∀ x ∈ l, P x) (k : ∀ x ∈ m, P x) : ∀ x ∈ l ++ m, P x := fun x hx => (List.mem_append.mp hx).elim (h x) (k x)
theorem RdOk.away {n : Nat} {t : Trn} {l : List Trn} (h : RdOk n t l) : RdOk n (bkT t) (l.reverse.map bkT) := by
  refine ⟨bk_tn h.tn, kw_rev h.kw, fun u hu => ?_, by rw [List.length_map, List.length_reverse]; exact h.len, ?_⟩
  · obtain ⟨v, hv, rfl⟩ := List.mem_map.mp hu
    exact it_sm (h.sm v (List.mem_reverse.mp hv))
  · rw [sumL_away l fun u hu => (h.kw u hu).1, lgT_bk h.tn]
    obtain ⟨e1, e2⟩ := h.eq
    unfold EqR conjL
    dsimp only
    exact ⟨e1, by rw [Int.neg_mul, Int.neg_mul, e2]⟩
theorem tn_unit : TnT (1, 0, 0) := ⟨by decide, by decide, by decide, by decide, by decide, by decide, by decide, by decide⟩
theorem lg_unit80 : lgT (1, 0, 0) = (1, 0, 1) := by decide +kernel
theorem RdOk.none {n : Nat} {t : Trn} {l : List Trn} (h : RdOk n t l) : RdOk (n + n) (1, 0, 0) (l ++ l.reverse.map bkT) := by
  have k := h.away
  refine ⟨tn_unit, mem_app h.kw k.kw, mem_app h.sm k.sm, by rw [List.length_append]; have := h.len; have := k.len; omega, ?_⟩
  rw [sumL_append, sumL_away l fun u hu => (h.kw u hu).1, lg_unit80]
  exact sum_unit fun u hu => (h.kw u hu).1
end Tp
namespace Tp
open PySem PySem.Spec PyProof.Rows L2 DL
/-! ### k54: balls -/
theorem ball_mul {k a : Int} (hk : 0 ≤ k) (ha : k + 1 ≤ a) : (3 * k + 1) * (k + 1) ≤ (3 * k + 1) * a := Int.mul_le_mul_of_nonneg_left ha (by omega)
theorem ball_mul2 {k a : Int} (hk : 0 ≤ k) (ha : a ≤ k) : (3 * k + 1) * a ≤ (3 * k + 1) * k := Int.mul_le_mul_of_nonneg_left ha (by omega)
def bszK (k : Int) : Int := 3 * (k * k) + 3 * k + 1
def BallK (k m n : Int) : Prop := (-k ≤ m ∧ m ≤ k) ∧ (-k ≤ n ∧ n ≤ k) ∧ -k ≤ m - n ∧ m - n ≤ k
/-- three strips: with t = (3 k + 1) m, u = (3 k + 1) n -/
theorem ball_of1 {k m n : Int} (hk : 0 ≤ k) (h1 : -bszK k < (3 * k + 1) * m + n ∧ (3 * k + 1) * m + n < bszK k) (h2 : -bszK k < (3 * k + 1) * n + n - m ∧ (3 * k + 1) * n + n - m < bszK k) (h3 : -bszK k < (3 * k + 1) * m + m - (3 * k + 1) * n ∧ (3 * k + 1) * m + m - (3 * k + 1) * n < bszK k) : BallK k m n := by
  have e : (3 * k + 1) * (k + 1) = 3 * (k * k) + 4 * k + 1 := by grind
  have sub : ∀ a b : Int, (3 * k + 1) * (a - b) = (3 * k + 1) * a - (3 * k + 1) * b := fun a b => Int.mul_sub _ _ _
  have neg : ∀ a : Int, (3 * k + 1) * (-a) = -((3 * k + 1) * a) := fun a => Int.mul_neg _ _
  unfold bszK at *
  have key : ∀ a b : Int, (-(3 * (k * k) + 3 * k + 1) < (3 * k + 1) * a + b ∧ (3 * k + 1) * a + b < 3 * (k * k) + 3 * k + 1) → (-(3 * (k * k) + 3 * k + 1) < (3 * k + 1) * a + a - (3 * k + 1) * b ∧ (3 * k + 1) * a + a - (3 * k + 1) * b < 3 * (k * k) + 3 * k + 1) → a ≤ k := fun a b g1 g3 => by
    refine Decidable.byContradiction fun z => ?_
    have m1 := ball_mul hk (show k + 1 ≤ a by omega)
    have m2 := ball_mul hk (show k + 1 ≤ -b by omega)
    rw [neg] at m2
    omega
  have M1 : m ≤ k := key m n h1 h3
  have M2 : -m ≤ k := key (-m) (-n) (by rw [neg]; omega) (by rw [neg, neg]; omega)
  have N1 : n ≤ k := by
    refine Decidable.byContradiction fun z => ?_
    have m1 := ball_mul hk (show k + 1 ≤ n by omega)
    omega
  have N2 : -n ≤ k := by
    refine Decidable.byContradiction fun z => ?_
    have m1 := ball_mul hk (show k + 1 ≤ -n by omega)
    rw [neg] at m1
    omega
  have D1 : m - n ≤ k := by
    refine Decidable.byContradiction fun z => ?_
    have m1 := ball_mul hk (show k + 1 ≤ m - n by omega)
    rw [sub] at m1
    omega
  have D2 : n - m ≤ k := by
    refine Decidable.byContradiction fun z => ?_
    have m1 := ball_mul hk (show k + 1 ≤ n - m by omega)
    rw [sub] at m1
    omega
  exact ⟨⟨by omega, by omega⟩, ⟨by omega, by omega⟩, by omega, by omega⟩
theorem ball_strips {k m n : Int} (hk : 0 ≤ k) (h : BallK k m n) : ((-bszK k < (3 * k + 1) * m + n ∧ (3 * k + 1) * m + n < bszK k) ∧ (-bszK k < (3 * k + 1) * n + n - m ∧ (3 * k + 1) * n + n - m < bszK k) ∧ -bszK k < (3 * k + 1) * m + m - (3 * k + 1) * n ∧ (3 * k + 1) * m + m - (3 * k + 1) * n < bszK k) ∧
    (-bszK k < (3 * k + 1) * n + m ∧ (3 * k + 1) * n + m < bszK k) ∧ (-bszK k < (3 * k + 1) * m + m - n ∧ (3 * k + 1) * m + m - n < bszK k) ∧ -bszK k < (3 * k + 1) * n + n - (3 * k + 1) * m ∧ (3 * k + 1) * n + n - (3 * k + 1) * m < bszK k := by
  obtain ⟨⟨a1, a2⟩, ⟨b1, b2⟩, c1, c2⟩ := h
  have e : (3 * k + 1) * k = 3 * (k * k) + k := by grind
  have sub : ∀ a b : Int, (3 * k + 1) * (a - b) = (3 * k + 1) * a - (3 * k + 1) * b := fun a b => Int.mul_sub _ _ _
  have neg : ∀ a : Int, (3 * k + 1) * (-a) = -((3 * k + 1) * a) := fun a => Int.mul_neg _ _
  have m1 := ball_mul2 hk a2
  have m2 := ball_mul2 hk (show -m ≤ k by omega)
  have n1 := ball_mul2 hk b2
  have n2 := ball_mul2 hk (show -n ≤ k by omega)
  have d1 := ball_mul2 hk c2
  have d2 := ball_mul2 hk (show n - m ≤ k by omega)
  rw [neg] at m2 n2
  rw [sub] at d1 d2
  unfold bszK
  omega
theorem ball_sz (k : Int) : sz (2 * k + 1) k = bszK k := by rw [sz_eq]; unfold bszK; grind
theorem ball_hex1 {k : Int} (m n : Int) (c : Int) : HexS c ((2 * k + 1) * m - k * n) ((2 * k + 1) * n + k * m - k * n) ↔ ((-c < (3 * k + 1) * m + n ∧ (3 * k + 1) * m + n < c) ∧ (-c < (3 * k + 1) * n + n - m ∧ (3 * k + 1) * n + n - m < c) ∧ -c < (3 * k + 1) * m + m - (3 * k + 1) * n ∧ (3 * k + 1) * m + m - (3 * k + 1) * n < c) := by
  have e1 : 2 * ((2 * k + 1) * m - k * n) - ((2 * k + 1) * n + k * m - k * n) = (3 * k + 1) * m + m - (3 * k + 1) * n := by grind
  have e2 : 2 * ((2 * k + 1) * n + k * m - k * n) - ((2 * k + 1) * m - k * n) = (3 * k + 1) * n + n - m := by grind
  have e3 : (2 * k + 1) * m - k * n + ((2 * k + 1) * n + k * m - k * n) = (3 * k + 1) * m + n := by grind
  unfold HexS
  rw [e1, e2, e3]
  exact ⟨fun ⟨a, b, c⟩ => ⟨c, b, a⟩, fun ⟨a, b, c⟩ => ⟨c, b, a⟩⟩
theorem ball_hex2 {k : Int} (m n : Int) (c : Int) : HexS c ((2 * k + 1 - k) * m - -k * n) ((2 * k + 1 - k) * n + -k * m - -k * n) ↔ ((-c < (3 * k + 1) * n + m ∧ (3 * k + 1) * n + m < c) ∧ (-c < (3 * k + 1) * m + m - n ∧ (3 * k + 1) * m + m - n < c) ∧ -c < (3 * k + 1) * n + n - (3 * k + 1) * m ∧ (3 * k + 1) * n + n - (3 * k + 1) * m < c) := by
  have e1 : 2 * ((2 * k + 1 - k) * m - -k * n) - ((2 * k + 1 - k) * n + -k * m - -k * n) = (3 * k + 1) * m + m - n := by grind
  have e2 : 2 * ((2 * k + 1 - k) * n + -k * m - -k * n) - ((2 * k + 1 - k) * m - -k * n) = (3 * k + 1) * n + n - (3 * k + 1) * m := by grind
  have e3 : (2 * k + 1 - k) * m - -k * n + ((2 * k + 1 - k) * n + -k * m - -k * n) = (3 * k + 1) * n + m := by grind
  unfold HexS
  rw [e1, e2, e3]
  exact ⟨fun ⟨a, b, c⟩ => ⟨c, a, b⟩, fun ⟨a, b, c⟩ => ⟨b, c, a⟩⟩
theorem ball_fro {k : Int} (hk : 0 ≤ k) (m n : Int) (h : HexS (bszK k) ((2 * k + 1) * m - k * n) ((2 * k + 1) * n + k * m - k * n)) : HexS (bszK k) ((2 * k + 1 - k) * m - -k * n) ((2 * k + 1 - k) * n + -k * m - -k * n) := by
  obtain ⟨h1, h2, h3⟩ := (ball_hex1 m n _).mp h
  exact (ball_hex2 m n _).mpr (ball_strips hk (ball_of1 hk h1 h2 h3)).2
theorem ball_bac {k : Int} (hk : 0 ≤ k) (m n : Int) (h : HexS (bszK k) ((2 * k + 1 - k) * m - -k * n) ((2 * k + 1 - k) * n + -k * m - -k * n)) : HexS (bszK k) ((2 * k + 1) * m - k * n) ((2 * k + 1) * n + k * m - k * n) := by
  obtain ⟨h1, h2, h3⟩ := (ball_hex2 m n _).mp h
  have b := ball_of1 hk (m := n) (n := m) h1 h2 h3
  obtain ⟨a1, a2, a3⟩ := b
  exact (ball_hex1 m n _).mpr (ball_strips hk ⟨a2, a1, by omega, by omega⟩).1
/-! the image of the image by the back turn, where the hexagons are alike -/
theorem r6_mul (j : Nat) (c a b : Int) : r6X j (c * a) (c * b) = c * r6X j a b ∧ r6Y j (c * a) (c * b) = c * r6Y j a b := by
  have z : r6X j 0 0 = 0 ∧ r6Y j 0 0 = 0 := by
    match j with
    | 0 => exact ⟨rfl, rfl⟩
    | 1 => exact ⟨rfl, rfl⟩
    | 2 => exact ⟨rfl, rfl⟩
    | 3 => exact ⟨rfl, rfl⟩
    | 4 => exact ⟨rfl, rfl⟩
    | _ + 5 => exact ⟨rfl, rfl⟩
  have := r6_add j c 0 0 a b
  rw [z.1, z.2, Int.zero_add, Int.zero_add, Int.zero_add, Int.zero_add] at this
  exact this
theorem bar_u (p q m n : Int) : mlX (sqA (p - q) (-q)) (sqB (p - q) (-q)) (p * m - q * n) (p * n + q * m - q * n) = sz p q * ((p - q) * m - -q * n) ∧ mlY (sqA (p - q) (-q)) (sqB (p - q) (-q)) (p * m - q * n) (p * n + q * m - q * n) = sz p q * ((p - q) * n + -q * m - -q * n) := by
  rw [sz_eq]
  unfold mlX mlY sqA sqB
  constructor <;> grind
theorem home_of {p q k : Int} (h : Sx p q k) (x y : Int) (hh : ∀ m n, HexS (sz p q) (p * m - q * n) (p * n + q * m - q * n) → HexS (sz p q) ((p - q) * m - -q * n) ((p - q) * n + -q * m - -q * n)) :
    siX (p - q) (-q) (-k % 6) (siX p q k x y) (siY p q k x y) = x ∧ siY (p - q) (-q) (-k % 6) (siX p q k x y) (siY p q k x y) = y := by
  obtain ⟨a, ha⟩ : ∃ a, a = siX p q k x y := ⟨_, rfl⟩
  obtain ⟨b, hb⟩ : ∃ b, b = siY p q k x y := ⟨_, rfl⟩
  have hc := sz_pos h
  have hx := si_hex h x y
  rw [← ha, ← hb] at hx ⊢
  refine si_of (sx_bk h) ?_
  rw [sz_bk]
  obtain ⟨m, n, e1, e2⟩ := on_u p q k.toNat x y a b
  obtain ⟨g1, g2⟩ := sp_ml p q k x y
  rw [← g1] at e1
  rw [← g2] at e2
  rw [e1, e2] at hx
  have hy := hh m n hx
  obtain ⟨c, ec⟩ : ∃ c, c = sz p q := ⟨_, rfl⟩
  obtain ⟨u1, u2⟩ := bar_u p q m n
  rw [← ec] at hc hy e1 e2 u1 u2 ⊢
  have bk := sp_bk h x y
  rw [← ec] at bk
  have mulc : ∀ r s : Int, spX (p - q) (-q) (-k % 6) (c * r) (c * s) = c * spX (p - q) (-q) (-k % 6) r s ∧ spY (p - q) (-q) (-k % 6) (c * r) (c * s) = c * spY (p - q) (-q) (-k % 6) r s := fun r s => by
    obtain ⟨e1, e2⟩ := sp_ml (p - q) (-q) (-k % 6) (c * r) (c * s)
    obtain ⟨g1, g2⟩ := sp_ml (p - q) (-q) (-k % 6) r s
    rw [e1, e2, g1, g2, show mlX (sqA (p - q) (-q)) (sqB (p - q) (-q)) (c * r) (c * s) = c * mlX (sqA (p - q) (-q)) (sqB (p - q) (-q)) r s by unfold mlX; grind, show mlY (sqA (p - q) (-q)) (sqB (p - q) (-q)) (c * r) (c * s) = c * mlY (sqA (p - q) (-q)) (sqB (p - q) (-q)) r s by unfold mlY; grind]
    exact r6_mul _ _ _ _
  have add := sp_add (p - q) (-q) (-k % 6) (c * a) (c * b) (p * m - q * n) (p * n + q * m - q * n)
  rw [(mulc a b).1, (mulc a b).2, show c * a + (p * m - q * n) = spX p q k x y by omega, show c * b + (p * n + q * m - q * n) = spY p q k x y by omega, bk.1, bk.2] at add
  obtain ⟨f1, f2⟩ := sp_ml (p - q) (-q) (-k % 6) (p * m - q * n) (p * n + q * m - q * n)
  rw [u1, u2, (r6_mul _ _ _ _).1] at f1
  rw [u1, u2, (r6_mul _ _ _ _).2] at f2
  rw [f1, f2] at add
  generalize hX : (p - q) * m - -q * n = X at *
  generalize hY : (p - q) * n + -q * m - -q * n = Y at *
  have E1 : spX (p - q) (-q) (-k % 6) a b - c * x = -r6X (-k % 6).toNat X Y := by
    have z : c * (spX (p - q) (-q) (-k % 6) a b - c * x) = c * -r6X (-k % 6).toNat X Y := by
      rw [Int.mul_sub, Int.mul_neg, ← Int.mul_assoc]
      omega
    exact Int.eq_of_mul_eq_mul_left (by omega) z
  have E2 : spY (p - q) (-q) (-k % 6) a b - c * y = -r6Y (-k % 6).toNat X Y := by
    have z : c * (spY (p - q) (-q) (-k % 6) a b - c * y) = c * -r6Y (-k % 6).toNat X Y := by
      rw [Int.mul_sub, Int.mul_neg, ← Int.mul_assoc]
      omega
    exact Int.eq_of_mul_eq_mul_left (by omega) z
  rw [E1, E2]
  exact (hy.r6 _).neg
theorem ball_sx {k j : Int} (hk : 0 ≤ k) (hk2 : k ≤ 100000000000000) (hj : 0 ≤ j ∧ j ≤ 5) : Sx (2 * k + 1) k j := by
  refine ⟨by omega, by omega, by omega, by omega, by omega, by omega, by omega, gcd_of (s := 1) (t := -2) (by omega), hj.1, hj.2⟩
theorem ball_home {k j : Int} (hk : 0 ≤ k) (hk2 : k ≤ 100000000000000) (hj : 0 ≤ j ∧ j ≤ 5) (x y : Int) :
    (siX (2 * k + 1 - k) (-k) (-j % 6) (siX (2 * k + 1) k j x y) (siY (2 * k + 1) k j x y) = x ∧ siY (2 * k + 1 - k) (-k) (-j % 6) (siX (2 * k + 1) k j x y) (siY (2 * k + 1) k j x y) = y) ∧
    siX (2 * k + 1) k j (siX (2 * k + 1 - k) (-k) (-j % 6) x y) (siY (2 * k + 1 - k) (-k) (-j % 6) x y) = x ∧ siY (2 * k + 1) k j (siX (2 * k + 1 - k) (-k) (-j % 6) x y) (siY (2 * k + 1 - k) (-k) (-j % 6) x y) = y := by
  have h := ball_sx hk hk2 hj
  refine ⟨home_of h x y fun m n => by rw [ball_sz]; exact ball_fro hk m n, ?_⟩
  obtain ⟨⟨e1, e2⟩, e3⟩ := bk6 h
  have := home_of (sx_bk h) x y (fun m n => by
    rw [sz_bk, ball_sz, e1, e2]
    exact ball_bac hk m n)
  rw [e1, e2, e3] at this
  exact this
/-! rows of strips, reckoned -/
def strp (i j x y : Int) : Int × Int × Int := if j > 0 then (i, j, i * x + j * y) else (-i, -j, -(i * x + j * y))
def strpL (r s x y : Int) : List (Int × Int × Int) := [strp (2 * r - s) (-r - s) x y, strp (2 * s - r) (2 * r - s) x y, strp (r + s) (r - 2 * s) x y]
def flL (c m : Int) (t : Int × Int × Int) : Int := -((c - 1 + t.1 * m + t.2.2) / t.2.1)
def flG (c m : Int) (t : Int × Int × Int) : Int := (c - 1 - t.1 * m - t.2.2) / t.2.1
def maxL : List Int → Int
  | [] => 0
  | [x] => x
  | x :: xs => let y := maxL xs; if x ≥ y then x else y
def minL : List Int → Int
  | [] => 0
  | [x] => x
  | x :: xs => let y := minL xs; if x ≤ y then x else y
theorem maxL_ok : ∀ (l : List Int), l ≠ [] → maxL l ∈ l ∧ ∀ x ∈ l, x ≤ maxL l
  | [], h => absurd rfl h
  | [x], _ => ⟨List.mem_singleton.mpr rfl, fun y hy => by rw [List.mem_singleton.mp hy]; exact Int.le_refl _⟩
  | x :: y :: l, _ => by
    obtain ⟨h1, h2⟩ := maxL_ok (y :: l) (by simp)
    show (if x ≥ maxL (y :: l) then x else maxL (y :: l)) ∈ _ ∧ ∀ z ∈ _, z ≤ (if x ≥ maxL (y :: l) then x else maxL (y :: l))
    split
    · refine ⟨List.mem_cons_self, fun z hz => ?_⟩
      rcases List.mem_cons.mp hz with e | e
      · omega
      · have := h2 z e; omega
    · refine ⟨List.mem_cons_of_mem _ h1, fun z hz => ?_⟩
      rcases List.mem_cons.mp hz with e | e
      · omega
      · exact h2 z e
theorem minL_ok : ∀ (l : List Int), l ≠ [] → minL l ∈ l ∧ ∀ x ∈ l, minL l ≤ x
  | [], h => absurd rfl h
  | [x], _ => ⟨List.mem_singleton.mpr rfl, fun y hy => by rw [List.mem_singleton.mp hy]; exact Int.le_refl _⟩
  | x :: y :: l, _ => by
    obtain ⟨h1, h2⟩ := minL_ok (y :: l) (by simp)
    show (if x ≤ minL (y :: l) then x else minL (y :: l)) ∈ _ ∧ ∀ z ∈ _, (if x ≤ minL (y :: l) then x else minL (y :: l)) ≤ z
    split
    · refine ⟨List.mem_cons_self, fun z hz => ?_⟩
      rcases List.mem_cons.mp hz with e | e
      · omega
      · have := h2 z e; omega
    · refine ⟨List.mem_cons_of_mem _ h1, fun z hz => ?_⟩
      rcases List.mem_cons.mp hz with e | e
      · omega
      · exact h2 z e
theorem maxL_eq {l : List Int} {m : Int} (h : m ∈ l) (k : ∀ x ∈ l, x ≤ m) : m = maxL l := by
  obtain ⟨h1, h2⟩ := maxL_ok l (fun z => by rw [z] at h; cases h)
  have := k _ h1
  have := h2 _ h
  omega
theorem minL_eq {l : List Int} {m : Int} (h : m ∈ l) (k : ∀ x ∈ l, m ≤ x) : m = minL l := by
  obtain ⟨h1, h2⟩ := minL_ok l (fun z => by rw [z] at h; cases h)
  have := k _ h1
  have := h2 _ h
  omega
def rowW (ts : List (Int × Int × Int)) (c m : Int) : Int := let v := minL (ts.map (flG c m)) - maxL (ts.map (flL c m)) + 1; if v > 0 then v else 0
def withN (ts : List (Int × Int × Int)) (c r : Int) : Nat → Int
  | 0 => 0
  | i + 1 => withN ts c r i + rowW ts c (-r + (i : Int))
def withA (ts : List (Int × Int × Int)) (c : Int) : Int := withN ts c (((Float64.isqrt (4 * c).toNat : Nat) : Int) / 3) ((((Float64.isqrt (4 * c).toNat : Nat) : Int) / 3 + 1) - -(((Float64.isqrt (4 * c).toNat : Nat) : Int) / 3)).toNat
theorem ball_few : ∀ i : Nat, i < 21 → withA (strpL (2 * (i : Int) + 1) i 0 0 ++ strpL (2 * (i : Int) + 1) i (2 * (i : Int) + 1) i) (bszK i) = 0 ∧ withA (strpL (2 * (i : Int) + 1) i 0 0 ++ strpL (2 * (i : Int) + 1 - i) (-i) 0 0) (bszK i) = bszK i := by decide +kernel

end Tp
namespace Tp
open PySem PySem.Spec PyProof.Rows L2 DL
/-! ### k54: what is promised -/
def ballB : D → Bool
  | .int k => decide (0 ≤ k ∧ k ≤ 100000000000000)
  | _ => false
def con_ball : Con := fun ds S Q => ∃ k : Int, ds = [.int k] ∧ (0 ≤ k ∧ k ≤ 100000000000000) ∧ Q (.tup [.int (2 * k + 1), .int k, .int 0]) S
def con_ballX (K : PySem.W.Frag) (C : Addr) : ConX := fun ds S Q R => ∃ d, ds = [d] ∧ AnyV K d ∧ ballB d = false ∧ R ⟨.ref C, none⟩ S
def BadB (K : PySem.W.Frag) (d : D) : Prop := AnyV K d ∧ ballB d = false
def con_refused (K : PySem.W.Frag) : Con := fun ds S Q => ∃ d, ds = [d] ∧ BadB K d ∧ Q (.bl true) S
theorem badB_pl {K : PySem.W.Frag} {d : D} (h : (pvD d && !ballB d) = true) : BadB K d := by
  rw [Bool.and_eq_true] at h
  exact ⟨any_pv h.1, by simpa using h.2⟩
theorem badB_dic {K : PySem.W.Frag} : BadB K (dicD []) := ⟨any_dic, rfl⟩
def con_stripsE : Con := fun ds S Q => ∃ r s x y : Int, ds = [.int r, .int s, .tup [.int x, .int y]] ∧ (r + s) % 3 ≠ 0 ∧ (Bd 51 r ∧ Bd 51 s ∧ Bd 51 x ∧ Bd 51 y) ∧ Q (.lst ((strpL r s x y).map t3D)) S
def con_withinE : Con := fun ds S Q => ∃ (ts : List (Int × Int × Int)) (c : Int), ds = [.lst (ts.map t3D), .int c] ∧ ((∀ t ∈ ts, StO t) ∧ 1 ≤ ts.length ∧ ts.length ≤ 20) ∧ (0 ≤ c ∧ c ≤ 2000) ∧ Q (.int (withA ts c)) S
def con_tw54 : Con := fun ds S Q => ∃ k j : Int, ds = [.tup [.int (2 * k + 1), .int k, .int j]] ∧ (0 ≤ k ∧ k ≤ 20) ∧ (0 ≤ j ∧ j ≤ 5) ∧ Q (.int 0) S
def con_kp54 : Con := fun ds S Q => ∃ k j : Int, ds = [.tup [.int (2 * k + 1), .int k, .int j]] ∧ (0 ≤ k ∧ k ≤ 20) ∧ (0 ≤ j ∧ j ≤ 5) ∧ Q (.bl true) S
def con_sn54 : Con := fun ds S Q => ∃ k j : Int, ds = [.tup [.int (2 * k + 1), .int k, .int j]] ∧ (0 ≤ k ∧ k ≤ 20) ∧ (0 ≤ j ∧ j ≤ 5) ∧ Q (.tup [.int 0, .int (bszK k)]) S
def con_r54 : Con := fun ds S Q => ∃ k j x y : Int, ds = [.int k, .int j, .tup [.int x, .int y]] ∧ (0 ≤ k ∧ k ≤ 100000000000000) ∧ (0 ≤ j ∧ j ≤ 5) ∧ (Bd 140 x ∧ Bd 140 y) ∧ Q (.bl true) S
theorem fa_consT {α : Type} {P : α → Prop} {a : α} {l : List α} (h : P a) (k : ∀ x ∈ l, P x) : ∀ x ∈ a :: l, P x := fun x hx => (List.mem_cons.mp hx).elim (fun e => e ▸ h) (k x)
theorem strp_sto {i j x y : Int} (hj : j ≠ 0) (bi : Bd 54 i) (bj : Bd 54 j) (bx : Bd 51 x) (by' : Bd 51 y) : StO (strp i j x y) := by
  unfold strp
  split
  · exact slope_stO hj bi bj bx by' _ (.inl ⟨rfl, by omega⟩)
  · exact slope_stO hj bi bj bx by' _ (.inr ⟨rfl, by omega⟩)
theorem strpL_sto {r s x y : Int} (o : (r + s) % 3 ≠ 0) (br : Bd 51 r) (bs : Bd 51 s) (bx : Bd 51 x) (by' : Bd 51 y) : ∀ t ∈ strpL r s x y, StO t := by
  obtain ⟨o1, o2, o3⟩ := no_zero o
  have b2 : ∀ {v : Int}, Bd 51 v → Bd 53 (2 * v) := fun h => ((Bd.lit 2).mul h).up (by decide)
  unfold strpL
  refine fa_consT (strp_sto o1 ?_ ?_ bx by') (fa_consT (strp_sto o2 ?_ ?_ bx by') (fa_consT (strp_sto o3 ?_ ?_ bx by') fun _ z => nomatch z))
  · exact ((b2 br).sub bs).up (by decide)
  · exact (br.neg.sub bs).up (by decide)
  · exact ((b2 bs).sub br).up (by decide)
  · exact ((b2 br).sub bs).up (by decide)
  · exact (br.add bs).up (by decide)
  · exact (br.sub (b2 bs)).up (by decide)
theorem strp_pos {i j x y : Int} (h : j > 0) : strp i j x y = (i, j, i * x + j * y) := if_pos h
theorem strp_neg {i j x y : Int} (h : ¬ j > 0) : strp i j x y = (-i, -j, -(i * x + j * y)) := if_neg h
def slpL (r s : Int) : List (Int × Int) := [(2 * r - s, -r - s), (2 * s - r, 2 * r - s), (r + s, r - 2 * s)]
theorem slp_at {r s : Int} {i : Nat} {d : D} (h : [D.tup [.int (2 * r - s), .int (-r - s)], .tup [.int (2 * s - r), .int (2 * r - s)], .tup [.int (r + s), .int (r - 2 * s)]][i]? = some d) : ∃ ij : Int × Int, (slpL r s)[i]? = some ij ∧ d = .tup [.int ij.1, .int ij.2] := by
  match i, h with
  | 0, h => exact ⟨_, rfl, (Option.some.inj h).symm⟩
  | 1, h => exact ⟨_, rfl, (Option.some.inj h).symm⟩
  | 2, h => exact ⟨_, rfl, (Option.some.inj h).symm⟩
theorem slp_bd {r s : Int} (o : (r + s) % 3 ≠ 0) (br : Bd 51 r) (bs : Bd 51 s) {i : Nat} {ij : Int × Int} (h : (slpL r s)[i]? = some ij) : ij.2 ≠ 0 ∧ Bd 54 ij.1 ∧ Bd 54 ij.2 := by
  obtain ⟨o1, o2, o3⟩ := no_zero o
  have b2 : ∀ {v : Int}, Bd 51 v → Bd 53 (2 * v) := fun h => ((Bd.lit 2).mul h).up (by decide)
  match i, h with
  | 0, h => cases h; exact ⟨o1, ((b2 br).sub bs).up (by decide), (br.neg.sub bs).up (by decide)⟩
  | 1, h => cases h; exact ⟨o2, ((b2 bs).sub br).up (by decide), ((b2 br).sub bs).up (by decide)⟩
  | 2, h => cases h; exact ⟨o3, (br.add bs).up (by decide), (br.sub (b2 bs)).up (by decide)⟩
theorem withN_bd {ts : List (Int × Int × Int)} {c r : Int} (h : ∀ i : Nat, i < 60 → Bd 190 (rowW ts c (-r + (i : Int))) ∧ 0 ≤ rowW ts c (-r + (i : Int))) : ∀ i : Nat, i ≤ 60 → 0 ≤ withN ts c r i ∧ withN ts c r i ≤ (i : Int) * 2 ^ 190
  | 0, _ => ⟨Int.le_refl _, by simp [withN]⟩
  | i + 1, hi => by
    obtain ⟨h1, h2⟩ := withN_bd h i (by omega)
    obtain ⟨h3, h4⟩ := h i (by omega)
    unfold withN
    unfold Bd at h3
    rw [Int.natCast_add, Int.add_mul]
    have e : ((2 ^ 190 : Nat) : Int) = (2 : Int) ^ 190 := by decide +kernel
    exact ⟨by omega, by omega⟩
theorem rowW_eq {ts : List (Int × Int × Int)} {c m mx mn : Int} (h1 : mx ∈ ts.map (flL c m)) (h2 : ∀ x ∈ ts.map (flL c m), x ≤ mx) (h3 : mn ∈ ts.map (flG c m)) (h4 : ∀ x ∈ ts.map (flG c m), mn ≤ x) : (if mn - mx + 1 > 0 then mn - mx + 1 else 0) = rowW ts c m := by
  unfold rowW
  rw [← maxL_eq h1 h2, ← minL_eq h3 h4]
theorem rowW_ok {ts : List (Int × Int × Int)} {c m : Int} (hts : ∀ t ∈ ts, StO t) (hn : 1 ≤ ts.length) (bc : Bd 11 c) (bm : Bd 10 m) : Bd 190 (rowW ts c m) ∧ 0 ≤ rowW ts c m := by
  have ne : ∀ F : Int × Int × Int → Int, ts.map F ≠ [] := fun F z => by
    have := congrArg List.length z
    rw [List.length_map] at this
    exact absurd this (by show ts.length ≠ 0; omega)
  have b1 := strip_bdL hts bc bm (maxL_ok _ (ne (flL c m))).1
  have b2 := strip_bdG hts bc bm (minL_ok _ (ne (flG c m))).1
  have b3 : Bd 190 (minL (ts.map (flG c m)) - maxL (ts.map (flL c m)) + 1) := ((b2.sub b1).add (show Bd 2 (1 : Int) by unfold Bd; decide)).up (by decide)
  unfold rowW
  dsimp only
  split
  · exact ⟨b3, by omega⟩
  · exact ⟨by unfold Bd; decide +kernel, Int.le_refl _⟩
theorem ball_few2 {k : Int} (h0 : 0 ≤ k) (h1 : k ≤ 20) : withA (strpL (2 * k + 1) k 0 0 ++ strpL (2 * k + 1) k (2 * k + 1) k) (bszK k) = 0 ∧ withA (strpL (2 * k + 1) k 0 0 ++ strpL (2 * k + 1 - k) (-k) 0 0) (bszK k) = bszK k := by
  obtain ⟨i, rfl⟩ : ∃ i : Nat, k = (i : Int) := ⟨k.toNat, by omega⟩
  exact ball_few i (by omega)
theorem bsz_bd {k : Int} (h0 : 0 ≤ k) (h1 : k ≤ 20) : 0 ≤ bszK k ∧ bszK k ≤ 2000 := by
  have : k * k ≤ 20 * 20 := Int.mul_le_mul h1 h1 h0 (by decide)
  have h2 := sq_nn k
  unfold bszK
  omega
def rp6 (x y : Int) : List (Int × Int) := [(x + 1, y), (x + 1, y + 1), (x, y + 1), (x - 1, y), (x - 1, y - 1), (x, y - 1)]
theorem rp6_ne {x y : Int} {v : Int × Int} (h : v ∈ rp6 x y) : v ≠ (x, y) := by
  unfold rp6 at h
  simp only [List.mem_cons, List.not_mem_nil, or_false] at h
  intro e
  rw [e] at h
  simp only [Prod.mk.injEq] at h
  omega
theorem rp6_bd {x y : Int} {n : Nat} {v : Int × Int} (bx : Bd n x) (by' : Bd n y) (h : v ∈ rp6 x y) : Bd (n + 2) v.1 ∧ Bd (n + 2) v.2 := by
  have b1 : Bd 1 (1 : Int) := by unfold Bd; decide
  unfold rp6 at h
  simp only [List.mem_cons, List.not_mem_nil, or_false] at h
  rcases h with e | e | e | e | e | e <;> rw [e]
  · exact ⟨(bx.add b1).up (by omega), by'.up (by omega)⟩
  · exact ⟨(bx.add b1).up (by omega), (by'.add b1).up (by omega)⟩
  · exact ⟨bx.up (by omega), (by'.add b1).up (by omega)⟩
  · exact ⟨(bx.sub b1).up (by omega), by'.up (by omega)⟩
  · exact ⟨(bx.sub b1).up (by omega), (by'.sub b1).up (by omega)⟩
  · exact ⟨bx.up (by omega), (by'.sub b1).up (by omega)⟩
def im54 (k j : Int) (v : Int × Int) : Int × Int := (siX (2 * k + 1) k j v.1 v.2, siY (2 * k + 1) k j v.1 v.2)
def ib54 (k j : Int) (v : Int × Int) : Int × Int := (siX (2 * k + 1 - k) (-k) (-j % 6) v.1 v.2, siY (2 * k + 1 - k) (-k) (-j % 6) v.1 v.2)
theorem ib_im {k j : Int} (hk : 0 ≤ k) (hk2 : k ≤ 100000000000000) (hj : 0 ≤ j ∧ j ≤ 5) (v : Int × Int) : ib54 k j (im54 k j v) = v := by
  obtain ⟨⟨h1, h2⟩, _⟩ := ball_home hk hk2 hj v.1 v.2
  exact Prod.ext h1 h2
theorem ends_no {k j : Int} (hk : 0 ≤ k) (hk2 : k ≤ 100000000000000) (hj : 0 ≤ j ∧ j ≤ 5) (x y : Int) : (((rp6 x y).map (im54 k j)).map pr2).any (fun z => eqB z (.tup [.int (siX (2 * k + 1) k j x y), .int (siY (2 * k + 1) k j x y)])) = false := by
  rw [List.any_eq_false]
  intro d hd c
  obtain ⟨w, hw, rfl⟩ := List.mem_map.mp hd
  obtain ⟨v, hv, rfl⟩ := List.mem_map.mp hw
  have c : eqB (.tup [.int (im54 k j v).1, .int (im54 k j v).2]) (.tup [.int (siX (2 * k + 1) k j x y), .int (siY (2 * k + 1) k j x y)]) = true := c
  rw [eqB_t2, Bool.and_eq_true, decide_eq_true_eq, decide_eq_true_eq] at c
  have e : im54 k j v = im54 k j (x, y) := Prod.ext c.1 c.2
  exact rp6_ne hv (by rw [← ib_im hk hk2 hj v, e, ib_im hk hk2 hj])
theorem flat_rp (k j x y : Int) : flatOkL 8 (((rp6 x y).map (im54 k j)).map pr2) = true := rfl
theorem strp_step {r s x y : Int} {i : Nat} {i9 j9 : Int} (h : (slpL r s)[i]? = some (i9, j9)) : (((slpL r s).take i).map fun ij : Int × Int => strp ij.1 ij.2 x y).map t3D ++ [t3D (strp i9 j9 x y)] = (((slpL r s).take (i + 1)).map fun ij : Int × Int => strp ij.1 ij.2 x y).map t3D := by
  rw [List.take_add_one, h, List.map_append, List.map_append]
  rfl
theorem im_back {k j : Int} (hk : 0 ≤ k) (hk2 : k ≤ 100000000000000) (hj : 0 ≤ j ∧ j ≤ 5) (v : Int × Int) : D.tup [.int (siX (2 * k + 1 - k) (-k) (-j % 6) (im54 k j v).1 (im54 k j v).2), .int (siY (2 * k + 1 - k) (-k) (-j % 6) (im54 k j v).1 (im54 k j v).2)] = pr2 v := by
  have := ib_im hk hk2 hj v
  exact congrArg pr2 this

end Tp
namespace Tp
open PySem PySem.Spec PyProof.Rows L2 DL
def top (i : Nat) : Stmt := PySem.Challenge.pw_turnedpixels_k54_six_cornered_balls.main.body.getD i (.Pass ⟨0, 0, 0, 0⟩)
local macro_rules | `(tactic| walk_at "bd") => `(tactic| first
  | assumption
  | (with_reducible refine' Bd.exX _ (by assumption) (by assumption) ?a1 ?a2; (case a1 => walk_at "bd"); (case a2 => walk_at "bd"))
  | (with_reducible refine' Bd.exY _ (by assumption) (by assumption) ?a1 ?a2; (case a1 => walk_at "bd"); (case a2 => walk_at "bd"))
  | (with_reducible refine' Bd.imX _ (by assumption) (by assumption) ?a1 ?a2; (case a1 => walk_at "bd"); (case a2 => walk_at "bd"))
  | (with_reducible refine' Bd.imY _ (by assumption) (by assumption) ?a1 ?a2; (case a1 => walk_at "bd"); (case a2 => walk_at "bd"))
  | (with_reducible refine' Bd.reX (by assumption) (by assumption) ?a1 ?a2; (case a1 => walk_at "bd"); (case a2 => walk_at "bd"))
  | (with_reducible refine' Bd.reY (by assumption) (by assumption) ?a1 ?a2; (case a1 => walk_at "bd"); (case a2 => walk_at "bd"))
  | (with_reducible refine' Bd.rtX _ ?a1 ?a2; (case a1 => walk_at "bd"); (case a2 => walk_at "bd"))
  | (with_reducible refine' Bd.rtY _ ?a1 ?a2; (case a1 => walk_at "bd"); (case a2 => walk_at "bd"))
  | (with_reducible refine' Bd.nrr ?a1 ?a2; (case a1 => walk_at "bd"); (case a2 => walk_at "bd"))
  | with_reducible exact Bd.lgA _ (by assumption) (by assumption)
  | with_reducible exact Bd.lgB _ (by assumption) (by assumption)
  | with_reducible exact Bd.cc (by assumption) (by assumption)
  | with_reducible exact bd_cc (by unfold Bd; decide)
  | with_reducible exact Bd.lit (OfNat.ofNat _)
  | (with_reducible refine' Bd.isq ?a1; (case a1 => walk_at "bd"))
  | with_reducible exact Bd.lit ((OfNat.ofNat _) ^ _)
  | (with_reducible refine' Bd.abs ?a1; (case a1 => walk_at "bd"))
  | (with_reducible refine' Bd.neg ?a1; (case a1 => walk_at "bd"))
  | (with_reducible refine' Bd.mul ?a1 ?a2; (case a1 => walk_at "bd"); (case a2 => walk_at "bd"))
  | (with_reducible refine' Bd.add ?a1 ?a2; (case a1 => walk_at "bd"); (case a2 => walk_at "bd"))
  | (with_reducible refine' Bd.sub ?a1 ?a2; (case a1 => walk_at "bd"); (case a2 => walk_at "bd"))
  | (with_reducible refine' Bd.pow ?a1 _; (case a1 => walk_at "bd"))
  | (with_reducible refine' Bd.ite ?a1 ?a2; (case a1 => walk_at "bd"); (case a2 => walk_at "bd"))
  | (with_reducible refine' Bd.of_lt ?z1 ?z2 ?z3; (case z1 => assumption); (case z2 => assumption); (case z3 => walk_at "bd"))
  | (with_reducible refine' Bd.of_le ?z1 ?z2 ?z3; (case z1 => assumption); (case z2 => assumption); (case z3 => walk_at "bd"))
  | (with_reducible refine' Bd.div ?a1; (case a1 => walk_at "bd"))
  | (with_reducible refine' Bd.mod ?a1 ?a2; (case a1 => walk_at "bd"); (case a2 => walk_at "pos")))
local macro_rules | `(tactic| walk_at "bdu") => `(tactic| (refine' Bd.up ?u1 ?u2; (case u1 => walk_at "bd"); (case u2 => decide +kernel)))
local macro_rules | `(tactic| walk_at "tn") => `(tactic| first | assumption | exact tn_bk2 (by assumption) | exact Tn.zero (by assumption) | exact tn_one (by assumption) (by assumption) | exact ⟨by decide, by decide, by decide, by decide, by decide, by decide, by decide, by decide⟩)
local macro_rules | `(tactic| walk_at "m") => `(tactic| first | assumption | omega)
local macro_rules | `(tactic| walk_at "isi") => `(tactic| first | refine drc_isi rfl k_ii ?_ | refine drc_isi rfl k_ib ?_ | refine drc_isi rfl k_tt ?_ | refine drc_isi rfl k_bi ?_ | refine drc_isi rfl k_bb ?_ | refine drc_isi rfl k_it ?_ | refine drc_isi rfl k_st ?_ | refine drc_isi rfl k_nt ?_ | refine drc_isi rfl k_lt ?_ | refine drc_isi rfl k_bt ?_ | refine drc_isi rfl k_si ?_ | refine drc_isi rfl k_ni ?_ | refine drc_isi rfl k_ti ?_ | refine drc_isi rfl k_li ?_ | refine drc_isi rfl k_ll ?_)
local macro_rules | `(tactic| walk_at "no") => `(tactic| exact absurd hc (by simp))
local macro_rules | `(tactic| walk_at "cmw") => `(tactic| (refine' cmw ?h1 ?h2 ?h3; (case h1 => walk_at "bd"); (case h2 => walk_at "bd"); (case h3 => decide +kernel)))
local macro_rules | `(tactic| walk_at "cdw") => `(tactic| (refine' cdw ?h1 ?h2 ?h3; (case h1 => walk_at "bd"); (case h2 => walk_at "pos"); (case h3 => decide +kernel)))
local macro_rules | `(tactic| walk_at "cpw") => `(tactic| (refine' cpw ?h1 ?h2 ?h3; (case h1 => walk_at "bd"); (case h2 => exact ⟨by decide, by decide⟩); (case h3 => decide +kernel)))
local macro_rules | `(tactic| walk_at "pos") => `(tactic| first | assumption | exact of_decide_eq_true (by assumption) | exact cc_pos (by assumption) | exact Int.mul_pos (cc_pos (by assumption)) (cc_pos (by assumption)) | omega | (split <;> omega) | decide +kernel)
local macro_rules | `(tactic| walk_at "len") => `(tactic| first | decide | omega | (simp; done) | (simp; omega) | (simp only [List.length_map, shC_len]; decide) | (show 3 + 3 ≤ 100000; decide))
local macro_rules | `(tactic| walk_at "len3") => `(tactic| first | decide | exact ⟨by simp, by simp, by simp⟩)
local macro_rules | `(tactic| walk_at "slice") => `(tactic| first | refine sl_t31 ?_ | refine sl_t2 ?_ | refine sl_l ?_)
local macro_rules | `(tactic| walk_at "ix") => `(tactic| first | refine ix_t ?_ | refine ix_t ?_ (by assumption) | refine ix_l ?_ | refine ix_o getS_hd ?_ | (refine ix_o (by walk_at "gets") ?_))
local macro_rules | `(tactic| walk_at "gets") => `(tactic| first | exact getS_hd | assumption | (rw [getS_tl (by assumption)]; first | exact getS_hd | assumption | exact getS_setS_same (by assumption)) | exact getS_setS_same (by assumption))
local macro_rules | `(tactic| walk_at "sets") => `(tactic| first | rw [setS_hd] | rw [setS_setS] | rw [setS_tl (by assumption)] | skip)
local macro_rules | `(tactic| walk_at "eq") => `(tactic| first | refine eq_int ?_ | refine eq_tup ?_ | refine eq_lst ?_ | refine eq_scr ?_ | refine eq_str ?_)
local macro_rules | `(tactic| walk_at "flat") => `(tactic| first | rfl | decide)
local macro_rules | `(tactic| walk_at "sho") => `(tactic| (simp only [rat, shoP, shoL, List.cons_append, List.nil_append, true_and, and_true] <;> walk_at "shos"))
local macro_rules | `(tactic| walk_at "shos") => `(tactic| first | trivial | (refine ⟨?_, ?_⟩ <;> walk_at "shos") | (refine' shw ?h1 ?h2; (case h1 => walk_at "bd"); (case h2 => decide +kernel)))
local macro_rules | `(tactic| walk_at "big") => `(tactic| (simp only [rat, bigD, bigL, List.cons_append, List.nil_append]; decide))
local macro_rules | `(tactic| walk_at "obj") => `(tactic| first | exact .inl ⟨_, rfl⟩ | exact .inr ⟨_, rfl⟩)
local macro_rules | `(tactic| walk_at "lenP") => `(tactic| first | refine (show lenP (.tup _) _ _ from ?_) | refine (show lenP (.lst _) _ _ from ?_) | refine (show lenP (.scr _) _ _ from ?_) | skip)
local macro_rules | `(tactic| walk_at "rng") => `(tactic| first | decide | omega)
local macro_rules | `(tactic| walk_at "ord") => `(tactic| skip)
local macro_rules | `(tactic| walk_at "wk") => `(tactic| (repeat (first | refine ⟨rfl, ?_⟩ | exact trivial)))
local macro_rules | `(tactic| walk_at "spx") => `(tactic| first | exact ⟨by assumption, by assumption⟩ | (refine ⟨?_, ?_⟩ <;> first | omega | (split <;> omega)))
local macro_rules | `(tactic| walk_at "at") => `(tactic| first | rfl | assumption)
local macro_rules | `(tactic| walk_at "isr") => `(tactic| first | assumption | exact re_is (by assumption) _ _ | exact ⟨⟨by decide, by decide⟩, by decide, by decide⟩)
local macro_rules | `(tactic| walk_at "isq") => `(tactic| first | exact isq_ok (root_p _ _) (sq_bd (by assumption)) | exact isq_ok (root_q _ _) (sq_bd (by assumption)) | exact ⟨by omega, (show Bd 3000 _ by walk_at "bdu")⟩)
local macro_rules | `(tactic| walk_at "n0") => `(tactic| first | assumption | omega | decide)
local macro_rules | `(tactic| walk_at "cfl") => `(tactic| first | exact flat_ints _ | exact flat_bls _ | rfl)
local macro_rules | `(tactic| walk_at "cpl") => `(tactic| first | exact plain_ints _ | exact plain_bls _ | rfl)
local macro_rules | `(tactic| walk_at "zl") => `(tactic| first | (rw [List.length_map, List.length_map]; assumption) | (simp only [List.length_map, List.length_range]; done) | (simp; done))
local macro_rules | `(tactic| walk_at "sets2") => `(tactic| first | rw [setS_hd] | (rw [setS_tl (by assumption)]; first | rw [setS_hd] | rw [setS_setS] | skip) | rw [setS_setS] | skip)
local macro_rules | `(tactic| walk_at "sc") => `(tactic| first | assumption | exact sc_great ⟨by assumption, by assumption⟩ ⟨by assumption, by assumption⟩ ⟨by assumption, by assumption⟩ | exact ⟨by decide, by decide, by decide, by decide, by decide, by decide, by decide⟩ | exact ⟨by decide +kernel, by decide +kernel, by decide +kernel, by decide +kernel, by decide +kernel, by decide +kernel, by decide +kernel⟩)
local macro_rules | `(tactic| walk_at "gi") => `(tactic| first | exact ⟨by assumption, by assumption⟩ | exact ⟨by omega, by omega⟩ | (refine ⟨?_, ?_⟩ <;> (try dsimp only) <;> split <;> omega) | (dsimp only; omega) | (refine ⟨?_, ?_⟩ <;> dsimp only <;> omega))
local macro_rules | `(tactic| walk_at "kw1") => `(tactic| first | assumption | exact ⟨by assumption, by assumption⟩)
local macro_rules | `(tactic| walk_at "kw") => `(tactic| first | assumption)
local macro_rules | `(tactic| walk_at "kwt") => `(tactic| first | assumption | exact kw_tn (by assumption))
local macro_rules | `(tactic| walk_at "kwl") => `(tactic| first | assumption | omega | (simp only [List.length_map, List.length_reverse]; omega))
local macro_rules | `(tactic| walk_at "rd") => `(tactic| first | (refine ⟨?_, ?_⟩ <;> first | assumption | omega | decide +kernel))
local macro_rules | `(tactic| walk_at "sx") => `(tactic| first | assumption | exact sx_bk (by assumption) | exact sx_rot (by assumption) _ | exact sx_kin (by assumption) _ _ ⟨by omega, by omega⟩ | exact ⟨by decide, by decide, by decide, by decide, by decide, by decide, by decide, by decide, by decide, by decide⟩)
local macro_rules | `(tactic| walk_at "k6") => `(tactic| first | exact ⟨by assumption, by assumption⟩ | exact ⟨by omega, by omega⟩)
local macro_rules | `(tactic| walk_at "shl") => `(tactic| first | omega | (simp only [List.length_map]; omega) | (rw [List.length_replicate]; omega))
local macro_rules | `(tactic| walk_at "nos") => `(tactic| first | assumption | exact noS_nil | exact noS_cons rfl noS_nil | exact noS_src1 (by assumption))
local macro_rules | `(tactic| walk_at "mlen") => `(tactic| (rw [List.length_map]; show _ * 2 ≤ _; omega))
section
variable {P : Program} {w : World} {K : PySem.W.Frag} {mg : Str → Option Value} {base : Heap}
abbrev s_is_whole : Stmt := top 8
theorem sc_is_whole : FnScope ["value"] ["value"] (defScope s_is_whole) := ⟨rfl, rfl, rfl, by decide +kernel, rfl, by decide +kernel, by decide +kernel⟩
set_option maxHeartbeats 40000000 in
theorem ok_is_whole {f : Addr} {fd : FuncData} (F : Fun K "is_whole" "is_whole" s_is_whole f fd) (n_bool : mg "bool" = none) (n_int : mg "int" = none) (n_isinstance : mg "isinstance" = none) : GOk P w K mg base 1 f fd ["value"] (spD K (con_wholeA K)) := by
  refine gok_ds F sc_is_whole (m := 0) rfl (fun ds S0 Q h => ?_) fun cdv A fr s0 H0 E0' gd hr ds S0 Q h => ?_
  · obtain ⟨_, rfl, _⟩ := h
    rfl
  obtain ⟨d, rfl, ⟨t9, hty, hi9, hb9, htu, hls, hst⟩, q⟩ := h
  refine ds_nrm ?_ (by set_option simprocs false in dsimp only [List.map, List.replicate, List.cons_append, List.nil_append])
  refine ds_cons ?_
  refine ds_ret ?_
  refine de_and ?_
  refine de_B call_isi_D n_isinstance bt_isinstance ?_
  refine da_cons ?_
  refine de_name 0 ?_
  refine da_cons ?_
  refine de_ty n_int bt_int ?_
  refine da_nil ?_
  refine drc_isiD hty hi9 ?_
  refine ⟨_, rfl, fun hb => ?_, fun hb => ?_⟩
  · rw [show wholeD d = false by cases d <;> first | rfl | cases hb] at q; exact q
  refine de_one ?_
  refine de_not ?_
  refine de_B call_isi_D n_isinstance bt_isinstance ?_
  refine da_cons ?_
  refine de_name 0 ?_
  refine da_cons ?_
  refine de_ty n_bool bt_bool ?_
  refine da_nil ?_
  refine drc_isiD hty hb9 ?_
  refine ⟨_, rfl, ?_⟩
  rw [show (!isBlD d) = wholeD d by cases d <;> first | rfl | cases hb]
  exact q
abbrev s_is_whole_tuple : Stmt := top 9
theorem sc_is_whole_tuple : FnScope ["value", "size", "part"] ["value", "size"] (defScope s_is_whole_tuple) := ⟨rfl, rfl, rfl, by decide +kernel, rfl, by decide +kernel, by decide +kernel⟩
set_option maxHeartbeats 40000000 in
theorem ok_is_whole_tuple {f : Addr} {fd : FuncData} (F : Fun K "is_whole_tuple" "is_whole_tuple" s_is_whole_tuple f fd) (c_is_whole : Cal P w K mg base 1 "is_whole" ["value"] [] (con_wholeA K)) (n_all : mg "all" = none) (n_isinstance : mg "isinstance" = none) (n_len : mg "len" = none) (n_tuple : mg "tuple" = none) : GOk P w K mg base 2 f fd ["value", "size"] (spD K (con_wtA K)) := by
  refine gok_ds F sc_is_whole_tuple (m := 1) rfl (fun ds S0 Q h => ?_) fun cdv A fr s0 H0 E0' gd hr ds S0 Q h => ?_
  · obtain ⟨_, _, rfl, _⟩ := h
    rfl
  obtain ⟨d, n, rfl, hA, hl9, q⟩ := h
  obtain ⟨t9, hty, hi9, hb9, htu, hls, hst⟩ := hA.v
  refine ds_nrm ?_ (by set_option simprocs false in dsimp only [List.map, List.replicate, List.cons_append, List.nil_append])
  refine ds_cons ?_
  refine ds_ret ?_
  refine de_and ?_
  refine de_B call_isi_D n_isinstance bt_isinstance ?_
  refine da_cons ?_
  refine de_name 0 ?_
  refine da_cons ?_
  refine de_ty n_tuple bt_tuple ?_
  refine da_nil ?_
  refine drc_isiD hty htu ?_
  refine ⟨_, rfl, fun hb => ?_, fun hb => ?_⟩
  · rw [show wtB n d = false by cases d <;> first | rfl | cases hb] at q; exact q
  obtain ⟨l9, rfl⟩ : ∃ l, d = .tup l := by cases d <;> first | exact ⟨_, rfl⟩ | cases hb
  refine de_and ?_
  refine de_eq (hr.units) ?_
  refine de_B call_len_seq n_len bt_len ?_
  refine da_cons ?_
  refine de_name 0 ?_
  refine da_nil ?_
  refine drc_len ?_
  walk_at "lenP"
  refine de_name 1 ?_
  refine eq_int ?_
  refine ⟨_, rfl, fun hb => ?_, fun hb => ?_⟩
  · rw [show wtB n (.tup l9) = false by rw [wtB, hb]; rfl] at q; exact q
  refine de_one ?_
  refine de_B (cr_all rfl) n_all bt_all ?_
  refine da_cons ?_
  refine de_lc 2 rfl sc_is_whole_tuple.nd (blkOk_by (N := ["value", "size", "part"]) (sc := defScope s_is_whole_tuple) (by decide +kernel)) ?_ (fun _ _ _ _ _ => pg_name sc_is_whole_tuple.nd rfl (Or.inl rfl))
  refine di_tup ?_
  refine de_name 0 ?_
  refine ⟨_, rfl, ?_⟩
  refine ⟨fun k acc S' => S' = S0 ∧ acc = (l9.map (fun z => D.bl (wholeD z))).take k, ⟨rfl, rfl⟩, fun k d9 acc S' p hk hP hp hl s H C cl fp => ?_, by have := hl9 l9 rfl; omega, fun acc S' hl hP => ?_⟩
  · obtain ⟨rfl, rfl⟩ := hP
    refine de_call c_is_whole gd (hr.mono (by decide)) ?_
    refine da_cons ?_
    refine de_name 2 ?_
    refine da_nil ?_
    refine ⟨_, rfl, hA.p _ rfl _ (List.mem_of_getElem? hk), ?_⟩
    exact ⟨_, rfl, rfl, by rw [take_step (fun z => D.bl (wholeD z)) hk]⟩
  obtain ⟨rfl, rfl⟩ := hP
  rw [List.take_of_length_le (by rw [List.length_map]; exact Nat.le_refl _), wt_map]
  refine da_nil ?_
  refine drc_all ?_
  rw [all_id]
  have q9 := q
  rw [wtB, hb, Bool.true_and] at q9
  exact q9
abbrev s_is_pixel : Stmt := top 11
theorem sc_is_pixel : FnScope ["value"] ["value"] (defScope s_is_pixel) := ⟨rfl, rfl, rfl, by decide +kernel, rfl, by decide +kernel, by decide +kernel⟩
set_option maxHeartbeats 40000000 in
theorem ok_is_pixel {f : Addr} {fd : FuncData} (F : Fun K "is_pixel" "is_pixel" s_is_pixel f fd) (c_is_whole_tuple : Cal P w K mg base 2 "is_whole_tuple" ["value", "size"] [] (con_wtA K)) : GOk P w K mg base 3 f fd ["value"] (spD K (con_pixA K)) := by
  refine gok_ds F sc_is_pixel (m := 0) rfl (fun ds S0 Q h => ?_) fun cdv A fr s0 H0 E0' gd hr ds S0 Q h => ?_
  · obtain ⟨_, rfl, _⟩ := h
    rfl
  obtain ⟨d, rfl, hA, hl9, q⟩ := h
  refine ds_nrm ?_ (by set_option simprocs false in dsimp only [List.map, List.replicate, List.cons_append, List.nil_append])
  refine ds_cons ?_
  refine ds_ret ?_
  refine de_call c_is_whole_tuple gd (hr.mono (by decide)) ?_
  refine da_cons ?_
  refine de_name 0 ?_
  refine da_cons ?_
  refine de_int ?_
  refine da_nil ?_
  refine ⟨_, _, rfl, hA, hl9, ?_⟩
  exact q
abbrev s_check_pixel : Stmt := top 12
theorem sc_check_pixel : FnScope ["pixel"] ["pixel"] (defScope s_check_pixel) := ⟨rfl, rfl, rfl, by decide +kernel, rfl, by decide +kernel, by decide +kernel⟩
set_option maxHeartbeats 40000000 in
theorem ok_check_pixel {f : Addr} {fd : FuncData} (F : Fun K "check_pixel" "check_pixel" s_check_pixel f fd) (c_is_pixel : Cal P w K mg base 3 "is_pixel" ["value"] [] (con_pixA K)) : GOk P w K mg base 4 f fd ["pixel"] (spD K con_check_pixel) := by
  refine gok_ds F sc_check_pixel (m := 0) rfl (fun ds S0 Q h => ?_) fun cdv A fr s0 H0 E0' gd hr ds S0 Q h => ?_
  · obtain ⟨_, _, rfl, _⟩ := h
    rfl
  obtain ⟨x, y, rfl, q⟩ := h
  refine ds_nrm ?_ (by set_option simprocs false in dsimp only [List.map, List.replicate, List.cons_append, List.nil_append])
  refine ds_cons ?_
  refine ds_if ?_
  refine dt_not ?_
  refine dt_val (h := ?_)
  refine de_call c_is_pixel gd (hr.mono (by decide)) ?_
  refine da_cons ?_
  refine de_name 0 ?_
  refine da_nil ?_
  refine ⟨_, rfl, any_pt rfl, (fun l e => by cases e; exact Nat.le_add_left 2 998), ?_⟩
  refine ⟨_, rfl, ?_⟩
  refine ⟨fun ht => ?_, fun ht => ?_⟩
  · cases ht
  refine ds_nil ?_
  refine ds_nil ?_
  exact q
set_option maxHeartbeats 40000000 in
theorem okx_check_pixel {f : Addr} {fd : FuncData} (F : Fun K "check_pixel" "check_pixel" s_check_pixel f fd) {C_InvalidPixel : Addr} (c_is_pixel : Cal P w K mg base 3 "is_pixel" ["value"] [] (con_pixA K)) (o_InvalidPixel : OwnErr K mg "InvalidPixel" C_InvalidPixel) : GOkX P w K mg base 4 f fd ["pixel"] (spDX K (con_chkX K pixB C_InvalidPixel)) := by
  refine gokx_ds F sc_check_pixel (m := 0) rfl (fun ds S0 Q R h => ?_) fun cdv A fr s0 H0 E0' gd hr ds S0 Q R h => ?_
  · obtain ⟨_, rfl, _⟩ := h
    rfl
  obtain ⟨d, rfl, hA, q1, q2⟩ := h
  refine dsx_nrm ?_ (by set_option simprocs false in dsimp only [List.map, List.replicate, List.cons_append, List.nil_append])
  refine dsx_cons ?_
  refine dsx_if ?_
  refine dt_not ?_
  refine dt_val (h := ?_)
  refine de_call c_is_pixel gd (hr.mono (by decide)) ?_
  refine da_cons ?_
  refine de_name 0 ?_
  refine da_nil ?_
  refine ⟨_, rfl, hA.t, hA.l, ?_⟩
  refine ⟨_, rfl, ?_⟩
  refine ⟨fun ht => ?_, fun ht => ?_⟩
  · refine dsx_cons ?_
    refine dsx_raise_own o_InvalidPixel rfl ?_
    exact q1 (by simpa using ht)
  refine dsx_nil ?_
  refine dsx_nil ?_
  exact q2 (by simpa using ht)
abbrev s__law_source : Stmt := top 32
theorem sc__law_source : FnScope ["_law_entry", "_law_k", "_law_great"] ["_law_entry", "_law_k"] (defScope s__law_source) := ⟨rfl, rfl, rfl, by decide +kernel, rfl, by decide +kernel, by decide +kernel⟩
set_option maxHeartbeats 40000000 in
theorem ok__law_source {f : Addr} {fd : FuncData} (F : Fun K "_law_source" "_law_source" s__law_source f fd) (n_abs : mg "abs" = none) (n_int : mg "int" = none) (n_max : mg "max" = none) : GOk P w K mg base 1 f fd ["_law_entry", "_law_k"] (spD K con_source) := by
  refine gok_ds F sc__law_source (m := 1) rfl (fun ds S0 Q h => ?_) fun cdv A fr s0 H0 E0' gd hr ds S0 Q h => ?_
  · obtain ⟨_, _, rfl, _⟩ := h
    rfl
  obtain ⟨e, k, rfl, ⟨k1, k2⟩, q⟩ := h
  have bk : Bd 7 k := by unfold Bd; omega
  refine ds_nrm ?_ (by set_option simprocs false in dsimp only [List.map, List.replicate, List.cons_append, List.nil_append])
  refine ds_cons ?_
  refine ds_asg (h := ?_)
  refine de_B call_abs n_abs bt_abs ?_
  refine da_cons ?_
  refine de_name 0 ?_
  refine da_nil ?_
  refine drc_abs ?_
  refine dg_name 2 ?_ sc__law_source.nd
  refine ds_cons ?_
  refine ds_ret ?_
  refine de_lstO ?_
  refine da_cons ?_
  refine de_B (call_max2 rfl) n_max bt_max ?_
  refine da_cons ?_
  refine de_int ?_
  refine da_cons ?_
  refine de_sub ?_
  refine de_name 2 ?_
  refine de_pow ?_
  refine de_int ?_
  refine de_int ?_
  refine ⟨_, _, rfl, rfl, (by walk_at "cpw"), ?_⟩
  refine ⟨_, _, rfl, rfl, ?_⟩
  refine da_nil ?_
  refine drc_max ?_
  refine da_cons ?_
  refine de_add ?_
  refine de_add ?_
  refine de_mul ?_
  refine de_mod ?_
  refine de_T call_int1 n_int bt_int ?_
  refine da_cons ?_
  refine de_name 2 ?_
  refine da_nil ?_
  first | refine drc_int ?_ | refine drc_intb ?_
  refine de_add ?_
  refine de_pow ?_
  refine de_int ?_
  refine de_int ?_
  refine ⟨_, _, rfl, rfl, (by walk_at "cpw"), ?_⟩
  refine de_int ?_
  first | refine add_int ?_ | refine add_lst ?_ (by walk_at "len") | refine add_tup ?_ (by walk_at "len3") | refine add_scr ?_ (by walk_at "len") | refine (show addP (.str _) (.str _) _ _ from ⟨by decide +kernel, ?_⟩)
  refine ⟨_, _, rfl, rfl, (by walk_at "pos"), ?_⟩
  refine de_int ?_
  first | refine mul_i ?_ (by walk_at "cmw") | refine mul_l ?_ ⟨by decide, by decide, by first | decide | exact Nat.le_of_ble_eq_true rfl | walk_at "mlen"⟩
  refine de_mul ?_
  refine de_int ?_
  refine de_name 1 ?_
  first | refine mul_i ?_ (by walk_at "cmw") | refine mul_l ?_ ⟨by decide, by decide, by first | decide | exact Nat.le_of_ble_eq_true rfl | walk_at "mlen"⟩
  first | refine add_int ?_ | refine add_lst ?_ (by walk_at "len") | refine add_tup ?_ (by walk_at "len3") | refine add_scr ?_ (by walk_at "len") | refine (show addP (.str _) (.str _) _ _ from ⟨by decide +kernel, ?_⟩)
  refine de_T call_int1 n_int bt_int ?_
  refine da_cons ?_
  refine de_lt ?_
  refine de_name 0 ?_
  refine de_int ?_
  refine ⟨_, _, rfl, rfl, ?_⟩
  refine da_nil ?_
  first | refine drc_int ?_ | refine drc_intb ?_
  first | refine add_int ?_ | refine add_lst ?_ (by walk_at "len") | refine add_tup ?_ (by walk_at "len3") | refine add_scr ?_ (by walk_at "len") | refine (show addP (.str _) (.str _) _ _ from ⟨by decide +kernel, ?_⟩)
  refine da_cons ?_
  refine de_int ?_
  refine da_nil ?_
  refine ⟨by walk_at "len", fun p1 hp1 => ?_⟩
  exact q _ _ (by assumption) (src_mk (src_a _ _) (src_b _ _ _ ⟨k1, k2⟩))
abbrev s__law_draw : Stmt := top 33
theorem sc__law_draw : FnScope ["_law_source_here", "_law_count", "_law_digit", "_law_mixed"] ["_law_source_here", "_law_count"] (defScope s__law_draw) := ⟨rfl, rfl, rfl, by decide +kernel, rfl, by decide +kernel, by decide +kernel⟩
set_option maxHeartbeats 40000000 in
theorem ok__law_draw {f : Addr} {fd : FuncData} (F : Fun K "_law_draw" "_law_draw" s__law_draw f fd) (n_int : mg "int" = none) : GOk P w K mg base 1 f fd ["_law_source_here", "_law_count"] (spD K con_draw) := by
  refine gok_ds F sc__law_draw (m := 2) rfl (fun ds S0 Q h => ?_) fun cdv A fr s0 H0 E0' gd hr ds S0 Q h => ?_
  · obtain ⟨_, _, _, _, rfl, _⟩ := h
    rfl
  obtain ⟨p, n, l, m, rfl, hg, ⟨a, b, c, rfl, ha, hb, hc, hb0⟩, hm, hn, bn, qq⟩ := h
  have bc : Bd 30 c := by unfold Bd; omega
  have bc1 : Bd 30 (c + 1) := by unfold Bd; omega
  refine ds_nrm ?_ (by set_option simprocs false in dsimp only [List.map, List.replicate, List.cons_append, List.nil_append])
  refine ds_cons ?_
  refine ds_if ?_
  refine dt_gt ?_
  refine de_ix (h := ?_)
  refine de_name 0 ?_
  refine de_int ?_
  walk_at "ix"
  refine de_int ?_
  refine ⟨_, _, rfl, rfl, ?_⟩
  refine ⟨fun ht => ?_, fun ht => ?_⟩
  · refine ds_cons ?_
    refine ds_asg (h := ?_)
    refine de_mod ?_
    refine de_T call_int1 n_int bt_int ?_
    refine da_cons ?_
    refine de_ix (h := ?_)
    refine de_name 0 ?_
    refine de_int ?_
    walk_at "ix"
    refine da_nil ?_
    first | refine drc_int ?_ | refine drc_intb ?_
    refine de_name 1 ?_
    refine ⟨_, _, rfl, rfl, (by walk_at "pos"), ?_⟩
    refine dg_name 2 ?_ sc__law_draw.nd
    refine ds_cons ?_
    refine ds_asg (h := ?_)
    refine de_fdiv ?_
    refine de_ix (h := ?_)
    refine de_name 0 ?_
    refine de_int ?_
    walk_at "ix"
    refine de_name 1 ?_
    refine ⟨_, _, rfl, rfl, (by walk_at "cdw"), ?_⟩
    refine dg_sub ?_
    refine de_name 0 ?_
    refine de_int ?_
    refine ⟨_, _, _, _, rfl, rfl, (by walk_at "gets"), rfl, ?_⟩
    walk_at "sets"
    refine ds_cons ?_
    refine ds_ret ?_
    refine de_name 2 ?_
    exact qq _ _ (Int.emod_nonneg _ (by omega)) (Int.emod_lt_of_pos _ hn) (src_div ha hb hc hb0 hn)
  refine ds_nil ?_
  refine ds_cons ?_
  refine ds_asg (h := ?_)
  refine de_add ?_
  refine de_ix (h := ?_)
  refine de_name 0 ?_
  refine de_int ?_
  walk_at "ix"
  refine de_int ?_
  first | refine add_int ?_ | refine add_lst ?_ (by walk_at "len") | refine add_tup ?_ (by walk_at "len3") | refine add_scr ?_ (by walk_at "len") | refine (show addP (.str _) (.str _) _ _ from ⟨by decide +kernel, ?_⟩)
  refine dg_sub ?_
  refine de_name 0 ?_
  refine de_int ?_
  refine ⟨_, _, _, _, rfl, rfl, (by walk_at "gets"), rfl, ?_⟩
  walk_at "sets"
  refine ds_cons ?_
  refine ds_asg (h := ?_)
  refine de_mod ?_
  refine de_T call_int1 n_int bt_int ?_
  refine da_cons ?_
  refine de_pow ?_
  refine de_add ?_
  refine de_ix (h := ?_)
  refine de_name 0 ?_
  refine de_int ?_
  walk_at "ix"
  refine de_mul ?_
  refine de_int ?_
  refine de_ix (h := ?_)
  refine de_name 0 ?_
  refine de_int ?_
  walk_at "ix"
  first | refine mul_i ?_ (by walk_at "cmw") | refine mul_l ?_ ⟨by decide, by decide, by first | decide | exact Nat.le_of_ble_eq_true rfl | walk_at "mlen"⟩
  first | refine add_int ?_ | refine add_lst ?_ (by walk_at "len") | refine add_tup ?_ (by walk_at "len3") | refine add_scr ?_ (by walk_at "len") | refine (show addP (.str _) (.str _) _ _ from ⟨by decide +kernel, ?_⟩)
  refine de_int ?_
  refine ⟨_, _, rfl, rfl, (by walk_at "cpw"), ?_⟩
  refine da_nil ?_
  first | refine drc_int ?_ | refine drc_intb ?_
  refine de_add ?_
  refine de_pow ?_
  refine de_int ?_
  refine de_int ?_
  refine ⟨_, _, rfl, rfl, (by walk_at "cpw"), ?_⟩
  refine de_int ?_
  first | refine add_int ?_ | refine add_lst ?_ (by walk_at "len") | refine add_tup ?_ (by walk_at "len3") | refine add_scr ?_ (by walk_at "len") | refine (show addP (.str _) (.str _) _ _ from ⟨by decide +kernel, ?_⟩)
  refine ⟨_, _, rfl, rfl, (by walk_at "pos"), ?_⟩
  refine dg_name 3 ?_ sc__law_draw.nd
  refine ds_cons ?_
  refine ds_asg (h := ?_)
  refine de_mod ?_
  refine de_T call_int1 n_int bt_int ?_
  refine da_cons ?_
  refine de_pow ?_
  refine de_add ?_
  refine de_mul ?_
  refine de_name 3 ?_
  refine de_ix (h := ?_)
  refine de_name 0 ?_
  refine de_int ?_
  walk_at "ix"
  first | refine mul_i ?_ (by walk_at "cmw") | refine mul_l ?_ ⟨by decide, by decide, by first | decide | exact Nat.le_of_ble_eq_true rfl | walk_at "mlen"⟩
  refine de_int ?_
  first | refine add_int ?_ | refine add_lst ?_ (by walk_at "len") | refine add_tup ?_ (by walk_at "len3") | refine add_scr ?_ (by walk_at "len") | refine (show addP (.str _) (.str _) _ _ from ⟨by decide +kernel, ?_⟩)
  refine de_int ?_
  refine ⟨_, _, rfl, rfl, (by walk_at "cpw"), ?_⟩
  refine da_nil ?_
  first | refine drc_int ?_ | refine drc_intb ?_
  refine de_add ?_
  refine de_pow ?_
  refine de_int ?_
  refine de_int ?_
  refine ⟨_, _, rfl, rfl, (by walk_at "cpw"), ?_⟩
  refine de_int ?_
  first | refine add_int ?_ | refine add_lst ?_ (by walk_at "len") | refine add_tup ?_ (by walk_at "len3") | refine add_scr ?_ (by walk_at "len") | refine (show addP (.str _) (.str _) _ _ from ⟨by decide +kernel, ?_⟩)
  refine ⟨_, _, rfl, rfl, (by walk_at "pos"), ?_⟩
  refine dg_name 3 ?_ sc__law_draw.nd
  refine ds_cons ?_
  refine ds_ret ?_
  refine de_mod ?_
  refine de_T call_int1 n_int bt_int ?_
  refine da_cons ?_
  refine de_fdiv ?_
  refine de_name 3 ?_
  refine de_int ?_
  refine ⟨_, _, rfl, rfl, (by walk_at "cdw"), ?_⟩
  refine da_nil ?_
  first | refine drc_int ?_ | refine drc_intb ?_
  refine de_name 1 ?_
  refine ⟨_, _, rfl, rfl, (by walk_at "pos"), ?_⟩
  exact qq _ _ (Int.emod_nonneg _ (by omega)) (Int.emod_lt_of_pos _ hn) (src_next ha hb hc hb0)
abbrev s__law_dot : Stmt := top 34
theorem sc__law_dot : FnScope ["_law_source_here", "_law_wide", "_law_spots", "_law_k"] ["_law_source_here", "_law_wide"] (defScope s__law_dot) := ⟨rfl, rfl, rfl, by decide +kernel, rfl, by decide +kernel, by decide +kernel⟩
set_option maxHeartbeats 40000000 in
theorem ok__law_dot {f : Addr} {fd : FuncData} (F : Fun K "_law_dot" "_law_dot" s__law_dot f fd) (c__law_draw : Cal P w K mg base 1 "_law_draw" ["_law_source_here", "_law_count"] [] con_draw) (n_range : mg "range" = none) (n_tuple : mg "tuple" = none) : GOk P w K mg base 2 f fd ["_law_source_here", "_law_wide"] (spD K con_dot) := by
  refine gok_ds F sc__law_dot (m := 2) rfl (fun ds S0 Q h => ?_) fun cdv A fr s0 H0 E0' gd hr ds S0 Q h => ?_
  · obtain ⟨_, _, _, _, rfl, _⟩ := h
    rfl
  obtain ⟨pp, n, l, m, rfl, hg, hS, hm, hn, bn, qq⟩ := h
  refine ds_nrm ?_ (by set_option simprocs false in dsimp only [List.map, List.replicate, List.cons_append, List.nil_append])
  refine ds_cons ?_
  refine ds_asg (h := ?_)
  refine de_lstO ?_
  refine da_nil ?_
  refine ⟨by walk_at "len", fun p1 hp1 => ?_⟩
  refine dg_name 2 ?_ sc__law_dot.nd
  refine ds_cons ?_
  refine ds_for (γ := Unit) PassesOwn.never rfl ?_
  refine di_rng1 n_range ?_
  refine da_cons ?_
  refine de_int ?_
  refine da_nil ?_
  refine ⟨_, rfl, (by walk_at "rng"), ?_⟩
  have hne : p1 ≠ pp := fun z => by rw [z, hg] at hp1; cases hp1
  refine ⟨fun _ => [some (.raw (.ref pp)), some (.int n), some (.raw (.ref p1)), none], fun i _ S' => ∃ (xs : List Int) (l' : List D), S' = (p1, xs.map D.int) :: setS pp l' S0 ∧ xs.length = i ∧ (∀ x ∈ xs, -n ≤ x ∧ x ≤ n) ∧ Src (m + i) l' ∧ getS pp (setS pp l' S0) = some l', (), ⟨rfl, rfl, rfl, trivial⟩, ⟨[], l, by rw [setS_self hg] <;> rfl, rfl, (fun _ h => nomatch h), hS, getS_setS_same hg⟩, fun i d _ S' hi hP => ?_, fun _ S' hP => ?_⟩
  · obtain ⟨xs, l', rfl, hl, hx, hS', hg'⟩ := hP
    obtain ⟨hi2, rfl⟩ := rngD_get hi
    have hi3 : i < 2 := hi2
    refine dg_name 3 ?_ sc__law_dot.nd
    refine ds_cons ?_
    refine ds_expr (h := ?_)
    refine de_append ?_
    refine de_name 2 ?_
    refine ⟨_, _, rfl, (by walk_at "gets"), ?_⟩
    refine da_cons ?_
    refine de_sub ?_
    refine de_call c__law_draw gd (hr.mono (by decide)) ?_
    refine da_cons ?_
    refine de_name 0 ?_
    refine da_cons ?_
    refine de_add ?_
    refine de_mul ?_
    refine de_int ?_
    refine de_name 1 ?_
    first | refine mul_i ?_ (by walk_at "cmw") | refine mul_l ?_ ⟨by decide, by decide, by first | decide | exact Nat.le_of_ble_eq_true rfl | walk_at "mlen"⟩
    refine de_int ?_
    first | refine add_int ?_ | refine add_lst ?_ (by walk_at "len") | refine add_tup ?_ (by walk_at "len3") | refine add_scr ?_ (by walk_at "len") | refine (show addP (.str _) (.str _) _ _ from ⟨by decide +kernel, ?_⟩)
    refine da_nil ?_
    refine ⟨_, _, _, _, rfl, (by walk_at "gets"), (by assumption), (by walk_at "m"), (by walk_at "pos"), (by walk_at "bdu"), fun r2 l2 hr2 hn2 hs2 => ?_⟩
    walk_at "sets"
    refine de_name 1 ?_
    refine ⟨_, _, rfl, rfl, ?_⟩
    refine da_nil ?_
    refine ⟨_, _, rfl, (by walk_at "gets"), (by walk_at "len"), ?_⟩
    walk_at "sets"
    refine ds_nil ?_
    rw [setS_setS]
    refine ⟨(), ⟨rfl, rfl, rfl, trivial⟩, xs ++ [r2 - n], l2, by rw [List.map_append] <;> rfl, by rw [List.length_append, hl] <;> rfl, fun x hx' => ?_, (by assumption : Src _ _).up (by omega), getS_setS_same hg⟩
    rcases List.mem_append.mp hx' with z | z
    · exact hx x z
    · have z : x = r2 - n := by simpa using z
      omega
  obtain ⟨xs, l', rfl, hl, hx, hS', hg'⟩ := hP
  have hl : xs.length = 2 := hl
  obtain ⟨x, y, rfl⟩ : ∃ x y, xs = [x, y] := by
    match xs, hl with
    | [x, y], _ => exact ⟨x, y, rfl⟩
  refine ds_freeze 2 rfl (ds_nrm ?_) rfl
  refine ds_cons ?_
  refine ds_ret ?_
  refine de_T call_tuple_of n_tuple bt_tuple ?_
  refine da_cons ?_
  refine de_name 2 ?_
  refine da_nil ?_
  first | refine drc_tuple ?_ | refine drc_tupleO getS_hd ?_
  exact qq x y l' (hx x (by simp)) (hx y (by simp)) hS'
abbrev s__is_six : Stmt := top 25
theorem sc__is_six : FnScope ["value", "p", "q", "sixths"] ["value"] (defScope s__is_six) := ⟨rfl, rfl, rfl, by decide +kernel, rfl, by decide +kernel, by decide +kernel⟩
set_option maxHeartbeats 40000000 in
theorem ok__is_six {f : Addr} {fd : FuncData} (F : Fun K "_is_six" "_is_six" s__is_six f fd) (b_gcd : mg "gcd" = some (.builtin "math.gcd")) (c_is_whole_tuple : Cal P w K mg base 2 "is_whole_tuple" ["value", "size"] [] (con_wtA K)) (g_GREATEST_PART : ∃ u, mg "GREATEST_PART" = some (.int (1000000000000000) u)) (n_abs : mg "abs" = none) (n_max : mg "max" = none) : GOk P w K mg base 3 f fd ["value"] (spD K con_is6) := by
  refine gok_ds F sc__is_six (m := 3) rfl (fun ds S0 Q h => ?_) fun cdv A fr s0 H0 E0' gd hr ds S0 Q h => ?_
  · obtain ⟨_, _, _, rfl, _⟩ := h
    rfl
  obtain ⟨p, q, k, rfl, hS, qq⟩ := h
  have p1 := hS.p1
  have p2 := hS.p2
  have q1 := hS.q1
  have q2 := hS.q2
  have d1 := hS.d1
  have d2 := hS.d2
  have k1 := hS.k1
  have k2 := hS.k2
  have b1 := hS.bp
  have b2 := hS.bq
  have b3 := hS.b3
  have hm := mx3_le6 (abs_le2 p1 p2) (abs_le2 q1 q2) (abs_le2 d1 d2)
  have hg := hS.g
  have ho := hS.o
  refine ds_nrm ?_ (by set_option simprocs false in dsimp only [List.map, List.replicate, List.cons_append, List.nil_append])
  refine ds_cons ?_
  refine ds_if ?_
  refine dt_not ?_
  refine dt_val (h := ?_)
  refine de_call c_is_whole_tuple gd (hr.mono (by decide)) ?_
  refine da_cons ?_
  refine de_name 0 ?_
  refine da_cons ?_
  refine de_int ?_
  refine da_nil ?_
  refine ⟨_, 3, rfl, (Any.i3 (K := K)).t, (Any.i3 (K := K)).l, ?_⟩
  refine ⟨_, rfl, ?_⟩
  refine ⟨fun ht => ?_, fun ht => ?_⟩
  · cases ht
  refine ds_nil ?_
  refine ds_cons ?_
  refine ds_asg (h := ?_)
  refine de_name 0 ?_
  first | refine dg_tup rfl rfl ?_ | refine dg_tupL rfl rfl ?_ (fun h => pg_lst rfl h)
  refine dgs_cons (h := ?_)
  refine dg_name 1 ?_ sc__is_six.nd
  refine dgs_cons (h := ?_)
  refine dg_name 2 ?_ sc__is_six.nd
  refine dgs_cons (h := ?_)
  refine dg_name 3 ?_ sc__is_six.nd
  refine dgs_nil ?_
  refine ds_cons ?_
  refine ds_if ?_
  refine dt_w ?_
  refine dw_or ?_
  refine dt_gt ?_
  refine de_B (call_max3 rfl) n_max bt_max ?_
  refine da_cons ?_
  refine de_B call_abs n_abs bt_abs ?_
  refine da_cons ?_
  refine de_name 1 ?_
  refine da_nil ?_
  refine drc_abs ?_
  refine da_cons ?_
  refine de_B call_abs n_abs bt_abs ?_
  refine da_cons ?_
  refine de_name 2 ?_
  refine da_nil ?_
  refine drc_abs ?_
  refine da_cons ?_
  refine de_B call_abs n_abs bt_abs ?_
  refine da_cons ?_
  refine de_sub ?_
  refine de_name 1 ?_
  refine de_name 2 ?_
  refine ⟨_, _, rfl, rfl, ?_⟩
  refine da_nil ?_
  refine drc_abs ?_
  refine da_nil ?_
  refine drc_max3I ?_
  refine de_globI2 g_GREATEST_PART ?_
  refine ⟨_, _, rfl, rfl, ?_⟩
  refine ⟨fun hb => ?_, fun hb => ?_⟩
  · exact (hm (of_decide_eq_true hb)).elim
  refine dw_or ?_
  refine dt_lt ?_
  refine de_name 3 ?_
  refine de_int ?_
  refine ⟨_, _, rfl, rfl, ?_⟩
  refine ⟨fun hb => ?_, fun hb => ?_⟩
  · exact absurd (of_decide_eq_true hb) (by omega)
  refine dw_or1 ?_
  refine dt_gt ?_
  refine de_name 3 ?_
  refine de_int ?_
  refine ⟨_, _, rfl, rfl, ?_⟩
  refine ⟨fun ht => ?_, fun ht => ?_⟩
  · exact absurd (of_decide_eq_true ht) (by omega)
  refine ds_nil ?_
  refine ds_cons ?_
  refine ds_ret ?_
  refine de_and ?_
  refine de_ne (hr.units) ?_
  refine de_mod ?_
  refine de_add ?_
  refine de_name 1 ?_
  refine de_name 2 ?_
  first | refine add_int ?_ | refine add_lst ?_ (by walk_at "len") | refine add_tup ?_ (by walk_at "len3") | refine add_scr ?_ (by walk_at "len") | refine (show addP (.str _) (.str _) _ _ from ⟨by decide +kernel, ?_⟩)
  refine de_int ?_
  refine ⟨_, _, rfl, rfl, (by walk_at "pos"), ?_⟩
  refine de_int ?_
  refine eq_int ?_
  refine ⟨_, rfl, fun hb => ?_, fun hb => ?_⟩
  · exact absurd hb (by simp [ho])
  refine de_one ?_
  refine de_eq (hr.units) ?_
  refine de_gcd b_gcd ?_
  refine da_cons ?_
  refine de_name 1 ?_
  refine da_cons ?_
  refine de_name 2 ?_
  refine da_nil ?_
  refine ⟨_, _, rfl, ?_⟩
  refine de_int ?_
  refine eq_int ?_
  rw [decide_eq_true (show ((Nat.gcd p.natAbs q.natAbs : Nat) : Int) = 1 by rw [hg] <;> rfl)]
  exact qq
abbrev s__check_six : Stmt := top 24
theorem sc__check_six : FnScope ["six"] ["six"] (defScope s__check_six) := ⟨rfl, rfl, rfl, by decide +kernel, rfl, by decide +kernel, by decide +kernel⟩
set_option maxHeartbeats 40000000 in
theorem ok__check_six {f : Addr} {fd : FuncData} (F : Fun K "_check_six" "_check_six" s__check_six f fd) (c__is_six : Cal P w K mg base 3 "_is_six" ["value"] [] con_is6) : GOk P w K mg base 4 f fd ["six"] (spD K con_chk6) := by
  refine gok_ds F sc__check_six (m := 0) rfl (fun ds S0 Q h => ?_) fun cdv A fr s0 H0 E0' gd hr ds S0 Q h => ?_
  · obtain ⟨_, _, _, rfl, _⟩ := h
    rfl
  obtain ⟨p, q, k, rfl, hS, qq⟩ := h
  have p1 := hS.p1
  have p2 := hS.p2
  have q1 := hS.q1
  have q2 := hS.q2
  have d1 := hS.d1
  have d2 := hS.d2
  have k1 := hS.k1
  have k2 := hS.k2
  have b1 := hS.bp
  have b2 := hS.bq
  have b3 := hS.b3
  refine ds_nrm ?_ (by set_option simprocs false in dsimp only [List.map, List.replicate, List.cons_append, List.nil_append])
  refine ds_cons ?_
  refine ds_if ?_
  refine dt_not ?_
  refine dt_val (h := ?_)
  refine de_call c__is_six gd (hr.mono (by decide)) ?_
  refine da_cons ?_
  refine de_name 0 ?_
  refine da_nil ?_
  refine ⟨_, _, _, rfl, by walk_at "sx", ?_⟩
  refine ⟨_, rfl, ?_⟩
  refine ⟨fun ht => ?_, fun ht => ?_⟩
  · exact absurd ht (by simp)
  refine ds_nil ?_
  refine ds_nil ?_
  exact qq
abbrev s__size : Stmt := top 26
theorem sc__size : FnScope ["x", "y"] ["x", "y"] (defScope s__size) := ⟨rfl, rfl, rfl, by decide +kernel, rfl, by decide +kernel, by decide +kernel⟩
set_option maxHeartbeats 40000000 in
theorem ok__size {f : Addr} {fd : FuncData} (F : Fun K "_size" "_size" s__size f fd)  : GOk P w K mg base 1 f fd ["x", "y"] (spD K con_size) := by
  refine gok_ds F sc__size (m := 0) rfl (fun ds S0 Q h => ?_) fun cdv A fr s0 H0 E0' gd hr ds S0 Q h => ?_
  · obtain ⟨_, _, rfl, _⟩ := h
    rfl
  obtain ⟨x, y, rfl, ⟨bx, by'⟩, qq⟩ := h
  refine ds_nrm ?_ (by set_option simprocs false in dsimp only [List.map, List.replicate, List.cons_append, List.nil_append])
  refine ds_cons ?_
  refine ds_ret ?_
  refine de_add ?_
  refine de_sub ?_
  refine de_mul ?_
  refine de_name 0 ?_
  refine de_name 0 ?_
  first | refine mul_i ?_ (by walk_at "cmw") | refine mul_l ?_ ⟨by decide, by decide, by first | decide | exact Nat.le_of_ble_eq_true rfl | walk_at "mlen"⟩
  refine de_mul ?_
  refine de_name 0 ?_
  refine de_name 1 ?_
  first | refine mul_i ?_ (by walk_at "cmw") | refine mul_l ?_ ⟨by decide, by decide, by first | decide | exact Nat.le_of_ble_eq_true rfl | walk_at "mlen"⟩
  refine ⟨_, _, rfl, rfl, ?_⟩
  refine de_mul ?_
  refine de_name 1 ?_
  refine de_name 1 ?_
  first | refine mul_i ?_ (by walk_at "cmw") | refine mul_l ?_ ⟨by decide, by decide, by first | decide | exact Nat.le_of_ble_eq_true rfl | walk_at "mlen"⟩
  first | refine add_int ?_ | refine add_lst ?_ (by walk_at "len") | refine add_tup ?_ (by walk_at "len3") | refine add_scr ?_ (by walk_at "len") | refine (show addP (.str _) (.str _) _ _ from ⟨by decide +kernel, ?_⟩)
  exact qq
abbrev s__times : Stmt := top 27
theorem sc__times : FnScope ["one", "other", "x", "y", "r", "s"] ["one", "other"] (defScope s__times) := ⟨rfl, rfl, rfl, by decide +kernel, rfl, by decide +kernel, by decide +kernel⟩
set_option maxHeartbeats 40000000 in
theorem ok__times {f : Addr} {fd : FuncData} (F : Fun K "_times" "_times" s__times f fd)  : GOk P w K mg base 1 f fd ["one", "other"] (spD K con_times6) := by
  refine gok_ds F sc__times (m := 4) rfl (fun ds S0 Q h => ?_) fun cdv A fr s0 H0 E0' gd hr ds S0 Q h => ?_
  · obtain ⟨_, _, _, _, rfl, _⟩ := h
    rfl
  obtain ⟨x, y, r, s, rfl, ⟨b1, b2, b3, b4⟩, q⟩ := h
  refine ds_nrm ?_ (by set_option simprocs false in dsimp only [List.map, List.replicate, List.cons_append, List.nil_append])
  refine ds_cons ?_
  refine ds_asg (h := ?_)
  refine de_name 0 ?_
  first | refine dg_tup rfl rfl ?_ | refine dg_tupL rfl rfl ?_ (fun h => pg_lst rfl h)
  refine dgs_cons (h := ?_)
  refine dg_name 2 ?_ sc__times.nd
  refine dgs_cons (h := ?_)
  refine dg_name 3 ?_ sc__times.nd
  refine dgs_nil ?_
  refine ds_cons ?_
  refine ds_asg (h := ?_)
  refine de_name 1 ?_
  first | refine dg_tup rfl rfl ?_ | refine dg_tupL rfl rfl ?_ (fun h => pg_lst rfl h)
  refine dgs_cons (h := ?_)
  refine dg_name 4 ?_ sc__times.nd
  refine dgs_cons (h := ?_)
  refine dg_name 5 ?_ sc__times.nd
  refine dgs_nil ?_
  refine ds_cons ?_
  refine ds_ret ?_
  refine de_tup ?_
  refine da_cons ?_
  refine de_sub ?_
  refine de_mul ?_
  refine de_name 2 ?_
  refine de_name 4 ?_
  first | refine mul_i ?_ (by walk_at "cmw") | refine mul_l ?_ ⟨by decide, by decide, by first | decide | exact Nat.le_of_ble_eq_true rfl | walk_at "mlen"⟩
  refine de_mul ?_
  refine de_name 3 ?_
  refine de_name 5 ?_
  first | refine mul_i ?_ (by walk_at "cmw") | refine mul_l ?_ ⟨by decide, by decide, by first | decide | exact Nat.le_of_ble_eq_true rfl | walk_at "mlen"⟩
  refine ⟨_, _, rfl, rfl, ?_⟩
  refine da_cons ?_
  refine de_sub ?_
  refine de_add ?_
  refine de_mul ?_
  refine de_name 2 ?_
  refine de_name 5 ?_
  first | refine mul_i ?_ (by walk_at "cmw") | refine mul_l ?_ ⟨by decide, by decide, by first | decide | exact Nat.le_of_ble_eq_true rfl | walk_at "mlen"⟩
  refine de_mul ?_
  refine de_name 3 ?_
  refine de_name 4 ?_
  first | refine mul_i ?_ (by walk_at "cmw") | refine mul_l ?_ ⟨by decide, by decide, by first | decide | exact Nat.le_of_ble_eq_true rfl | walk_at "mlen"⟩
  first | refine add_int ?_ | refine add_lst ?_ (by walk_at "len") | refine add_tup ?_ (by walk_at "len3") | refine add_scr ?_ (by walk_at "len") | refine (show addP (.str _) (.str _) _ _ from ⟨by decide +kernel, ?_⟩)
  refine de_mul ?_
  refine de_name 3 ?_
  refine de_name 5 ?_
  first | refine mul_i ?_ (by walk_at "cmw") | refine mul_l ?_ ⟨by decide, by decide, by first | decide | exact Nat.le_of_ble_eq_true rfl | walk_at "mlen"⟩
  refine ⟨_, _, rfl, rfl, ?_⟩
  refine da_nil ?_
  refine ⟨by walk_at "len", ?_⟩
  exact q
abbrev s_six_place : Stmt := top 18
theorem sc_six_place : FnScope ["six", "pixel", "p", "q", "sixths", "x", "y"] ["six", "pixel"] (defScope s_six_place) := ⟨rfl, rfl, rfl, by decide +kernel, rfl, by decide +kernel, by decide +kernel⟩
set_option maxHeartbeats 40000000 in
theorem ok_six_place {f : Addr} {fd : FuncData} (F : Fun K "six_place" "six_place" s_six_place f fd) (c__check_six : Cal P w K mg base 4 "_check_six" ["six"] [] con_chk6) (c__size : Cal P w K mg base 1 "_size" ["x", "y"] [] con_size) (c__times : Cal P w K mg base 1 "_times" ["one", "other"] [] con_times6) (c_check_pixel : Cal P w K mg base 4 "check_pixel" ["pixel"] [] con_check_pixel) (g_SIXTHS : ∃ a, mg "SIXTHS" = some (.ref a) ∧ Rp K (fun _ => none) (.tup [.tup [.int (1), .int (0)], .tup [.int (1), .int (1)], .tup [.int (0), .int (1)], .tup [.int (-1), .int (0)], .tup [.int (-1), .int (-1)], .tup [.int (0), .int (-1)]]) (.ref a)) : GOk P w K mg base 5 f fd ["six", "pixel"] (spD K con_place6) := by
  refine gok_ds F sc_six_place (m := 5) rfl (fun ds S0 Q h => ?_) fun cdv A fr s0 H0 E0' gd hr ds S0 Q h => ?_
  · obtain ⟨_, _, _, _, _, rfl, _⟩ := h
    rfl
  obtain ⟨p, q, k, x, y, rfl, hS, ⟨bx, by'⟩, qq⟩ := h
  have p1 := hS.p1
  have p2 := hS.p2
  have q1 := hS.q1
  have q2 := hS.q2
  have d1 := hS.d1
  have d2 := hS.d2
  have k1 := hS.k1
  have k2 := hS.k2
  have b1 := hS.bp
  have b2 := hS.bq
  have b3 := hS.b3
  have c1 : Bd 3 (r6X k.toNat 1 0) := (Bd.r6X _ (show Bd 1 1 by unfold Bd; decide) (show Bd 1 0 by unfold Bd; decide)).up (by decide)
  have c2 : Bd 3 (r6Y k.toNat 1 0) := (Bd.r6Y _ (show Bd 1 1 by unfold Bd; decide) (show Bd 1 0 by unfold Bd; decide)).up (by decide)
  refine ds_nrm ?_ (by set_option simprocs false in dsimp only [List.map, List.replicate, List.cons_append, List.nil_append])
  refine ds_cons ?_
  refine ds_expr (h := ?_)
  refine de_call c__check_six gd (hr.mono (by decide)) ?_
  refine da_cons ?_
  refine de_name 0 ?_
  refine da_nil ?_
  refine ⟨_, _, _, rfl, by walk_at "sx", ?_⟩
  refine ds_cons ?_
  refine ds_expr (h := ?_)
  refine de_call c_check_pixel gd (hr.mono (by decide)) ?_
  refine da_cons ?_
  refine de_name 1 ?_
  refine da_nil ?_
  refine ⟨_, _, rfl, ?_⟩
  refine ds_cons ?_
  refine ds_asg (h := ?_)
  refine de_name 0 ?_
  first | refine dg_tup rfl rfl ?_ | refine dg_tupL rfl rfl ?_ (fun h => pg_lst rfl h)
  refine dgs_cons (h := ?_)
  refine dg_name 2 ?_ sc_six_place.nd
  refine dgs_cons (h := ?_)
  refine dg_name 3 ?_ sc_six_place.nd
  refine dgs_cons (h := ?_)
  refine dg_name 4 ?_ sc_six_place.nd
  refine dgs_nil ?_
  refine ds_cons ?_
  refine ds_asg (h := ?_)
  refine de_call c__times gd (hr.mono (by decide)) ?_
  refine da_cons ?_
  refine de_call c__times gd (hr.mono (by decide)) ?_
  refine da_cons ?_
  refine de_call c__times gd (hr.mono (by decide)) ?_
  refine da_cons ?_
  refine de_tup ?_
  refine da_cons ?_
  refine de_name 2 ?_
  refine da_cons ?_
  refine de_name 3 ?_
  refine da_nil ?_
  refine ⟨by walk_at "len", ?_⟩
  refine da_cons ?_
  refine de_tup ?_
  refine da_cons ?_
  refine de_name 2 ?_
  refine da_cons ?_
  refine de_name 3 ?_
  refine da_nil ?_
  refine ⟨by walk_at "len", ?_⟩
  refine da_nil ?_
  refine ⟨_, _, _, _, rfl, ⟨by walk_at "bdu", by walk_at "bdu", by walk_at "bdu", by walk_at "bdu"⟩, ?_⟩
  refine da_cons ?_
  refine de_ix (h := ?_)
  refine de_globT g_SIXTHS ?_
  refine de_name 4 ?_
  first | refine ix_si ⟨by omega, by omega⟩ ?_ | walk_at "ix"
  refine da_nil ?_
  refine ⟨_, _, _, _, rfl, ⟨by walk_at "bdu", by walk_at "bdu", by walk_at "bdu", by walk_at "bdu"⟩, ?_⟩
  refine da_cons ?_
  refine de_name 1 ?_
  refine da_nil ?_
  refine ⟨_, _, _, _, rfl, ⟨by walk_at "bdu", by walk_at "bdu", by walk_at "bdu", by walk_at "bdu"⟩, ?_⟩
  first | refine dg_tup rfl rfl ?_ | refine dg_tupL rfl rfl ?_ (fun h => pg_lst rfl h)
  refine dgs_cons (h := ?_)
  refine dg_name 5 ?_ sc_six_place.nd
  refine dgs_cons (h := ?_)
  refine dg_name 6 ?_ sc_six_place.nd
  refine dgs_nil ?_
  refine ds_cons ?_
  refine ds_ret ?_
  refine de_tup ?_
  refine da_cons ?_
  refine de_name 5 ?_
  refine da_cons ?_
  refine de_name 6 ?_
  refine da_cons ?_
  refine de_call c__size gd (hr.mono (by decide)) ?_
  refine da_cons ?_
  refine de_name 2 ?_
  refine da_cons ?_
  refine de_name 3 ?_
  refine da_nil ?_
  refine ⟨_, _, rfl, ⟨by walk_at "bdu", by walk_at "bdu"⟩, ?_⟩
  refine da_nil ?_
  refine ⟨by walk_at "len", ?_⟩
  exact pl_val ⟨k1, k2⟩ x y qq
abbrev s_six_image : Stmt := top 19
theorem sc_six_image : FnScope ["six", "pixel", "x", "y", "c", "r", "s", "far", "high"] ["six", "pixel"] (defScope s_six_image) := ⟨rfl, rfl, rfl, by decide +kernel, rfl, by decide +kernel, by decide +kernel⟩
set_option maxHeartbeats 40000000 in
theorem ok_six_image {f : Addr} {fd : FuncData} (F : Fun K "six_image" "six_image" s_six_image f fd) (c_six_place : Cal P w K mg base 5 "six_place" ["six", "pixel"] [] con_place6) (n_max : mg "max" = none) (n_min : mg "min" = none) : GOk P w K mg base 6 f fd ["six", "pixel"] (spD K con_img6) := by
  refine gok_ds F sc_six_image (m := 7) rfl (fun ds S0 Q h => ?_) fun cdv A fr s0 H0 E0' gd hr ds S0 Q h => ?_
  · obtain ⟨_, _, _, _, _, rfl, _⟩ := h
    rfl
  obtain ⟨p, q, k, x, y, rfl, hS, ⟨bx, by'⟩, qq⟩ := h
  have p1 := hS.p1
  have p2 := hS.p2
  have q1 := hS.q1
  have q2 := hS.q2
  have d1 := hS.d1
  have d2 := hS.d2
  have k1 := hS.k1
  have k2 := hS.k2
  have b1 := hS.bp
  have b2 := hS.bq
  have b3 := hS.b3
  have hc := sz_pos hS
  have bc := hS.bc
  obtain ⟨bX, bY⟩ := sp_bd hS bx by'
  have bX : Bd 915 (spX p q k x y) := bX
  have bY : Bd 915 (spY p q k x y) := bY
  unfold siX siY at qq
  refine ds_nrm ?_ (by set_option simprocs false in dsimp only [List.map, List.replicate, List.cons_append, List.nil_append])
  refine ds_cons ?_
  refine ds_asg (h := ?_)
  refine de_call c_six_place gd (hr.mono (by decide)) ?_
  refine da_cons ?_
  refine de_name 0 ?_
  refine da_cons ?_
  refine de_name 1 ?_
  refine da_nil ?_
  refine ⟨_, _, _, _, _, rfl, by walk_at "sx", ⟨by walk_at "bdu", by walk_at "bdu"⟩, ?_⟩
  first | refine dg_tup rfl rfl ?_ | refine dg_tupL rfl rfl ?_ (fun h => pg_lst rfl h)
  refine dgs_cons (h := ?_)
  refine dg_name 2 ?_ sc_six_image.nd
  refine dgs_cons (h := ?_)
  refine dg_name 3 ?_ sc_six_image.nd
  refine dgs_cons (h := ?_)
  refine dg_name 4 ?_ sc_six_image.nd
  refine dgs_nil ?_
  refine ds_cons ?_
  refine ds_par (i := 5) (j := 6) rfl sc_six_image.nd rfl rfl (by decide) ?_
  refine da_cons ?_
  refine de_fdiv ?_
  refine de_name 2 ?_
  refine de_name 4 ?_
  refine ⟨_, _, rfl, rfl, (by walk_at "cdw"), ?_⟩
  refine da_cons ?_
  refine de_fdiv ?_
  refine de_name 3 ?_
  refine de_name 4 ?_
  refine ⟨_, _, rfl, rfl, (by walk_at "cdw"), ?_⟩
  refine da_nil ?_
  refine ⟨_, _, rfl, ?_⟩
  refine ds_nrm ?_
  refine ds_cons ?_
  refine ds_par (i := 7) (j := 8) rfl sc_six_image.nd rfl rfl (by decide) ?_
  refine da_cons ?_
  refine de_sub ?_
  refine de_name 2 ?_
  refine de_mul ?_
  refine de_name 4 ?_
  refine de_name 5 ?_
  first | refine mul_i ?_ (by walk_at "cmw") | refine mul_l ?_ ⟨by decide, by decide, by first | decide | exact Nat.le_of_ble_eq_true rfl | walk_at "mlen"⟩
  refine ⟨_, _, rfl, rfl, ?_⟩
  refine da_cons ?_
  refine de_sub ?_
  refine de_name 3 ?_
  refine de_mul ?_
  refine de_name 4 ?_
  refine de_name 6 ?_
  first | refine mul_i ?_ (by walk_at "cmw") | refine mul_l ?_ ⟨by decide, by decide, by first | decide | exact Nat.le_of_ble_eq_true rfl | walk_at "mlen"⟩
  refine ⟨_, _, rfl, rfl, ?_⟩
  refine da_nil ?_
  refine ⟨_, _, rfl, ?_⟩
  refine ds_nrm ?_
  refine ds_cons ?_
  refine ds_if ?_
  refine DT.mono (Q := fun b S' => S0 = S' ∧ (b = true ↔ 2 * mxI (spX p q k x y - sz p q * (spX p q k x y / sz p q)) (spY p q k x y - sz p q * (spY p q k x y / sz p q)) - mnI (spX p q k x y - sz p q * (spX p q k x y / sz p q)) (spY p q k x y - sz p q * (spY p q k x y / sz p q)) < sz p q ∧ (spX p q k x y - sz p q * (spX p q k x y / sz p q)) + (spY p q k x y - sz p q * (spY p q k x y / sz p q)) < sz p q)) ?_ ?_
  · refine dt_w ?_
    refine dw_and ?_
    refine dt_lt ?_
    refine de_sub ?_
    refine de_mul ?_
    refine de_int ?_
    refine de_B (call_max2 rfl) n_max bt_max ?_
    refine da_cons ?_
    refine de_name 7 ?_
    refine da_cons ?_
    refine de_name 8 ?_
    refine da_nil ?_
    refine drc_max ?_
    first | refine mul_i ?_ (by walk_at "cmw") | refine mul_l ?_ ⟨by decide, by decide, by first | decide | exact Nat.le_of_ble_eq_true rfl | walk_at "mlen"⟩
    refine de_B (call_min2 rfl) n_min bt_min ?_
    refine da_cons ?_
    refine de_name 7 ?_
    refine da_cons ?_
    refine de_name 8 ?_
    refine da_nil ?_
    refine drc_min ?_
    refine ⟨_, _, rfl, rfl, ?_⟩
    refine de_name 4 ?_
    refine ⟨_, _, rfl, rfl, ?_⟩
    refine ⟨fun hb => ?_, fun hb => ?_⟩
    · exact ⟨rfl, fun h => (nomatch h), fun h => (of_decide_eq_false hb h.1).elim⟩
    refine dw_and1 ?_
    refine dt_lt ?_
    refine de_add ?_
    refine de_name 7 ?_
    refine de_name 8 ?_
    first | refine add_int ?_ | refine add_lst ?_ (by walk_at "len") | refine add_tup ?_ (by walk_at "len3") | refine add_scr ?_ (by walk_at "len") | refine (show addP (.str _) (.str _) _ _ from ⟨by decide +kernel, ?_⟩)
    refine de_name 4 ?_
    refine ⟨_, _, rfl, rfl, ?_⟩
    exact ⟨rfl, fun h => ⟨of_decide_eq_true hb, of_decide_eq_true h⟩, fun h => decide_eq_true h.2⟩
  rintro b _ ⟨rfl, hb9⟩
  refine ⟨fun ht => ?_, fun ht => ?_⟩
  · rw [hexI_1 (hb9.mp ht)] at qq
    refine ds_cons ?_
    refine ds_ret ?_
    refine de_tup ?_
    refine da_cons ?_
    refine de_name 5 ?_
    refine da_cons ?_
    refine de_name 6 ?_
    refine da_nil ?_
    refine ⟨by walk_at "len", ?_⟩
    exact qq
  have hn1 : ¬ (2 * mxI (spX p q k x y - sz p q * (spX p q k x y / sz p q)) (spY p q k x y - sz p q * (spY p q k x y / sz p q)) - mnI (spX p q k x y - sz p q * (spX p q k x y / sz p q)) (spY p q k x y - sz p q * (spY p q k x y / sz p q)) < sz p q ∧ (spX p q k x y - sz p q * (spX p q k x y / sz p q)) + (spY p q k x y - sz p q * (spY p q k x y / sz p q)) < sz p q) := fun z => by rw [hb9.mpr z] at ht; cases ht
  refine ds_nil ?_
  refine ds_cons ?_
  refine ds_if ?_
  refine dt_gt ?_
  refine de_mul ?_
  refine de_int ?_
  refine de_B (call_min2 rfl) n_min bt_min ?_
  refine da_cons ?_
  refine de_name 7 ?_
  refine da_cons ?_
  refine de_name 8 ?_
  refine da_nil ?_
  refine drc_min ?_
  first | refine mul_i ?_ (by walk_at "cmw") | refine mul_l ?_ ⟨by decide, by decide, by first | decide | exact Nat.le_of_ble_eq_true rfl | walk_at "mlen"⟩
  refine de_B (call_max2 rfl) n_max bt_max ?_
  refine da_cons ?_
  refine de_name 7 ?_
  refine da_cons ?_
  refine de_name 8 ?_
  refine da_nil ?_
  refine drc_max ?_
  refine ⟨_, _, rfl, rfl, ?_⟩
  refine ⟨fun ht => ?_, fun ht => ?_⟩
  · rw [hexI_2 hn1 (of_decide_eq_true ht)] at qq
    refine ds_cons ?_
    refine ds_ret ?_
    refine de_tup ?_
    refine da_cons ?_
    refine de_add ?_
    refine de_name 5 ?_
    refine de_int ?_
    first | refine add_int ?_ | refine add_lst ?_ (by walk_at "len") | refine add_tup ?_ (by walk_at "len3") | refine add_scr ?_ (by walk_at "len") | refine (show addP (.str _) (.str _) _ _ from ⟨by decide +kernel, ?_⟩)
    refine da_cons ?_
    refine de_add ?_
    refine de_name 6 ?_
    refine de_int ?_
    first | refine add_int ?_ | refine add_lst ?_ (by walk_at "len") | refine add_tup ?_ (by walk_at "len3") | refine add_scr ?_ (by walk_at "len") | refine (show addP (.str _) (.str _) _ _ from ⟨by decide +kernel, ?_⟩)
    refine da_nil ?_
    refine ⟨by walk_at "len", ?_⟩
    exact qq
  have hn2 : ¬ 2 * mnI (spX p q k x y - sz p q * (spX p q k x y / sz p q)) (spY p q k x y - sz p q * (spY p q k x y / sz p q)) > mxI (spX p q k x y - sz p q * (spX p q k x y / sz p q)) (spY p q k x y - sz p q * (spY p q k x y / sz p q)) := of_decide_eq_false ht
  refine ds_nil ?_
  refine ds_cons ?_
  refine ds_ret ?_
  refine de_ifE ?_
  refine dt_gt ?_
  refine de_name 7 ?_
  refine de_name 8 ?_
  refine ⟨_, _, rfl, rfl, ?_⟩
  refine ⟨fun ht => ?_, fun ht => ?_⟩
  · refine de_tup ?_
    refine da_cons ?_
    refine de_add ?_
    refine de_name 5 ?_
    refine de_int ?_
    first | refine add_int ?_ | refine add_lst ?_ (by walk_at "len") | refine add_tup ?_ (by walk_at "len3") | refine add_scr ?_ (by walk_at "len") | refine (show addP (.str _) (.str _) _ _ from ⟨by decide +kernel, ?_⟩)
    refine da_cons ?_
    refine de_name 6 ?_
    refine da_nil ?_
    refine ⟨by walk_at "len", ?_⟩
    rw [hexI_3 hn1 hn2 (of_decide_eq_true ht)] at qq
    exact qq
  refine de_tup ?_
  refine da_cons ?_
  refine de_name 5 ?_
  refine da_cons ?_
  refine de_add ?_
  refine de_name 6 ?_
  refine de_int ?_
  first | refine add_int ?_ | refine add_lst ?_ (by walk_at "len") | refine add_tup ?_ (by walk_at "len3") | refine add_scr ?_ (by walk_at "len") | refine (show addP (.str _) (.str _) _ _ from ⟨by decide +kernel, ?_⟩)
  refine da_nil ?_
  refine ⟨by walk_at "len", ?_⟩
  rw [hexI_4 hn1 hn2 (of_decide_eq_false ht)] at qq
  exact qq
abbrev s_six_back : Stmt := top 20
theorem sc_six_back : FnScope ["six", "p", "q", "sixths"] ["six"] (defScope s_six_back) := ⟨rfl, rfl, rfl, by decide +kernel, rfl, by decide +kernel, by decide +kernel⟩
set_option maxHeartbeats 40000000 in
theorem ok_six_back {f : Addr} {fd : FuncData} (F : Fun K "six_back" "six_back" s_six_back f fd) (c__check_six : Cal P w K mg base 4 "_check_six" ["six"] [] con_chk6) : GOk P w K mg base 5 f fd ["six"] (spD K con_back6) := by
  refine gok_ds F sc_six_back (m := 3) rfl (fun ds S0 Q h => ?_) fun cdv A fr s0 H0 E0' gd hr ds S0 Q h => ?_
  · obtain ⟨_, _, _, rfl, _⟩ := h
    rfl
  obtain ⟨p, q, k, rfl, hS, qq⟩ := h
  have p1 := hS.p1
  have p2 := hS.p2
  have q1 := hS.q1
  have q2 := hS.q2
  have d1 := hS.d1
  have d2 := hS.d2
  have k1 := hS.k1
  have k2 := hS.k2
  have b1 := hS.bp
  have b2 := hS.bq
  have b3 := hS.b3
  refine ds_nrm ?_ (by set_option simprocs false in dsimp only [List.map, List.replicate, List.cons_append, List.nil_append])
  refine ds_cons ?_
  refine ds_expr (h := ?_)
  refine de_call c__check_six gd (hr.mono (by decide)) ?_
  refine da_cons ?_
  refine de_name 0 ?_
  refine da_nil ?_
  refine ⟨_, _, _, rfl, by walk_at "sx", ?_⟩
  refine ds_cons ?_
  refine ds_asg (h := ?_)
  refine de_name 0 ?_
  first | refine dg_tup rfl rfl ?_ | refine dg_tupL rfl rfl ?_ (fun h => pg_lst rfl h)
  refine dgs_cons (h := ?_)
  refine dg_name 1 ?_ sc_six_back.nd
  refine dgs_cons (h := ?_)
  refine dg_name 2 ?_ sc_six_back.nd
  refine dgs_cons (h := ?_)
  refine dg_name 3 ?_ sc_six_back.nd
  refine dgs_nil ?_
  refine ds_cons ?_
  refine ds_ret ?_
  refine de_tup ?_
  refine da_cons ?_
  refine de_sub ?_
  refine de_name 1 ?_
  refine de_name 2 ?_
  refine ⟨_, _, rfl, rfl, ?_⟩
  refine da_cons ?_
  refine de_neg ?_
  refine de_name 2 ?_
  refine ⟨_, rfl, ?_⟩
  refine da_cons ?_
  refine de_mod ?_
  refine de_neg ?_
  refine de_name 3 ?_
  refine ⟨_, rfl, ?_⟩
  refine de_int ?_
  refine ⟨_, _, rfl, rfl, (by walk_at "pos"), ?_⟩
  refine da_nil ?_
  refine ⟨by walk_at "len", ?_⟩
  exact qq
abbrev s__law_round : Stmt := top 35
theorem sc__law_round : FnScope ["_law_dot_here", "_law_x", "_law_y"] ["_law_dot_here"] (defScope s__law_round) := ⟨rfl, rfl, rfl, by decide +kernel, rfl, by decide +kernel, by decide +kernel⟩
set_option maxHeartbeats 40000000 in
theorem ok__law_round {f : Addr} {fd : FuncData} (F : Fun K "_law_round" "_law_round" s__law_round f fd)  : GOk P w K mg base 1 f fd ["_law_dot_here"] (spD K con_round) := by
  refine gok_ds F sc__law_round (m := 2) rfl (fun ds S0 Q h => ?_) fun cdv A fr s0 H0 E0' gd hr ds S0 Q h => ?_
  · obtain ⟨_, _, rfl, _⟩ := h
    rfl
  obtain ⟨x, y, rfl, qq⟩ := h
  refine ds_nrm ?_ (by set_option simprocs false in dsimp only [List.map, List.replicate, List.cons_append, List.nil_append])
  refine ds_cons ?_
  refine ds_asg (h := ?_)
  refine de_name 0 ?_
  first | refine dg_tup rfl rfl ?_ | refine dg_tupL rfl rfl ?_ (fun h => pg_lst rfl h)
  refine dgs_cons (h := ?_)
  refine dg_name 1 ?_ sc__law_round.nd
  refine dgs_cons (h := ?_)
  refine dg_name 2 ?_ sc__law_round.nd
  refine dgs_nil ?_
  refine ds_cons ?_
  refine ds_ret ?_
  refine de_lst ?_
  refine da_cons ?_
  refine de_tup ?_
  refine da_cons ?_
  refine de_add ?_
  refine de_name 1 ?_
  refine de_int ?_
  first | refine add_int ?_ | refine add_lst ?_ (by walk_at "len") | refine add_tup ?_ (by walk_at "len3") | refine add_scr ?_ (by walk_at "len") | refine (show addP (.str _) (.str _) _ _ from ⟨by decide +kernel, ?_⟩)
  refine da_cons ?_
  refine de_name 2 ?_
  refine da_nil ?_
  refine ⟨by walk_at "len", ?_⟩
  refine da_cons ?_
  refine de_tup ?_
  refine da_cons ?_
  refine de_add ?_
  refine de_name 1 ?_
  refine de_int ?_
  first | refine add_int ?_ | refine add_lst ?_ (by walk_at "len") | refine add_tup ?_ (by walk_at "len3") | refine add_scr ?_ (by walk_at "len") | refine (show addP (.str _) (.str _) _ _ from ⟨by decide +kernel, ?_⟩)
  refine da_cons ?_
  refine de_add ?_
  refine de_name 2 ?_
  refine de_int ?_
  first | refine add_int ?_ | refine add_lst ?_ (by walk_at "len") | refine add_tup ?_ (by walk_at "len3") | refine add_scr ?_ (by walk_at "len") | refine (show addP (.str _) (.str _) _ _ from ⟨by decide +kernel, ?_⟩)
  refine da_nil ?_
  refine ⟨by walk_at "len", ?_⟩
  refine da_cons ?_
  refine de_tup ?_
  refine da_cons ?_
  refine de_name 1 ?_
  refine da_cons ?_
  refine de_add ?_
  refine de_name 2 ?_
  refine de_int ?_
  first | refine add_int ?_ | refine add_lst ?_ (by walk_at "len") | refine add_tup ?_ (by walk_at "len3") | refine add_scr ?_ (by walk_at "len") | refine (show addP (.str _) (.str _) _ _ from ⟨by decide +kernel, ?_⟩)
  refine da_nil ?_
  refine ⟨by walk_at "len", ?_⟩
  refine da_cons ?_
  refine de_tup ?_
  refine da_cons ?_
  refine de_sub ?_
  refine de_name 1 ?_
  refine de_int ?_
  refine ⟨_, _, rfl, rfl, ?_⟩
  refine da_cons ?_
  refine de_name 2 ?_
  refine da_nil ?_
  refine ⟨by walk_at "len", ?_⟩
  refine da_cons ?_
  refine de_tup ?_
  refine da_cons ?_
  refine de_sub ?_
  refine de_name 1 ?_
  refine de_int ?_
  refine ⟨_, _, rfl, rfl, ?_⟩
  refine da_cons ?_
  refine de_sub ?_
  refine de_name 2 ?_
  refine de_int ?_
  refine ⟨_, _, rfl, rfl, ?_⟩
  refine da_nil ?_
  refine ⟨by walk_at "len", ?_⟩
  refine da_cons ?_
  refine de_tup ?_
  refine da_cons ?_
  refine de_name 1 ?_
  refine da_cons ?_
  refine de_sub ?_
  refine de_name 2 ?_
  refine de_int ?_
  refine ⟨_, _, rfl, rfl, ?_⟩
  refine da_nil ?_
  refine ⟨by walk_at "len", ?_⟩
  refine da_nil ?_
  refine ⟨by walk_at "len", ?_⟩
  exact qq
abbrev s__strips : Stmt := top 29
theorem sc__strips : FnScope ["r", "s", "away", "x", "y", "strips", "i", "j", "shift"] ["r", "s", "away"] (defScope s__strips) := ⟨rfl, rfl, rfl, by decide +kernel, rfl, by decide +kernel, by decide +kernel⟩
set_option maxHeartbeats 40000000 in
theorem ok__strips {f : Addr} {fd : FuncData} (F : Fun K "_strips" "_strips" s__strips f fd)  : GOk P w K mg base 1 f fd ["r", "s", "away"] (spD K con_stripsE) := by
  refine gok_ds F sc__strips (m := 6) rfl (fun ds S0 Q h => ?_) fun cdv A fr s0 H0 E0' gd hr ds S0 Q h => ?_
  · obtain ⟨_, _, _, _, rfl, _⟩ := h
    rfl
  obtain ⟨r, s, x, y, rfl, ho, ⟨br, bs, bx, by'⟩, qq⟩ := h
  refine ds_nrm ?_ (by set_option simprocs false in dsimp only [List.map, List.replicate, List.cons_append, List.nil_append])
  refine ds_cons ?_
  refine ds_asg (h := ?_)
  refine de_name 2 ?_
  first | refine dg_tup rfl rfl ?_ | refine dg_tupL rfl rfl ?_ (fun h => pg_lst rfl h)
  refine dgs_cons (h := ?_)
  refine dg_name 3 ?_ sc__strips.nd
  refine dgs_cons (h := ?_)
  refine dg_name 4 ?_ sc__strips.nd
  refine dgs_nil ?_
  refine ds_cons ?_
  refine ds_asg (h := ?_)
  refine de_lstO ?_
  refine da_nil ?_
  refine ⟨by walk_at "len", fun p1 hp1 => ?_⟩
  refine dg_name 5 ?_ sc__strips.nd
  refine ds_cons ?_
  refine ds_forG (γ := Unit) [6, 7, 8] PassesOwn.never rfl ?_
  refine di_tup ?_
  refine de_tup ?_
  refine da_cons ?_
  refine de_tup ?_
  refine da_cons ?_
  refine de_sub ?_
  refine de_mul ?_
  refine de_int ?_
  refine de_name 0 ?_
  first | refine mul_i ?_ (by walk_at "cmw") | refine mul_l ?_ ⟨by decide, by decide, by first | decide | exact Nat.le_of_ble_eq_true rfl | walk_at "mlen"⟩
  refine de_name 1 ?_
  refine ⟨_, _, rfl, rfl, ?_⟩
  refine da_cons ?_
  refine de_sub ?_
  refine de_neg ?_
  refine de_name 0 ?_
  refine ⟨_, rfl, ?_⟩
  refine de_name 1 ?_
  refine ⟨_, _, rfl, rfl, ?_⟩
  refine da_nil ?_
  refine ⟨by walk_at "len", ?_⟩
  refine da_cons ?_
  refine de_tup ?_
  refine da_cons ?_
  refine de_sub ?_
  refine de_mul ?_
  refine de_int ?_
  refine de_name 1 ?_
  first | refine mul_i ?_ (by walk_at "cmw") | refine mul_l ?_ ⟨by decide, by decide, by first | decide | exact Nat.le_of_ble_eq_true rfl | walk_at "mlen"⟩
  refine de_name 0 ?_
  refine ⟨_, _, rfl, rfl, ?_⟩
  refine da_cons ?_
  refine de_sub ?_
  refine de_mul ?_
  refine de_int ?_
  refine de_name 0 ?_
  first | refine mul_i ?_ (by walk_at "cmw") | refine mul_l ?_ ⟨by decide, by decide, by first | decide | exact Nat.le_of_ble_eq_true rfl | walk_at "mlen"⟩
  refine de_name 1 ?_
  refine ⟨_, _, rfl, rfl, ?_⟩
  refine da_nil ?_
  refine ⟨by walk_at "len", ?_⟩
  refine da_cons ?_
  refine de_tup ?_
  refine da_cons ?_
  refine de_add ?_
  refine de_name 0 ?_
  refine de_name 1 ?_
  first | refine add_int ?_ | refine add_lst ?_ (by walk_at "len") | refine add_tup ?_ (by walk_at "len3") | refine add_scr ?_ (by walk_at "len") | refine (show addP (.str _) (.str _) _ _ from ⟨by decide +kernel, ?_⟩)
  refine da_cons ?_
  refine de_sub ?_
  refine de_name 0 ?_
  refine de_mul ?_
  refine de_int ?_
  refine de_name 1 ?_
  first | refine mul_i ?_ (by walk_at "cmw") | refine mul_l ?_ ⟨by decide, by decide, by first | decide | exact Nat.le_of_ble_eq_true rfl | walk_at "mlen"⟩
  refine ⟨_, _, rfl, rfl, ?_⟩
  refine da_nil ?_
  refine ⟨by walk_at "len", ?_⟩
  refine da_nil ?_
  refine ⟨by walk_at "len", ?_⟩
  refine ⟨_, rfl, ?_⟩
  refine ⟨fun _ => [], _, fun _ => (by dsimp only [putU, fgt, List.set]), fun i _ S' => S' = (p1, (((slpL r s).take i).map (fun ij : Int × Int => strp ij.1 ij.2 x y)).map t3D) :: S0, (), by walk_at "wk", rfl, fun i1 d1 g1 S1 hi1 hP1 => ?_, fun g1 S1 hP1 => ?_⟩
  · subst hP1
    have hi3 : i1 < 3 := (List.getElem?_eq_some_iff.mp hi1).1
    obtain ⟨⟨i9, j9⟩, ht9, rfl⟩ := slp_at hi1
    obtain ⟨hj9, bi9, bj9⟩ := slp_bd ho br bs ht9
    have hj9 : j9 ≠ 0 := hj9
    have bi9 : Bd 54 i9 := bi9
    have bj9 : Bd 54 j9 := bj9
    have hlm : (List.map t3D (List.map (fun ij : Int × Int => strp ij.1 ij.2 x y) (List.take i1 (slpL r s)))).length < 100000 := by rw [List.length_map, List.length_map, List.length_take]; omega
    first | refine dg_tup rfl rfl ?_ | refine dg_tupL rfl rfl ?_ (fun h => pg_lst rfl h)
    refine dgs_cons (h := ?_)
    refine dg_name 6 ?_ sc__strips.nd
    refine dgs_cons (h := ?_)
    refine dg_name 7 ?_ sc__strips.nd
    refine dgs_nil ?_
    refine ds_cons ?_
    refine ds_asg (h := ?_)
    refine de_add ?_
    refine de_mul ?_
    refine de_name 6 ?_
    refine de_name 3 ?_
    first | refine mul_i ?_ (by walk_at "cmw") | refine mul_l ?_ ⟨by decide, by decide, by first | decide | exact Nat.le_of_ble_eq_true rfl | walk_at "mlen"⟩
    refine de_mul ?_
    refine de_name 7 ?_
    refine de_name 4 ?_
    first | refine mul_i ?_ (by walk_at "cmw") | refine mul_l ?_ ⟨by decide, by decide, by first | decide | exact Nat.le_of_ble_eq_true rfl | walk_at "mlen"⟩
    first | refine add_int ?_ | refine add_lst ?_ (by walk_at "len") | refine add_tup ?_ (by walk_at "len3") | refine add_scr ?_ (by walk_at "len") | refine (show addP (.str _) (.str _) _ _ from ⟨by decide +kernel, ?_⟩)
    refine dg_name 8 ?_ sc__strips.nd
    refine ds_cons ?_
    refine ds_expr (h := ?_)
    refine de_append ?_
    refine de_name 5 ?_
    refine ⟨_, _, rfl, (by walk_at "gets"), ?_⟩
    refine da_cons ?_
    refine DE.mono (Q := fun d S' => S' = (p1, (((slpL r s).take i1).map (fun ij : Int × Int => strp ij.1 ij.2 x y)).map t3D) :: S0 ∧ d = t3D (strp i9 j9 x y)) ?_ ?_
    · refine de_ifE ?_
      refine dt_gt ?_
      refine de_name 7 ?_
      refine de_int ?_
      refine ⟨_, _, rfl, rfl, ?_⟩
      refine ⟨fun ht => ?_, fun ht => ?_⟩
      · refine de_tup ?_
        refine da_cons ?_
        refine de_name 6 ?_
        refine da_cons ?_
        refine de_name 7 ?_
        refine da_cons ?_
        refine de_name 8 ?_
        refine da_nil ?_
        refine ⟨by walk_at "len", ?_⟩
        exact ⟨rfl, by rw [strp_pos (of_decide_eq_true ht)] <;> rfl⟩
      refine de_tup ?_
      refine da_cons ?_
      refine de_neg ?_
      refine de_name 6 ?_
      refine ⟨_, rfl, ?_⟩
      refine da_cons ?_
      refine de_neg ?_
      refine de_name 7 ?_
      refine ⟨_, rfl, ?_⟩
      refine da_cons ?_
      refine de_neg ?_
      refine de_name 8 ?_
      refine ⟨_, rfl, ?_⟩
      refine da_nil ?_
      refine ⟨by walk_at "len", ?_⟩
      exact ⟨rfl, by rw [strp_neg (of_decide_eq_false ht)] <;> rfl⟩
    rintro _ _ ⟨rfl, rfl⟩
    refine da_nil ?_
    refine ⟨_, _, rfl, (by walk_at "gets"), (by walk_at "len"), ?_⟩
    walk_at "sets"
    refine ds_nil ?_
    exact ⟨(), by walk_at "wk", congrArg (fun l => (p1, l) :: S0) (strp_step ht9)⟩
  subst hP1
  refine ds_freeze 5 rfl (ds_nrm ?_) rfl
  refine ds_cons ?_
  refine ds_ret ?_
  refine de_name 5 ?_
  exact qq
abbrev s__tuples_within : Stmt := top 30
theorem sc__tuples_within : FnScope ["strips", "c", "number", "reach", "m", "least", "i", "j", "k", "greatest"] ["strips", "c"] (defScope s__tuples_within) := ⟨rfl, rfl, rfl, by decide +kernel, rfl, by decide +kernel, by decide +kernel⟩
set_option maxHeartbeats 40000000 in
theorem ok__tuples_within {f : Addr} {fd : FuncData} (F : Fun K "_tuples_within" "_tuples_within" s__tuples_within f fd) (b_isqrt : mg "isqrt" = some (.builtin "math.isqrt")) (n_max : mg "max" = none) (n_min : mg "min" = none) (n_range : mg "range" = none) : GOk P w K mg base 1 f fd ["strips", "c"] (spD K con_withinE) := by
  refine gok_ds F sc__tuples_within (m := 8) rfl (fun ds S0 Q h => ?_) fun cdv A fr s0 H0 E0' gd hr ds S0 Q h => ?_
  · obtain ⟨_, _, rfl, _⟩ := h
    rfl
  obtain ⟨ts, c, rfl, ⟨hts, hl1, hl2⟩, ⟨c0, c1⟩, qq⟩ := h
  have bc : Bd 11 c := by unfold Bd; omega
  refine ds_nrm ?_ (by set_option simprocs false in dsimp only [List.map, List.replicate, List.cons_append, List.nil_append])
  refine ds_cons ?_
  refine ds_asg (h := ?_)
  refine de_int ?_
  refine dg_name 2 ?_ sc__tuples_within.nd
  refine ds_cons ?_
  refine ds_asg (h := ?_)
  refine de_fdiv ?_
  refine de_isqrt b_isqrt ?_
  refine da_cons ?_
  refine de_mul ?_
  refine de_int ?_
  refine de_name 1 ?_
  first | refine mul_i ?_ (by walk_at "cmw") | refine mul_l ?_ ⟨by decide, by decide, by first | decide | exact Nat.le_of_ble_eq_true rfl | walk_at "mlen"⟩
  refine da_nil ?_
  refine ⟨_, rfl, (by walk_at "isq"), ?_⟩
  refine de_int ?_
  refine ⟨_, _, rfl, rfl, (by walk_at "cdw"), ?_⟩
  refine dg_name 3 ?_ sc__tuples_within.nd
  unfold withA at qq
  obtain ⟨reach, hre⟩ : ∃ reach : Int, reach = ((Float64.isqrt (4 * c).toNat : Nat) : Int) / 3 := ⟨_, rfl⟩
  rw [← hre] at qq ⊢
  have hr9 := reach_le c0 c1 hre
  have br9 : Bd 6 reach := by unfold Bd; omega
  have hrow : ∀ i : Nat, i < 60 → Bd 190 (rowW ts c (-reach + (i : Int))) ∧ 0 ≤ rowW ts c (-reach + (i : Int)) := fun i hi => rowW_ok hts hl1 bc (by unfold Bd; omega)
  refine ds_cons ?_
  refine ds_forG (γ := Nat) [2, 4, 5, 9] PassesOwn.never rfl ?_
  refine di_rng2 n_range ?_
  refine da_cons ?_
  refine de_neg ?_
  refine de_name 3 ?_
  refine ⟨_, rfl, ?_⟩
  refine da_cons ?_
  refine de_add ?_
  refine de_name 3 ?_
  refine de_int ?_
  first | refine add_int ?_ | refine add_lst ?_ (by walk_at "len") | refine add_tup ?_ (by walk_at "len3") | refine add_scr ?_ (by walk_at "len") | refine (show addP (.str _) (.str _) _ _ from ⟨by decide +kernel, ?_⟩)
  refine da_nil ?_
  refine ⟨_, _, rfl, (by walk_at "rng"), ?_⟩
  refine ⟨fun j => [(2, .int (withN ts c reach j))], _, fun _ => (by dsimp only [putU, fgt, List.set]), fun i j S' => i = j ∧ S0 = S', 0, by walk_at "wk", ⟨rfl, rfl⟩, fun i1 d1 g1 S1 hi1 hP1 => ?_, fun g1 S1 hP1 => ?_⟩
  · obtain ⟨rfl, rfl⟩ := hP1
    obtain ⟨hlt, rfl⟩ := rngD_get hi1
    have hlt2 : i1 < 60 := by omega
    have bm9 : Bd 10 (-reach + (i1 : Int)) := by unfold Bd; omega
    have hw9 := withN_bd hrow i1 (by omega)
    refine dg_name 4 ?_ sc__tuples_within.nd
    refine ds_cons ?_
    refine ds_asg (h := ?_)
    refine de_B (cr_max rfl) n_max bt_max ?_
    refine da_cons ?_
    refine de_lcT (own := [("i", 6), ("j", 7), ("k", 8)]) [6, 7, 8] rfl sc__tuples_within.nd (blkOk_by (N := ["strips", "c", "number", "reach", "m", "least", "i", "j", "k", "greatest"]) (sc := defScope s__tuples_within) (by decide +kernel)) rfl rfl ?_ (fun _ _ _ _ _ => pg_tup rfl (pgs_cons (pg_name sc__tuples_within.nd rfl (Or.inl rfl)) (pgs_cons (pg_name sc__tuples_within.nd rfl (Or.inl rfl)) (pgs_cons (pg_name sc__tuples_within.nd rfl (Or.inl rfl)) pgs_nil))))
    refine di_lst ?_
    refine de_name 0 ?_
    refine ⟨_, rfl, ?_⟩
    refine ⟨fun k acc S' => S0 = S' ∧ acc = ((ts.take k).map (flL c (-reach + (i1 : Int)))).map D.int, ⟨rfl, rfl⟩, fun k9 d9 acc S' p9 hk hP hp hl => ?_, (by rw [List.length_map]; omega), fun acc S' hl hP => ?_⟩
    · obtain ⟨rfl, rfl⟩ := hP
      obtain ⟨i9, j9, k8, ht9, rfl⟩ := t3_at hk
      obtain ⟨bi9, ⟨hj9, bj9⟩, bk9⟩ := hts _ (List.mem_of_getElem? ht9)
      have bi9 : Bd 60 i9 := bi9
      have bj9 : Bd 60 j9 := bj9
      have hj9 : 0 < j9 := hj9
      have bk9 : Bd 120 k8 := bk9
      refine ⟨_, rfl, rfl, _, by set_option simprocs false in dsimp only [setV, wipeE, List.set], ?_⟩
      intro s H C cl fp
      refine de_neg ?_
      refine de_fdiv ?_
      refine de_add ?_
      refine de_add ?_
      refine de_sub ?_
      refine de_name 1 ?_
      refine de_int ?_
      refine ⟨_, _, rfl, rfl, ?_⟩
      refine de_mul ?_
      refine de_name 6 ?_
      refine de_name 4 ?_
      first | refine mul_i ?_ (by walk_at "cmw") | refine mul_l ?_ ⟨by decide, by decide, by first | decide | exact Nat.le_of_ble_eq_true rfl | walk_at "mlen"⟩
      first | refine add_int ?_ | refine add_lst ?_ (by walk_at "len") | refine add_tup ?_ (by walk_at "len3") | refine add_scr ?_ (by walk_at "len") | refine (show addP (.str _) (.str _) _ _ from ⟨by decide +kernel, ?_⟩)
      refine de_name 8 ?_
      first | refine add_int ?_ | refine add_lst ?_ (by walk_at "len") | refine add_tup ?_ (by walk_at "len3") | refine add_scr ?_ (by walk_at "len") | refine (show addP (.str _) (.str _) _ _ from ⟨by decide +kernel, ?_⟩)
      refine de_name 7 ?_
      refine ⟨_, _, rfl, rfl, (by walk_at "cdw"), ?_⟩
      refine ⟨_, rfl, ?_⟩
      exact ⟨_, rfl, rfl, step_mm (flL c (-reach + (i1 : Int))) ht9⟩
    obtain ⟨rfl, rfl⟩ := hP
    rw [List.length_map, List.take_of_length_le (Nat.le_refl _)]
    refine da_nil ?_
    refine drc_maxI _ (by rw [List.length_map]; omega) fun mx hmx hmx2 => ?_
    have bmx : Bd 185 mx := strip_bdL hts bc bm9 hmx
    refine dg_name 5 ?_ sc__tuples_within.nd
    refine ds_cons ?_
    refine ds_asg (h := ?_)
    refine de_B (cr_min rfl) n_min bt_min ?_
    refine da_cons ?_
    refine de_lcT (own := [("i", 6), ("j", 7), ("k", 8)]) [6, 7, 8] rfl sc__tuples_within.nd (blkOk_by (N := ["strips", "c", "number", "reach", "m", "least", "i", "j", "k", "greatest"]) (sc := defScope s__tuples_within) (by decide +kernel)) rfl rfl ?_ (fun _ _ _ _ _ => pg_tup rfl (pgs_cons (pg_name sc__tuples_within.nd rfl (Or.inl rfl)) (pgs_cons (pg_name sc__tuples_within.nd rfl (Or.inl rfl)) (pgs_cons (pg_name sc__tuples_within.nd rfl (Or.inl rfl)) pgs_nil))))
    refine di_lst ?_
    refine de_name 0 ?_
    refine ⟨_, rfl, ?_⟩
    refine ⟨fun k acc S' => S0 = S' ∧ acc = ((ts.take k).map (flG c (-reach + (i1 : Int)))).map D.int, ⟨rfl, rfl⟩, fun k9 d9 acc S' p9 hk hP hp hl => ?_, (by rw [List.length_map]; omega), fun acc S' hl hP => ?_⟩
    · obtain ⟨rfl, rfl⟩ := hP
      obtain ⟨i9, j9, k8, ht9, rfl⟩ := t3_at hk
      obtain ⟨bi9, ⟨hj9, bj9⟩, bk9⟩ := hts _ (List.mem_of_getElem? ht9)
      have bi9 : Bd 60 i9 := bi9
      have bj9 : Bd 60 j9 := bj9
      have hj9 : 0 < j9 := hj9
      have bk9 : Bd 120 k8 := bk9
      refine ⟨_, rfl, rfl, _, by set_option simprocs false in dsimp only [setV, wipeE, List.set], ?_⟩
      intro s H C cl fp
      refine de_fdiv ?_
      refine de_sub ?_
      refine de_sub ?_
      refine de_sub ?_
      refine de_name 1 ?_
      refine de_int ?_
      refine ⟨_, _, rfl, rfl, ?_⟩
      refine de_mul ?_
      refine de_name 6 ?_
      refine de_name 4 ?_
      first | refine mul_i ?_ (by walk_at "cmw") | refine mul_l ?_ ⟨by decide, by decide, by first | decide | exact Nat.le_of_ble_eq_true rfl | walk_at "mlen"⟩
      refine ⟨_, _, rfl, rfl, ?_⟩
      refine de_name 8 ?_
      refine ⟨_, _, rfl, rfl, ?_⟩
      refine de_name 7 ?_
      refine ⟨_, _, rfl, rfl, (by walk_at "cdw"), ?_⟩
      exact ⟨_, rfl, rfl, step_mm (flG c (-reach + (i1 : Int))) ht9⟩
    obtain ⟨rfl, rfl⟩ := hP
    rw [List.length_map, List.take_of_length_le (Nat.le_refl _)]
    refine da_nil ?_
    refine drc_minI _ (by rw [List.length_map]; omega) fun mn hmn hmn2 => ?_
    have bmn : Bd 185 mn := strip_bdG hts bc bm9 hmn
    refine dg_name 9 ?_ sc__tuples_within.nd
    refine ds_cons ?_
    refine ds_augI 2 sc__tuples_within.nd rfl rfl rfl ?_
    refine de_B (call_max2 rfl) n_max bt_max ?_
    refine da_cons ?_
    refine de_int ?_
    refine da_cons ?_
    refine de_add ?_
    refine de_sub ?_
    refine de_name 9 ?_
    refine de_name 5 ?_
    refine ⟨_, _, rfl, rfl, ?_⟩
    refine de_int ?_
    first | refine add_int ?_ | refine add_lst ?_ (by walk_at "len") | refine add_tup ?_ (by walk_at "len3") | refine add_scr ?_ (by walk_at "len") | refine (show addP (.str _) (.str _) _ _ from ⟨by decide +kernel, ?_⟩)
    refine da_nil ?_
    refine drc_max ?_
    refine ⟨_, rfl, ?_⟩
    refine ds_nrm ?_
    refine ds_nil ?_
    exact ⟨i1 + 1, by (repeat (first | refine ⟨rfl, ?_⟩ | refine ⟨by rw [rowW_eq hmx hmx2 hmn hmn2] <;> rfl, ?_⟩ | exact trivial)), rfl, rfl⟩
  obtain ⟨rfl, rfl⟩ := hP1
  rw [rngD_len]
  refine ds_cons ?_
  refine ds_ret ?_
  refine de_name 2 ?_
  exact qq
abbrev s__twice_number : Stmt := top 28
theorem sc__twice_number : FnScope ["six", "p", "q", "_", "c"] ["six"] (defScope s__twice_number) := ⟨rfl, rfl, rfl, by decide +kernel, rfl, by decide +kernel, by decide +kernel⟩
set_option maxHeartbeats 40000000 in
theorem ok__twice_number {f : Addr} {fd : FuncData} (F : Fun K "_twice_number" "_twice_number" s__twice_number f fd) (c__check_six : Cal P w K mg base 4 "_check_six" ["six"] [] con_chk6) (c__size : Cal P w K mg base 1 "_size" ["x", "y"] [] con_size) (c__strips : Cal P w K mg base 1 "_strips" ["r", "s", "away"] [] con_stripsE) (c__tuples_within : Cal P w K mg base 1 "_tuples_within" ["strips", "c"] [] con_withinE) (g_LONGEST_ROW : ∃ u, mg "LONGEST_ROW" = some (.int (2000) u)) : GOk P w K mg base 5 f fd ["six"] (spD K con_tw54) := by
  refine gok_ds F sc__twice_number (m := 4) rfl (fun ds S0 Q h => ?_) fun cdv A fr s0 H0 E0' gd hr ds S0 Q h => ?_
  · obtain ⟨_, _, rfl, _⟩ := h
    rfl
  obtain ⟨k, j, rfl, ⟨hk0, hk1⟩, hj, qq⟩ := h
  have hS := ball_sx (k := k) (j := j) hk0 (by omega) hj
  have hb9 := bsz_bd hk0 hk1
  have bk : Bd 6 k := by unfold Bd; omega
  have bp : Bd 8 (2 * k + 1) := by unfold Bd; omega
  have e9 := ball_few2 hk0 hk1
  have z51 : Bd 51 (0 : Int) := by unfold Bd; decide
  have bp51 : Bd 51 (2 * k + 1) := bp.up (by decide)
  have bk51 : Bd 51 k := bk.up (by decide)
  have bm51 : Bd 51 (2 * k + 1 - k) := by unfold Bd; omega
  have s1 := strpL_sto (r := 2 * k + 1) (s := k) (x := 0) (y := 0) (by omega) bp51 bk51 z51 z51
  have s2 := strpL_sto (r := 2 * k + 1) (s := k) (x := 2 * k + 1) (y := k) (by omega) bp51 bk51 bp51 bk51
  have s3 := strpL_sto (r := 2 * k + 1 - k) (s := -k) (x := 0) (y := 0) (by omega) bm51 (bk51.neg) z51 z51
  have hc9 : (2 * k + 1) * (2 * k + 1) - (2 * k + 1) * k + k * k = bszK k := by rw [← ball_sz, sz_eq]
  refine ds_nrm ?_ (by set_option simprocs false in dsimp only [List.map, List.replicate, List.cons_append, List.nil_append])
  refine ds_cons ?_
  refine ds_expr (h := ?_)
  refine de_call c__check_six gd (hr.mono (by decide)) ?_
  refine da_cons ?_
  refine de_name 0 ?_
  refine da_nil ?_
  refine ⟨_, _, _, rfl, by walk_at "sx", ?_⟩
  refine ds_cons ?_
  refine ds_asg (h := ?_)
  refine de_name 0 ?_
  first | refine dg_tup rfl rfl ?_ | refine dg_tupL rfl rfl ?_ (fun h => pg_lst rfl h)
  refine dgs_cons (h := ?_)
  refine dg_name 1 ?_ sc__twice_number.nd
  refine dgs_cons (h := ?_)
  refine dg_name 2 ?_ sc__twice_number.nd
  refine dgs_cons (h := ?_)
  refine dg_name 3 ?_ sc__twice_number.nd
  refine dgs_nil ?_
  refine ds_cons ?_
  refine ds_asg (h := ?_)
  refine de_call c__size gd (hr.mono (by decide)) ?_
  refine da_cons ?_
  refine de_name 1 ?_
  refine da_cons ?_
  refine de_name 2 ?_
  refine da_nil ?_
  refine ⟨_, _, rfl, ⟨by walk_at "bdu", by walk_at "bdu"⟩, ?_⟩
  refine dg_name 4 ?_ sc__twice_number.nd
  rw [hc9]
  refine ds_cons ?_
  refine ds_if ?_
  refine dt_gt ?_
  refine de_name 4 ?_
  refine de_globI2 g_LONGEST_ROW ?_
  refine ⟨_, _, rfl, rfl, ?_⟩
  refine ⟨fun ht => ?_, fun ht => ?_⟩
  · exact absurd (of_decide_eq_true ht) (by omega)
  refine ds_nil ?_
  refine ds_cons ?_
  refine ds_ret ?_
  refine de_mul ?_
  refine de_int ?_
  refine de_call c__tuples_within gd (hr.mono (by decide)) ?_
  refine da_cons ?_
  refine de_add ?_
  refine de_call c__strips gd (hr.mono (by decide)) ?_
  refine da_cons ?_
  refine de_name 1 ?_
  refine da_cons ?_
  refine de_name 2 ?_
  refine da_cons ?_
  refine de_tup ?_
  refine da_cons ?_
  refine de_int ?_
  refine da_cons ?_
  refine de_int ?_
  refine da_nil ?_
  refine ⟨by walk_at "len", ?_⟩
  refine da_nil ?_
  refine ⟨_, _, _, _, rfl, (by omega), ⟨by walk_at "bdu", by walk_at "bdu", by walk_at "bdu", by walk_at "bdu"⟩, ?_⟩
  refine de_call c__strips gd (hr.mono (by decide)) ?_
  refine da_cons ?_
  refine de_name 1 ?_
  refine da_cons ?_
  refine de_name 2 ?_
  refine da_cons ?_
  refine de_tup ?_
  refine da_cons ?_
  refine de_name 1 ?_
  refine da_cons ?_
  refine de_name 2 ?_
  refine da_nil ?_
  refine ⟨by walk_at "len", ?_⟩
  refine da_nil ?_
  refine ⟨_, _, _, _, rfl, (by omega), ⟨by walk_at "bdu", by walk_at "bdu", by walk_at "bdu", by walk_at "bdu"⟩, ?_⟩
  first | refine add_int ?_ | refine add_lst ?_ (by walk_at "len") | refine add_tup ?_ (by walk_at "len3") | refine add_scr ?_ (by walk_at "len") | refine (show addP (.str _) (.str _) _ _ from ⟨by decide +kernel, ?_⟩)
  refine da_cons ?_
  refine de_name 4 ?_
  refine da_nil ?_
  rw [← List.map_append]
  refine ⟨_, _, rfl, ⟨mem_app s1 s2, by show 1 ≤ 6; decide, by show 6 ≤ 20; decide⟩, ⟨by omega, by omega⟩, ?_⟩
  rw [e9.1]
  first | refine mul_i ?_ (by walk_at "cmw") | refine mul_l ?_ ⟨by decide, by decide, by first | decide | exact Nat.le_of_ble_eq_true rfl | walk_at "mlen"⟩
  exact qq
abbrev s_six_keeps : Stmt := top 22
theorem sc_six_keeps : FnScope ["six"] ["six"] (defScope s_six_keeps) := ⟨rfl, rfl, rfl, by decide +kernel, rfl, by decide +kernel, by decide +kernel⟩
set_option maxHeartbeats 40000000 in
theorem ok_six_keeps {f : Addr} {fd : FuncData} (F : Fun K "six_keeps" "six_keeps" s_six_keeps f fd) (c__twice_number : Cal P w K mg base 5 "_twice_number" ["six"] [] con_tw54) : GOk P w K mg base 6 f fd ["six"] (spD K con_kp54) := by
  refine gok_ds F sc_six_keeps (m := 0) rfl (fun ds S0 Q h => ?_) fun cdv A fr s0 H0 E0' gd hr ds S0 Q h => ?_
  · obtain ⟨_, _, rfl, _⟩ := h
    rfl
  obtain ⟨k, j, rfl, ⟨hk0, hk1⟩, hj, qq⟩ := h
  have hS := ball_sx (k := k) (j := j) hk0 (by omega) hj
  have hb9 := bsz_bd hk0 hk1
  have bk : Bd 6 k := by unfold Bd; omega
  have bp : Bd 8 (2 * k + 1) := by unfold Bd; omega
  have e9 := ball_few2 hk0 hk1
  have z51 : Bd 51 (0 : Int) := by unfold Bd; decide
  have bp51 : Bd 51 (2 * k + 1) := bp.up (by decide)
  have bk51 : Bd 51 k := bk.up (by decide)
  have bm51 : Bd 51 (2 * k + 1 - k) := by unfold Bd; omega
  have s1 := strpL_sto (r := 2 * k + 1) (s := k) (x := 0) (y := 0) (by omega) bp51 bk51 z51 z51
  have s2 := strpL_sto (r := 2 * k + 1) (s := k) (x := 2 * k + 1) (y := k) (by omega) bp51 bk51 bp51 bk51
  have s3 := strpL_sto (r := 2 * k + 1 - k) (s := -k) (x := 0) (y := 0) (by omega) bm51 (bk51.neg) z51 z51
  have hc9 : (2 * k + 1) * (2 * k + 1) - (2 * k + 1) * k + k * k = bszK k := by rw [← ball_sz, sz_eq]
  refine ds_nrm ?_ (by set_option simprocs false in dsimp only [List.map, List.replicate, List.cons_append, List.nil_append])
  refine ds_cons ?_
  refine ds_ret ?_
  refine de_eq (hr.units) ?_
  refine de_call c__twice_number gd (hr.mono (by decide)) ?_
  refine da_cons ?_
  refine de_name 0 ?_
  refine da_nil ?_
  refine ⟨_, _, rfl, ⟨hk0, hk1⟩, hj, ?_⟩
  refine de_int ?_
  refine eq_int ?_
  exact qq
abbrev s_six_numbers : Stmt := top 21
theorem sc_six_numbers : FnScope ["six", "twice", "p", "q", "_", "c"] ["six"] (defScope s_six_numbers) := ⟨rfl, rfl, rfl, by decide +kernel, rfl, by decide +kernel, by decide +kernel⟩
set_option maxHeartbeats 40000000 in
theorem ok_six_numbers {f : Addr} {fd : FuncData} (F : Fun K "six_numbers" "six_numbers" s_six_numbers f fd) (c__size : Cal P w K mg base 1 "_size" ["x", "y"] [] con_size) (c__strips : Cal P w K mg base 1 "_strips" ["r", "s", "away"] [] con_stripsE) (c__tuples_within : Cal P w K mg base 1 "_tuples_within" ["strips", "c"] [] con_withinE) (c__twice_number : Cal P w K mg base 5 "_twice_number" ["six"] [] con_tw54) : GOk P w K mg base 6 f fd ["six"] (spD K con_sn54) := by
  refine gok_ds F sc_six_numbers (m := 5) rfl (fun ds S0 Q h => ?_) fun cdv A fr s0 H0 E0' gd hr ds S0 Q h => ?_
  · obtain ⟨_, _, rfl, _⟩ := h
    rfl
  obtain ⟨k, j, rfl, ⟨hk0, hk1⟩, hj, qq⟩ := h
  have hS := ball_sx (k := k) (j := j) hk0 (by omega) hj
  have hb9 := bsz_bd hk0 hk1
  have bk : Bd 6 k := by unfold Bd; omega
  have bp : Bd 8 (2 * k + 1) := by unfold Bd; omega
  have e9 := ball_few2 hk0 hk1
  have z51 : Bd 51 (0 : Int) := by unfold Bd; decide
  have bp51 : Bd 51 (2 * k + 1) := bp.up (by decide)
  have bk51 : Bd 51 k := bk.up (by decide)
  have bm51 : Bd 51 (2 * k + 1 - k) := by unfold Bd; omega
  have s1 := strpL_sto (r := 2 * k + 1) (s := k) (x := 0) (y := 0) (by omega) bp51 bk51 z51 z51
  have s2 := strpL_sto (r := 2 * k + 1) (s := k) (x := 2 * k + 1) (y := k) (by omega) bp51 bk51 bp51 bk51
  have s3 := strpL_sto (r := 2 * k + 1 - k) (s := -k) (x := 0) (y := 0) (by omega) bm51 (bk51.neg) z51 z51
  have hc9 : (2 * k + 1) * (2 * k + 1) - (2 * k + 1) * k + k * k = bszK k := by rw [← ball_sz, sz_eq]
  refine ds_nrm ?_ (by set_option simprocs false in dsimp only [List.map, List.replicate, List.cons_append, List.nil_append])
  refine ds_cons ?_
  refine ds_asg (h := ?_)
  refine de_call c__twice_number gd (hr.mono (by decide)) ?_
  refine da_cons ?_
  refine de_name 0 ?_
  refine da_nil ?_
  refine ⟨_, _, rfl, ⟨hk0, hk1⟩, hj, ?_⟩
  refine dg_name 1 ?_ sc_six_numbers.nd
  refine ds_cons ?_
  refine ds_asg (h := ?_)
  refine de_name 0 ?_
  first | refine dg_tup rfl rfl ?_ | refine dg_tupL rfl rfl ?_ (fun h => pg_lst rfl h)
  refine dgs_cons (h := ?_)
  refine dg_name 2 ?_ sc_six_numbers.nd
  refine dgs_cons (h := ?_)
  refine dg_name 3 ?_ sc_six_numbers.nd
  refine dgs_cons (h := ?_)
  refine dg_name 4 ?_ sc_six_numbers.nd
  refine dgs_nil ?_
  refine ds_cons ?_
  refine ds_asg (h := ?_)
  refine de_call c__size gd (hr.mono (by decide)) ?_
  refine da_cons ?_
  refine de_name 2 ?_
  refine da_cons ?_
  refine de_name 3 ?_
  refine da_nil ?_
  refine ⟨_, _, rfl, ⟨by walk_at "bdu", by walk_at "bdu"⟩, ?_⟩
  refine dg_name 5 ?_ sc_six_numbers.nd
  rw [hc9]
  refine ds_cons ?_
  refine ds_ret ?_
  refine de_tup ?_
  refine da_cons ?_
  refine de_name 1 ?_
  refine da_cons ?_
  refine de_call c__tuples_within gd (hr.mono (by decide)) ?_
  refine da_cons ?_
  refine de_add ?_
  refine de_call c__strips gd (hr.mono (by decide)) ?_
  refine da_cons ?_
  refine de_name 2 ?_
  refine da_cons ?_
  refine de_name 3 ?_
  refine da_cons ?_
  refine de_tup ?_
  refine da_cons ?_
  refine de_int ?_
  refine da_cons ?_
  refine de_int ?_
  refine da_nil ?_
  refine ⟨by walk_at "len", ?_⟩
  refine da_nil ?_
  refine ⟨_, _, _, _, rfl, (by omega), ⟨by walk_at "bdu", by walk_at "bdu", by walk_at "bdu", by walk_at "bdu"⟩, ?_⟩
  refine de_call c__strips gd (hr.mono (by decide)) ?_
  refine da_cons ?_
  refine de_sub ?_
  refine de_name 2 ?_
  refine de_name 3 ?_
  refine ⟨_, _, rfl, rfl, ?_⟩
  refine da_cons ?_
  refine de_neg ?_
  refine de_name 3 ?_
  refine ⟨_, rfl, ?_⟩
  refine da_cons ?_
  refine de_tup ?_
  refine da_cons ?_
  refine de_int ?_
  refine da_cons ?_
  refine de_int ?_
  refine da_nil ?_
  refine ⟨by walk_at "len", ?_⟩
  refine da_nil ?_
  refine ⟨_, _, _, _, rfl, (by omega), ⟨by walk_at "bdu", by walk_at "bdu", by walk_at "bdu", by walk_at "bdu"⟩, ?_⟩
  first | refine add_int ?_ | refine add_lst ?_ (by walk_at "len") | refine add_tup ?_ (by walk_at "len3") | refine add_scr ?_ (by walk_at "len") | refine (show addP (.str _) (.str _) _ _ from ⟨by decide +kernel, ?_⟩)
  refine da_cons ?_
  refine de_name 5 ?_
  refine da_nil ?_
  rw [← List.map_append]
  refine ⟨_, _, rfl, ⟨mem_app s1 s3, by show 1 ≤ 6; decide, by show 6 ≤ 20; decide⟩, ⟨by omega, by omega⟩, ?_⟩
  refine da_nil ?_
  refine ⟨by walk_at "len", ?_⟩
  rw [e9.2]
  exact qq
abbrev s_six_ball : Stmt := top 23
theorem sc_six_ball : FnScope ["number"] ["number"] (defScope s_six_ball) := ⟨rfl, rfl, rfl, by decide +kernel, rfl, by decide +kernel, by decide +kernel⟩
set_option maxHeartbeats 40000000 in
theorem ok_six_ball {f : Addr} {fd : FuncData} (F : Fun K "six_ball" "six_ball" s_six_ball f fd) (c_is_whole : Cal P w K mg base 1 "is_whole" ["value"] [] (con_wholeA K)) (g_GREATEST_BALL : ∃ u, mg "GREATEST_BALL" = some (.int (100000000000000) u)) : GOk P w K mg base 2 f fd ["number"] (spD K con_ball) := by
  refine gok_ds F sc_six_ball (m := 0) rfl (fun ds S0 Q h => ?_) fun cdv A fr s0 H0 E0' gd hr ds S0 Q h => ?_
  · obtain ⟨_, rfl, _⟩ := h
    rfl
  obtain ⟨k, rfl, ⟨hk0, hk1⟩, qq⟩ := h
  refine ds_nrm ?_ (by set_option simprocs false in dsimp only [List.map, List.replicate, List.cons_append, List.nil_append])
  refine ds_cons ?_
  refine ds_if ?_
  refine dt_w ?_
  refine dw_or ?_
  refine dt_not ?_
  refine dt_val (h := ?_)
  refine de_call c_is_whole gd (hr.mono (by decide)) ?_
  refine da_cons ?_
  refine de_name 0 ?_
  refine da_nil ?_
  refine ⟨_, rfl, (any_pv rfl), ?_⟩
  refine ⟨_, rfl, ?_⟩
  refine ⟨fun hb => ?_, fun hb => ?_⟩
  · first | cases hb | exact absurd (of_decide_eq_true hb) (by omega)
  refine dw_or ?_
  refine dt_lt ?_
  refine de_name 0 ?_
  refine de_int ?_
  refine ⟨_, _, rfl, rfl, ?_⟩
  refine ⟨fun hb => ?_, fun hb => ?_⟩
  · first | cases hb | exact absurd (of_decide_eq_true hb) (by omega)
  refine dw_or1 ?_
  refine dt_gt ?_
  refine de_name 0 ?_
  refine de_globI2 g_GREATEST_BALL ?_
  refine ⟨_, _, rfl, rfl, ?_⟩
  refine ⟨fun ht => ?_, fun ht => ?_⟩
  · exact absurd (of_decide_eq_true ht) (by omega)
  refine ds_nil ?_
  refine ds_cons ?_
  refine ds_ret ?_
  refine de_tup ?_
  refine da_cons ?_
  refine de_add ?_
  refine de_mul ?_
  refine de_int ?_
  refine de_name 0 ?_
  first | refine mul_i ?_ (by walk_at "cmw") | refine mul_l ?_ ⟨by decide, by decide, by first | decide | exact Nat.le_of_ble_eq_true rfl | walk_at "mlen"⟩
  refine de_int ?_
  first | refine add_int ?_ | refine add_lst ?_ (by walk_at "len") | refine add_tup ?_ (by walk_at "len3") | refine add_scr ?_ (by walk_at "len") | refine (show addP (.str _) (.str _) _ _ from ⟨by decide +kernel, ?_⟩)
  refine da_cons ?_
  refine de_name 0 ?_
  refine da_cons ?_
  refine de_int ?_
  refine da_nil ?_
  refine ⟨by walk_at "len", ?_⟩
  exact qq
set_option maxHeartbeats 40000000 in
theorem okx_six_ball {f : Addr} {fd : FuncData} (F : Fun K "six_ball" "six_ball" s_six_ball f fd) {C_InvalidNumber : Addr} (c_is_whole : Cal P w K mg base 1 "is_whole" ["value"] [] (con_wholeA K)) (g_GREATEST_BALL : ∃ u, mg "GREATEST_BALL" = some (.int (100000000000000) u)) (o_InvalidNumber : OwnErr K mg "InvalidNumber" C_InvalidNumber) : GOkX P w K mg base 2 f fd ["number"] (spDX K (con_ballX K C_InvalidNumber)) := by
  refine gokx_ds F sc_six_ball (m := 0) rfl (fun ds S0 Q R h => ?_) fun cdv A fr s0 H0 E0' gd hr ds S0 Q R h => ?_
  · obtain ⟨_, rfl, _⟩ := h
    rfl
  obtain ⟨d, rfl, hA, hn9, qq⟩ := h
  refine dsx_nrm ?_ (by set_option simprocs false in dsimp only [List.map, List.replicate, List.cons_append, List.nil_append])
  refine dsx_cons ?_
  refine dsx_if ?_
  refine DT.mono (Q := fun b' S' => S0 = S' ∧ b' = true) ?_ ?_
  · refine dt_w ?_
    refine dw_or ?_
    refine dt_not ?_
    refine dt_val (h := ?_)
    refine de_call c_is_whole gd (hr.mono (by decide)) ?_
    refine da_cons ?_
    refine de_name 0 ?_
    refine da_nil ?_
    refine ⟨_, rfl, hA, ?_⟩
    refine ⟨_, rfl, ?_⟩
    refine ⟨fun hb => ?_, fun hb => ?_⟩
    · exact ⟨rfl, rfl⟩
    obtain ⟨k9, rfl⟩ : ∃ k : Int, d = .int k := by cases d <;> first | exact ⟨_, rfl⟩ | cases hb
    refine dw_or ?_
    refine dt_lt ?_
    refine de_name 0 ?_
    refine de_int ?_
    refine ⟨_, _, rfl, rfl, ?_⟩
    refine ⟨fun hb => ?_, fun hb => ?_⟩
    · exact ⟨rfl, rfl⟩
    have hk9 := of_decide_eq_false hb
    refine dw_or1 ?_
    refine dt_gt ?_
    refine de_name 0 ?_
    refine de_globI2 g_GREATEST_BALL ?_
    refine ⟨_, _, rfl, rfl, ?_⟩
    exact ⟨rfl, decide_eq_true (by have := of_decide_eq_false hn9; omega)⟩
  rintro _ _ ⟨rfl, rfl⟩
  refine ⟨fun ht => ?_, fun ht => ?_⟩
  · refine dsx_cons ?_
    refine dsx_raise_own o_InvalidNumber rfl ?_
    exact qq
  · cases ht
abbrev s__law_is_refused : Stmt := top 36
theorem sc__law_is_refused : FnScope ["_law_thing", "_law_found", "e"] ["_law_thing"] (defScope s__law_is_refused) := ⟨rfl, rfl, rfl, by decide +kernel, rfl, by decide +kernel, by decide +kernel⟩
set_option maxHeartbeats 40000000 in
theorem ok__law_is_refused {f : Addr} {fd : FuncData} (F : Fun K "_law_is_refused" "_law_is_refused" s__law_is_refused f fd) {C_InvalidNumber : Addr} (k_InvalidNumber__t_ValueError : PySem.W.kitOne K (.ref C_InvalidNumber) (.type "ValueError") = some true) (m_InvalidNumber__InvalidNumber : PySem.W.exmOne K (.ref C_InvalidNumber) (.ref C_InvalidNumber) = some true) (n_ValueError : mg "ValueError" = none) (n_isinstance : mg "isinstance" = none) (o_InvalidNumber : OwnErr K mg "InvalidNumber" C_InvalidNumber) (r_six_ball : CalX P w K mg base 2 "six_ball" ["number"] [(0, ["number"])] (con_ballX K C_InvalidNumber)) (x_InvalidNumber : L2.ExcC K C_InvalidNumber) : GOk P w K mg base 3 f fd ["_law_thing"] (spD K (con_refused K)) := by
  refine gok_ds F sc__law_is_refused (m := 2) rfl (fun ds S0 Q h => ?_) fun cdv A fr s0 H0 E0' gd hr ds S0 Q h => ?_
  · obtain ⟨_, rfl, _⟩ := h
    rfl
  obtain ⟨d, rfl, hA, qq⟩ := h
  refine ds_nrm ?_ (by set_option simprocs false in dsimp only [List.map, List.replicate, List.cons_append, List.nil_append])
  refine ds_cons ?_
  refine ds_asg (h := ?_)
  refine de_bl ?_
  refine dg_name 1 ?_ sc__law_is_refused.nd
  refine ds_cons ?_
  refine ds_join (γ := Unit) (fun _ => [some d, some (.bl true), none]) (fun _ S' => S0 = S') ?_ ?_
  · refine ds_try rfl rfl (.consA ⟨rfl, by decide, .inl o_InvalidNumber.gC⟩ sc__law_is_refused.nd (i := 2) rfl rfl .nil) (fun pn8 xe8 => ?_)
    refine dsx_cons ?_
    refine dsx_expr ?_
    refine dex_call r_six_ball gd (hr.mono (by decide)) ?_
    refine dax_of ?_
    refine da_cons ?_
    refine de_name 0 ?_
    refine da_nil ?_
    refine ⟨_, rfl, hA.1, hA.2, ?_⟩
    · refine ⟨true, m_InvalidNumber__InvalidNumber, fun _ a9 oe9 d9 pn9 hz9 hf9 => ?_, fun z => (nomatch z)⟩
      refine ds_cons ?_
      refine ds_asg (h := ?_)
      refine de_B (call_isP x_InvalidNumber List.mem_cons_self hz9 hf9) n_isinstance bt_isinstance ?_
      refine da_cons ?_
      refine de_name 2 ?_
      refine da_cons ?_
      refine de_ty n_ValueError bt_ValueError ?_
      refine da_nil ?_
      refine drc_isP (.ty _) k_InvalidNumber__t_ValueError ?_
      refine dg_name 1 ?_ sc__law_is_refused.nd
      refine ds_nil ?_
      exact ⟨(), by walk_at "wk", rfl⟩
  rintro _ _ rfl
  refine ds_cons ?_
  refine ds_ret ?_
  refine de_name 1 ?_
  exact qq
abbrev s__law_right : Stmt := top 37
theorem sc__law_right : FnScope ["_law_k", "_law_sixths", "_law_dot_here", "_law_told", "_law_corner", "_law_away", "_law_goal", "_law_ends", "_law_one", "_law_end"] ["_law_k", "_law_sixths", "_law_dot_here"] (defScope s__law_right) := ⟨rfl, rfl, rfl, by decide +kernel, rfl, by decide +kernel, by decide +kernel⟩
set_option maxHeartbeats 40000000 in
theorem ok__law_right {f : Addr} {fd : FuncData} (F : Fun K "_law_right" "_law_right" s__law_right f fd) (c__law_round : Cal P w K mg base 1 "_law_round" ["_law_dot_here"] [] con_round) (c_six_back : Cal P w K mg base 5 "six_back" ["six"] [] con_back6) (c_six_ball : Cal P w K mg base 2 "six_ball" ["number"] [(0, ["number"])] con_ball) (c_six_image : Cal P w K mg base 6 "six_image" ["six", "pixel"] [] con_img6) (c_six_keeps : Cal P w K mg base 6 "six_keeps" ["six"] [] con_kp54) (c_six_numbers : Cal P w K mg base 6 "six_numbers" ["six"] [] con_sn54) (n_repr : mg "repr" = none) : GOk P w K mg base 7 f fd ["_law_k", "_law_sixths", "_law_dot_here"] (spD K con_r54) := by
  refine gok_ds F sc__law_right (m := 7) rfl (fun ds S0 Q h => ?_) fun cdv A fr s0 H0 E0' gd hr ds S0 Q h => ?_
  · obtain ⟨_, _, _, _, rfl, _⟩ := h
    rfl
  obtain ⟨k, j, x, y, rfl, hk, hj, ⟨bx, by'⟩, qq⟩ := h
  have hk0 := hk.1
  have hS := ball_sx hk.1 hk.2 hj
  have bk : Bd 50 k := by have := hk.2; unfold Bd; omega
  have bj : Bd 4 j := by unfold Bd; omega
  obtain ⟨⟨hh1, hh2⟩, hh3, hh4⟩ := ball_home hk.1 hk.2 hj x y
  obtain ⟨bi1, bi2⟩ := si_bd hS bx by'
  obtain ⟨bj1, bj2⟩ := si_bd (sx_bk hS) bx by'
  have bi1 : Bd 257 (siX (2 * k + 1) k j x y) := bi1
  have bi2 : Bd 257 (siY (2 * k + 1) k j x y) := bi2
  have bj1 : Bd 257 (siX (2 * k + 1 - k) (-k) (-j % 6) x y) := bj1
  have bj2 : Bd 257 (siY (2 * k + 1 - k) (-k) (-j % 6) x y) := bj2
  refine ds_nrm ?_ (by set_option simprocs false in dsimp only [List.map, List.replicate, List.cons_append, List.nil_append])
  refine ds_cons ?_
  refine ds_asg (h := ?_)
  refine de_call c_six_ball gd (hr.mono (by decide)) ?_
  refine da_cons ?_
  refine de_name 0 ?_
  refine da_nil ?_
  refine ⟨_, rfl, (by first | exact hk | exact ⟨by decide +kernel, by decide +kernel⟩), ?_⟩
  refine dg_name 3 ?_ sc__law_right.nd
  refine ds_cons ?_
  refine ds_if ?_
  refine dt_ne (hr.units) ?_
  refine de_B (call_repr_data gd hr.units) n_repr bt_repr ?_
  refine da_cons ?_
  refine de_lst ?_
  refine da_cons ?_
  refine de_name 3 ?_
  refine da_cons ?_
  refine de_callN (ks := ["number"]) c_six_ball gd (hr.mono (by decide)) (by decide) ?_
  refine dk_cons (h := ?_)
  refine de_name 0 ?_
  refine dk_nil ?_
  refine ⟨rfl, ?_⟩
  walk_at "ord"
  refine ⟨_, rfl, (by first | exact hk | exact ⟨by decide +kernel, by decide +kernel⟩), ?_⟩
  refine da_nil ?_
  refine ⟨by walk_at "len", ?_⟩
  refine da_nil ?_
  first | refine drc_repr (d := .lst [.tup [.int (2 * k + 1), .int k, .int 0], .tup [.int (2 * k + 1), .int k, .int 0]]) ?_ rfl (by walk_at "sho") (by walk_at "big") (by walk_at "obj") | refine drc_repr ?_ (by walk_at "flat") (by walk_at "sho") (by walk_at "big") (by walk_at "obj")
  refine de_B (call_repr_data gd hr.units) n_repr bt_repr ?_
  refine da_cons ?_
  refine de_mul ?_
  refine de_lst ?_
  refine da_cons ?_
  refine de_tup ?_
  refine da_cons ?_
  refine de_add ?_
  refine de_mul ?_
  refine de_int ?_
  refine de_name 0 ?_
  first | refine mul_i ?_ (by walk_at "cmw") | refine mul_l ?_ ⟨by decide, by decide, by first | decide | exact Nat.le_of_ble_eq_true rfl | walk_at "mlen"⟩
  refine de_int ?_
  first | refine add_int ?_ | refine add_lst ?_ (by walk_at "len") | refine add_tup ?_ (by walk_at "len3") | refine add_scr ?_ (by walk_at "len") | refine (show addP (.str _) (.str _) _ _ from ⟨by decide +kernel, ?_⟩)
  refine da_cons ?_
  refine de_name 0 ?_
  refine da_cons ?_
  refine de_int ?_
  refine da_nil ?_
  refine ⟨by walk_at "len", ?_⟩
  refine da_nil ?_
  refine ⟨by walk_at "len", ?_⟩
  refine de_int ?_
  refine mul_l ?_ ⟨by decide, by decide, by first | decide | (simp only [List.length_cons, List.length_nil]; decide)⟩
  refine da_nil ?_
  first | refine drc_repr (d := .lst [.tup [.int (2 * k + 1), .int k, .int 0], .tup [.int (2 * k + 1), .int k, .int 0]]) ?_ rfl (by walk_at "sho") (by walk_at "big") (by walk_at "obj") | refine drc_repr ?_ (by walk_at "flat") (by walk_at "sho") (by walk_at "big") (by walk_at "obj")
  refine eq_strT rfl ?_
  refine ⟨fun ht => ?_, fun ht => ?_⟩
  · exact (nb ht rfl).elim
  refine ds_nil ?_
  refine ds_cons ?_
  refine ds_asg (h := ?_)
  refine de_tup ?_
  refine da_cons ?_
  refine de_ix (h := ?_)
  refine de_name 3 ?_
  refine de_int ?_
  walk_at "ix"
  refine da_cons ?_
  refine de_ix (h := ?_)
  refine de_name 3 ?_
  refine de_int ?_
  walk_at "ix"
  refine da_cons ?_
  refine de_name 1 ?_
  refine da_nil ?_
  refine ⟨by walk_at "len", ?_⟩
  refine dg_name 4 ?_ sc__law_right.nd
  refine ds_cons ?_
  refine ds_asg (h := ?_)
  refine de_tup ?_
  refine da_cons ?_
  refine de_call c_six_back gd (hr.mono (by decide)) ?_
  refine da_cons ?_
  refine de_name 4 ?_
  refine da_nil ?_
  refine ⟨_, _, _, rfl, hS, ?_⟩
  refine da_cons ?_
  refine de_call c_six_image gd (hr.mono (by decide)) ?_
  refine da_cons ?_
  refine de_name 4 ?_
  refine da_cons ?_
  refine de_name 2 ?_
  refine da_nil ?_
  first | refine ⟨_, _, _, _, _, rfl, hS, ⟨by walk_at "bdu", by walk_at "bdu"⟩, ?_⟩ | refine ⟨_, _, _, _, _, rfl, sx_bk hS, ⟨by walk_at "bdu", by walk_at "bdu"⟩, ?_⟩
  refine da_nil ?_
  refine ⟨by walk_at "len", ?_⟩
  first | refine dg_tup rfl rfl ?_ | refine dg_tupL rfl rfl ?_ (fun h => pg_lst rfl h)
  refine dgs_cons (h := ?_)
  refine dg_name 5 ?_ sc__law_right.nd
  refine dgs_cons (h := ?_)
  refine dg_name 6 ?_ sc__law_right.nd
  refine dgs_nil ?_
  refine ds_cons ?_
  refine ds_if ?_
  refine dt_w ?_
  refine dw_or ?_
  refine dt_ne (hr.units) ?_
  refine de_call c_six_image gd (hr.mono (by decide)) ?_
  refine da_cons ?_
  refine de_name 5 ?_
  refine da_cons ?_
  refine de_name 6 ?_
  refine da_nil ?_
  first | refine ⟨_, _, _, _, _, rfl, hS, ⟨by walk_at "bdu", by walk_at "bdu"⟩, ?_⟩ | refine ⟨_, _, _, _, _, rfl, sx_bk hS, ⟨by walk_at "bdu", by walk_at "bdu"⟩, ?_⟩
  refine de_name 2 ?_
  refine eqP_same (tup2 hh1 hh2) rfl ?_
  refine ⟨fun hb => ?_, fun hb => ?_⟩
  · exact (nb hb rfl).elim
  refine dw_or1 ?_
  refine dt_ne (hr.units) ?_
  refine de_call c_six_image gd (hr.mono (by decide)) ?_
  refine da_cons ?_
  refine de_name 4 ?_
  refine da_cons ?_
  refine de_call c_six_image gd (hr.mono (by decide)) ?_
  refine da_cons ?_
  refine de_name 5 ?_
  refine da_cons ?_
  refine de_name 2 ?_
  refine da_nil ?_
  first | refine ⟨_, _, _, _, _, rfl, hS, ⟨by walk_at "bdu", by walk_at "bdu"⟩, ?_⟩ | refine ⟨_, _, _, _, _, rfl, sx_bk hS, ⟨by walk_at "bdu", by walk_at "bdu"⟩, ?_⟩
  refine da_nil ?_
  first | refine ⟨_, _, _, _, _, rfl, hS, ⟨by walk_at "bdu", by walk_at "bdu"⟩, ?_⟩ | refine ⟨_, _, _, _, _, rfl, sx_bk hS, ⟨by walk_at "bdu", by walk_at "bdu"⟩, ?_⟩
  refine de_name 2 ?_
  refine eqP_same (tup2 hh3 hh4) rfl ?_
  refine ⟨fun ht => ?_, fun ht => ?_⟩
  · exact (nb ht rfl).elim
  refine ds_nil ?_
  refine ds_cons ?_
  refine ds_setLc 7 8 rfl sc__law_right.nd rfl rfl (sw_true rfl rfl rfl (by decide +kernel)) (blkOk_by (N := ["_law_k", "_law_sixths", "_law_dot_here", "_law_told", "_law_corner", "_law_away", "_law_goal", "_law_ends", "_law_one", "_law_end"]) (sc := defScope s__law_right) (by decide +kernel)) ?_ (fun _ _ _ _ _ => pg_name sc__law_right.nd rfl (Or.inl rfl))
  refine di_lst ?_
  refine de_call c__law_round gd (hr.mono (by decide)) ?_
  refine da_cons ?_
  refine de_name 2 ?_
  refine da_nil ?_
  refine ⟨_, _, rfl, ?_⟩
  refine ⟨_, rfl, ?_⟩
  refine ⟨fun i9 acc S' => S0 = S' ∧ acc = (((rp6 x y).map (im54 k j)).map pr2).take i9, ⟨rfl, rfl⟩, fun k9 d9 acc S' p9 hk9 hP hp hl s5 H5 C5 cl5 fp5 => ?_, by show 6 ≤ 100000; decide, fun acc S' hl hP => ?_⟩
  · obtain ⟨rfl, rfl⟩ := hP
    obtain ⟨v9, ht9, rfl⟩ := pr_at (os := rp6 x y) hk9
    obtain ⟨bv1, bv2⟩ := rp6_bd bx by' (List.mem_of_getElem? ht9)
    have bv1 : Bd 142 v9.1 := bv1
    have bv2 : Bd 142 v9.2 := bv2
    refine de_call c_six_image gd (hr.mono (by decide)) ?_
    refine da_cons ?_
    refine de_name 4 ?_
    refine da_cons ?_
    refine de_name 8 ?_
    refine da_nil ?_
    first | refine ⟨_, _, _, _, _, rfl, hS, ⟨by walk_at "bdu", by walk_at "bdu"⟩, ?_⟩ | refine ⟨_, _, _, _, _, rfl, sx_bk hS, ⟨by walk_at "bdu", by walk_at "bdu"⟩, ?_⟩
    exact ⟨_, rfl, rfl, by rw [List.map_map, take_step (pr2 ∘ (im54 k j)) ht9] <;> first | rfl | (simp only [Function.comp]; rfl)⟩
  obtain ⟨rfl, rfl⟩ := hP
  rw [show List.take _ (((rp6 x y).map (im54 k j)).map pr2) = ((rp6 x y).map (im54 k j)).map pr2 from List.take_of_length_le (by first | exact Nat.le_refl 6 | (show 6 ≤ _; rw [List.length_map]; exact Nat.le_refl 6))]
  refine ds_nrm ?_
  refine ds_cons ?_
  refine ds_if ?_
  refine dt_w ?_
  refine dw_or ?_
  refine dt_in (hu65 hr) ?_
  refine de_name 6 ?_
  refine de_name 7 ?_
  refine ⟨⟨rfl, flat_rp k j x y⟩, ?_⟩
  refine ⟨fun hb => ?_, fun hb => ?_⟩
  · rw [show List.any _ _ = false from ends_no hk.1 hk.2 hj x y] at hb
    cases hb
  refine dw_or1 ?_
  refine dt_ne (hr.units) ?_
  refine de_lc 9 rfl sc__law_right.nd (blkOk_by (N := ["_law_k", "_law_sixths", "_law_dot_here", "_law_told", "_law_corner", "_law_away", "_law_goal", "_law_ends", "_law_one", "_law_end"]) (sc := defScope s__law_right) (by decide +kernel)) ?_ (fun _ _ _ _ _ => pg_name sc__law_right.nd rfl (Or.inl rfl))
  refine di_lst ?_
  refine de_name 7 ?_
  refine ⟨_, rfl, ?_⟩
  refine ⟨fun i9 acc S' => S0 = S' ∧ acc = ((rp6 x y).map pr2).take i9, ⟨rfl, rfl⟩, fun k9 d9 acc S' p9 hk9 hP hp hl s5 H5 C5 cl5 fp5 => ?_, by show 6 ≤ 100000; decide, fun acc S' hl hP => ?_⟩
  · obtain ⟨rfl, rfl⟩ := hP
    obtain ⟨w9, hw9, rfl⟩ := pr_at (os := (rp6 x y).map (im54 k j)) hk9
    rw [List.getElem?_map] at hw9
    obtain ⟨v9, ht9, rfl⟩ := Option.map_eq_some_iff.mp hw9
    obtain ⟨bv1, bv2⟩ := rp6_bd bx by' (List.mem_of_getElem? ht9)
    obtain ⟨bu1, bu2⟩ := si_bd hS bv1 bv2
    have bu1 : Bd 259 (im54 k j v9).1 := bu1
    have bu2 : Bd 259 (im54 k j v9).2 := bu2
    have eib := ib_im hk.1 hk.2 hj v9
    refine de_call c_six_image gd (hr.mono (by decide)) ?_
    refine da_cons ?_
    refine de_name 5 ?_
    refine da_cons ?_
    refine de_name 9 ?_
    refine da_nil ?_
    first | refine ⟨_, _, _, _, _, rfl, hS, ⟨by walk_at "bdu", by walk_at "bdu"⟩, ?_⟩ | refine ⟨_, _, _, _, _, rfl, sx_bk hS, ⟨by walk_at "bdu", by walk_at "bdu"⟩, ?_⟩
    exact ⟨_, rfl, rfl, by rw [im_back hk.1 hk.2 hj, take_step pr2 ht9]⟩
  obtain ⟨rfl, rfl⟩ := hP
  rw [show List.take _ ((rp6 x y).map pr2) = (rp6 x y).map pr2 from List.take_of_length_le (by show 6 ≤ _; rw [List.length_map]; exact Nat.le_refl 6)]
  refine de_call c__law_round gd (hr.mono (by decide)) ?_
  refine da_cons ?_
  refine de_name 2 ?_
  refine da_nil ?_
  refine ⟨_, _, rfl, ?_⟩
  refine eqP_same rfl (flat9l (flat_pr2 _)) ?_
  refine ⟨fun ht => ?_, fun ht => ?_⟩
  · exact (nb ht rfl).elim
  refine ds_nil ?_
  refine ds_cons ?_
  refine ds_ret ?_
  refine de_or ?_
  refine de_gt ?_
  refine de_name 0 ?_
  refine de_int ?_
  refine ⟨_, _, rfl, rfl, ?_⟩
  refine ⟨_, rfl, fun hb => ?_, fun hb => ?_⟩
  · first | exact qq | (rw [hb]; exact qq)
  have hk1 : k ≤ 20 := by have := of_decide_eq_false hb; omega
  refine de_one ?_
  refine de_and ?_
  refine de_isB ?_
  refine de_call c_six_keeps gd (hr.mono (by decide)) ?_
  refine da_cons ?_
  refine de_name 4 ?_
  refine da_nil ?_
  refine ⟨_, _, rfl, ⟨hk0, hk1⟩, hj, ?_⟩
  refine de_bl ?_
  refine ⟨_, _, rfl, rfl, ?_⟩
  refine ⟨_, rfl, fun hb => ?_, fun hb => ?_⟩
  · cases hb
  refine de_one ?_
  refine de_eq (hr.units) ?_
  refine de_call c_six_numbers gd (hr.mono (by decide)) ?_
  refine da_cons ?_
  refine de_name 4 ?_
  refine da_nil ?_
  refine ⟨_, _, rfl, ⟨hk0, hk1⟩, hj, ?_⟩
  refine de_tup ?_
  refine da_cons ?_
  refine de_int ?_
  refine da_cons ?_
  refine de_add ?_
  refine de_add ?_
  refine de_mul ?_
  refine de_mul ?_
  refine de_int ?_
  refine de_name 0 ?_
  first | refine mul_i ?_ (by walk_at "cmw") | refine mul_l ?_ ⟨by decide, by decide, by first | decide | exact Nat.le_of_ble_eq_true rfl | walk_at "mlen"⟩
  refine de_name 0 ?_
  first | refine mul_i ?_ (by walk_at "cmw") | refine mul_l ?_ ⟨by decide, by decide, by first | decide | exact Nat.le_of_ble_eq_true rfl | walk_at "mlen"⟩
  refine de_mul ?_
  refine de_int ?_
  refine de_name 0 ?_
  first | refine mul_i ?_ (by walk_at "cmw") | refine mul_l ?_ ⟨by decide, by decide, by first | decide | exact Nat.le_of_ble_eq_true rfl | walk_at "mlen"⟩
  first | refine add_int ?_ | refine add_lst ?_ (by walk_at "len") | refine add_tup ?_ (by walk_at "len3") | refine add_scr ?_ (by walk_at "len") | refine (show addP (.str _) (.str _) _ _ from ⟨by decide +kernel, ?_⟩)
  refine de_int ?_
  first | refine add_int ?_ | refine add_lst ?_ (by walk_at "len") | refine add_tup ?_ (by walk_at "len3") | refine add_scr ?_ (by walk_at "len") | refine (show addP (.str _) (.str _) _ _ from ⟨by decide +kernel, ?_⟩)
  refine da_nil ?_
  refine ⟨by walk_at "len", ?_⟩
  refine eqP_same (tup2 rfl (by unfold bszK; grind)) rfl ?_
  exact qq
abbrev s_law : Stmt := top 38
theorem sc_law : FnScope ["_law_script", "_law_k", "_law_entry", "_law_source_here", "_law_lap", "_law_many", "_law_dot_here", "_law_bad", "_law_thing"] ["_law_script"] (defScope s_law) := ⟨rfl, rfl, rfl, by decide +kernel, rfl, by decide +kernel, by decide +kernel⟩
set_option maxHeartbeats 40000000 in
theorem ok_law {f : Addr} {fd : FuncData} (F : Fun K "law" "law" s_law f fd) (c__law_dot : Cal P w K mg base 2 "_law_dot" ["_law_source_here", "_law_wide"] [] con_dot) (c__law_draw : Cal P w K mg base 1 "_law_draw" ["_law_source_here", "_law_count"] [] con_draw) (c__law_is_refused : Cal P w K mg base 3 "_law_is_refused" ["_law_thing"] [] (con_refused K)) (c__law_right : Cal P w K mg base 7 "_law_right" ["_law_k", "_law_sixths", "_law_dot_here"] [] con_r54) (c__law_source : Cal P w K mg base 1 "_law_source" ["_law_entry", "_law_k"] [] con_source) (c_six_ball : Cal P w K mg base 2 "six_ball" ["number"] [(0, ["number"])] con_ball) (n_enumerate : mg "enumerate" = none) (n_int : mg "int" = none) (n_len : mg "len" = none) (n_max : mg "max" = none) (n_min : mg "min" = none) (n_range : mg "range" = none) : GOk P w K mg base 8 f fd ["_law_script"] (spD K (conLaw 63)) := by
  refine gok_ds F sc_law (m := 8) rfl (fun ds S0 Q h => ?_) fun cdv A fr s0 H0 E0' gd hr ds S0 Q h => ?_
  · obtain ⟨_, _, rfl, _⟩ := h
    rfl
  obtain ⟨ns, hns, rfl, rfl, qq⟩ := h
  refine ds_nrm ?_ (by set_option simprocs false in dsimp only [List.map, List.replicate, List.cons_append, List.nil_append])
  refine ds_cons ?_
  refine ds_forG (γ := Unit) [1, 2, 3, 4, 5, 6] PassesOwn.never rfl ?_
  refine di_enum n_enumerate ?_
  refine da_cons ?_
  refine de_slice ?_
  refine de_add ?_
  refine de_name 0 ?_
  refine de_lst ?_
  refine da_cons ?_
  refine de_int ?_
  refine da_nil ?_
  refine ⟨by walk_at "len", ?_⟩
  first | refine add_int ?_ | refine add_lst ?_ (by walk_at "len") | refine add_tup ?_ (by walk_at "len3") | refine add_scr ?_ (by walk_at "len") | refine (show addP (.str _) (.str _) _ _ from ⟨by decide +kernel, ?_⟩)
  refine do_none ?_
  refine do_some ?_
  refine de_B (call_max2 rfl) n_max bt_max ?_
  refine da_cons ?_
  refine de_int ?_
  refine da_cons ?_
  refine de_B (call_min2 rfl) n_min bt_min ?_
  refine da_cons ?_
  refine de_B call_len_seq n_len bt_len ?_
  refine da_cons ?_
  refine de_name 0 ?_
  refine da_nil ?_
  refine drc_len ?_
  walk_at "lenP"
  refine da_cons ?_
  refine de_int ?_
  refine da_nil ?_
  refine drc_min ?_
  refine da_nil ?_
  refine drc_max ?_
  refine ⟨rfl, _, rfl, ?_⟩
  walk_at "slice"
  refine da_nil ?_
  refine ⟨_, rfl, ?_⟩
  refine ⟨fun _ => [], _, fun _ => (by dsimp only [putU, fgt, List.set]), fun i _ S' => [] = S', (), by walk_at "wk", rfl, fun i1 d1 g1 S1 hi1 hP1 => ?_, fun g1 S1 hP1 => ?_⟩
  · subst hP1
    obtain ⟨hi64, e, rfl⟩ := scr_turn (by refine ⟨?_, ?_⟩ <;> split <;> (try split) <;> omega) hi1
    first | refine dg_tup rfl rfl ?_ | refine dg_tupL rfl rfl ?_ (fun h => pg_lst rfl h)
    refine dgs_cons (h := ?_)
    refine dg_name 1 ?_ sc_law.nd
    refine dgs_cons (h := ?_)
    refine dg_name 2 ?_ sc_law.nd
    refine dgs_nil ?_
    refine ds_cons ?_
    refine ds_asg (h := ?_)
    refine de_call c__law_source gd (hr.mono (by decide)) ?_
    refine da_cons ?_
    refine de_name 2 ?_
    refine da_cons ?_
    refine de_name 1 ?_
    refine da_nil ?_
    refine ⟨_, _, rfl, (by walk_at "rng"), fun p1 l1 hp1 hs1 => ?_⟩
    refine dg_name 3 ?_ sc_law.nd
    refine ds_cons ?_
    refine ds_forG (γ := Unit) [4, 5, 6] PassesOwn.never rfl ?_
    refine di_rng1 n_range ?_
    refine da_cons ?_
    refine de_int ?_
    refine da_nil ?_
    refine ⟨_, rfl, (by walk_at "rng"), ?_⟩
    refine ⟨fun _ => [], _, fun _ => (by dsimp only [putU, fgt, List.set]), fun i _ S' => ∃ l, [(p1, l)] = S' ∧ Src (1000 * i) l, (), by walk_at "wk", ⟨l1, rfl, hs1⟩, fun i2 d2 g2 S2 hi2 hP2 => ?_, fun g2 S2 hP2 => ?_⟩
    · obtain ⟨l0, rfl, hs0⟩ := hP2
      obtain ⟨hi6, rfl⟩ := rngD_get hi2
      have hi6 : i2 < 6 := by omega
      refine dg_name 4 ?_ sc_law.nd
      refine ds_cons ?_
      refine ds_asg (h := ?_)
      refine de_call c__law_draw gd (hr.mono (by decide)) ?_
      refine da_cons ?_
      refine de_name 3 ?_
      refine da_cons ?_
      refine de_ix (h := ?_)
      refine de_lst ?_
      refine da_cons ?_
      refine de_int ?_
      refine da_cons ?_
      refine de_int ?_
      refine da_cons ?_
      refine de_int ?_
      refine da_cons ?_
      refine de_int ?_
      refine da_cons ?_
      refine de_add ?_
      refine de_pow ?_
      refine de_int ?_
      refine de_int ?_
      refine ⟨_, _, rfl, rfl, (by walk_at "cpw"), ?_⟩
      refine de_int ?_
      first | refine add_int ?_ | refine add_lst ?_ (by walk_at "len") | refine add_tup ?_ (by walk_at "len3") | refine add_scr ?_ (by walk_at "len") | refine (show addP (.str _) (.str _) _ _ from ⟨by decide +kernel, ?_⟩)
      refine da_cons ?_
      refine de_add ?_
      refine de_pow ?_
      refine de_int ?_
      refine de_int ?_
      refine ⟨_, _, rfl, rfl, (by walk_at "cpw"), ?_⟩
      refine de_int ?_
      first | refine add_int ?_ | refine add_lst ?_ (by walk_at "len") | refine add_tup ?_ (by walk_at "len3") | refine add_scr ?_ (by walk_at "len") | refine (show addP (.str _) (.str _) _ _ from ⟨by decide +kernel, ?_⟩)
      refine da_nil ?_
      refine ⟨by walk_at "len", ?_⟩
      refine de_name 4 ?_
      refine ix_pick (fun d => ∃ m : Int, d = .int m ∧ 1 ≤ m ∧ m ≤ 100000000000001) (fa_cons ⟨_, rfl, by decide +kernel, by decide +kernel⟩ (fa_cons ⟨_, rfl, by decide +kernel, by decide +kernel⟩ (fa_cons ⟨_, rfl, by decide +kernel, by decide +kernel⟩ (fa_cons ⟨_, rfl, by decide +kernel, by decide +kernel⟩ (fa_cons ⟨_, rfl, by decide +kernel, by decide +kernel⟩ (fa_cons ⟨_, rfl, by decide +kernel, by decide +kernel⟩ fa_nil)))))) (by omega) (by show _ < (6 : Int); omega) ?_
      rintro _ ⟨mq, rfl, hmq0, hmq1⟩
      have bmq : Bd 50 mq := by unfold Bd; omega
      refine da_nil ?_
      refine ⟨_, _, _, _, rfl, (by walk_at "gets"), (by assumption), (by walk_at "m"), (by walk_at "pos"), (by walk_at "bdu"), fun r2 l2 hr2 hn2 hs2 => ?_⟩
      walk_at "sets"
      refine dg_name 5 ?_ sc_law.nd
      refine ds_cons ?_
      refine ds_asg (h := ?_)
      refine de_call c__law_dot gd (hr.mono (by decide)) ?_
      refine da_cons ?_
      refine de_name 3 ?_
      refine da_cons ?_
      refine de_ix (h := ?_)
      refine de_lst ?_
      refine da_cons ?_
      refine de_int ?_
      refine da_cons ?_
      refine de_int ?_
      refine da_cons ?_
      refine de_int ?_
      refine da_cons ?_
      refine de_pow ?_
      refine de_int ?_
      refine de_int ?_
      refine ⟨_, _, rfl, rfl, (by walk_at "cpw"), ?_⟩
      refine da_cons ?_
      refine de_pow ?_
      refine de_int ?_
      refine de_int ?_
      refine ⟨_, _, rfl, rfl, (by walk_at "cpw"), ?_⟩
      refine da_cons ?_
      refine de_pow ?_
      refine de_int ?_
      refine de_int ?_
      refine ⟨_, _, rfl, rfl, (by walk_at "cpw"), ?_⟩
      refine da_nil ?_
      refine ⟨by walk_at "len", ?_⟩
      refine de_name 4 ?_
      refine ix_pick (fun d => ∃ m : Int, d = .int m ∧ 0 ≤ m ∧ Bd 138 m) (fa_cons ⟨_, rfl, by decide +kernel, by unfold Bd; decide +kernel⟩ (fa_cons ⟨_, rfl, by decide +kernel, by unfold Bd; decide +kernel⟩ (fa_cons ⟨_, rfl, by decide +kernel, by unfold Bd; decide +kernel⟩ (fa_cons ⟨_, rfl, by decide +kernel, by unfold Bd; decide +kernel⟩ (fa_cons ⟨_, rfl, by decide +kernel, by unfold Bd; decide +kernel⟩ (fa_cons ⟨_, rfl, by decide +kernel, by unfold Bd; decide +kernel⟩ fa_nil)))))) (by omega) (by show _ < (6 : Int); omega) ?_
      rintro _ ⟨mx, rfl, hmx0, bmx⟩
      refine da_nil ?_
      refine ⟨_, _, _, _, rfl, (by walk_at "gets"), (by assumption), (by walk_at "m"), (by walk_at "pos"), (by walk_at "bdu"), fun x3 y3 l3 hx3 hy3 hs3 => ?_⟩
      have bx3 := Bd.of_abs hx3.1 hx3.2 (by walk_at "bd")
      have by3 := Bd.of_abs hy3.1 hy3.2 (by walk_at "bd")
      walk_at "sets"
      refine dg_name 6 ?_ sc_law.nd
      refine ds_cons ?_
      refine ds_if ?_
      refine dt_not ?_
      refine dt_val (h := ?_)
      refine de_call c__law_right gd (hr.mono (by decide)) ?_
      refine da_cons ?_
      refine de_name 5 ?_
      refine da_cons ?_
      refine de_call c__law_draw gd (hr.mono (by decide)) ?_
      refine da_cons ?_
      refine de_name 3 ?_
      refine da_cons ?_
      refine de_int ?_
      refine da_nil ?_
      refine ⟨_, _, _, _, rfl, (by walk_at "gets"), (by assumption), (by walk_at "m"), (by walk_at "pos"), (by walk_at "bdu"), fun r5 l5 hr5 hn5 hs5 => ?_⟩
      walk_at "sets"
      refine da_cons ?_
      refine de_name 6 ?_
      refine da_nil ?_
      refine ⟨_, _, _, _, rfl, (by first | exact ⟨by decide, by decide⟩ | exact ⟨by assumption, by omega⟩), (by first | exact ⟨by assumption, by omega⟩), ⟨by walk_at "bdu", by walk_at "bdu"⟩, ?_⟩
      refine ⟨_, rfl, ?_⟩
      refine ⟨fun ht => ?_, fun ht => ?_⟩
      · cases ht
      refine ds_nil ?_
      refine ds_nil ?_
      exact ⟨(), by walk_at "wk", _, rfl, (by assumption : Src (_ + 1) _).up (by omega)⟩
    obtain ⟨l7, rfl, hs7⟩ := hP2
    have hs7 : Src (1000 * 6) l7 := hs7
    refine ds_cons ?_
    refine ds_if ?_
    refine DT.mono (Q := fun b S' => b = false ∧ ∃ l, [(p1, l)] = S') ?_ ?_
    · refine dt_w ?_
      refine dw_and ?_
      refine dt_eq (hr.units) ?_
      refine de_name 1 ?_
      refine de_int ?_
      walk_at "eq"
      refine ⟨fun hb => ?_, fun hb => ?_⟩
      · exact ⟨rfl, _, rfl⟩
      refine dw_and ?_
      refine dt_ne (hr.units) ?_
      refine de_name 0 ?_
      refine de_lst ?_
      refine da_nil ?_
      refine ⟨by walk_at "len", ?_⟩
      first | refine eqP_same rfl rfl ?_ | walk_at "eq"
      refine ⟨fun hb => ?_, fun hb => ?_⟩
      · exact ⟨rfl, _, rfl⟩
      refine dw_and1 ?_
      refine dt_not ?_
      refine dt_val (h := ?_)
      refine de_call c__law_right gd (hr.mono (by decide)) ?_
      refine da_cons ?_
      refine de_int ?_
      refine da_cons ?_
      refine de_call c__law_draw gd (hr.mono (by decide)) ?_
      refine da_cons ?_
      refine de_name 3 ?_
      refine da_cons ?_
      refine de_int ?_
      refine da_nil ?_
      refine ⟨_, _, _, _, rfl, (by walk_at "gets"), (by assumption), (by walk_at "m"), (by walk_at "pos"), (by walk_at "bdu"), fun r7 l7 hr7 hn7 hs7 => ?_⟩
      walk_at "sets"
      refine da_cons ?_
      refine de_tup ?_
      refine da_cons ?_
      refine de_int ?_
      refine da_cons ?_
      refine de_int ?_
      refine da_nil ?_
      refine ⟨by walk_at "len", ?_⟩
      refine da_nil ?_
      refine ⟨_, _, _, _, rfl, (by first | exact ⟨by decide, by decide⟩ | exact ⟨by assumption, by omega⟩), (by first | exact ⟨by assumption, by omega⟩), ⟨by walk_at "bdu", by walk_at "bdu"⟩, ?_⟩
      refine ⟨_, rfl, ?_⟩
      exact ⟨rfl, _, rfl⟩
    rintro _ _ ⟨rfl, l8, rfl⟩
    refine ⟨fun ht => ?_, fun ht => ?_⟩
    · cases ht
    refine ds_nil ?_
    refine ds_forget ?_ rfl
    refine ds_nil ?_
    exact ⟨(), by walk_at "wk", rfl⟩
  subst hP1
  refine ds_cons ?_
  refine ds_asg (h := ?_)
  refine de_lst ?_
  refine da_cons ?_
  refine de_non ?_
  refine da_cons ?_
  refine de_bl ?_
  refine da_cons ?_
  refine de_bl ?_
  refine da_cons ?_
  refine de_neg ?_
  refine de_int ?_
  refine ⟨_, rfl, ?_⟩
  refine da_cons ?_
  refine de_add ?_
  refine de_pow ?_
  refine de_int ?_
  refine de_int ?_
  refine ⟨_, _, rfl, rfl, (by walk_at "cpw"), ?_⟩
  refine de_int ?_
  first | refine add_int ?_ | refine add_lst ?_ (by walk_at "len") | refine add_tup ?_ (by walk_at "len3") | refine add_scr ?_ (by walk_at "len") | refine (show addP (.str _) (.str _) _ _ from ⟨by decide +kernel, ?_⟩)
  refine da_cons ?_
  refine de_T call_intS n_int bt_int ?_
  refine da_cons ?_
  refine de_mulS ?_
  refine de_str ?_
  refine de_int ?_
  refine ⟨_, _, rfl, rfl, ⟨by decide, by decide, by decide +kernel, by decide +kernel⟩, ?_⟩
  refine da_nil ?_
  refine drc_intS (n := 10 ^ 99 - 1) (by decide +kernel) (by decide +kernel) ?_
  refine da_cons ?_
  refine de_str ?_
  refine da_cons ?_
  refine de_lst ?_
  refine da_cons ?_
  refine de_int ?_
  refine da_nil ?_
  refine ⟨by walk_at "len", ?_⟩
  refine da_cons ?_
  refine de_tup ?_
  refine da_cons ?_
  refine de_int ?_
  refine da_nil ?_
  refine ⟨by walk_at "len", ?_⟩
  refine da_cons ?_
  refine de_dic0 ?_
  refine da_cons ?_
  refine de_str ?_
  refine da_nil ?_
  refine ⟨by walk_at "len", ?_⟩
  refine dg_name 7 ?_ sc_law.nd
  refine ds_cons ?_
  refine ds_if ?_
  refine dt_ne (hr.units) ?_
  refine de_lcIf 8 rfl sc_law.nd (blkOk_by (N := ["_law_script", "_law_k", "_law_entry", "_law_source_here", "_law_lap", "_law_many", "_law_dot_here", "_law_bad", "_law_thing"]) (sc := defScope s_law) (by decide +kernel)) ?_ (fun _ _ _ _ _ => pg_name sc_law.nd rfl (Or.inl rfl))
  refine di_lst ?_
  refine de_name 7 ?_
  refine ⟨_, rfl, ?_⟩
  refine ⟨fun k acc S' => ([] : Sto) = S' ∧ acc = [], ⟨rfl, rfl⟩, fun k9 d9 acc S' p9 hk hP hp hl s H C cl fp => ?_, by decide, fun acc S' hl hP => ?_⟩
  · obtain ⟨rfl, rfl⟩ := hP
    have hB9 : BadB K d9 := ((fa_cons (badB_pl (by decide +kernel)) (fa_cons (badB_pl (by decide +kernel)) (fa_cons (badB_pl (by decide +kernel)) (fa_cons (badB_pl (by decide +kernel)) (fa_cons (badB_pl (by decide +kernel)) (fa_cons (badB_pl (by decide +kernel)) (fa_cons (badB_pl (by decide +kernel)) (fa_cons (badB_pl (by decide +kernel)) (fa_cons (badB_pl (by decide +kernel)) (fa_cons badB_dic (fa_cons (badB_pl (by decide +kernel)) fa_nil))))))))))) : ∀ x ∈ _, BadB K x) _ (List.mem_of_getElem? hk)
    refine dt_not ?_
    refine dt_val (h := ?_)
    refine de_call c__law_is_refused gd (hr.mono (by decide)) ?_
    refine da_cons ?_
    refine de_name 8 ?_
    refine da_nil ?_
    refine ⟨_, rfl, hB9, ?_⟩
    refine ⟨_, rfl, ?_⟩
    refine ⟨_, rfl, fun z => (nomatch z), fun _ => ⟨rfl, rfl⟩⟩
    skip
  obtain ⟨rfl, rfl⟩ := hP
  refine de_lst ?_
  refine da_nil ?_
  refine ⟨by walk_at "len", ?_⟩
  first | refine eqP_same rfl rfl ?_ | refine eqP_same rfl (by decide +kernel) ?_ | walk_at "eq"
  refine ⟨fun ht => ?_, fun ht => ?_⟩
  · cases ht
  refine ds_nil ?_
  refine ds_cons ?_
  refine ds_ret ?_
  refine de_eq (hr.units) ?_
  refine de_lst ?_
  refine da_cons ?_
  refine de_call c_six_ball gd (hr.mono (by decide)) ?_
  refine da_cons ?_
  refine de_int ?_
  refine da_nil ?_
  refine ⟨_, rfl, (by first | exact hk | exact ⟨by decide +kernel, by decide +kernel⟩), ?_⟩
  refine da_cons ?_
  refine de_call c_six_ball gd (hr.mono (by decide)) ?_
  refine da_cons ?_
  refine de_int ?_
  refine da_nil ?_
  refine ⟨_, rfl, (by first | exact hk | exact ⟨by decide +kernel, by decide +kernel⟩), ?_⟩
  refine da_cons ?_
  refine de_call c_six_ball gd (hr.mono (by decide)) ?_
  refine da_cons ?_
  refine de_pow ?_
  refine de_int ?_
  refine de_int ?_
  refine ⟨_, _, rfl, rfl, (by walk_at "cpw"), ?_⟩
  refine da_nil ?_
  refine ⟨_, rfl, (by first | exact hk | exact ⟨by decide +kernel, by decide +kernel⟩), ?_⟩
  refine da_nil ?_
  refine ⟨by walk_at "len", ?_⟩
  refine de_lst ?_
  refine da_cons ?_
  refine de_tup ?_
  refine da_cons ?_
  refine de_int ?_
  refine da_cons ?_
  refine de_int ?_
  refine da_cons ?_
  refine de_int ?_
  refine da_nil ?_
  refine ⟨by walk_at "len", ?_⟩
  refine da_cons ?_
  refine de_tup ?_
  refine da_cons ?_
  refine de_int ?_
  refine da_cons ?_
  refine de_int ?_
  refine da_cons ?_
  refine de_int ?_
  refine da_nil ?_
  refine ⟨by walk_at "len", ?_⟩
  refine da_cons ?_
  refine de_tup ?_
  refine da_cons ?_
  refine de_add ?_
  refine de_mul ?_
  refine de_int ?_
  refine de_pow ?_
  refine de_int ?_
  refine de_int ?_
  refine ⟨_, _, rfl, rfl, (by walk_at "cpw"), ?_⟩
  first | refine mul_i ?_ (by walk_at "cmw") | refine mul_l ?_ ⟨by decide, by decide, by first | decide | exact Nat.le_of_ble_eq_true rfl | walk_at "mlen"⟩
  refine de_int ?_
  first | refine add_int ?_ | refine add_lst ?_ (by walk_at "len") | refine add_tup ?_ (by walk_at "len3") | refine add_scr ?_ (by walk_at "len") | refine (show addP (.str _) (.str _) _ _ from ⟨by decide +kernel, ?_⟩)
  refine da_cons ?_
  refine de_pow ?_
  refine de_int ?_
  refine de_int ?_
  refine ⟨_, _, rfl, rfl, (by walk_at "cpw"), ?_⟩
  refine da_cons ?_
  refine de_int ?_
  refine da_nil ?_
  refine ⟨by walk_at "len", ?_⟩
  refine da_nil ?_
  refine ⟨by walk_at "len", ?_⟩
  first | refine eqP_same rfl rfl ?_ | refine eqP_same rfl (by decide +kernel) ?_ | walk_at "eq"
  exact qq
end
theorem all_mk {l : PySem.W.OpenLaw} {w : World} {K : PySem.W.Frag} {h : Heap} {mg : Str → Option Value} {fa f0 f1 f2 f3 f4 f5 f6 f7 f8 f9 f10 f11 f12 f13 f14 f15 f16 f17 f18 f19 f20 f21 f22 f23 : Addr} (X : K.In h) (G : h.Ns mainGlobals mg) (hfa : mg "law" = some (.ref fa))
    {od0 an0 od1 an1 od2 an2 od3 an3 od4 an4 od5 an5 od6 an6 od7 an7 od8 an8 od9 an9 od10 an10 od11 an11 od12 an12 od13 an13 od14 an14 od15 an15 od16 an16 od17 an17 od18 an18 od19 an19 od20 an20 od21 an21 od22 an22 od23 an23 : Option Addr} {sl0 sl1 sl2 sl3 sl4 sl5 sl6 sl7 sl8 sl9 sl10 sl11 sl12 sl13 sl14 sl15 sl16 sl17 sl18 sl19 sl20 sl21 sl22 sl23 : Array (Option Value)} {oc0 kV0 dc0 pm0 cd0 ct0 oc1 kV1 dc1 pm1 cd1 ct1 oc2 kV2 dc2 pm2 cd2 ct2 oc3 kV3 dc3 pm3 cd3 ct3 oc4 kV4 dc4 pm4 cd4 ct4 oc5 kV5 dc5 pm5 cd5 ct5 oc6 kV6 dc6 pm6 cd6 ct6 oc7 kV7 dc7 pm7 cd7 ct7 oc8 kV8 dc8 pm8 cd8 ct8 oc9 kV9 dc9 pm9 cd9 ct9 oc10 kV10 dc10 pm10 cd10 ct10 oc11 kV11 dc11 pm11 cd11 ct11 oc12 kV12 dc12 pm12 cd12 ct12 oc13 kV13 dc13 pm13 cd13 ct13 oc14 kV14 dc14 pm14 cd14 ct14 oc15 kV15 dc15 pm15 cd15 ct15 oc16 kV16 dc16 pm16 cd16 ct16 oc17 kV17 dc17 pm17 cd17 ct17 oc18 kV18 dc18 pm18 cd18 ct18 oc19 kV19 dc19 pm19 cd19 ct19 oc20 kV20 dc20 pm20 cd20 ct20 oc21 kV21 dc21 pm21 cd21 ct21 oc22 kV22 dc22 pm22 cd22 ct22 oc23 kV23 dc23 pm23 cd23 ct23 : Value}
    {C_InvalidNumber C_InvalidPixel : Addr}
    (a0 : PySem.W.nsIn K mainGlobals "is_whole" = some (some (.ref f0))) (l0 : K.lookup f0 = some ⟨oc0, od0, .func (PySem.W.fnOf "is_whole" "is_whole" (defArgs s_is_whole) (defBody s_is_whole) (defScope s_is_whole) .none kV0 dc0 pm0 an0 cd0 ct0), sl0⟩) (c0 : PySem.W.codeIn K cd0 "is_whole" = true) (k0 : PySem.W.keepIn K (.ref f0) = true)
    (a1 : PySem.W.nsIn K mainGlobals "is_whole_tuple" = some (some (.ref f1))) (l1 : K.lookup f1 = some ⟨oc1, od1, .func (PySem.W.fnOf "is_whole_tuple" "is_whole_tuple" (defArgs s_is_whole_tuple) (defBody s_is_whole_tuple) (defScope s_is_whole_tuple) .none kV1 dc1 pm1 an1 cd1 ct1), sl1⟩) (c1 : PySem.W.codeIn K cd1 "is_whole_tuple" = true) (k1 : PySem.W.keepIn K (.ref f1) = true)
    (a2 : PySem.W.nsIn K mainGlobals "is_pixel" = some (some (.ref f2))) (l2 : K.lookup f2 = some ⟨oc2, od2, .func (PySem.W.fnOf "is_pixel" "is_pixel" (defArgs s_is_pixel) (defBody s_is_pixel) (defScope s_is_pixel) .none kV2 dc2 pm2 an2 cd2 ct2), sl2⟩) (c2 : PySem.W.codeIn K cd2 "is_pixel" = true) (k2 : PySem.W.keepIn K (.ref f2) = true)
    (a3 : PySem.W.nsIn K mainGlobals "check_pixel" = some (some (.ref f3))) (l3 : K.lookup f3 = some ⟨oc3, od3, .func (PySem.W.fnOf "check_pixel" "check_pixel" (defArgs s_check_pixel) (defBody s_check_pixel) (defScope s_check_pixel) .none kV3 dc3 pm3 an3 cd3 ct3), sl3⟩) (c3 : PySem.W.codeIn K cd3 "check_pixel" = true) (k3 : PySem.W.keepIn K (.ref f3) = true)
    (a4 : PySem.W.nsIn K mainGlobals "_law_source" = some (some (.ref f4))) (l4 : K.lookup f4 = some ⟨oc4, od4, .func (PySem.W.fnOf "_law_source" "_law_source" (defArgs s__law_source) (defBody s__law_source) (defScope s__law_source) .none kV4 dc4 pm4 an4 cd4 ct4), sl4⟩) (c4 : PySem.W.codeIn K cd4 "_law_source" = true) (k4 : PySem.W.keepIn K (.ref f4) = true)
    (a5 : PySem.W.nsIn K mainGlobals "_law_draw" = some (some (.ref f5))) (l5 : K.lookup f5 = some ⟨oc5, od5, .func (PySem.W.fnOf "_law_draw" "_law_draw" (defArgs s__law_draw) (defBody s__law_draw) (defScope s__law_draw) .none kV5 dc5 pm5 an5 cd5 ct5), sl5⟩) (c5 : PySem.W.codeIn K cd5 "_law_draw" = true) (k5 : PySem.W.keepIn K (.ref f5) = true)
    (a6 : PySem.W.nsIn K mainGlobals "_law_dot" = some (some (.ref f6))) (l6 : K.lookup f6 = some ⟨oc6, od6, .func (PySem.W.fnOf "_law_dot" "_law_dot" (defArgs s__law_dot) (defBody s__law_dot) (defScope s__law_dot) .none kV6 dc6 pm6 an6 cd6 ct6), sl6⟩) (c6 : PySem.W.codeIn K cd6 "_law_dot" = true) (k6 : PySem.W.keepIn K (.ref f6) = true)
    (a7 : PySem.W.nsIn K mainGlobals "_is_six" = some (some (.ref f7))) (l7 : K.lookup f7 = some ⟨oc7, od7, .func (PySem.W.fnOf "_is_six" "_is_six" (defArgs s__is_six) (defBody s__is_six) (defScope s__is_six) .none kV7 dc7 pm7 an7 cd7 ct7), sl7⟩) (c7 : PySem.W.codeIn K cd7 "_is_six" = true) (k7 : PySem.W.keepIn K (.ref f7) = true)
    (a8 : PySem.W.nsIn K mainGlobals "_check_six" = some (some (.ref f8))) (l8 : K.lookup f8 = some ⟨oc8, od8, .func (PySem.W.fnOf "_check_six" "_check_six" (defArgs s__check_six) (defBody s__check_six) (defScope s__check_six) .none kV8 dc8 pm8 an8 cd8 ct8), sl8⟩) (c8 : PySem.W.codeIn K cd8 "_check_six" = true) (k8 : PySem.W.keepIn K (.ref f8) = true)
    (a9 : PySem.W.nsIn K mainGlobals "_size" = some (some (.ref f9))) (l9 : K.lookup f9 = some ⟨oc9, od9, .func (PySem.W.fnOf "_size" "_size" (defArgs s__size) (defBody s__size) (defScope s__size) .none kV9 dc9 pm9 an9 cd9 ct9), sl9⟩) (c9 : PySem.W.codeIn K cd9 "_size" = true) (k9 : PySem.W.keepIn K (.ref f9) = true)
    (a10 : PySem.W.nsIn K mainGlobals "_times" = some (some (.ref f10))) (l10 : K.lookup f10 = some ⟨oc10, od10, .func (PySem.W.fnOf "_times" "_times" (defArgs s__times) (defBody s__times) (defScope s__times) .none kV10 dc10 pm10 an10 cd10 ct10), sl10⟩) (c10 : PySem.W.codeIn K cd10 "_times" = true) (k10 : PySem.W.keepIn K (.ref f10) = true)
    (a11 : PySem.W.nsIn K mainGlobals "six_place" = some (some (.ref f11))) (l11 : K.lookup f11 = some ⟨oc11, od11, .func (PySem.W.fnOf "six_place" "six_place" (defArgs s_six_place) (defBody s_six_place) (defScope s_six_place) .none kV11 dc11 pm11 an11 cd11 ct11), sl11⟩) (c11 : PySem.W.codeIn K cd11 "six_place" = true) (k11 : PySem.W.keepIn K (.ref f11) = true)
    (a12 : PySem.W.nsIn K mainGlobals "six_image" = some (some (.ref f12))) (l12 : K.lookup f12 = some ⟨oc12, od12, .func (PySem.W.fnOf "six_image" "six_image" (defArgs s_six_image) (defBody s_six_image) (defScope s_six_image) .none kV12 dc12 pm12 an12 cd12 ct12), sl12⟩) (c12 : PySem.W.codeIn K cd12 "six_image" = true) (k12 : PySem.W.keepIn K (.ref f12) = true)
    (a13 : PySem.W.nsIn K mainGlobals "six_back" = some (some (.ref f13))) (l13 : K.lookup f13 = some ⟨oc13, od13, .func (PySem.W.fnOf "six_back" "six_back" (defArgs s_six_back) (defBody s_six_back) (defScope s_six_back) .none kV13 dc13 pm13 an13 cd13 ct13), sl13⟩) (c13 : PySem.W.codeIn K cd13 "six_back" = true) (k13 : PySem.W.keepIn K (.ref f13) = true)
    (a14 : PySem.W.nsIn K mainGlobals "_law_round" = some (some (.ref f14))) (l14 : K.lookup f14 = some ⟨oc14, od14, .func (PySem.W.fnOf "_law_round" "_law_round" (defArgs s__law_round) (defBody s__law_round) (defScope s__law_round) .none kV14 dc14 pm14 an14 cd14 ct14), sl14⟩) (c14 : PySem.W.codeIn K cd14 "_law_round" = true) (k14 : PySem.W.keepIn K (.ref f14) = true)
    (a15 : PySem.W.nsIn K mainGlobals "_strips" = some (some (.ref f15))) (l15 : K.lookup f15 = some ⟨oc15, od15, .func (PySem.W.fnOf "_strips" "_strips" (defArgs s__strips) (defBody s__strips) (defScope s__strips) .none kV15 dc15 pm15 an15 cd15 ct15), sl15⟩) (c15 : PySem.W.codeIn K cd15 "_strips" = true) (k15 : PySem.W.keepIn K (.ref f15) = true)
    (a16 : PySem.W.nsIn K mainGlobals "_tuples_within" = some (some (.ref f16))) (l16 : K.lookup f16 = some ⟨oc16, od16, .func (PySem.W.fnOf "_tuples_within" "_tuples_within" (defArgs s__tuples_within) (defBody s__tuples_within) (defScope s__tuples_within) .none kV16 dc16 pm16 an16 cd16 ct16), sl16⟩) (c16 : PySem.W.codeIn K cd16 "_tuples_within" = true) (k16 : PySem.W.keepIn K (.ref f16) = true)
    (a17 : PySem.W.nsIn K mainGlobals "_twice_number" = some (some (.ref f17))) (l17 : K.lookup f17 = some ⟨oc17, od17, .func (PySem.W.fnOf "_twice_number" "_twice_number" (defArgs s__twice_number) (defBody s__twice_number) (defScope s__twice_number) .none kV17 dc17 pm17 an17 cd17 ct17), sl17⟩) (c17 : PySem.W.codeIn K cd17 "_twice_number" = true) (k17 : PySem.W.keepIn K (.ref f17) = true)
    (a18 : PySem.W.nsIn K mainGlobals "six_keeps" = some (some (.ref f18))) (l18 : K.lookup f18 = some ⟨oc18, od18, .func (PySem.W.fnOf "six_keeps" "six_keeps" (defArgs s_six_keeps) (defBody s_six_keeps) (defScope s_six_keeps) .none kV18 dc18 pm18 an18 cd18 ct18), sl18⟩) (c18 : PySem.W.codeIn K cd18 "six_keeps" = true) (k18 : PySem.W.keepIn K (.ref f18) = true)
    (a19 : PySem.W.nsIn K mainGlobals "six_numbers" = some (some (.ref f19))) (l19 : K.lookup f19 = some ⟨oc19, od19, .func (PySem.W.fnOf "six_numbers" "six_numbers" (defArgs s_six_numbers) (defBody s_six_numbers) (defScope s_six_numbers) .none kV19 dc19 pm19 an19 cd19 ct19), sl19⟩) (c19 : PySem.W.codeIn K cd19 "six_numbers" = true) (k19 : PySem.W.keepIn K (.ref f19) = true)
    (a20 : PySem.W.nsIn K mainGlobals "six_ball" = some (some (.ref f20))) (l20 : K.lookup f20 = some ⟨oc20, od20, .func (PySem.W.fnOf "six_ball" "six_ball" (defArgs s_six_ball) (defBody s_six_ball) (defScope s_six_ball) .none kV20 dc20 pm20 an20 cd20 ct20), sl20⟩) (c20 : PySem.W.codeIn K cd20 "six_ball" = true) (k20 : PySem.W.keepIn K (.ref f20) = true)
    (a21 : PySem.W.nsIn K mainGlobals "_law_is_refused" = some (some (.ref f21))) (l21 : K.lookup f21 = some ⟨oc21, od21, .func (PySem.W.fnOf "_law_is_refused" "_law_is_refused" (defArgs s__law_is_refused) (defBody s__law_is_refused) (defScope s__law_is_refused) .none kV21 dc21 pm21 an21 cd21 ct21), sl21⟩) (c21 : PySem.W.codeIn K cd21 "_law_is_refused" = true) (k21 : PySem.W.keepIn K (.ref f21) = true)
    (a22 : PySem.W.nsIn K mainGlobals "_law_right" = some (some (.ref f22))) (l22 : K.lookup f22 = some ⟨oc22, od22, .func (PySem.W.fnOf "_law_right" "_law_right" (defArgs s__law_right) (defBody s__law_right) (defScope s__law_right) .none kV22 dc22 pm22 an22 cd22 ct22), sl22⟩) (c22 : PySem.W.codeIn K cd22 "_law_right" = true) (k22 : PySem.W.keepIn K (.ref f22) = true)
    (a23 : PySem.W.nsIn K mainGlobals "law" = some (some (.ref f23))) (l23 : K.lookup f23 = some ⟨oc23, od23, .func (PySem.W.fnOf "law" "law" (defArgs s_law) (defBody s_law) (defScope s_law) .none kV23 dc23 pm23 an23 cd23 ct23), sl23⟩) (c23 : PySem.W.codeIn K cd23 "law" = true) (k23 : PySem.W.keepIn K (.ref f23) = true)
    (z_ValueError : PySem.W.nsIn K mainGlobals "ValueError" = some none)
    (z_abs : PySem.W.nsIn K mainGlobals "abs" = some none)
    (z_all : PySem.W.nsIn K mainGlobals "all" = some none)
    (z_bool : PySem.W.nsIn K mainGlobals "bool" = some none)
    (z_enumerate : PySem.W.nsIn K mainGlobals "enumerate" = some none)
    (z_int : PySem.W.nsIn K mainGlobals "int" = some none)
    (z_isinstance : PySem.W.nsIn K mainGlobals "isinstance" = some none)
    (z_len : PySem.W.nsIn K mainGlobals "len" = some none)
    (z_max : PySem.W.nsIn K mainGlobals "max" = some none)
    (z_min : PySem.W.nsIn K mainGlobals "min" = some none)
    (z_range : PySem.W.nsIn K mainGlobals "range" = some none)
    (z_repr : PySem.W.nsIn K mainGlobals "repr" = some none)
    (z_tuple : PySem.W.nsIn K mainGlobals "tuple" = some none)
    (y_gcd : PySem.W.nsIn K mainGlobals "gcd" = some (some (.builtin "math.gcd")))
    (y_isqrt : PySem.W.nsIn K mainGlobals "isqrt" = some (some (.builtin "math.isqrt")))
    (x_GREATEST_BALL : ∃ u, mg "GREATEST_BALL" = some (.int (100000000000000) u))
    (x_GREATEST_PART : ∃ u, mg "GREATEST_PART" = some (.int (1000000000000000) u))
    (x_LONGEST_ROW : ∃ u, mg "LONGEST_ROW" = some (.int (2000) u))
    (x_SIXTHS : ∃ a, mg "SIXTHS" = some (.ref a) ∧ Rp K (fun _ => none) (.tup [.tup [.int (1), .int (0)], .tup [.int (1), .int (1)], .tup [.int (0), .int (1)], .tup [.int (-1), .int (0)], .tup [.int (-1), .int (-1)], .tup [.int (0), .int (-1)]]) (.ref a))
    (eA_InvalidNumber : PySem.W.nsIn K mainGlobals "InvalidNumber" = some (some (.ref C_InvalidNumber)))
    (eK_InvalidNumber : PySem.W.keepIn K (.ref C_InvalidNumber) = true)
    (eQ_InvalidNumber : PySem.W.excIn K C_InvalidNumber [.type "ValueError", .type "Exception", .type "BaseException", .type "object"] "ValueError.__new__" = true)
    (eX_InvalidNumber : PySem.W.subIn K (.ref C_InvalidNumber) (.type "BaseException") = some true)
    (eT_InvalidNumber : PySem.W.typeIn K (.ref C_InvalidNumber) = some (.type "type"))
    (eA_InvalidPixel : PySem.W.nsIn K mainGlobals "InvalidPixel" = some (some (.ref C_InvalidPixel)))
    (eK_InvalidPixel : PySem.W.keepIn K (.ref C_InvalidPixel) = true)
    (eQ_InvalidPixel : PySem.W.excIn K C_InvalidPixel [.type "ValueError", .type "Exception", .type "BaseException", .type "object"] "ValueError.__new__" = true)
    (eX_InvalidPixel : PySem.W.subIn K (.ref C_InvalidPixel) (.type "BaseException") = some true)
    (eT_InvalidPixel : PySem.W.typeIn K (.ref C_InvalidPixel) = some (.type "type"))
    (eC_InvalidNumber : PySem.W.isClsIn K C_InvalidNumber = true)
    (w_InvalidNumber__InvalidNumber : PySem.W.subIn K (.ref C_InvalidNumber) (.ref C_InvalidNumber) = some true)
    (xg_InvalidNumber : PySem.W.findIn K (.ref C_InvalidNumber) "__getattribute__" = some (some (.builtin "BaseException.__getattribute__")))
    (xk_InvalidNumber : PySem.W.findIn K (.ref C_InvalidNumber) "__getattr__" = some none)
    (xs_InvalidNumber : PySem.W.subIn K (.ref C_InvalidNumber) (.type "BaseException") = some true)
    (xd_InvalidNumber : PySem.W.hasDictIn K C_InvalidNumber = true)
    (xa_InvalidNumber : PySem.W.findIn K (.ref C_InvalidNumber) "__class__" = some (some (.builtin "object.__class__")))
    (xn_InvalidNumber : PySem.W.specialIn K (.builtin "object.__class__") "__get__" = some (some (.builtin "getset_descriptor.__get__")))
    (xt_InvalidNumber : PySem.W.takesIn K (.builtin "object.__class__") = some true)
    (xm_InvalidNumber : PySem.W.mroIn K C_InvalidNumber (.type "object") = some true)
    (k_InvalidNumber__t_ValueError : PySem.W.kitOne K (.ref C_InvalidNumber) (.type "ValueError") = some true)
    : ∃ fd : FuncData, (∀ (s : Shared) (v : Value), BindsTo s fd ⟨[v], []⟩ [("_law_script", v)]) ∧ ∀ base : Heap, K.In base → base.Ns mainGlobals mg → GOk l.prog w K mg base 8 fa fd ["_law_script"] (spD K (conLaw 63)) := by
  have e := hfa.symm.trans (PySem.W.mg_of X G a23)
  cases e
  have F0 := fun_mk (st := s_is_whole) l0 c0 k0
  have F1 := fun_mk (st := s_is_whole_tuple) l1 c1 k1
  have F2 := fun_mk (st := s_is_pixel) l2 c2 k2
  have F3 := fun_mk (st := s_check_pixel) l3 c3 k3
  have F4 := fun_mk (st := s__law_source) l4 c4 k4
  have F5 := fun_mk (st := s__law_draw) l5 c5 k5
  have F6 := fun_mk (st := s__law_dot) l6 c6 k6
  have F7 := fun_mk (st := s__is_six) l7 c7 k7
  have F8 := fun_mk (st := s__check_six) l8 c8 k8
  have F9 := fun_mk (st := s__size) l9 c9 k9
  have F10 := fun_mk (st := s__times) l10 c10 k10
  have F11 := fun_mk (st := s_six_place) l11 c11 k11
  have F12 := fun_mk (st := s_six_image) l12 c12 k12
  have F13 := fun_mk (st := s_six_back) l13 c13 k13
  have F14 := fun_mk (st := s__law_round) l14 c14 k14
  have F15 := fun_mk (st := s__strips) l15 c15 k15
  have F16 := fun_mk (st := s__tuples_within) l16 c16 k16
  have F17 := fun_mk (st := s__twice_number) l17 c17 k17
  have F18 := fun_mk (st := s_six_keeps) l18 c18 k18
  have F19 := fun_mk (st := s_six_numbers) l19 c19 k19
  have F20 := fun_mk (st := s_six_ball) l20 c20 k20
  have F21 := fun_mk (st := s__law_is_refused) l21 c21 k21
  have F22 := fun_mk (st := s__law_right) l22 c22 k22
  have F23 := fun_mk (st := s_law) l23 c23 k23
  have n_ValueError := PySem.W.mg_none_of X G z_ValueError
  have n_abs := PySem.W.mg_none_of X G z_abs
  have n_all := PySem.W.mg_none_of X G z_all
  have n_bool := PySem.W.mg_none_of X G z_bool
  have n_enumerate := PySem.W.mg_none_of X G z_enumerate
  have n_int := PySem.W.mg_none_of X G z_int
  have n_isinstance := PySem.W.mg_none_of X G z_isinstance
  have n_len := PySem.W.mg_none_of X G z_len
  have n_max := PySem.W.mg_none_of X G z_max
  have n_min := PySem.W.mg_none_of X G z_min
  have n_range := PySem.W.mg_none_of X G z_range
  have n_repr := PySem.W.mg_none_of X G z_repr
  have n_tuple := PySem.W.mg_none_of X G z_tuple
  have b_gcd := PySem.W.mg_of X G y_gcd
  have b_isqrt := PySem.W.mg_of X G y_isqrt
  have g_GREATEST_BALL := x_GREATEST_BALL
  have g_GREATEST_PART := x_GREATEST_PART
  have g_LONGEST_ROW := x_LONGEST_ROW
  have g_SIXTHS := x_SIXTHS
  have o_InvalidNumber : OwnErr K mg "InvalidNumber" C_InvalidNumber := ⟨PySem.W.mg_of X G eA_InvalidNumber, eK_InvalidNumber, eQ_InvalidNumber, eX_InvalidNumber, eT_InvalidNumber⟩
  have o_InvalidPixel : OwnErr K mg "InvalidPixel" C_InvalidPixel := ⟨PySem.W.mg_of X G eA_InvalidPixel, eK_InvalidPixel, eQ_InvalidPixel, eX_InvalidPixel, eT_InvalidPixel⟩
  have x_InvalidNumber : L2.ExcC K C_InvalidNumber := ⟨xg_InvalidNumber, xk_InvalidNumber, xs_InvalidNumber, xd_InvalidNumber, xa_InvalidNumber, xn_InvalidNumber, xt_InvalidNumber, xm_InvalidNumber⟩
  have m_InvalidNumber__InvalidNumber := exm_two eX_InvalidNumber eC_InvalidNumber eT_InvalidNumber w_InvalidNumber__InvalidNumber
  refine ⟨PySem.W.fnOf "law" "law" (defArgs s_law) (defBody s_law) (defScope s_law) .none kV23 dc23 pm23 an23 cd23 ct23, fun s v => .of_eq rfl, fun base _ _ => ?_⟩
  have c_is_whole := cal_of (kws := []) F0 (ok_is_whole (P := l.prog) (w := w) (base := base) F0 n_bool n_int n_isinstance) (PySem.W.mg_of X G a0) (bargs_of F0 fun _ _ _ _ _ _ us hl => match us, hl with | [_], _ => rfl) (fun _ h => nomatch h)
  have c_is_whole_tuple := cal_of (kws := []) F1 (ok_is_whole_tuple (P := l.prog) (w := w) (base := base) F1 c_is_whole n_all n_isinstance n_len n_tuple) (PySem.W.mg_of X G a1) (bargs_of F1 fun _ _ _ _ _ _ us hl => match us, hl with | [_, _], _ => rfl) (fun _ h => nomatch h)
  have c_is_pixel := cal_of (kws := []) F2 (ok_is_pixel (P := l.prog) (w := w) (base := base) F2 c_is_whole_tuple) (PySem.W.mg_of X G a2) (bargs_of F2 fun _ _ _ _ _ _ us hl => match us, hl with | [_], _ => rfl) (fun _ h => nomatch h)
  have c_check_pixel := cal_of (kws := []) F3 (ok_check_pixel (P := l.prog) (w := w) (base := base) F3 c_is_pixel) (PySem.W.mg_of X G a3) (bargs_of F3 fun _ _ _ _ _ _ us hl => match us, hl with | [_], _ => rfl) (fun _ h => nomatch h)
  have r_check_pixel := calx_of (kws := []) F3 (okx_check_pixel (P := l.prog) (w := w) (base := base) F3 c_is_pixel o_InvalidPixel) (PySem.W.mg_of X G a3) (bargs_of F3 fun _ _ _ _ _ _ us hl => match us, hl with | [_], _ => rfl) (fun _ h => nomatch h)
  have c__law_source := cal_of (kws := []) F4 (ok__law_source (P := l.prog) (w := w) (base := base) F4 n_abs n_int n_max) (PySem.W.mg_of X G a4) (bargs_of F4 fun _ _ _ _ _ _ us hl => match us, hl with | [_, _], _ => rfl) (fun _ h => nomatch h)
  have c__law_draw := cal_of (kws := []) F5 (ok__law_draw (P := l.prog) (w := w) (base := base) F5 n_int) (PySem.W.mg_of X G a5) (bargs_of F5 fun _ _ _ _ _ _ us hl => match us, hl with | [_, _], _ => rfl) (fun _ h => nomatch h)
  have c__law_dot := cal_of (kws := []) F6 (ok__law_dot (P := l.prog) (w := w) (base := base) F6 c__law_draw n_range n_tuple) (PySem.W.mg_of X G a6) (bargs_of F6 fun _ _ _ _ _ _ us hl => match us, hl with | [_, _], _ => rfl) (fun _ h => nomatch h)
  have c__is_six := cal_of (kws := []) F7 (ok__is_six (P := l.prog) (w := w) (base := base) F7 b_gcd c_is_whole_tuple g_GREATEST_PART n_abs n_max) (PySem.W.mg_of X G a7) (bargs_of F7 fun _ _ _ _ _ _ us hl => match us, hl with | [_], _ => rfl) (fun _ h => nomatch h)
  have c__check_six := cal_of (kws := []) F8 (ok__check_six (P := l.prog) (w := w) (base := base) F8 c__is_six) (PySem.W.mg_of X G a8) (bargs_of F8 fun _ _ _ _ _ _ us hl => match us, hl with | [_], _ => rfl) (fun _ h => nomatch h)
  have c__size := cal_of (kws := []) F9 (ok__size (P := l.prog) (w := w) (base := base) F9 ) (PySem.W.mg_of X G a9) (bargs_of F9 fun _ _ _ _ _ _ us hl => match us, hl with | [_, _], _ => rfl) (fun _ h => nomatch h)
  have c__times := cal_of (kws := []) F10 (ok__times (P := l.prog) (w := w) (base := base) F10 ) (PySem.W.mg_of X G a10) (bargs_of F10 fun _ _ _ _ _ _ us hl => match us, hl with | [_, _], _ => rfl) (fun _ h => nomatch h)
  have c_six_place := cal_of (kws := []) F11 (ok_six_place (P := l.prog) (w := w) (base := base) F11 c__check_six c__size c__times c_check_pixel g_SIXTHS) (PySem.W.mg_of X G a11) (bargs_of F11 fun _ _ _ _ _ _ us hl => match us, hl with | [_, _], _ => rfl) (fun _ h => nomatch h)
  have c_six_image := cal_of (kws := []) F12 (ok_six_image (P := l.prog) (w := w) (base := base) F12 c_six_place n_max n_min) (PySem.W.mg_of X G a12) (bargs_of F12 fun _ _ _ _ _ _ us hl => match us, hl with | [_, _], _ => rfl) (fun _ h => nomatch h)
  have c_six_back := cal_of (kws := []) F13 (ok_six_back (P := l.prog) (w := w) (base := base) F13 c__check_six) (PySem.W.mg_of X G a13) (bargs_of F13 fun _ _ _ _ _ _ us hl => match us, hl with | [_], _ => rfl) (fun _ h => nomatch h)
  have c__law_round := cal_of (kws := []) F14 (ok__law_round (P := l.prog) (w := w) (base := base) F14 ) (PySem.W.mg_of X G a14) (bargs_of F14 fun _ _ _ _ _ _ us hl => match us, hl with | [_], _ => rfl) (fun _ h => nomatch h)
  have c__strips := cal_of (kws := []) F15 (ok__strips (P := l.prog) (w := w) (base := base) F15 ) (PySem.W.mg_of X G a15) (bargs_of F15 fun _ _ _ _ _ _ us hl => match us, hl with | [_, _, _], _ => rfl) (fun _ h => nomatch h)
  have c__tuples_within := cal_of (kws := []) F16 (ok__tuples_within (P := l.prog) (w := w) (base := base) F16 b_isqrt n_max n_min n_range) (PySem.W.mg_of X G a16) (bargs_of F16 fun _ _ _ _ _ _ us hl => match us, hl with | [_, _], _ => rfl) (fun _ h => nomatch h)
  have c__twice_number := cal_of (kws := []) F17 (ok__twice_number (P := l.prog) (w := w) (base := base) F17 c__check_six c__size c__strips c__tuples_within g_LONGEST_ROW) (PySem.W.mg_of X G a17) (bargs_of F17 fun _ _ _ _ _ _ us hl => match us, hl with | [_], _ => rfl) (fun _ h => nomatch h)
  have c_six_keeps := cal_of (kws := []) F18 (ok_six_keeps (P := l.prog) (w := w) (base := base) F18 c__twice_number) (PySem.W.mg_of X G a18) (bargs_of F18 fun _ _ _ _ _ _ us hl => match us, hl with | [_], _ => rfl) (fun _ h => nomatch h)
  have c_six_numbers := cal_of (kws := []) F19 (ok_six_numbers (P := l.prog) (w := w) (base := base) F19 c__size c__strips c__tuples_within c__twice_number) (PySem.W.mg_of X G a19) (bargs_of F19 fun _ _ _ _ _ _ us hl => match us, hl with | [_], _ => rfl) (fun _ h => nomatch h)
  have c_six_ball := cal_of (kws := [(0, ["number"])]) F20 (ok_six_ball (P := l.prog) (w := w) (base := base) F20 c_is_whole g_GREATEST_BALL) (PySem.W.mg_of X G a20) (bargs_of F20 fun _ _ _ _ _ _ us hl => match us, hl with | [_], _ => rfl) (kws_cons (kw_of F20 rfl (by decide) fun _ _ _ _ _ _ us ws h1 h2 => match us, ws, h1, h2 with | [], [_], _, _ => rfl) (fun _ h => nomatch h))
  have r_six_ball := calx_of (kws := [(0, ["number"])]) F20 (okx_six_ball (P := l.prog) (w := w) (base := base) F20 c_is_whole g_GREATEST_BALL o_InvalidNumber) (PySem.W.mg_of X G a20) (bargs_of F20 fun _ _ _ _ _ _ us hl => match us, hl with | [_], _ => rfl) (kws_cons (kw_of F20 rfl (by decide) fun _ _ _ _ _ _ us ws h1 h2 => match us, ws, h1, h2 with | [], [_], _, _ => rfl) (fun _ h => nomatch h))
  have c__law_is_refused := cal_of (kws := []) F21 (ok__law_is_refused (P := l.prog) (w := w) (base := base) F21 k_InvalidNumber__t_ValueError m_InvalidNumber__InvalidNumber n_ValueError n_isinstance o_InvalidNumber r_six_ball x_InvalidNumber) (PySem.W.mg_of X G a21) (bargs_of F21 fun _ _ _ _ _ _ us hl => match us, hl with | [_], _ => rfl) (fun _ h => nomatch h)
  have c__law_right := cal_of (kws := []) F22 (ok__law_right (P := l.prog) (w := w) (base := base) F22 c__law_round c_six_back c_six_ball c_six_image c_six_keeps c_six_numbers n_repr) (PySem.W.mg_of X G a22) (bargs_of F22 fun _ _ _ _ _ _ us hl => match us, hl with | [_, _, _], _ => rfl) (fun _ h => nomatch h)
  exact ok_law (P := l.prog) (w := w) (base := base) F23 c__law_dot c__law_draw c__law_is_refused c__law_right c__law_source c_six_ball n_enumerate n_int n_len n_max n_min n_range
end Tp
set_option maxRecDepth 100000 in
set_option maxHeartbeats 0 in
theorem PySem.Challenge.cw_turnedpixels_k54_six_cornered_balls_holds : PySem.Challenge.rw_turnedpixels_k54_six_cornered_balls.Holds := by
  w_on; o_law; k_head; (case hw => w_witness2)
  k_fill
  refine DL.law_end (l := PySem.Challenge.rw_turnedpixels_k54_six_cornered_balls) (n := 63) (k := 8) (x := "_law_script") rfl (by decide) rfl ⟨rfl, by decide, by decide⟩ (fun w h Y => PySem.W.kIn_of Y) ?F
  case F =>
    intro w mg fa h KX G hmg
    refine' Tp.all_mk KX G hmg ?a0 ?l0 ?c0 ?k0 ?a1 ?l1 ?c1 ?k1 ?a2 ?l2 ?c2 ?k2 ?a3 ?l3 ?c3 ?k3 ?a4 ?l4 ?c4 ?k4 ?a5 ?l5 ?c5 ?k5 ?a6 ?l6 ?c6 ?k6 ?a7 ?l7 ?c7 ?k7 ?a8 ?l8 ?c8 ?k8 ?a9 ?l9 ?c9 ?k9 ?a10 ?l10 ?c10 ?k10 ?a11 ?l11 ?c11 ?k11 ?a12 ?l12 ?c12 ?k12 ?a13 ?l13 ?c13 ?k13 ?a14 ?l14 ?c14 ?k14 ?a15 ?l15 ?c15 ?k15 ?a16 ?l16 ?c16 ?k16 ?a17 ?l17 ?c17 ?k17 ?a18 ?l18 ?c18 ?k18 ?a19 ?l19 ?c19 ?k19 ?a20 ?l20 ?c20 ?k20 ?a21 ?l21 ?c21 ?k21 ?a22 ?l22 ?c22 ?k22 ?a23 ?l23 ?c23 ?k23 ?z_ValueError ?z_abs ?z_all ?z_bool ?z_enumerate ?z_int ?z_isinstance ?z_len ?z_max ?z_min ?z_range ?z_repr ?z_tuple ?y_gcd ?y_isqrt ?x_GREATEST_BALL ?x_GREATEST_PART ?x_LONGEST_ROW ?x_SIXTHS ?eA_InvalidNumber ?eK_InvalidNumber ?eQ_InvalidNumber ?eX_InvalidNumber ?eT_InvalidNumber ?eA_InvalidPixel ?eK_InvalidPixel ?eQ_InvalidPixel ?eX_InvalidPixel ?eT_InvalidPixel ?eC_InvalidNumber ?w_InvalidNumber__InvalidNumber ?xg_InvalidNumber ?xk_InvalidNumber ?xs_InvalidNumber ?xd_InvalidNumber ?xa_InvalidNumber ?xn_InvalidNumber ?xt_InvalidNumber ?xm_InvalidNumber ?k_InvalidNumber__t_ValueError
    (case a0 => k_is)
    (case l0 => k_is)
    (case c0 => k_is)
    (case k0 => k_is)
    (case a1 => k_is)
    (case l1 => k_is)
    (case c1 => k_is)
    (case k1 => k_is)
    (case a2 => k_is)
    (case l2 => k_is)
    (case c2 => k_is)
    (case k2 => k_is)
    (case a3 => k_is)
    (case l3 => k_is)
    (case c3 => k_is)
    (case k3 => k_is)
    (case a4 => k_is)
    (case l4 => k_is)
    (case c4 => k_is)
    (case k4 => k_is)
    (case a5 => k_is)
    (case l5 => k_is)
    (case c5 => k_is)
    (case k5 => k_is)
    (case a6 => k_is)
    (case l6 => k_is)
    (case c6 => k_is)
    (case k6 => k_is)
    (case a7 => k_is)
    (case l7 => k_is)
    (case c7 => k_is)
    (case k7 => k_is)
    (case a8 => k_is)
    (case l8 => k_is)
    (case c8 => k_is)
    (case k8 => k_is)
    (case a9 => k_is)
    (case l9 => k_is)
    (case c9 => k_is)
    (case k9 => k_is)
    (case a10 => k_is)
    (case l10 => k_is)
    (case c10 => k_is)
    (case k10 => k_is)
    (case a11 => k_is)
    (case l11 => k_is)
    (case c11 => k_is)
    (case k11 => k_is)
    (case a12 => k_is)
    (case l12 => k_is)
    (case c12 => k_is)
    (case k12 => k_is)
    (case a13 => k_is)
    (case l13 => k_is)
    (case c13 => k_is)
    (case k13 => k_is)
    (case a14 => k_is)
    (case l14 => k_is)
    (case c14 => k_is)
    (case k14 => k_is)
    (case a15 => k_is)
    (case l15 => k_is)
    (case c15 => k_is)
    (case k15 => k_is)
    (case a16 => k_is)
    (case l16 => k_is)
    (case c16 => k_is)
    (case k16 => k_is)
    (case a17 => k_is)
    (case l17 => k_is)
    (case c17 => k_is)
    (case k17 => k_is)
    (case a18 => k_is)
    (case l18 => k_is)
    (case c18 => k_is)
    (case k18 => k_is)
    (case a19 => k_is)
    (case l19 => k_is)
    (case c19 => k_is)
    (case k19 => k_is)
    (case a20 => k_is)
    (case l20 => k_is)
    (case c20 => k_is)
    (case k20 => k_is)
    (case a21 => k_is)
    (case l21 => k_is)
    (case c21 => k_is)
    (case k21 => k_is)
    (case a22 => k_is)
    (case l22 => k_is)
    (case c22 => k_is)
    (case k22 => k_is)
    (case a23 => k_is)
    (case l23 => k_is)
    (case c23 => k_is)
    (case k23 => k_is)
    (case z_ValueError => k_is)
    (case z_abs => k_is)
    (case z_all => k_is)
    (case z_bool => k_is)
    (case z_enumerate => k_is)
    (case z_int => k_is)
    (case z_isinstance => k_is)
    (case z_len => k_is)
    (case z_max => k_is)
    (case z_min => k_is)
    (case z_range => k_is)
    (case z_repr => k_is)
    (case z_tuple => k_is)
    (case y_gcd => k_is)
    (case y_isqrt => k_is)
    (case x_GREATEST_BALL => exact ⟨_, PySem.W.mg_of KX G (by k_is)⟩)
    (case x_GREATEST_PART => exact ⟨_, PySem.W.mg_of KX G (by k_is)⟩)
    (case x_LONGEST_ROW => exact ⟨_, PySem.W.mg_of KX G (by k_is)⟩)
    (case x_SIXTHS => exact ⟨_, PySem.W.mg_of KX G (by k_is), DL.rp_tupsK (as := [_, _, _, _, _, _]) (by k_is) (by decide) (DL.rpl_cons (DL.rp_pairK (by k_is)) (DL.rpl_cons (DL.rp_pairK (by k_is)) (DL.rpl_cons (DL.rp_pairK (by k_is)) (DL.rpl_cons (DL.rp_pairK (by k_is)) (DL.rpl_cons (DL.rp_pairK (by k_is)) (DL.rpl_cons (DL.rp_pairK (by k_is)) DL.rpl_nil))))))⟩)
    (case eA_InvalidNumber => k_is)
    (case eK_InvalidNumber => k_is)
    (case eQ_InvalidNumber => k_exc)
    (case eX_InvalidNumber => k_is)
    (case eT_InvalidNumber => k_is)
    (case eA_InvalidPixel => k_is)
    (case eK_InvalidPixel => k_is)
    (case eQ_InvalidPixel => k_exc)
    (case eX_InvalidPixel => k_is)
    (case eT_InvalidPixel => k_is)
    (case eC_InvalidNumber => k_is)
    (case w_InvalidNumber__InvalidNumber => first | rfl | k_is)
    (case xg_InvalidNumber => k_is)
    (case xk_InvalidNumber => k_is)
    (case xs_InvalidNumber => k_is)
    (case xd_InvalidNumber => k_is)
    (case xa_InvalidNumber => k_is)
    (case xn_InvalidNumber => k_is)
    (case xt_InvalidNumber => k_is)
    (case xm_InvalidNumber => k_is)
    (case k_InvalidNumber__t_ValueError => first | kit_is | rfl | k_is)
#print axioms PySem.Challenge.cw_turnedpixels_k54_six_cornered_balls_holds
