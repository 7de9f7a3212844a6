import PyProof.Rows.All
import Wide.All
import OpenK.AllK
import Wide.FinOn
import HandS.ForMost
import HandS.Wide
import HandS.Gcd
import HandS.IsInst
import HandS.RaiseMore
import HandS.ForExc
import KE.DatumOrd
import HandS.Deep
import HandS.Style
import HandS.Sort
import KE.SortData
import HandS.FStr
import HandS.ExcField
import KE.KExcSuper
import KE.KExcMake
import HandS.TryMany
import HandS.ExcOwn
import KE.DataFind
import KE.KTupSum
import HandS.Zip
import PyProof.MaxThree
import PyProof.LongRange
import KE.DataCmp
import HandS.TupLe
import KE.KExcStr
import PyProof.ExcReprCall
import PyProof.ReprUnder
import PyProof.ReprLen
import HandS.ExcValue
import HandS.ExcIs
import HandS.Dict
import HandS.HotCalls
import KE.KExcIs
import KE.KIntText
import PyProof.StrOps2
import PyProof.CallStr
import HandS.WideBits
import HandS.TupSets
import PySem.Challenge.RW_turnedpixels_k78_whole_shears_as_chains
set_option Elab.async false
set_option linter.all false
set_option exponentiation.threshold 3000
set_option maxRecDepth 100000
set_option maxHeartbeats 4000000
/-! Data in place of the heap: what a value is as data, kept while the heap grows; lists that are changed stand apart. -/
namespace DL
open PySem PySem.Spec PyProof.Rows L2

/-! ### the readings that the semantics itself gives -/
def wE (X : Cx) (e : Expr) : TE := fun σ H Q => ∀ pins s, Inv X pins σ H s → wpAny (model X.prog X.w) X.A (eval e X.env) (EP X pins σ Q) X.xe s
def wT (X : Cx) (e : Expr) : TT := fun σ H Q => ∀ pins s, Inv X pins σ H s → wpAny (model X.prog X.w) X.A (isTrue e X.env (eval e X.env)) (TP X pins σ Q) X.xe s
def wW (X : Cx) (e : Expr) : TT := fun σ H Q => ∀ whole pins s, Inv X pins σ H s → wpAny (model X.prog X.w) X.A (isTrue e X.env whole) (TP X pins σ Q) X.xe s
def wA (X : Cx) (es : List Expr) : TA := fun σ H Q => ∀ pos pins s, Inv X pins σ H s → wpAny (model X.prog X.w) X.A (spliced (backTo pos (starEach es X.env))) (AP X pins σ Q) X.xe s
def wS (X : Cx) (st : Stmt) : TS := fun D σ H => ∀ pins s, Inv X pins σ H s → wpAny (model X.prog X.w) X.A (exec st X.env) (SP X pins D) X.xe s
def wSs (X : Cx) (st : List Stmt) : TS := fun D σ H => ∀ pins s, Inv X pins σ H s → wpAny (model X.prog X.w) X.A (execs st X.env) (SP X pins D) X.xe s
def wG (X : Cx) (tg : Expr) : TG := fun v σ H Q => ∀ pins s u, Inv X pins σ H s → RelV v u →
  wpAny (model X.prog X.w) X.A (assign tg X.env u) (fun _ s' => ∃ σ' H', Inv X pins σ' H' s' ∧ Q σ' H') X.xe s
section
variable {X : Cx} {e : Expr} {es : List Expr} {st : Stmt} {sts : List Stmt} {σ : L2.St} {H : Hp}
theorem peW : PE X e (wE X e) := ⟨fun pins s _ _ _ I h => h pins s I⟩
theorem ptW : PT X e (wT X e) := ⟨fun pins s _ _ _ I h => h pins s I⟩
theorem pwW : PW X e (wW X e) := ⟨fun wh pins s _ _ _ I h => h wh pins s I⟩
theorem paW : PA X es (wA X es) := ⟨fun pos pins s _ _ _ I h => h pos pins s I⟩
theorem psW : PS X st (wS X st) := ⟨fun pins s _ _ _ I h => h pins s I⟩
theorem pssW : PSs X sts (wSs X sts) := ⟨fun pins s _ _ _ I h => h pins s I⟩
theorem pgW {tg : Expr} : PG X tg (wG X tg) := ⟨fun pins s _ _ _ u _ I r h => h pins s u I r⟩
theorem wE_of {t : TE} {Q : VK} (h : PE X e t) (q : t σ H Q) : wE X e σ H Q := fun pins s I => h.run pins s σ H Q I q
theorem wT_of {t : TT} {Q : Bool → Hp → Prop} (h : PT X e t) (q : t σ H Q) : wT X e σ H Q := fun pins s I => h.run pins s σ H Q I q
theorem wW_of {t : TT} {Q : Bool → Hp → Prop} (h : PW X e t) (q : t σ H Q) : wW X e σ H Q := fun wh pins s I => h.run wh pins s σ H Q I q
theorem wA_of {t : TA} {Q : List V → Hp → Prop} (h : PA X es t) (q : t σ H Q) : wA X es σ H Q := fun pos pins s I => h.run pos pins s σ H Q I q
theorem wS_of {t : TS} {De : Ends} (h : PS X st t) (q : t De σ H) : wS X st De σ H := fun pins s I => h.run pins s σ H De I q
theorem wSs_of {t : TS} {De : Ends} (h : PSs X sts t) (q : t De σ H) : wSs X sts De σ H := fun pins s I => h.run pins s σ H De I q
theorem wG_of {tg : Expr} {t : TG} {v : V} {Q : L2.St → Hp → Prop} (h : PG X tg t) (q : t v σ H Q) : wG X tg v σ H Q := fun pins s u I r => h.run pins s σ H v u Q I r q
theorem wE_mono {Q Q' : VK} (h : wE X e σ H Q) (k : ∀ v H', Q v H' → Q' v H') : wE X e σ H Q' := fun pins s I =>
  thn (h pins s I) fun _ _ ⟨v, H', I', r, q⟩ => ⟨v, H', I', r, k v H' q⟩
theorem wT_mono {Q Q' : Bool → Hp → Prop} (h : wT X e σ H Q) (k : ∀ b H', Q b H' → Q' b H') : wT X e σ H Q' := fun pins s I =>
  thn (h pins s I) fun b _ ⟨H', I', q⟩ => ⟨H', I', k b H' q⟩
theorem wW_mono {Q Q' : Bool → Hp → Prop} (h : wW X e σ H Q) (k : ∀ b H', Q b H' → Q' b H') : wW X e σ H Q' := fun wh pins s I =>
  thn (h wh pins s I) fun b _ ⟨H', I', q⟩ => ⟨H', I', k b H' q⟩
theorem wA_mono {Q Q' : List V → Hp → Prop} (h : wA X es σ H Q) (k : ∀ v H', Q v H' → Q' v H') : wA X es σ H Q' := fun pos pins s I =>
  thn (h pos pins s I) fun _ _ ⟨v, H', I', r, q⟩ => ⟨v, H', I', r, k v H' q⟩
theorem wG_mono {tg : Expr} {v : V} {Q Q' : L2.St → Hp → Prop} (h : wG X tg v σ H Q) (k : ∀ σ' H', Q σ' H' → Q' σ' H') : wG X tg v σ H Q' := fun pins s u I r =>
  thn (h pins s u I r) fun _ _ ⟨σ', H', I', q⟩ => ⟨σ', H', I', k σ' H' q⟩
end

/-! ### data -/
inductive D where
  | non
  | bl (b : Bool)
  | int (i : Int)
  | str (x : Str)
  | tup (l : List D)
  | lst (l : List D)
  | raw (v : V)
  | ext (P : Hp → V → Prop)
  | scr (ns : List Int)

mutual
def Rp (K : PySem.W.Frag) (H : Hp) : D → V → Prop
  | .non, v => v = .non
  | .bl b, v => v = .bl b
  | .int i, v => v = .int i
  | .str x, v => v = .str x
  | .tup l, v => ∃ (a : Addr) (xs : List V), v = .ref a ∧ SqT K H a xs ∧ RpL K H l xs
  | .lst l, v => ∃ (a : Addr) (xs : List V), v = .ref a ∧ H a = some (.lst xs) ∧ RpL K H l xs
  | .raw u, v => v = u
  | .ext P, v => ∃ H0 : Hp, Same H0 H ∧ P H0 v
  | .scr ns, v => ∃ a : Addr, v = .ref a ∧ SqL K H a (ns.map V.int)
def RpL (K : PySem.W.Frag) (H : Hp) : List D → List V → Prop
  | [], vs => vs = []
  | d :: ds, vs => ∃ (x : V) (xs : List V), vs = x :: xs ∧ Rp K H d x ∧ RpL K H ds xs
end
theorem same_l {K : PySem.W.Frag} {H H' : Hp} (e : Same H H') {a : Addr} {xs : List V} (h : SqL K H a xs) : SqL K H' a xs := e.seq h
theorem same_t {K : PySem.W.Frag} {H H' : Hp} (e : Same H H') {a : Addr} {xs : List V} (h : SqT K H a xs) : SqT K H' a xs := by
  rcases h with (h | ⟨o, h⟩) | h
  · exact .inl (.inl (e _ _ h))
  · exact .inl (.inr ⟨o, e _ _ h⟩)
  · exact .inr h
mutual
theorem Rp.mono {K : PySem.W.Frag} {H H' : Hp} (e : Same H H') : ∀ (d : D) (v : V), Rp K H d v → Rp K H' d v
  | .non, _, h => h
  | .bl _, _, h => h
  | .int _, _, h => h
  | .str _, _, h => h
  | .tup l, _, h => let ⟨a, xs, e1, e2, e3⟩ := h; ⟨a, xs, e1, same_t e e2, RpL.mono e l xs e3⟩
  | .lst l, _, h => let ⟨a, xs, e1, e2, e3⟩ := h; ⟨a, xs, e1, e _ _ e2, RpL.mono e l xs e3⟩
  | .raw _, _, h => h
  | .ext _, _, h => let ⟨H0, e0, p⟩ := h; ⟨H0, e0.trans e, p⟩
  | .scr _, _, h => let ⟨a, e1, e2⟩ := h; ⟨a, e1, same_l e e2⟩
theorem RpL.mono {K : PySem.W.Frag} {H H' : Hp} (e : Same H H') : ∀ (l : List D) (vs : List V), RpL K H l vs → RpL K H' l vs
  | [], _, h => h
  | d :: ds, _, h => let ⟨x, xs, e1, e2, e3⟩ := h; ⟨x, xs, e1, Rp.mono e d x e2, RpL.mono e ds xs e3⟩
end
theorem RpL.length {K : PySem.W.Frag} {H : Hp} : ∀ {l : List D} {vs : List V}, RpL K H l vs → vs.length = l.length
  | [], _, h => by
    have h : _ = [] := h
    rw [h] <;> rfl
  | d :: ds, _, h => by
    obtain ⟨x, xs, rfl, _, h3⟩ := h
    rw [List.length_cons, List.length_cons, RpL.length h3]
theorem RpL.get {K : PySem.W.Frag} {H : Hp} : ∀ {l : List D} {vs : List V} {i : Nat} {d : D}, RpL K H l vs → l[i]? = some d → ∃ v, vs[i]? = some v ∧ Rp K H d v
  | [], _, _, _, _, e => by simp at e
  | d :: ds, _, 0, d', h, e => by
    obtain ⟨x, xs, rfl, h2, h3⟩ := h
    have e : d = d' := by simpa using e
    subst e
    exact ⟨x, rfl, h2⟩
  | d :: ds, _, i + 1, d', h, e => by
    obtain ⟨x, xs, rfl, h2, h3⟩ := h
    obtain ⟨v, e1, e2⟩ := RpL.get (i := i) h3 (by simpa using e)
    exact ⟨v, by simpa using e1, e2⟩
theorem RpL.back {K : PySem.W.Frag} {H : Hp} {l : List D} {vs : List V} {i : Nat} {v : V} (h : RpL K H l vs) (e : vs[i]? = some v) : ∃ d, l[i]? = some d ∧ Rp K H d v := by
  have hl := h.length
  have hi : i < vs.length := (List.getElem?_eq_some_iff.mp e).1
  obtain ⟨d, hd⟩ : ∃ d, l[i]? = some d := ⟨l[i]'(by omega), List.getElem?_eq_getElem (by omega)⟩
  obtain ⟨w, e1, r⟩ := h.get hd
  rw [e] at e1
  cases e1
  exact ⟨d, hd, r⟩
theorem RpL.append {K : PySem.W.Frag} {H : Hp} : ∀ {l m : List D} {vs ws : List V}, RpL K H l vs → RpL K H m ws → RpL K H (l ++ m) (vs ++ ws)
  | [], _, _, _, h, k => by
    have h : _ = [] := h
    subst h
    exact k
  | d :: ds, _, _, _, h, k => by
    obtain ⟨x, xs, rfl, h2, h3⟩ := h
    exact ⟨x, xs ++ _, rfl, h2, RpL.append h3 k⟩
theorem RpL.take {K : PySem.W.Frag} {H : Hp} : ∀ {l : List D} {vs : List V} (n : Nat), RpL K H l vs → RpL K H (l.take n) (vs.take n)
  | _, _, 0, _ => by rw [List.take_zero, List.take_zero]; rfl
  | [], _, n + 1, h => by
    have h : _ = [] := h
    subst h
    rfl
  | d :: ds, _, n + 1, h => by
    obtain ⟨x, xs, rfl, h2, h3⟩ := h
    exact ⟨x, xs.take n, rfl, h2, RpL.take n h3⟩
theorem RpL.drop {K : PySem.W.Frag} {H : Hp} : ∀ {l : List D} {vs : List V} (n : Nat), RpL K H l vs → RpL K H (l.drop n) (vs.drop n)
  | _, _, 0, h => h
  | [], _, n + 1, h => by
    have h : _ = [] := h
    subst h
    rfl
  | d :: ds, _, n + 1, h => by
    obtain ⟨x, xs, rfl, h2, h3⟩ := h
    exact RpL.drop n h3
theorem RpL.set {K : PySem.W.Frag} {H : Hp} {d : D} {v : V} (r : Rp K H d v) : ∀ {l : List D} {vs : List V} (i : Nat), RpL K H l vs → RpL K H (l.set i d) (vs.set i v)
  | [], _, _, h => by
    have h : _ = [] := h
    subst h
    exact h
  | d :: ds, _, 0, h => by
    obtain ⟨x, xs, rfl, h2, h3⟩ := h
    exact ⟨v, xs, rfl, r, h3⟩
  | d :: ds, _, i + 1, h => by
    obtain ⟨x, xs, rfl, h2, h3⟩ := h
    exact ⟨x, xs.set i v, rfl, h2, RpL.set r i h3⟩
theorem RpL.ints {K : PySem.W.Frag} {H : Hp} : ∀ (ns : List Int), RpL K H (ns.map D.int) (ns.map V.int)
  | [] => rfl
  | n :: ns => ⟨.int n, ns.map V.int, rfl, rfl, RpL.ints ns⟩

/-! ### lists that are changed; the slots -/
abbrev Sto := List (Addr × List D)
def getS (p : Addr) : Sto → Option (List D)
  | [] => none
  | (q, l) :: S => if q = p then some l else getS p S
def setS (p : Addr) (n : List D) : Sto → Sto
  | [] => []
  | (q, l) :: S => if q = p then (q, n) :: S else (q, l) :: setS p n S
def Own (K : PySem.W.Frag) (Hd H : Hp) : Sto → Prop
  | [] => True
  | (p, l) :: S => Hd p = none ∧ getS p S = none ∧ (∃ xs, H p = some (.lst xs) ∧ RpL K Hd l xs) ∧ Own K Hd H S
structure St0 (K : PySem.W.Frag) (S : Sto) (Hd H : Hp) : Prop where
  sub : Same Hd H
  own : Own K Hd H S
theorem getS_hd {p : Addr} {l : List D} {S : Sto} : getS p ((p, l) :: S) = some l := by
  show (if p = p then some l else getS p S) = some l
  rw [if_pos rfl]
theorem setS_hd {p : Addr} {l n : List D} {S : Sto} : setS p n ((p, l) :: S) = (p, n) :: S := by
  show (if p = p then (p, n) :: S else (p, l) :: setS p n S) = _
  rw [if_pos rfl]
theorem getS_tl {p q : Addr} {l : List D} {S : Sto} (h : q ≠ p) : getS p ((q, l) :: S) = getS p S := by
  show (if q = p then some l else getS p S) = _
  rw [if_neg h]
theorem setS_tl {p q : Addr} {l n : List D} {S : Sto} (h : q ≠ p) : setS p n ((q, l) :: S) = (q, l) :: setS p n S := by
  show (if q = p then (q, n) :: S else (q, l) :: setS p n S) = _
  rw [if_neg h]
theorem getS_setS {p : Addr} {n : List D} : ∀ {S : Sto} {q : Addr}, getS q (setS p n S) = if q = p then (getS p S).map (fun _ => n) else getS q S
  | [], q => by split <;> rfl
  | (r, l) :: S, q => by
    by_cases h1 : r = p
    · subst h1
      rw [setS_hd]
      by_cases h2 : q = r
      · subst h2
        rw [getS_hd, if_pos rfl, getS_hd] <;> rfl
      · rw [getS_tl (Ne.symm h2), if_neg h2, getS_tl (Ne.symm h2)]
    · rw [setS_tl h1, getS_tl (S := S) h1]
      by_cases h2 : r = q
      · subst h2
        rw [getS_hd, if_neg h1, getS_hd]
      · rw [getS_tl h2, getS_tl h2]
        exact getS_setS
section
variable {K : PySem.W.Frag} {Hd Hd' H H' : Hp} {S : Sto} {p : Addr}
theorem Own.at : ∀ {S : Sto} {l : List D}, Own K Hd H S → getS p S = some l → Hd p = none ∧ ∃ xs, H p = some (.lst xs) ∧ RpL K Hd l xs
  | [], _, _, e => by cases e
  | (q, m) :: S, l, o, e => by
    by_cases h : q = p
    · subst h
      rw [getS_hd] at e
      cases e
      exact ⟨o.1, o.2.2.1⟩
    · rw [getS_tl h] at e
      exact Own.at o.2.2.2 e
/-- new things are laid: none of the changed lists' own -/
theorem Own.grow : ∀ {S : Sto}, Own K Hd H S → Same Hd Hd' → (∀ q l, getS q S = some l → Hd' q = none) → (∀ q xs l, getS q S = some l → H q = some (.lst xs) → H' q = some (.lst xs)) → Own K Hd' H' S
  | [], _, _, _, _ => trivial
  | (q, l) :: S, o, e, f, k => by
    obtain ⟨o1, o2, ⟨xs, o3, o4⟩, o5⟩ := o
    refine ⟨f q l getS_hd, o2, ⟨xs, k q xs l getS_hd o3, o4.mono e⟩, o5.grow e (fun r m hr => ?_) (fun r ys m hr => ?_)⟩
    · by_cases h : q = r
      · subst h
        rw [o2] at hr; cases hr
      · exact f r m (by rw [getS_tl h]; exact hr)
    · by_cases h : q = r
      · subst h
        rw [o2] at hr; cases hr
      · exact k r ys m (by rw [getS_tl h]; exact hr)
/-- one changed list is written -/
theorem Own.write {l' : List D} {ys : List V} : ∀ {S : Sto} {l : List D}, Own K Hd H S → getS p S = some l → RpL K Hd l' ys → Own K Hd (upd H p (.lst ys)) (setS p l' S)
  | [], _, _, e, _ => by cases e
  | (q, m) :: S, l, o, e, r => by
    obtain ⟨o1, o2, ⟨xs, o3, o4⟩, o5⟩ := o
    by_cases h : q = p
    · subst h
      rw [setS_hd]
      refine ⟨o1, o2, ⟨ys, upd_same, r⟩, o5.grow (fun _ _ z => z) (fun b w hb => (o5.at hb).1) (fun b zs w hb hz => ?_)⟩
      rw [upd_ne]
      · exact hz
      · intro z
        subst z
        rw [o2] at hb; cases hb
    · rw [getS_tl h] at e
      rw [setS_tl h]
      refine ⟨o1, ?_, ⟨xs, (upd_ne h).trans o3, o4⟩, o5.write e r⟩
      rw [getS_setS, if_neg h]
      exact o2
theorem St0.tracked (s : St0 K S Hd H) {l : List D} (h : getS p S = some l) : H p ≠ none := by
  obtain ⟨_, xs, e, _⟩ := s.own.at h
  rw [e]
  exact fun z => nomatch z
/-- a new object that is not changed any more -/
theorem St0.laid {o : HO} (s : St0 K S Hd H) (hp : H p = none) : Same Hd (upd Hd p o) ∧ St0 K S (upd Hd p o) (upd H p o) := by
  have hd : Hd p = none := s.sub.free hp
  have e : Same Hd (upd Hd p o) := fun b u q => by rw [upd_ne (ne_of_none q hd)]; exact q
  refine ⟨e, fun b u q => ?_, s.own.grow e (fun q l h => ?_) (fun q xs l h z => ?_)⟩
  · by_cases hb : b = p
    · subst hb
      rw [upd_same] at q ⊢
      exact q
    · rw [upd_ne hb] at q ⊢
      exact s.sub b u q
  · rw [upd_ne (fun z => s.tracked h (by rw [z]; exact hp))]
    exact (s.own.at h).1
  · rw [upd_ne (ne_of_none z hp)]
    exact z
/-- a new list that will be changed -/
theorem St0.laidO {l : List D} {xs : List V} (s : St0 K S Hd H) (hp : H p = none) (r : RpL K Hd l xs) : getS p S = none ∧ St0 K ((p, l) :: S) Hd (upd H p (.lst xs)) := by
  have hd : Hd p = none := s.sub.free hp
  have g : getS p S = none := by
    cases q : getS p S with
    | none => rfl
    | some m => exact absurd hp (s.tracked q)
  refine ⟨g, fun b u q => ?_, hd, g, ⟨xs, upd_same, r⟩, s.own.grow (fun _ _ z => z) (fun q l h => (s.own.at h).1) (fun q xs l h z => ?_)⟩
  · rw [upd_ne (ne_of_none q hd)]
    exact s.sub b u q
  · rw [upd_ne (ne_of_none z hp)]
    exact z
theorem St0.written {l l' : List D} {ys : List V} (s : St0 K S Hd H) (h : getS p S = some l) (r : RpL K Hd l' ys) : St0 K (setS p l' S) Hd (upd H p (.lst ys)) := by
  refine ⟨fun b u q => ?_, s.own.write h r⟩
  rw [upd_ne (ne_of_none q (s.own.at h).1)]
  exact s.sub b u q
/-- a changed list is changed no more -/
theorem St0.frozen {l : List D} (s : St0 K ((p, l) :: S) Hd H) : ∃ xs, RpL K Hd l xs ∧ Same Hd (upd Hd p (.lst xs)) ∧ St0 K S (upd Hd p (.lst xs)) H := by
  obtain ⟨sub, o1, o2, ⟨xs, o3, o4⟩, o5⟩ := s
  have e : Same Hd (upd Hd p (.lst xs)) := fun b u q => by rw [upd_ne (ne_of_none q o1)]; exact q
  refine ⟨xs, o4, e, fun b u q => ?_, o5.grow e (fun q l h => ?_) (fun q xs l h z => z)⟩
  · by_cases hb : b = p
    · subst hb
      rw [upd_same] at q
      cases q
      exact o3
    · rw [upd_ne hb] at q
      exact sub b u q
  · rw [upd_ne (fun z => by rw [z, o2] at h; cases h)]
    exact (o5.at h).1
theorem St0.drop {l : List D} (s : St0 K ((p, l) :: S) Hd H) : St0 K S Hd H := ⟨s.sub, s.own.2.2.2⟩
end

/-- the slots as data; none: not known -/
abbrev DEnv := List (Option D)
def RpE (K : PySem.W.Frag) (H : Hp) : DEnv → L2.St → Prop
  | [], σ => σ = []
  | none :: es, σ => ∃ (o : Option V) (σ' : L2.St), σ = o :: σ' ∧ RpE K H es σ'
  | some d :: es, σ => ∃ (v : V) (σ' : L2.St), σ = some v :: σ' ∧ Rp K H d v ∧ RpE K H es σ'
theorem RpE.mono {K : PySem.W.Frag} {H H' : Hp} (e : Same H H') : ∀ {en : DEnv} {σ : L2.St}, RpE K H en σ → RpE K H' en σ
  | [], _, h => h
  | none :: es, _, h => let ⟨o, σ', e1, e2⟩ := h; ⟨o, σ', e1, RpE.mono e e2⟩
  | some d :: es, _, h => let ⟨v, σ', e1, e2, e3⟩ := h; ⟨v, σ', e1, Rp.mono e d v e2, RpE.mono e e3⟩
theorem RpE.get {K : PySem.W.Frag} {H : Hp} : ∀ {en : DEnv} {σ : L2.St} {i : Nat} {d : D}, RpE K H en σ → en[i]? = some (some d) → ∃ v, σ[i]? = some (some v) ∧ Rp K H d v
  | [], _, _, _, _, e => by simp at e
  | none :: es, _, 0, _, h, e => by simp at e
  | none :: es, _, i + 1, d, h, e => by
    obtain ⟨o, σ', rfl, h2⟩ := h
    obtain ⟨v, e1, e2⟩ := RpE.get (i := i) h2 (by simpa using e)
    exact ⟨v, by simpa using e1, e2⟩
  | some x :: es, _, 0, d, h, e => by
    obtain ⟨v, σ', rfl, h2, _⟩ := h
    have e : x = d := by simpa using e
    subst e
    exact ⟨v, rfl, h2⟩
  | some x :: es, _, i + 1, d, h, e => by
    obtain ⟨o, σ', rfl, _, h2⟩ := h
    obtain ⟨v, e1, e2⟩ := RpE.get (i := i) h2 (by simpa using e)
    exact ⟨v, by simpa using e1, e2⟩
theorem RpE.set {K : PySem.W.Frag} {H : Hp} {d : D} {v : V} (r : Rp K H d v) : ∀ {en : DEnv} {σ : L2.St} (i : Nat), RpE K H en σ → RpE K H (en.set i (some d)) (σ.set i (some v))
  | [], _, _, h => by
    have h : _ = [] := h
    subst h
    rfl
  | none :: es, _, 0, h => let ⟨o, σ', e1, e2⟩ := h; ⟨v, σ', by rw [e1] <;> rfl, r, e2⟩
  | some x :: es, _, 0, h => let ⟨o, σ', e1, _, e2⟩ := h; ⟨v, σ', by rw [e1] <;> rfl, r, e2⟩
  | none :: es, _, i + 1, h => let ⟨o, σ', e1, e2⟩ := h; ⟨o, σ'.set i (some v), by rw [e1] <;> rfl, e2.set r i⟩
  | some x :: es, _, i + 1, h => let ⟨o, σ', e1, e0, e2⟩ := h; ⟨o, σ'.set i (some v), by rw [e1] <;> rfl, e0, e2.set r i⟩
/-- less is known -/
def Wk : DEnv → DEnv → Prop
  | [], [] => True
  | _ :: xs, none :: ys => Wk xs ys
  | x :: xs, some d :: ys => x = some d ∧ Wk xs ys
  | _, _ => False
theorem Wk.refl : ∀ (en : DEnv), Wk en en
  | [] => trivial
  | none :: es => Wk.refl es
  | some _ :: es => ⟨rfl, Wk.refl es⟩
theorem Wk.use {K : PySem.W.Frag} {H : Hp} : ∀ {a b : DEnv} {σ : L2.St}, Wk a b → RpE K H a σ → RpE K H b σ
  | [], [], _, _, h => h
  | none :: xs, none :: ys, _, w, h => let ⟨o, σ', e1, e2⟩ := h; ⟨o, σ', e1, Wk.use (a := xs) (b := ys) w e2⟩
  | some x :: xs, none :: ys, _, w, h => let ⟨v, σ', e1, _, e2⟩ := h; ⟨some v, σ', e1, Wk.use (a := xs) (b := ys) w e2⟩
  | x :: xs, some d :: ys, _, w, h => by
    obtain ⟨w1, w2⟩ := w
    subst w1
    obtain ⟨v, σ', e1, e2, e3⟩ := h
    exact ⟨v, σ', e1, e2, Wk.use w2 e3⟩
  | [], none :: _, _, w, _ => w.elim
  | [], some _ :: _, _, w, _ => w.elim
  | _ :: _, [], _, w, _ => w.elim
theorem RpE.start {K : PySem.W.Frag} {H : Hp} : ∀ {ds : List D} {vs : List V} (n : Nat), RpL K H ds vs → RpE K H (ds.map some ++ List.replicate n none) (vs.map some ++ List.replicate n none)
  | [], _, 0, h => by
    have h : _ = [] := h
    subst h
    rfl
  | [], _, n + 1, h => by
    have h : _ = [] := h
    subst h
    exact ⟨none, List.replicate n none, rfl, RpE.start (ds := []) (vs := []) n rfl⟩
  | d :: ds, _, n, h => by
    obtain ⟨x, xs, rfl, h2, h3⟩ := h
    exact ⟨x, xs.map some ++ List.replicate n none, rfl, h2, RpE.start n h3⟩
end DL
namespace DL
open PySem PySem.Spec PyProof.Rows L2

/-! ### what the semantics asks of the form of an expression, quickly answered -/
def nSet : Expr → Bool
  | .Set _ _ _ => false
  | _ => true
theorem fset {e : Expr} {env : Env} (h : nSet e = true) : ∀ x, foldedSetIterable e env x = pure x := fun x => by
  cases e <;> first | rfl | cases h
def nComp : Expr → Bool
  | .ListComp _ _ _ _ => false
  | .SetComp _ _ _ _ => false
  | .DictComp _ _ _ _ _ => false
  | _ => true
theorem sw0 {e : Expr} {t : Option Expr} {l : Nat} {env : Env} (h : nComp e = true) : swapsWith e t l env = pure false := by
  cases e <;> first | rfl | cases h
theorem sws1 {e t : Expr} {l : Nat} {env : Env} (h : nComp e = true) : swapsWithSole [t] e l env = pure false := sw0 h
def nTup2 : Expr → Expr → Bool
  | .Tuple _ _ _, .Tuple _ _ _ => false
  | .List _ _, .Tuple _ _ _ => false
  | _, _ => true
theorem sst {t e : Expr} {env : Env} (h : nTup2 t e = true) : swappedStores [t] e env = pure none := by
  cases t <;> first | rfl | (cases e <;> first | rfl | cases h)

/-! ### what an expression, a test, a list of arguments is as data -/
def QD (K : PySem.W.Frag) (Hd : Hp) (Q : D → Sto → Prop) : VK := fun v H' => ∃ d S' Hd', Same Hd Hd' ∧ St0 K S' Hd' H' ∧ Rp K Hd' d v ∧ Q d S'
def QB (K : PySem.W.Frag) (Hd : Hp) (Q : Bool → Sto → Prop) : Bool → Hp → Prop := fun b H' => ∃ S' Hd', Same Hd Hd' ∧ St0 K S' Hd' H' ∧ Q b S'
def QA (K : PySem.W.Frag) (Hd : Hp) (Q : List D → Sto → Prop) : List V → Hp → Prop := fun vs H' => ∃ ds S' Hd', Same Hd Hd' ∧ St0 K S' Hd' H' ∧ RpL K Hd' ds vs ∧ Q ds S'
structure DE (X : Cx) (e : Expr) (en : DEnv) (S : Sto) (Q : D → Sto → Prop) : Prop where
  run : ∀ (σ : L2.St) (H Hd : Hp), St0 X.K S Hd H → RpE X.K Hd en σ → wE X e σ H (QD X.K Hd Q)
instance {X : Cx} {e : Expr} {en : DEnv} {S : Sto} {Q : D → Sto → Prop} : CoeFun (DE X e en S Q) (fun _ => ∀ (σ : L2.St) (H Hd : Hp), St0 X.K S Hd H → RpE X.K Hd en σ → wE X e σ H (QD X.K Hd Q)) := ⟨fun h => h.run⟩
structure DT (X : Cx) (e : Expr) (en : DEnv) (S : Sto) (Q : Bool → Sto → Prop) : Prop where
  run : ∀ (σ : L2.St) (H Hd : Hp), St0 X.K S Hd H → RpE X.K Hd en σ → wT X e σ H (QB X.K Hd Q)
instance {X : Cx} {e : Expr} {en : DEnv} {S : Sto} {Q : Bool → Sto → Prop} : CoeFun (DT X e en S Q) (fun _ => ∀ (σ : L2.St) (H Hd : Hp), St0 X.K S Hd H → RpE X.K Hd en σ → wT X e σ H (QB X.K Hd Q)) := ⟨fun h => h.run⟩
structure DW (X : Cx) (e : Expr) (en : DEnv) (S : Sto) (Q : Bool → Sto → Prop) : Prop where
  run : ∀ (σ : L2.St) (H Hd : Hp), St0 X.K S Hd H → RpE X.K Hd en σ → wW X e σ H (QB X.K Hd Q)
instance {X : Cx} {e : Expr} {en : DEnv} {S : Sto} {Q : Bool → Sto → Prop} : CoeFun (DW X e en S Q) (fun _ => ∀ (σ : L2.St) (H Hd : Hp), St0 X.K S Hd H → RpE X.K Hd en σ → wW X e σ H (QB X.K Hd Q)) := ⟨fun h => h.run⟩
structure DA (X : Cx) (es : List Expr) (en : DEnv) (S : Sto) (Q : List D → Sto → Prop) : Prop where
  run : ∀ (σ : L2.St) (H Hd : Hp), St0 X.K S Hd H → RpE X.K Hd en σ → wA X es σ H (QA X.K Hd Q)
instance {X : Cx} {es : List Expr} {en : DEnv} {S : Sto} {Q : List D → Sto → Prop} : CoeFun (DA X es en S Q) (fun _ => ∀ (σ : L2.St) (H Hd : Hp), St0 X.K S Hd H → RpE X.K Hd en σ → wA X es σ H (QA X.K Hd Q)) := ⟨fun h => h.run⟩
theorem QD.up {K : PySem.W.Frag} {Hd Hd' H' : Hp} {Q : D → Sto → Prop} {v : V} (e : Same Hd Hd') (h : QD K Hd' Q v H') : QD K Hd Q v H' :=
  let ⟨d, S, Hd2, e2, st, r, q⟩ := h; ⟨d, S, Hd2, e.trans e2, st, r, q⟩
theorem QB.up {K : PySem.W.Frag} {Hd Hd' H' : Hp} {Q : Bool → Sto → Prop} {b : Bool} (e : Same Hd Hd') (h : QB K Hd' Q b H') : QB K Hd Q b H' :=
  let ⟨S, Hd2, e2, st, q⟩ := h; ⟨S, Hd2, e.trans e2, st, q⟩
theorem QA.up {K : PySem.W.Frag} {Hd Hd' H' : Hp} {Q : List D → Sto → Prop} {v : List V} (e : Same Hd Hd') (h : QA K Hd' Q v H') : QA K Hd Q v H' :=
  let ⟨d, S, Hd2, e2, st, r, q⟩ := h; ⟨d, S, Hd2, e.trans e2, st, r, q⟩
/-- a value that is there -/
theorem QD.here {K : PySem.W.Frag} {S : Sto} {Hd H : Hp} {Q : D → Sto → Prop} {d : D} {v : V} (st : St0 K S Hd H) (r : Rp K Hd d v) (q : Q d S) : QD K Hd Q v H := ⟨d, S, Hd, Same.refl _, st, r, q⟩

section
variable {X : Cx} {a b c e : Expr} {es : List Expr} {en : DEnv} {S : Sto} {Q : D → Sto → Prop} {pos : Pos}
theorem DE.mono {Q' : D → Sto → Prop} (h : DE X e en S Q) (k : ∀ d S', Q d S' → Q' d S') : DE X e en S Q' := ⟨fun σ H Hd st re =>
  wE_mono (h σ H Hd st re) fun _ _ ⟨d, S', Hd', e', st', r, q⟩ => ⟨d, S', Hd', e', st', r, k d S' q⟩⟩
theorem DT.mono {Q Q' : Bool → Sto → Prop} (h : DT X e en S Q) (k : ∀ d S', Q d S' → Q' d S') : DT X e en S Q' := ⟨fun σ H Hd st re =>
  wT_mono (h σ H Hd st re) fun b _ ⟨S', Hd', e', st', q⟩ => ⟨S', Hd', e', st', k b S' q⟩⟩
/-! ### names and constants -/
theorem de_name (i : Nat) {x : Str} {d : D} (q : Q d S) (he : en[i]? = some (some d) := by rfl) (hN : X.N[i]? = some x := by rfl)
    (hv : Vis X.env.scope x := by first | exact Or.inl rfl | exact Or.inr (Or.inl rfl) | exact Or.inr (Or.inr rfl)) (hd : (x == ("__debug__" : Str)) = false := by decide)
    (hcd : (x == ("__classdict__" : Str)) = false := by decide) : DE X (.Name x pos) en S Q := ⟨fun σ H Hd st re => by
  obtain ⟨v, e1, r⟩ := re.get he
  exact wE_of (pe_var hN hv hd hcd) ⟨v, e1, .here st r q⟩⟩
theorem de_int {i : Int} {j} (q : Q (.int i) S) : DE X (.Constant (.int i) j pos) en S Q := ⟨fun _ _ _ st _ => wE_of pe_int (.here (d := .int i) st rfl q)⟩
theorem de_bl {i : Bool} {j} (q : Q (.bl i) S) : DE X (.Constant (.bool i) j pos) en S Q := ⟨fun _ _ _ st _ => wE_of pe_bl (.here (d := .bl i) st rfl q)⟩
theorem de_non {j} (q : Q .non S) : DE X (.Constant .none j pos) en S Q := ⟨fun _ _ _ st _ => wE_of pe_non (.here (d := .non) st rfl q)⟩
theorem de_str {i : Str} {j} (q : Q (.str i) S) : DE X (.Constant (.str i) j pos) en S Q := ⟨fun _ _ _ st _ => wE_of pe_str (.here (d := .str i) st rfl q)⟩
theorem de_globI {x : Str} {i : Int} {u : Tok} (hm : X.mg x = some (.int i u)) (q : Q (.int i) S) (hg : Gl X x := by rfl) (hd : (x == ("__debug__" : Str)) = false := by decide) : DE X (.Name x pos) en S Q := ⟨fun _ _ _ st _ => wE_of (pe_glob (v := .int i) hg hm ⟨u, rfl⟩ hd) (.here (d := .int i) st rfl q)⟩
/-! ### operators -/
def DR2 (K : PySem.W.Frag) (r : R2) (x y : D) (S : Sto) (Q : D → Sto → Prop) : Prop :=
  ∀ (H Hd : Hp) (vx vy : V) (Qv : VK), St0 K S Hd H → Rp K Hd x vx → Rp K Hd y vy → (∀ v H', QD K Hd Q v H' → Qv v H') → r vx vy H Qv
theorem de_two {f : Value → Value → Sem Value} {r : R2} (mk : ∀ {ta tb : TE}, PE X a ta → PE X b tb → PE X e (tOp r ta tb))
    (h : DE X a en S fun x S1 => DE X b en S1 fun y S2 => DR2 X.K r x y S2 Q) : DE X e en S Q := ⟨fun σ H Hd st re => by
  refine wE_of (mk peW peW) ?_
  refine wE_mono (h σ H Hd st re) fun v H1 ⟨x, S1, Hd1, e1, st1, r1, q1⟩ => ?_
  refine wE_mono (q1 σ H1 Hd1 st1 (re.mono e1)) fun u H2 ⟨y, S2, Hd2, e2, st2, r2, q2⟩ => ?_
  exact q2 H2 Hd2 v u _ st2 (Rp.mono e2 x v r1) r2 fun w H3 z => .up (e1.trans e2) z⟩
theorem de_op {op : Operator} {r : R2} (ho : OpR X (binaryOp op) r) (h : DE X a en S fun x S1 => DE X b en S1 fun y S2 => DR2 X.K r x y S2 Q) : DE X (.BinOp a op b pos) en S Q :=
  de_two (f := binaryOp op) (pe_op ho) h
theorem de_cmpR {op : CmpOp} {r : R2} (ho : OpR X (compareOp op) r) (hm : behindInMarks op b = false) (h : DE X a en S fun x S1 => DE X b en S1 fun y S2 => DR2 X.K r x y S2 Q) : DE X (.Compare a [op] [b] pos) en S Q :=
  de_two (f := compareOp op) (fun ha hb => pe_cmpR ho ha hb hm) h
theorem dr_I {C : Int → Int → Prop} {g : Int → Int → Int} {i j : Int} {K : PySem.W.Frag} (hc : C i j) (q : Q (.int (g i j)) S) : DR2 K (rI C fun i j => .int (g i j)) (.int i) (.int j) S Q :=
  fun H Hd vx vy Qv st rx ry k => ⟨i, j, rx, ry, hc, k _ _ (.here (d := .int (g i j)) st rfl q)⟩
theorem dr_I0 {g : Int → Int → Int} {i j : Int} {K : PySem.W.Frag} (q : Q (.int (g i j)) S) : DR2 K (rI0 fun i j => .int (g i j)) (.int i) (.int j) S Q :=
  fun H Hd vx vy Qv st rx ry k => ⟨i, j, rx, ry, k _ _ (.here (d := .int (g i j)) st rfl q)⟩
theorem dr_B0 {g : Int → Int → Bool} {i j : Int} {K : PySem.W.Frag} (q : Q (.bl (g i j)) S) : DR2 K (rI0 fun i j => .bl (g i j)) (.int i) (.int j) S Q :=
  fun H Hd vx vy Qv st rx ry k => ⟨i, j, rx, ry, k _ _ (.here (d := .bl (g i j)) st rfl q)⟩

/-- list + list, lists of any kind -/
def rCatL (K : PySem.W.Frag) : R2 := fun x y H Q => ∃ l b xs zs, x = .ref l ∧ y = .ref b ∧ SqL K H l xs ∧ SqL K H b zs ∧ xs.length + zs.length ≤ sizeLine ∧ ∀ p, H p = none → Q (.ref p) (upd H p (.lst (xs ++ zs)))
theorem op_catL : OpR X (binaryOp .Add) (rCatL X.K) := by
  intro pins s σ H x y v u Q I rx ry h
  obtain ⟨l, b, xs, zs, rfl, rfl, hl, hb, hz, q⟩ := h
  cases rx
  cases ry
  obtain ⟨its, r, ⟨⟨c1, d1, da1, s1⟩, n1, g1, k1, k2, k3⟩, _⟩ := I.list hl
  obtain ⟨its2, r2, ⟨⟨c2, d2, da2, s2⟩, n2, g2, j1, j2, j3⟩, _⟩ := I.list hb
  simp only at k1 k2 k3 j1 j2 j3
  subst k1 k2 k3 j1 j2 j3
  have ez : its.toArray.size + its2.toArray.size ≤ sizeLine := by
    rw [List.size_toArray, List.size_toArray, ← r.length, ← r2.length]
    exact hz
  refine concat_meets ⟨_, g1, rfl⟩ ⟨_, g2, rfl⟩ noFill_list_add seq_list_add PySem.F.slot_list_add PySem.F.entry_list_add (PySem.F.args_list_add_2 _ _) (PyProof.Rows.list_addW l b its.toArray its2.toArray n1 n2 none none s1 s2 ez) ⟨g1, g2, ?_⟩
  have ea : its.toArray ++ its2.toArray = (its ++ its2).toArray := by simp
  rw [ea]
  exact ⟨.ref _, _, I.lnew (t' := s.toks) (r.append r2) (by rw [List.length_append]; exact hz), rfl, q _ I.fresh⟩

/-- a + b -/
def addP (x y : D) (S : Sto) (Q : D → Sto → Prop) : Prop := match x, y with
  | .int i, .int j => Q (.int (i + j)) S
  | .lst l, .lst m => l.length + m.length ≤ 100000 ∧ Q (.lst (l ++ m)) S
  | .scr l, .lst m => l.length + m.length ≤ 100000 ∧ Q (.lst (l.map D.int ++ m)) S
  | .tup l, .tup m => (l.length ≠ 0 ∧ m.length ≠ 0 ∧ l.length + m.length ≤ 100000) ∧ Q (.tup (l ++ m)) S
  | .str i, .str j => i.length + j.length ≤ sizeLine ∧ Q (.str (i ++ j)) S
  | _, _ => False
theorem RpL.ne_nil {K : PySem.W.Frag} {H : Hp} {l : List D} {vs : List V} (h : RpL K H l vs) (n : l.length ≠ 0) : vs ≠ [] := fun z => by
  have := h.length
  rw [z] at this
  exact n this.symm
theorem sz5 {n : Nat} (h : n ≤ 100000) : n ≤ sizeLine := Nat.le_trans h (by decide)
/-- the reading of a new tuple, of a new list -/
theorem new_tup {K : PySem.W.Frag} {Hd H : Hp} {l : List D} {xs : List V} {p : Addr} (st : St0 K S Hd H) (r : RpL K Hd l xs) (hp : H p = none) (q : Q (.tup l) S) : QD K Hd Q (.ref p) (upd H p (.tup xs)) := by
  obtain ⟨e, st'⟩ := st.laid (o := .tup xs) hp
  exact ⟨.tup l, S, _, e, st', ⟨p, xs, rfl, SqT.of upd_same, r.mono e⟩, q⟩
theorem new_lst {K : PySem.W.Frag} {Hd H : Hp} {l : List D} {xs : List V} {p : Addr} (st : St0 K S Hd H) (r : RpL K Hd l xs) (hp : H p = none) (q : Q (.lst l) S) : QD K Hd Q (.ref p) (upd H p (.lst xs)) := by
  obtain ⟨e, st'⟩ := st.laid (o := .lst xs) hp
  exact ⟨.lst l, S, _, e, st', ⟨p, xs, rfl, upd_same, r.mono e⟩, q⟩
theorem OpR.or {f : Value → Value → Sem Value} {r r' : R2} (h : OpR X f r) (h' : OpR X f r') : OpR X f (fun x y H Q => r x y H Q ∨ r' x y H Q) := by
  intro pins s σ H x y v u Q I rx ry q
  rcases q with q | q
  · exact h pins s σ H x y v u Q I rx ry q
  · exact h' pins s σ H x y v u Q I rx ry q
theorem de_add (h : DE X a en S fun x S1 => DE X b en S1 fun y S2 => addP x y S2 Q) : DE X (.BinOp a .Add b pos) en S Q := by
  refine de_op (OpR.or op_add (OpR.or op_catL (OpR.or op_catT op_add_str))) (h.mono fun x S1 h1 => h1.mono fun y S2 h2 => ?_)
  intro H Hd vx vy Qv st rx ry k
  unfold addP at h2
  split at h2
  · exact .inl ⟨_, _, rx, ry, k _ _ (.here (d := .int _) st rfl h2)⟩
  · rename_i l m
    obtain ⟨p, xs, e1, e2, e3⟩ := rx
    obtain ⟨p', ys, f1, f2, f3⟩ := ry
    exact .inr (.inl ⟨p, p', xs, ys, e1, f1, .of (st.sub _ _ e2), .of (st.sub _ _ f2), by rw [e3.length, f3.length]; exact sz5 h2.1, fun q hq => k _ _ (new_lst st (e3.append f3) hq h2.2)⟩)
  · rename_i l m
    obtain ⟨p, e1, e2⟩ := rx
    obtain ⟨p', ys, f1, f2, f3⟩ := ry
    exact .inr (.inl ⟨p, p', l.map V.int, ys, e1, f1, same_l st.sub e2, .of (st.sub _ _ f2), by rw [List.length_map, f3.length]; exact sz5 h2.1, fun q hq => k _ _ (new_lst st (RpL.append (RpL.ints l) f3) hq h2.2)⟩)
  · rename_i l m
    obtain ⟨p, xs, e1, e2, e3⟩ := rx
    obtain ⟨p', ys, f1, f2, f3⟩ := ry
    obtain ⟨⟨n1, n2, n3⟩, h2⟩ := h2
    refine .inr (.inr (.inl ⟨p, p', xs, ys, e1, f1, same_t st.sub e2, same_t st.sub f2, e3.ne_nil n1, by rw [e3.length, f3.length]; exact sz5 n3, fun z => absurd z (f3.ne_nil n2), fun _ q hq => k _ _ (new_tup st (e3.append f3) hq h2)⟩))
  · exact .inr (.inr (.inr ⟨_, _, rx, ry, h2.1, k _ _ (.here (d := .str _) st rfl h2.2)⟩))
  · exact h2.elim
theorem add_int {i j : Int} (q : Q (.int (i + j)) S) : addP (.int i) (.int j) S Q := q
theorem add_lst {l m : List D} (q : Q (.lst (l ++ m)) S) (h : l.length + m.length ≤ 100000) : addP (.lst l) (.lst m) S Q := ⟨h, q⟩
theorem add_scr {l : List Int} {m : List D} (q : Q (.lst (l.map D.int ++ m)) S) (h : l.length + m.length ≤ 100000) : addP (.scr l) (.lst m) S Q := ⟨h, q⟩
theorem add_tup {l m : List D} (q : Q (.tup (l ++ m)) S) (h : l.length ≠ 0 ∧ m.length ≠ 0 ∧ l.length + m.length ≤ 100000) : addP (.tup l) (.tup m) S Q := ⟨h, q⟩
/-- a - b, a * b, a // b, a % b, a ** b -/
theorem de_sub (h : DE X a en S fun x S1 => DE X b en S1 fun y S2 => ∃ i j, x = .int i ∧ y = .int j ∧ Q (.int (i - j)) S2) : DE X (.BinOp a .Sub b pos) en S Q :=
  de_op op_sub (h.mono fun _ _ h1 => h1.mono fun _ _ ⟨_, _, e1, e2, q⟩ => by subst e1 e2; exact dr_I0 q)
def mulP (x y : D) (S : Sto) (Q : D → Sto → Prop) : Prop := match x, y with
  | .int i, .int j => CMulW i j ∧ Q (.int (i * j)) S
  | .lst l, .int k => (-(2 ^ 63) ≤ k ∧ k < 2 ^ 63 ∧ l.length * k.toNat ≤ 100000) ∧ Q (.lst (List.replicate k.toNat l).flatten) S
  | _, _ => False
theorem RpL.rep {K : PySem.W.Frag} {H : Hp} {l : List D} {vs : List V} (h : RpL K H l vs) : ∀ n : Nat, RpL K H (List.replicate n l).flatten (List.replicate n vs).flatten
  | 0 => rfl
  | n + 1 => by
    rw [List.replicate_succ, List.replicate_succ, List.flatten_cons, List.flatten_cons]
    exact h.append (RpL.rep h n)
theorem de_mul (h : DE X a en S fun x S1 => DE X b en S1 fun y S2 => mulP x y S2 Q) : DE X (.BinOp a .Mult b pos) en S Q := by
  refine de_op (OpR.or op_mulW op_rep) (h.mono fun x S1 h1 => h1.mono fun y S2 h2 => ?_)
  intro H Hd vx vy Qv st rx ry k
  unfold mulP at h2
  split at h2
  · exact .inl ⟨_, _, rx, ry, h2.1, k _ _ (.here (d := .int _) st rfl h2.2)⟩
  · obtain ⟨p, xs, e1, e2, e3⟩ := rx
    obtain ⟨⟨n1, n2, n3⟩, h2⟩ := h2
    exact .inr ⟨p, _, xs, e1, ry, st.sub _ _ e2, n1, n2, by rw [e3.length]; exact sz5 n3, fun q hq => k _ _ (new_lst st (e3.rep _) hq h2)⟩
  · exact h2.elim
theorem mul_i {i j : Int} (q : Q (.int (i * j)) S) (h : CMulW i j) : mulP (.int i) (.int j) S Q := ⟨h, q⟩
theorem mul_l {l : List D} {k : Int} (q : Q (.lst (List.replicate k.toNat l).flatten) S) (h : -(2 ^ 63) ≤ k ∧ k < 2 ^ 63 ∧ l.length * k.toNat ≤ 100000) : mulP (.lst l) (.int k) S Q := ⟨h, q⟩
theorem de_fdiv (h : DE X a en S fun x S1 => DE X b en S1 fun y S2 => ∃ i j, x = .int i ∧ y = .int j ∧ CDivW i j ∧ Q (.int (i / j)) S2) : DE X (.BinOp a .FloorDiv b pos) en S Q :=
  de_op op_fdivW (h.mono fun _ _ h1 => h1.mono fun _ _ ⟨_, _, e1, e2, hc, q⟩ => by subst e1 e2; exact dr_I hc q)
theorem de_mod (h : DE X a en S fun x S1 => DE X b en S1 fun y S2 => ∃ i j, x = .int i ∧ y = .int j ∧ 0 < j ∧ Q (.int (i % j)) S2) : DE X (.BinOp a .Mod b pos) en S Q :=
  de_op op_mod (h.mono fun _ _ h1 => h1.mono fun _ _ ⟨_, _, e1, e2, hc, q⟩ => by subst e1 e2; exact dr_I hc q)
/-- a ** b, b small, a of less than 2 ^ 20 bits -/
def CPowW (i j : Int) : Prop := 0 ≤ j ∧ j ≤ 64 ∧ i.natAbs.log2 < 1000000
theorem op_powW : OpR X (binaryOp .Pow) (rI CPowW fun i j => .int (i ^ j.toNat)) := opI fun i j _ _ _ _ _ hc q => by
  obtain ⟨h1, h2, h3⟩ := hc
  refine pow_int h1 ?_ q
  have b : Builtin.Int.intBits i ≤ i.natAbs.log2 + 1 := by
    unfold Builtin.Int.intBits
    split <;> omega
  have b2 : (Builtin.Int.intBits i : Int) ≤ 1000000 := by omega
  have b3 : (Builtin.Int.intBits i : Int) * j ≤ 1000000 * 64 := Int.mul_le_mul b2 h2 h1 (by decide)
  have b4 : (1000000 * 64 : Int) ≤ 2 ^ 27 := by decide
  omega
theorem de_pow (h : DE X a en S fun x S1 => DE X b en S1 fun y S2 => ∃ i j, x = .int i ∧ y = .int j ∧ CPowW i j ∧ Q (.int (i ^ j.toNat)) S2) : DE X (.BinOp a .Pow b pos) en S Q :=
  de_op op_powW (h.mono fun _ _ h1 => h1.mono fun _ _ ⟨_, _, e1, e2, hc, q⟩ => by subst e1 e2; exact dr_I hc q)
theorem de_neg (h : DE X a en S fun x S1 => ∃ i, x = .int i ∧ Q (.int (-i)) S1) : DE X (.UnaryOp .USub a pos) en S Q := ⟨fun σ H Hd st re => by
  refine wE_of (pe_un un_neg peW) ?_
  refine wE_mono (h σ H Hd st re) fun v H1 ⟨x, S1, Hd1, e1, st1, r1, i, e2, q1⟩ => ?_
  subst e2
  exact ⟨i, r1, .up e1 (.here (d := .int (-i)) st1 rfl q1)⟩⟩
end
end DL
namespace DL
open PySem PySem.Spec PyProof.Rows L2

/-! ### data as the library's data -/
mutual
def toPy : D → PyData
  | .non => .none
  | .bl b => .bool b
  | .int i => .int i
  | .str x => .str x
  | .tup l => .tuple (toPyL l)
  | .lst l => .list (toPyL l)
  | .raw _ => .none
  | .ext _ => .none
  | .scr ns => .list (ns.map PyData.int)
def toPyL : List D → List PyData
  | [] => []
  | d :: ds => toPy d :: toPyL ds
end
mutual
/-- plain data of at most this depth -/
def flatOk : Nat → D → Bool
  | _, .non => true
  | _, .bl _ => true
  | _, .int _ => true
  | _, .str x => PyData.strOk x
  | n + 1, .tup l => flatOkL n l
  | n + 1, .lst l => flatOkL n l
  | n + 1, .scr _ => true
  | _, _ => false
def flatOkL : Nat → List D → Bool
  | _, [] => true
  | n, d :: ds => flatOk n d && flatOkL n ds
end
theorem dpAll_ints {K : PySem.W.Frag} {H : Hp} : ∀ ns : List Int, DpAll K H (ns.map V.int) (ns.map PyData.int)
  | [] => .nil
  | n :: ns => .cons (.int n) (dpAll_ints ns)
mutual
theorem dp_of {K : PySem.W.Frag} {H : Hp} : ∀ (n : Nat) (d : D) (v : V), flatOk n d = true → Rp K H d v → Dp K H v (toPy d)
  | _, .non, v, _, r => by
    have r : v = _ := r
    subst r
    exact .non
  | _, .bl b, v, _, r => by
    have r : v = _ := r
    subst r
    exact .bl b
  | _, .int i, v, _, r => by
    have r : v = _ := r
    subst r
    exact .int i
  | _, .str x, v, _, r => by
    have r : v = _ := r
    subst r
    exact .str x
  | 0, .tup l, v, h, r => by simp [flatOk] at h
  | n + 1, .tup l, v, h, r => by
    obtain ⟨a, xs, rfl, h1, h2⟩ := r
    exact .tup h1 (dpAll_of n l xs (by simpa [flatOk] using h) h2)
  | 0, .lst l, v, h, r => by simp [flatOk] at h
  | n + 1, .lst l, v, h, r => by
    obtain ⟨a, xs, rfl, h1, h2⟩ := r
    exact .lst (.of h1) (dpAll_of n l xs (by simpa [flatOk] using h) h2)
  | 0, .scr l, v, h, r => by simp [flatOk] at h
  | n + 1, .scr ns, v, h, r => by
    obtain ⟨a, rfl, h1⟩ := r
    exact .lst h1 (dpAll_ints ns)
  | 0, .raw _, v, h, r => by simp [flatOk] at h
  | _ + 1, .raw _, v, h, r => by simp [flatOk] at h
  | 0, .ext _, v, h, r => by simp [flatOk] at h
  | _ + 1, .ext _, v, h, r => by simp [flatOk] at h
theorem dpAll_of {K : PySem.W.Frag} {H : Hp} : ∀ (n : Nat) (l : List D) (vs : List V), flatOkL n l = true → RpL K H l vs → DpAll K H vs (toPyL l)
  | _, [], vs, _, r => by
    have r : vs = [] := r
    subst r
    exact .nil
  | n, d :: ds, vs, h, r => by
    obtain ⟨x, xs, rfl, h1, h2⟩ := r
    rw [flatOkL, Bool.and_eq_true] at h
    exact .cons (dp_of n d x h.1 h1) (dpAll_of n ds xs h.2 h2)
end
theorem canLay_ints : ∀ ns : List Int, PyData.canLayAll0 (ns.map PyData.int) = true
  | [] => rfl
  | n :: ns => by
    show (PyData.canLay0 (.int n) && PyData.canLayAll0 (ns.map PyData.int)) = true
    rw [canLay_ints ns] <;> rfl
theorem depth_ints : ∀ ns : List Int, PyData.depthAll (ns.map PyData.int) = 0
  | [] => rfl
  | n :: ns => by
    show max (PyData.depth (.int n)) (PyData.depthAll (ns.map PyData.int)) = 0
    rw [depth_ints ns] <;> rfl
mutual
theorem lay_of : ∀ (n : Nat) (d : D), flatOk n d = true → (toPy d).canLay0 = true ∧ (toPy d).depth ≤ n
  | _, .non, _ => ⟨rfl, Nat.zero_le _⟩
  | _, .bl b, _ => ⟨rfl, Nat.zero_le _⟩
  | _, .int b, _ => ⟨rfl, Nat.zero_le _⟩
  | _, .str b, h => ⟨by simpa [flatOk, toPy, PyData.canLay0] using h, Nat.zero_le _⟩
  | 0, .tup l, h => by simp [flatOk] at h
  | n + 1, .tup l, h => by
    obtain ⟨h1, h2⟩ := layAll_of n l (by simpa [flatOk] using h)
    exact ⟨by simpa [toPy, PyData.canLay0] using h1, by simpa [toPy, PyData.depth] using h2⟩
  | 0, .lst l, h => by simp [flatOk] at h
  | n + 1, .lst l, h => by
    obtain ⟨h1, h2⟩ := layAll_of n l (by simpa [flatOk] using h)
    exact ⟨by simpa [toPy, PyData.canLay0] using h1, by simpa [toPy, PyData.depth] using h2⟩
  | 0, .scr l, h => by simp [flatOk] at h
  | n + 1, .scr ns, h => by
    refine ⟨by simpa [toPy, PyData.canLay0] using canLay_ints ns, ?_⟩
    show PyData.depthAll (ns.map PyData.int) + 1 ≤ n + 1
    rw [depth_ints]
    omega
  | 0, .raw _, h => by simp [flatOk] at h
  | _ + 1, .raw _, h => by simp [flatOk] at h
  | 0, .ext _, h => by simp [flatOk] at h
  | _ + 1, .ext _, h => by simp [flatOk] at h
theorem layAll_of : ∀ (n : Nat) (l : List D), flatOkL n l = true → PyData.canLayAll0 (toPyL l) = true ∧ PyData.depthAll (toPyL l) ≤ n
  | _, [], _ => ⟨rfl, Nat.zero_le _⟩
  | n, d :: ds, h => by
    rw [flatOkL, Bool.and_eq_true] at h
    obtain ⟨h1, h2⟩ := lay_of n d h.1
    obtain ⟨h3, h4⟩ := layAll_of n ds h.2
    refine ⟨?_, ?_⟩
    · show (PyData.canLay0 (toPy d) && PyData.canLayAll0 (toPyL ds)) = true
      rw [h1, h3] <;> rfl
    · show max (PyData.depth (toPy d)) (PyData.depthAll (toPyL ds)) ≤ n
      omega
end
theorem shaped_of {n : Nat} {d : D} (h : flatOk n d = true) (hn : n ≤ 64) : SeqAt.shaped (toPy d) = true := by
  obtain ⟨h1, h2⟩ := lay_of n d h
  unfold SeqAt.shaped
  rw [h1, decide_eq_true (show (toPy d).depth ≤ 64 by omega)] <;> rfl
theorem flatOkL_mem {n : Nat} : ∀ {l : List D}, (∀ d ∈ l, flatOk n d = true) → flatOkL n l = true
  | [], _ => by simp [flatOkL]
  | d :: ds, h => by
    rw [flatOkL, h d List.mem_cons_self, flatOkL_mem fun x hx => h x (List.mem_cons_of_mem _ hx)] <;> rfl
/-- how data is compared -/
def eqB (x y : D) : Bool := PyData.eqv (toPy x) (toPy y)
theorem eqB_refl {n : Nat} {d : D} (h : flatOk n d = true) : eqB d d = true := PySem.SeqAt.eqv_refl _ (lay_of n d h).1
section
variable {X : Cx} {a b c e : Expr} {es : List Expr} {en : DEnv} {S : Sto} {Q : D → Sto → Prop} {pos : Pos}
/-! ### comparisons as values -/
def eqP (x y : D) (S : Sto) (Q : Bool → Sto → Prop) : Prop := match x, y with
  | .int i, .int j => Q (decide (i = j)) S
  | .str i, .str j => Q (decide (i = j)) S
  | x, y => (flatOk 9 x = true ∧ flatOk 9 y = true) ∧ Q (eqB x y) S
theorem dr_eq {K : PySem.W.Frag} {x y : D} (h : eqP x y S fun b S' => Q (.bl b) S') : DR2 K (fun x y H Q => rEq x y H Q ∨ rEqD K x y H Q) x y S Q := by
  intro H Hd vx vy Qv st rx ry k
  have deep : (flatOk 9 x = true ∧ flatOk 9 y = true) ∧ Q (.bl (eqB x y)) S → rEqD K vx vy H Qv := fun ⟨⟨h1, h2⟩, q⟩ =>
    ⟨toPy x, toPy y, dp_of 9 x vx h1 (Rp.mono st.sub x vx rx), dp_of 9 y vy h2 (Rp.mono st.sub y vy ry), shaped_of h1 (by decide), shaped_of h2 (by decide), k _ _ (.here (d := .bl (eqB x y)) st rfl q)⟩
  unfold eqP at h
  split at h
  · rename_i i j
    have e1 : vx = .int i := rx
    have e2 : vy = .int j := ry
    subst e1 e2
    refine .inl ⟨rfl, ?_⟩
    have e : decide (V.int i = V.int j) = decide (i = j) := by simp
    rw [e]
    exact k _ _ (.here (d := .bl (decide (i = j))) st rfl h)
  · rename_i i j
    have e1 : vx = .str i := rx
    have e2 : vy = .str j := ry
    subst e1 e2
    refine .inl ⟨rfl, ?_⟩
    have e : decide (V.str i = V.str j) = decide (i = j) := by simp
    rw [e]
    exact k _ _ (.here (d := .bl (decide (i = j))) st rfl h)
  · exact .inr (deep h)
theorem dr_ne {K : PySem.W.Frag} {x y : D} (h : eqP x y S fun b S' => Q (.bl (!b)) S') : DR2 K (fun x y H Q => rNe x y H Q ∨ rNeD K x y H Q) x y S Q := by
  intro H Hd vx vy Qv st rx ry k
  have deep : (flatOk 9 x = true ∧ flatOk 9 y = true) ∧ Q (.bl (!eqB x y)) S → rNeD K vx vy H Qv := fun ⟨⟨h1, h2⟩, q⟩ =>
    ⟨toPy x, toPy y, dp_of 9 x vx h1 (Rp.mono st.sub x vx rx), dp_of 9 y vy h2 (Rp.mono st.sub y vy ry), shaped_of h1 (by decide), shaped_of h2 (by decide), k _ _ (.here (d := .bl (!eqB x y)) st rfl q)⟩
  unfold eqP at h
  split at h
  · rename_i i j
    have e1 : vx = .int i := rx
    have e2 : vy = .int j := ry
    subst e1 e2
    refine .inl ⟨rfl, ?_⟩
    have e : decide (V.int i = V.int j) = decide (i = j) := by simp
    rw [e]
    exact k _ _ (.here (d := .bl (!decide (i = j))) st rfl h)
  · rename_i i j
    have e1 : vx = .str i := rx
    have e2 : vy = .str j := ry
    subst e1 e2
    refine .inl ⟨rfl, ?_⟩
    have e : decide (V.str i = V.str j) = decide (i = j) := by simp
    rw [e]
    exact k _ _ (.here (d := .bl (!decide (i = j))) st rfl h)
  · exact .inr (deep h)
theorem eq_int {i j : Int} {Q : Bool → Sto → Prop} (q : Q (decide (i = j)) S) : eqP (.int i) (.int j) S Q := q
theorem eq_str {i j : Str} {Q : Bool → Sto → Prop} (q : Q (decide (i = j)) S) : eqP (.str i) (.str j) S Q := q
theorem eq_tup {l m : List D} {Q : Bool → Sto → Prop} (q : Q (eqB (.tup l) (.tup m)) S) (h : flatOk 9 (.tup l) = true ∧ flatOk 9 (.tup m) = true := by exact ⟨rfl, rfl⟩) : eqP (.tup l) (.tup m) S Q := ⟨h, q⟩
theorem eq_lst {l m : List D} {Q : Bool → Sto → Prop} (q : Q (eqB (.lst l) (.lst m)) S) (h : flatOk 9 (.lst l) = true ∧ flatOk 9 (.lst m) = true := by exact ⟨rfl, rfl⟩) : eqP (.lst l) (.lst m) S Q := ⟨h, q⟩
theorem eq_scr {l : List Int} {m : List D} {Q : Bool → Sto → Prop} (q : Q (eqB (.scr l) (.lst m)) S) (h : flatOk 9 (.scr l) = true ∧ flatOk 9 (.lst m) = true := by exact ⟨rfl, rfl⟩) : eqP (.scr l) (.lst m) S Q := ⟨h, q⟩
theorem eq_deep {x y : D} {Q : Bool → Sto → Prop} (q : Q (eqB x y) S) (h : flatOk 9 x = true ∧ flatOk 9 y = true) (n1 : ∀ i j, x = .int i → y = .int j → False) (n2 : ∀ i j, x = .str i → y = .str j → False) : eqP x y S Q := by
  unfold eqP
  split
  · exact (n1 _ _ rfl rfl).elim
  · exact (n2 _ _ rfl rfl).elim
  · exact ⟨h, q⟩
/-- two equal data -/
theorem eqP_same {x y : D} {Q : Bool → Sto → Prop} (z : x = y) (h : flatOk 9 x = true) (q : Q true S) : eqP x y S Q := by
  subst z
  have e := eqB_refl h
  cases x <;> first
    | (refine ⟨⟨h, h⟩, ?_⟩
       rw [e]
       exact q)
    | (show Q (decide (_ = _)) S
       rw [decide_eq_true rfl]
       exact q)
theorem de_eq (hu : X.A.units + 64 < cLine) (h : DE X a en S fun x S1 => DE X b en S1 fun y S2 => eqP x y S2 fun b S' => Q (.bl b) S') : DE X (.Compare a [.Eq] [b] pos) en S Q :=
  de_cmpR (OpR.or op_eq (op_eqD hu)) (nobehind _ (by decide) (by decide)) (h.mono fun _ _ h1 => h1.mono fun _ _ h2 => dr_eq h2)
theorem de_ne (hu : X.A.units + 64 < cLine) (h : DE X a en S fun x S1 => DE X b en S1 fun y S2 => eqP x y S2 fun b S' => Q (.bl (!b)) S') : DE X (.Compare a [.NotEq] [b] pos) en S Q :=
  de_cmpR (OpR.or op_ne (op_neD hu)) (nobehind _ (by decide) (by decide)) (h.mono fun _ _ h1 => h1.mono fun _ _ h2 => dr_ne h2)
theorem de_lt (h : DE X a en S fun x S1 => DE X b en S1 fun y S2 => ∃ i j, x = .int i ∧ y = .int j ∧ Q (.bl (decide (i < j))) S2) : DE X (.Compare a [.Lt] [b] pos) en S Q :=
  de_cmpR op_lt (nobehind _ (by decide) (by decide)) (h.mono fun _ _ h1 => h1.mono fun _ _ ⟨_, _, e1, e2, q⟩ => by subst e1 e2; exact dr_B0 q)
theorem de_le (h : DE X a en S fun x S1 => DE X b en S1 fun y S2 => ∃ i j, x = .int i ∧ y = .int j ∧ Q (.bl (decide (i ≤ j))) S2) : DE X (.Compare a [.LtE] [b] pos) en S Q :=
  de_cmpR op_le (nobehind _ (by decide) (by decide)) (h.mono fun _ _ h1 => h1.mono fun _ _ ⟨_, _, e1, e2, q⟩ => by subst e1 e2; exact dr_B0 q)
theorem de_ge (h : DE X a en S fun x S1 => DE X b en S1 fun y S2 => ∃ i j, x = .int i ∧ y = .int j ∧ Q (.bl (decide (j ≤ i))) S2) : DE X (.Compare a [.GtE] [b] pos) en S Q :=
  de_cmpR op_ge (nobehind _ (by decide) (by decide)) (h.mono fun _ _ h1 => h1.mono fun _ _ ⟨_, _, e1, e2, q⟩ => by subst e1 e2; exact dr_B0 q)
/-! ### truths as values -/
theorem de_not (h : DE X a en S fun x S1 => ∃ c, x = .bl c ∧ Q (.bl (!c)) S1) : DE X (.UnaryOp .Not a pos) en S Q := ⟨fun σ H Hd st re => by
  refine wE_of (pe_not peW) ?_
  refine wE_mono (h σ H Hd st re) fun v H1 ⟨x, S1, Hd1, e1, st1, r1, i, e2, q1⟩ => ?_
  subst e2
  exact ⟨i, r1, .up e1 (.here (d := .bl (!i)) st1 rfl q1)⟩⟩
theorem de_one {op} (h : DE X a en S Q) : DE X (.BoolOp op [a] pos) en S Q := ⟨fun σ H Hd st re => wE_of (pe_one peW) (h σ H Hd st re)⟩
theorem de_and {rest : List Expr} (h : DE X a en S fun x S1 => ∃ c, x = .bl c ∧ (c = false → Q (.bl false) S1) ∧ (c = true → DE X (.BoolOp .And (b :: rest) pos) en S1 Q)) : DE X (.BoolOp .And (a :: b :: rest) pos) en S Q := ⟨fun σ H Hd st re => by
  refine wE_of (pe_and peW peW) ?_
  refine wE_mono (h σ H Hd st re) fun v H1 ⟨x, S1, Hd1, e1, st1, r1, i, e2, q1, q2⟩ => ?_
  subst e2
  refine ⟨i, r1, ?_⟩
  cases i with
  | true =>
    rw [if_pos rfl]
    exact wE_mono (q2 rfl σ H1 Hd1 st1 (re.mono e1)) fun _ _ z => .up e1 z
  | false =>
    rw [if_neg Bool.false_ne_true]
    exact .up e1 (.here (d := .bl false) st1 rfl (q1 rfl))⟩
theorem de_ifE (h : DT X c en S fun t S1 => (t = true → DE X a en S1 Q) ∧ (t = false → DE X b en S1 Q)) : DE X (.IfExp c a b pos) en S Q := ⟨fun σ H Hd st re => by
  refine wE_of (pe_ifExp ptW peW peW) ?_
  refine wT_mono (h σ H Hd st re) fun t H1 ⟨S1, Hd1, e1, st1, q1, q2⟩ => ?_
  cases t with
  | true =>
    rw [if_pos rfl]
    exact wE_mono (q1 rfl σ H1 Hd1 st1 (re.mono e1)) fun _ _ z => .up e1 z
  | false =>
    rw [if_neg Bool.false_ne_true]
    exact wE_mono (q2 rfl σ H1 Hd1 st1 (re.mono e1)) fun _ _ z => .up e1 z⟩
/-! ### tests -/
variable {P : Bool → Sto → Prop}
theorem dt_val (h : DE X a en S fun x S1 => ∃ c, x = .bl c ∧ P c S1) (he : ∀ whole, isTrue a X.env whole = (do let v ← whole; standAt a.pos; holding [v] (truthy v)) := by intro _; rfl) : DT X a en S P := ⟨fun σ H Hd st re => by
  refine wT_of (pt_val peW he) ?_
  refine wE_mono (h σ H Hd st re) fun v H1 ⟨x, S1, Hd1, e1, st1, r1, i, e2, q1⟩ => ?_
  subst e2
  exact ⟨i, r1, S1, Hd1, e1, st1, q1⟩⟩
theorem dt_not (h : DT X a en S fun c S1 => P (!c) S1) : DT X (.UnaryOp .Not a pos) en S P := ⟨fun σ H Hd st re => by
  refine wT_of (pt_not ptW) ?_
  exact wT_mono (h σ H Hd st re) fun c H1 ⟨S1, Hd1, e1, st1, q⟩ => ⟨S1, Hd1, e1, st1, q⟩⟩
theorem dt_w (h : DW X a en S P) : DT X a en S P := ⟨fun σ H Hd st re => wT_of (PW.pt pwW) (h σ H Hd st re)⟩
theorem dw_and1 (h : DT X a en S P) : DW X (.BoolOp .And [a] pos) en S P := ⟨fun σ H Hd st re => wW_of (pw_and1 ptW) (h σ H Hd st re)⟩
theorem dw_or1 (h : DT X a en S P) : DW X (.BoolOp .Or [a] pos) en S P := ⟨fun σ H Hd st re => wW_of (pw_or1 ptW) (h σ H Hd st re)⟩
theorem dw_and {rest : List Expr} (h : DT X a en S fun c S1 => (c = false → P false S1) ∧ (c = true → DW X (.BoolOp .And (b :: rest) pos) en S1 P)) : DW X (.BoolOp .And (a :: b :: rest) pos) en S P := ⟨fun σ H Hd st re => by
  refine wW_of (pw_and ptW pwW) ?_
  refine wT_mono (h σ H Hd st re) fun c H1 ⟨S1, Hd1, e1, st1, q1, q2⟩ => ?_
  cases c with
  | true =>
    rw [if_pos rfl]
    exact wW_mono (q2 rfl σ H1 Hd1 st1 (re.mono e1)) fun _ _ z => .up e1 z
  | false =>
    rw [if_neg Bool.false_ne_true]
    exact ⟨S1, Hd1, e1, st1, q1 rfl⟩⟩
theorem dw_or {rest : List Expr} (h : DT X a en S fun c S1 => (c = true → P true S1) ∧ (c = false → DW X (.BoolOp .Or (b :: rest) pos) en S1 P)) : DW X (.BoolOp .Or (a :: b :: rest) pos) en S P := ⟨fun σ H Hd st re => by
  refine wW_of (pw_or ptW pwW) ?_
  refine wT_mono (h σ H Hd st re) fun c H1 ⟨S1, Hd1, e1, st1, q1, q2⟩ => ?_
  cases c with
  | false =>
    rw [if_neg Bool.false_ne_true]
    exact wW_mono (q2 rfl σ H1 Hd1 st1 (re.mono e1)) fun _ _ z => .up e1 z
  | true =>
    rw [if_pos rfl]
    exact ⟨S1, Hd1, e1, st1, q1 rfl⟩⟩
/-- a comparison as a test -/
theorem dt_cmp {op : CmpOp} {r : R2} (ho : OpR X (compareOp op) r) (hm : behindInMarks op b = false) (h : DE X a en S fun x S1 => DE X b en S1 fun y S2 => DR2 X.K r x y S2 fun d S' => ∃ c, d = .bl c ∧ P c S') : DT X (.Compare a [op] [b] pos) en S P := ⟨fun σ H Hd st re => by
  refine wT_of (pt_cmpR ho peW peW hm) ?_
  refine wE_mono (h σ H Hd st re) fun v H1 ⟨x, S1, Hd1, e1, st1, r1, q1⟩ => ?_
  refine wE_mono (q1 σ H1 Hd1 st1 (re.mono e1)) fun u H2 ⟨y, S2, Hd2, e2, st2, r2, q2⟩ => ?_
  refine q2 H2 Hd2 v u _ st2 (Rp.mono e2 x v r1) r2 fun w H3 ⟨d, S3, Hd3, e3, st3, r3, c, ed, q3⟩ => ?_
  subst ed
  exact ⟨c, r3, S3, Hd3, (e1.trans e2).trans e3, st3, q3⟩⟩
theorem dt_lt (h : DE X a en S fun x S1 => DE X b en S1 fun y S2 => ∃ i j, x = .int i ∧ y = .int j ∧ P (decide (i < j)) S2) : DT X (.Compare a [.Lt] [b] pos) en S P :=
  dt_cmp op_lt (nobehind _ (by decide) (by decide)) (h.mono fun _ _ h1 => h1.mono fun _ _ ⟨_, _, e1, e2, q⟩ => by subst e1 e2; exact dr_B0 ⟨_, rfl, q⟩)
theorem dt_gt (h : DE X a en S fun x S1 => DE X b en S1 fun y S2 => ∃ i j, x = .int i ∧ y = .int j ∧ P (decide (j < i)) S2) : DT X (.Compare a [.Gt] [b] pos) en S P :=
  dt_cmp op_gt (nobehind _ (by decide) (by decide)) (h.mono fun _ _ h1 => h1.mono fun _ _ ⟨_, _, e1, e2, q⟩ => by subst e1 e2; exact dr_B0 ⟨_, rfl, q⟩)
theorem dt_ge (h : DE X a en S fun x S1 => DE X b en S1 fun y S2 => ∃ i j, x = .int i ∧ y = .int j ∧ P (decide (j ≤ i)) S2) : DT X (.Compare a [.GtE] [b] pos) en S P :=
  dt_cmp op_ge (nobehind _ (by decide) (by decide)) (h.mono fun _ _ h1 => h1.mono fun _ _ ⟨_, _, e1, e2, q⟩ => by subst e1 e2; exact dr_B0 ⟨_, rfl, q⟩)
theorem dt_eq (hu : X.A.units + 64 < cLine) (h : DE X a en S fun x S1 => DE X b en S1 fun y S2 => eqP x y S2 P) : DT X (.Compare a [.Eq] [b] pos) en S P :=
  dt_cmp (OpR.or op_eq (op_eqD hu)) (nobehind _ (by decide) (by decide)) (h.mono fun _ _ h1 => h1.mono fun x y h2 => dr_eq (by
    unfold eqP at h2 ⊢
    split at h2 <;> first | exact ⟨_, rfl, h2⟩ | exact ⟨h2.1, _, rfl, h2.2⟩))
theorem dt_ne (hu : X.A.units + 64 < cLine) (h : DE X a en S fun x S1 => DE X b en S1 fun y S2 => eqP x y S2 fun b S' => P (!b) S') : DT X (.Compare a [.NotEq] [b] pos) en S P :=
  dt_cmp (OpR.or op_ne (op_neD hu)) (nobehind _ (by decide) (by decide)) (h.mono fun _ _ h1 => h1.mono fun x y h2 => dr_ne (by
    unfold eqP at h2 ⊢
    split at h2 <;> first | exact ⟨_, rfl, h2⟩ | exact ⟨h2.1, _, rfl, h2.2⟩))
/-! ### displays, subscripts, slices -/
variable {R : List D → Sto → Prop}
theorem da_nil (q : R [] S) : DA X [] en S R := ⟨fun σ H Hd st _ => wA_of pa_nil ⟨[], S, Hd, Same.refl _, st, rfl, q⟩⟩
theorem da_cons (h : DE X e en S fun x S1 => DA X es en S1 fun xs S2 => R (x :: xs) S2) (hs : starEach (e :: es) X.env = (false, eval e X.env) :: starEach es X.env := by rfl) : DA X (e :: es) en S R := ⟨fun σ H Hd st re => by
  refine wA_of (pa_cons peW paW hs) ?_
  refine wE_mono (h σ H Hd st re) fun v H1 ⟨x, S1, Hd1, e1, st1, r1, q1⟩ => ?_
  refine wA_mono (q1 σ H1 Hd1 st1 (re.mono e1)) fun vs H2 ⟨xs, S2, Hd2, e2, st2, r2, q2⟩ => ?_
  exact ⟨x :: xs, S2, Hd2, e1.trans e2, st2, ⟨v, vs, rfl, Rp.mono e2 x v r1, r2⟩, q2⟩⟩
theorem DA.mono {R' : List D → Sto → Prop} (h : DA X es en S R) (k : ∀ d S', R d S' → R' d S') : DA X es en S R' := ⟨fun σ H Hd st re =>
  wA_mono (h σ H Hd st re) fun _ _ ⟨d, S', Hd', e', st', r, q⟩ => ⟨d, S', Hd', e', st', r, k d S' q⟩⟩
theorem de_tup {x1} (h : DA X es en S fun xs S1 => xs.length ≤ 100000 ∧ Q (.tup xs) S1) : DE X (.Tuple es x1 pos) en S Q := ⟨fun σ H Hd st re => by
  refine wE_of (pe_tup paW) ?_
  refine wA_mono (h σ H Hd st re) fun vs H1 ⟨xs, S1, Hd1, e1, st1, r1, n1, q1⟩ => ?_
  exact ⟨by rw [r1.length]; exact sz5 n1, fun p hp => .up e1 (new_tup st1 r1 hp q1)⟩⟩
theorem de_lst (h : DA X es en S fun xs S1 => xs.length ≤ 100000 ∧ Q (.lst xs) S1) : DE X (.List es pos) en S Q := ⟨fun σ H Hd st re => by
  refine wE_of (pe_lst paW) ?_
  refine wA_mono (h σ H Hd st re) fun vs H1 ⟨xs, S1, Hd1, e1, st1, r1, n1, q1⟩ => ?_
  exact ⟨by rw [r1.length]; exact sz5 n1, fun p hp => .up e1 (new_lst st1 r1 hp q1)⟩⟩
/-- a list that will be changed -/
theorem de_lstO (h : DA X es en S fun xs S1 => xs.length ≤ 100000 ∧ ∀ p, getS p S1 = none → Q (.raw (.ref p)) ((p, xs) :: S1)) : DE X (.List es pos) en S Q := ⟨fun σ H Hd st re => by
  refine wE_of (pe_lst paW) ?_
  refine wA_mono (h σ H Hd st re) fun vs H1 ⟨xs, S1, Hd1, e1, st1, r1, n1, q1⟩ => ?_
  refine ⟨by rw [r1.length]; exact sz5 n1, fun p hp => ?_⟩
  obtain ⟨g, st2⟩ := st1.laidO hp r1
  exact ⟨.raw (.ref p), _, Hd1, e1, st2, rfl, q1 p g⟩⟩
def ixP (x y : D) (S : Sto) (Q : D → Sto → Prop) : Prop := match x, y with
  | .tup l, .int i => ∃ d, atI l i = some d ∧ Q d S
  | .lst l, .int i => ∃ d, atI l i = some d ∧ Q d S
  | .raw (.ref p), .int i => ∃ l d, getS p S = some l ∧ atI l i = some d ∧ Q d S
  | _, _ => False
theorem RpL.at {K : PySem.W.Frag} {H : Hp} {l : List D} {vs : List V} {i : Int} {d : D} (h : RpL K H l vs) (e : atI l i = some d) : ∃ v, atI vs i = some v ∧ Rp K H d v := by
  unfold atI at e ⊢
  rw [h.length]
  cases q : ixN l.length i with
  | none =>
    rw [q] at e
    cases e
  | some j =>
    rw [q] at e
    exact h.get e
theorem de_ix (hs : PlainIx b := by exact fun _ _ => rfl) (h : DE X a en S fun x S1 => DE X b en S1 fun y S2 => ixP x y S2 Q) : DE X (.Subscript a b pos) en S Q := by
  refine de_two (f := fun _ _ => pure .none) (fun ha hb => pe_ix (IxR.or ix_list ix_tup) ha hb hs) (h.mono fun x S1 h1 => h1.mono fun y S2 h2 => ?_)
  intro H Hd vx vy Qv st rx ry k
  unfold ixP at h2
  split at h2
  · obtain ⟨p, xs, e1, e2, e3⟩ := rx
    obtain ⟨d, ed, q⟩ := h2
    obtain ⟨v, ev, rv⟩ := e3.at ed
    exact .inr ⟨p, xs, _, v, e1, ry, same_t st.sub e2, ev, k _ _ (.here st rv q)⟩
  · obtain ⟨p, xs, e1, e2, e3⟩ := rx
    obtain ⟨d, ed, q⟩ := h2
    obtain ⟨v, ev, rv⟩ := e3.at ed
    exact .inl ⟨p, xs, _, v, e1, ry, .of (st.sub _ _ e2), ev, k _ _ (.here st rv q)⟩
  · obtain ⟨l, d, g, ed, q⟩ := h2
    obtain ⟨_, xs, e2, e3⟩ := st.own.at g
    obtain ⟨v, ev, rv⟩ := e3.at ed
    exact .inl ⟨_, xs, _, v, rx, ry, .of e2, ev, k _ _ (.here st rv q)⟩
  · exact h2.elim
theorem ix_t {l : List D} {i : Int} {d : D} (q : Q d S) (h : atI l i = some d := by rfl) : ixP (.tup l) (.int i) S Q := ⟨d, h, q⟩
theorem ix_l {l : List D} {i : Int} {d : D} (q : Q d S) (h : atI l i = some d := by rfl) : ixP (.lst l) (.int i) S Q := ⟨d, h, q⟩
theorem ix_o {p : Addr} {l : List D} {i : Int} {d : D} (g : getS p S = some l) (q : Q d S) (h : atI l i = some d := by rfl) : ixP (.raw (.ref p)) (.int i) S Q := ⟨l, d, g, h, q⟩
/-- the part of a slice -/
def DO (X : Cx) (e : Option Expr) (en : DEnv) (S : Sto) (Q : Option Int → Prop) : Prop := match e with
  | none => Q none
  | some e => DE X e en S fun x S' => S' = S ∧ ∃ i, x = .int i ∧ Q (some i)
def cutD (l : List D) (lo hi : Option Int) : List D := (l.drop (HT.sIx l.length 0 lo)).take (HT.sIx l.length l.length hi - HT.sIx l.length 0 lo)
theorem RpL.cut {K : PySem.W.Frag} {H : Hp} {l : List D} {vs : List V} (h : RpL K H l vs) (lo hi : Option Int) : RpL K H (cutD l lo hi) (cutV vs lo hi) := by
  unfold cutD cutV
  rw [h.length]
  exact (h.drop _).take _
theorem SlR.or {r r' : V → Option Int → Option Int → Hp → VK → Prop} (h : SlR X r) (h' : SlR X r') : SlR X (fun x l u H Q => r x l u H Q ∨ r' x l u H Q) := by
  intro pins s σ H x v vl vu lo hi sl Q I rx hs pl pu q
  rcases q with q | q
  · exact h pins s σ H x v vl vu lo hi sl Q I rx hs pl pu q
  · exact h' pins s σ H x v vl vu lo hi sl Q I rx hs pl pu q
def slP (x : D) (lo hi : Option Int) (S : Sto) (Q : D → Sto → Prop) : Prop := match x with
  | .tup l => ¬ (HT.sIx l.length 0 lo = 0 ∧ HT.sIx l.length l.length hi = l.length) ∧ Q (.tup (cutD l lo hi)) S
  | .lst l => Q (.lst (cutD l lo hi)) S
  | _ => False
theorem de_slice {lo hi : Option Expr} {p2 : Pos} (h : DE X a en S fun x S1 => DO X lo en S1 fun l => DO X hi en S1 fun u => slP x l u S1 Q) : DE X (.Subscript a (.Slice lo hi none p2) pos) en S Q := ⟨fun σ H Hd st re => by
  -- each part's own reading
  have part : ∀ (o : Option Expr), ∃ t : TO, PO X o t ∧ ∀ {S : Sto} {R : Option Int → Prop} (H Hd : Hp), DO X o en S R → St0 X.K S Hd H → RpE X.K Hd en σ → ∀ Qo : Option Int → Hp → Prop, (∀ i H' Hd', Same Hd Hd' → St0 X.K S Hd' H' → R i → Qo i H') → t σ H Qo := by
    intro o
    cases o with
    | none => exact ⟨_, po_none, fun H Hd d st re Qo k => k none H Hd (Same.refl _) st d⟩
    | some e =>
      refine ⟨_, po_some peW, fun {S R} H Hd d st re Qo k => ?_⟩
      have d : DE X e en S fun x S' => S' = S ∧ ∃ i, x = .int i ∧ R (some i) := d
      show wE X e σ H _
      refine wE_mono (d σ H Hd st re) fun v H1 ⟨x, S1, Hd1, e1, st1, r1, eS, i, ex, q⟩ => ?_
      subst ex eS
      exact ⟨i, r1, k (some i) H1 Hd1 e1 st1 q⟩
  obtain ⟨tl, pl, kl⟩ := part lo
  obtain ⟨th, ph, kh⟩ := part hi
  refine wE_of (pe_slice (SlR.or sl_list sl_tup) peW pl ph) ?_
  refine wE_mono (h σ H Hd st re) fun v H1 ⟨x, S1, Hd1, e1, st1, r1, q1⟩ => ?_
  refine kl H1 Hd1 q1 st1 (re.mono e1) _ fun l H2 Hd2 e2 st2 q2 => ?_
  refine kh H2 Hd2 q2 st2 (re.mono (e1.trans e2)) _ fun u H3 Hd3 e3 st3 q3 => ?_
  have r3 := Rp.mono (e2.trans e3) x v r1
  unfold slP at q3
  split at q3
  · obtain ⟨p, xs, f1, f2, f3⟩ := r3
    refine .inr ⟨p, xs, f1, same_t st3.sub f2, ?_, fun a ha => .up ((e1.trans e2).trans e3) (new_tup st3 (f3.cut l u) ha q3.2)⟩
    rw [f3.length]
    exact q3.1
  · obtain ⟨p, xs, f1, f2, f3⟩ := r3
    exact .inl ⟨p, xs, f1, .of (st3.sub _ _ f2), fun a ha => .up ((e1.trans e2).trans e3) (new_lst st3 (f3.cut l u) ha q3)⟩
  · exact q3.elim⟩
end
end DL
namespace DL
open PySem PySem.Spec PyProof.Rows L2

/-! ### promises of defs that may show data (repr): nothing is being shown around them -/
structure GOk (P : Program) (w : World) (K : PySem.W.Frag) (mg : Str → Option Value) (base : Heap) (k : Nat) (f : Addr) (fd : FuncData) (ps : List Str) (sp : Sp) : Prop where
  len : ∀ vs H Q E, sp vs H Q E → vs.length = ps.length
  run : ∀ (A : Around) (fr : List Env) (s : Shared) (H : Hp) (ar : Args) (us : List Value) (vs : List V) (Q : VK) (E : XK), A.guards = some [] → Room k A →
    Env0 P w K mg base A fr s H → BindsTo s fd ar (ps.zip us) → Vals vs us → sp vs H Q E → codeAny (model P w) A (.call (.ref f) ar) (CR CX0 fr P w H s Q E) s
section
variable {P : Program} {w : World} {K : PySem.W.Frag} {mg : Str → Option Value} {base : Heap}
/-- a def of the text keeps its promise, by its body -/
theorem gok_of {k : Nat} {x qual : Str} {st : Stmt} {f : Addr} {fd : FuncData} {N ps : List Str} {sp : Sp} (F : Fun K x qual st f fd) (S : FnScope N ps (defScope st)) (ln : ∀ vs H Q E, sp vs H Q E → vs.length = ps.length)
    (body : ∀ (cdv : Value) (A : Around) (fr : List Env) (s : Shared) (H : Hp) (vs : List V) (Q : VK) (E : XK), (A.deeper (envOfC qual (defScope st) s.heap.objs.size f cdv)).guards = some [] → Room k (A.deeper (envOfC qual (defScope st) s.heap.objs.size f cdv)) → sp vs H Q E →
      wSs (cxOf CX0 P w K mg base N qual (defScope st) f cdv A fr s H E).nox (defBody st) { nx := fun _ H' => Q .non H', rt := Q } (start N vs) H) : GOk P w K mg base (k + 1) f fd ps sp := by
  obtain ⟨oc, od, kV, doc, pm, an, cdv, ct, osl, rfl, lk, hcd⟩ := F.ex
  refine ⟨ln, fun A fr s H ar us vs Q E gd hr e0 hb r hsp => ?_⟩
  have long := ln _ _ _ _ hsp
  have KX : K.In s.heap := e0.mod.kin.keeps fun b o e => (e0.bs b o e).1
  have free : s.heap.NoLimit := e0.mod.nolimit.keeps fun b o e => (e0.bs b o e).1
  refine codeAny_call_function hr.depth (KX _ _ lk) rfl S.co S.gen rfl (PySem.W.codeRec_of KX hcd) (hb _ _ _ _ ?_)
  refine wpAny_newFunctionEnv_cells S.kind (fun y hy => ?_) fun env he s1 xx => ?_
  · obtain ⟨n, v⟩ := y
    rcases S.par n (List.of_mem_zip hy).1 with z | z
    · exact .inl z
    · exact .inr ⟨z, PySem.W.cellsFrom_some _ _ _ (.inl z)⟩
  subst he
  refine ⟨free.keeps xx.toInCall.keep, codeAny_func ?_⟩
  have J : Inv (cxOf CX0 P w K mg base N qual (defScope st) f cdv A fr s H E) [] (start N vs) H s1 := inv_start S hr.hd e0 long r xx
  have run := (pssW (X := (cxOf CX0 P w K mg base N qual (defScope st) f cdv A fr s H E).nox) (sts := defBody st)).nox.run [] s1 (start N vs) H _ J (body cdv A fr s H vs Q E gd (hr.deeper _) hsp)
  refine wpAny_mono run (fun fl s' hs => ?_) fun e s' hs => hs
  have out : ∀ {σ' : L2.St} {H' : Hp} {v : V} {u : Value}, Inv (cxOf CX0 P w K mg base N qual (defScope st) f cdv A fr s H E) [] σ' H' s' → RelV v u → Q v H' → CE fr P w H s Q u s' :=
    fun {σ' H' v u} I rv q => ⟨v, H', I.os, I.bare, I.base, I.hok, rv, q⟩
  cases fl with
  | ret u =>
    obtain ⟨v, σ', H', I, rv, q⟩ := hs
    exact out I rv q
  | next =>
    obtain ⟨σ', H', I, q⟩ := hs
    exact out (v := V.non) (u := Value.none) I rfl q
  | brk => exact hs.elim fun _ h => h.elim fun _ h => h.2.elim
  | cont => exact hs.elim fun _ h => h.elim fun _ h => h.2.elim
end

/-! ### what a def does to data -/
abbrev Con := List D → Sto → (D → Sto → Prop) → Prop
def spD (K : PySem.W.Frag) (C : Con) : Sp := fun vs H Q _ => ∃ (ds : List D) (S : Sto) (Hd : Hp) (Qd : D → Sto → Prop), RpL K Hd ds vs ∧ St0 K S Hd H ∧ C ds S Qd ∧
  ∀ d S' v H' Hd', Qd d S' → Same Hd Hd' → St0 K S' Hd' H' → Rp K Hd' d v → Q v H'
/-- the values in the parameters' order, the named ones by their names -/
def ordV {α : Type} (df : α) (names ks : List Str) (zs : List α) : List α := names.map fun x => ((ks.zip zs).lookup x).getD df
/-- how such a call's arguments are bound: n of them by position -/
def KwOk (fd : FuncData) (ps : List Str) (p : Nat × List Str) : Prop := p.1 + p.2.length = ps.length ∧ (∀ y ∈ ps.drop p.1, y ∈ p.2) ∧
  ∀ us ws : List Value, us.length = p.1 → ws.length = p.2.length → bindArgs fd ⟨us, p.2.zip ws⟩ = pure (ps.zip (us ++ ordV .none (ps.drop p.1) p.2 ws))
/-- a def that stands in the module under the name x, with its promise -/
structure Cal (P : Program) (w : World) (K : PySem.W.Frag) (mg : Str → Option Value) (base : Heap) (k : Nat) (x : Str) (ps : List Str) (kws : List (Nat × List Str)) (C : Con) : Prop where
  ex : ∃ (f : Addr) (fd : FuncData), GOk P w K mg base k f fd ps (spD K C) ∧ mg x = some (.ref f) ∧ PySem.W.keepIn K (.ref f) = true ∧
    (∀ us : List Value, us.length = ps.length → bindArgs fd ⟨us, []⟩ = pure (ps.zip us)) ∧ ∀ p ∈ kws, KwOk fd ps p
theorem RpL.vals {K : PySem.W.Frag} {H : Hp} {ds : List D} {vs : List V} (h : RpL K H ds vs) : vs.length = ds.length := h.length
theorem lookup_rp {K : PySem.W.Frag} {H : Hp} {y : Str} : ∀ {ks : List Str} {ds : List D} {vs : List V}, RpL K H ds vs → ks.length = ds.length → y ∈ ks → Rp K H (((ks.zip ds).lookup y).getD .non) (((ks.zip vs).lookup y).getD .non)
  | [], _, _, _, _, hy => nomatch hy
  | k :: ks, [], _, _, e, _ => by simp at e
  | k :: ks, d :: ds, _, h, e, hy => by
    obtain ⟨x, xs, rfl, h1, h2⟩ := h
    show Rp K H ((((k, d) :: ks.zip ds).lookup y).getD .non) ((((k, x) :: ks.zip xs).lookup y).getD .non)
    rw [List.lookup_cons, List.lookup_cons]
    cases q : (y == k) with
    | true => exact h1
    | false =>
      have ne : ¬ y = k := fun z => by
        rw [z] at q
        simp at q
      rcases List.mem_cons.mp hy with z | z
      · exact absurd z ne
      · exact lookup_rp h2 (by simpa using e) z
theorem lookup_vals {y : Str} : ∀ {ks : List Str} {vs : List V} {ws : List Value}, Vals vs ws → ks.length = vs.length → y ∈ ks → RelV (((ks.zip vs).lookup y).getD .non) (((ks.zip ws).lookup y).getD .none)
  | [], _, _, _, _, hy => nomatch hy
  | k :: ks, _, _, .nil, e, _ => by simp at e
  | k :: ks, _, _, .cons (a := a) (b := b) (l₁ := l1) (l₂ := l2) h1 h2, e, hy => by
    show RelV ((((k, a) :: ks.zip l1).lookup y).getD .non) ((((k, b) :: ks.zip l2).lookup y).getD .none)
    rw [List.lookup_cons, List.lookup_cons]
    cases q : (y == k) with
    | true => exact h1
    | false =>
      have ne : ¬ y = k := fun z => by
        rw [z] at q
        simp at q
      rcases List.mem_cons.mp hy with z | z
      · exact absurd z ne
      · exact lookup_vals h2 (by simpa using e) z
theorem ord_rp {K : PySem.W.Frag} {H : Hp} {ks : List Str} {ds : List D} {vs : List V} (h : RpL K H ds vs) (e : ks.length = ds.length) : ∀ {names : List Str}, (∀ y ∈ names, y ∈ ks) → RpL K H (ordV .non names ks ds) (ordV .non names ks vs)
  | [], _ => rfl
  | n :: ns, hm => ⟨_, _, rfl, lookup_rp h e (hm n List.mem_cons_self), ord_rp h e fun y hy => hm y (List.mem_cons_of_mem _ hy)⟩
theorem ord_vals {ks : List Str} {vs : List V} {ws : List Value} (h : Vals vs ws) (e : ks.length = vs.length) : ∀ {names : List Str}, (∀ y ∈ names, y ∈ ks) → Vals (ordV .non names ks vs) (ordV .none names ks ws)
  | [], _ => .nil
  | n :: ns, hm => .cons (lookup_vals h e (hm n List.mem_cons_self)) (ord_vals h e fun y hy => hm y (List.mem_cons_of_mem _ hy))

/-! ### calls -/
def wK (X : Cx) (kws : List Keyword) : TA := fun σ H Q => ∀ (pos : Pos) pins s, Inv X pins σ H s → wpAny (model X.prog X.w) X.A (evalAll ((backToKw pos (keywordEach kws X.env)).map (·.2))) (AP X pins σ Q) X.xe s
structure DK (X : Cx) (kws : List Keyword) (en : DEnv) (S : Sto) (Q : List D → Sto → Prop) : Prop where
  run : ∀ (σ : L2.St) (H Hd : Hp), St0 X.K S Hd H → RpE X.K Hd en σ → wK X kws σ H (QA X.K Hd Q)
instance {X : Cx} {kws : List Keyword} {en : DEnv} {S : Sto} {Q : List D → Sto → Prop} : CoeFun (DK X kws en S Q) (fun _ => ∀ (σ : L2.St) (H Hd : Hp), St0 X.K S Hd H → RpE X.K Hd en σ → wK X kws σ H (QA X.K Hd Q)) := ⟨fun h => h.run⟩
section
variable {X : Cx} {a b c e : Expr} {es : List Expr} {kwl : List Keyword} {en : DEnv} {S : Sto} {Q : D → Sto → Prop} {R : List D → Sto → Prop} {pos p kpos : Pos} {k : Nat} {x : Str} {ps ks : List Str} {kws : List (Nat × List Str)} {C : Con}
/-- the callee runs -/
theorem run_cal (c : Cal X.prog X.w X.K X.mg X.base k x ps kws C) (gd : X.A.guards = some []) (hr : Room k X.A) : ∃ f : Addr, X.mg x = some (.ref f) ∧ PySem.W.keepIn X.K (.ref f) = true ∧
    (∀ {pins : List (Addr × Obj)} {σ : L2.St} {H Hd : Hp} {s : Shared} {us : List Value} {vs : List V} {ds : List D} {S : Sto} {Q : D → Sto → Prop} {Qv : VK}, Inv X pins σ H s → Vals vs us → RpL X.K Hd ds vs → St0 X.K S Hd H → C ds S Q → (∀ v H', QD X.K Hd Q v H' → Qv v H') →
      wpAny (model X.prog X.w) X.A (call (.ref f) us) (EP X pins σ Qv) X.xe s) ∧
    ∀ (n : Nat) (ks : List Str), (n, ks) ∈ kws → ∀ {pins : List (Addr × Obj)} {σ : L2.St} {H Hd : Hp} {s : Shared} {us ws : List Value} {vs zs : List V} {ds fs : List D} {S : Sto} {Q : D → Sto → Prop} {Qv : VK}, Inv X pins σ H s → Vals vs us → Vals zs ws → us.length = n → ws.length = ks.length →
      RpL X.K Hd ds vs → RpL X.K Hd fs zs → St0 X.K S Hd H → C (ds ++ ordV .non (ps.drop n) ks fs) S Q → (∀ v H', QD X.K Hd Q v H' → Qv v H') → wpAny (model X.prog X.w) X.A (call (.ref f) us (ks.zip ws)) (EP X pins σ Qv) X.xe s := by
  obtain ⟨f, fd, G, hm, hk, hb, hkw⟩ := c.ex
  refine ⟨f, hm, hk, fun {pins σ H Hd s us vs ds S Q Qv} I r rd st q kq => ?_, fun n ks hn {pins σ H Hd s us ws vs zs ds fs S Q Qv} I r rz ln lw rd rf st q kq => ?_⟩
  · have hs : spD X.K C vs H Qv E0 := ⟨ds, S, Hd, Q, rd, st, q, fun d S' v H' Hd' z1 z2 z3 z4 => kq v H' ⟨d, S', Hd', z2, z3, z4, z1⟩⟩
    have hl : us.length = ps.length := by rw [← r.length]; exact G.len _ _ _ _ hs
    refine wpAny_call (codeAny_mono (G.run X.A X.stack s H ⟨us, []⟩ us vs Qv E0 gd hr I.env0 (.of_eq (hb us hl)) r hs) fun res s' hq => ?_)
    cases res with
    | error e => exact hq.elim
    | ok fl =>
      cases fl with
      | ret u => exact I.after hq
      | next => exact hq.elim
      | brk => exact hq.elim
      | cont => exact hq.elim
  · obtain ⟨k1, k2, k3⟩ := hkw _ hn
    have lz : ks.length = zs.length := by rw [rz.length]; exact lw.symm
    have lf : ks.length = fs.length := by rw [lz, rf.length]
    have hs : spD X.K C (vs ++ ordV .non (ps.drop n) ks zs) H Qv E0 := ⟨_, S, Hd, Q, rd.append (ord_rp rf lf k2), st, q, fun d S' v H' Hd' z1 z2 z3 z4 => kq v H' ⟨d, S', Hd', z2, z3, z4, z1⟩⟩
    refine wpAny_call (codeAny_mono (G.run X.A X.stack s H ⟨us, ks.zip ws⟩ (us ++ ordV .none (ps.drop n) ks ws) _ Qv E0 gd hr I.env0 (.of_eq (k3 us ws ln lw)) (r.append (ord_vals rz lz k2)) hs) fun res s' hq => ?_)
    cases res with
    | error e => exact hq.elim
    | ok fl =>
      cases fl with
      | ret u => exact I.after hq
      | next => exact hq.elim
      | brk => exact hq.elim
      | cont => exact hq.elim
/-- f(e, ..) -/
theorem de_call (c : Cal X.prog X.w X.K X.mg X.base k x ps kws C) (gd : X.A.guards = some []) (hr : Room k X.A) (h : DA X (e :: es) en S fun ds S1 => C ds S1 Q) (hg : Gl X x := by rfl)
    (hdb : (x == ("__debug__" : Str)) = false := by decide) (he : starEach (e :: es) X.env = (false, eval e X.env) :: starEach es X.env := by rfl) (hpl : (backTo pos (starEach es X.env)).any (·.1) = false := by rfl) : DE X (.Call (.Name x p) (e :: es) [] pos) en S Q := by
  refine ⟨fun σ H Hd st re => ?_⟩
  intro pins s I
  obtain ⟨f, hm, hk, run, _⟩ := run_cal c gd hr
  refine wpAny_Call_Name_kw (ld_glob I hg hm ?_ hdb)
  refine PySem.W.callWith_K (h₀ := X.base) I.ok.mod.kin hk (thn (h σ H Hd st re pos pins s I) fun us s1 ⟨vs, H1, I1, r, ds, S1, Hd1, e1, st1, r1, q1⟩ => ⟨I1.kIn, ?_⟩) he hpl
  exact run I1 r r1 st1 q1 fun v H' z => .up e1 z
/-! ### built-ins -/
def DRC (K : PySem.W.Frag) (r : List V → Hp → VK → Prop) (ds : List D) (S : Sto) (Q : D → Sto → Prop) : Prop :=
  ∀ (H Hd : Hp) (vs : List V) (Qv : VK), St0 K S Hd H → RpL K Hd ds vs → (∀ v H', QD K Hd Q v H' → Qv v H') → r vs H Qv
variable {id T : String} {r : List V → Hp → VK → Prop}
theorem de_B (hc : CallR X (.builtin id) r) (hm : X.mg x = none) (hv : bootBuiltins x = some (.builtin id)) (h : DA X (e :: es) en S fun ds S1 => DRC X.K r ds S1 Q) (hg : Gl X x := by rfl) (hn : x ≠ "__name__" := by decide) (hdb : (x == ("__debug__" : Str)) = false := by decide)
    (he : starEach (e :: es) X.env = (false, eval e X.env) :: starEach es X.env := by rfl) (hpl : (backTo pos (starEach es X.env)).any (·.1) = false := by rfl) : DE X (.Call (.Name x p) (e :: es) [] pos) en S Q := ⟨fun σ H Hd st re => by
  refine wE_of (pe_callB hc hg hm hv paW hn hdb he hpl) ?_
  exact wA_mono (h σ H Hd st re) fun vs H1 ⟨ds, S1, Hd1, e1, st1, r1, q1⟩ => q1 H1 Hd1 vs _ st1 r1 fun v H' z => .up e1 z⟩
theorem de_T (hc : CallR X (.type T) r) (hm : X.mg x = none) (hv : bootBuiltins x = some (.type T)) (h : DA X (e :: es) en S fun ds S1 => DRC X.K r ds S1 Q) (hg : Gl X x := by rfl) (hn : x ≠ "__name__" := by decide) (hdb : (x == ("__debug__" : Str)) = false := by decide)
    (he : starEach (e :: es) X.env = (false, eval e X.env) :: starEach es X.env := by rfl) (hpl : (backTo pos (starEach es X.env)).any (·.1) = false := by rfl) : DE X (.Call (.Name x p) (e :: es) [] pos) en S Q := ⟨fun σ H Hd st re => by
  refine wE_of (pe_callTy hc hg hm hv paW hn hdb he hpl) ?_
  exact wA_mono (h σ H Hd st re) fun vs H1 ⟨ds, S1, Hd1, e1, st1, r1, q1⟩ => q1 H1 Hd1 vs _ st1 r1 fun v H' z => .up e1 z⟩
theorem one_rp {K : PySem.W.Frag} {H : Hp} {d : D} {vs : List V} (h : RpL K H [d] vs) : ∃ v, vs = [v] ∧ Rp K H d v := by
  obtain ⟨v, vs', e1, rv, e2⟩ := h
  have e2 : vs' = [] := e2
  subst e2
  exact ⟨v, e1, rv⟩
theorem two_rp {K : PySem.W.Frag} {H : Hp} {d e : D} {vs : List V} (h : RpL K H [d, e] vs) : ∃ v w, vs = [v, w] ∧ Rp K H d v ∧ Rp K H e w := by
  obtain ⟨v, vs', e1, rv, e2⟩ := h
  obtain ⟨w, e3, rw'⟩ := one_rp e2
  subst e3
  exact ⟨v, w, e1, rv, rw'⟩
variable {K : PySem.W.Frag}
theorem drc_abs {i : Int} (q : Q (.int (if i < 0 then -i else i)) S) : DRC K (fun xs H Q => ∃ i, xs = [.int i] ∧ Q (.int (if i < 0 then -i else i)) H) [.int i] S Q := fun H Hd vs Qv st rr k => by
  obtain ⟨v, e1, rv⟩ := one_rp rr
  have rv : v = V.int i := rv
  subst e1 rv
  exact ⟨i, rfl, k _ _ (.here (d := .int _) st rfl q)⟩
theorem drc_int {i : Int} (q : Q (.int i) S) : DRC K (fun xs H Q => (∃ i, xs = [.int i] ∧ Q (.int i) H) ∨ ∃ k, xs = [.bl k] ∧ Q (.int (if k then 1 else 0)) H) [.int i] S Q := fun H Hd vs Qv st rr k => by
  obtain ⟨v, e1, rv⟩ := one_rp rr
  have rv : v = V.int i := rv
  subst e1 rv
  exact .inl ⟨i, rfl, k _ _ (.here (d := .int _) st rfl q)⟩
theorem drc_intb {i : Bool} (q : Q (.int (if i then 1 else 0)) S) : DRC K (fun xs H Q => (∃ i, xs = [.int i] ∧ Q (.int i) H) ∨ ∃ k, xs = [.bl k] ∧ Q (.int (if k then 1 else 0)) H) [.bl i] S Q := fun H Hd vs Qv st rr k => by
  obtain ⟨v, e1, rv⟩ := one_rp rr
  have rv : v = V.bl i := rv
  subst e1 rv
  exact .inr ⟨i, rfl, k _ _ (.here (d := .int _) st rfl q)⟩
theorem drc_max {i j : Int} (q : Q (.int (if j > i then j else i)) S) : DRC K (fun xs H Q => ∃ i j, xs = [.int i, .int j] ∧ Q (.int (if j > i then j else i)) H) [.int i, .int j] S Q := fun H Hd vs Qv st rr k => by
  obtain ⟨v, w, e1, rv, rw'⟩ := two_rp rr
  have rv : v = V.int i := rv
  have rw' : w = V.int j := rw'
  subst e1 rv rw'
  exact ⟨i, j, rfl, k _ _ (.here (d := .int _) st rfl q)⟩
theorem drc_min {i j : Int} (q : Q (.int (if j < i then j else i)) S) : DRC K (fun xs H Q => ∃ i j, xs = [.int i, .int j] ∧ Q (.int (if j < i then j else i)) H) [.int i, .int j] S Q := fun H Hd vs Qv st rr k => by
  obtain ⟨v, w, e1, rv, rw'⟩ := two_rp rr
  have rv : v = V.int i := rv
  have rw' : w = V.int j := rw'
  subst e1 rv rw'
  exact ⟨i, j, rfl, k _ _ (.here (d := .int _) st rfl q)⟩
/-- math.gcd -/
theorem de_gcd {gx : Str} (hm : X.mg gx = some (.builtin "math.gcd")) (h : DA X [a, b] en S fun ds S1 => ∃ i j : Int, ds = [.int i, .int j] ∧ Q (.int ((Nat.gcd i.natAbs j.natAbs : Nat) : Int)) S1) (hg : Gl X gx := by rfl) (hn : gx ≠ "__name__" := by decide) (hdb : (gx == ("__debug__" : Str)) = false := by decide)
    (he : starEach (a :: [b]) X.env = (false, eval a X.env) :: starEach [b] X.env := by rfl) (hpl : (backTo pos (starEach [b] X.env)).any (·.1) = false := by rfl) : DE X (.Call (.Name gx p) [a, b] [] pos) en S Q := ⟨fun σ H Hd st re => by
  refine wE_of (pe_callBfun cr_gcd hg hm paW (hdb := hdb) (he := he) (hpl := hpl)) ?_
  refine wA_mono (h σ H Hd st re) fun vs H1 ⟨ds, S1, Hd1, e1, st1, r1, i, j, e2, q⟩ => ?_
  subst e2
  obtain ⟨v, vs', e3, rv, w, vs2, e4, rw', e5⟩ := r1
  have e5 : vs2 = [] := e5
  subst e3 e4 e5
  exact ⟨i, j, by rw [show v = V.int i from rv, show w = V.int j from rw'], .up e1 (.here (d := .int _) st1 rfl q)⟩⟩
/-- len -/
def lenP (d : D) (S : Sto) (Q : D → Sto → Prop) : Prop := match d with
  | .tup l => Q (.int (l.length : Int)) S
  | .lst l => Q (.int (l.length : Int)) S
  | .scr l => Q (.int (l.length : Int)) S
  | .raw (.ref p) => ∃ l, getS p S = some l ∧ Q (.int (l.length : Int)) S
  | _ => False
theorem drc_len {d : D} (q : lenP d S Q) : DRC K (fun xs H Q => ∃ p ys, xs = [.ref p] ∧ (SqL K H p ys ∨ SqT K H p ys) ∧ Q (.int ys.length) H) [d] S Q := fun H Hd vs Qv st rr k => by
  obtain ⟨v, e1, rv⟩ := one_rp rr
  subst e1
  unfold lenP at q
  split at q
  · obtain ⟨a, xs, f1, f2, f3⟩ := rv
    exact ⟨a, xs, by rw [f1], .inr (same_t st.sub f2), by rw [f3.length]; exact k _ _ (.here (d := .int _) st rfl q)⟩
  · obtain ⟨a, xs, f1, f2, f3⟩ := rv
    exact ⟨a, xs, by rw [f1], .inl (.of (st.sub _ _ f2)), by rw [f3.length]; exact k _ _ (.here (d := .int _) st rfl q)⟩
  · rename_i l
    obtain ⟨a, f1, f2⟩ := rv
    exact ⟨a, l.map V.int, by rw [f1], .inl (same_l st.sub f2), by rw [List.length_map]; exact k _ _ (.here (d := .int _) st rfl q)⟩
  · rename_i a
    obtain ⟨l, g, q⟩ := q
    obtain ⟨_, xs, f2, f3⟩ := st.own.at g
    exact ⟨a, xs, by rw [show v = V.ref a from rv], .inl (.of f2), by rw [f3.length]; exact k _ _ (.here (d := .int _) st rfl q)⟩
  · exact q.elim
/-- tuple(list) -/
theorem drc_tuple {l : List D} (q : Q (.tup l) S) : DRC K (fun xs H Q => ∃ p ys, xs = [.ref p] ∧ ((SqL K H p ys ∧ ∀ l, H l = none → Q (.ref l) (upd H l (.tup ys))) ∨ (SqT K H p ys ∧ Q (.ref p) H))) [.lst l] S Q := fun H Hd vs Qv st rr k => by
  obtain ⟨v, e1, a, xs, f1, f2, f3⟩ := one_rp rr
  subst e1 f1
  exact ⟨a, xs, rfl, .inl ⟨.of (st.sub _ _ f2), fun p hp => k _ _ (new_tup st f3 hp q)⟩⟩
theorem drc_tupleO {p : Addr} {l : List D} (g : getS p S = some l) (q : Q (.tup l) S) : DRC K (fun xs H Q => ∃ p ys, xs = [.ref p] ∧ ((SqL K H p ys ∧ ∀ l, H l = none → Q (.ref l) (upd H l (.tup ys))) ∨ (SqT K H p ys ∧ Q (.ref p) H))) [.raw (.ref p)] S Q := fun H Hd vs Qv st rr k => by
  obtain ⟨v, e1, f1⟩ := one_rp rr
  have f1 : v = V.ref p := f1
  subst e1 f1
  obtain ⟨_, xs, f2, f3⟩ := st.own.at g
  exact ⟨p, xs, rfl, .inl ⟨.of f2, fun p hp => k _ _ (new_tup st f3 hp q)⟩⟩
end

/-! ### repr -/
mutual
/-- data that is shown: ints of less than 1900 bits, plain texts, not too many things -/
def shoP : D → Prop
  | .int i => i.natAbs < 2 ^ 1900
  | .str x => (x.cps.toList.all fun c => decide (c < 16 ^ 8)) = true
  | .tup l => shoL l
  | .lst l => shoL l
  | .scr _ => False
  | .raw _ => False
  | .ext _ => False
  | .non => True
  | .bl _ => True
def shoL : List D → Prop
  | [] => True
  | d :: ds => shoP d ∧ shoL ds
end
mutual
/-- how many things -/
def bigD : D → Nat
  | .str x => x.cps.size
  | .tup l => bigL l
  | .lst l => bigL l
  | _ => 0
def bigL : List D → Nat
  | [] => 0
  | d :: ds => bigD d + 1 + bigL ds
end
section
variable {X : Cx}
end
end DL
namespace DL
open PySem PySem.Spec PyProof.Rows L2

/-! ### statements -/
structure Dn where
  nx : DEnv → Sto → Prop
  rt : D → Sto → Prop
  bk : DEnv → Sto → Prop := fun _ _ => False
  ct : DEnv → Sto → Prop := fun _ _ => False
structure Lift (K : PySem.W.Frag) (Hd : Hp) (Z : Dn) (De : Ends) : Prop where
  nx : ∀ en S σ H Hd', Same Hd Hd' → St0 K S Hd' H → RpE K Hd' en σ → Z.nx en S → De.nx σ H
  rt : ∀ d S v H Hd', Same Hd Hd' → St0 K S Hd' H → Rp K Hd' d v → Z.rt d S → De.rt v H
  bk : ∀ en S σ H Hd', Same Hd Hd' → St0 K S Hd' H → RpE K Hd' en σ → Z.bk en S → De.bk σ H
  ct : ∀ en S σ H Hd', Same Hd Hd' → St0 K S Hd' H → RpE K Hd' en σ → Z.ct en S → De.ct σ H
theorem Lift.up {K : PySem.W.Frag} {Hd Hd' : Hp} {Z : Dn} {De : Ends} (e : Same Hd Hd') (l : Lift K Hd Z De) : Lift K Hd' Z De :=
  ⟨fun en S σ H H2 k => l.nx en S σ H H2 (e.trans k), fun d S v H H2 k => l.rt d S v H H2 (e.trans k), fun en S σ H H2 k => l.bk en S σ H H2 (e.trans k), fun en S σ H H2 k => l.ct en S σ H H2 (e.trans k)⟩
structure DS1 (X : Cx) (st : Stmt) (en : DEnv) (S : Sto) (Z : Dn) : Prop where
  run : ∀ (σ : L2.St) (H Hd : Hp), St0 X.K S Hd H → RpE X.K Hd en σ → ∀ De : Ends, Lift X.K Hd Z De → wS X st De σ H
instance {X : Cx} {st : Stmt} {en : DEnv} {S : Sto} {Z : Dn} : CoeFun (DS1 X st en S Z) (fun _ => ∀ (σ : L2.St) (H Hd : Hp), St0 X.K S Hd H → RpE X.K Hd en σ → ∀ De : Ends, Lift X.K Hd Z De → wS X st De σ H) := ⟨fun h => h.run⟩
structure DS (X : Cx) (sts : List Stmt) (en : DEnv) (S : Sto) (Z : Dn) : Prop where
  run : ∀ (σ : L2.St) (H Hd : Hp), St0 X.K S Hd H → RpE X.K Hd en σ → ∀ De : Ends, Lift X.K Hd Z De → wSs X sts De σ H
instance {X : Cx} {sts : List Stmt} {en : DEnv} {S : Sto} {Z : Dn} : CoeFun (DS X sts en S Z) (fun _ => ∀ (σ : L2.St) (H Hd : Hp), St0 X.K S Hd H → RpE X.K Hd en σ → ∀ De : Ends, Lift X.K Hd Z De → wSs X sts De σ H) := ⟨fun h => h.run⟩
/-- a target takes data -/
structure DG (X : Cx) (tg : Expr) (d : D) (en : DEnv) (S : Sto) (N : DEnv → Sto → Prop) : Prop where
  run : ∀ (σ : L2.St) (H Hd : Hp) (v : V), St0 X.K S Hd H → RpE X.K Hd en σ → Rp X.K Hd d v →
  wG X tg v σ H fun σ' H' => ∃ en' S' Hd', Same Hd Hd' ∧ St0 X.K S' Hd' H' ∧ RpE X.K Hd' en' σ' ∧ N en' S'
instance {X : Cx} {tg : Expr} {d : D} {en : DEnv} {S : Sto} {N : DEnv → Sto → Prop} : CoeFun (DG X tg d en S N) (fun _ => ∀ (σ : L2.St) (H Hd : Hp) (v : V), St0 X.K S Hd H → RpE X.K Hd en σ → Rp X.K Hd d v →
  wG X tg v σ H fun σ' H' => ∃ en' S' Hd', Same Hd Hd' ∧ St0 X.K S' Hd' H' ∧ RpE X.K Hd' en' σ' ∧ N en' S') := ⟨fun h => h.run⟩
def wGs (X : Cx) (ts : List Expr) : TGs := fun vs σ H Q => ∀ pins s us, Inv X pins σ H s → Vals vs us →
  wpAny (model X.prog X.w) X.A (assignInOrder ((assignEach ts X.env).map (·.2)) us) (fun _ s' => ∃ σ' H', Inv X pins σ' H' s' ∧ Q σ' H') X.xe s
structure DGs (X : Cx) (ts : List Expr) (ds : List D) (en : DEnv) (S : Sto) (N : DEnv → Sto → Prop) : Prop where
  run : ∀ (σ : L2.St) (H Hd : Hp) (vs : List V), St0 X.K S Hd H → RpE X.K Hd en σ → RpL X.K Hd ds vs →
  wGs X ts vs σ H fun σ' H' => ∃ en' S' Hd', Same Hd Hd' ∧ St0 X.K S' Hd' H' ∧ RpE X.K Hd' en' σ' ∧ N en' S'
instance {X : Cx} {ts : List Expr} {ds : List D} {en : DEnv} {S : Sto} {N : DEnv → Sto → Prop} : CoeFun (DGs X ts ds en S N) (fun _ => ∀ (σ : L2.St) (H Hd : Hp) (vs : List V), St0 X.K S Hd H → RpE X.K Hd en σ → RpL X.K Hd ds vs →
  wGs X ts vs σ H fun σ' H' => ∃ en' S' Hd', Same Hd Hd' ∧ St0 X.K S' Hd' H' ∧ RpE X.K Hd' en' σ' ∧ N en' S') := ⟨fun h => h.run⟩
section
variable {X : Cx} {a b c e tg : Expr} {es ts : List Expr} {st : Stmt} {sts rest : List Stmt} {en en' : DEnv} {S : Sto} {Z : Dn} {N : DEnv → Sto → Prop} {pos pos' p2 : Pos} {x : Str} {d : D} {ds : List D}
theorem pgsW : PGs X ts (wGs X ts) := ⟨fun pins s _ _ vs us _ I r h => h pins s us I r⟩
theorem wGs_of {t : TGs} {vs : List V} {σ : L2.St} {H : Hp} {Q : L2.St → Hp → Prop} (h : PGs X ts t) (q : t vs σ H Q) : wGs X ts vs σ H Q := fun pins s us I r => h.run pins s σ H vs us Q I r q
theorem DG.mono {N' : DEnv → Sto → Prop} (h : DG X tg d en S N) (k : ∀ en' S', N en' S' → N' en' S') : DG X tg d en S N' := ⟨fun σ H Hd v st re r =>
  wG_mono (h σ H Hd v st re r) fun _ _ ⟨en', S', Hd', z1, z2, z3, q⟩ => ⟨en', S', Hd', z1, z2, z3, k _ _ q⟩⟩
theorem ds_nil (q : Z.nx en S) : DS X [] en S Z := ⟨fun σ H Hd st re De l => wSs_of pss_nil (l.nx en S σ H Hd (Same.refl _) st re q)⟩
theorem ds_cons (h : DS1 X st en S { Z with nx := fun en' S' => DS X rest en' S' Z }) : DS X (st :: rest) en S Z := ⟨fun σ H Hd s0 re De l => by
  refine wSs_of (pss_cons psW pssW) ?_
  exact h σ H Hd s0 re _ ⟨fun en' S' σ' H' Hd' z1 z2 z3 q => q σ' H' Hd' z2 z3 De (l.up z1), l.rt, l.bk, l.ct⟩⟩
/-- a changed list is changed no more -/
theorem ds_freeze (i : Nat) {p : Addr} {l : List D} {S' : Sto} (he : en[i]? = some (some (.raw (.ref p))) := by rfl) (h : DS X sts (en.set i (some (.lst l))) S' Z) (hS : S = (p, l) :: S' := by rfl) : DS X sts en S Z := ⟨fun σ H Hd st re De lf => by
  subst hS
  obtain ⟨xs, r, e1, st'⟩ := st.frozen
  obtain ⟨v, e2, rv⟩ := re.get he
  have rv : v = V.ref p := rv
  subst rv
  have re' : RpE X.K (upd Hd p (.lst xs)) (en.set i (some (.lst l))) (σ.set i (some (.ref p))) := (re.mono e1).set (d := .lst l) ⟨p, xs, rfl, upd_same, r.mono e1⟩ i
  have es : σ.set i (some (.ref p)) = σ := by
    have hi := List.getElem?_eq_some_iff.mp e2
    obtain ⟨h1, h2⟩ := hi
    rw [← h2]
    exact List.set_getElem_self h1
  rw [es] at re'
  exact h σ H _ st' re' De (lf.up e1)⟩
/-- a changed list is forgotten -/
theorem ds_forget {p : Addr} {l : List D} {S' : Sto} (h : DS X sts en S' Z) (hS : S = (p, l) :: S' := by rfl) : DS X sts en S Z := ⟨fun σ H Hd st re De lf => by
  subst hS
  exact h σ H Hd st.drop re De lf⟩
/-! ### targets -/
theorem dg_name (i : Nat) {en' : DEnv} (q : N en' S) (hN : X.N.Nodup) (hi : X.N[i]? = some x := by rfl) (hx : Loc X.env.scope x := by first | exact Or.inl rfl | exact Or.inr rfl)
    (hf : X.fn x = true ∨ X.env.scope.names.lookup x = some .local := by first | exact .inl rfl | exact .inr rfl) (he : en.set i (some d) = en' := by set_option simprocs false in dsimp only [List.set]) : DG X (.Name x pos) d en S N := ⟨fun σ H Hd v st re r =>
  wG_of (pg_name hN hi hx hf) ⟨_, S, Hd, Same.refl _, st, re.set r i, by rw [he]; exact q⟩⟩
/-- the slots written out -/
theorem ds_nrm {en' : DEnv} (h : DS X sts en' S Z) (he : en = en' := by set_option simprocs false in dsimp only [List.set]) : DS X sts en S Z := by
  rw [he]
  exact h
theorem dgs_nil (q : N en S) : DGs X [] [] en S N := ⟨fun σ H Hd vs st re r => wGs_of pgs_nil ⟨r, en, S, Hd, Same.refl _, st, re, q⟩⟩
theorem dgs_cons (h : DG X e d en S fun en1 S1 => DGs X es ds en1 S1 N) (hs : (assignEach (e :: es) X.env).map (·.2) = assign e X.env :: (assignEach es X.env).map (·.2) := by rfl) : DGs X (e :: es) (d :: ds) en S N := ⟨fun σ H Hd vs st re r => by
  obtain ⟨v, vr, e1, r1, r2⟩ := r
  subst e1
  refine wGs_of (pgs_cons pgW pgsW hs) ⟨v, vr, rfl, ?_⟩
  refine wG_mono (h σ H Hd v st re r1) fun σ1 H1 ⟨en1, S1, Hd1, z1, z2, z3, q⟩ => ?_
  intro pins s us I rr
  refine thn (q σ1 H1 Hd1 vr z2 z3 (r2.mono z1) pins s us I rr) fun _ s2 ⟨σ2, H2, I2, en2, S2, Hd2, y1, y2, y3, y4⟩ => ⟨σ2, H2, I2, en2, S2, Hd2, z1.trans y1, y2, y3, y4⟩⟩
theorem dg_tup {k : Nat} {n : Nat} (hc : X.calm = true) (hl : ds.length = n) (h : DGs X es ds en S N) (hn : (assignEach es X.env).length = n := by rfl) (hst : (assignEach es X.env).findIdx? (·.1) = none := by rfl) : DG X (.Tuple es k pos) (.tup ds) en S N := ⟨fun σ H Hd v st re r => by
  obtain ⟨a, xs, e1, e2, e3⟩ := r
  subst e1
  exact wG_of (pg_tup hc pgsW hn hst) ⟨a, xs, rfl, same_t st.sub e2, by rw [e3.length]; exact hl, h σ H Hd xs st re e3⟩⟩
theorem dg_tupL {k : Nat} {n : Nat} (hc : X.calm = true) (hl : ds.length = n) (h : DGs X es ds en S N) (pl : ∀ {t : TGs}, PGs X es t → PG X (.Tuple es k pos) (gLst X.K n t)) : DG X (.Tuple es k pos) (.lst ds) en S N := ⟨fun σ H Hd v st re r => by
  obtain ⟨a, xs, e1, e2, e3⟩ := r
  subst e1
  exact wG_of (pl pgsW) ⟨a, xs, rfl, .of (st.sub _ _ e2), by rw [e3.length]; exact hl, h σ H Hd xs st re e3⟩⟩
/-- xs[i] = .., a changed list -/
theorem dg_sub (h : DE X a en S fun o S1 => DE X b en S1 fun i S2 => ∃ (p : Addr) (k : Int) (l : List D) (j : Nat), o = .raw (.ref p) ∧ i = .int k ∧ getS p S2 = some l ∧ ixN l.length k = some j ∧ N en (setS p (l.set j d) S2))
    (ha : ∀ v, assign (.Subscript a b pos) X.env v = (do
      let ov ← holding [v] (eval a X.env)
      let iv ← holding [v, ov] (eval b X.env)
      standAt pos
      holding [v, ov, iv] (setItem ov iv v)
      release [v, ov, iv] []) := by intro _; rfl) : DG X (.Subscript a b pos) d en S N := ⟨fun σ H Hd v st re r => by
  refine wG_of (pg_sub peW peW set_list ha) ?_
  refine wE_mono (h σ H Hd st re) fun o H1 ⟨od, S1, Hd1, e1, st1, r1, q1⟩ => ?_
  refine wE_mono (q1 σ H1 Hd1 st1 (re.mono e1)) fun i H2 ⟨idd, S2, Hd2, e2, st2, r2, p, k, l, j, f1, f2, g, hj, q⟩ => ?_
  subst f1 f2
  have r1 : o = V.ref p := r1
  have r2 : i = V.int k := r2
  subst r1 r2
  obtain ⟨hd, xs, hx, rx⟩ := st2.own.at g
  have e12 := e1.trans e2
  refine ⟨p, xs, k, j, rfl, rfl, hx, by rw [rx.length]; exact hj, ?_⟩
  exact ⟨en, _, Hd2, e12, st2.written g (RpL.set (Rp.mono e12 d v r) j rx), re.mono e12, q⟩⟩
/-! ### assignments, return, if -/
theorem ds_asg (h : DE X e en S fun d S1 => DG X tg d en S1 Z.nx) (hs : swapsWithSole [tg] e pos.line X.env = pure false := by first | exact sws1 rfl | exact sw0 rfl | rfl) (hw : swappedStores [tg] e X.env = pure none := by first | exact sst rfl | rfl)
    (h1 : (assignEach [tg] X.env).map (·.2) = [assign tg X.env] := by rfl) : DS1 X (.Assign [tg] e pos) en S Z := ⟨fun σ H Hd st re De l => by
  refine wS_of (ps_asg peW pgW hs hw h1) ?_
  refine wE_mono (h σ H Hd st re) fun v H1 ⟨d, S1, Hd1, e1, st1, r1, q⟩ => ?_
  refine wG_mono (q σ H1 Hd1 v st1 (re.mono e1) r1) fun σ2 H2 ⟨en2, S2, Hd2, z1, z2, z3, z4⟩ => ?_
  exact l.nx en2 S2 σ2 H2 Hd2 (e1.trans z1) z2 z3 z4⟩
/-- a, b = x, y -/
theorem ds_par {i j : Nat} {y : Str} {px py pt : Pos} {kt k2 pt2} (hc : X.calm = true) (hN : X.N.Nodup) (hi : X.N[i]? = some x) (hj : X.N[j]? = some y) (hij : i ≠ j) (h : DA X [a, b] en S fun vs S1 => ∃ v w, vs = [v, w] ∧ Z.nx ((en.set i (some v)).set j (some w)) S1)
    (hx : X.env.scope.names.lookup x = some .local := by rfl) (hy : X.env.scope.names.lookup y = some .local := by rfl)
    (hw : swappedStores [.Tuple [.Name x px, .Name y py] kt pt] (.Tuple [a, b] k2 pt2) X.env = pure (some [x, y]) := by rfl)
    (hs : swapsWithSole [.Tuple [.Name x px, .Name y py] kt pt] (.Tuple [a, b] k2 pt2) pos.line X.env = pure false := by first | exact sws1 rfl | exact sw0 rfl | rfl) : DS1 X (.Assign [.Tuple [.Name x px, .Name y py] kt pt] (.Tuple [a, b] k2 pt2) pos) en S Z := ⟨fun σ H Hd st re De l => by
  refine wS_of (ps_par hc hN hi hj hij hx hy paW hw hs) ?_
  refine wA_mono (h σ H Hd st re) fun vs H1 ⟨ds, S1, Hd1, e1, st1, r1, v, w, e2, q⟩ => ?_
  subst e2
  obtain ⟨v1, w1, e3, rv, rw'⟩ := two_rp r1
  exact ⟨v1, w1, e3, l.nx _ S1 _ H1 Hd1 e1 st1 (((re.mono e1).set rv i).set rw' j) q⟩⟩
theorem ds_ret (h : DE X e en S Z.rt) : DS1 X (.Return (some e) pos) en S Z := ⟨fun σ H Hd st re De l =>
  wS_of (ps_ret peW) (wE_mono (h σ H Hd st re) fun v H1 ⟨d, S1, Hd1, e1, st1, r1, q⟩ => l.rt d S1 v H1 Hd1 e1 st1 r1 q)⟩
theorem ds_if {s1 s2 : List Stmt} (h : DT X c en S fun t S1 => (t = true → DS X s1 en S1 Z) ∧ (t = false → DS X s2 en S1 Z)) : DS1 X (.If c s1 s2 pos) en S Z := ⟨fun σ H Hd st re De l => by
  refine wS_of (ps_if ptW pssW pssW) ?_
  refine wT_mono (h σ H Hd st re) fun t H1 ⟨S1, Hd1, e1, st1, q1, q2⟩ => ?_
  cases t with
  | true =>
    rw [if_pos rfl]
    exact q1 rfl σ H1 Hd1 st1 (re.mono e1) De (l.up e1)
  | false =>
    rw [if_neg Bool.false_ne_true]
    exact q2 rfl σ H1 Hd1 st1 (re.mono e1) De (l.up e1)⟩
theorem ds_expr (h : DE X e en S fun _ S1 => Z.nx en S1) (hs : swapsWith e none pos.line X.env = pure false := by first | exact sws1 rfl | exact sw0 rfl | rfl) : DS1 X (.Expr e pos) en S Z := ⟨fun σ H Hd st re De l =>
  wS_of (ps_expr peW hs) (wE_mono (h σ H Hd st re) fun v H1 ⟨d, S1, Hd1, e1, st1, r1, q⟩ => l.nx en S1 σ H1 Hd1 e1 st1 (re.mono e1) q)⟩
/-- xs.append(e) -/
theorem de_append {o : Expr} {apos cpos : Pos} {Q : D → Sto → Prop} (h : DE X o en S fun d S1 => ∃ p l, d = .raw (.ref p) ∧ getS p S1 = some l ∧ DA X [e] en S1 fun vs S2 => ∃ v l, vs = [v] ∧ getS p S2 = some l ∧ l.length < 100000 ∧ Q .non (setS p (l ++ [v]) S2))
    (mk : ∀ {to : TE} {t : TA}, PE X o to → PA X [e] t → PE X (.Call (.Attribute o "append" apos) [e] [] cpos) (tBM X.K "list" rAppend to t) := by
      exact fun ho ha => pe_bm PySem.F.plainAttrs_list PySem.F.slot_list_append PySem.F.type_list_append mt_append ho ha) : DE X (.Call (.Attribute o "append" apos) [e] [] cpos) en S Q := ⟨fun σ H Hd st re => by
  refine wE_of (mk peW paW) ?_
  refine wE_mono (h σ H Hd st re) fun o' H1 ⟨d, S1, Hd1, e1, st1, r1, p, l, f1, g, q⟩ => ?_
  subst f1
  have r1 : o' = V.ref p := r1
  subst r1
  obtain ⟨_, xs, hx, _⟩ := st1.own.at g
  refine ⟨.inl ⟨rfl, xs, .of hx⟩, ?_⟩
  refine wA_mono (q σ H1 Hd1 st1 (re.mono e1)) fun vs H2 ⟨ds, S2, Hd2, e2, st2, r2, v, l2, f2, g2, n2, q2⟩ => ?_
  subst f2
  obtain ⟨v1, f3, rv⟩ := one_rp r2
  subst f3
  obtain ⟨_, ys, hy, ry⟩ := st2.own.at g2
  have ln : ys.length < sizeLine := by
    rw [ry.length]
    exact Nat.lt_of_lt_of_le n2 (by decide)
  refine ⟨p, ys, v1, rfl, rfl, hy, ln, ?_⟩
  exact ⟨.non, _, Hd2, e1.trans e2, st2.written g2 (ry.append (show RpL X.K Hd2 [v] [v1] from ⟨v1, [], rfl, rv, rfl⟩)), rfl, q2⟩⟩
end

/-! ### loops -/
/-- the iterator yields these data, one after another -/
structure ItOk (K : PySem.W.Frag) (Hd : Hp) (J : It) (ds : List D) : Prop where
  go : ∀ {Hd' H : Hp} {S : Sto} {i : Nat} {d : D}, Same Hd Hd' → St0 K S Hd' H → ds[i]? = some d → J.go i H ∧ ∀ x H', J.yld i H x H' → ∃ Hd2, Same Hd' Hd2 ∧ St0 K S Hd2 H' ∧ Rp K Hd2 d x
  stop : ∀ {Hd' H : Hp} {S : Sto}, Same Hd Hd' → St0 K S Hd' H → J.stop ds.length H
def wI (X : Cx) (tg iter : Expr) : TI := fun σ H R => ∀ pins s, Inv X pins σ H s →
  wpAny (model X.prog X.w) X.A (eval iter X.env) (fun v s1 => wpAny (model X.prog X.w) X.A (pyIter v) (PIE X pins σ tg R) X.xe s1) X.xe s
structure DI (X : Cx) (tg iter : Expr) (en : DEnv) (S : Sto) (R : List D → Sto → Prop) : Prop where
  run : ∀ (σ : L2.St) (H Hd : Hp), St0 X.K S Hd H → RpE X.K Hd en σ →
  wI X tg iter σ H fun J H' => ∃ ds S' Hd', Same Hd Hd' ∧ St0 X.K S' Hd' H' ∧ ItOk X.K Hd' J ds ∧ R ds S'
instance {X : Cx} {tg iter : Expr} {en : DEnv} {S : Sto} {R : List D → Sto → Prop} : CoeFun (DI X tg iter en S R) (fun _ => ∀ (σ : L2.St) (H Hd : Hp), St0 X.K S Hd H → RpE X.K Hd en σ →
  wI X tg iter σ H fun J H' => ∃ ds S' Hd', Same Hd Hd' ∧ St0 X.K S' Hd' H' ∧ ItOk X.K Hd' J ds ∧ R ds S') := ⟨fun h => h.run⟩
section
variable {X : Cx} {a b c e tg iter : Expr} {es ts : List Expr} {st : Stmt} {sts rest body : List Stmt} {en en' : DEnv} {S : Sto} {Z : Dn} {N : DEnv → Sto → Prop} {pos pos' p2 p : Pos} {x : Str} {d : D} {ds : List D} {R : List D → Sto → Prop}
theorem piW : PI X tg iter (wI X tg iter) := ⟨fun pins s _ _ _ I h => h pins s I⟩
theorem wI_of {t : TI} {σ : L2.St} {H : Hp} {Q : It → Hp → Prop} (h : PI X tg iter t) (q : t σ H Q) : wI X tg iter σ H Q := fun pins s I => h.run pins s σ H Q I q
theorem it_list {K : PySem.W.Frag} {Hd : Hp} {a : Addr} {xs : List V} (h : SqL K Hd a xs) (r : RpL K Hd ds xs) (inj : ∀ {H : Hp} {ys zs : List V}, SqL K H a ys → SqL K H a zs → True) : ItOk K Hd (Itl K a) ds where
  go := fun {Hd' H S i d} e st hi => by
    obtain ⟨v, hv, rv⟩ := r.get hi
    have hs := same_l (e.trans st.sub) h
    refine ⟨⟨xs, v, hs, hv⟩, fun x H' y => ?_⟩
    obtain ⟨e1, y⟩ := y
    subst e1
    have q := y xs hs
    rw [hv] at q
    cases q
    exact ⟨Hd', Same.refl _, st, Rp.mono e d v rv⟩
  stop := fun {Hd' H S} e st => ⟨xs, same_l (e.trans st.sub) h, by rw [r.length]; exact Nat.le_refl _⟩
theorem it_tup {K : PySem.W.Frag} {Hd : Hp} {a : Addr} {xs : List V} (h : SqT K Hd a xs) (r : RpL K Hd ds xs) : ItOk K Hd (Itt K a) ds where
  go := fun {Hd' H S i d} e st hi => by
    obtain ⟨v, hv, rv⟩ := r.get hi
    have hs := same_t (e.trans st.sub) h
    refine ⟨⟨xs, v, hs, hv⟩, fun x H' y => ?_⟩
    obtain ⟨e1, y⟩ := y
    subst e1
    have q := y xs hs
    rw [hv] at q
    cases q
    exact ⟨Hd', Same.refl _, st, Rp.mono e d v rv⟩
  stop := fun {Hd' H S} e st => ⟨xs, same_t (e.trans st.sub) h, by rw [r.length]; exact Nat.le_refl _⟩
def rngD (lo : Int) (n : Nat) : List D := (List.range n).map fun i => D.int (lo + (i : Nat))
theorem rngD_len {lo : Int} {n : Nat} : (rngD lo n).length = n := by unfold rngD; simp
theorem rngD_get {lo : Int} {n i : Nat} {d : D} (h : (rngD lo n)[i]? = some d) : i < n ∧ d = .int (lo + (i : Nat)) := by
  have hi : i < n := by
    have := (List.getElem?_eq_some_iff.mp h).1
    rw [rngD_len] at this
    exact this
  refine ⟨hi, ?_⟩
  unfold rngD at h
  rw [List.getElem?_map, List.getElem?_range hi] at h
  exact (Option.some.inj h).symm
theorem it_rng {K : PySem.W.Frag} {Hd : Hp} {lo : Int} {n : Nat} : ItOk K Hd (Itr lo n) (rngD lo n) where
  go := fun {Hd' H S i d} e st hi => by
    obtain ⟨h1, h2⟩ := rngD_get hi
    subst h2
    refine ⟨h1, fun x H' y => ?_⟩
    obtain ⟨e1, e2⟩ := y
    subst e1 e2
    exact ⟨Hd', Same.refl _, st, rfl⟩
  stop := fun {Hd' H S} e st => by
    show n ≤ (rngD lo n).length
    rw [rngD_len]
    exact Nat.le_refl _
def enuD (ds : List D) : List D := ds.mapIdx fun i d => D.tup [.int (i : Nat), d]
theorem enuD_get {i : Nat} {d : D} (h : (enuD ds)[i]? = some d) : ∃ x, ds[i]? = some x ∧ d = .tup [.int (i : Nat), x] := by
  unfold enuD at h
  rw [List.getElem?_mapIdx] at h
  cases q : ds[i]? with
  | none => rw [q] at h; cases h
  | some x =>
    rw [q] at h
    exact ⟨x, rfl, (Option.some.inj h).symm⟩
theorem it_enu {K : PySem.W.Frag} {Hd : Hp} {a : Addr} {xs : List V} (h : SqL K Hd a xs) (r : RpL K Hd ds xs) : ItOk K Hd (Ite K a) (enuD ds) where
  go := fun {Hd' H S i d} e st hi => by
    obtain ⟨z, hz, ez⟩ := enuD_get hi
    subst ez
    obtain ⟨v, hv, rv⟩ := r.get hz
    have hs := same_l (e.trans st.sub) h
    refine ⟨⟨xs, v, hs, hv⟩, fun x H' y => ?_⟩
    obtain ⟨T, w, e1, hT, e2, y⟩ := y
    subst e1 e2
    have q := y xs hs
    rw [hv] at q
    cases q
    obtain ⟨k1, k2⟩ := st.laid (o := .tup [.int (i : Nat), v]) hT
    exact ⟨_, k1, k2, T, _, rfl, SqT.of upd_same, ⟨_, _, rfl, rfl, _, _, rfl, Rp.mono (e.trans k1) z v rv, rfl⟩⟩
  stop := fun {Hd' H S} e st => by
    refine ⟨xs, same_l (e.trans st.sub) h, ?_⟩
    rw [r.length]
    unfold enuD
    simp
theorem di_lst (h : DE X iter en S fun d S1 => ∃ l, d = .lst l ∧ R l S1) : DI X tg iter en S R := ⟨fun σ H Hd st re => by
  refine wI_of (pi_list peW) ?_
  refine wE_mono (h σ H Hd st re) fun v H1 ⟨d, S1, Hd1, e1, st1, r1, l, e2, q⟩ => ?_
  subst e2
  obtain ⟨a, xs, f1, f2, f3⟩ := r1
  exact ⟨a, f1, ⟨xs, .of (st1.sub _ _ f2)⟩, l, S1, Hd1, e1, st1, it_list (.of f2) f3 (fun _ _ => trivial), q⟩⟩
theorem di_tup (h : DE X iter en S fun d S1 => ∃ l, d = .tup l ∧ R l S1) : DI X tg iter en S R := ⟨fun σ H Hd st re => by
  refine wI_of (pi_tup peW) ?_
  refine wE_mono (h σ H Hd st re) fun v H1 ⟨d, S1, Hd1, e1, st1, r1, l, e2, q⟩ => ?_
  subst e2
  obtain ⟨a, xs, f1, f2, f3⟩ := r1
  exact ⟨a, f1, ⟨xs, same_t st1.sub f2⟩, l, S1, Hd1, e1, st1, it_tup f2 f3, q⟩⟩
theorem di_rng1 (hm : X.mg "range" = none) (h : DA X [a] en S fun ds S1 => ∃ n : Int, ds = [.int n] ∧ (-(2 ^ 62) ≤ n ∧ n < 2 ^ 62) ∧ R (rngD 0 n.toNat) S1) (hg : Gl X "range" := by rfl) (hs : starEach [a] X.env = [(false, eval a X.env)] := by rfl) : DI X tg (.Call (.Name "range" p) [a] [] pos) en S R := ⟨fun σ H Hd st re => by
  refine wI_of (pi_range1 hg hm paW hs) ?_
  refine wA_mono (h σ H Hd st re) fun vs H1 ⟨ds, S1, Hd1, e1, st1, r1, n, e2, ⟨n1, n2⟩, q⟩ => ?_
  subst e2
  obtain ⟨v, f1, rv⟩ := one_rp r1
  have rv : v = V.int n := rv
  subst f1 rv
  exact ⟨n, rfl, n1, n2, _, S1, Hd1, e1, st1, it_rng, q⟩⟩
theorem di_rng2 (hm : X.mg "range" = none) (h : DA X [a, b] en S fun ds S1 => ∃ m n : Int, ds = [.int m, .int n] ∧ (-(2 ^ 62) ≤ m ∧ m < 2 ^ 62 ∧ -(2 ^ 62) ≤ n ∧ n < 2 ^ 62) ∧ R (rngD m (n - m).toNat) S1) (hg : Gl X "range" := by rfl)
    (hs : starEach [a, b] X.env = [(false, eval a X.env), (false, eval b X.env)] := by rfl) (hs2 : starEach [b] X.env = [(false, eval b X.env)] := by rfl) : DI X tg (.Call (.Name "range" p) [a, b] [] pos) en S R := ⟨fun σ H Hd st re => by
  refine wI_of (pi_range2 hg hm paW hs hs2) ?_
  refine wA_mono (h σ H Hd st re) fun vs H1 ⟨ds, S1, Hd1, e1, st1, r1, m, n, e2, nn, q⟩ => ?_
  subst e2
  obtain ⟨v, w, f1, rv, rw'⟩ := two_rp r1
  have rv : v = V.int m := rv
  have rw' : w = V.int n := rw'
  subst f1 rv rw'
  exact ⟨m, n, rfl, nn, _, S1, Hd1, e1, st1, it_rng, q⟩⟩
theorem di_enum {elts : List Expr} {kk : Nat} {tpos : Pos} (hm : X.mg "enumerate" = none) (h : DA X [e] en S fun ds S1 => ∃ l, ds = [.lst l] ∧ R (enuD l) S1) (hg : Gl X "enumerate" := by rfl) (hs : starEach [e] X.env = [(false, eval e X.env)] := by rfl) :
    DI X (.Tuple elts kk tpos) (.Call (.Name "enumerate" p) [e] [] pos) en S R := ⟨fun σ H Hd st re => by
  refine wI_of (pi_enum hg hm paW hs) ?_
  refine wA_mono (h σ H Hd st re) fun vs H1 ⟨ds, S1, Hd1, e1, st1, r1, l, e2, q⟩ => ?_
  subst e2
  obtain ⟨v, f1, a, xs, f2, f3, f4⟩ := one_rp r1
  subst f1 f2
  exact ⟨a, xs, rfl, .of (st1.sub _ _ f3), _, S1, Hd1, e1, st1, it_enu (.of f3) f4, q⟩⟩
/-- THE LOOP: E g, what is known of the slots; P i g, what holds ahead of turn i; g is yours -/
theorem ds_for {γ : Type} (hp : PassesOwn (model X.prog X.w) X.A X.env X.xe) (hc : X.calm = true)
    (h : DI X tg iter en S fun ds S1 => ∃ (E : γ → DEnv) (P : Nat → γ → Sto → Prop) (g0 : γ), Wk en (E g0) ∧ P 0 g0 S1 ∧
      (∀ i d g S', ds[i]? = some d → P i g S' → DG X tg d (E g) S' fun en2 S2 => DS X body en2 S2 { nx := fun en3 S3 => ∃ g', Wk en3 (E g') ∧ P (i + 1) g' S3, rt := Z.rt, ct := fun en3 S3 => ∃ g', Wk en3 (E g') ∧ P (i + 1) g' S3, bk := Z.nx }) ∧
      ∀ g S', P ds.length g S' → Z.nx (E g) S') (hs : ∀ x, foldedSetIterable iter X.env x = pure x := by first | exact fset rfl | (intro _; rfl)) : DS1 X (.For tg iter body [] pos) en S Z := ⟨fun σ H Hd st re De l => by
  refine wS_of (ps_for hp hc piW pgW pssW hs) ?_
  intro pins s I
  refine thn (h σ H Hd st re pins s I) fun v s1 h1 => thn h1 fun itv s2 h2 => ?_
  obtain ⟨it, fp, tn, J, H2, e, I2, T, st2, f2, ds, S1, Hd1, e1, s01, io, E, P, g0, wk, p0, turn, fin⟩ := h2
  refine ⟨it, fp, tn, J, H2, e, I2, T, st2, f2, ?_⟩
  refine ⟨fun i m σ H => m = ds.length - i ∧ i ≤ ds.length ∧ ∃ g S' Hd', Same Hd1 Hd' ∧ St0 X.K S' Hd' H ∧ RpE X.K Hd' (E g) σ ∧ P i g S', ⟨_, rfl, Nat.zero_le _, g0, S1, Hd1, Same.refl _, s01, wk.use (re.mono e1), p0⟩, ?_⟩
  rintro i m σ H ⟨rfl, hi, g, S', Hd', k1, k2, k3, k4⟩
  by_cases hlt : i < ds.length
  · obtain ⟨go, yl⟩ := io.go k1 k2 (List.getElem?_eq_getElem hlt)
    refine .inr ⟨go, fun σ' H' => ∃ g S' Hd', Same Hd1 Hd' ∧ St0 X.K S' Hd' H' ∧ RpE X.K Hd' (E g) σ' ∧ P (i + 1) g S', fun σ' H' q => ⟨ds.length - (i + 1), by omega, rfl, hlt, q⟩, fun x H' y => ?_⟩
    obtain ⟨Hd2, y1, y2, y3⟩ := yl x H' y
    refine wG_mono (turn i _ g S' (List.getElem?_eq_getElem hlt) k4 σ H' Hd2 x y2 (k3.mono y1) y3) fun σ4 H4 ⟨en4, S4, Hd4, z1, z2, z3, z4⟩ => ?_
    have up : Same Hd1 Hd4 := k1.trans (y1.trans z1)
    exact z4 σ4 H4 Hd4 z2 z3 _ ⟨fun en5 S5 σ5 H5 Hd5 w1 w2 w3 ⟨g', w4, w5⟩ => ⟨g', S5, Hd5, up.trans w1, w2, w4.use w3, w5⟩, fun d5 S5 v5 H5 Hd5 w1 => l.rt d5 S5 v5 H5 Hd5 (e1.trans (up.trans w1)),
      fun en5 S5 σ5 H5 Hd5 w1 => l.nx en5 S5 σ5 H5 Hd5 (e1.trans (up.trans w1)), fun en5 S5 σ5 H5 Hd5 w1 w2 w3 ⟨g', w4, w5⟩ => ⟨g', S5, Hd5, up.trans w1, w2, w4.use w3, w5⟩⟩
  · have e0 : i = ds.length := by omega
    subst e0
    exact .inl ⟨io.stop k1 k2, l.nx (E g) S' σ H Hd' (e1.trans k1) k2 k3 (fin g S' k4)⟩⟩
/-- a while: μ falls at each turn -/
theorem ds_while {γ : Type} (hp : PassesOwn (model X.prog X.w) X.A X.env X.xe) (E : γ → DEnv) (P : γ → Sto → Prop) (μ : γ → Nat) (g0 : γ) (w0 : Wk en (E g0)) (p0 : P g0 S)
    (h : ∀ g S', P g S' → DT X c (E g) S' fun t S1 => (t = true → DS X body (E g) S1 { nx := fun en3 S3 => ∃ g', Wk en3 (E g') ∧ P g' S3 ∧ μ g' < μ g, rt := Z.rt, ct := fun en3 S3 => ∃ g', Wk en3 (E g') ∧ P g' S3 ∧ μ g' < μ g, bk := Z.nx }) ∧ (t = false → Z.nx (E g) S1)) :
    DS1 X (.While c body [] pos) en S Z := ⟨fun σ H Hd st re De l => by
  refine wS_of (ps_while hp ptW pssW) ?_
  refine ⟨fun m σ H => ∃ g S' Hd', Same Hd Hd' ∧ St0 X.K S' Hd' H ∧ RpE X.K Hd' (E g) σ ∧ P g S' ∧ m = μ g, ⟨_, g0, S, Hd, Same.refl _, st, w0.use re, p0, rfl⟩, ?_⟩
  rintro m σ H ⟨g, S', Hd', k1, k2, k3, k4, rfl⟩
  refine wT_mono (h g S' k4 σ H Hd' k2 k3) fun t H1 ⟨S1, Hd1, e1, st1, q1, q2⟩ => ?_
  cases t with
  | false =>
    rw [if_neg Bool.false_ne_true]
    exact l.nx (E g) S1 σ H1 Hd1 (k1.trans e1) st1 (k3.mono e1) (q2 rfl)
  | true =>
    rw [if_pos rfl]
    refine ⟨fun σ' H' => ∃ g' S' Hd', Same Hd Hd' ∧ St0 X.K S' Hd' H' ∧ RpE X.K Hd' (E g') σ' ∧ P g' S' ∧ μ g' < μ g, fun σ' H' ⟨g', S', Hd', z1, z2, z3, z4, z5⟩ => ⟨μ g', z5, g', S', Hd', z1, z2, z3, z4, rfl⟩, ?_⟩
    have up := k1.trans e1
    exact q1 rfl σ H1 Hd1 st1 (k3.mono e1) _ ⟨fun en5 S5 σ5 H5 Hd5 w1 w2 w3 ⟨g', w4, w5, w6⟩ => ⟨g', S5, Hd5, up.trans w1, w2, w4.use w3, w5, w6⟩, fun d5 S5 v5 H5 Hd5 w1 => l.rt d5 S5 v5 H5 Hd5 (up.trans w1),
      fun en5 S5 σ5 H5 Hd5 w1 => l.nx en5 S5 σ5 H5 Hd5 (up.trans w1), fun en5 S5 σ5 H5 Hd5 w1 w2 w3 ⟨g', w4, w5, w6⟩ => ⟨g', S5, Hd5, up.trans w1, w2, w4.use w3, w5, w6⟩⟩⟩
end
end DL
namespace DL
open PySem PySem.Spec PyProof.Rows L2

/-! ### comprehensions -/
theorem RpE.reset {K : PySem.W.Frag} {H : Hp} {d : D} {v : V} {en : DEnv} {σ : L2.St} (i : Nat) (h : RpE K H en σ) (r : Rp K H d v) : RpE K H (en.set i (some d)) ((wipe σ [i]).set i (some v)) := by
  have e : (wipe σ [i]).set i (some v) = σ.set i (some v) := by
    show (σ.set i none).set i (some v) = _
    rw [List.set_set]
  rw [e]
  exact h.set r i
theorem wipe_back {σ : L2.St} {i : Nat} {v : V} : wipe ((wipe σ [i]).set i (some v)) [i] = wipe σ [i] := by
  show ((σ.set i none).set i (some v)).set i none = σ.set i none
  rw [List.set_set, List.set_set]
section
variable {X : Cx} {elt iter c : Expr} {en : DEnv} {S : Sto} {Q : D → Sto → Prop} {pos py : Pos} {y : Str} {scope : Scope}
/-- the block of a comprehension -/
abbrev bX (X : Cx) (scope : Scope) (s : Shared) (H : Hp) (C : Addr) (cl : List (Str × Addr)) (fp : List Addr) : Cx := X.blk s H scope (compEnvC scope cl C X.env) fp
/-- one turn's item: the element's data behind the items so far -/
def Turn1 (X : Cx) (scope : Scope) (elt : Expr) (en : DEnv) (S : Sto) (p : Addr) (acc : List D) (N : List D → Sto → Prop) : Prop :=
  ∀ s H C cl fp, DE (bX X scope s H C cl fp) elt en ((p, acc) :: S) fun d S2 => ∃ S3, S2 = (p, acc) :: S3 ∧ N (acc ++ [d]) S3
theorem pe_blk (te : TE) (h : te = fun σ H Q => ∀ s0 H0 C cl fp, wE (bX X scope s0 H0 C cl fp) elt σ H Q) : ∀ (s : Shared) (H : Hp) (C : Addr) (cl : List (Str × Addr)) (fp : List Addr), PE (bX X scope s H C cl fp) elt te := fun s0 H0 C cl fp => by
  subst h
  exact ⟨fun pins s _ _ _ I q => q s0 H0 C cl fp pins s I⟩
theorem pt_blk (tt : TT) (h : tt = fun σ H Q => ∀ s0 H0 C cl fp, wT (bX X scope s0 H0 C cl fp) c σ H Q) : ∀ (s : Shared) (H : Hp) (C : Addr) (cl : List (Str × Addr)) (fp : List Addr), PT (bX X scope s H C cl fp) c tt := fun s0 H0 C cl fp => by
  subst h
  exact ⟨fun pins s _ _ _ I q => q s0 H0 C cl fp pins s I⟩
variable {ifs : List Expr} {tt : TT}
/-- the comprehension's walk, whatever its tests -/
theorem lc_go (i : Nat) (te : TE) {own : List Nat} (ho : own = [i]) (mT : ∀ (σ : L2.St) (H : Hp) (A B : Bool → Hp → Prop), tt σ H A → (∀ b H', A b H' → B b H') → tt σ H B) (mE : ∀ (σ : L2.St) (H : Hp) (A B : VK), te σ H A → (∀ v H', A v H' → B v H') → te σ H B)
    (h : DI X (.Name y py) iter en S fun ds S1 => ∃ (P : Nat → List D → Sto → Prop), P 0 [] S1 ∧
      (∀ k d acc S' p, ds[k]? = some d → P k acc S' → getS p S' = none → acc.length ≤ k → ∀ (σ : L2.St) (H Hd : Hp), St0 X.K ((p, acc) :: S') Hd H → RpE X.K Hd (en.set i (some d)) σ →
        tt σ H fun b H3 => if b = true then te σ H3 fun v H4 => ∃ d2 S4 Hd4, Same Hd Hd4 ∧ St0 X.K ((p, acc) :: S4) Hd4 H4 ∧ Rp X.K Hd4 d2 v ∧ P (k + 1) (acc ++ [d2]) S4 else ∃ S4 Hd4, Same Hd Hd4 ∧ St0 X.K ((p, acc) :: S4) Hd4 H3 ∧ P (k + 1) acc S4) ∧
      ds.length ≤ 100000 ∧ ∀ acc S', acc.length ≤ ds.length → P ds.length acc S' → Q (.lst acc) S') {σ : L2.St} {H Hd : Hp} (st : St0 X.K S Hd H) (re : RpE X.K Hd en σ) (Qv : VK) (kq : ∀ v H', QD X.K Hd Q v H' → Qv v H') : tLc (wI X (.Name y py) iter) (gName i) tt te own σ H Qv := by
  subst ho
  intro pins s I
  refine thn (DI.run h σ H Hd st re pins s I) fun v s1 h1 => thn h1 fun itv s2 h2 => ?_
  obtain ⟨it, fp, tn, J, H2, e, I2, T, st2, f2, ds, S1, Hd1, e1, s01, io, P, p0, turn, lim, fin⟩ := h2
  refine ⟨it, fp, tn, J, H2, e, I2, T, st2, f2, fun p hp => ?_⟩
  obtain ⟨fr, s02⟩ := s01.laidO (l := []) (xs := []) hp rfl
  refine ⟨fun k m H => m = ds.length - k ∧ k ≤ ds.length ∧ ∃ acc S' Hd', acc.length ≤ k ∧ Same Hd1 Hd' ∧ St0 X.K ((p, acc) :: S') Hd' H ∧ P k acc S', ⟨_, rfl, Nat.zero_le _, [], S1, Hd1, Nat.le_refl _, Same.refl _, s02, p0⟩, ?_⟩
  rintro k m H ⟨rfl, hk, acc, S', Hd', ka, k1, k2, k3⟩
  by_cases hlt : k < ds.length
  · obtain ⟨go, yl⟩ := io.go k1 k2 (List.getElem?_eq_getElem hlt)
    refine .inr ⟨go, fun H' => ∃ acc S' Hd', acc.length ≤ k + 1 ∧ Same Hd1 Hd' ∧ St0 X.K ((p, acc) :: S') Hd' H' ∧ P (k + 1) acc S', fun H' q => ⟨ds.length - (k + 1), by omega, rfl, hlt, q⟩, fun x H' y => ?_⟩
    obtain ⟨Hd2, y1, y2, y3⟩ := yl x H' y
    refine ⟨wipe_back, ?_⟩
    have reB := RpE.reset i (re.mono (e1.trans (k1.trans y1))) y3
    have go2 := turn k _ acc S' p (List.getElem?_eq_getElem hlt) k3 k2.own.2.1 ka _ H' Hd2 y2 reB
    have en1 : ∀ (H4 : Hp) (v : V) (d2 : D) (S4 : Sto) (Hd4 : Hp), Same Hd2 Hd4 → St0 X.K ((p, acc) :: S4) Hd4 H4 → Rp X.K Hd4 d2 v → P (k + 1) (acc ++ [d2]) S4 →
        ∃ vs, H4 p = some (.lst vs) ∧ vs.length < sizeLine ∧ ∃ acc S' Hd', acc.length ≤ k + 1 ∧ Same Hd1 Hd' ∧ St0 X.K ((p, acc) :: S') Hd' (upd H4 p (.lst (vs ++ [v]))) ∧ P (k + 1) acc S' := by
      intro H4 v d2 S4 Hd4 z1 z2 z3 z4
      obtain ⟨_, xs, hx, rx⟩ := z2.own.at (l := acc) getS_hd
      refine ⟨xs, hx, by rw [rx.length]; exact Nat.lt_of_le_of_lt (Nat.le_trans ka hk) (Nat.lt_of_le_of_lt lim (by decide)), acc ++ [d2], S4, Hd4, by rw [List.length_append, List.length_singleton]; omega, k1.trans (y1.trans z1), ?_, z4⟩
      have w := z2.written (l' := acc ++ [d2]) (ys := xs ++ [v]) getS_hd (rx.append (show RpL X.K Hd4 [d2] [v] from ⟨v, [], rfl, z3, rfl⟩))
      rw [setS_hd] at w
      exact w
    refine mT _ _ _ _ go2 fun b H3 q => ?_
    cases b with
    | true =>
      rw [if_pos rfl] at q ⊢
      exact mE _ _ _ _ q fun v H4 ⟨d2, S4, Hd4, z1, z2, z3, z4⟩ => en1 H4 v d2 S4 Hd4 z1 z2 z3 z4
    | false =>
      rw [if_neg Bool.false_ne_true] at q ⊢
      obtain ⟨S4, Hd4, z1, z2, z3⟩ := q
      exact ⟨acc, S4, Hd4, Nat.le_succ_of_le ka, k1.trans (y1.trans z1), z2, z3⟩
  · have e0 : k = ds.length := by omega
    subst e0
    obtain ⟨xs, rx, ex, sx⟩ := k2.frozen
    exact .inl ⟨io.stop k1 k2, kq _ _ ⟨.lst acc, S', _, e1.trans (k1.trans ex), sx, ⟨p, xs, rfl, upd_same, rx.mono ex⟩, fin acc S' ka k3⟩⟩
abbrev teB (X : Cx) (scope : Scope) (elt : Expr) : TE := fun σ H Q => ∀ s0 H0 C cl fp, wE (bX X scope s0 H0 C cl fp) elt σ H Q
abbrev ttB (X : Cx) (scope : Scope) (c : Expr) : TT := fun σ H Q => ∀ s0 H0 C cl fp, wT (bX X scope s0 H0 C cl fp) c σ H Q
/-- what a comprehension without a test is asked -/
def Lc0 (X : Cx) (scope : Scope) (i : Nat) (y : Str) (py : Pos) (elt iter : Expr) (en : DEnv) (S : Sto) (Q : D → Sto → Prop) : Prop := DI X (.Name y py) iter en S fun ds S1 => ∃ (P : Nat → List D → Sto → Prop), P 0 [] S1 ∧
  (∀ k d acc S' p, ds[k]? = some d → P k acc S' → getS p S' = none → acc.length ≤ k → Turn1 X scope elt (en.set i (some d)) S' p acc (P (k + 1))) ∧ ds.length ≤ 100000 ∧ ∀ acc S', acc.length ≤ ds.length → P ds.length acc S' → Q (.lst acc) S'
theorem lc0_read {i : Nat} (h : Lc0 X scope i y py elt iter en S Q) {σ : L2.St} {H Hd : Hp} (st : St0 X.K S Hd H) (re : RpE X.K Hd en σ) (Qv : VK) (kq : ∀ v H', QD X.K Hd Q v H' → Qv v H') : tLc (wI X (.Name y py) iter) (gName i) tYes (teB X scope elt) [i] σ H Qv := by
  refine lc_go (tt := tYes) i _ rfl (fun σ H A B q k => k _ _ q) (fun σ H A B q k s0 H0 C cl fp => wE_mono (q s0 H0 C cl fp) k) ?_ st re Qv kq
  refine ⟨fun σ H Hd st re => ?_⟩
  intro pins s I
  refine thn (DI.run h σ H Hd st re pins s I) fun v s1 h1 => thn h1 fun itv s2 h2 => ?_
  obtain ⟨it, fp, tn, J, H2, e, I2, T, st2, f2, ds, S1, Hd1, e1, s01, io, P, p0, turn, lim, fin⟩ := h2
  refine ⟨it, fp, tn, J, H2, e, I2, T, st2, f2, ds, S1, Hd1, e1, s01, io, P, p0, fun k d acc S' p hk hP hp hl σ H Hd st re => ?_, lim, fin⟩
  show tYes σ H _
  unfold tYes
  simp only [↓reduceIte]
  intro s0 H0 C cl fp
  exact wE_mono (turn k d acc S' p hk hP hp hl s0 H0 C cl fp σ H Hd st re) fun v H4 ⟨d2, S2, Hd4, z1, z2, z3, S3, z4, z5⟩ => by
    subst z4
    exact ⟨d2, S3, Hd4, z1, z2, z3, z5⟩
/-- [elt for y in iter] -/
theorem de_lc (i : Nat) (hc : X.calm = true) (hN : X.N.Nodup) (ok : BlkOk X.N X.env.scope scope [(y, i)]) (h : Lc0 X scope i y py elt iter en S Q)
    (hg : ∀ (s : Shared) (H : Hp) (C : Addr) (cl : List (Str × Addr)) (fp : List Addr), PG (bX X scope s H C cl fp) (.Name y py) (gName i))
    (hs : ∀ x, foldedSetIterable iter X.env x = pure x := by first | exact fset rfl | (intro _; rfl)) : DE X (.ListComp elt [⟨.Name y py, iter, [], 0⟩] scope pos) en S Q := ⟨fun σ H Hd st re =>
  wE_of (pe_lc hc hN piW ok hg (fun _ _ _ _ _ => pts_nil) (pe_blk (te := teB X scope elt) rfl) hs) (lc0_read h st re _ fun _ _ z => z)⟩
/-- x = [elt for y in iter], x a plain local on the same line -/
theorem ds_setLc {Z : Dn} {spos px : Pos} {x : Str} (j i : Nat) (hc : X.calm = true) (hN : X.N.Nodup) (hj : X.N[j]? = some x) (hx : X.env.scope.names.lookup x = some .local)
    (hsw : swapsWith (.ListComp elt [⟨.Name y py, iter, [], 0⟩] scope pos) (some (.Name x px)) spos.line X.env = pure true) (ok : BlkOk X.N X.env.scope scope [(y, i)])
    (h : Lc0 X scope i y py elt iter en S fun d S' => Z.nx (en.set j (some d)) S')
    (hg : ∀ (s : Shared) (H : Hp) (C : Addr) (cl : List (Str × Addr)) (fp : List Addr), PG (bX X scope s H C cl fp) (.Name y py) (gName i))
    (hs : ∀ x, foldedSetIterable iter X.env x = pure x := by first | exact fset rfl | (intro _; rfl)) : DS1 X (.Assign [.Name x px] (.ListComp elt [⟨.Name y py, iter, [], 0⟩] scope pos) spos) en S Z := ⟨fun σ H Hd st re De l =>
  wS_of (ps_setLc hc hN hj hx hsw piW ok hg (fun _ _ _ _ _ => pts_nil) (pe_blk (te := teB X scope elt) rfl) hs) (lc0_read h st re _ fun v H' ⟨d, S', Hd', e', st', r, q⟩ => l.nx _ S' _ H' Hd' e' st' ((re.mono e').set r j) q)⟩
end

/-! ### the law's end -/
/-- the promise of a law: it gives True of every such script -/
def conLaw (n : Nat) : Con := fun ds S Q => ∃ ns : List Int, ns.length ≤ n ∧ ds = [.scr ns] ∧ S = [] ∧ Q (.bl true) []
theorem law_end {l : PySem.W.OpenLaw} {n k : Nat} {q : Program} {loose : List Str} {XP : (Str → Option Value) → Heap → Prop} {YP : World → Heap → Prop} {d : DefRec} {K : Params → PySem.W.Frag} {x : Str}
    (hn : l.most = some n) (hn2 : n ≤ sizeLine) (hdf : d.params.defaults = []) (hr : Room k callerA) (hY : ∀ (w : World) (h : Heap), YP w h → (K w.params).In h)
    (F : ∀ (w : World) (mg : Str → Option Value) (fa : Addr) (h : Heap), (K w.params).In h → h.Ns mainGlobals mg → mg d.name = some (.ref fa) → ∃ fd : FuncData, (∀ (s : Shared) (u : Value), BindsTo s fd ⟨[u], []⟩ [(x, u)]) ∧
      ∀ base : Heap, (K w.params).In base → base.Ns mainGlobals mg → GOk l.prog w (K w.params) mg base k fa fd [x] (spD (K w.params) (conLaw n))) : PySem.W.WalkO q loose XP YP l.row.toRowW d [] (fun f vs => PySem.call f vs) := by
  refine Att.attach_call hn hdf fun w s0 s1 mg mb fa o pm cd doc a vs ns G Y ho hd hcd hmg hobj hints hlen hg => ?_
  have KX := hY w _ Y
  obtain ⟨fd, hb, hF⟩ := F w mg fa _ KX G.T.g hmg
  have rv := vals_ints hints
  -- the script is tracked, as known to its object, unless the module itself holds it
  generalize hH : (fun b => if b = a ∧ (K w.params).lookup a = none then some (HO.frz { cls := .type "list", data := .seq vs.toArray } (.lst (ns.map V.int))) else none : Hp) = H
  have none_of : ∀ b, ¬ (b = a ∧ (K w.params).lookup a = none) → H b = none := fun b z => by rw [← hH]; exact if_neg z
  have some_of : ∀ b u, H b = some u → b = a ∧ (K w.params).lookup a = none ∧ u = .frz { cls := .type "list", data := .seq vs.toArray } (.lst (ns.map V.int)) := fun b u z => by
    rw [← hH] at z
    by_cases c : b = a ∧ (K w.params).lookup a = none
    · have z2 := (if_pos c).symm.trans z
      exact ⟨c.1, c.2, (Option.some.inj z2).symm⟩
    · have z2 := (if_neg c).symm.trans z
      cases z2
  have scr : SqL (K w.params) H a (ns.map V.int) := by
    cases hk : (K w.params).lookup a with
    | none =>
      refine .inl (.inr ⟨{ cls := .type "list", data := .seq vs.toArray }, ?_⟩)
      rw [← hH]
      exact if_pos ⟨rfl, hk⟩
    | some ob =>
      have e := KX a ob hk
      rw [hobj] at e
      cases e
      exact .inr ⟨_, vs.toArray, _, hk, rfl, rfl, rfl, by rw [List.size_toArray, hints.length]; exact Nat.le_trans hlen hn2, by simpa using rv⟩
  have hok : HOk l.prog w H s1.heap := fun b u z => by
    obtain ⟨e1, _, e3⟩ := some_of b u z
    subst e1 e3
    exact ⟨hobj, by rw [List.length_map]; exact Nat.le_trans hlen hn2, vs, _, rv, hobj⟩
  have dictN : ∀ {b : Addr} {ob : Obj} {es : Array DictEntry} {ep : Nat}, s1.heap.get? b = some ob → ob.data = .dict es ep → H b = none := fun {b ob es ep} e dd => by
    refine none_of b fun z => ?_
    rw [z.1, hobj] at e
    cases e
    cases dd
  have nsB : ∀ {b : Addr} {m : Str → Option Value}, s1.heap.Ns b m → (hidT s1.heap H).Ns b m := fun ⟨ob, es, ep, e, dd, rr⟩ => ⟨ob, es, ep, hidT_get e (dictN e dd), dd, rr⟩
  have KB : (K w.params).In (hidT s1.heap H) := fun b ob e => hidT_get (KX b ob e) (none_of b fun z => by rw [z.1, z.2] at e; cases e)
  have M : Mod (K w.params) mg (hidT s1.heap H) := ⟨KB, nsB G.T.g, ⟨mb, nsB G.T.b, G.T.builtins⟩, let ⟨mc, z1, z2⟩ := G.T.nolimit; ⟨mc, nsB z1, z2⟩⟩
  have e0 : Env0 l.prog w (K w.params) mg (hidT s1.heap H) callerA [] s1 H := ⟨rfl, M, fun b ob e => of_hidT e, Nat.le_of_eq (hidT_size _ _), trivial, (fun b z => absurd (show b ∈ ([] : List Addr) from z) List.not_mem_nil), hok, .of_eq hg⟩
  have st : St0 (K w.params) [] H H := ⟨Same.refl _, trivial⟩
  have sp : spD (K w.params) (conLaw n) [V.ref a] H (fun v _ => v = V.bl true) fun _ _ _ => False := ⟨[.scr ns], [], H, fun d _ => d = .bl true, ⟨V.ref a, [], rfl, ⟨a, rfl, scr⟩, rfl⟩, st, ⟨ns, hlen, rfl, rfl, rfl⟩, fun d S' v H' Hd' z _ _ r => by
    subst z
    exact r⟩
  refine codeAny_mono ((hF _ KB (nsB G.T.g)).run callerA [] s1 H ⟨[.ref a], []⟩ [.ref a] [.ref a] _ _ rfl hr e0 (hb s1 (.ref a)) (.cons rfl .nil) sp) fun r s' h => ?_
  cases r with
  | error e => exact h.elim
  | ok fl =>
    cases fl with
    | next => exact False.elim h
    | brk => exact False.elim h
    | cont => exact False.elim h
    | ret u =>
      obtain ⟨v, H', os, bare, un, hok', r', q'⟩ := h
      have q' : v = V.bl true := q'
      subst q'
      have r' : u = Value.bool true := r'
      subst r'
      refine ⟨rfl, OldK.of_keep fun b ob e => ?_, os, bare⟩
      cases z : H b with
      | none => exact un.keep b ob e z (fun y => absurd (show b ∈ ([] : List Addr) from y) List.not_mem_nil) List.not_mem_nil
      | some u =>
        obtain ⟨_, _, e3⟩ := some_of b u z
        subst e3
        obtain ⟨k1, _⟩ := hok b _ z
        obtain ⟨k2, _⟩ := hok' b _ (un.frzs b _ _ z)
        rw [e] at k1
        cases k1
        exact k2
end DL
namespace DL
open PySem PySem.Spec PyProof.Rows L2

/-! ### sizes of ints -/
def Bd (n : Nat) (i : Int) : Prop := i.natAbs < 2 ^ n
section
variable {a b n : Nat} {i j : Int}
theorem Bd.up (h : Bd a i) (k : a ≤ b) : Bd b i := Nat.lt_of_lt_of_le h (Nat.pow_le_pow_right (by decide) k)
theorem Bd.mul (h : Bd a i) (k : Bd b j) : Bd (a + b) (i * j) := wide_lt h k
theorem Bd.neg (h : Bd a i) : Bd a (-i) := by
  unfold Bd at h ⊢
  rw [Int.natAbs_neg]
  exact h
theorem Bd.add (h : Bd a i) (k : Bd b j) : Bd (max a b + 1) (i + j) := by
  have h1 : i.natAbs < 2 ^ (max a b) := Bd.up h (Nat.le_max_left a b)
  have k1 : j.natAbs < 2 ^ (max a b) := Bd.up k (Nat.le_max_right a b)
  have := Int.natAbs_add_le i j
  unfold Bd
  rw [Nat.pow_succ]
  omega
theorem Bd.sub (h : Bd a i) (k : Bd b j) : Bd (max a b + 1) (i - j) := by
  rw [Int.sub_eq_add_neg]
  exact h.add k.neg
theorem Bd.div (h : Bd a i) : Bd a (i / j) := Nat.lt_of_le_of_lt (Int.natAbs_ediv_le_natAbs i j) h
theorem Bd.mod (h : Bd b j) (h0 : 0 < j) : Bd b (i % j) := by
  have h1 := Int.emod_nonneg i (by omega : j ≠ 0)
  have h2 := Int.emod_lt_of_pos i h0
  have h3 : j.natAbs < 2 ^ b := h
  unfold Bd
  omega
theorem Bd.abs (h : Bd a i) : Bd a (if i < 0 then -i else i) := by
  split
  · exact h.neg
  · exact h
theorem Bd.of_le (h0 : 0 ≤ i) (h1 : i ≤ j) (h : Bd a j) : Bd a i := by
  unfold Bd at h ⊢
  omega
theorem Bd.of_lt (h0 : 0 ≤ i) (h1 : i < j) (h : Bd a j) : Bd a i := Bd.of_le h0 (Int.le_of_lt h1) h
theorem Bd.of_abs (h0 : -j ≤ i) (h1 : i ≤ j) (h : Bd a j) : Bd a i := by
  unfold Bd at h ⊢
  omega
theorem Bd.lit (i : Int) : Bd (i.natAbs.log2 + 1) i := Nat.lt_log2_self
theorem Bd.pow (h : Bd a i) : ∀ k : Nat, Bd (a * k + 1) (i ^ k)
  | 0 => by
    rw [Int.pow_zero]
    show (1 : Int).natAbs < _
    rw [Nat.mul_zero]
    decide
  | k + 1 => by
    rw [Int.pow_succ]
    exact ((Bd.pow h k).mul h).up (by rw [Nat.mul_succ]; omega)
theorem cmw (h : Bd a i) (k : Bd b j) (z : a + b ≤ 900000) : CMulW i j := by
  have h1 := wide_lt h k
  unfold CMulW
  have x : ∀ (n : Nat) (m : Nat), m < 2 ^ n → m.log2 ≤ n := fun n m hm => by
    by_cases e : m = 0
    · subst e
      simp
    · exact Nat.le_of_lt ((Nat.log2_lt e).mpr hm)
  have := x a _ h
  have := x b _ k
  omega
theorem cdw (h : Bd b j) (h0 : 0 < j) (z : b ≤ 8000) : CDivW i j := ⟨h0, by
  have e : ¬ j.natAbs = 0 := by omega
  exact Nat.lt_of_lt_of_le ((Nat.log2_lt e).mpr h) (by omega)⟩
theorem cpw (h : Bd a i) (h0 : 0 ≤ j ∧ j ≤ 64) (z : a ≤ 900000) : CPowW i j := ⟨h0.1, h0.2, by
  by_cases e : i.natAbs = 0
  · rw [e]
    decide
  · exact Nat.lt_of_lt_of_le ((Nat.log2_lt e).mpr h) (by omega)⟩
theorem shw (h : Bd a i) (z : a ≤ 1900) : i.natAbs < 2 ^ 1900 := h.up z
end

/-! ### the built-ins by their names -/
theorem bt_abs : bootBuiltins "abs" = some (.builtin "abs") := by decide +kernel
theorem bt_max : bootBuiltins "max" = some (.builtin "max") := by decide +kernel
theorem bt_min : bootBuiltins "min" = some (.builtin "min") := by decide +kernel
theorem bt_len : bootBuiltins "len" = some (.builtin "len") := by decide +kernel
theorem bt_int : bootBuiltins "int" = some (.type "int") := by decide +kernel
theorem bt_tuple : bootBuiltins "tuple" = some (.type "tuple") := by decide +kernel
theorem bt_isinstance : bootBuiltins "isinstance" = some (.builtin "isinstance") := by decide +kernel
theorem bt_all : bootBuiltins "all" = some (.builtin "all") := by decide +kernel
theorem bt_sorted : bootBuiltins "sorted" = some (.builtin "sorted") := by decide +kernel
/-! ### a def by its body, over data -/
theorem gok_ds {P : Program} {w : World} {K : PySem.W.Frag} {mg : Str → Option Value} {base : Heap} {k m : Nat} {x qual : Str} {st : Stmt} {f : Addr} {fd : FuncData} {N ps : List Str} {C : Con} (F : Fun K x qual st f fd) (S : FnScope N ps (defScope st))
    (hm : N.length - ps.length = m) (ln : ∀ ds S Q, C ds S Q → ds.length = ps.length)
    (body : ∀ (cdv : Value) (A : Around) (fr : List Env) (s : Shared) (H : Hp) (E : XK), (A.deeper (envOfC qual (defScope st) s.heap.objs.size f cdv)).guards = some [] → Room k (A.deeper (envOfC qual (defScope st) s.heap.objs.size f cdv)) → ∀ (ds : List D) (S0 : Sto) (Q : D → Sto → Prop), C ds S0 Q →
      DS (cxOf CX0 P w K mg base N qual (defScope st) f cdv A fr s H E).nox (defBody st) (ds.map some ++ List.replicate m none) S0 { nx := fun _ S' => Q .non S', rt := Q }) : GOk P w K mg base (k + 1) f fd ps (spD K C) := by
  refine gok_of F S (fun vs H Q E h => ?_) fun cdv A fr s H vs Q E gd hr h => ?_
  · obtain ⟨ds, S0, Hd, Qd, r, _, c, _⟩ := h
    rw [r.length]
    exact ln _ _ _ c
  · obtain ⟨ds, S0, Hd, Qd, r, st0, c, fin⟩ := h
    have e : L2.start N vs = vs.map some ++ List.replicate m none := by
      unfold L2.start
      rw [r.length, ln _ _ _ c, hm]
    rw [e]
    exact body cdv A fr s H E gd hr ds S0 Qd c _ H Hd st0 (RpE.start m r) _ ⟨fun en S' σ H' Hd' z1 z2 _ q => fin .non S' .non H' Hd' q z1 z2 rfl, fun d S' v H' Hd' z1 z2 z3 q => fin d S' v H' Hd' q z1 z2 z3, fun _ _ _ _ _ _ _ _ q => q.elim, fun _ _ _ _ _ _ _ _ q => q.elim⟩
/-- it stands in the module -/
theorem cal_of {P : Program} {w : World} {K : PySem.W.Frag} {mg : Str → Option Value} {base : Heap} {k : Nat} {x qual : Str} {st : Stmt} {f : Addr} {fd : FuncData} {ps : List Str} {kws : List (Nat × List Str)} {C : Con} (F : Fun K x qual st f fd)
    (G : GOk P w K mg base k f fd ps (spD K C)) (hm : mg x = some (.ref f)) (hb : ∀ us : List Value, us.length = ps.length → bindArgs fd ⟨us, []⟩ = pure (ps.zip us)) (hk : ∀ p ∈ kws, KwOk fd ps p) : Cal P w K mg base k x ps kws C := ⟨f, fd, G, hm, F.kp, hb, hk⟩
theorem bargs_of {K : PySem.W.Frag} {x qual : Str} {st : Stmt} {f : Addr} {fd : FuncData} {ps : List Str} (F : Fun K x qual st f fd)
    (h : ∀ (kV doc pm : Value) (an : Option Addr) (cdv ct : Value) (us : List Value), us.length = ps.length → bindArgs (PySem.W.fnOf x qual (defArgs st) (defBody st) (defScope st) .none kV doc pm an cdv ct) ⟨us, []⟩ = pure (ps.zip us)) : ∀ us : List Value, us.length = ps.length → bindArgs fd ⟨us, []⟩ = pure (ps.zip us) := by
  obtain ⟨oc, od, kV, doc, pm, an, cdv, ct, osl, rfl, _, _⟩ := F.ex
  exact h kV doc pm an cdv ct
end DL
namespace DL
open PySem PySem.Spec PyProof.Rows L2

/-! ### isinstance with a built-in type -/
def tyD : D → Option String
  | .non => some "NoneType"
  | .bl _ => some "bool"
  | .int _ => some "int"
  | .str _ => some "str"
  | .tup _ => some "tuple"
  | .lst _ => some "list"
  | .scr _ => some "list"
  | .raw _ => none
  | .ext _ => none
theorem tyX_of {K : PySem.W.Frag} {H : Hp} {d : D} {v : V} {t : String} (h : tyD d = some t) (r : Rp K H d v) (hs : ∀ l, d ≠ .scr l) : TyX K H v (.type t) := by
  cases d with
  | non => cases h; cases (show v = _ from r); exact .base .non
  | bl b => cases h; cases (show v = _ from r); exact .base (.bl b)
  | int i => cases h; cases (show v = _ from r); exact .base (.int i)
  | str x => cases h; cases (show v = _ from r); exact .base (.str x)
  | tup l =>
    cases h
    obtain ⟨a, xs, rfl, h1, _⟩ := r
    rcases h1 with (h1 | ⟨o, h1⟩) | ⟨o, its, n, h1, h2, _⟩
    · exact .base (.tup h1)
    · exact .fTuple h1
    · exact .kTuple h1 h2
  | lst l =>
    cases h
    obtain ⟨a, xs, rfl, h1, _⟩ := r
    exact .base (.lst h1)
  | raw u => cases h
  | ext u => cases h
  | scr l => exact absurd rfl (hs l)
section
variable {X : Cx} {K : PySem.W.Frag} {S : Sto} {Q : D → Sto → Prop} {d : D}
theorem drc_isi {t T : String} {b : Bool} (ht : tyD d = some t) (hk : kitB t T = some b) (q : Q (.bl b) S) (hs : ∀ l, d ≠ .scr l := by intro _ z; cases z) : DRC K (rIsi K) [d, .raw (.ty T)] S Q := fun H Hd vs Qv st rr k => by
  obtain ⟨v, w, e1, rv, rw'⟩ := two_rp rr
  have rw' : w = V.ty T := rw'
  subst e1 rw'
  exact ⟨v, .ty T, .type t, .type T, b, rfl, .ty T, tyX_of ht (Rp.mono st.sub d v rv) hs, kit_ty hk, k _ _ (.here (d := .bl b) st rfl q)⟩
theorem k_ii : kitB "int" "int" = some true := by decide +kernel
theorem k_ib : kitB "int" "bool" = some false := by decide +kernel
theorem k_bi : kitB "bool" "int" = some true := by decide +kernel
theorem k_bb : kitB "bool" "bool" = some true := by decide +kernel
theorem k_tt : kitB "tuple" "tuple" = some true := by decide +kernel
theorem k_si : kitB "str" "int" = some false := by decide +kernel
theorem k_ni : kitB "NoneType" "int" = some false := by decide +kernel
theorem k_ti : kitB "tuple" "int" = some false := by decide +kernel
theorem k_li : kitB "list" "int" = some false := by decide +kernel
theorem k_it : kitB "int" "tuple" = some false := by decide +kernel
theorem k_bt : kitB "bool" "tuple" = some false := by decide +kernel
theorem k_st : kitB "str" "tuple" = some false := by decide +kernel
theorem k_nt : kitB "NoneType" "tuple" = some false := by decide +kernel
theorem k_lt : kitB "list" "tuple" = some false := by decide +kernel
/-- a built-in type's name as a value -/
theorem de_ty {x : Str} {T : String} {en : DEnv} {pos : Pos} (hm : X.mg x = none) (hv : bootBuiltins x = some (.type T)) (q : Q (.raw (.ty T)) S) (hg : Gl X x := by rfl) (hn : x ≠ "__name__" := by decide) (hd : (x == ("__debug__" : Str)) = false := by decide) : DE X (.Name x pos) en S Q := ⟨fun _ _ _ st _ => wE_of (pe_bltn (v := .ty T) hg hm hv rfl hn hd) (.here (d := .raw (.ty T)) st rfl q)⟩
theorem bt_bool : bootBuiltins "bool" = some (.type "bool") := by decide +kernel
/-- all, any of a list of truths -/
theorem bls_of {H : Hp} : ∀ {bs : List Bool} {vs : List V}, RpL K H (bs.map D.bl) vs → vs = bs.map V.bl
  | [], _, h => h
  | b :: bs, _, h => by
    obtain ⟨x, xs, e1, e2, e3⟩ := h
    have e2 : x = V.bl b := e2
    rw [e1, e2, bls_of e3] <;> rfl
theorem drc_all {bs : List Bool} (q : Q (.bl (bs.all id)) S) : DRC K (rAll K) [.lst (bs.map D.bl)] S Q := fun H Hd vs Qv st rr k => by
  obtain ⟨v, e1, a, xs, f1, f2, f3⟩ := one_rp rr
  subst e1 f1
  exact ⟨a, bs, rfl, by rw [← bls_of f3]; exact .of (st.sub _ _ f2), k _ _ (.here (d := .bl _) st rfl q)⟩
/-! ### slices -/
variable {e : Expr} {en : DEnv} {R : Option Int → Prop}
theorem do_none (q : R none) : DO X none en S R := q
theorem do_some (h : DE X e en S fun x S' => S' = S ∧ ∃ i, x = .int i ∧ R (some i)) : DO X (some e) en S R := h
theorem sl_t2 {a b c : D} (q : Q (.tup [a, b]) S) : slP (.tup [a, b, c]) none (some 2) S Q := ⟨(show ¬ (HT.sIx 3 0 none = 0 ∧ HT.sIx 3 3 (some 2) = 3) by decide), q⟩
theorem sl_l {l : List D} {lo hi : Option Int} (q : Q (.lst (cutD l lo hi)) S) : slP (.lst l) lo hi S Q := q
theorem cut_to {l : List D} {n : Int} (h : 0 ≤ n) : cutD l none (some n) = l.take n.toNat := by
  unfold cutD HT.sIx
  simp only [Nat.sub_zero, List.drop_zero]
  have e1 : ¬ n < 0 := by omega
  simp only [e1, if_false]
  by_cases h2 : n.toNat ≤ l.length
  · congr 1
    omega
  · rw [List.take_of_length_le (by omega), List.take_of_length_le (by omega)]

/-! ### three targets at once -/
end

/-! ### the turns of a law over its script -/
theorem scr_turn {ns : List Int} {n : Int} (hn : 0 ≤ n ∧ n ≤ 64) {i : Nat} {d : D} (h : (enuD (cutD (ns.map D.int ++ [.int 0]) none (some n)))[i]? = some d) : i < 64 ∧ ∃ e : Int, d = .tup [.int (i : Nat), .int e] := by
  obtain ⟨x, h1, h2⟩ := enuD_get h
  rw [cut_to hn.1] at h1
  have hi := (List.getElem?_eq_some_iff.mp h1).1
  rw [List.length_take] at hi
  refine ⟨by omega, ?_⟩
  have m := List.mem_of_getElem? h1
  have m2 := List.mem_of_mem_take m
  rcases List.mem_append.mp m2 with z | z
  · obtain ⟨e, _, z2⟩ := List.mem_map.mp z
    exact ⟨e, by rw [h2, ← z2]⟩
  · have z2 : x = .int 0 := by simpa using z
    exact ⟨0, by rw [h2, z2]⟩

/-! ### the source of a law's numbers -/
def Src (m : Nat) (l : List D) : Prop := ∃ a b c : Int, l = [.int a, .int b, .int c] ∧ 0 ≤ a ∧ Bd 200 b ∧ (0 ≤ c ∧ c ≤ (m : Int)) ∧ 0 ≤ b
def con_source : Con := fun ds S Q => ∃ e k : Int, ds = [.int e, .int k] ∧ (0 ≤ k ∧ k ≤ 100) ∧ ∀ p l, getS p S = none → Src 0 l → Q (.raw (.ref p)) ((p, l) :: S)
def con_draw : Con := fun ds S Q => ∃ (p : Addr) (n : Int) (l : List D) (m : Nat), ds = [.raw (.ref p), .int n] ∧ getS p S = some l ∧ Src m l ∧ m ≤ 1000000 ∧ 0 < n ∧ Bd 400 n ∧ ∀ r l', 0 ≤ r → r < n → Src (m + 1) l' → Q (.int r) (setS p l' S)
def con_common : Con := fun ds S Q => ∃ a b : Int, ds = [.int a, .int b] ∧ Q (.int ((Nat.gcd a.natAbs b.natAbs : Nat) : Int)) S
/-- p, q, quarters are a turn -/
structure Tn (p q k : Int) : Prop where
  p1 : 1 ≤ p
  p2 : p ≤ 1000000000000000
  q1 : -p < q
  q2 : q < p
  g : Nat.gcd p.natAbs q.natAbs = 1
  o : (p + q) % 2 = 1
  k1 : 0 ≤ k
  k2 : k ≤ 3
theorem Tn.bp {p q k : Int} (h : Tn p q k) : Bd 50 p := by
  have := h.p1
  have := h.p2
  unfold Bd
  omega
theorem Tn.bq {p q k : Int} (h : Tn p q k) : Bd 50 q := by
  have := h.p2
  have := h.q1
  have := h.q2
  unfold Bd
  omega
def con_spin : Con := fun ds S Q => ∃ (p : Addr) (n : Int) (l : List D) (m : Nat), ds = [.raw (.ref p), .int n] ∧ getS p S = some l ∧ Src m l ∧ m ≤ 900000 ∧ 0 < n ∧ n ≤ 1000000000000000 ∧ ∀ a b k l', Tn a b k → a ≤ n → Src (m + 10) l' → Q (.tup [.int a, .int b, .int k]) (setS p l' S)
def con_dot : Con := fun ds S Q => ∃ (p : Addr) (n : Int) (l : List D) (m : Nat), ds = [.raw (.ref p), .int n] ∧ getS p S = some l ∧ Src m l ∧ m ≤ 900000 ∧ 0 ≤ n ∧ Bd 300 n ∧ ∀ x y l', (-n ≤ x ∧ x ≤ n) → (-n ≤ y ∧ y ≤ n) → Src (m + 2) l' → Q (.tup [.int x, .int y]) (setS p l' S)
theorem Src.up {m n : Nat} {l : List D} (h : Src m l) (k : m ≤ n) : Src n l := by
  obtain ⟨a, b, c, e, h1, h2, h3, h4⟩ := h
  exact ⟨a, b, c, e, h1, h2, ⟨h3.1, by omega⟩, h4⟩
theorem getS_setS_same {p : Addr} {S : Sto} {l n : List D} (h : getS p S = some l) : getS p (setS p n S) = some n := by
  rw [getS_setS, if_pos rfl, h] <;> rfl
theorem setS_setS {p : Addr} {n m : List D} : ∀ {S : Sto}, setS p n (setS p m S) = setS p n S
  | [] => rfl
  | (q, l) :: S => by
    by_cases h : q = p
    · subst h
      rw [setS_hd, setS_hd, setS_hd]
    · rw [setS_tl h, setS_tl h, setS_tl h, setS_setS]
end DL
namespace DL
open PySem PySem.Spec PyProof.Rows L2
section
variable {X : Cx} {a b : Expr} {en : DEnv} {S : Sto} {Q : D → Sto → Prop} {pos p : Pos}
/-- x += e, of whole numbers -/
theorem ds_augI {Z : Dn} {x : Str} {e : Expr} {i : Int} (k : Nat) (hN : X.N.Nodup) (hk : X.N[k]? = some x) (hx : X.env.scope.names.lookup x = some .local) (he : en[k]? = some (some (.int i)))
    (h : DE X e en S fun d S1 => ∃ j, d = .int j ∧ Z.nx (en.set k (some (.int (i + j)))) S1) : DS1 X (.AugAssign (.Name x p) .Add e pos) en S Z := ⟨fun σ H Hd st re De l => by
  refine wS_of (ps_aug hN hk (.inl hx) peW ip_add (.inr hx)) ?_
  obtain ⟨v, e1, rv⟩ := re.get he
  have rv : v = V.int i := rv
  subst rv
  refine ⟨_, e1, ?_⟩
  refine wE_mono (h σ H Hd st re) fun w H1 ⟨d, S1, Hd1, z1, st1, r1, j, e2, q⟩ => ?_
  subst e2
  have r1 : w = V.int j := r1
  subst r1
  exact ⟨i, j, rfl, rfl, l.nx _ S1 _ H1 Hd1 z1 st1 ((re.mono z1).set (d := .int (i + j)) rfl k) q⟩⟩
end
end DL
namespace Tp
open PySem DL
end Tp
namespace DL
open PySem PySem.Spec PyProof.Rows L2
end DL
namespace DL
open PySem PySem.Spec PyProof.Rows L2
/-- a number and a pair of numbers -/
def d3 (t : Int × Int × Int) : D := .tup [.int t.1, .tup [.int t.2.1, .int t.2.2]]
theorem lt_no {s t : Int × Int × Int} (h : s = t ∨ t.1 < s.1) : PySem.W.DatumOrd.lt s t = false := by
  rcases h with h | h
  · subst h
    have : (if s.1 = s.1 then (if s.2.1 = s.2.1 then PySem.W.DatumOrd.lt s.2.2 s.2.2 else PySem.W.DatumOrd.lt s.2.1 s.2.1) else PySem.W.DatumOrd.lt s.1 s.1) = false := by
      rw [if_pos rfl, if_pos rfl]
      exact decide_eq_false (Int.lt_irrefl _)
    exact this
  · have : (if s.1 = t.1 then PySem.W.DatumOrd.lt s.2 t.2 else PySem.W.DatumOrd.lt s.1 t.1) = false := by
      rw [if_neg (by omega)]
      exact decide_eq_false (by omega)
    exact this
/-- the ends of a statement's ways, told by one form -/
theorem ds_join {X : Cx} {st : Stmt} {en : DEnv} {S : Sto} {Z : Dn} {γ : Type} (E : γ → DEnv) (P : γ → Sto → Prop)
    (h : DS1 X st en S { nx := fun en3 S3 => ∃ g, Wk en3 (E g) ∧ P g S3, rt := Z.rt, bk := Z.bk, ct := Z.ct }) (k : ∀ g S', P g S' → Z.nx (E g) S') : DS1 X st en S Z := ⟨fun σ H Hd st re De l =>
  h σ H Hd st re De ⟨fun _ S5 σ5 H5 Hd5 w1 w2 w3 ⟨g, w4, w5⟩ => l.nx (E g) S5 σ5 H5 Hd5 w1 w2 (w4.use w3) (k g S5 w5), l.rt, l.bk, l.ct⟩⟩
end DL
namespace DL
open PySem PySem.Spec PyProof.Rows L2
/-- slots forgotten; slots with values -/
def fgt : List Nat → DEnv → DEnv
  | [], en => en
  | k :: ks, en => fgt ks (en.set k none)
def putU : List (Nat × D) → DEnv → DEnv
  | [], en => en
  | (k, d) :: us, en => putU us (en.set k (some d))
section
variable {X : Cx} {c tg iter : Expr} {body : List Stmt} {en : DEnv} {S : Sto} {Z : Dn} {pos : Pos}
theorem ds_forG {γ : Type} (ks : List Nat) (hp : PassesOwn (model X.prog X.w) X.A X.env X.xe) (hc : X.calm = true)
    (h : DI X tg iter en S fun ds S1 => ∃ (U : γ → List (Nat × D)) (E : γ → DEnv) (_ : ∀ g, putU (U g) (fgt ks en) = E g) (P : Nat → γ → Sto → Prop) (g0 : γ), Wk en (E g0) ∧ P 0 g0 S1 ∧
      (∀ i d g S', ds[i]? = some d → P i g S' → DG X tg d (E g) S' fun en2 S2 => DS X body en2 S2 { nx := fun en3 S3 => ∃ g', Wk en3 (E g') ∧ P (i + 1) g' S3, rt := Z.rt, ct := fun en3 S3 => ∃ g', Wk en3 (E g') ∧ P (i + 1) g' S3, bk := Z.nx }) ∧
      ∀ g S', P ds.length g S' → Z.nx (E g) S') (hs : ∀ x, foldedSetIterable iter X.env x = pure x := by first | exact fset rfl | (intro _; rfl)) : DS1 X (.For tg iter body [] pos) en S Z := by
  refine ds_for (γ := γ) hp hc ⟨fun σ H Hd st re => ?_⟩ hs
  intro pins s I
  refine thn (DI.run h σ H Hd st re pins s I) fun v s1 h1 => thn h1 fun itv s2 h2 => ?_
  obtain ⟨it, fp, tn, J, H2, e, I2, T, st2, f2, ds, S1, Hd1, e1, s01, io, U, E, _, P, g0, wk, p0, turn, fin⟩ := h2
  exact ⟨it, fp, tn, J, H2, e, I2, T, st2, f2, ds, S1, Hd1, e1, s01, io, E, P, g0, wk, p0, turn, fin⟩
end
end DL
namespace DL
open PySem PySem.Spec PyProof.Rows L2
section
variable {X : Cx} {K : PySem.W.Frag} {S : Sto} {Q : D → Sto → Prop}
end
end DL
namespace DL
open PySem PySem.Spec PyProof.Rows L2
/-! ### comprehensions with several targets -/
def setV : List Nat → List D → DEnv → DEnv
  | i :: is, d :: ds, en => setV is ds (en.set i (some d))
  | _, _, en => en
def wipeE : List Nat → DEnv → DEnv
  | [], en => en
  | i :: is, en => (wipeE is en).set i none
def setW : List Nat → List V → L2.St → L2.St
  | i :: is, v :: vs, σ => setW is vs (σ.set i (some v))
  | _, _, σ => σ
def gNames : List Nat → TGs
  | [] => gNil
  | i :: is => gCons (gName i) (gNames is)
theorem RpE.drop {K : PySem.W.Frag} {H : Hp} : ∀ {en : DEnv} {σ : L2.St} (i : Nat), RpE K H en σ → RpE K H (en.set i none) (σ.set i none)
  | [], _, _, h => by
    have h : _ = [] := h
    subst h
    rfl
  | none :: es, _, 0, h => let ⟨o, σ', e1, e2⟩ := h; ⟨none, σ', by rw [e1] <;> rfl, e2⟩
  | some x :: es, _, 0, h => let ⟨o, σ', e1, _, e2⟩ := h; ⟨none, σ', by rw [e1] <;> rfl, e2⟩
  | none :: es, _, i + 1, h => let ⟨o, σ', e1, e2⟩ := h; ⟨o, σ'.set i none, by rw [e1] <;> rfl, e2.drop i⟩
  | some x :: es, _, i + 1, h => let ⟨o, σ', e1, e0, e2⟩ := h; ⟨o, σ'.set i none, by rw [e1] <;> rfl, e0, e2.drop i⟩
theorem RpE.wipe {K : PySem.W.Frag} {H : Hp} {en : DEnv} {σ : L2.St} (h : RpE K H en σ) : ∀ is : List Nat, RpE K H (wipeE is en) (wipe σ is)
  | [] => h
  | i :: is => (RpE.wipe h is).drop i
theorem RpE.setV {K : PySem.W.Frag} {H : Hp} : ∀ {is : List Nat} {ds : List D} {vs : List V} {en : DEnv} {σ : L2.St}, RpE K H en σ → RpL K H ds vs → RpE K H (setV is ds en) (setW is vs σ)
  | [], _, _, _, _, h, _ => h
  | i :: is, [], vs, _, _, h, r => by
    have r : vs = [] := r
    subst r
    exact h
  | i :: is, d :: ds, _, _, _, h, r => by
    obtain ⟨v, vs', e1, rv, r2⟩ := r
    subst e1
    exact RpE.setV (is := is) (h.set rv i) r2
theorem gNames_go : ∀ {is : List Nat} {vs : List V} {σ : L2.St} {H : Hp} {Q : L2.St → Hp → Prop}, vs.length = is.length → Q (setW is vs σ) H → gNames is vs σ H Q
  | [], [], _, _, _, _, q => ⟨rfl, q⟩
  | [], _ :: _, _, _, _, h, _ => by cases h
  | _ :: _, [], _, _, _, h, _ => by cases h
  | i :: is, v :: vs, _, _, _, h, q => ⟨v, vs, rfl, gNames_go (is := is) (by simpa using h) q⟩
theorem wipe_at (σ : L2.St) (n : Nat) : ∀ is : List Nat, (wipe σ is)[n]? = if n ∈ is then (σ[n]?).map (fun _ => none) else σ[n]?
  | [] => by simp [wipe]
  | i :: is => by
    show ((wipe σ is).set i none)[n]? = _
    rw [List.getElem?_set, wipe_at σ n is, wipe_length]
    by_cases e : i = n
    · subst e
      rw [if_pos rfl, if_pos List.mem_cons_self]
      by_cases hl : i < σ.length
      · rw [if_pos hl, List.getElem?_eq_getElem hl] <;> rfl
      · rw [if_neg hl, List.getElem?_eq_none (by omega)] <;> rfl
    · rw [if_neg e]
      have : (n ∈ i :: is) ↔ n ∈ is := ⟨fun h => (List.mem_cons.mp h).elim (fun z => absurd z.symm e) id, List.mem_cons_of_mem _⟩
      simp only [this]
theorem wipe_set {i : Nat} {x : Option V} {σ : L2.St} {is : List Nat} (h : i ∈ is) : wipe (σ.set i x) is = wipe σ is := by
  refine List.ext_getElem? fun n => ?_
  rw [wipe_at, wipe_at]
  by_cases hn : n ∈ is
  · rw [if_pos hn, if_pos hn, List.getElem?_set]
    by_cases e : i = n
    · subst e
      rw [if_pos rfl]
      by_cases hl : i < σ.length
      · rw [if_pos hl, List.getElem?_eq_getElem hl] <;> rfl
      · rw [if_neg hl, List.getElem?_eq_none (by omega)]
    · rw [if_neg e]
  · rw [if_neg hn, if_neg hn, List.getElem?_set, if_neg (fun e : i = n => hn (by rw [← e]; exact h))]
theorem wipe_setW : ∀ {js : List Nat} {vs : List V} {σ : L2.St} {is : List Nat}, (∀ j ∈ js, j ∈ is) → wipe (setW js vs σ) is = wipe σ is
  | [], _, _, _, _ => rfl
  | _ :: _, [], _, _, _ => rfl
  | j :: js, v :: vs, σ, is, h => by
    show wipe (setW js vs (σ.set j (some v))) is = _
    rw [wipe_setW (js := js) fun k hk => h k (List.mem_cons_of_mem _ hk), wipe_set (h j List.mem_cons_self)]
theorem wipe_wipe (σ : L2.St) (is : List Nat) : wipe (wipe σ is) is = wipe σ is := by
  refine List.ext_getElem? fun n => ?_
  rw [wipe_at, wipe_at]
  by_cases hn : n ∈ is
  · rw [if_pos hn, if_pos hn, Option.map_map] <;> rfl
  · rw [if_neg hn, if_neg hn]
section
variable {X : Cx} {elt iter c tg : Expr} {en : DEnv} {S : Sto} {Q : D → Sto → Prop} {pos : Pos} {scope : Scope} {ifs : List Expr} {tt : TT}
theorem lc_goT (is : List Nat) (te : TE) {n : Nat} (hn : is.length = n) (mT : ∀ (σ : L2.St) (H : Hp) (A B : Bool → Hp → Prop), tt σ H A → (∀ b H', A b H' → B b H') → tt σ H B) (mE : ∀ (σ : L2.St) (H : Hp) (A B : VK), te σ H A → (∀ v H', A v H' → B v H') → te σ H B)
    (h : DI X tg iter en S fun ds S1 => ∃ (P : Nat → List D → Sto → Prop), P 0 [] S1 ∧
      (∀ k d acc S' p, ds[k]? = some d → P k acc S' → getS p S' = none → acc.length ≤ k → ∃ vals, d = .tup vals ∧ vals.length = n ∧ ∀ (σ : L2.St) (H Hd : Hp), St0 X.K ((p, acc) :: S') Hd H → RpE X.K Hd (setV is vals (wipeE is en)) σ →
        tt σ H fun b H3 => if b = true then te σ H3 fun v H4 => ∃ d2 S4 Hd4, Same Hd Hd4 ∧ St0 X.K ((p, acc) :: S4) Hd4 H4 ∧ Rp X.K Hd4 d2 v ∧ P (k + 1) (acc ++ [d2]) S4 else ∃ S4 Hd4, Same Hd Hd4 ∧ St0 X.K ((p, acc) :: S4) Hd4 H3 ∧ P (k + 1) acc S4) ∧
      ds.length ≤ 100000 ∧ ∀ acc S', acc.length ≤ ds.length → P ds.length acc S' → Q (.lst acc) S') {σ : L2.St} {H Hd : Hp} (st : St0 X.K S Hd H) (re : RpE X.K Hd en σ) (Qv : VK) (kq : ∀ v H', QD X.K Hd Q v H' → Qv v H') : tLc (wI X tg iter) (gTup X.K n (gNames is)) tt te is σ H Qv := by
  intro pins s I
  refine thn (h σ H Hd st re pins s I) fun v s1 h1 => thn h1 fun itv s2 h2 => ?_
  obtain ⟨it, fp, tn, J, H2, e, I2, T, st2, f2, ds, S1, Hd1, e1, s01, io, P, p0, turn, lim, fin⟩ := h2
  refine ⟨it, fp, tn, J, H2, e, I2, T, st2, f2, fun p hp => ?_⟩
  obtain ⟨fr, s02⟩ := s01.laidO (l := []) (xs := []) hp rfl
  refine ⟨fun k m H => m = ds.length - k ∧ k ≤ ds.length ∧ ∃ acc S' Hd', acc.length ≤ k ∧ Same Hd1 Hd' ∧ St0 X.K ((p, acc) :: S') Hd' H ∧ P k acc S', ⟨_, rfl, Nat.zero_le _, [], S1, Hd1, Nat.le_refl _, Same.refl _, s02, p0⟩, ?_⟩
  rintro k m H ⟨rfl, hk, acc, S', Hd', ka, k1, k2, k3⟩
  by_cases hlt : k < ds.length
  · obtain ⟨go, yl⟩ := io.go k1 k2 (List.getElem?_eq_getElem hlt)
    refine .inr ⟨go, fun H' => ∃ acc S' Hd', acc.length ≤ k + 1 ∧ Same Hd1 Hd' ∧ St0 X.K ((p, acc) :: S') Hd' H' ∧ P (k + 1) acc S', fun H' q => ⟨ds.length - (k + 1), by omega, rfl, hlt, q⟩, fun x H' y => ?_⟩
    obtain ⟨Hd2, y1, y2, y3⟩ := yl x H' y
    obtain ⟨vals, ed, el, go2⟩ := turn k _ acc S' p (List.getElem?_eq_getElem hlt) k3 k2.own.2.1 ka
    rw [ed] at y3
    obtain ⟨a, xs, f1, f2', f3⟩ := y3
    have hxl : xs.length = n := by rw [f3.length]; exact el
    refine ⟨a, xs, f1, same_t y2.sub f2', hxl, ?_⟩
    refine gNames_go (is := is) (by rw [hxl, hn]) ?_
    refine ⟨by rw [wipe_setW fun j hj => hj, wipe_wipe], ?_⟩
    have reB := RpE.setV (is := is) ((re.mono (e1.trans (k1.trans y1))).wipe is) f3
    have go2 := go2 _ H' Hd2 y2 reB
    have en1 : ∀ (H4 : Hp) (v : V) (d2 : D) (S4 : Sto) (Hd4 : Hp), Same Hd2 Hd4 → St0 X.K ((p, acc) :: S4) Hd4 H4 → Rp X.K Hd4 d2 v → P (k + 1) (acc ++ [d2]) S4 →
        ∃ vs, H4 p = some (.lst vs) ∧ vs.length < sizeLine ∧ ∃ acc S' Hd', acc.length ≤ k + 1 ∧ Same Hd1 Hd' ∧ St0 X.K ((p, acc) :: S') Hd' (upd H4 p (.lst (vs ++ [v]))) ∧ P (k + 1) acc S' := by
      intro H4 v d2 S4 Hd4 z1 z2 z3 z4
      obtain ⟨_, xs, hx, rx⟩ := z2.own.at (l := acc) getS_hd
      refine ⟨xs, hx, by rw [rx.length]; exact Nat.lt_of_le_of_lt (Nat.le_trans ka hk) (Nat.lt_of_le_of_lt lim (by decide)), acc ++ [d2], S4, Hd4, by rw [List.length_append, List.length_singleton]; omega, k1.trans (y1.trans z1), ?_, z4⟩
      have w := z2.written (l' := acc ++ [d2]) (ys := xs ++ [v]) getS_hd (rx.append (show RpL X.K Hd4 [d2] [v] from ⟨v, [], rfl, z3, rfl⟩))
      rw [setS_hd] at w
      exact w
    refine mT _ _ _ _ go2 fun b H3 q => ?_
    cases b with
    | true =>
      rw [if_pos rfl] at q ⊢
      exact mE _ _ _ _ q fun v H4 ⟨d2, S4, Hd4, z1, z2, z3, z4⟩ => en1 H4 v d2 S4 Hd4 z1 z2 z3 z4
    | false =>
      rw [if_neg Bool.false_ne_true] at q ⊢
      obtain ⟨S4, Hd4, z1, z2, z3⟩ := q
      exact ⟨acc, S4, Hd4, Nat.le_succ_of_le ka, k1.trans (y1.trans z1), z2, z3⟩
  · have e0 : k = ds.length := by omega
    subst e0
    obtain ⟨xs, rx, ex, sx⟩ := k2.frozen
    exact .inl ⟨io.stop k1 k2, kq _ _ ⟨.lst acc, S', _, e1.trans (k1.trans ex), sx, ⟨p, xs, rfl, upd_same, rx.mono ex⟩, fin acc S' ka k3⟩⟩
def Lc1T (X : Cx) (scope : Scope) (is : List Nat) (n : Nat) (tg : Expr) (elt iter c : Expr) (en : DEnv) (S : Sto) (Q : D → Sto → Prop) : Prop := DI X tg iter en S fun ds S1 => ∃ (P : Nat → List D → Sto → Prop), P 0 [] S1 ∧
  (∀ k d acc S' p, ds[k]? = some d → P k acc S' → getS p S' = none → acc.length ≤ k → ∃ vals, d = .tup vals ∧ vals.length = n ∧ ∃ en', setV is vals (wipeE is en) = en' ∧
    ∀ s H C cl fp, DT (bX X scope s H C cl fp) c en' ((p, acc) :: S') fun b S2 => ∃ S3, S2 = (p, acc) :: S3 ∧ (b = true → Turn1 X scope elt en' S3 p acc (P (k + 1))) ∧ (b = false → P (k + 1) acc S3)) ∧
  ds.length ≤ 100000 ∧ ∀ acc S', acc.length ≤ ds.length → P ds.length acc S' → Q (.lst acc) S'
theorem lc1T_read {is : List Nat} {n : Nat} (hn : is.length = n) (h : Lc1T X scope is n tg elt iter c en S Q) {σ : L2.St} {H Hd : Hp} (st : St0 X.K S Hd H) (re : RpE X.K Hd en σ) (Qv : VK) (kq : ∀ v H', QD X.K Hd Q v H' → Qv v H') : tLc (wI X tg iter) (gTup X.K n (gNames is)) (ttB X scope c) (teB X scope elt) is σ H Qv := by
  refine lc_goT is _ hn (fun σ H A B q k s0 H0 C cl fp => wT_mono (q s0 H0 C cl fp) k) (fun σ H A B q k s0 H0 C cl fp => wE_mono (q s0 H0 C cl fp) k) ?_ st re Qv kq
  refine ⟨fun σ H Hd st re => ?_⟩
  intro pins s I
  refine thn (DI.run h σ H Hd st re pins s I) fun v s1 h1 => thn h1 fun itv s2 h2 => ?_
  obtain ⟨it, fp, tn, J, H2, e, I2, T, st2, f2, ds, S1, Hd1, e1, s01, io, P, p0, turn, lim, fin⟩ := h2
  refine ⟨it, fp, tn, J, H2, e, I2, T, st2, f2, ds, S1, Hd1, e1, s01, io, P, p0, fun k d acc S' p hk hP hp hl => ?_, lim, fin⟩
  obtain ⟨vals, ed, el, en', ee, t1⟩ := turn k d acc S' p hk hP hp hl
  refine ⟨vals, ed, el, fun σ H Hd st re => ?_⟩
  rw [ee] at re
  intro s0 H0 C cl fp
  refine wT_mono (t1 s0 H0 C cl fp σ H Hd st re) fun b H3 ⟨S2, Hd3, e3, st3, S3, z, q1, q2⟩ => ?_
  subst z
  cases b with
  | true =>
    rw [if_pos rfl]
    intro s5 H5 C5 cl5 fp5
    exact wE_mono (q1 rfl s5 H5 C5 cl5 fp5 σ H3 Hd3 st3 (re.mono e3)) fun v H4 ⟨d2, S5, Hd4, y1, y2, y3, S6, y4, y5⟩ => by
      subst y4
      exact ⟨d2, S6, Hd4, e3.trans y1, y2, y3, y5⟩
  | false =>
    rw [if_neg Bool.false_ne_true]
    exact ⟨S3, Hd3, e3, st3, q2 rfl⟩
variable {own : List (Str × Nat)} {n : Nat}
theorem de_lcTIf (is : List Nat) (hc : X.calm = true) (hN : X.N.Nodup) (ok : BlkOk X.N X.env.scope scope own) (ho : own.map (·.2) = is) (hn : is.length = n) (h : Lc1T X scope is n tg elt iter c en S Q)
    (hg : ∀ (s : Shared) (H : Hp) (C : Addr) (cl : List (Str × Addr)) (fp : List Addr), PG (bX X scope s H C cl fp) tg (gTup X.K n (gNames is)))
    (hs : ∀ x, foldedSetIterable iter X.env x = pure x := by first | exact fset rfl | (intro _; rfl)) : DE X (.ListComp elt [⟨tg, iter, [c], 0⟩] scope pos) en S Q := ⟨fun σ H Hd st re => by
  subst ho
  exact wE_of (pe_lc hc hN piW ok hg (fun s H C cl fp => pts_one (pt_blk (tt := ttB X scope c) rfl s H C cl fp)) (pe_blk (te := teB X scope elt) rfl) hs) (lc1T_read hn h st re _ fun _ _ z => z)⟩
end
end DL
namespace DL
open PySem PySem.Spec PyProof.Rows L2
/-! ### in, not in over any data; is None; repr of plain values -/
theorem room_shaped {d : PyData} {A : Around} (h : SeqAt.shaped d = true) (hu : A.units + 65 < cLine) {n : Nat} : A.units + 1 + min n d.depth < cLine := by
  have h2 : d.depth ≤ 64 := by
    unfold SeqAt.shaped at h
    rw [Bool.and_eq_true] at h
    exact of_decide_eq_true h.2
  omega
def rInT (K : PySem.W.Frag) (neg : Bool) : R2 := fun x y H Q => ∃ d ds, Dp K H x d ∧ Dp K H y (.tuple ds) ∧ SeqAt.shaped d = true ∧ PyData.canLayAll0 ds = true ∧ Q (.bl (if neg then !ds.any fun z => PyData.eqv z d else ds.any fun z => PyData.eqv z d)) H
theorem op_notInT {X : Cx} (hu : X.A.units + 65 < cLine) : OpR X (compareOp .NotIn) (rInT X.K true) := by
  intro pins s σ H x y v u Q I rx ry h
  obtain ⟨d, ds, hd, he, sd, se, q⟩ := h
  obtain ⟨as, r1⟩ := Dp.reads I d x v hd rx
  obtain ⟨bs, r2⟩ := Dp.reads I (.tuple ds) y u he ry
  exact SeqAt.notIn_tuple_reads r2 r1 se (SeqAt.canLay_of_shaped sd) (room_shaped sd hu) ⟨.bl _, H, I, rfl, q⟩
theorem any_toPy (x : D) : ∀ l : List D, ((toPyL l).any fun z => PyData.eqv z (toPy x)) = l.any fun z => eqB z x
  | [] => rfl
  | d :: l => by
    show (PyData.eqv (toPy d) (toPy x) || (toPyL l).any _) = (eqB d x || l.any _)
    rw [any_toPy x l] <;> rfl
def inP (x y : D) (S : Sto) (Q : Bool → Sto → Prop) : Prop := match y with
  | .lst l => (flatOk 9 x = true ∧ flatOkL 8 l = true) ∧ Q (l.any fun z => eqB z x) S
  | .tup l => (flatOk 9 x = true ∧ flatOkL 8 l = true) ∧ Q (l.any fun z => eqB z x) S
  | _ => False
theorem flat9l {l : List D} (h : flatOkL 8 l = true) : flatOk 9 (.lst l) = true := by simpa [flatOk] using h
theorem flat9t {l : List D} (h : flatOkL 8 l = true) : flatOk 9 (.tup l) = true := by simpa [flatOk] using h
theorem dr_notin {K : PySem.W.Frag} {x y : D} {S : Sto} {Q : D → Sto → Prop} (h : inP x y S fun b S' => Q (.bl (!b)) S') : DR2 K (fun x y H Q => rNotInD K x y H Q ∨ rInT K true x y H Q) x y S Q := by
  intro H Hd vx vy Qv st rx ry k
  unfold inP at h
  split at h
  · rename_i l
    obtain ⟨⟨h1, h2⟩, q⟩ := h
    exact .inl ⟨toPy x, toPyL l, dp_of 9 x vx h1 (Rp.mono st.sub x vx rx), dp_of 9 (.lst l) vy (flat9l h2) (Rp.mono st.sub _ vy ry), shaped_of h1 (by decide), shaped_of (d := .lst l) (flat9l h2) (by decide), by rw [any_toPy]; exact k _ _ (.here (d := .bl _) st rfl q)⟩
  · rename_i l
    obtain ⟨⟨h1, h2⟩, q⟩ := h
    exact .inr ⟨toPy x, toPyL l, dp_of 9 x vx h1 (Rp.mono st.sub x vx rx), dp_of 9 (.tup l) vy (flat9t h2) (Rp.mono st.sub _ vy ry), shaped_of h1 (by decide), (layAll_of 8 l h2).1, by rw [any_toPy]; exact k _ _ (.here (d := .bl _) st rfl q)⟩
  · exact h.elim
section
variable {X : Cx} {a b c e : Expr} {en : DEnv} {S : Sto} {Q : D → Sto → Prop} {P : Bool → Sto → Prop} {pos p : Pos}
theorem hu65 {A : Around} {k : Nat} (hr : Room k A) : A.units + 65 < cLine := by
  have := hr.un
  omega
/-- is it None, for all data but the raw -/
def nonB : D → Option Bool
  | .non => some true
  | .raw _ => none
  | .ext _ => none
  | _ => some false
theorem nonB_of {K : PySem.W.Frag} {H : Hp} {d : D} {v : V} {t : Bool} (h : nonB d = some t) (r : Rp K H d v) : decide (v = .non) = t := by
  cases d with
  | non => cases h; exact decide_eq_true r
  | bl b => cases h; rw [show v = V.bl b from r] <;> rfl
  | int b => cases h; rw [show v = V.int b from r] <;> rfl
  | str b => cases h; rw [show v = V.str b from r] <;> rfl
  | tup l => cases h; obtain ⟨a, xs, e, _⟩ := r; rw [e] <;> rfl
  | lst l => cases h; obtain ⟨a, xs, e, _⟩ := r; rw [e] <;> rfl
  | raw u => cases h
  | ext u => cases h
  | scr l => cases h; obtain ⟨a, e, _⟩ := r; rw [e] <;> rfl
theorem dt_notin (hu : X.A.units + 65 < cLine) (h : DE X a en S fun x S1 => DE X b en S1 fun y S2 => inP x y S2 fun b S' => P (!b) S') (hm : behindInMarks .NotIn b = false := by rfl) : DT X (.Compare a [.NotIn] [b] pos) en S P :=
  dt_cmp (OpR.or (op_notInD hu) (op_notInT hu)) hm (h.mono fun _ _ h1 => h1.mono fun x S2 h2 => dr_notin (by
    unfold inP at h2 ⊢
    split at h2 <;> first | exact ⟨h2.1, _, rfl, h2.2⟩ | exact h2))
theorem dt_isN {j} {p2 : Pos} (h : DE X a en S fun x S1 => ∃ t, nonB x = some t ∧ P t S1) : DT X (.Compare a [.Is] [.Constant .none j p2] pos) en S P :=
  dt_cmp op_isN (nobehind _ (by decide) (by decide)) (h.mono fun x S1 ⟨t, h1, q⟩ => de_non fun H Hd vx vy Qv st rx ry k => ⟨ry, by rw [nonB_of h1 rx]; exact k _ _ (.here (d := .bl t) st rfl ⟨t, rfl, q⟩)⟩)
theorem dt_notN {j} {p2 : Pos} (h : DE X a en S fun x S1 => ∃ t, nonB x = some t ∧ P (!t) S1) : DT X (.Compare a [.IsNot] [.Constant .none j p2] pos) en S P :=
  dt_cmp op_notN (nobehind _ (by decide) (by decide)) (h.mono fun x S1 ⟨t, h1, q⟩ => de_non fun H Hd vx vy Qv st rx ry k => ⟨ry, by rw [nonB_of h1 rx]; exact k _ _ (.here (d := .bl (!t)) st rfl ⟨!t, rfl, q⟩)⟩)
/-- x -= e, of whole numbers -/
theorem ds_augS {Z : Dn} {x : Str} {e : Expr} {i : Int} (k : Nat) (hN : X.N.Nodup) (hk : X.N[k]? = some x) (hx : X.env.scope.names.lookup x = some .local) (he : en[k]? = some (some (.int i)))
    (h : DE X e en S fun d S1 => ∃ j, d = .int j ∧ Z.nx (en.set k (some (.int (i - j)))) S1) : DS1 X (.AugAssign (.Name x p) .Sub e pos) en S Z := ⟨fun σ H Hd st re De l => by
  refine wS_of (ps_aug hN hk (.inl hx) peW ip_sub (.inr hx)) ?_
  obtain ⟨v, e1, rv⟩ := re.get he
  have rv : v = V.int i := rv
  subst rv
  refine ⟨_, e1, ?_⟩
  refine wE_mono (h σ H Hd st re) fun w H1 ⟨d, S1, Hd1, z1, st1, r1, j, e2, q⟩ => ?_
  subst e2
  have r1 : w = V.int j := r1
  subst r1
  exact ⟨i, j, rfl, rfl, l.nx _ S1 _ H1 Hd1 z1 st1 ((re.mono z1).set (d := .int (i - j)) rfl k) q⟩⟩
/-- xs[::-1] -/
theorem de_rev {k : Nat} {p1 p2 p3 : Pos} (h : DE X e en S fun d S1 => ∃ l, d = .lst l ∧ Q (.lst l.reverse) S1) : DE X (.Subscript e (.Slice none none (some (.UnaryOp .USub (.Constant (.int 1) k p1) p2)) p3) pos) en S Q := ⟨fun σ H Hd st re => by
  refine wE_of (pe_revL peW) ?_
  refine wE_mono (h σ H Hd st re) fun v H1 ⟨d, S1, Hd1, e1, st1, r1, l, e2, q⟩ => ?_
  subst e2
  obtain ⟨a, xs, f1, f2, f3⟩ := r1
  refine ⟨a, xs, f1, .of (st1.sub _ _ f2), fun p hp => .up e1 (new_lst st1 (l := l.reverse) (xs := xs.reverse) ?_ hp q)⟩
  clear q f2 f1 a hp
  revert xs
  induction l with
  | nil =>
    intro xs r
    have r : xs = [] := r
    subst r
    rfl
  | cons d l ih =>
    intro xs r
    obtain ⟨x, ys, rfl, r1, r2⟩ := r
    rw [List.reverse_cons, List.reverse_cons]
    exact (ih ys r2).append (show RpL X.K Hd1 [d] [x] from ⟨x, [], rfl, r1, rfl⟩)⟩
end
end DL
namespace DL
open PySem PySem.Spec PyProof.Rows L2
/-! ### sorted over data -/
theorem each_zip {α β : Type} {R : α → β → Prop} : ∀ {as : List α} {bs : List β}, PySem.W.EachIs R as bs → ∀ p ∈ as.zip bs, R p.1 p.2
  | [], _, _, p, h => by simp at h
  | _ :: _, [], _, p, h => by simp at h
  | a :: as, b :: bs, .cons r e, p, h => by
    rw [List.zip_cons_cons] at h
    rcases List.mem_cons.mp h with z | z
    · rw [z]; exact r
    · exact each_zip e p z
theorem each_self {α β : Type} : ∀ {as : List α} {bs : List β}, as.length = bs.length → PySem.W.EachIs (fun a b => (a, b) ∈ as.zip bs) as bs
  | [], [], _ => .nil
  | [], _ :: _, h => by cases h
  | _ :: _, [], h => by cases h
  | a :: as, b :: bs, h => by
    refine .cons (by rw [List.zip_cons_cons]; exact List.mem_cons_self) ?_
    have := each_self (as := as) (bs := bs) (by simpa using h)
    exact this.mono fun x y z => by rw [List.zip_cons_cons]; exact List.mem_cons_of_mem _ z
theorem each_reads {h : Heap} {β : Type} {enc : β → PyData} : ∀ {bs : List β} {vs : List Value} {as : List Addr}, ReadsAll h vs (bs.map enc) as → PySem.W.EachIs (fun v b => ∃ as, Reads h v (enc b) as) vs bs
  | [], vs, as, r => by cases r; exact .nil
  | b :: bs, vs, as, r => by
    cases r with
    | cons r1 r2 => exact .cons ⟨_, r1⟩ (each_reads r2)
def rSrtD (K : PySem.W.Frag) : List V → Hp → VK → Prop := fun vs H Q => ∃ (β : Type) (enc : β → PyData) (bs : List β) (a : Addr) (xs : List V), vs = [.ref a] ∧ SqL K H a xs ∧ DpAll K H xs (bs.map enc) ∧ (∀ x ∈ xs, ∃ t, x = V.ref t) ∧ PySem.W.AllAlike (bs.map enc) ∧ PySem.W.Sortable (bs.map enc) ∧
  (∀ b ∈ bs, (enc b).depth ≤ 20) ∧ bs.length ≤ sizeLine ∧ ∀ ys p, H p = none → (∀ ρ : V → β → Prop, PySem.W.EachIs ρ xs bs → PySem.W.EachIs ρ ys (bs.mergeSort (PySem.W.dataLe false enc))) → Q (.ref p) (upd H p (.lst ys))
theorem each_map_l {α γ β : Type} {f : α → γ} {R : γ → β → Prop} : ∀ {as : List α} {bs : List β}, PySem.W.EachIs (fun a b => R (f a) b) as bs → PySem.W.EachIs R (as.map f) bs
  | _, _, .nil => .nil
  | _, _, .cons r e => .cons r (each_map_l e)
theorem cr_sortD {X : Cx} (hu : X.A.units + 65 < cLine) : CallR X (.builtin "sorted") (rSrtD X.K) := by
  intro pins s σ H vs us Q I r h
  obtain ⟨β, enc, bs, a, xs, rfl, hs, hd, hx, hal, hso, hdp, hln, q⟩ := h
  obtain ⟨its, rv, hl, hz⟩ := I.list hs
  obtain ⟨u, rfl, ru⟩ := rv1 r
  obtain rfl : u = Value.ref a := ru
  obtain ⟨e1, e2⟩ := refs_back rv hx
  obtain ⟨as, rr⟩ := Dp.readsAll I (bs.map enc) xs its hd rv
  have er := each_reads rr
  have hlen := er.length
  refine PySem.W.sorted_data (R := fun u b => (u, b) ∈ its.zip bs) (vs := its) hl.isList (each_self hlen) er hal hso hln (fun b hb => by have := hdp b hb; omega) fun out ho hE => ?_
  have hin : ∀ u ∈ out, u ∈ its := fun u hu => by
    obtain ⟨i, hi, e⟩ := List.getElem_of_mem hu
    have hl2 := hE.length
    have := each_zip hE (out[i], (bs.mergeSort (PySem.W.dataLe false enc))[i]'(by omega)) (by
      rw [List.mem_iff_getElem]
      exact ⟨i, by rw [List.length_zip]; omega, by rw [List.getElem_zip]⟩)
    rw [e] at this
    exact (List.of_mem_zip this).1
  have h3 : ∀ u ∈ out, ∃ a, u = Value.ref a := fun u hu => e2 u (hin u hu)
  obtain ⟨n, hn⟩ := sortedAll_at s.heap its (List.toArray out)
  refine ⟨.ref (s.heap.objs.size + 1), upd H (s.heap.objs.size + 1) (.lst (out.map backV)), I.laid (t' := s.toks) (fun b o hb => sortedAll_old hb) (Nat.le_succ _) ⟨?_, out, n, vals_back h3, hn⟩, rfl, q _ _ (I.hok.fresh (Nat.le_succ _)) fun ρ hρ => ?_⟩
  · rw [List.length_map, ho]
    exact hln
  · refine each_map_l (hE.mono fun u b hub => ?_)
    rw [e1] at hρ
    have := each_zip hρ (backV u, b) (by
      rw [List.zip_map_left]
      exact List.mem_map.mpr ⟨(u, b), hub, rfl⟩)
    exact this
where
  rv1 {v : V} {us : List Value} (r : Vals [v] us) : ∃ u, us = [u] ∧ RelV v u := by
    cases r with
    | cons a b => cases b; exact ⟨_, rfl, a⟩
/-- pairs of ints -/
def pr2 (t : Int × Int) : D := .tup [.int t.1, .int t.2]
def le2 (p q : Int × Int) : Bool := decide (p.1 < q.1 ∨ (p.1 = q.1 ∧ p.2 ≤ q.2))
theorem rpL_each {K : PySem.W.Frag} {H : Hp} {β : Type} {dd : β → D} : ∀ {bs : List β} {xs : List V}, RpL K H (bs.map dd) xs → PySem.W.EachIs (fun x b => Rp K H (dd b) x) xs bs
  | [], _, h => by
    have h : _ = [] := h
    subst h
    exact .nil
  | b :: bs, _, h => by
    obtain ⟨x, xs, rfl, r, h2⟩ := h
    exact .cons r (rpL_each h2)
theorem each_rpL {K : PySem.W.Frag} {H : Hp} {β : Type} {dd : β → D} : ∀ {bs : List β} {xs : List V}, PySem.W.EachIs (fun x b => Rp K H (dd b) x) xs bs → RpL K H (bs.map dd) xs
  | _, _, .nil => rfl
  | _, _, .cons r e => ⟨_, _, rfl, r, each_rpL e⟩
theorem toPyL_map {β : Type} (dd : β → D) : ∀ bs : List β, toPyL (bs.map dd) = bs.map fun b => toPy (dd b)
  | [] => rfl
  | b :: bs => by
    show toPy (dd b) :: toPyL (bs.map dd) = _
    rw [toPyL_map dd bs] <;> rfl
theorem drc_sortD {K : PySem.W.Frag} {S : Sto} {Q : D → Sto → Prop} {β : Type} (dd : β → D) (L : List β) (hf : ∀ b, flatOk 8 (dd b) = true) (ht : ∀ b, ∃ l, dd b = .tup l) (hal : PySem.W.AllAlike (L.map fun b => toPy (dd b))) (hso : PySem.W.Sortable (L.map fun b => toPy (dd b))) (hln : L.length ≤ 100000)
    (q : Q (.lst ((L.mergeSort (PySem.W.dataLe false fun b => toPy (dd b))).map dd)) S) : DRC K (rSrtD K) [.lst (L.map dd)] S Q := fun H Hd vs Qv st rr k => by
  obtain ⟨v, e1, a, xs, f1, f2, f3⟩ := one_rp rr
  subst e1 f1
  have hfl : flatOkL 8 (L.map dd) = true := flatOkL_mem fun d hd => by
    obtain ⟨b, _, rfl⟩ := List.mem_map.mp hd
    exact hf b
  have hx := rpL_each f3
  refine ⟨β, fun b => toPy (dd b), L, a, xs, rfl, .of (st.sub _ _ f2), by rw [← toPyL_map]; exact dpAll_of 8 _ _ hfl (RpL.mono st.sub _ _ f3), fun x hxx => ?_, hal, hso, fun b _ => Nat.le_trans (lay_of 8 _ (hf b)).2 (by decide), sz5 hln, fun ys p hp hE => ?_⟩
  · obtain ⟨i, hi, e⟩ := List.getElem_of_mem hxx
    have hl := hx.length
    have := each_zip hx (xs[i], L[i]'(by omega)) (by
      rw [List.mem_iff_getElem]
      exact ⟨i, by rw [List.length_zip]; omega, by rw [List.getElem_zip]⟩)
    rw [e] at this
    obtain ⟨l, el⟩ := ht (L[i]'(by omega))
    have this : Rp K Hd (dd (L[i]'(by omega))) x := this
    rw [el] at this
    obtain ⟨t, _, et, _⟩ := this
    exact ⟨t, et⟩
  · exact k _ _ (new_lst st (each_rpL (hE _ hx)) hp q)
theorem drc_sort2 {K : PySem.W.Frag} {S : Sto} {Q : D → Sto → Prop} (L : List (Int × Int)) (hln : L.length ≤ 100000) (q : Q (.lst ((L.mergeSort le2).map pr2)) S) : DRC K (rSrtD K) [.lst (L.map pr2)] S Q := by
  have e : PySem.W.dataLe false (fun b : Int × Int => toPy (pr2 b)) = le2 := by
    have := PySem.W.dataLe_ii (fun b : Int × Int => b.1) (fun b => b.2)
    exact this
  refine drc_sortD pr2 L (fun _ => rfl) (fun _ => ⟨_, rfl⟩) (fun d hd d' hd' => ?_) (.inl fun d hd => ?_) hln (by rw [e]; exact q)
  · obtain ⟨b, _, rfl⟩ := List.mem_map.mp hd
    obtain ⟨b', _, rfl⟩ := List.mem_map.mp hd'
    rfl
  · obtain ⟨b, _, rfl⟩ := List.mem_map.mp hd
    exact ⟨_, _, rfl⟩
theorem le2_trans (a b c : Int × Int) (h1 : le2 a b = true) (h2 : le2 b c = true) : le2 a c = true := by
  have h1 := of_decide_eq_true h1
  have h2 := of_decide_eq_true h2
  exact decide_eq_true (by omega)
theorem le2_total (a b : Int × Int) : (le2 a b || le2 b a) = true := by
  rw [Bool.or_eq_true]
  unfold le2
  rw [decide_eq_true_iff, decide_eq_true_iff]
  omega
end DL
namespace DL
open PySem PySem.Spec PyProof.Rows L2
/-! ### constants of the module -/
section
variable {X : Cx} {en : DEnv} {S : Sto} {Q : D → Sto → Prop} {pos : Pos}
theorem de_globI2 {x : Str} {i : Int} (h : ∃ u, X.mg x = some (.int i u)) (q : Q (.int i) S) (hg : Gl X x := by rfl) (hd : (x == ("__debug__" : Str)) = false := by decide) : DE X (.Name x pos) en S Q := by
  obtain ⟨u, hm⟩ := h
  exact de_globI hm q hg hd
theorem de_globT {x : Str} {d : D} (h : ∃ a, X.mg x = some (.ref a) ∧ Rp X.K (fun _ => none) d (.ref a)) (q : Q d S) (hg : Gl X x := by rfl) (hd : (x == ("__debug__" : Str)) = false := by decide) : DE X (.Name x pos) en S Q := ⟨fun σ H Hd st re => by
  obtain ⟨a, hm, r⟩ := h
  exact wE_of (pe_glob (v := .ref a) hg hm rfl hd) (.here (d := d) st (Rp.mono (fun _ _ z => by cases z) d _ r) q)⟩
end
section
variable {K : PySem.W.Frag} {H : Hp} {a : Addr} {od : Option Addr} {n : Nat} {sl : Array (Option Value)}
theorem rp_pairK {i j : Int} {t u : Tok} (l : K.lookup a = some ⟨.type "tuple", od, .seq #[.int i t, .int j u] n, sl⟩) : Rp K H (.tup [.int i, .int j]) (.ref a) :=
  ⟨a, [.int i, .int j], rfl, .inr ⟨_, #[.int i t, .int j u], n, l, rfl, rfl, (by show 2 ≤ sizeLine; decide), .cons ⟨t, rfl⟩ (.cons ⟨u, rfl⟩ .nil)⟩, ⟨_, _, rfl, rfl, _, _, rfl, rfl, rfl⟩⟩
theorem vals_refs : ∀ as : List Addr, Vals (as.map V.ref) (as.map Value.ref)
  | [] => .nil
  | a :: as => .cons rfl (vals_refs as)
theorem rp_tupsK {as : List Addr} {ds : List D} (l : K.lookup a = some ⟨.type "tuple", od, .seq (as.map Value.ref).toArray n, sl⟩) (hs : as.length ≤ 1000) (r : RpL K H ds (as.map V.ref)) : Rp K H (.tup ds) (.ref a) :=
  ⟨a, as.map V.ref, rfl, .inr ⟨_, (as.map Value.ref).toArray, n, l, rfl, rfl, by rw [List.size_toArray, List.length_map]; exact Nat.le_trans hs (by show 1000 ≤ sizeLine; decide), by simpa using vals_refs as⟩, r⟩
theorem rpl_cons {d : D} {ds : List D} {v : V} {vs : List V} (r : Rp K H d v) (k : RpL K H ds vs) : RpL K H (d :: ds) (v :: vs) := ⟨v, vs, rfl, r, k⟩
theorem rpl_nil : RpL K H [] [] := rfl
end
end DL
namespace DL
open PySem PySem.Spec PyProof.Rows L2
/-! ### comprehensions that give a list that may be changed -/
section
variable {X : Cx} {elt iter c : Expr} {en : DEnv} {S : Sto} {Q : D → Sto → Prop} {pos py : Pos} {y : Str} {scope : Scope}
variable {ifs : List Expr} {tt : TT}
end
section
variable {X : Cx} {elt iter c tg : Expr} {en : DEnv} {S : Sto} {Q : D → Sto → Prop} {pos : Pos} {scope : Scope} {ifs : List Expr} {tt : TT}
variable {own : List (Str × Nat)} {n : Nat}
end

/-! ### data with changed lists in it, as it stands -/
end DL
/-! An error class of the program whose __init__ says super().__init__(f"..{x}"), self.x = x: made, held, its field read. -/
namespace PySem
namespace LimX
open PySem.W PySem.Calls PyProof.Rows PySem.HandSPX
section
variable {prog : Program} {w : World} {A : Around} {E : Value → Shared → Prop} {R : Result → Shared → Prop} {s : Shared} {K : Frag} {mg : Str → Option Value} {C fI : Addr} {x qual fld pre : Str}
end
end LimX
end PySem
namespace L2
open PySem PySem.Spec PyProof.Rows
section
variable {X : Cx} {C fI : Addr} {x qual fld pre : Str}
end
end L2
namespace DL
open PySem PySem.Spec PyProof.Rows L2
/-! ### errors over data -/
structure XD where
  cls : Value
  fld : Option (Str × D)
/-- an error's class and dict, in the heap of data -/
def XR (K : PySem.W.Frag) (Hd : Hp) (x : XD) (cls : Value) (d : Option Addr) : Prop := cls = x.cls ∧ match x.fld with
  | none => d = none
  | some (f, dv) => ∃ dd v, d = some dd ∧ Hd dd = some (.xd [(f, v)]) ∧ Rp K Hd dv v
abbrev RX := XD → DEnv → Sto → Prop
/-- what is wanted of an error is taken -/
structure LiftX (X : Cx) (Hd : Hp) (R : RX) : Prop where
  ex : ∃ W : WX, Takes X W ∧ ∀ x en S cls d σ H Hd', Same Hd Hd' → St0 X.K S Hd' H → RpE X.K Hd' en σ → XR X.K Hd' x cls d → R x en S → W cls d σ H
theorem LiftX.up {X : Cx} {Hd Hd' : Hp} {R : RX} (e : Same Hd Hd') (l : LiftX X Hd R) : LiftX X Hd' R := by
  obtain ⟨W, tk, h⟩ := l.ex
  exact ⟨W, tk, fun x en S cls d σ H H2 k => h x en S cls d σ H H2 (e.trans k)⟩
structure DEX (X : Cx) (e : Expr) (en : DEnv) (S : Sto) (Q : D → Sto → Prop) (R : RX) : Prop where
  run : ∀ (σ : L2.St) (H Hd : Hp), St0 X.K S Hd H → RpE X.K Hd en σ → LiftX X Hd R → wE X e σ H (QD X.K Hd Q)
abbrev ConX := List D → Sto → (D → Sto → Prop) → (XD → Sto → Prop) → Prop
def spDX (K : PySem.W.Frag) (C : ConX) : Sp := fun vs H Q E => ∃ (ds : List D) (S : Sto) (Hd : Hp) (Qd : D → Sto → Prop) (Rd : XD → Sto → Prop), RpL K Hd ds vs ∧ St0 K S Hd H ∧ C ds S Qd Rd ∧
  (∀ d S' v H' Hd', Qd d S' → Same Hd Hd' → St0 K S' Hd' H' → Rp K Hd' d v → Q v H') ∧ ∀ x S' cls d H' Hd', Rd x S' → Same Hd Hd' → St0 K S' Hd' H' → XR K Hd' x cls d → E cls d H'
/-! ### a def that may raise keeps its promise, by its body -/
structure GOkX (P : Program) (w : World) (K : PySem.W.Frag) (mg : Str → Option Value) (base : Heap) (k : Nat) (f : Addr) (fd : FuncData) (ps : List Str) (sp : Sp) : Prop where
  len : ∀ vs H Q E, sp vs H Q E → vs.length = ps.length
  run : ∀ (A : Around) (fr : List Env) (s : Shared) (H : Hp) (ar : Args) (us : List Value) (vs : List V) (Q : VK) (E : XK), A.guards = some [] → Room k A →
    Env0 P w K mg base A fr s H → BindsTo s fd ar (ps.zip us) → Vals vs us → sp vs H Q E → codeAny (model P w) A (.call (.ref f) ar) (CR (L2.CX P w) fr P w H s Q E) s
section
variable {P : Program} {w : World} {K : PySem.W.Frag} {mg : Str → Option Value} {base : Heap}
end
/-- a def that may raise, in the module -/
structure CalX (P : Program) (w : World) (K : PySem.W.Frag) (mg : Str → Option Value) (base : Heap) (k : Nat) (x : Str) (ps : List Str) (kws : List (Nat × List Str)) (C : ConX) : Prop where
  ex : ∃ (f : Addr) (fd : FuncData), GOkX P w K mg base k f fd ps (spDX K C) ∧ mg x = some (.ref f) ∧ PySem.W.keepIn K (.ref f) = true ∧
    (∀ us : List Value, us.length = ps.length → bindArgs fd ⟨us, []⟩ = pure (ps.zip us)) ∧ ∀ p ∈ kws, KwOk fd ps p
section
variable {X : Cx} {a b c e tg : Expr} {es : List Expr} {kwl : List Keyword} {st : Stmt} {sts rest : List Stmt} {en : DEnv} {S : Sto} {Z : Dn} {Q : D → Sto → Prop} {R : RX} {QL : List D → Sto → Prop} {pos pos' p kpos : Pos} {k : Nat} {x : Str} {ps ks : List Str} {kws : List (Nat × List Str)} {C : ConX}
/-! ### what raises nothing -/
/-! ### calls of what may raise -/
theorem DEX.mono {Q' : D → Sto → Prop} (h : DEX X e en S Q R) (k : ∀ d S', Q d S' → Q' d S') : DEX X e en S Q' R := ⟨fun σ H Hd st re lx =>
  wE_mono (h.run σ H Hd st re lx) fun _ _ ⟨d, S', Hd', e', st', r, q⟩ => ⟨d, S', Hd', e', st', r, k d S' q⟩⟩
end
end DL
/-! try with several clauses, some of which name the error -/
namespace DL
open PySem PySem.Spec PyProof.Rows L2
abbrev TCl := Addr → Value → Option Addr → TS
section
variable {X : Cx} {body : List Stmt} {h₀ : ExceptHandler} {hds : List ExceptHandler} {l : List (Value × Option Nat × TCl)} {pos : Pos} {tb : WX → TS} {Wout : WX}
end
end DL
namespace DL
open PySem PySem.Spec PyProof.Rows L2
/-! ### errors raised -/
section
variable {X : Cx} {a e : Expr} {st : Stmt} {sts : List Stmt} {en : DEnv} {S : Sto} {Z : Dn} {Q : D → Sto → Prop} {R : RX} {pos pos' p p2 : Pos} {x qual fld pre : Str} {C fI : Addr} {j : Nat} {m : Str} {k : Nat}
/-! ### errors caught -/
end
end DL
namespace DL
open PySem PySem.Spec PyProof.Rows L2
section
variable {X : Cx} {sts : List Stmt} {en : DEnv} {S : Sto} {Z : Dn} {R : RX}
end
end DL
/-! l.count(x) over data; sum, zip -/
namespace DL
open PySem PySem.Spec PyProof.Rows L2
section
variable {X : Cx} {e : Expr} {en : DEnv} {S : Sto}
end
/-- whole numbers, truths -/
theorem flat_ints : ∀ l : List Int, flatOkL 8 (l.map D.int) = true
  | [] => rfl
  | i :: l => by
    show (flatOk 8 (.int i) && flatOkL 8 (l.map D.int)) = true
    rw [flat_ints l] <;> rfl
theorem flat_bls : ∀ l : List Bool, flatOkL 8 (l.map D.bl) = true
  | [] => rfl
  | i :: l => by
    show (flatOk 8 (.bl i) && flatOkL 8 (l.map D.bl)) = true
    rw [flat_bls l] <;> rfl
theorem plain_ints : ∀ l : List Int, PyData.plainAll (toPyL (l.map D.int)) = true
  | [] => rfl
  | i :: l => by
    show ((toPy (.int i)).plain && PyData.plainAll (toPyL (l.map D.int))) = true
    rw [plain_ints l] <;> rfl
theorem plain_bls : ∀ l : List Bool, PyData.plainAll (toPyL (l.map D.bl)) = true
  | [] => rfl
  | i :: l => by
    show ((toPy (.bl i)).plain && PyData.plainAll (toPyL (l.map D.bl))) = true
    rw [plain_bls l] <;> rfl
end DL
/-! sum and min of a tuple of whole numbers -/
namespace DL
open PySem PySem.Spec PyProof.Rows L2
end DL
/-! xs.extend(ys) -/
namespace DL
open PySem PySem.Spec PyProof.Rows L2
section
variable {X : Cx} {e : Expr} {en : DEnv} {S : Sto}
end
end DL
/-! zip of two lists -/
namespace DL
open PySem PySem.Spec PyProof.Rows L2
section
variable {X : Cx} {e e2 : Expr} {en : DEnv} {S : Sto} {R : List D → Sto → Prop} {p pos : Pos}
end
end DL
/-! repr of many small numbers -/
namespace DL
open PySem PySem.Spec PyProof.Rows L2
end DL
/-! max of three -/
namespace DL
open PySem PySem.Spec PyProof.Rows L2
end DL
namespace DL
open PySem PySem.Spec PyProof.Rows L2
/-! ### ranges whose ends are great -/
section
variable {X : Cx} {tg : Expr}
variable {a b : Expr} {en : DEnv} {S : Sto} {R : List D → Sto → Prop} {p pos : Pos}
end
end DL
namespace DL
open PySem PySem.Spec PyProof.Rows L2
/-! ### comprehensions over two walks -/
section
variable {X : Cx} {elt iter iter1 : Expr} {en : DEnv} {S : Sto} {Q : D → Sto → Prop} {pos py pz : Pos} {y z : Str} {scope : Scope}
end
end DL
namespace DL
open PySem PySem.Spec PyProof.Rows L2
/-! ### for x in a list that may be changed, but is not, within -/
section
variable {X : Cx} {tg iter : Expr} {body : List Stmt} {en : DEnv} {S : Sto} {Z : Dn} {pos : Pos}
end
end DL
namespace DL
open PySem PySem.Spec PyProof.Rows L2
/-! ### xs[i] += e, of whole numbers in a changed list -/
section
variable {X : Cx} {a b e : Expr} {en : DEnv} {S : Sto} {Z : Dn} {pos tpos : Pos}
end
end DL
namespace DL
open PySem PySem.Spec PyProof.Rows L2
/-! ### pairs of whole numbers in order -/
def lt2 (s t : Int × Int) : Bool := decide (s.1 < t.1 ∨ s.1 = t.1 ∧ s.2 < t.2)
theorem lt_pairs (a b c d : Int) : PySem.W.dataLt (.tuple [.int a, .int b]) (.tuple [.int c, .int d]) = lt2 (a, b) (c, d) := by
  rw [PySem.W.dataLt_tuple, PySem.W.dataLt_cons rfl, PySem.W.dataLt_int]
  by_cases h : a = c
  · subst h
    rw [if_pos (show PyData.eqv (.int a) (.int a) = true by simp [PyData.eqv])]
    rw [PySem.W.dataLt_cons rfl, PySem.W.dataLt_int]
    by_cases g : b = d
    · subst g
      rw [if_pos (show PyData.eqv (.int b) (.int b) = true by simp [PyData.eqv])]
      rw [show lt2 (a, b) (a, b) = false from decide_eq_false (by show ¬ (a < a ∨ a = a ∧ b < b); omega)]
      rfl
    · rw [if_neg (show ¬ PyData.eqv (.int b) (.int d) = true by simpa [PyData.eqv] using g)]
      unfold lt2
      simp
  · rw [if_neg (show ¬ PyData.eqv (.int a) (.int c) = true by simpa [PyData.eqv] using h)]
    unfold lt2
    simp [h]
section
variable {X : Cx} {a b : Expr} {en : DEnv} {S : Sto} {Q : D → Sto → Prop} {P : Bool → Sto → Prop} {pos : Pos}
end
end DL
/-! sorted of a tuple of ints -/
namespace DL
open PySem PySem.Spec PyProof.Rows L2
end DL
/-! repr of an own exception that was made with one text -/
namespace PySem
namespace ExR
open Sem (wp)
open Builtin Builtin.Str Builtin.BaseException Builtin.Exceptions
open PySem.W (Looks Frag findIn subIn clsIn looks_findIn looks_subIn looks_clsIn)
def nmOf (cd : PySem.ClassData) : Str := Str.ofString ((cd.name.toString.cutAt '.').getLastD "")
/-- how such an error is shown -/
def txtOf (cd : PySem.ClassData) (m : Str) : Str := nmOf cd ++ Str.ofString "(" ++ reprText m ++ Str.ofString ")"
section
variable {prog : Program} {w : World} {M : Model} {A : Around} {E : Value → Shared → Prop} {s : Shared} {K : Frag} {C e t0 : Addr} {cd : PySem.ClassData} {m : Str} {tk : Tok}
end
end ExR
end PySem
/-! what any value is shown as: plain data, dicts, own errors, lists and tuples of them -/
namespace DL
open PySem PySem.Spec PyProof.Rows L2
/-! ### how deep a value is -/
mutual
inductive Dpt (h : Heap) : Value → Nat → Prop
  | leaf {v : Value} : (∀ a, v ≠ .ref a) → Dpt h v 0
  | obj {a : Addr} {o : Obj} : h.get? a = some o → (∀ xs n, o.data ≠ .seq xs n) → Dpt h (.ref a) 1
  | seq {a : Addr} {o : Obj} {items : List Value} {n k : Nat} : h.get? a = some o → o.data = .seq items.toArray n → DptL h items k → Dpt h (.ref a) (k + 1)
inductive DptL (h : Heap) : List Value → Nat → Prop
  | nil : DptL h [] 0
  | cons {v : Value} {vs : List Value} {j k : Nat} : Dpt h v j → DptL h vs k → DptL h (v :: vs) (max j k)
end
mutual
theorem Dpt.det {h : Heap} : ∀ {v : Value} {n m : Nat}, Dpt h v n → Dpt h v m → n = m
  | _, _, _, .leaf e, .leaf _ => rfl
  | _, _, _, .leaf e, .obj _ _ => absurd rfl (e _)
  | _, _, _, .leaf e, .seq _ _ _ => absurd rfl (e _)
  | _, _, _, .obj _ _, .leaf e => absurd rfl (e _)
  | _, _, _, .obj _ _, .obj _ _ => rfl
  | _, _, _, .obj e f, .seq e2 f2 _ => by
    rw [e] at e2
    cases e2
    exact absurd f2 (f _ _)
  | _, _, _, .seq _ _ _, .leaf e => absurd rfl (e _)
  | _, _, _, .seq e f _, .obj e2 f2 => by
    rw [e] at e2
    cases e2
    exact absurd f (f2 _ _)
  | _, _, _, .seq (items := i1) e f g, .seq (items := i2) e2 f2 g2 => by
    rw [e] at e2
    cases e2
    rw [f] at f2
    have z : i1 = i2 := by
      have w := congrArg (fun d => match d with | Data.seq xs _ => xs.toList | _ => []) f2
      simpa using w
    subst z
    rw [DptL.det g g2]
theorem DptL.det {h : Heap} : ∀ {vs : List Value} {n m : Nat}, DptL h vs n → DptL h vs m → n = m
  | _, _, _, .nil, .nil => rfl
  | _, _, _, .cons a b, .cons c d => by rw [Dpt.det a c, DptL.det b d]
end
def AsB (h : Heap) (n : Nat) (as : List Addr) : Prop := ∀ b ∈ as, ∃ m, m ≤ n ∧ Dpt h (.ref b) m
theorem AsB.nil {h : Heap} {n : Nat} : AsB h n [] := fun _ z => nomatch z
theorem AsB.up {h : Heap} {n m : Nat} {as : List Addr} (x : AsB h n as) (k : n ≤ m) : AsB h m as := fun b hb => let ⟨j, h1, h2⟩ := x b hb; ⟨j, Nat.le_trans h1 k, h2⟩
theorem AsB.app {h : Heap} {n : Nat} {as bs : List Addr} (x : AsB h n as) (y : AsB h n bs) : AsB h n (as ++ bs) := fun b hb => (List.mem_append.mp hb).elim (x b) (y b)
theorem AsB.notIn {h : Heap} {n : Nat} {as : List Addr} {a : Addr} (x : AsB h n as) (d : Dpt h (.ref a) (n + 1)) : a ∉ as := fun hm => by
  obtain ⟨m, h1, h2⟩ := x a hm
  have := Dpt.det d h2
  omega
/-- u is shown as t -/
def Sh (P : Program) (w : World) (h : Heap) (u : Value) (t : Str) (n : Nat) : Prop := ∃ as, Dpt h u n ∧ AsB h n as ∧ ReprK P w as h n u t
def ShL (P : Program) (w : World) (h : Heap) (us : List Value) (ts : List Str) (n : Nat) : Prop := ∃ as, DptL h us n ∧ AsB h n as ∧ ReprAllK P w as h n us ts
section
variable {P : Program} {w : World} {h : Heap} {u : Value} {us : List Value} {t : Str} {ts : List Str} {n j k : Nat} {a : Addr} {o : Obj} {na : Nat}
theorem ShL.nil : ShL P w h [] [] 0 := ⟨[], .nil, .nil, .nil⟩
theorem ShL.cons (x : Sh P w h u t j) (y : ShL P w h us ts k) : ShL P w h (u :: us) (t :: ts) (max j k) := by
  obtain ⟨as, d1, b1, r1⟩ := x
  obtain ⟨bs, d2, b2, r2⟩ := y
  exact ⟨as ++ bs, .cons d1 d2, (b1.up (Nat.le_max_left _ _)).app (b2.up (Nat.le_max_right _ _)),
    .cons ((r1.more fun b hb => List.mem_append_left _ hb).level_le (Nat.le_max_left _ _)) (r2.more_le (fun b hb => List.mem_append_right _ hb) (Nat.le_max_right _ _))⟩
theorem Sh.lst (x : ShL P w h us ts n) (ho : h.get? a = some o) (hc : o.cls = .type "list") (hd : o.data = .seq us.toArray na) : Sh P w h (.ref a) (listText ts) (n + 1) := by
  obtain ⟨as, d, b, r⟩ := x
  have D : Dpt h (.ref a) (n + 1) := .seq ho hd d
  refine ⟨a :: as, D, fun c hc2 => ?_, ?_⟩
  · rcases List.mem_cons.mp hc2 with e | e
    · rw [e]
      exact ⟨_, Nat.le_refl _, D⟩
    · exact (b.up (Nat.le_succ _)) c e
  · cases us with
    | nil =>
      cases r
      rw [listText_nil]
      exact ReprK.listEmpty ho hc hd
    | cons x l => exact ReprK.list ho hc hd (b.notIn D) (by simpa using r.length_eq) (fun i y e => r.item i y (by simpa using e))
theorem Sh.tup (x : ShL P w h us ts n) (ho : h.get? a = some o) (hc : o.cls = .type "tuple") (hd : o.data = .seq us.toArray na) : Sh P w h (.ref a) (tupleText ts) (n + 1) := by
  obtain ⟨as, d, b, r⟩ := x
  have D : Dpt h (.ref a) (n + 1) := .seq ho hd d
  refine ⟨a :: as, D, fun c hc2 => ?_, ReprK.tuple ho hc hd (b.notIn D) r⟩
  rcases List.mem_cons.mp hc2 with e | e
  · rw [e]
    exact ⟨_, Nat.le_refl _, D⟩
  · exact (b.up (Nat.le_succ _)) c e
end

/-! ### data that is shown -/
section
variable {P : Program} {w : World} {K : PySem.W.Frag}
end
section
variable {X : Cx} {pins : List (Addr × Obj)} {σ : L2.St} {H Hd : Hp} {s : Shared}
end
end DL
/-! dicts of ints, own errors as values: their text, their kind; repr and isinstance of any value -/
namespace DL
open PySem PySem.Spec PyProof.Rows L2
section
variable {P : Program} {w : World} {h : Heap}
end
/-! ### own errors as values -/
/-- what is asked of the class -/
structure ExcK (K : PySem.W.Frag) (C : Addr) (cd : PySem.ClassData) : Prop where
  cls : PySem.W.clsIn K C = some cd
  exC : PySem.W.subIn K (.ref C) (.type "BaseException") = some true
  rp : PySem.W.findIn K (.ref C) "__repr__" = some (some (.builtin "BaseException.__repr__"))
  nm : (PySem.ExR.nmOf cd).length ≤ 100
theorem ExcK.len {K : PySem.W.Frag} {C : Addr} {cd : PySem.ClassData} (T : ExcK K C cd) (m : Str) : (PySem.ExR.txtOf cd m).length ≤ (reprText m).length + 102 := by
  unfold PySem.ExR.txtOf
  have p1 : (Str.ofString "(").length = 1 := by rw [PySem.ofString_length] <;> rfl
  have p2 : (Str.ofString ")").length = 1 := by rw [PySem.ofString_length] <;> rfl
  rw [strLen_append, strLen_append, strLen_append, p1, p2]
  have := T.nm
  omega
/-! ### repr of any value that is shown -/
/-! ### isinstance of any value -/
/-- what stands behind an ext is of the kind t -/
def KTy (K : PySem.W.Frag) (Q : Hp → V → Prop) (t : Value) : Prop := ∀ {X : Cx} {pins : List (Addr × Obj)} {σ : L2.St} {H Hd : Hp} {s : Shared} {v : V} {u : Value}, X.K = K → Inv X pins σ H s → Same Hd H → Q Hd v → RelV v u →
  ∃ Pp : Heap → Prop, PySem.W.KitX K u t Pp ∧ Pp s.heap ∧ u ≠ .builtin "__main__.__loader__#opaque"
def TyV (K : PySem.W.Frag) : D → Value → Prop
  | .ext Q, t => KTy K Q t
  | .scr _, _ => False
  | d, t => ∃ n, tyD d = some n ∧ t = .type n
end DL
/-! dicts and own errors made; defs as values, called -/
namespace DL
open PySem PySem.Spec PyProof.Rows L2
section
variable {X : Cx} {a b c e fe : Expr} {es : List Expr} {en : DEnv} {S : Sto} {Q : D → Sto → Prop} {R : RX} {pos p p2 p3 : Pos} {j j2 : Nat}
/-! ### an own error made, held as a value -/
/-! ### defs as values -/
theorem GOkX.mono {P : Program} {w : World} {K : PySem.W.Frag} {mg : Str → Option Value} {base : Heap} {k k2 : Nat} {f : Addr} {fd : FuncData} {ps : List Str} {C C2 : ConX} (G : GOkX P w K mg base k f fd ps (spDX K C)) (hk : k ≤ k2) (wk : ∀ ds S Q R, C2 ds S Q R → C ds S Q R) : GOkX P w K mg base k2 f fd ps (spDX K C2) :=
  ⟨fun vs H Q E ⟨ds, S, Hd, Qd, Rd, z1, z2, z3, z4⟩ => G.len vs H Q E ⟨ds, S, Hd, Qd, Rd, z1, z2, wk _ _ _ _ z3, z4⟩,
   fun A fr s H ar us vs Q E gd hr e0 hb r ⟨ds, S, Hd, Qd, Rd, z1, z2, z3, z4⟩ => G.run A fr s H ar us vs Q E gd (hr.mono hk) e0 hb r ⟨ds, S, Hd, Qd, Rd, z1, z2, wk _ _ _ _ z3, z4⟩⟩
/-- a def that raises nothing, as one that may -/
theorem GOk.x {P : Program} {w : World} {K : PySem.W.Frag} {mg : Str → Option Value} {base : Heap} {k : Nat} {f : Addr} {fd : FuncData} {ps : List Str} {C : Con} (G : GOk P w K mg base k f fd ps (spD K C)) : GOkX P w K mg base k f fd ps (spDX K fun ds S Q _ => C ds S Q) :=
  ⟨fun vs H Q E ⟨ds, S, Hd, Qd, Rd, z1, z2, z3, z4⟩ => G.len vs H Q E ⟨ds, S, Hd, Qd, z1, z2, z3, z4.1⟩,
   fun A fr s H ar us vs Q E gd hr e0 hb r ⟨ds, S, Hd, Qd, Rd, z1, z2, z3, z4⟩ => codeAny_mono (G.run A fr s H ar us vs Q E gd hr e0 hb r ⟨ds, S, Hd, Qd, z1, z2, z3, z4.1⟩) fun res s' q => by
     cases res with
     | error e => exact q.elim
     | ok fl =>
       cases fl with
       | ret u => exact q
       | next => exact q
       | brk => exact q
       | cont => exact q⟩
theorem Cal.x {P : Program} {w : World} {K : PySem.W.Frag} {mg : Str → Option Value} {base : Heap} {k : Nat} {x : Str} {ps : List Str} {kws : List (Nat × List Str)} {C : Con} (c : Cal P w K mg base k x ps kws C) : CalX P w K mg base k x ps kws (fun ds S Q _ => C ds S Q) := by
  obtain ⟨f, fd, G, h⟩ := c.ex
  exact ⟨f, fd, G.x, h⟩
end
end DL
/-! defs that a caught error is handed to, within the except suite -/
namespace L2H
open PySem PySem.Spec PyProof.Rows L2 HotX
theorem RoomH.units {k : Nat} {A : Around} (r : RoomH k A) : A.units + 64 < cLine := by have := r.un; omega
end L2H
namespace DL
open PySem PySem.Spec PyProof.Rows L2
section
variable {P : Program} {w : World} {K : PySem.W.Frag} {mg : Str → Option Value} {base : Heap}
abbrev ConE := Addr × Obj → Con
end
section
variable {X : Cx} {a : Addr} {oe : Obj} {pn : List (Addr × Obj)} {e : Expr} {es : List Expr} {en : DEnv} {S : Sto} {Q : D → Sto → Prop} {pos p p2 : Pos} {k : Nat} {x : Str} {ps : List Str} {C : ConE}
/-! ### what such a def asks of the error -/
end
/-! ### xs.index(e) -/
section
variable {X : Cx} {e : Expr} {en : DEnv} {S : Sto}
end
end DL
/-! what may raise, within expressions -/
namespace DL
open PySem PySem.Spec PyProof.Rows L2
section
variable {X : Cx} {a b c e tg : Expr} {es : List Expr} {st : Stmt} {sts rest : List Stmt} {en : DEnv} {S : Sto} {Z : Dn} {Q : D → Sto → Prop} {R : RX} {QL : List D → Sto → Prop} {pos p cpos : Pos} {k : Nat} {x : Str} {ps : List Str} {kws : List (Nat × List Str)} {C : Con} {j2 : Nat}
end
/-! ### repr of any value that is shown -/
/-! ### parts that may raise -/
section
variable {X : Cx} {a b c e tg iter : Expr} {es : List Expr} {st : Stmt} {sts rest body : List Stmt} {en : DEnv} {S : Sto} {Z : Dn} {Q : D → Sto → Prop} {R : RX} {QL : List D → Sto → Prop} {pos p cpos p2 : Pos} {k : Nat} {x : Str} {ps : List Str} {kws : List (Nat × List Str)} {C : Con} {j2 : Nat} {P : Bool → Sto → Prop}
/-! ### tests -/
/-! ### loops -/
variable {RI : List D → Sto → Prop}
end
end DL
/-! texts repeated; a text read as a number, a number written as a text -/
namespace DL
open PySem PySem.Spec PyProof.Rows L2
section
variable {X : Cx} {a b : Expr} {en : DEnv} {S : Sto} {Q : D → Sto → Prop} {pos : Pos} {K : PySem.W.Frag}
end
end DL
/-! a list that may be changed, lent to a call that reads it; shifts -/
namespace DL
open PySem PySem.Spec PyProof.Rows L2
/-! ### data without lists -/
mutual
def noL : D → Bool
  | .non => true
  | .bl _ => true
  | .int _ => true
  | .str _ => true
  | .raw _ => true
  | .tup l => noLL l
  | .lst _ => false
  | .ext _ => false
  | .scr _ => false
def noLL : List D → Bool
  | [] => true
  | d :: ds => noL d && noLL ds
end
def noS (S : Sto) : Prop := ∀ p l, getS p S = some l → noLL l = true
def cutH (p : Addr) (H : Hp) : Hp := fun b => if b = p then none else H b
theorem cut_ne {p b : Addr} {H : Hp} (h : b ≠ p) : cutH p H b = H b := if_neg h
theorem cut_same {p : Addr} {H : Hp} : cutH p H p = none := if_pos rfl
section
variable {K : PySem.W.Frag} {H : Hp} {p : Addr} {xs : List V}
theorem cut_t (hp : H p = some (.lst xs)) {a : Addr} {ys : List V} (h : SqT K H a ys) : SqT K (cutH p H) a ys := by
  rcases h with (h | ⟨o, h⟩) | h
  · exact .inl (.inl ((cut_ne fun z => by rw [z, hp] at h; cases h).trans h))
  · exact .inl (.inr ⟨o, (cut_ne fun z => by rw [z, hp] at h; cases h).trans h⟩)
  · exact .inr h
mutual
theorem noL_rp (hp : H p = some (.lst xs)) : ∀ (d : D) (v : V), noL d = true → Rp K H d v → Rp K (cutH p H) d v
  | .non, _, _, h => h
  | .bl _, _, _, h => h
  | .int _, _, _, h => h
  | .str _, _, _, h => h
  | .raw _, _, _, h => h
  | .tup l, _, n, h => let ⟨a, xs, e1, e2, e3⟩ := h; ⟨a, xs, e1, cut_t hp e2, noLL_rp hp l xs n e3⟩
  | .lst _, _, n, _ => nomatch n
  | .ext _, _, n, _ => nomatch n
  | .scr _, _, n, _ => nomatch n
theorem noLL_rp (hp : H p = some (.lst xs)) : ∀ (l : List D) (vs : List V), noLL l = true → RpL K H l vs → RpL K (cutH p H) l vs
  | [], _, _, h => h
  | d :: ds, _, n, h => by
    obtain ⟨x, ys, e1, e2, e3⟩ := h
    unfold noLL at n
    rw [Bool.and_eq_true] at n
    exact ⟨x, ys, e1, noL_rp hp d x n.1 e2, noLL_rp hp ds ys n.2 e3⟩
end
theorem noS_tl {q : Addr} {l : List D} {S : Sto} (g : getS q S = none) (h : noS ((q, l) :: S)) : noLL l = true ∧ noS S := by
  refine ⟨h q l getS_hd, fun r m hr => ?_⟩
  by_cases e : q = r
  · subst e
    rw [g] at hr; cases hr
  · exact h r m (by rw [getS_tl e]; exact hr)
theorem own_cut {Hd : Hp} (hp : Hd p = some (.lst xs)) : ∀ {S : Sto}, noS S → Own K Hd H S → Own K (cutH p Hd) H S
  | [], _, _ => trivial
  | (q, l) :: S, n, o => by
    obtain ⟨o1, o2, ⟨ys, o3, o4⟩, o5⟩ := o
    obtain ⟨n1, n2⟩ := noS_tl o2 n
    refine ⟨?_, o2, ⟨ys, o3, noLL_rp hp l ys n1 o4⟩, own_cut hp n2 o5⟩
    by_cases e : q = p
    · rw [e]; exact cut_same
    · rw [cut_ne e]; exact o1
end
section
variable {X : Cx} {a b e : Expr} {en : DEnv} {S : Sto} {Q : D → Sto → Prop} {pos : Pos}
end
theorem noS_nil : noS [] := fun _ _ h => nomatch h
theorem noS_cons {p : Addr} {l : List D} {S : Sto} (h : noLL l = true) (k : noS S) : noS ((p, l) :: S) := fun q m hq => by
  by_cases e : p = q
  · subst e
    rw [getS_hd] at hq
    cases hq
    exact h
  · rw [getS_tl e] at hq
    exact k q m hq
end DL
namespace DL
open PySem PySem.Spec PyProof.Rows L2
section
variable {X : Cx} {a b : Expr} {en : DEnv} {S : Sto} {Q : D → Sto → Prop} {P : Bool → Sto → Prop} {pos : Pos}
end
end DL
namespace DL
open PySem PySem.Spec PyProof.Rows L2
/-- i // j, j of either sign -/
def CDivM (_ j : Int) : Prop := j ≠ 0 ∧ j.natAbs.log2 < 9000
section
variable {X : Cx} {a b : Expr} {en : DEnv} {S : Sto} {Q : D → Sto → Prop} {P : Bool → Sto → Prop} {pos : Pos}
theorem op_fdivM : OpR X (binaryOp .FloorDiv) (rI CDivM fun i j => .int (i.fdiv j)) := opI fun i j _ _ _ _ _ hc q => floordiv_int hc.1 q (.inl (PyProof.noPylong_of_log2 hc.2))
theorem de_fdivM (h : DE X a en S fun x S1 => DE X b en S1 fun y S2 => ∃ i j, x = .int i ∧ y = .int j ∧ CDivM i j ∧ Q (.int (i.fdiv j)) S2) : DE X (.BinOp a .FloorDiv b pos) en S Q :=
  de_op op_fdivM (h.mono fun _ _ h1 => h1.mono fun _ _ ⟨_, _, e1, e2, hc, q⟩ => by subst e1 e2; exact dr_I hc q)
end
/-! pairs of whole numbers by > and <= -/
def rCmpS (K : PySem.W.Frag) (f : Bool → Bool) : R2 := fun x y H Q => ∃ d e, Dp K H x d ∧ Dp K H y e ∧ PySem.W.alike d e = true ∧ d ≠ .none ∧ min d.depth e.depth ≤ 60 ∧ Q (.bl (f (PySem.W.dataLt e d))) H
theorem op_gtD {X : Cx} (hu : X.A.units + 65 < cLine) : OpR X (compareOp .Gt) (rCmpS X.K (·)) := by
  intro pins s σ H x y v u Q I rx ry h
  obtain ⟨d, e, hd, he, ha, hn, hm, q⟩ := h
  obtain ⟨as, r1⟩ := Dp.reads I d x v hd rx
  obtain ⟨bs, r2⟩ := Dp.reads I e y u he ry
  exact PySem.W.gt_data r1 r2 ha hn (by omega) ⟨.bl _, H, I, rfl, q⟩
theorem op_leD {X : Cx} (hu : X.A.units + 65 < cLine) : OpR X (compareOp .LtE) (rCmpS X.K (!·)) := by
  intro pins s σ H x y v u Q I rx ry h
  obtain ⟨d, e, hd, he, ha, hn, hm, q⟩ := h
  obtain ⟨as, r1⟩ := Dp.reads I d x v hd rx
  obtain ⟨bs, r2⟩ := Dp.reads I e y u he ry
  exact PySem.W.le_data r1 r2 ha hn (by omega) ⟨.bl _, H, I, rfl, q⟩
section
variable {X : Cx} {a b : Expr} {en : DEnv} {S : Sto} {Q : D → Sto → Prop} {P : Bool → Sto → Prop} {pos : Pos}
def cmp2s (x y : D) (S : Sto) (f : Bool → Bool) (Q : Bool → Sto → Prop) : Prop := ∃ a1 a2 b1 b2 : Int, x = .tup [.int a1, .int a2] ∧ y = .tup [.int b1, .int b2] ∧ Q (f (lt2 (b1, b2) (a1, a2))) S
theorem dr_cmp2s {K : PySem.W.Frag} {x y : D} {f : Bool → Bool} (h : cmp2s x y S f fun b S' => Q (.bl b) S') : DR2 K (fun x y H Q => rCmpS K f x y H Q) x y S Q := by
  intro H Hd vx vy Qv st rx ry k
  obtain ⟨a1, a2, b1, b2, rfl, rfl, q⟩ := h
  have f1 : flatOk 9 (D.tup [.int a1, .int a2]) = true := rfl
  have f2 : flatOk 9 (D.tup [.int b1, .int b2]) = true := rfl
  refine ⟨toPy (.tup [.int a1, .int a2]), toPy (.tup [.int b1, .int b2]), dp_of 9 _ vx f1 (Rp.mono st.sub _ vx rx), dp_of 9 _ vy f2 (Rp.mono st.sub _ vy ry), rfl, (fun z => nomatch z), ?_, ?_⟩
  · exact Nat.le_trans (Nat.min_le_left _ _) (by simp [toPy, toPyL, PyData.depth, PyData.depthAll])
  · exact k _ _ (.here (d := .bl _) st (by rw [show toPy (.tup [.int a1, .int a2]) = PyData.tuple [.int a1, .int a2] from rfl, show toPy (.tup [.int b1, .int b2]) = PyData.tuple [.int b1, .int b2] from rfl, lt_pairs]; rfl) q)
theorem dt_gt2 (hu : X.A.units + 65 < cLine) (h : DE X a en S fun x S1 => DE X b en S1 fun y S2 => cmp2s x y S2 (·) P) (hm : behindInMarks .Gt b = false := by rfl) : DT X (.Compare a [.Gt] [b] pos) en S P :=
  dt_cmp (op_gtD hu) hm (h.mono fun _ _ h1 => h1.mono fun x S2 h2 => dr_cmp2s (by
    obtain ⟨a1, a2, b1, b2, e1, e2, q⟩ := h2
    exact ⟨a1, a2, b1, b2, e1, e2, _, rfl, q⟩))
theorem dt_le2 (hu : X.A.units + 65 < cLine) (h : DE X a en S fun x S1 => DE X b en S1 fun y S2 => cmp2s x y S2 (!·) P) (hm : behindInMarks .LtE b = false := by rfl) : DT X (.Compare a [.LtE] [b] pos) en S P :=
  dt_cmp (op_leD hu) hm (h.mono fun _ _ h1 => h1.mono fun x S2 h2 => dr_cmp2s (by
    obtain ⟨a1, a2, b1, b2, e1, e2, q⟩ := h2
    exact ⟨a1, a2, b1, b2, e1, e2, _, rfl, q⟩))
end
end DL
namespace DL
open PySem PySem.Spec PyProof.Rows L2
/-! ### sorted(set(xs)) of pairs of whole numbers -/
theorem perm_unmap {α β : Type} {f : α → β} {vs ms : List β} (h : vs.Perm ms) : ∀ bs : List α, ms = bs.map f → ∃ b1 : List α, b1.Perm bs ∧ vs = b1.map f := by
  induction h with
  | nil => intro bs e; exact ⟨bs, .refl _, e⟩
  | cons x _ ih =>
    intro bs e
    match bs, e with
    | b :: bs, e =>
      obtain ⟨h1, h2⟩ := List.cons.inj e
      obtain ⟨b1, p, q⟩ := ih bs h2
      exact ⟨b :: b1, p.cons b, by rw [h1, q]; rfl⟩
  | swap x y l =>
    intro bs e
    match bs, e with
    | a :: b :: bs, e =>
      obtain ⟨h1, h2⟩ := List.cons.inj e
      obtain ⟨h3, h4⟩ := List.cons.inj h2
      exact ⟨b :: a :: bs, .swap _ _ _, by rw [h1, h3, h4]; rfl⟩
  | trans _ _ ih1 ih2 =>
    intro bs e
    obtain ⟨b2, p2, e2⟩ := ih2 bs e
    obtain ⟨b1, p1, e1⟩ := ih1 b2 e2
    exact ⟨b1, p1.trans p2, e1⟩
abbrev Pt := Addr × Int × Int
def ptK (b : Pt) : Addr × List Int := (b.1, [b.2.1, b.2.2])
def ptV (b : Pt) : Value := Value.ref b.1
def ptD (b : Pt) : PyData := toPy (pr2 b.2)
theorem ptD_le : PySem.W.dataLe false ptD = fun b c : Pt => le2 b.2 c.2 := PySem.W.dataLe_ii (fun b : Pt => b.2.1) (fun b => b.2.2)
theorem pt_sorted (bs : List Pt) : (bs.mergeSort (PySem.W.dataLe false ptD)).Pairwise fun b c => le2 b.2 c.2 = true := by
  rw [ptD_le]
  exact List.pairwise_mergeSort (fun a b c h1 h2 => le2_trans a.2 b.2 c.2 h1 h2) (fun a b => le2_total a.2 b.2) bs
theorem each_refs : ∀ {out : List Value} {bs : List Pt}, PySem.W.EachIs (fun v b => v = ptV b) out bs → out = bs.map ptV
  | _, _, .nil => rfl
  | _, _, .cons r e => by rw [r, each_refs e]; rfl
theorem each_ptV : ∀ bs : List Pt, PySem.W.EachIs (fun v b => v = ptV b) (bs.map ptV) bs
  | [] => .nil
  | b :: bs => .cons rfl (each_ptV bs)
def rSortSetD (K : PySem.W.Frag) (P : Program) (w : World) : List V → Hp → VK → Prop := fun vs H Q => ∃ (a : Addr) (bs : List Pt), vs = [V.ref a] ∧ H a = some (SetTO P w a (bs.map ptK)) ∧ (∀ b ∈ bs, SqT K H b.1 [V.int b.2.1, V.int b.2.2]) ∧
  ∀ (cs : List Pt) (p : Addr), cs.Perm bs → ((bs.map ptK).map (·.2)).Nodup → (cs.Pairwise fun b c => le2 b.2 c.2 = true) → H p = none → Q (.ref p) (upd H p (.lst (cs.map fun b => V.ref b.1)))
theorem vals_pt : ∀ bs : List Pt, Vals (bs.map fun b => V.ref b.1) (bs.map ptV)
  | [] => .nil
  | _ :: bs => .cons rfl (vals_pt bs)
theorem reads_pr {h : Heap} {v : Value} {x y : Int} {as : List Addr} (r : Reads h v (.tuple [.int x, .int y]) as) : as = [] := by
  cases r with
  | @tuple _ _ vs _ _ _ _ _ _ r4 =>
    generalize vs.toList = l at r4
    cases r4 with
    | cons r5 r6 =>
      cases r5
      cases r6 with
      | cons r7 r8 =>
        cases r7
        cases r8
        rfl
theorem ptD_dep (b : Pt) : (ptD b).depth ≤ 5 := by
  unfold ptD pr2
  simp [toPy, toPyL, PyData.depth, PyData.depthAll]
theorem ptD_alike (bs : List Pt) : PySem.W.AllAlike (bs.map ptD) := fun d hd d' hd' => by
  obtain ⟨b, _, rfl⟩ := List.mem_map.mp hd
  obtain ⟨b', _, rfl⟩ := List.mem_map.mp hd'
  rfl
theorem ptD_sortable (bs : List Pt) : PySem.W.Sortable (bs.map ptD) := .inl fun d hd => by
  obtain ⟨b, _, rfl⟩ := List.mem_map.mp hd
  exact ⟨_, _, rfl⟩
theorem each_of {h : Heap} {z : Addr} : ∀ bs : List Pt, (∀ b ∈ bs, ∃ as, Reads h (ptV b) (ptD b) as) → PySem.W.EachIs (fun v b => ∃ as, Reads h v (ptD b) as ∧ z ∉ as) (bs.map ptV) bs
  | [], _ => .nil
  | b :: bs, k => by
    obtain ⟨as, r⟩ := k b List.mem_cons_self
    exact .cons ⟨as, r, by rw [reads_pr (x := b.2.1) (y := b.2.2) r]; exact fun z => nomatch z⟩ (each_of bs fun c hc => k c (List.mem_cons_of_mem _ hc))
theorem cr_sortSetD {X : Cx} (hc : X.calm = true) (hu : X.A.units + 65 < cLine) : CallR X (.builtin "sorted") (rSortSetD X.K X.prog X.w) := by
  intro pins s σ H vs us Q I r h
  obtain ⟨a, bs, rfl, ha, hk, q⟩ := h
  have R0 : SetT0 X.prog X.w s.heap a (bs.map ptK) := (I.hok a _ ha).1
  have hT : ∀ p ∈ bs.map ptK, IsT X.prog X.w s.heap p.2 p.1 := fun p hp => by
    obtain ⟨b, hb, rfl⟩ := List.mem_map.mp hp
    exact I.isT (hk b hb)
  obtain ⟨es, ep, t, R⟩ := R0.full hT
  rw [Vals.ref1 r]
  obtain ⟨o, ho, hex, hd⟩ := R.ob; have hsz := R.size
  have hfew := R.few
  have hrd : ∀ b ∈ bs, ∃ as, Reads s.heap (ptV b) (ptD b) as := fun b hb => by
    have hdp : Dp X.K H (V.ref b.1) (ptD b) := dp_of 9 (pr2 b.2) _ rfl ⟨b.1, _, rfl, hk b hb, ⟨_, _, rfl, rfl, _, _, rfl, rfl, rfl⟩⟩
    exact Dp.reads I (ptD b) (V.ref b.1) (ptV b) hdp rfl
  refine Calls.call_function_entry kind_sorted plain_sorted entry_sorted (args_sorted1 _) ?_; unfold Builtin.«sorted»
  refine wpAny_bind (m := checkCount "sorted" 1 1 _) (wpAny_pure ?_); show wpAny _ _ _ _ _ _
  refine wpAny_bind (collect_set (A := X.A.in1) (I.ok.hd hc) ⟨o, ho, hex.1, hd⟩ R.fits (by unfold scanBound; omega) R.tab.ris R.led fun s1 vs k1 hz g1 o1 pm => ?_)
  have hes : es.toList.map (·.2) = bs.map ptV := by rw [R.rows]; unfold rowsOf; rw [List.map_map, List.map_map]; rfl
  rw [hes] at pm
  obtain ⟨b1, pb, eb⟩ := perm_unmap pm bs rfl
  have hl1 : b1.length < 64 := by rw [pb.length_eq]; simpa using hfew
  subst eb
  refine wpAny_bind (wpAny_newList ?_ (by rw [sizeLine_eq, List.length_map]; omega))
  have hoL : (s1.heap.push (seqObj "list" (b1.map ptV).toArray 0)).get? s1.heap.objs.size = some (seqObj "list" (b1.map ptV).toArray 0) := Heap.get?_push_size _ rfl
  have er := each_of (z := s1.heap.objs.size) b1 (h := s1.heap.push (seqObj "list" (b1.map ptV).toArray 0)) fun b hb => by
    obtain ⟨as, r⟩ := hrd b (pb.mem_iff.mp hb)
    exact ⟨as, PyProof.Rows.Reads.keeps (fun c u e => Heap.get?_push_of_some _ (k1 c u e)) r⟩
  refine wpAny_bind (wpAny_holding (PySem.W.list_sort_data (s := { s1 with heap := s1.heap.push (seqObj "list" (b1.map ptV).toArray 0) }) hoL (each_ptV b1) er (ptD_alike b1) (ptD_sortable b1) (by rw [sizeLine_eq]; omega) (fun b _ => by have := ptD_dep b; unfold Around.in1; simp only []; omega) fun out h1 h2 => ?_))
  have hout := each_refs h2
  obtain ⟨c, hg⟩ := sortedHeap_at (vs := b1.map ptV) (out := List.toArray out) hoL
  have hkeep : ∀ x u, s.heap.get? x = some u → (sortedHeap (s1.heap.push (seqObj "list" (b1.map ptV).toArray 0)) s1.heap.objs.size (b1.map ptV) (List.toArray out)).get? x = some u := fun x u e => by
    have e1 := k1 x u e; have lt1 := Heap.lt_size e1
    rw [sortedHeap_old (Nat.ne_of_lt lt1) (by rw [size_push']; exact Nat.lt_succ_of_lt lt1)]; exact Heap.get?_push_of_some _ e1
  have hperm : (b1.mergeSort (PySem.W.dataLe false ptD)).Perm bs := (List.mergeSort_perm b1 _).trans pb
  have hlen : ((b1.mergeSort (PySem.W.dataLe false ptD)).map fun b => V.ref b.1).length ≤ sizeLine := by
    rw [List.length_map, hperm.length_eq, ← pb.length_eq, sizeLine_eq]; omega
  have hn : H s1.heap.objs.size = none := I.hok.fresh hz
  have hv : Vals ((b1.mergeSort (PySem.W.dataLe false ptD)).map fun b => V.ref b.1) (List.toArray out).toList := by
    rw [hout]; exact vals_pt _
  have J : Inv X pins σ (upd H s1.heap.objs.size (.lst ((b1.mergeSort (PySem.W.dataLe false ptD)).map fun b => V.ref b.1))) { s with heap := sortedHeap (s1.heap.push (seqObj "list" (b1.map ptV).toArray 0)) s1.heap.objs.size (b1.map ptV) (List.toArray out), gens := s1.gens, drawn := s1.drawn, toks := s1.toks } :=
    I.call (ch := []) (Un.laid hkeep hz hn) (I.hok.laid hkeep hz ⟨hlen, (List.toArray out).toList, c, hv, hg⟩) (by rw [g1]; exact I.bare) fun _ z => nomatch z
  refine wpAny_pure ⟨_, rfl, ?_⟩
  have es1 : ({ s1 with heap := sortedHeap (s1.heap.push (seqObj "list" (b1.map ptV).toArray 0)) s1.heap.objs.size (b1.map ptV) (List.toArray out) } : Shared) = { s with heap := sortedHeap (s1.heap.push (seqObj "list" (b1.map ptV).toArray 0)) s1.heap.objs.size (b1.map ptV) (List.toArray out), gens := s1.gens, drawn := s1.drawn, toks := s1.toks } := by
    cases s1; cases s; cases o1; rfl
  show ∃ _, _
  rw [es1]
  exact ⟨.ref s1.heap.objs.size, _, J, rfl, q _ s1.heap.objs.size hperm R.nd (pt_sorted b1) hn⟩
end DL
namespace Tp
open PySem PySem.Spec PyProof.Rows L2 DL
/-! ### the mathematics of turns -/
theorem sq_nn (q : Int) : 0 ≤ q * q := by
  rcases Int.le_total 0 q with h | h
  · exact Int.mul_nonneg h h
  · exact Int.mul_nonneg_of_nonpos_of_nonpos h h
def rtX (k : Nat) (x y : Int) : Int := match k with | 0 => x | 1 => -y | 2 => -x | _ => y
def rtY (k : Nat) (x y : Int) : Int := match k with | 0 => y | 1 => x | 2 => -y | _ => -x
def cc (p q : Int) : Int := p * p + q * q
@[irreducible] def lgA (p q k : Int) : Int := rtX k.toNat (p * p - q * q) (p * q + q * p)
@[irreducible] def lgB (p q k : Int) : Int := rtY k.toNat (p * p - q * q) (p * q + q * p)
@[irreducible] def exX (p q k x y : Int) : Int := lgA p q k * x - lgB p q k * y
@[irreducible] def exY (p q k x y : Int) : Int := lgA p q k * y + lgB p q k * x
@[irreducible] def nrr (n d : Int) : Int := (2 * n + d) / (2 * d)
@[irreducible] def imX (p q k x y : Int) : Int := nrr (exX p q k x y) (cc p q)
@[irreducible] def imY (p q k x y : Int) : Int := nrr (exY p q k x y) (cc p q)
theorem rt_step (k : Nat) (hk : k < 3) (x y : Int) : rtX (k + 1) x y = -rtY k x y ∧ rtY (k + 1) x y = rtX k x y := by
  rcases (by omega : k = 0 ∨ k = 1 ∨ k = 2) with h | h | h <;> subst h <;> simp [rtX, rtY]
theorem Bd.rtX {a b : Nat} {x y : Int} (k : Nat) (h : Bd a x) (g : Bd b y) : Bd (max a b) (rtX k x y) := by
  have h1 := h.up (Nat.le_max_left a b)
  have g1 := g.up (Nat.le_max_right a b)
  unfold Tp.rtX
  split
  · exact h1
  · exact g1.neg
  · exact h1.neg
  · exact g1
theorem Bd.rtY {a b : Nat} {x y : Int} (k : Nat) (h : Bd a x) (g : Bd b y) : Bd (max a b) (rtY k x y) := by
  have h1 := h.up (Nat.le_max_left a b)
  have g1 := g.up (Nat.le_max_right a b)
  unfold Tp.rtY
  split
  · exact g1
  · exact h1
  · exact g1.neg
  · exact h1.neg
theorem Bd.cc {p q : Int} (h : Bd 50 p) (g : Bd 50 q) : Bd 101 (cc p q) := (h.mul h).add (g.mul g)
theorem Bd.lgA {p q : Int} (k : Int) (h : Bd 50 p) (g : Bd 50 q) : Bd 101 (lgA p q k) := by unfold Tp.lgA; exact (Bd.rtX _ ((h.mul h).sub (g.mul g)) ((h.mul g).add (g.mul h))).up (by decide)
theorem Bd.lgB {p q : Int} (k : Int) (h : Bd 50 p) (g : Bd 50 q) : Bd 101 (lgB p q k) := by unfold Tp.lgB; exact (Bd.rtY _ ((h.mul h).sub (g.mul g)) ((h.mul g).add (g.mul h))).up (by decide)
theorem Bd.exX {p q x y : Int} {n : Nat} (k : Int) (h : Bd 50 p) (g : Bd 50 q) (hx : Bd n x) (hy : Bd n y) : Bd (102 + n) (exX p q k x y) := by unfold Tp.exX; exact (((Bd.lgA k h g).mul hx).sub ((Bd.lgB k h g).mul hy)).up (by omega)
theorem Bd.exY {p q x y : Int} {n : Nat} (k : Int) (h : Bd 50 p) (g : Bd 50 q) (hx : Bd n x) (hy : Bd n y) : Bd (102 + n) (exY p q k x y) := by unfold Tp.exY; exact (((Bd.lgA k h g).mul hy).add ((Bd.lgB k h g).mul hx)).up (by omega)
theorem Bd.nrr {n d : Int} {a b : Nat} (h : Bd a n) (g : Bd b d) : Bd (max (2 + a) b + 1) (nrr n d) := by unfold Tp.nrr; exact (((Bd.lit 2).mul h).add g).div
theorem Bd.imX {p q x y : Int} {n : Nat} (k : Int) (h : Bd 50 p) (g : Bd 50 q) (hx : Bd n x) (hy : Bd n y) : Bd (105 + n) (imX p q k x y) := by unfold Tp.imX; exact (Bd.nrr (Bd.exX k h g hx hy) (Bd.cc h g)).up (by omega)
theorem Bd.imY {p q x y : Int} {n : Nat} (k : Int) (h : Bd 50 p) (g : Bd 50 q) (hx : Bd n x) (hy : Bd n y) : Bd (105 + n) (imY p q k x y) := by unfold Tp.imY; exact (Bd.nrr (Bd.exY k h g hx hy) (Bd.cc h g)).up (by omega)
theorem cc_pos {p q k : Int} (h : Tn p q k) : 0 < cc p q := by
  have h1 := h.p1
  have h2 : 0 < p * p := Int.mul_pos (by omega) (by omega)
  have h3 : 0 ≤ q * q := sq_nn q
  unfold cc
  omega
theorem cc_one {p q k : Int} (h : Tn p q k) : 1 ≤ cc p q := cc_pos h
/-! ### what the program's defs promise of turns, pixels -/
def con_is_whole : Con := fun ds S Q => ∃ i : Int, ds = [.int i] ∧ Q (.bl true) S
def con_is_whole_tuple : Con := fun ds S Q => ∃ ns : List Int, ds = [.tup (ns.map D.int), .int (ns.length : Int)] ∧ ns.length ≤ 100 ∧ Q (.bl true) S
def con_is_pixel : Con := fun ds S Q => ∃ x y : Int, ds = [.tup [.int x, .int y]] ∧ Q (.bl true) S
def con_is_turn : Con := fun ds S Q => ∃ p q k : Int, ds = [.tup [.int p, .int q, .int k]] ∧ Tn p q k ∧ Q (.bl true) S
def con_check_pixel : Con := fun ds S Q => ∃ x y : Int, ds = [.tup [.int x, .int y]] ∧ Q .non S
def con_check_turn : Con := fun ds S Q => ∃ p q k : Int, ds = [.tup [.int p, .int q, .int k]] ∧ Tn p q k ∧ Q .non S
def con_times : Con := fun ds S Q => ∃ x y r s, ds = [.tup [.int x, .int y], .tup [.int r, .int s]] ∧ (Bd 1500 x ∧ Bd 1500 y ∧ Bd 1500 r ∧ Bd 1500 s) ∧ Q (.tup [.int (x * r - y * s), .int (x * s + y * r)]) S
def con_nearest : Con := fun ds S Q => ∃ n d, ds = [.int n, .int d] ∧ (Bd 3000 n ∧ Bd 500 d ∧ 0 < d) ∧ Q (.int (nrr n d)) S
def con_legs_of : Con := fun ds S Q => ∃ p q k : Int, ds = [.tup [.int p, .int q, .int k]] ∧ Tn p q k ∧ Q (.tup [.int (lgA p q k), .int (lgB p q k), .int (cc p q)]) S
def con_exact_place : Con := fun ds S Q => ∃ p q k x y : Int, ds = [.tup [.int p, .int q, .int k], .tup [.int x, .int y]] ∧ Tn p q k ∧ (Bd 1200 x ∧ Bd 1200 y) ∧ Q (.tup [.int (exX p q k x y), .int (exY p q k x y), .int (cc p q)]) S
def con_image : Con := fun ds S Q => ∃ p q k x y : Int, ds = [.tup [.int p, .int q, .int k], .tup [.int x, .int y]] ∧ Tn p q k ∧ (Bd 1200 x ∧ Bd 1200 y) ∧ Q (.tup [.int (imX p q k x y), .int (imY p q k x y)]) S
def con_back : Con := fun ds S Q => ∃ p q k : Int, ds = [.tup [.int p, .int q, .int k]] ∧ Tn p q k ∧ Q (.tup [.int p, .int (-q), .int (-k % 4)]) S

/-! ### what the laws' helpers do -/
theorem abs_nat (i : Int) : (if i < 0 then -i else i) = (i.natAbs : Int) := by split <;> omega
theorem gcd_step (x y : Nat) : Nat.gcd y (x % y) = Nat.gcd x y := by rw [Nat.gcd_comm y, ← Nat.gcd_rec, Nat.gcd_comm]
theorem src_mk {a b : Int} (h : 0 ≤ a) (hb : 0 ≤ b ∧ Bd 200 b) : Src 0 [.int a, .int b, .int 0] := ⟨a, b, 0, rfl, h, hb.2, ⟨Int.le_refl 0, Int.le_refl 0⟩, hb.1⟩
theorem src_a (g m : Int) : 0 ≤ (if g - m > 0 then g - m else 0) := by split <;> omega
theorem src_b (g k : Int) (c : Bool) (hk : 0 ≤ k ∧ k ≤ 100) : 0 ≤ g % (10 ^ (Int.toNat 44) + 31) * 97 + 2 * k + (if c = true then 1 else 0) ∧ Bd 200 (g % (10 ^ (Int.toNat 44) + 31) * 97 + 2 * k + (if c = true then 1 else 0)) := by
  have e : (10 : Int) ^ (Int.toNat 44) + 31 = 100000000000000000000000000000000000000000031 := by decide +kernel
  rw [e]
  have h1 := Int.emod_nonneg g (show (100000000000000000000000000000000000000000031 : Int) ≠ 0 by decide)
  have h2 := Int.emod_lt_of_pos g (show (0 : Int) < 100000000000000000000000000000000000000000031 by decide)
  generalize g % 100000000000000000000000000000000000000000031 = r at *
  unfold Bd
  split <;> omega
theorem src_div {a b c n : Int} {m : Nat} (ha : 0 ≤ a) (hb : Bd 200 b) (hc : 0 ≤ c ∧ c ≤ (m : Int)) (hb0 : 0 ≤ b) (hn : 0 < n) : Src (m + 1) [.int (a / n), .int b, .int c] :=
  ⟨_, _, _, rfl, Int.ediv_nonneg ha (by omega), hb, ⟨hc.1, by omega⟩, hb0⟩
theorem src_next {a b c : Int} {m : Nat} (ha : 0 ≤ a) (hb : Bd 200 b) (hc : 0 ≤ c ∧ c ≤ (m : Int)) (hb0 : 0 ≤ b) : Src (m + 1) [.int a, .int b, .int (c + 1)] :=
  ⟨_, _, _, rfl, ha, hb, ⟨by omega, by omega⟩, hb0⟩
/-- the numbers that a law tries for q, from q on: some end is reached -/
theorem spin_end {p : Int} (h : 1 ≤ p) : Nat.gcd p.natAbs (p - 1).natAbs = 1 ∧ (p + (p - 1)) % 2 = 1 := by
  refine ⟨?_, by omega⟩
  obtain ⟨n, rfl⟩ : ∃ n : Nat, p = (n : Int) + 1 := ⟨(p - 1).toNat, by omega⟩
  have e1 : ((n : Int) + 1).natAbs = n + 1 := by omega
  have e2 : ((n : Int) + 1 - 1).natAbs = n := by omega
  rw [e1, e2, Nat.gcd_comm, Nat.gcd_rec]
  by_cases hn : n = 0
  · subst hn
    rfl
  · have e3 : (n + 1) % n = 1 % n := by rw [Nat.add_mod_left]
    rw [e3]
    by_cases h1 : n = 1
    · subst h1
      rfl
    · rw [Nat.mod_eq_of_lt (by omega)]
      exact Nat.gcd_one_left n
theorem tn_mk {p q k : Int} (h1 : 1 ≤ p) (h2 : p ≤ 1000000000000000) (h3 : 0 ≤ q) (h4 : q < p) (g : Nat.gcd p.natAbs q.natAbs = 1) (o : (p + q) % 2 = 1) (hk : 0 ≤ k ∧ k < 4) : Tn p q k ∧ Tn p (-q) k :=
  ⟨⟨h1, h2, by omega, h4, g, o, hk.1, by omega⟩, ⟨h1, h2, by omega, by omega, by rw [Int.natAbs_neg]; exact g, by omega, hk.1, by omega⟩⟩

theorem pickL {l : List D} {i : Int} {P : D → Prop} (h : ∀ x ∈ l, P x) (h0 : 0 ≤ i) (h1 : i < (l.length : Int)) : ∃ x, atI l i = some x ∧ P x := by
  obtain ⟨j, rfl⟩ : ∃ j : Nat, i = (j : Int) := ⟨i.toNat, by omega⟩
  have hj : j < l.length := by omega
  exact ⟨l[j], atI_nat (List.getElem?_eq_getElem hj), h _ (List.getElem_mem hj)⟩
theorem ix_pick {l : List D} {i : Int} {S : Sto} {Q : D → Sto → Prop} (P : D → Prop) (h : ∀ x ∈ l, P x) (h0 : 0 ≤ i) (h1 : i < (l.length : Int)) (k : ∀ x, P x → Q x S) : ixP (.lst l) (.int i) S Q := by
  obtain ⟨x, e, px⟩ := pickL h h0 h1
  exact ⟨x, e, k x px⟩
theorem fa_nil {P : D → Prop} : ∀ x ∈ ([] : List D), P x := fun _ h => nomatch h
theorem fa_cons {P : D → Prop} {a : D} {l : List D} (h : P a) (k : ∀ x ∈ l, P x) : ∀ x ∈ a :: l, P x := fun x hx => by
  rcases List.mem_cons.mp hx with e | e
  · rw [e]
    exact h
  · exact k x e
theorem Bd.ite {a b : Nat} {c : Prop} [Decidable c] {x y : Int} (h : Bd a x) (k : Bd b y) : Bd (max a b) (if c then x else y) := by
  split
  · exact h.up (Nat.le_max_left _ _)
  · exact k.up (Nat.le_max_right _ _)
theorem spin_turn {p q : Int} (h : 1 ≤ p) (hq : q ≤ p - 1) (z : 1 < ((Nat.gcd p.natAbs q.natAbs : Nat) : Int) ∨ (p + q) % 2 = 0) : q + 1 < p := by
  by_cases e : q = p - 1
  · subst e
    obtain ⟨e1, e2⟩ := spin_end h
    rcases z with z | z
    · rw [e1] at z
      exact absurd z (by decide)
    · omega
  · omega
theorem gcd_one {p q : Int} (h : 1 ≤ p) (z : ¬ 1 < ((Nat.gcd p.natAbs q.natAbs : Nat) : Int)) : Nat.gcd p.natAbs q.natAbs = 1 := by
  have : 0 < Nat.gcd p.natAbs q.natAbs := Nat.gcd_pos_of_pos_left _ (by omega)
  omega

theorem setS_self {p : Addr} {l : List D} : ∀ {S : Sto}, getS p S = some l → setS p l S = S
  | [], h => by cases h
  | (q, m) :: S, h => by
    by_cases e : q = p
    · subst e
      rw [getS_hd] at h
      cases h
      rw [setS_hd]
    · rw [getS_tl e] at h
      rw [setS_tl e, setS_self h]

theorem tn_b3 {p q k : Int} (h : Tn p q k) : Bd 3 k := by
  have := h.k1
  have := h.k2
  unfold Bd
  omega

/-! ### further helpers of the laws -/
theorem ex_raw (p q k x y : Int) : exX p q k x y = rtX k.toNat ((p * p - q * q) * x - 2 * p * q * y) ((p * p - q * q) * y + 2 * p * q * x) ∧ exY p q k x y = rtY k.toNat ((p * p - q * q) * x - 2 * p * q * y) ((p * p - q * q) * y + 2 * p * q * x) := by
  unfold exX exY lgA lgB
  generalize k.toNat = j
  match j with
  | 0 => simp only [rtX, rtY]; constructor <;> grind
  | 1 => simp only [rtX, rtY]; constructor <;> grind
  | 2 => simp only [rtX, rtY]; constructor <;> grind
  | _ + 3 => simp only [rtX, rtY]; constructor <;> grind
def rat (x c : Int) : D := .tup [.int (x / ((Nat.gcd x.natAbs c.natAbs : Nat) : Int)), .int (c / ((Nat.gcd x.natAbs c.natAbs : Nat) : Int))]
theorem Bd.isq {n : Nat} {i : Int} (h : Bd n i) : Bd n ((Float64.isqrt i.toNat : Nat) : Int) := by
  obtain ⟨s1, _⟩ := Float64.isqrt_spec i.toNat
  generalize Float64.isqrt i.toNat = r at *
  unfold Bd at h ⊢
  have h1 : r ≤ r * r := by
    rcases Nat.eq_zero_or_pos r with z | z
    · subst z; decide
    · exact Nat.le_mul_of_pos_left r z
  have : (r : Int).natAbs = r := by omega
  omega

end Tp
namespace Tp
open PySem PySem.Spec PyProof.Rows L2 DL
/-! ### turns by quarters, and back -/
theorem cc_odd {p q k : Int} (h : Tn p q k) : cc p q % 2 = 1 := by
  obtain ⟨t, ht⟩ : ∃ t, p + q = 2 * t + 1 := ⟨(p + q) / 2, by have := h.o; omega⟩
  have e : cc p q = 2 * (2 * t * t + 2 * t - 2 * t * q - q + q * q) + 1 := by
    have : p = 2 * t + 1 - q := by omega
    subst this
    unfold cc
    grind
  omega
theorem four {k : Int} (h : 0 ≤ k ∧ k < 4) : k = 0 ∨ k = 1 ∨ k = 2 ∨ k = 3 := by omega
theorem tn_bk {p q k : Int} (h : Tn p q k) : Tn p (-q) ((4 - k) % 4) := by
  have := h.q1
  have := h.q2
  have := h.o
  exact ⟨h.p1, h.p2, by omega, by omega, by rw [Int.natAbs_neg]; exact h.g, by omega, by omega, by omega⟩
theorem bk_1 {p q k : Int} (h : Tn p q k) : -k % 4 = (4 - k) % 4 := by omega
theorem cc_neg (p q : Int) : cc p (-q) = cc p q := by unfold cc; grind
theorem nrr_near {n c : Int} (h : c % 2 = 1) (h0 : 0 < c) : -c < 2 * (n - c * nrr n c) ∧ 2 * (n - c * nrr n c) < c := by
  unfold nrr
  have e := Int.emod_add_mul_ediv (2 * n + c) (2 * c)
  have r0 := Int.emod_nonneg (2 * n + c) (show 2 * c ≠ 0 by omega)
  have r1 := Int.emod_lt_of_pos (2 * n + c) (show 0 < 2 * c by omega)
  generalize (2 * n + c) % (2 * c) = r at *
  generalize (2 * n + c) / (2 * c) = m at *
  have e2 : 2 * c * m = 2 * (c * m) := by rw [Int.mul_assoc]
  have rn : r ≠ 0 := by omega
  omega
theorem im_near {p q k : Int} (h : Tn p q k) (x y : Int) : (-(cc p q) < 2 * (exX p q k x y - cc p q * imX p q k x y) ∧ 2 * (exX p q k x y - cc p q * imX p q k x y) < cc p q) ∧ -(cc p q) < 2 * (exY p q k x y - cc p q * imY p q k x y) ∧ 2 * (exY p q k x y - cc p q * imY p q k x y) < cc p q :=
  by unfold imX imY; exact ⟨nrr_near (cc_odd h) (cc_pos h), nrr_near (cc_odd h) (cc_pos h)⟩

/-- a pixel within a bound -/
def DotB (n : Nat) (d : D) : Prop := ∃ x y : Int, d = .tup [.int x, .int y] ∧ Bd n x ∧ Bd n y
theorem DotB.up {n m : Nat} {d : D} (h : DotB n d) (k : n ≤ m) : DotB m d := by
  obtain ⟨x, y, e, a, b⟩ := h
  exact ⟨x, y, e, a.up k, b.up k⟩
theorem fa_app {P : D → Prop} {l m : List D} (h : ∀ x ∈ l, P x) (g : ∀ x ∈ m, P x) : ∀ x ∈ l ++ m, P x := fun x z => by
  rcases List.mem_append.mp z with z | z
  · exact h x z
  · exact g x z
end Tp
namespace Tp
open PySem PySem.Spec PyProof.Rows L2 DL
/-! ### rests -/
def reX (p q x y : Int) : Int := p * x - q * y - (p * imX p q 0 x y - -q * imY p q 0 x y)
def reY (p q x y : Int) : Int := p * y + q * x - (p * imY p q 0 x y + -q * imX p q 0 x y)
def isR (p q m n : Int) : Prop := (-(cc p q) < 2 * (p * m - q * n) ∧ 2 * (p * m - q * n) < cc p q) ∧ -(cc p q) < 2 * (p * n + q * m) ∧ 2 * (p * n + q * m) < cc p q
theorem bez_nat (m n : Nat) : ∃ s t : Int, s * (m : Int) + t * (n : Int) = (Nat.gcd m n : Int) := by
  induction m, n using Nat.gcd.induction with
  | H0 n => exact ⟨0, 1, by simp⟩
  | H1 m n hm ih =>
    obtain ⟨s, t, e⟩ := ih
    rw [← Nat.gcd_rec] at e
    have d : ((n % m : Nat) : Int) = (n : Int) - (m : Int) * ((n / m : Nat) : Int) := by
      have := Nat.mod_add_div n m
      omega
    refine ⟨t - s * ((n / m : Nat) : Int), s, ?_⟩
    rw [← e, d]
    grind
theorem bez {p q : Int} (g : Nat.gcd p.natAbs q.natAbs = 1) : ∃ s t : Int, s * p + t * q = 1 := by
  obtain ⟨s, t, e⟩ := bez_nat p.natAbs q.natAbs
  rw [g] at e
  rcases Int.natAbs_eq p with h | h <;> rcases Int.natAbs_eq q with h' | h'
  · exact ⟨s, t, by rw [h, h']; exact e⟩
  · exact ⟨s, -t, by rw [h, h', Int.neg_mul_neg]; exact e⟩
  · exact ⟨-s, t, by rw [h, h', Int.neg_mul_neg]; exact e⟩
  · exact ⟨-s, -t, by rw [h, h', Int.neg_mul_neg, Int.neg_mul_neg]; exact e⟩
theorem ex0 (p q x y : Int) : exX p q 0 x y = (p * p - q * q) * x - 2 * p * q * y ∧ exY p q 0 x y = (p * p - q * q) * y + 2 * p * q * x := by have h := ex_raw p q 0 x y; simpa [rtX, rtY] using h
/-- u times the rest is what the exact place has over c times the image -/
theorem u_re (p q x y : Int) : p * reX p q x y - q * reY p q x y = exX p q 0 x y - cc p q * imX p q 0 x y ∧ p * reY p q x y + q * reX p q x y = exY p q 0 x y - cc p q * imY p q 0 x y := by
  unfold reX reY
  rw [(ex0 p q x y).1, (ex0 p q x y).2]
  unfold cc
  generalize imX p q 0 x y = X
  generalize imY p q 0 x y = Y
  constructor <;> grind
theorem re_is {p q k : Int} (h : Tn p q k) (x y : Int) : isR p q (reX p q x y) (reY p q x y) := by
  unfold isR
  rw [(u_re p q x y).1, (u_re p q x y).2]
  have h0 : Tn p q 0 := ⟨h.p1, h.p2, h.q1, h.q2, h.g, h.o, by decide, by decide⟩
  exact im_near h0 x y
/-- a and c have no common divisor -/
theorem co_ac {p q k : Int} (h : Tn p q k) : ∃ s t : Int, s * (p * p - q * q) + t * cc p q = 1 := by
  obtain ⟨s, t, b⟩ := bez h.g
  obtain ⟨j, hj⟩ : ∃ j, cc p q = 2 * j + 1 := ⟨cc p q / 2, by have := cc_odd h; omega⟩
  obtain ⟨α, hα⟩ : ∃ α, α = s * s * s * p + 3 * s * s * t * q := ⟨_, rfl⟩
  obtain ⟨β, hβ⟩ : ∃ β, β = 3 * s * t * t * p + t * t * t * q := ⟨_, rfl⟩
  have e : p * p * α + q * q * β = 1 := by
    have : p * p * α + q * q * β = (s * p + t * q) * (s * p + t * q) * (s * p + t * q) := by rw [hα, hβ]; grind
    rw [this, b] <;> rfl
  refine ⟨-j * (α - β), 1 - j * (α + β), ?_⟩
  have e2 : -j * (α - β) * (p * p - q * q) + (1 - j * (α + β)) * cc p q = cc p q - 2 * j * (p * p * α + q * q * β) := by unfold cc; grind
  rw [e2, e, hj]
  omega
theorem eqB_t2 (a b c d : Int) : eqB (.tup [.int a, .int b]) (.tup [.int c, .int d]) = (decide (a = c) && decide (b = d)) := by
  unfold eqB
  simp [toPy, toPyL, PyData.eqv, PyData.eqvAll] <;> rfl
theorem eq_t2 {a b c d : Int} {S : Sto} {Q : Bool → Sto → Prop} (q : ∀ v : Bool, (v = true ↔ a = c ∧ b = d) → Q v S) : eqP (.tup [.int a, .int b]) (.tup [.int c, .int d]) S Q := by
  refine eq_tup ?_
  exact q _ (by rw [eqB_t2, Bool.and_eq_true, decide_eq_true_eq, decide_eq_true_eq])
theorem nb {b : Bool} (h : (!b) = true) (k : b = true) : False := by subst k; cases h
theorem Bd.reX {p q x y : Int} {n : Nat} (h : Bd 50 p) (g : Bd 50 q) (hx : Bd n x) (hy : Bd n y) : Bd (160 + n) (reX p q x y) :=
  (((h.mul hx).sub (g.mul hy)).sub ((h.mul (Bd.imX 0 h g hx hy)).sub (g.neg.mul (Bd.imY 0 h g hx hy)))).up (by omega)
theorem Bd.reY {p q x y : Int} {n : Nat} (h : Bd 50 p) (g : Bd 50 q) (hx : Bd n x) (hy : Bd n y) : Bd (160 + n) (reY p q x y) :=
  (((h.mul hy).add (g.mul hx)).sub ((h.mul (Bd.imY 0 h g hx hy)).add (g.neg.mul (Bd.imX 0 h g hx hy)))).up (by omega)
/-- the rounds that find an inverse -/
structure InvI (n m h l a b : Int) : Prop where
  h0 : 0 < h
  l0 : 0 ≤ l
  az : ∃ z, a * n - h = m * z
  bz : ∃ z, b * n - l = m * z
  co : ∀ d, d ∣ h → d ∣ l → d ∣ 1
  sg : (0 ≤ a ∧ b ≤ 0 ∧ a * l - b * h = m) ∨ (a ≤ 0 ∧ 0 ≤ b ∧ b * h - a * l = m)
  hm : h ≤ m
  lm : l ≤ m
  ab : -m ≤ a ∧ a ≤ m
theorem InvI.b_le {n m h l a b : Int} (I : InvI n m h l a b) : -m ≤ b ∧ b ≤ m := by
  have h0 := I.h0
  have l0 := I.l0
  rcases I.sg with ⟨a0, b0, e⟩ | ⟨a0, b0, e⟩
  · have x1 : 0 ≤ a * l := Int.mul_nonneg a0 l0
    have x2 : (-b) * 1 ≤ (-b) * h := Int.mul_le_mul_of_nonneg_left (by omega) (by omega)
    have x3 : (-b) * h = -(b * h) := Int.neg_mul _ _
    omega
  · have x1 : 0 ≤ (-a) * l := Int.mul_nonneg (by omega) l0
    have x2 : b * 1 ≤ b * h := Int.mul_le_mul_of_nonneg_left (by omega) (by omega)
    have x3 : (-a) * l = -(a * l) := Int.neg_mul _ _
    omega
theorem InvI.less {h l : Int} (h0 : 0 < l) : 0 ≤ h - h / l * l ∧ h - h / l * l < l := by
  have r0 := Int.emod_nonneg h (show l ≠ 0 by omega)
  have r1 := Int.emod_lt_of_pos h h0
  have r2 := Int.emod_add_mul_ediv h l
  have r3 : h / l * l = l * (h / l) := Int.mul_comm _ _
  omega
theorem InvI.step {n m h l a b : Int} (I : InvI n m h l a b) (hl : 0 < l) : InvI n m l (h - h / l * l) b (a - h / l * b) := by
  obtain ⟨l1, l2⟩ := InvI.less (h := h) hl
  have q0 : 0 ≤ h / l := Int.ediv_nonneg (by have := I.h0; omega) (by omega)
  have hlm := I.lm
  obtain ⟨z, hz⟩ := I.az
  obtain ⟨w, hw⟩ := I.bz
  refine ⟨hl, l1, I.bz, ⟨z - h / l * w, ?_⟩, fun d h1 h2 => I.co d ?_ h1, ?_, hlm, by omega, I.b_le⟩
  · have : (a - h / l * b) * n - (h - h / l * l) = (a * n - h) - h / l * (b * n - l) := by grind
    rw [this, hz, hw]
    grind
  · have : h = (h - h / l * l) + h / l * l := by omega
    rw [this]
    exact Int.dvd_add h2 (Int.dvd_trans h1 (Int.dvd_mul_left _ _))
  · generalize h / l = k at *
    rcases I.sg with ⟨a0, b0, e⟩ | ⟨a0, b0, e⟩
    · have x : 0 ≤ k * (-b) := Int.mul_nonneg q0 (by omega)
      have x2 : k * (-b) = -(k * b) := Int.mul_neg _ _
      exact .inr ⟨b0, by omega, by rw [← e]; grind⟩
    · have x : 0 ≤ k * b := Int.mul_nonneg q0 b0
      exact .inl ⟨b0, by omega, by rw [← e]; grind⟩
theorem Tn.zero {p q k : Int} (h : Tn p q k) : Tn p q 0 := ⟨h.p1, h.p2, h.q1, h.q2, h.g, h.o, by decide, by decide⟩
theorem bd_cc {p q : Int} (h : Bd 101 (cc p q)) : Bd 101 (cc p q) := h

end Tp
namespace Tp
open PySem PySem.Spec PyProof.Rows L2 DL

/-! ### pixels with one rest -/
end Tp
namespace Tp
open PySem PySem.Spec PyProof.Rows L2 DL
/-! ### the nearest pixel with a rest -/
theorem three {i : Nat} {d : D} (h : [D.int (-1), D.int 0, D.int 1][i]? = some d) : i < 3 ∧ d = .int ((i : Int) - 1) := by
  have hi : i < 3 := (List.getElem?_eq_some_iff.mp h).1
  refine ⟨hi, ?_⟩
  rcases (by omega : i = 0 ∨ i = 1 ∨ i = 2) with e | e | e <;> subst e <;> exact (Option.some.inj h).symm
end Tp
namespace Tp
open PySem PySem.Spec PyProof.Rows L2 DL
/-! ### turns of legs, and joined turns -/
theorem co_ab {p q k : Int} (h : Tn p q k) : ∃ s t : Int, s * (p * p - q * q) + t * (p * q + q * p) = 1 := by
  obtain ⟨s, t, e⟩ := co_ac h
  refine ⟨s * s * (p * p - q * q) + 2 * s * t * cc p q + t * t * (p * p - q * q), t * t * (p * q + q * p), ?_⟩
  have c2 : cc p q * cc p q = (p * p - q * q) * (p * p - q * q) + (p * q + q * p) * (p * q + q * p) := by unfold cc; grind
  generalize p * p - q * q = a at *
  generalize p * q + q * p = b at *
  generalize cc p q = c at *
  have : (s * s * a + 2 * s * t * c + t * t * a) * a + t * t * b * b = (s * a + t * c) * (s * a + t * c) + t * t * (a * a + b * b - c * c) := by grind
  rw [this, e, c2]
  grind
theorem gcd_of {a b s t : Int} (e : s * a + t * b = 1) : Nat.gcd a.natAbs b.natAbs = 1 := by
  have h1 : ((Nat.gcd a.natAbs b.natAbs : Nat) : Int) ∣ a := PySem.W.mg_dvd_left a b
  have h2 : ((Nat.gcd a.natAbs b.natAbs : Nat) : Int) ∣ b := PySem.W.mg_dvd_right a b
  have h3 : ((Nat.gcd a.natAbs b.natAbs : Nat) : Int) ∣ 1 := by
    rw [← e]
    exact Int.dvd_add (Int.dvd_trans h1 (Int.dvd_mul_left _ _)) (Int.dvd_trans h2 (Int.dvd_mul_left _ _))
  have h4 := Int.le_of_dvd (by decide) h3
  have h5 : Nat.gcd a.natAbs b.natAbs ≠ 0 := fun z => by
    rw [z] at h3
    obtain ⟨w, hw⟩ := h3
    omega
  omega
theorem gcd_lg {p q k : Int} (h : Tn p q k) : Nat.gcd (lgA p q k).natAbs (lgB p q k).natAbs = 1 := by
  obtain ⟨s, t, e⟩ := co_ab h
  unfold lgA lgB
  generalize p * p - q * q = a at *
  generalize p * q + q * p = b at *
  generalize k.toNat = j
  match j with
  | 0 => exact gcd_of (s := s) (t := t) e
  | 1 => exact gcd_of (s := -t) (t := s) (by show -t * -b + s * a = 1; grind)
  | 2 => exact gcd_of (s := -s) (t := -t) (by show -s * -a + -t * -b = 1; grind)
  | _ + 3 => exact gcd_of (s := t) (t := -s) (by show t * b + -s * -a = 1; grind)
/-- the last step of what finds a turn of legs -/
theorem root_p (p q : Int) : (cc p q + (p * p - q * q)) / 2 = p * p := by unfold cc; omega
theorem root_q (p q : Int) : (cc p q - (p * p - q * q)) / 2 = q * q := by unfold cc; omega
theorem rt_mul {k l : Int} (hk : 0 ≤ k ∧ k < 4) (hl : 0 ≤ l ∧ l < 4) (A B C D : Int) : rtX k.toNat A B * rtX l.toNat C D - rtY k.toNat A B * rtY l.toNat C D = rtX ((k + l) % 4).toNat (A * C - B * D) (A * D + B * C) ∧ rtX k.toNat A B * rtY l.toNat C D + rtY k.toNat A B * rtX l.toNat C D = rtY ((k + l) % 4).toNat (A * C - B * D) (A * D + B * C) := by
  rcases four hk with h | h | h | h <;> rcases four hl with g | g | g | g <;> subst h <;> subst g <;> simp [rtX, rtY] <;> grind
theorem tn_bk2 {p q k : Int} (h : Tn p q k) : Tn p (-q) (-k % 4) := by
  have := tn_bk h
  have e := bk_1 h
  rw [e]
  exact this
theorem isq_ok {i p : Int} (e : i = p * p) (b : Bd 100 (p * p)) : 0 ≤ i ∧ i.natAbs < 2 ^ 3000 := by
  subst e
  exact ⟨sq_nn p, b.up (by decide)⟩
theorem gcd_pos' (x : Int) {c : Int} (h : 0 < c) : 0 < ((Nat.gcd x.natAbs c.natAbs : Nat) : Int) := by
  have : 0 < Nat.gcd x.natAbs c.natAbs := Nat.gcd_pos_of_pos_right _ (by omega)
  omega
theorem sq_bd {p : Int} (h : Bd 50 p) : Bd 100 (p * p) := h.mul h
theorem gcd_bd (x : Int) {c : Int} {n : Nat} (hc : 0 < c) (h : Bd n c) : Bd n ((Nat.gcd x.natAbs c.natAbs : Nat) : Int) := by
  refine Bd.of_le (by omega) ?_ h
  have := Nat.gcd_le_right (n := c.natAbs) x.natAbs (by omega)
  omega

end Tp
namespace Tp
open PySem PySem.Spec PyProof.Rows L2 DL
/-! ### misses -/
def con_lowest : Con := fun ds S Q => ∃ n d : Int, ds = [.int n, .int d] ∧ 0 < d ∧ (Bd 1500 n ∧ Bd 700 d) ∧ Q (rat n d) S
def absI (v : Int) : Int := if v < 0 then -v else v
theorem int_at {os : List Int} {k : Nat} {d : D} (h : (os.map D.int)[k]? = some d) : ∃ v, os[k]? = some v ∧ d = .int v := by
  rw [List.getElem?_map] at h
  cases e : os[k]? with
  | none => rw [e] at h; cases h
  | some v =>
    rw [e] at h
    exact ⟨v, rfl, (Option.some.inj h).symm⟩
theorem take_step {α β : Type} (f : α → β) {os : List α} {k : Nat} {v : α} (h : os[k]? = some v) : (os.map f).take (k + 1) = (os.map f).take k ++ [f v] := by
  rw [List.take_add_one, List.getElem?_map, h] <;> rfl
end Tp
namespace Tp
open PySem PySem.Spec PyProof.Rows L2 DL
/-! ### how many turns keep all -/
end Tp
namespace Tp
open PySem PySem.Spec PyProof.Rows L2 DL
/-! ### pixels with one image; bare pixels -/
/-- a rest of a pixel that comes back -/
def isC (p q m n : Int) : Prop := (-(cc p q) < 2 * (p * m + q * n) ∧ 2 * (p * m + q * n) < cc p q) ∧ -(cc p q) < 2 * (p * n - q * m) ∧ 2 * (p * n - q * m) < cc p q
/-! ### turns that keep all -/
/-! ### a bare pixel of each turn that does not keep all -/
/-! ### where some are bare, some meet -/
end Tp
namespace Tp
open PySem PySem.Spec PyProof.Rows L2 DL
/-! ### where a pixel comes from -/
theorem lg_back {p q k : Int} (h : Tn p q k) (x y : Int) : exX p (-q) (-k % 4) x y = lgA p q k * x + lgB p q k * y ∧ exY p (-q) (-k % 4) x y = lgA p q k * y - lgB p q k * x := by
  have hk : 0 ≤ k ∧ k < 4 := ⟨h.k1, by have := h.k2; omega⟩
  obtain ⟨a1, a2⟩ := ex_raw p (-q) (-k % 4) x y
  rw [a1, a2]
  unfold lgA lgB
  rcases four hk with g | g | g | g <;> subst g
  · show rtX 0 _ _ = _ ∧ rtY 0 _ _ = _
    simp only [rtX, rtY]
    constructor <;> grind
  · show rtX 3 _ _ = rtX 1 _ _ * _ + rtY 1 _ _ * _ ∧ rtY 3 _ _ = rtX 1 _ _ * _ - rtY 1 _ _ * _
    simp only [rtX, rtY]
    constructor <;> grind
  · show rtX 2 _ _ = rtX 2 _ _ * _ + rtY 2 _ _ * _ ∧ rtY 2 _ _ = rtX 2 _ _ * _ - rtY 2 _ _ * _
    simp only [rtX, rtY]
    constructor <;> grind
  · show rtX 1 _ _ = rtX 3 _ _ * _ + rtY 3 _ _ * _ ∧ rtY 1 _ _ = rtX 3 _ _ * _ - rtY 3 _ _ * _
    simp only [rtX, rtY]
    constructor <;> grind
theorem pr_at {os : List (Int × Int)} {k : Nat} {d : D} (h : (os.map pr2)[k]? = some d) : ∃ t, os[k]? = some t ∧ d = .tup [.int t.1, .int t.2] := by
  rw [List.getElem?_map] at h
  cases e : os[k]? with
  | none => rw [e] at h; cases h
  | some t => rw [e] at h; exact ⟨t, rfl, (Option.some.inj h).symm⟩
theorem flt_step {α β : Type} (P : α → Bool) (g : α → β) {os : List α} {k : Nat} {v : α} (h : os[k]? = some v) : ((os.take (k + 1)).filter P).map g = ((os.take k).filter P).map g ++ (if P v = true then [g v] else []) := by
  obtain ⟨hk, e⟩ := List.getElem?_eq_some_iff.mp h
  rw [List.take_succ, h, List.filter_append, List.map_append]
  congr 1
  show List.map g (List.filter P [v]) = _
  by_cases z : P v = true
  · rw [List.filter_cons_of_pos z, if_pos z] <;> rfl
  · rw [List.filter_cons_of_neg z, if_neg z] <;> rfl
end Tp
namespace Tp
open PySem PySem.Spec PyProof.Rows L2 DL
/-! ### the gaps between the exact places -/
/-- the four ways a point lies out of the gap -/
def Hit (a b c D E : Int) : Prop := ∃ m n : Int, (m = 1 ∨ m = -1) ∧ (n = 1 ∨ n = -1) ∧ (-c < D - (a * m - b * n) ∧ D - (a * m - b * n) < c) ∧ -c < E - (b * m + a * n) ∧ E - (b * m + a * n) < c
theorem Hit.turn {a b c D E : Int} (h : Hit b (-a) c D E) : Hit a b c D E := by
  obtain ⟨m, n, hm, hn, h1, h2⟩ := h
  refine ⟨n, -m, hn, by omega, ?_⟩
  have e1 : D - (a * n - b * -m) = D - (b * m - -a * n) := by grind
  have e2 : E - (b * n + a * -m) = E - (-a * m + b * n) := by grind
  rw [e1, e2]; omega
/-! ### the law's own lists of pixels around a place -/
/-! ### pixels that meet a pixel, of those around -/
theorem eqB_nil (l : List D) : eqB (.lst l) (.lst []) = l.isEmpty := by cases l <;> rfl
theorem eq_nil {l : List D} {S : Sto} {Q : Bool → Sto → Prop} (h : flatOkL 8 l = true) (q : Q l.isEmpty S) : eqP (.lst l) (.lst []) S Q := ⟨⟨by simpa [flatOk] using h, rfl⟩, by rw [eqB_nil]; exact q⟩
theorem flat_pr2 : ∀ l : List (Int × Int), flatOkL 8 (l.map pr2) = true
  | [] => rfl
  | t :: l => by
    show (flatOk 8 (pr2 t) && flatOkL 8 (l.map pr2)) = true
    rw [flat_pr2 l] <;> rfl
end Tp
namespace Tp
open PySem PySem.Spec PyProof.Rows L2 DL
/-! ### sources, with lists that may be changed -/
end Tp
namespace Tp
open PySem PySem.Spec PyProof.Rows L2 DL
/-! ### sums over rows of pixels -/
def sumN : Nat → (Nat → Int) → Int
  | 0, _ => 0
  | n + 1, f => sumN n f + f n
end Tp
namespace Tp
open PySem PySem.Spec PyProof.Rows L2 DL
/-! ### bare pixels in a row -/
def keepsP (p q : Int) : Prop := p = (if q < 0 then -q else q) + 1
instance (p q : Int) : Decidable (keepsP p q) := by unfold keepsP; infer_instance
end Tp
namespace Tp
open PySem PySem.Spec PyProof.Rows L2 DL
/-! ### sums of floors -/
def fs (n : Nat) (d s b : Int) : Int := sumN n fun k => (s * (k : Int) + b) / d
structure FsI (T t n d s b : Int) : Prop where
  e : t + fs n.toNat d s b = T
  n0 : 0 ≤ n
  d0 : 0 < d
  bt : Bd 320 t
  bn : Bd 102 n
  bd : Bd 102 d
  bs : Bd 102 s
  bb : Bd 204 b
theorem FsI.pos {T t n d s b : Int} (h : FsI T t n d s b) (g : ¬ s % d * n + b % d < d) : 0 < s % d := by
  have d0 := h.d0
  have n0 := Int.emod_nonneg s (show d ≠ 0 by omega)
  have n1 := Int.emod_lt_of_pos b d0
  rcases Int.lt_or_eq_of_le n0 with z | z
  · exact z
  · rw [← z, Int.zero_mul] at g; omega
end Tp
namespace Tp
open PySem PySem.Spec PyProof.Rows L2 DL
/-! ### rests of a row -/
instance (p q m n : Int) : Decidable (isR p q m n) := by unfold isR; infer_instance
instance (p q m n : Int) : Decidable (isC p q m n) := by unfold isC; infer_instance
end Tp
namespace Tp
open PySem PySem.Spec PyProof.Rows L2 DL
/-! ### counting rests -/
def octP (p Q h m n : Int) : Prop := p * absI m + Q * absI n ≤ h ∧ Q * absI m + p * absI n ≤ h
instance (p Q h m n : Int) : Decidable (octP p Q h m n) := by unfold octP; infer_instance
end Tp
namespace Tp
open PySem PySem.Spec PyProof.Rows L2 DL
end Tp
namespace Tp
open PySem PySem.Spec PyProof.Rows L2 DL
/-! ### pairs of a row -/
def isH (c v : Int) : Prop := -c < 2 * v ∧ 2 * v < c
instance (c v : Int) : Decidable (isH c v) := by unfold isH; infer_instance
/-- the condition that a pixel and the one beside it have one image -/
def meetO (p q dx dy X Y : Int) : Prop := isH (cc p q) (X + ((p * p - q * q) * dx - 2 * p * q * dy)) ∧ isH (cc p q) (Y + ((p * p - q * q) * dy + 2 * p * q * dx))
instance (p q dx dy X Y : Int) : Decidable (meetO p q dx dy X Y) := by unfold meetO; infer_instance
end Tp
namespace Tp
open PySem PySem.Spec PyProof.Rows L2 DL
/-! ### places of a row and what comes to them -/
end Tp
namespace Tp
open PySem PySem.Spec PyProof.Rows L2 DL
/-! ### k13 -/
end Tp
namespace Tp
open PySem PySem.Spec PyProof.Rows L2 DL
/-! ### kinds of pixels -/
def metR (p q : Int) (t : Int × Int) : Prop := meetO p q 1 0 (p * t.1 - q * t.2) (p * t.2 + q * t.1) ∨ meetO p q (-1) 0 (p * t.1 - q * t.2) (p * t.2 + q * t.1) ∨ meetO p q 0 1 (p * t.1 - q * t.2) (p * t.2 + q * t.1) ∨ meetO p q 0 (-1) (p * t.1 - q * t.2) (p * t.2 + q * t.1)
instance (p q : Int) (t : Int × Int) : Decidable (metR p q t) := by unfold metR; infer_instance
end Tp
namespace Tp
open PySem PySem.Spec PyProof.Rows L2 DL
/-! ### mirrored and turned by a quarter -/
end Tp
namespace Tp
open PySem PySem.Spec PyProof.Rows L2 DL
/-! ### all rests, row by row -/
end Tp
namespace Tp
open PySem PySem.Spec PyProof.Rows L2 DL
end Tp
namespace Tp
open PySem PySem.Spec PyProof.Rows L2 DL
/-! ### a row as a whole -/
end Tp
namespace Tp
open PySem PySem.Spec PyProof.Rows L2 DL
/-! ### k10 -/
end Tp
namespace Tp
open PySem PySem.Spec PyProof.Rows L2 DL
/-! ### greatest misses -/
/-- the ends of a row, as the law takes them -/
def lawLo (p q m : Int) : Int × Int := (0 - ((p * p + q * q) / 2 + q * m) / p, if 0 < q then 0 - ((p * p + q * q) / 2 - p * m) / q else 0 - p)
def lawHi (p q m : Int) : Int × Int := (((p * p + q * q) / 2 - q * m) / p, if 0 < q then ((p * p + q * q) / 2 + p * m) / q else p)
end Tp
namespace Tp
open PySem PySem.Spec PyProof.Rows L2 DL
/-! ### greatest misses: the program's list, the law's rows -/
/-- the law's rows -/
def loI (p q m : Int) : Int := max (lawLo p q m).1 (lawLo p q m).2
def hiI (p q m : Int) : Int := min (lawHi p q m).1 (lawHi p q m).2
def rowC (p q m : Int) : Prop := loI p q m ≤ hiI p q m ∧ (0 < q ∨ absI (p * m) ≤ (p * p + q * q) / 2)
instance (p q m : Int) : Decidable (rowC p q m) := by unfold rowC; infer_instance
end Tp
namespace Tp
open PySem PySem.Spec PyProof.Rows L2 DL
/-! ### misses by rests -/
theorem gcd_lot {a c : Int} (hc : 0 < c) : ∃ g : Int, 1 ≤ g ∧ a = g * (a / ((Nat.gcd a.natAbs c.natAbs : Nat) : Int)) ∧ c = g * (c / ((Nat.gcd a.natAbs c.natAbs : Nat) : Int)) := by
  refine ⟨((Nat.gcd a.natAbs c.natAbs : Nat) : Int), ?_, ?_, ?_⟩
  · have := Nat.gcd_pos_of_pos_right a.natAbs (show 0 < c.natAbs by omega)
    omega
  · exact (Int.mul_ediv_cancel' (Int.ofNat_dvd_left.mpr (Nat.gcd_dvd_left _ _))).symm
  · exact (Int.mul_ediv_cancel' (Int.ofNat_dvd_left.mpr (Nat.gcd_dvd_right _ _))).symm
end Tp
namespace Tp
open PySem PySem.Spec PyProof.Rows L2 DL
/-! ### a loss told; numbers of no loss -/
end Tp
namespace Tp
open PySem PySem.Spec PyProof.Rows L2 DL
/-! ### turns whose p may be a little too great -/
structure Tw (p q k : Int) : Prop where
  p1 : 1 ≤ p
  p2 : p ≤ 1100000000000000
  q1 : -p < q
  q2 : q < p
  g : Nat.gcd p.natAbs q.natAbs = 1
  o : (p + q) % 2 = 1
  k1 : 0 ≤ k
  k2 : k ≤ 3
theorem Tw.bp {p q k : Int} (h : Tw p q k) : Bd 50 p := by
  have := h.p1
  have := h.p2
  unfold Bd
  omega
theorem Tw.bq {p q k : Int} (h : Tw p q k) : Bd 50 q := by
  have := h.p1
  have := h.p2
  have := h.q1
  have := h.q2
  unfold Bd
  omega
theorem Tw.zero {p q k : Int} (h : Tw p q k) : Tw p q 0 := ⟨h.p1, h.p2, h.q1, h.q2, h.g, h.o, by decide, by decide⟩
theorem Tn.w {p q k : Int} (h : Tn p q k) : Tw p q k := ⟨h.p1, by have := h.p2; omega, h.q1, h.q2, h.g, h.o, h.k1, h.k2⟩
theorem Tw.n {p q k : Int} (h : Tw p q k) (hp : p ≤ 1000000000000000) : Tn p q k := ⟨h.p1, hp, h.q1, h.q2, h.g, h.o, h.k1, h.k2⟩
end Tp
namespace Tp
open PySem PySem.Spec PyProof.Rows L2 DL
/-! ### joined turns -/
structure Tv (p q k : Int) : Prop where
  p1 : 1 ≤ p
  p2 : p ≤ 2535301200456458802993406410752
  q1 : -p < q
  q2 : q < p
  g : Nat.gcd p.natAbs q.natAbs = 1
  o : (p + q) % 2 = 1
  k1 : 0 ≤ k
  k2 : k ≤ 3
theorem Tv.bp {p q k : Int} (h : Tv p q k) : Bd 102 p := by
  have := h.p1
  have := h.p2
  unfold Bd
  omega
theorem Tv.bq {p q k : Int} (h : Tv p q k) : Bd 102 q := by
  have := h.p1
  have := h.p2
  have := h.q1
  have := h.q2
  unfold Bd
  omega
theorem Tv.zero {p q k : Int} (h : Tv p q k) : Tv p q 0 := ⟨h.p1, h.p2, h.q1, h.q2, h.g, h.o, by decide, by decide⟩
theorem isq_okV {i p : Int} (e : i = p * p) (b : Bd 210 (p * p)) : 0 ≤ i ∧ i.natAbs < 2 ^ 3000 := by
  rw [e]
  exact ⟨sq_nn p, Nat.lt_trans b (Nat.pow_lt_pow_right (by decide) (by decide))⟩
end Tp
namespace Tp
open PySem PySem.Spec PyProof.Rows L2 DL
/-! ### chains -/
abbrev Stp := Bool × Int × Int
def ax (b : Bool) : Str := if b then "x" else "y"
def stD (t : Stp) : D := .tup [.str (ax t.1), .int t.2.1, .int t.2.2]
def OkS (t : Stp) : Prop := 1 ≤ t.2.2 ∧ Bd 150 t.2.1 ∧ Bd 150 t.2.2
def OkC (l : List Stp) : Prop := (∀ t ∈ l, OkS t) ∧ l.length ≤ 8
def led1 (t : Stp) (v : Int × Int) : Int × Int := if t.1 then (v.1 + nrr (t.2.1 * v.2) t.2.2, v.2) else (v.1, v.2 + nrr (t.2.1 * v.1) t.2.2)
def unl1 (t : Stp) (v : Int × Int) : Int × Int := if t.1 then (v.1 - nrr (t.2.1 * v.2) t.2.2, v.2) else (v.1, v.2 - nrr (t.2.1 * v.1) t.2.2)
def ledN (l : List Stp) (v : Int × Int) : Int × Int := l.foldl (fun v t => led1 t v) v
def unlN (l : List Stp) (v : Int × Int) : Int × Int := l.reverse.foldl (fun v t => unl1 t v) v
def BdP (n : Nat) (v : Int × Int) : Prop := Bd n v.1 ∧ Bd n v.2
theorem ledN_app (l m : List Stp) (v : Int × Int) : ledN (l ++ m) v = ledN m (ledN l v) := List.foldl_append
theorem ledN_cons (t : Stp) (l : List Stp) (v : Int × Int) : ledN (t :: l) v = ledN l (led1 t v) := rfl
theorem ledN_take {l : List Stp} {i : Nat} {t : Stp} (h : l[i]? = some t) (v : Int × Int) : ledN (l.take (i + 1)) v = led1 t (ledN (l.take i) v) := by
  rw [List.take_add_one, h, ledN_app]
  rfl
def unlT (l : List Stp) (i : Nat) (v : Int × Int) : Int × Int := (l.reverse.take i).foldl (fun v t => unl1 t v) v
theorem unlT_succ {l : List Stp} {i : Nat} {t : Stp} (h : l.reverse[i]? = some t) (v : Int × Int) : unlT l (i + 1) v = unl1 t (unlT l i v) := by
  unfold unlT
  rw [List.take_add_one, h, List.foldl_append]
  rfl
theorem unlT_all (l : List Stp) (v : Int × Int) {n : Nat} (h : n = l.length) : unlT l n v = unlN l v := by
  subst h
  unfold unlT unlN
  rw [List.take_of_length_le (by rw [List.length_reverse]; exact Nat.le_refl _)]
theorem led1_bd {t : Stp} {v : Int × Int} {n : Nat} (h : OkS t) (hn : 10 ≤ n) (b : BdP n v) : BdP (n + 155) (led1 t v) ∧ BdP (n + 155) (unl1 t v) := by
  obtain ⟨c, m, d⟩ := t
  obtain ⟨x, y⟩ := v
  obtain ⟨h1, h2, h3⟩ := h
  obtain ⟨bx, by'⟩ := b
  have bx : Bd n x := bx
  have by' : Bd n y := by'
  have h2 : Bd 150 m := h2
  have h3 : Bd 150 d := h3
  have n1 : Bd (n + 153) (nrr (m * x) d) := (Bd.nrr (h2.mul bx) h3).up (by omega)
  have n2 : Bd (n + 153) (nrr (m * y) d) := (Bd.nrr (h2.mul by') h3).up (by omega)
  cases c
  · exact ⟨⟨bx.up (by omega), (by'.add n1).up (by omega)⟩, bx.up (by omega), (by'.sub n1).up (by omega)⟩
  · exact ⟨⟨(bx.add n2).up (by omega), by'.up (by omega)⟩, (bx.sub n2).up (by omega), by'.up (by omega)⟩
theorem BdP.up {n m : Nat} {v : Int × Int} (h : BdP n v) (k : n ≤ m) : BdP m v := ⟨h.1.up k, h.2.up k⟩
theorem ledN_bd {n : Nat} (hn : 10 ≤ n) : ∀ {l : List Stp} {v : Int × Int}, (∀ t ∈ l, OkS t) → BdP n v → BdP (n + 155 * l.length) (ledN l v)
  | [], v, _, b => b
  | t :: l, v, h, b => by
    have b1 := (led1_bd (h t List.mem_cons_self) hn b).1
    have := ledN_bd (n := n + 155) (by omega) (l := l) (fun s hs => h s (List.mem_cons_of_mem _ hs)) b1
    exact this.up (by rw [List.length_cons]; omega)
theorem unlT_bd {n : Nat} (hn : 10 ≤ n) {l : List Stp} {v : Int × Int} (h : ∀ t ∈ l, OkS t) (b : BdP n v) : ∀ i : Nat, i ≤ l.length → BdP (n + 155 * i) (unlT l i v)
  | 0, _ => b
  | i + 1, hi => by
    have hr : i < l.reverse.length := by rw [List.length_reverse]; omega
    have e := List.getElem?_eq_getElem hr
    rw [unlT_succ e]
    exact (led1_bd (h _ (List.mem_reverse.mp (List.getElem_mem hr))) (by omega) (unlT_bd hn h b i (by omega))).2.up (by omega)
theorem take_bd {n : Nat} (hn : 10 ≤ n) {l : List Stp} {v : Int × Int} (h : OkC l) (b : BdP n v) (i : Nat) : BdP (n + 1240) (ledN (l.take i) v) := by
  have := ledN_bd hn (l := l.take i) (fun t ht => h.1 t (List.mem_of_mem_take ht)) b
  have h8 := h.2
  exact this.up (by rw [List.length_take]; omega)
theorem st_at {os : List Stp} {k : Nat} {d : D} (h : (os.map stD)[k]? = some d) : ∃ t, os[k]? = some t ∧ d = .tup [.str (ax t.1), .int t.2.1, .int t.2.2] := by
  rw [List.getElem?_map] at h
  cases e : os[k]? with
  | none => rw [e] at h; cases h
  | some t => rw [e] at h; exact ⟨t, rfl, (Option.some.inj h).symm⟩
theorem ax_x (b : Bool) : decide (ax b = "x") = b := by cases b <;> decide
theorem ax_in (b : Bool) : ([D.str "x", D.str "y"].any fun z => eqB z (.str (ax b))) = true := by cases b <;> decide +kernel
theorem ax_flat (b : Bool) : flatOk 9 (.str (ax b)) = true := by cases b <;> decide +kernel
theorem eq_ax {b : Bool} {S : Sto} {Q : Bool → Sto → Prop} (q : Q b S) : eqP (.str (ax b)) (.str "x") S Q := by
  refine eq_str ?_
  rw [ax_x]
  exact q
theorem in_ax {b : Bool} {S : Sto} {Q : Bool → Sto → Prop} (q : Q true S) : inP (.str (ax b)) (.tup [.str "x", .str "y"]) S Q := ⟨⟨ax_flat b, by decide +kernel⟩, by rw [ax_in]; exact q⟩
def con_isstep : Con := fun ds S Q => ∃ (b : Bool) (n d : Int), ds = [.tup [.str (ax b), .int n, .int d]] ∧ 1 ≤ d ∧ Q (.bl true) S
def con_chkc : Con := fun ds S Q => ∃ l : List Stp, ds = [.lst (l.map stD)] ∧ OkC l ∧ Q .non S
def con_led : Con := fun ds S Q => ∃ (l : List Stp) (x y : Int), ds = [.lst (l.map stD), .tup [.int x, .int y]] ∧ OkC l ∧ (Bd 1400 x ∧ Bd 1400 y) ∧ Q (.tup [.int (ledN l (x, y)).1, .int (ledN l (x, y)).2]) S
def con_before : Con := fun ds S Q => ∃ (l : List Stp) (x y : Int), ds = [.lst (l.map stD), .tup [.int x, .int y]] ∧ OkC l ∧ (Bd 1400 x ∧ Bd 1400 y) ∧ Q (.tup [.int (unlN l (x, y)).1, .int (unlN l (x, y)).2]) S
/-! the chains that are drawn -/
def OkT (t : Stp) : Prop := 1 ≤ t.2.2 ∧ Bd 145 t.2.1 ∧ Bd 145 t.2.2
theorem OkT.s {t : Stp} (h : OkT t) : OkS t := ⟨h.1, h.2.1.up (by decide), h.2.2.up (by decide)⟩
/-! steps in lowest terms -/
def red (t : Stp) : Stp := (t.1, t.2.1 / ((Nat.gcd t.2.1.natAbs t.2.2.natAbs : Nat) : Int), t.2.2 / ((Nat.gcd t.2.1.natAbs t.2.2.natAbs : Nat) : Int))
def nz (t : Stp) : Bool := decide (t.2.1 ≠ 0)
def plainC (l : List Stp) : List Stp := (l.filter nz).map red
theorem nrr_mul {g n d : Int} (hg : 1 ≤ g) : nrr (g * n) (g * d) = nrr n d := by
  unfold nrr
  have e1 : 2 * (g * n) + g * d = g * (2 * n + d) := by grind
  have e2 : 2 * (g * d) = g * (2 * d) := by grind
  rw [e1, e2, Int.mul_ediv_mul_of_pos _ _ (by omega)]
theorem red_led {t : Stp} (h : 1 ≤ t.2.2) (v : Int × Int) : led1 (red t) v = led1 t v := by
  obtain ⟨b, n, d⟩ := t
  obtain ⟨x, y⟩ := v
  have h : 0 < d := h
  obtain ⟨g, g1, e1, e2⟩ := gcd_lot (a := n) h
  have k : ∀ z : Int, nrr (n / ((Nat.gcd n.natAbs d.natAbs : Nat) : Int) * z) (d / ((Nat.gcd n.natAbs d.natAbs : Nat) : Int)) = nrr (n * z) d := fun z => by
    obtain ⟨n', hn⟩ : ∃ n', n' = n / ((Nat.gcd n.natAbs d.natAbs : Nat) : Int) := ⟨_, rfl⟩
    obtain ⟨d', hd⟩ : ∃ d', d' = d / ((Nat.gcd n.natAbs d.natAbs : Nat) : Int) := ⟨_, rfl⟩
    rw [← hn] at e1
    rw [← hd] at e2
    rw [← hn, ← hd]
    have : n * z = g * (n' * z) := by rw [e1]; grind
    rw [this]
    conv => rhs; rw [e2]
    exact (nrr_mul g1).symm
  unfold led1 red
  cases b
  · show (x, y + nrr _ _) = (x, y + nrr (n * x) d)
    rw [k x]
  · show (x + nrr _ _, y) = (x + nrr (n * y) d, y)
    rw [k y]
theorem nrr_0 {d : Int} (h : 1 ≤ d) : nrr 0 d = 0 := by
  unfold nrr
  rw [Int.mul_zero, Int.zero_add]
  exact Int.ediv_eq_zero_of_lt (by omega) (by omega)
theorem zero_led {t : Stp} (h : 1 ≤ t.2.2) (z : t.2.1 = 0) (v : Int × Int) : led1 t v = v := by
  obtain ⟨b, n, d⟩ := t
  obtain ⟨x, y⟩ := v
  have z : n = 0 := z
  subst z
  unfold led1
  cases b
  · show (x, y + nrr (0 * x) d) = (x, y)
    rw [Int.zero_mul, nrr_0 h, Int.add_zero]
  · show (x + nrr (0 * y) d, y) = (x, y)
    rw [Int.zero_mul, nrr_0 h, Int.add_zero]
theorem plain_led : ∀ {l : List Stp}, (∀ t ∈ l, OkS t) → ∀ v, ledN (plainC l) v = ledN l v
  | [], _, v => rfl
  | t :: l, h, v => by
    have ht := (h t List.mem_cons_self).1
    have ih := plain_led (l := l) fun s hs => h s (List.mem_cons_of_mem _ hs)
    by_cases z : t.2.1 = 0
    · have e : plainC (t :: l) = plainC l := by
        unfold plainC
        rw [List.filter_cons, if_neg (by unfold nz; simp [z])]
      rw [e, ih, ledN_cons, zero_led ht z]
    · have e : plainC (t :: l) = red t :: plainC l := by
        unfold plainC
        rw [List.filter_cons, if_pos (by unfold nz; simp [z])]
        rfl
      rw [e, ledN_cons, ih, red_led ht, ledN_cons]
theorem red_ok {t : Stp} (h : OkS t) : OkS (red t) := by
  obtain ⟨b, n, d⟩ := t
  obtain ⟨h1, h2, h3⟩ := h
  have h1 : 1 ≤ d := h1
  obtain ⟨g, g1, e1, e2⟩ := gcd_lot (a := n) (show 0 < d by omega)
  refine ⟨?_, h2.div, h3.div⟩
  show 1 ≤ d / ((Nat.gcd n.natAbs d.natAbs : Nat) : Int)
  rcases Int.lt_or_le 0 (d / ((Nat.gcd n.natAbs d.natAbs : Nat) : Int)) with z | z
  · omega
  · have := Int.mul_le_mul_of_nonneg_left z (show 0 ≤ g by omega)
    rw [Int.mul_zero] at this
    omega
theorem plain_ok {l : List Stp} (h : OkC l) : OkC (plainC l) := by
  constructor
  · intro t ht
    obtain ⟨s, hs, rfl⟩ := List.mem_map.mp ht
    exact red_ok (h.1 s (List.mem_filter.mp hs).1)
  · unfold plainC
    rw [List.length_map]
    exact Nat.le_trans (List.length_filter_le _ _) h.2
theorem ax_inj {a b : Bool} (h : (ax a == ax b) = true) : a = b := by
  cases a <;> cases b <;> first | rfl | (exact absurd h (by decide))
theorem eq_chain : ∀ {l m : List Stp}, PyData.eqvAll (toPyL (l.map stD)) (toPyL (m.map stD)) = true → l = m
  | [], [], _ => rfl
  | [], _ :: _, h => by cases h
  | _ :: _, [], h => by cases h
  | s :: l, t :: m, h => by
    have h : (PyData.eqv (toPy (stD s)) (toPy (stD t)) && PyData.eqvAll (toPyL (l.map stD)) (toPyL (m.map stD))) = true := h
    rw [Bool.and_eq_true] at h
    obtain ⟨h1, h2⟩ := h
    have e2 := eq_chain h2
    have h1 : ((ax s.1 == ax t.1) && ((s.2.1 == t.2.1) && ((s.2.2 == t.2.2) && true))) = true := h1
    rw [Bool.and_eq_true, Bool.and_eq_true, Bool.and_eq_true] at h1
    obtain ⟨a, b, c, _⟩ := h1
    have a := ax_inj a
    have b : s.2.1 = t.2.1 := by simpa using b
    have c : s.2.2 = t.2.2 := by simpa using c
    obtain ⟨s1, s2, s3⟩ := s
    obtain ⟨t1, t2, t3⟩ := t
    have a : s1 = t1 := a
    have b : s2 = t2 := b
    have c : s3 = t3 := c
    rw [a, b, c, e2]
theorem flat_st (n : Nat) : ∀ l : List Stp, flatOkL (n + 1) (l.map stD) = true
  | [] => rfl
  | t :: l => by
    show (flatOk (n + 1) (stD t) && flatOkL (n + 1) (l.map stD)) = true
    rw [flat_st n l, Bool.and_true]
    show (PyData.strOk (ax t.1) && true) = true
    rw [Bool.and_true]
    cases t.1 <;> decide +kernel
theorem eq_chainP {l m : List Stp} {S : Sto} {Q : Bool → Sto → Prop} (q : ∀ v : Bool, (v = true → l = m) → Q v S) : eqP (.lst (l.map stD)) (.lst (m.map stD)) S Q := by
  refine eq_lst ?_ ⟨flat9l (flat_st 7 _), flat9l (flat_st 7 _)⟩
  exact q _ fun h => eq_chain h
theorem enuD_at {l : List D} {i : Nat} {d : D} (h : (enuD l)[i]? = some d) : ∃ x, l[i]? = some x ∧ d = .tup [.int (i : Int), x] := enuD_get h
theorem bt_list : bootBuiltins "list" = some (.type "list") := by rfl
theorem k_ll : kitB "list" "list" = some true := by decide +kernel
theorem sl_t31 {a b c : D} {S : Sto} {Q : D → Sto → Prop} (q : Q (.tup [b, c]) S) : slP (.tup [a, b, c]) (some 1) none S Q := ⟨by show ¬ ((1 : Nat) = 0 ∧ _); omega, q⟩
end Tp
namespace Tp
open PySem PySem.Spec PyProof.Rows L2 DL
/-! ### where chains part -/
theorem cut_from {l : List D} {n : Int} (h : 0 ≤ n) (h2 : n ≤ l.length) : DL.cutD l (some n) none = l.drop n.toNat := by
  unfold DL.cutD HT.sIx
  have e1 : ¬ n < 0 := by omega
  simp only [e1, if_false]
  rw [show min n.toNat l.length = n.toNat by omega]
  exact List.take_of_length_le (by rw [List.length_drop]; omega)
def FT (G : Nat → Nat → Bool) (n i j : Nat) : Option (Nat × Nat) → Prop
  | none => ∀ a b, b < n → (a < i ∨ (a = i ∧ b < j)) → G a b = false
  | some (a0, b0) => (a0 < i ∨ (a0 = i ∧ b0 < j)) ∧ b0 < n ∧ G a0 b0 = true ∧ ∀ a b, b < n → (a < a0 ∨ (a = a0 ∧ b < b0)) → G a b = false
def findG (G : Nat → Nat → Bool) (n : Nat) : Option (Nat × Nat) := (List.range n).findSome? fun i => ((List.range n).find? fun j => G i j).map fun j => (i, j)
theorem ft_find (G : Nat → Nat → Bool) (n : Nat) : FT G n n 0 (findG G n) := by
  have inner : ∀ i, (∀ j, (List.range n).find? (fun j => G i j) = some j → j < n ∧ G i j = true ∧ ∀ b, b < j → G i b = false) ∧ ((List.range n).find? (fun j => G i j) = none → ∀ b, b < n → G i b = false) := fun i => by
    constructor
    · intro j hj
      rw [List.find?_range_eq_some] at hj
      obtain ⟨h1, h2, h3⟩ := hj
      exact ⟨List.mem_range.mp h2, h1, fun b hb => by have := h3 b hb; simpa using this⟩
    · intro hn b hb
      rw [List.find?_eq_none] at hn
      have := hn b (List.mem_range.mpr hb)
      simpa using this
  have outer : ∀ m, m ≤ n → FT G n m 0 ((List.range m).findSome? fun i => ((List.range n).find? fun j => G i j).map fun j => (i, j)) := by
    intro m
    induction m with
    | zero => intro _ a b _ h; rcases h with h | ⟨_, h⟩ <;> omega
    | succ m ih =>
      intro hm
      have ih := ih (by omega)
      rw [List.range_succ, List.findSome?_append]
      generalize (List.range m).findSome? (fun i => ((List.range n).find? fun j => G i j).map fun j => (i, j)) = o at ih
      cases o with
      | some c =>
        obtain ⟨a0, b0⟩ := c
        obtain ⟨h1, h2, h3, h4⟩ := ih
        exact ⟨by rcases h1 with h1 | ⟨_, h1⟩ <;> omega, h2, h3, h4⟩
      | none =>
        have key := inner m
        cases e : (List.range n).find? (fun j => G m j) with
        | none =>
          rw [Option.none_or, List.findSome?_singleton, e]
          intro a b hb h
          by_cases c : a = m
          · subst c
            exact key.2 e b hb
          · exact ih a b hb (.inl (by rcases h with h | ⟨_, h⟩ <;> omega))
        | some j =>
          rw [Option.none_or, List.findSome?_singleton, e]
          obtain ⟨k1, k2, k3⟩ := key.1 j e
          refine ⟨.inl (by omega), k1, k2, fun a b hb h => ?_⟩
          rcases h with h | ⟨h, h'⟩
          · exact ih a b hb (.inl h)
          · rw [h]; exact k3 b h'
  exact outer n (Nat.le_refl n)
theorem ft_uniq {G : Nat → Nat → Bool} {n i j : Nat} {o o' : Option (Nat × Nat)} (h : FT G n i j o) (h' : FT G n i j o') : o = o' := by
  cases o with
  | none =>
    cases o' with
    | none => rfl
    | some c =>
      obtain ⟨a0, b0⟩ := c
      obtain ⟨h1, h2, h3, h4⟩ := h'
      have := h a0 b0 h2 h1
      rw [this] at h3
      cases h3
  | some c =>
    obtain ⟨a0, b0⟩ := c
    obtain ⟨h1, h2, h3, h4⟩ := h
    cases o' with
    | none =>
      have := h' a0 b0 h2 h1
      rw [this] at h3
      cases h3
    | some c =>
      obtain ⟨a1, b1⟩ := c
      obtain ⟨k1, k2, k3, k4⟩ := h'
      have x1 : ¬ (a0 < a1 ∨ (a0 = a1 ∧ b0 < b1)) := fun z => by rw [k4 a0 b0 h2 z] at h3; cases h3
      have x2 : ¬ (a1 < a0 ∨ (a1 = a0 ∧ b1 < b0)) := fun z => by rw [h4 a1 b1 k2 z] at k3; cases k3
      have e1 : a0 = a1 := by omega
      have e2 : b0 = b1 := by omega
      rw [e1, e2]
theorem ft_next {G : Nat → Nat → Bool} {n i j : Nat} {o : Option (Nat × Nat)} (hj : j < n) (h : FT G n i j o) : FT G n i (j + 1) (if o = none ∧ G i j = true then some (i, j) else o) := by
  cases o with
  | none =>
    by_cases g : G i j = true
    · rw [if_pos ⟨rfl, g⟩]
      exact ⟨.inr ⟨rfl, by omega⟩, hj, g, h⟩
    · rw [if_neg (fun z => g z.2)]
      intro a b hb hh
      rcases hh with hh | ⟨hh, hh'⟩
      · exact h a b hb (.inl hh)
      · by_cases c : b = j
        · subst c; subst hh; simpa using g
        · exact h a b hb (.inr ⟨hh, by omega⟩)
  | some c =>
    rw [if_neg (fun z => nomatch z.1)]
    obtain ⟨a0, b0⟩ := c
    obtain ⟨h1, h2, h3, h4⟩ := h
    exact ⟨by rcases h1 with h1 | ⟨h1, h1'⟩ <;> omega, h2, h3, h4⟩
theorem ft_row {G : Nat → Nat → Bool} {n i : Nat} {o : Option (Nat × Nat)} (h : FT G n i n o) : FT G n (i + 1) 0 o := by
  cases o with
  | none =>
    intro a b hb hh
    refine h a b hb ?_
    rcases hh with hh | ⟨_, hh⟩
    · omega
    · omega
  | some c =>
    obtain ⟨a0, b0⟩ := c
    obtain ⟨h1, h2, h3, h4⟩ := h
    exact ⟨.inl (by rcases h1 with h1 | ⟨h1, _⟩ <;> omega), h2, h3, h4⟩
theorem ft_0 {G : Nat → Nat → Bool} {n : Nat} : FT G n 0 0 none := fun a b _ h => by rcases h with h | ⟨_, h⟩ <;> omega
def gN (r : Int) : Nat := (2 * r + 1).toNat
def partG (l m : List Stp) (r : Int) (i j : Nat) : Bool := decide (¬ ((ledN l (-r + (i : Int), -r + (j : Int))).1 = (ledN m (-r + (i : Int), -r + (j : Int))).1 ∧ (ledN l (-r + (i : Int), -r + (j : Int))).2 = (ledN m (-r + (i : Int), -r + (j : Int))).2))
def optP (r : Int) : Option (Nat × Nat) → D
  | none => .non
  | some c => .tup [.int (-r + (c.1 : Int)), .int (-r + (c.2 : Int))]
def partO (l m : List Stp) (r : Int) : Option (Nat × Nat) := findG (partG l m r) (gN r)
theorem part_of {l m : List Stp} {r : Int} {o : Option (Nat × Nat)} (h : FT (partG l m r) (gN r) (gN r) 0 o) : o = partO l m r := ft_uniq h (ft_find _ _)
theorem part_same {l m : List Stp} {r : Int} (h : ∀ v, ledN l v = ledN m v) : partO l m r = none := by
  refine (part_of (o := none) fun a b _ _ => ?_).symm
  unfold partG
  rw [h]
  simp
theorem part_some {l m : List Stp} {r : Int} {i j : Nat} (hi : i < gN r) (hj : j < gN r) (h : FT (partG l m r) (gN r) i j none) (g : partG l m r i j = true) : partO l m r = some (i, j) := by
  refine (part_of ?_).symm
  exact ⟨.inl hi, hj, g, h⟩
theorem partG_iff {l m : List Stp} {r : Int} {i j : Nat} {v : Bool} (hv : v = true ↔ (ledN l (-r + (i : Int), -r + (j : Int))).1 = (ledN m (-r + (i : Int), -r + (j : Int))).1 ∧ (ledN l (-r + (i : Int), -r + (j : Int))).2 = (ledN m (-r + (i : Int), -r + (j : Int))).2) : partG l m r i j = !v := by
  unfold partG
  rw [show (!v) = decide (¬ (v = true)) by cases v <;> rfl, decide_eq_decide, hv]
def con_part : Con := fun ds S Q => ∃ (l m : List Stp) (r : Int), ds = [.lst (l.map stD), .lst (m.map stD), .int r] ∧ OkC l ∧ OkC m ∧ (0 ≤ r ∧ r ≤ 30) ∧ Q (optP r (partO l m r)) S
def con_step : Con := fun ds S Q => ∃ (b : Bool) (n d : Int), ds = [.str (ax b), .int n, .int d] ∧ 0 < d ∧ (Bd 150 n ∧ Bd 150 d) ∧ Q (stD (red (b, n, d))) S
def con_plain : Con := fun ds S Q => ∃ l : List Stp, ds = [.lst (l.map stD)] ∧ OkC l ∧ Q (.lst ((plainC l).map stD)) S
theorem optP_non (r : Int) (o : Option (Nat × Nat)) : nonB (optP r o) = some (decide (o = none)) := by cases o <;> rfl
instance (t : Stp) : Decidable (OkS t) := by unfold OkS Bd; infer_instance
end Tp
namespace Tp
open PySem PySem.Spec PyProof.Rows L2 DL
/-! ### how many unlike tuples -/
section
variable {X : Cx}
theorem refs_pr {K : PySem.W.Frag} {H : Hp} : ∀ {ps : List (Int × Int)} {vs : List V}, RpL K H (ps.map fun t => D.tup [.int t.1, .int t.2]) vs → ∃ ks : List (Addr × List Int), vs = ks.map (fun p => V.ref p.1) ∧ (∀ p ∈ ks, SqT K H p.1 (p.2.map V.int)) ∧ ks.map (·.2) = ps.map fun t => [t.1, t.2]
  | [], _, h => ⟨[], h, (fun _ z => nomatch z), rfl⟩
  | t :: ps, _, h => by
    obtain ⟨x, xs, rfl, ⟨a, ys, e1, e2, e3⟩, h3⟩ := h
    obtain ⟨v, w, rfl, rv, rw'⟩ := two_rp e3
    have rv : v = V.int t.1 := rv
    have rw' : w = V.int t.2 := rw'
    subst rv rw' e1
    obtain ⟨ks, k1, k2, k3⟩ := refs_pr h3
    refine ⟨(a, [t.1, t.2]) :: ks, by rw [k1] <;> rfl, fun p hp => ?_, by rw [List.map_cons, List.map_cons, k3]⟩
    rcases List.mem_cons.mp hp with z | z
    · subst z; exact e2
    · exact k2 p z
end
/-! ### chains done and undone -/
end Tp
namespace Tp
open PySem PySem.Spec PyProof.Rows L2 DL
/-! ### matrices of chains -/
abbrev Mt := Int × Int × Int × Int × Int
def mD (m : Mt) : D := .tup [.int m.1, .int m.2.1, .int m.2.2.1, .int m.2.2.2.1, .int m.2.2.2.2]
def ml (m : Mt) : List Int := [m.1, m.2.1, m.2.2.1, m.2.2.2.1, m.2.2.2.2]
def mt1 (t : Stp) (m : Mt) : Mt := if t.1 then (t.2.2 * m.1 + t.2.1 * m.2.2.1, t.2.2 * m.2.1 + t.2.1 * m.2.2.2.1, t.2.2 * m.2.2.1, t.2.2 * m.2.2.2.1, t.2.2 * m.2.2.2.2) else (t.2.2 * m.1, t.2.2 * m.2.1, t.2.2 * m.2.2.1 + t.2.1 * m.1, t.2.2 * m.2.2.2.1 + t.2.1 * m.2.1, t.2.2 * m.2.2.2.2)
def matN (l : List Stp) (m : Mt) : Mt := l.foldl (fun m t => mt1 t m) m
def idM : Mt := (1, 0, 0, 1, 1)
def mulM (m k : Mt) : Mt := (m.1 * k.1 + m.2.1 * k.2.2.1, m.1 * k.2.1 + m.2.1 * k.2.2.2.1, m.2.2.1 * k.1 + m.2.2.2.1 * k.2.2.1, m.2.2.1 * k.2.1 + m.2.2.2.1 * k.2.2.2.1, m.2.2.2.2 * k.2.2.2.2)
def smM (g : Int) (m : Mt) : Mt := (g * m.1, g * m.2.1, g * m.2.2.1, g * m.2.2.2.1, g * m.2.2.2.2)
theorem mt_ext {m k : Mt} (h1 : m.1 = k.1) (h2 : m.2.1 = k.2.1) (h3 : m.2.2.1 = k.2.2.1) (h4 : m.2.2.2.1 = k.2.2.2.1) (h5 : m.2.2.2.2 = k.2.2.2.2) : m = k := by
  obtain ⟨a, b, c, d, e⟩ := m
  obtain ⟨a', b', c', d', e'⟩ := k
  have h1 : a = a' := h1
  have h2 : b = b' := h2
  have h3 : c = c' := h3
  have h4 : d = d' := h4
  have h5 : e = e' := h5
  rw [h1, h2, h3, h4, h5]
theorem mul_assocM (x y z : Mt) : mulM (mulM x y) z = mulM x (mulM y z) := by
  refine mt_ext ?_ ?_ ?_ ?_ ?_ <;> simp only [mulM] <;> grind
theorem mt1_mul (t : Stp) (k : Mt) : mt1 t k = mulM (mt1 t idM) k := by
  obtain ⟨b, n, d⟩ := t
  cases b <;> refine mt_ext ?_ ?_ ?_ ?_ ?_ <;> simp [mt1, mulM, idM, Int.add_comm]
theorem matN_cons (t : Stp) (l : List Stp) (m : Mt) : matN (t :: l) m = matN l (mt1 t m) := rfl
theorem matN_mul : ∀ (l : List Stp) (k : Mt), matN l k = mulM (matN l idM) k
  | [], k => by refine mt_ext ?_ ?_ ?_ ?_ ?_ <;> simp [matN, mulM, idM]
  | t :: l, k => by rw [matN_cons, matN_mul l, matN_cons, matN_mul l (mt1 t idM), mt1_mul t k, mul_assocM]
theorem matN_app (l m : List Stp) (k : Mt) : matN (l ++ m) k = matN m (matN l k) := List.foldl_append
theorem matN_take {l : List Stp} {i : Nat} {t : Stp} (h : l[i]? = some t) (v : Mt) : matN (l.take (i + 1)) v = mt1 t (matN (l.take i) v) := by
  rw [List.take_add_one, h, matN_app]
  rfl
theorem mt1_e {t : Stp} {m : Mt} (h : 1 ≤ t.2.2) (g : 1 ≤ m.2.2.2.2) : 1 ≤ (mt1 t m).2.2.2.2 := by
  have : 0 < t.2.2 * m.2.2.2.2 := Int.mul_pos (by omega) (by omega)
  unfold mt1
  split <;> show 1 ≤ t.2.2 * m.2.2.2.2 <;> omega
theorem matN_e : ∀ {l : List Stp} {m : Mt}, (∀ t ∈ l, 1 ≤ t.2.2) → 1 ≤ m.2.2.2.2 → 1 ≤ (matN l m).2.2.2.2
  | [], _, _, g => g
  | t :: l, m, h, g => matN_e (l := l) (fun s hs => h s (List.mem_cons_of_mem _ hs)) (mt1_e (h t List.mem_cons_self) g)
def detM (m : Mt) : Int := m.1 * m.2.2.2.1 - m.2.1 * m.2.2.1
theorem mt1_det (t : Stp) (m : Mt) (h : detM m = m.2.2.2.2 * m.2.2.2.2) : detM (mt1 t m) = (mt1 t m).2.2.2.2 * (mt1 t m).2.2.2.2 := by
  obtain ⟨b, n, d⟩ := t
  obtain ⟨p, q, r, s, e⟩ := m
  have h : p * s - q * r = e * e := h
  have k : d * d * (p * s - q * r) = d * d * (e * e) := by rw [h]
  cases b
  · show d * p * (d * s + n * q) - d * q * (d * r + n * p) = d * e * (d * e)
    grind
  · show (d * p + n * r) * (d * s) - (d * q + n * s) * (d * r) = d * e * (d * e)
    grind
theorem matN_det : ∀ {l : List Stp} {m : Mt}, detM m = m.2.2.2.2 * m.2.2.2.2 → detM (matN l m) = (matN l m).2.2.2.2 * (matN l m).2.2.2.2
  | [], _, h => h
  | t :: l, m, h => matN_det (l := l) (mt1_det t m h)
/-! common divisors -/
def foldG (ns : List Int) : Nat := ns.foldl (fun g n => Nat.gcd g n.natAbs) 0
theorem foldG_aux (k : Int) : ∀ (ns : List Int) (g : Nat), (ns.map (k * ·)).foldl (fun g n => Nat.gcd g n.natAbs) (k.natAbs * g) = k.natAbs * ns.foldl (fun g n => Nat.gcd g n.natAbs) g
  | [], _ => rfl
  | n :: ns, g => by
    rw [List.map_cons, List.foldl_cons, List.foldl_cons, Int.natAbs_mul, Nat.gcd_mul_left]
    exact foldG_aux k ns _
theorem foldG_mul (k : Int) (ns : List Int) : foldG (ns.map (k * ·)) = k.natAbs * foldG ns := by
  have := foldG_aux k ns 0
  rw [Nat.mul_zero] at this
  exact this
theorem foldG_dvd : ∀ {ns : List Int} {g : Nat} , ns.foldl (fun g n => Nat.gcd g n.natAbs) g ∣ g ∧ ∀ n ∈ ns, ns.foldl (fun g n => Nat.gcd g n.natAbs) g ∣ n.natAbs
  | [], g => ⟨Nat.dvd_refl _, fun _ h => nomatch h⟩
  | n :: ns, g => by
    obtain ⟨a, b⟩ := foldG_dvd (ns := ns) (g := Nat.gcd g n.natAbs)
    rw [List.foldl_cons]
    refine ⟨Nat.dvd_trans a (Nat.gcd_dvd_left _ _), fun m hm => ?_⟩
    rcases List.mem_cons.mp hm with z | z
    · rw [z]; exact Nat.dvd_trans a (Nat.gcd_dvd_right _ _)
    · exact b m z
def nrm (m : Mt) : Mt := (m.1 / (foldG (ml m) : Int), m.2.1 / (foldG (ml m) : Int), m.2.2.1 / (foldG (ml m) : Int), m.2.2.2.1 / (foldG (ml m) : Int), m.2.2.2.2 / (foldG (ml m) : Int))
theorem foldG_pos {m : Mt} (h : 1 ≤ m.2.2.2.2) : 0 < foldG (ml m) := by
  rcases Nat.eq_zero_or_pos (foldG (ml m)) with z | z
  · have := (foldG_dvd (ns := ml m) (g := 0)).2 m.2.2.2.2 (by simp [ml])
    have e : (ml m).foldl (fun g n => Nat.gcd g n.natAbs) 0 = 0 := z
    rw [e] at this
    have := Nat.eq_zero_of_zero_dvd this
    omega
  · exact z
theorem nrm_lot {m : Mt} (h : 1 ≤ m.2.2.2.2) : m = smM (foldG (ml m) : Int) (nrm m) := by
  have d := (foldG_dvd (ns := ml m) (g := 0)).2
  have k : ∀ n ∈ ml m, n = (foldG (ml m) : Int) * (n / (foldG (ml m) : Int)) := fun n hn => (Int.mul_ediv_cancel' (Int.ofNat_dvd_left.mpr (d n hn))).symm
  exact mt_ext (k _ (by simp [ml])) (k _ (by simp [ml])) (k _ (by simp [ml])) (k _ (by simp [ml])) (k _ (by simp [ml]))
theorem nrm_sm {g : Int} (hg : 1 ≤ g) (m : Mt) : nrm (smM g m) = nrm m := by
  have e : (foldG (ml (smM g m)) : Int) = g * (foldG (ml m) : Int) := by
    have : ml (smM g m) = (ml m).map (g * ·) := rfl
    rw [this, foldG_mul, Int.natCast_mul, show ((g.natAbs : Nat) : Int) = g by omega]
  unfold nrm
  rw [e]
  refine mt_ext ?_ ?_ ?_ ?_ ?_ <;> exact Int.mul_ediv_mul_of_pos _ _ (by omega)
theorem nrm_e {m : Mt} (h : 1 ≤ m.2.2.2.2) : 1 ≤ (nrm m).2.2.2.2 := by
  have g := foldG_pos h
  have e := congrArg (fun z : Mt => z.2.2.2.2) (nrm_lot h)
  have e : m.2.2.2.2 = (foldG (ml m) : Int) * (nrm m).2.2.2.2 := e
  rcases Int.lt_or_le 0 (nrm m).2.2.2.2 with z | z
  · omega
  · have := Int.mul_le_mul_of_nonneg_left z (show 0 ≤ (foldG (ml m) : Int) by omega)
    rw [Int.mul_zero] at this
    omega
theorem nrm_one {m : Mt} (h : 1 ≤ m.2.2.2.2) : foldG (ml (nrm m)) = 1 := by
  have g := foldG_pos h
  have e : foldG (ml m) = foldG (ml m) * foldG (ml (nrm m)) := by
    conv => lhs; rw [nrm_lot h]
    have : ml (smM (foldG (ml m) : Int) (nrm m)) = (ml (nrm m)).map ((foldG (ml m) : Int) * ·) := rfl
    rw [this, foldG_mul]
    rfl
  have : foldG (ml m) * 1 = foldG (ml m) * foldG (ml (nrm m)) := by rw [Nat.mul_one]; exact e
  exact (Nat.eq_of_mul_eq_mul_left g this).symm
theorem nrm_det {m : Mt} (h : 1 ≤ m.2.2.2.2) (d : detM m = m.2.2.2.2 * m.2.2.2.2) : detM (nrm m) = (nrm m).2.2.2.2 * (nrm m).2.2.2.2 := by
  have g := foldG_pos h
  have e := nrm_lot h
  obtain ⟨G, hG⟩ : ∃ G : Int, G = (foldG (ml m) : Int) := ⟨_, rfl⟩
  rw [← hG] at e
  obtain ⟨k, hk⟩ : ∃ k, k = nrm m := ⟨_, rfl⟩
  rw [← hk] at e ⊢
  rw [e] at d
  have d : (G * k.1) * (G * k.2.2.2.1) - (G * k.2.1) * (G * k.2.2.1) = (G * k.2.2.2.2) * (G * k.2.2.2.2) := d
  have d2 : (G * G) * detM k = (G * G) * (k.2.2.2.2 * k.2.2.2.2) := by unfold detM; grind
  exact Int.eq_of_mul_eq_mul_left (show G * G ≠ 0 by have := Int.mul_pos (show 0 < G by omega) (show 0 < G by omega); omega) d2
def IsM (m : Mt) : Prop := 1 ≤ m.2.2.2.2 ∧ detM m = m.2.2.2.2 * m.2.2.2.2 ∧ foldG (ml m) = 1
def matC (l : List Stp) : Mt := nrm (matN l idM)
theorem mat_e {l : List Stp} (h : OkC l) : 1 ≤ (matN l idM).2.2.2.2 := matN_e (fun t ht => (h.1 t ht).1) (by decide)
theorem matC_is {l : List Stp} (h : OkC l) : IsM (matC l) := ⟨nrm_e (mat_e h), nrm_det (mat_e h) (matN_det (by decide)), nrm_one (mat_e h)⟩
theorem sm_mul (g k : Int) (x y : Mt) : mulM (smM g x) (smM k y) = smM (g * k) (mulM x y) := by
  refine mt_ext ?_ ?_ ?_ ?_ ?_ <;> simp only [mulM, smM] <;> grind
/-! the way back, scaled, crossed -/
/-! pixels that are led without rounding -/
end Tp
namespace Tp
open PySem PySem.Spec PyProof.Rows L2 DL
def BdM (n : Nat) (m : Mt) : Prop := Bd n m.1 ∧ Bd n m.2.1 ∧ Bd n m.2.2.1 ∧ Bd n m.2.2.2.1 ∧ Bd n m.2.2.2.2
theorem mt1_bdM {t : Stp} {m : Mt} {n : Nat} (h : OkS t) (b : BdM n m) : BdM (n + 152) (mt1 t m) := by
  obtain ⟨c, k, d⟩ := t
  obtain ⟨p, q, r, s, e⟩ := m
  obtain ⟨_, h2, h3⟩ := h
  obtain ⟨b1, b2, b3, b4, b5⟩ := b
  have h2 : Bd 150 k := h2
  have h3 : Bd 150 d := h3
  have b1 : Bd n p := b1
  have b2 : Bd n q := b2
  have b3 : Bd n r := b3
  have b4 : Bd n s := b4
  have b5 : Bd n e := b5
  cases c
  · exact ⟨(h3.mul b1).up (by omega), (h3.mul b2).up (by omega), ((h3.mul b3).add (h2.mul b1)).up (by omega), ((h3.mul b4).add (h2.mul b2)).up (by omega), (h3.mul b5).up (by omega)⟩
  · exact ⟨((h3.mul b1).add (h2.mul b3)).up (by omega), ((h3.mul b2).add (h2.mul b4)).up (by omega), (h3.mul b3).up (by omega), (h3.mul b4).up (by omega), (h3.mul b5).up (by omega)⟩
theorem matN_bdM : ∀ {l : List Stp} {m : Mt} {n : Nat}, (∀ t ∈ l, OkS t) → BdM n m → BdM (n + 152 * l.length) (matN l m)
  | [], _, _, _, b => b
  | t :: l, m, n, h, b => by
    have := matN_bdM (l := l) (fun s hs => h s (List.mem_cons_of_mem _ hs)) (mt1_bdM (h t List.mem_cons_self) b)
    rw [show n + 152 * (t :: l).length = n + 152 + 152 * l.length by rw [List.length_cons]; omega]
    exact this
theorem BdM.up {n k : Nat} {m : Mt} (b : BdM n m) (h : n ≤ k) : BdM k m := ⟨b.1.up h, b.2.1.up h, b.2.2.1.up h, b.2.2.2.1.up h, b.2.2.2.2.up h⟩
theorem idM_bd : BdM 1 idM := by unfold BdM Bd idM; decide
theorem mat_bd {l : List Stp} (h : OkC l) (i : Nat) : BdM 1217 (matN (l.take i) idM) := by
  have := matN_bdM (l := l.take i) (fun t ht => h.1 t (List.mem_of_mem_take ht)) idM_bd
  have h8 := h.2
  exact this.up (by rw [List.length_take]; omega)
theorem nrm_bd {m : Mt} {n : Nat} (b : BdM n m) : BdM n (nrm m) := ⟨b.1.div, b.2.1.div, b.2.2.1.div, b.2.2.2.1.div, b.2.2.2.2.div⟩
theorem matC_bd {l : List Stp} (h : OkC l) : BdM 1217 (matC l) := by
  have := mat_bd h l.length
  rw [List.take_of_length_le (Nat.le_refl _)] at this
  exact nrm_bd this
def con_common5 : Con := fun ds S Q => ∃ m : Mt, ds = [mD m] ∧ Q (.int (foldG (ml m) : Int)) S
def con_ismat : Con := fun ds S Q => ∃ m : Mt, ds = [mD m] ∧ IsM m ∧ BdM 1300 m ∧ Q (.bl true) S
def con_chkmat : Con := fun ds S Q => ∃ m : Mt, ds = [mD m] ∧ IsM m ∧ BdM 1300 m ∧ Q .non S
def con_ischain : Con := fun ds S Q => ∃ l : List Stp, ds = [.lst (l.map stD)] ∧ OkC l ∧ Q (.bl true) S
def con_matof : Con := fun ds S Q => ∃ l : List Stp, ds = [.lst (l.map stD)] ∧ OkC l ∧ Q (mD (matC l)) S
def con_shows35 : Con := fun ds S Q => ∃ (m : Mt) (l : List Stp), ds = [mD m, .lst (l.map stD)] ∧ m = matC l ∧ OkC l ∧ Q (.bl true) S
def gTo (m : Mt) (i : Nat) : Nat := ((ml m).take i).foldl (fun g n => Nat.gcd g n.natAbs) 0
theorem gTo_succ {m : Mt} {i : Nat} {v : Int} (h : (ml m)[i]? = some v) : gTo m (i + 1) = Nat.gcd (gTo m i) v.natAbs := by
  unfold gTo
  rw [List.take_add_one, h, List.foldl_append]
  rfl
theorem eq_mD {m k : Mt} {S : Sto} {Q : Bool → Sto → Prop} (e : m = k) (q : Q true S) : eqP (mD m) (mD k) S Q := eqP_same (by rw [e]) rfl q
theorem foldG_bd {m : Mt} {n : Nat} (h : 1 ≤ m.2.2.2.2) (b : BdM n m) : Bd n ((foldG (ml m) : Nat) : Int) := by
  have d := (foldG_dvd (ns := ml m) (g := 0)).2 m.2.2.2.2 (by simp [ml])
  have k : foldG (ml m) ≤ m.2.2.2.2.natAbs := Nat.le_of_dvd (by omega) d
  exact Bd.of_le (by omega) (show ((foldG (ml m) : Nat) : Int) ≤ m.2.2.2.2 by omega) b.2.2.2.2
end Tp
namespace Tp
open PySem PySem.Spec PyProof.Rows L2 DL
/-! ### fewest shears -/
def dueM (m : Mt) : Int := if (m.1 = m.2.2.2.2 ∧ m.2.2.2.1 = m.2.2.2.2) ∧ (m.2.1 = 0 ∨ m.2.2.1 = 0) then (if m.2.1 ≠ 0 ∨ m.2.2.1 ≠ 0 then 1 else 0) else if m.1 = m.2.2.2.2 ∨ m.2.2.2.1 = m.2.2.2.2 then 2 else if m.2.1 ≠ 0 ∨ m.2.2.1 ≠ 0 then 3 else 4
theorem due_prog {m : Mt} (h : IsM m) : (if m.1 = m.2.2.2.2 ∧ m.2.2.2.1 = m.2.2.2.2 then (if m.2.1 = m.2.2.1 then (0 : Int) else 1) else if m.1 = m.2.2.2.2 ∨ m.2.2.2.1 = m.2.2.2.2 then 2 else if m.2.1 = 0 ∧ m.2.2.1 = 0 then 4 else 3) = dueM m := by
  obtain ⟨a, b, c, d, e⟩ := m
  obtain ⟨_, hd, _⟩ := h
  have hd : a * d - b * c = e * e := hd
  show (if a = e ∧ d = e then (if b = c then (0 : Int) else 1) else if a = e ∨ d = e then 2 else if b = 0 ∧ c = 0 then 4 else 3) = if (a = e ∧ d = e) ∧ (b = 0 ∨ c = 0) then (if b ≠ 0 ∨ c ≠ 0 then 1 else 0) else if a = e ∨ d = e then 2 else if b ≠ 0 ∨ c ≠ 0 then 3 else 4
  have bc : ¬ (a = e ∧ d = e) ∨ (b = 0 ∨ c = 0) := by
    by_cases x : a = e ∧ d = e
    · right
      rw [x.1, x.2] at hd
      exact Int.mul_eq_zero.mp (show b * c = 0 by omega)
    · exact .inl x
  clear hd
  repeat' split
  all_goals omega
def con_dueL : Con := fun ds S Q => ∃ m : Mt, ds = [mD m] ∧ IsM m ∧ BdM 1300 m ∧ Q (.int (dueM m)) S
instance (m : Mt) : Decidable (IsM m) := by unfold IsM; infer_instance
instance (n : Nat) (m : Mt) : Decidable (BdM n m) := by unfold BdM Bd; infer_instance
end Tp
namespace Tp
open PySem PySem.Spec PyProof.Rows L2 DL
/-! ### scales: each pixel to the nearest place -/
structure Sc (a b n : Int) : Prop where
  n1 : 1 ≤ n
  n2 : n ≤ 1000000000000000000000000000000
  a1 : -1000000000000000000000000000000 ≤ a
  a2 : a ≤ 1000000000000000000000000000000
  b1 : -1000000000000000000000000000000 ≤ b
  b2 : b ≤ 1000000000000000000000000000000
  s : n * n ≤ a * a + b * b
theorem bd_30 {x : Int} (h : -1000000000000000000000000000000 ≤ x ∧ x ≤ 1000000000000000000000000000000) : Bd 100 x := by unfold Bd; omega
theorem Sc.ba {a b n : Int} (h : Sc a b n) : Bd 100 a := bd_30 ⟨h.a1, h.a2⟩
theorem Sc.bb {a b n : Int} (h : Sc a b n) : Bd 100 b := bd_30 ⟨h.b1, h.b2⟩
theorem Sc.bn {a b n : Int} (h : Sc a b n) : Bd 100 n := bd_30 ⟨by have := h.n1; omega, h.n2⟩
theorem Sc.np {a b n : Int} (h : Sc a b n) : 0 < n := by have := h.n1; omega
theorem sc_great {a b r : Int} (h1 : 0 ≤ a ∧ a < 10 ^ (Int.toNat 30)) (h2 : 0 ≤ b ∧ b < 10 ^ (Int.toNat 29)) (h3 : 0 ≤ r ∧ r < 9) : Sc (10 ^ (Int.toNat 30) - a) (10 ^ (Int.toNat 29) + b) (1 + r) := by
  have e1 : (10 : Int) ^ (Int.toNat 30) = 1000000000000000000000000000000 := by decide +kernel
  have e2 : (10 : Int) ^ (Int.toNat 29) = 100000000000000000000000000000 := by decide +kernel
  rw [e1] at h1 ⊢
  rw [e2] at h2 ⊢
  refine ⟨by omega, by omega, by omega, by omega, by omega, by omega, ?_⟩
  have s1 := sq_nn (1000000000000000000000000000000 - a)
  have s2 : 100000000000000000000000000000 * 100000000000000000000000000000 ≤ (100000000000000000000000000000 + b) * (100000000000000000000000000000 + b) := Int.mul_le_mul (by omega) (by omega) (by omega) (by omega)
  have s3 : (1 + r) * (1 + r) ≤ 9 * 9 := Int.mul_le_mul (by omega) (by omega) (by omega) (by omega)
  omega
end Tp
namespace Tp
open PySem PySem.Spec PyProof.Rows L2 DL
/-! ### three shears -/
def od (o : Bool) : Str := if o then "xyx" else "yxy"
theorem od_x (o : Bool) : decide (od o = "xyx") = o := by cases o <;> decide
theorem od_in (o : Bool) : ([D.str "xyx", D.str "yxy"].any fun z => eqB z (.str (od o))) = true := by cases o <;> decide +kernel
theorem od_flat (o : Bool) : flatOk 9 (.str (od o)) = true := by cases o <;> decide +kernel
theorem eq_od {o : Bool} {S : Sto} {Q : Bool → Sto → Prop} (q : Q o S) : eqP (.str (od o)) (.str "xyx") S Q := by
  refine eq_str ?_
  rw [od_x]
  exact q
theorem in_od {o : Bool} {S : Sto} {Q : Bool → Sto → Prop} (q : Q true S) : inP (.str (od o)) (.tup [.str "xyx", .str "yxy"]) S Q := ⟨⟨od_flat o, by decide +kernel⟩, by rw [od_in]; exact q⟩
def shC (p q : Int) (o : Bool) : List Stp := if o then [(true, -q, p), (false, 2 * p * q, p * p + q * q), (true, -q, p)] else [(false, q, p), (true, -(2 * p * q), p * p + q * q), (false, q, p)]
theorem shC_ok {p q k : Int} (h : Tn p q k) (o : Bool) : OkC (shC p q o) := by
  have bp := h.bp
  have bq := h.bq
  have hp : 1 ≤ p := h.p1
  have hc : 1 ≤ p * p + q * q := cc_one h
  have bc : Bd 150 (p * p + q * q) := (Bd.cc bp bq).up (by decide)
  have bb : Bd 150 (2 * p * q) := (((Bd.lit 2).mul bp).mul bq).up (by decide)
  have s1 : OkS (true, -q, p) := ⟨hp, bq.neg.up (by decide), bp.up (by decide)⟩
  have s2 : OkS (false, q, p) := ⟨hp, bq.up (by decide), bp.up (by decide)⟩
  have s3 : OkS (false, 2 * p * q, p * p + q * q) := ⟨hc, bb, bc⟩
  have s4 : OkS (true, -(2 * p * q), p * p + q * q) := ⟨hc, bb.neg, bc⟩
  cases o
  · refine ⟨fun t ht => ?_, by show (3 : Nat) ≤ 8; decide⟩
    rcases List.mem_cons.mp ht with e | ht
    · rw [e]; exact s2
    rcases List.mem_cons.mp ht with e | ht
    · rw [e]; exact s4
    · rw [List.mem_singleton.mp ht]; exact s2
  · refine ⟨fun t ht => ?_, by show (3 : Nat) ≤ 8; decide⟩
    rcases List.mem_cons.mp ht with e | ht
    · rw [e]; exact s1
    rcases List.mem_cons.mp ht with e | ht
    · rw [e]; exact s3
    · rw [List.mem_singleton.mp ht]; exact s1
theorem shC_len (p q : Int) (o : Bool) : (shC p q o).length = 3 := by cases o <;> rfl
def rt2 (j : Nat) (v : Int × Int) : Int × Int := (rtX j v.1 v.2, rtY j v.1 v.2)
@[irreducible] def shV (p q k : Int) (o : Bool) (x y : Int) : Int × Int := rt2 k.toNat (ledN (shC p q o) (x, y))
@[irreducible] def usV (p q k : Int) (o : Bool) (x y : Int) : Int × Int := unlN (shC p q o) (rt2 (-k % 4).toNat (x, y))
theorem BdP.rt2 {n : Nat} {v : Int × Int} (j : Nat) (h : BdP n v) : BdP n (rt2 j v) := ⟨(Bd.rtX j h.1 h.2).up (by omega), (Bd.rtY j h.1 h.2).up (by omega)⟩
theorem sh_bd {p q k : Int} (h : Tn p q k) (o : Bool) {n : Nat} (hn : 10 ≤ n) {x y : Int} (bx : Bd n x) (by' : Bd n y) : BdP (n + 465) (ledN (shC p q o) (x, y)) := by
  have := ledN_bd hn (shC_ok h o).1 (show BdP n (x, y) from ⟨bx, by'⟩)
  rw [shC_len] at this
  exact this
theorem rt_q (j : Nat) (x y : Int) : x * rtX j 1 0 - y * rtY j 1 0 = rtX j x y ∧ x * rtY j 1 0 + y * rtX j 1 0 = rtY j x y := by
  match j with
  | 0 => simp [rtX, rtY]
  | 1 => simp [rtX, rtY]
  | 2 => simp [rtX, rtY]
  | _ + 3 => simp [rtX, rtY]
theorem ix_qu {k : Int} {S : Sto} {Q : D → Sto → Prop} (h : 0 ≤ k ∧ k < 4) (q : Q (.tup [.int (rtX k.toNat 1 0), .int (rtY k.toNat 1 0)]) S) : ixP (.tup [.tup [.int 1, .int 0], .tup [.int 0, .int 1], .tup [.int (-1), .int 0], .tup [.int 0, .int (-1)]]) (.int k) S Q := by
  rcases four h with e | e | e | e <;> subst e <;> exact ix_t q rfl
theorem sh_tm {p q k : Int} (o : Bool) (x y : Int) {S : Sto} {Q : D → Sto → Prop} (q9 : Q (.tup [.int (shV p q k o x y).1, .int (shV p q k o x y).2]) S) : Q (.tup [.int ((ledN (shC p q o) (x, y)).1 * rtX k.toNat 1 0 - (ledN (shC p q o) (x, y)).2 * rtY k.toNat 1 0), .int ((ledN (shC p q o) (x, y)).1 * rtY k.toNat 1 0 + (ledN (shC p q o) (x, y)).2 * rtX k.toNat 1 0)]) S := by
  rw [(rt_q _ _ _).1, (rt_q _ _ _).2]
  unfold shV at q9
  exact q9
def con_ckord : Con := fun ds S Q => ∃ o : Bool, ds = [.str (od o)] ∧ Q .non S
def con_shby : Con := fun ds S Q => ∃ (p q k : Int) (o : Bool) (x y : Int), ds = [.lst ((shC p q o).map stD), .tup [.int p, .int q, .int k], .tup [.int x, .int y]] ∧ Tn p q k ∧ (Bd 700 x ∧ Bd 700 y) ∧ Q (.tup [.int (shV p q k o x y).1, .int (shV p q k o x y).2]) S
def con_sheared : Con := fun ds S Q => ∃ (p q k : Int) (o : Bool) (x y : Int), ds = [.tup [.int p, .int q, .int k], .str (od o), .tup [.int x, .int y]] ∧ Tn p q k ∧ (Bd 700 x ∧ Bd 700 y) ∧ Q (.tup [.int (shV p q k o x y).1, .int (shV p q k o x y).2]) S
def con_unsh : Con := fun ds S Q => ∃ (p q k : Int) (o : Bool) (x y : Int), ds = [.tup [.int p, .int q, .int k], .str (od o), .tup [.int x, .int y]] ∧ Tn p q k ∧ (Bd 700 x ∧ Bd 700 y) ∧ Q (.tup [.int (usV p q k o x y).1, .int (usV p q k o x y).2]) S
theorem tn_one {r : Int} (h0 : 0 ≤ r) (h1 : r < 4) : Tn 1 0 r := ⟨by decide, by decide, by decide, by decide, by decide, by decide, h0, by omega⟩
theorem dot_mk {n : Nat} {x y : Int} (bx : Bd n x) (by' : Bd n y) (h : n ≤ 160) : DotB 160 (.tup [.int x, .int y]) := ⟨x, y, rfl, bx.up h, by'.up h⟩
end Tp
namespace Tp
open PySem PySem.Spec PyProof.Rows L2 DL
/-! ### ways -/
abbrev Trn := Int × Int × Int
def TnT (t : Trn) : Prop := Tn t.1 t.2.1 t.2.2
def KW (t : Trn) : Prop := TnT t ∧ keepsP t.1 t.2.1
def bkT (t : Trn) : Trn := (t.1, -t.2.1, -t.2.2 % 4)
theorem tnT_bk {t : Trn} (h : TnT t) : TnT (bkT t) := tn_bk2 h
theorem kw_bk {t : Trn} (h : KW t) : KW (bkT t) := by
  refine ⟨tnT_bk h.1, ?_⟩
  have h2 : t.1 = (if t.2.1 < 0 then -t.2.1 else t.2.1) + 1 := h.2
  show t.1 = (if -t.2.1 < 0 then - -t.2.1 else -t.2.1) + 1
  split at h2 <;> split <;> omega
/-! how far an image may lie -/
theorem kw_tn {l : List Trn} (h : ∀ t ∈ l, KW t) : ∀ t ∈ l, TnT t := fun t ht => (h t ht).1
theorem kw_rev {l : List Trn} (h : ∀ t ∈ l, KW t) : ∀ t ∈ l.reverse.map bkT, KW t := fun t ht => by
  obtain ⟨s, hs, rfl⟩ := List.mem_map.mp ht
  exact kw_bk (h s (List.mem_reverse.mp hs))
end Tp
namespace Tp
open PySem PySem.Spec PyProof.Rows L2 DL
/-! ### six-cornered turns -/
structure Sx (p q k : Int) : Prop where
  p1 : -1000000000000000 ≤ p
  p2 : p ≤ 1000000000000000
  q1 : -1000000000000000 ≤ q
  q2 : q ≤ 1000000000000000
  d1 : -1000000000000000 ≤ p - q
  d2 : p - q ≤ 1000000000000000
  o : (p + q) % 3 ≠ 0
  g : Nat.gcd p.natAbs q.natAbs = 1
  k1 : 0 ≤ k
  k2 : k ≤ 5
theorem Sx.bp {p q k : Int} (h : Sx p q k) : Bd 50 p := by have := h.p1; have := h.p2; unfold Bd; omega
theorem Sx.bq {p q k : Int} (h : Sx p q k) : Bd 50 q := by have := h.q1; have := h.q2; unfold Bd; omega
theorem Sx.b3 {p q k : Int} (h : Sx p q k) : Bd 3 k := by have := h.k1; have := h.k2; unfold Bd; omega
def r6X (k : Nat) (x y : Int) : Int := match k with | 0 => x | 1 => x - y | 2 => -y | 3 => -x | 4 => y - x | _ => y
def r6Y (k : Nat) (x y : Int) : Int := match k with | 0 => y | 1 => x | 2 => x - y | 3 => -y | 4 => -x | _ => y - x
theorem six {k : Int} (h : 0 ≤ k ∧ k ≤ 5) : k = 0 ∨ k = 1 ∨ k = 2 ∨ k = 3 ∨ k = 4 ∨ k = 5 := by omega
@[irreducible] def sz (p q : Int) : Int := p * p - p * q + q * q
theorem sz_eq (p q : Int) : sz p q = p * p - p * q + q * q := by unfold sz; rfl
def sqA (p q : Int) : Int := p * p - q * q
def sqB (p q : Int) : Int := p * q + q * p - q * q
@[irreducible] def spX (p q k x y : Int) : Int := r6X k.toNat (sqA p q * x - sqB p q * y) (sqA p q * y + sqB p q * x - sqB p q * y)
@[irreducible] def spY (p q k x y : Int) : Int := r6Y k.toNat (sqA p q * x - sqB p q * y) (sqA p q * y + sqB p q * x - sqB p q * y)
/-! the hexagon about (0, 0) -/
def HexC (c x y : Int) : Prop := (-c ≤ 2 * x - y ∧ 2 * x - y ≤ c) ∧ (-c ≤ 2 * y - x ∧ 2 * y - x ≤ c) ∧ -c ≤ x + y ∧ x + y ≤ c
def HexS (c x y : Int) : Prop := (-c < 2 * x - y ∧ 2 * x - y < c) ∧ (-c < 2 * y - x ∧ 2 * y - x < c) ∧ -c < x + y ∧ x + y < c
theorem HexC.r1 {c x y : Int} (h : HexC c x y) : HexC c (x - y) x := by unfold HexC at *; omega
theorem HexS.r1 {c x y : Int} (h : HexS c x y) : HexS c (x - y) x := by unfold HexS at *; omega
theorem HexS.neg {c x y : Int} (h : HexS c x y) : HexS c (-x) (-y) := by unfold HexS at *; omega
theorem HexS.r6 {c x y : Int} (h : HexS c x y) : ∀ k : Nat, HexS c (r6X k x y) (r6Y k x y)
  | 0 => h
  | 1 => h.r1
  | 2 => by show HexS c (-y) (x - y); unfold HexS at *; omega
  | 3 => h.neg
  | 4 => by show HexS c (y - x) (-x); unfold HexS at *; omega
  | _ + 5 => by show HexS c y (y - x); unfold HexS at *; omega
def mxI (f h : Int) : Int := if h > f then h else f
def mnI (f h : Int) : Int := if h < f then h else f
@[irreducible] def hexI (c X Y : Int) : Int × Int :=
  if 2 * mxI (X - c * (X / c)) (Y - c * (Y / c)) - mnI (X - c * (X / c)) (Y - c * (Y / c)) < c ∧ X - c * (X / c) + (Y - c * (Y / c)) < c then (X / c, Y / c)
  else if 2 * mnI (X - c * (X / c)) (Y - c * (Y / c)) > mxI (X - c * (X / c)) (Y - c * (Y / c)) then (X / c + 1, Y / c + 1)
  else if X - c * (X / c) > Y - c * (Y / c) then (X / c + 1, Y / c) else (X / c, Y / c + 1)
end Tp
namespace Tp
open PySem PySem.Spec PyProof.Rows L2 DL
/-! ### six-cornered images -/
theorem gcd_bez {p q s t : Int} (h : s * p + t * q = 1) : Nat.gcd p.natAbs q.natAbs = 1 := by
  have d1 : ((Nat.gcd p.natAbs q.natAbs : Nat) : Int) ∣ p := Int.ofNat_dvd_left.mpr (Nat.gcd_dvd_left _ _)
  have d2 : ((Nat.gcd p.natAbs q.natAbs : Nat) : Int) ∣ q := Int.ofNat_dvd_left.mpr (Nat.gcd_dvd_right _ _)
  have d3 : ((Nat.gcd p.natAbs q.natAbs : Nat) : Int) ∣ 1 := by
    rw [← h]
    exact Int.dvd_add (Int.dvd_mul_of_dvd_right d1) (Int.dvd_mul_of_dvd_right d2)
  have := Int.le_of_dvd (by decide) d3
  have g0 : Nat.gcd p.natAbs q.natAbs ≠ 0 := fun z => by
    rw [z] at d3
    have := Int.zero_dvd.mp d3
    cases this
  omega
@[irreducible] def siX (p q k x y : Int) : Int := (hexI (sz p q) (spX p q k x y) (spY p q k x y)).1
@[irreducible] def siY (p q k x y : Int) : Int := (hexI (sz p q) (spX p q k x y) (spY p q k x y)).2
/-! the sixths -/
theorem sx_rot {p q k : Int} (h : Sx p q k) (j : Int) : Sx p q ((k + j) % 6) := ⟨h.p1, h.p2, h.q1, h.q2, h.d1, h.d2, h.o, h.g, by omega, by omega⟩
/-! back -/
theorem sx_bk {p q k : Int} (h : Sx p q k) : Sx (p - q) (-q) (-k % 6) := by
  have := h.o
  have := h.p1
  have := h.p2
  have := h.q1
  have := h.q2
  have := h.d1
  have := h.d2
  obtain ⟨s, t, b⟩ := bez h.g
  exact ⟨by omega, by omega, by omega, by omega, by omega, by omega, by omega, gcd_bez (s := s) (t := -(s + t)) (by rw [← b]; grind), by omega, by omega⟩
/-! kin: u times a sixth -/
theorem sx_kin {p q k : Int} (h : Sx p q k) (j : Nat) (l : Int) (hl : 0 ≤ l ∧ l ≤ 5) : Sx (r6X j p q) (r6Y j p q) l := by
  have := h.o
  have := h.p1
  have := h.p2
  have := h.q1
  have := h.q2
  have := h.d1
  have := h.d2
  obtain ⟨s, t, b⟩ := bez h.g
  match j with
  | 0 => show Sx p q l; exact ⟨h.p1, h.p2, h.q1, h.q2, h.d1, h.d2, h.o, h.g, hl.1, hl.2⟩
  | 1 => exact ⟨by show _ ≤ p - q; omega, by show p - q ≤ _; omega, by show _ ≤ p; omega, by show p ≤ _; omega, by show _ ≤ p - q - p; omega, by show p - q - p ≤ _; omega, by show (p - q + p) % 3 ≠ 0; omega, gcd_bez (p := p - q) (q := p) (s := -t) (t := s + t) (by rw [← b]; grind), hl.1, hl.2⟩
  | 2 => exact ⟨by show _ ≤ -q; omega, by show -q ≤ _; omega, by show _ ≤ p - q; omega, by show p - q ≤ _; omega, by show _ ≤ -q - (p - q); omega, by show -q - (p - q) ≤ _; omega, by show (-q + (p - q)) % 3 ≠ 0; omega, gcd_bez (p := -q) (q := p - q) (s := -(s + t)) (t := s) (by rw [← b]; grind), hl.1, hl.2⟩
  | 3 => exact ⟨by show _ ≤ -p; omega, by show -p ≤ _; omega, by show _ ≤ -q; omega, by show -q ≤ _; omega, by show _ ≤ -p - -q; omega, by show -p - -q ≤ _; omega, by show (-p + -q) % 3 ≠ 0; omega, gcd_bez (p := -p) (q := -q) (s := -s) (t := -t) (by rw [← b]; grind), hl.1, hl.2⟩
  | 4 => exact ⟨by show _ ≤ q - p; omega, by show q - p ≤ _; omega, by show _ ≤ -p; omega, by show -p ≤ _; omega, by show _ ≤ q - p - -p; omega, by show q - p - -p ≤ _; omega, by show (q - p + -p) % 3 ≠ 0; omega, gcd_bez (p := q - p) (q := -p) (s := t) (t := -(s + t)) (by rw [← b]; grind), hl.1, hl.2⟩
  | _ + 5 => exact ⟨by show _ ≤ q; omega, by show q ≤ _; omega, by show _ ≤ q - p; omega, by show q - p ≤ _; omega, by show _ ≤ q - (q - p); omega, by show q - (q - p) ≤ _; omega, by show (q + (q - p)) % 3 ≠ 0; omega, gcd_bez (p := q) (q := q - p) (s := s + t) (t := -s) (by rw [← b]; grind), hl.1, hl.2⟩
end Tp
namespace Tp
open PySem PySem.Spec PyProof.Rows L2 DL
/-! ### a number without a common divisor is never far -/
/-! what the defs of six-cornered turns and the laws' helpers promise -/
theorem Sx.bc {p q k : Int} (h : Sx p q k) : Bd 110 (sz p q) := by rw [sz_eq]; exact (((h.bp.mul h.bp).sub (h.bp.mul h.bq)).add (h.bq.mul h.bq)).up (by decide)
end Tp
namespace Tp
open PySem PySem.Spec PyProof.Rows L2 DL
/-! ### six-cornered turns: what is near -/
/-! moved pixels -/
end Tp
namespace Tp
open PySem PySem.Spec PyProof.Rows L2 DL
/-! ### six-cornered: the laws' own words -/
/-! nearest -/
end Tp
namespace Tp
open PySem PySem.Spec PyProof.Rows L2 DL
/-! ### scales: which classes meet -/
def cmT (a b n : Int) : Int := ((Nat.gcd ((Nat.gcd a.natAbs b.natAbs : Nat) : Int).natAbs n.natAbs : Nat) : Int)
def cmN (a b n : Int) : Int := ((Nat.gcd (n / cmT a b n).natAbs (a / cmT a b n * (a / cmT a b n) + b / cmT a b n * (b / cmT a b n)).natAbs : Nat) : Int)
theorem cmT_dvd (a b n : Int) : cmT a b n ∣ a ∧ cmT a b n ∣ b ∧ cmT a b n ∣ n := by
  unfold cmT
  have h1 : Nat.gcd ((Nat.gcd a.natAbs b.natAbs : Nat) : Int).natAbs n.natAbs ∣ Nat.gcd a.natAbs b.natAbs := Nat.gcd_dvd_left _ _
  refine ⟨Int.ofNat_dvd_left.mpr (Nat.dvd_trans h1 (Nat.gcd_dvd_left _ _)), Int.ofNat_dvd_left.mpr (Nat.dvd_trans h1 (Nat.gcd_dvd_right _ _)), Int.ofNat_dvd_left.mpr (Nat.gcd_dvd_right _ _)⟩
theorem cmT_pos {a b n : Int} (h : 1 ≤ n) : 1 ≤ cmT a b n := by
  unfold cmT
  have := Nat.gcd_pos_of_pos_right ((Nat.gcd a.natAbs b.natAbs : Nat) : Int).natAbs (show 0 < n.natAbs by omega)
  omega
/-- k: Y is k X, modulo N, for the multiples of a + b i -/
def IsK (a b n k : Int) : Prop := 0 ≤ k ∧ k < cmN a b n ∧ (b / cmT a b n * k + a / cmT a b n) % cmN a b n = 0
/-! the box of what is rounded to 0, together with what is r further -/
end Tp
namespace Tp
open PySem PySem.Spec PyProof.Rows L2 DL
/-! ### scales: the pixels that are led to one -/
def ltP (s t : Int × Int) : Prop := s.1 < t.1 ∨ (s.1 = t.1 ∧ s.2 < t.2)
instance (s t : Int × Int) : Decidable (ltP s t) := by unfold ltP; infer_instance
end Tp
namespace Tp
open PySem PySem.Spec PyProof.Rows L2 DL
/-! ### scales: what the defs promise -/
theorem cmN_le {a b n : Int} (h : 1 ≤ n) : cmT a b n ≤ n ∧ cmN a b n ≤ n := by
  obtain ⟨t1, t2, t3⟩ := cmT_dvd a b n
  have tp := cmT_pos (a := a) (b := b) h
  refine ⟨Int.le_of_dvd (by omega) t3, ?_⟩
  have e := Int.mul_ediv_cancel' t3
  have np : 0 < n / cmT a b n := by
    rcases Int.lt_or_le 0 (n / cmT a b n) with z | z
    · exact z
    · have := Int.mul_le_mul_of_nonneg_left z (show 0 ≤ cmT a b n by omega)
      omega
  have d : cmN a b n ∣ n / cmT a b n := by
    unfold cmN
    exact Int.ofNat_dvd_left.mpr (Nat.gcd_dvd_left _ _)
  have l1 := Int.le_of_dvd np d
  have l2 : n / cmT a b n ≤ n := Int.ediv_le_self _ (by omega)
  omega
theorem IsK.bk {a b n k : Int} (h : 1 ≤ n) (bn : Bd 100 n) (hk : IsK a b n k) : Bd 100 k := Bd.of_le hk.1 (show k ≤ n by have := hk.2.1; have := (cmN_le (a := a) (b := b) h).2; omega) bn
end Tp
namespace Tp
open PySem PySem.Spec PyProof.Rows L2 DL
/-! ### scales: the law of sources -/
end Tp
namespace Tp
open PySem PySem.Spec PyProof.Rows L2 DL
/-! ### two bare pixels are never neighbours -/
end Tp
namespace Tp
open PySem PySem.Spec PyProof.Rows L2 DL
/-! ### bare pixels, meetings and sources along a row -/
end Tp
namespace Tp
open PySem PySem.Spec PyProof.Rows L2 DL
/-! ### scales that are turns: the lattice, meeting numbers -/
end Tp
namespace Tp
open PySem PySem.Spec PyProof.Rows L2 DL
/-! ### scales that are turns: what the program says of both -/
end Tp
namespace Tp
open PySem PySem.Spec PyProof.Rows L2 DL
/-! ### lattice points in a box -/
end Tp
namespace Tp
open PySem PySem.Spec PyProof.Rows L2 DL
/-! ### the meeting numbers of a scale's kin -/
end Tp
namespace Tp
open PySem PySem.Spec PyProof.Rows L2 DL
/-! ### a scale's kin -/
end Tp
namespace Tp
open PySem PySem.Spec PyProof.Rows L2 DL
/-! ### the meeting numbers of a scale as boxes -/
end Tp
namespace Tp
open PySem PySem.Spec PyProof.Rows L2 DL
/-! ### k87: bounds, more than once around, whole factors -/
end Tp
namespace Tp
open PySem PySem.Spec PyProof.Rows L2 DL
/-! ### whole factors: one class, no meeting, one source; k87's helpers -/
end Tp
namespace Tp
open PySem PySem.Spec PyProof.Rows L2 DL
/-! ### any values: kinds, texts -/
def isIntD : D → Bool
  | .int _ => true
  | .bl _ => true
  | _ => false
def isBlD : D → Bool
  | .bl _ => true
  | _ => false
def isTupD : D → Bool
  | .tup _ => true
  | _ => false
def isLstD : D → Bool
  | .lst _ => true
  | _ => false
def isStrD : D → Bool
  | .str _ => true
  | _ => false
structure AnyV (K : PySem.W.Frag) (d : D) : Prop where
  ex : ∃ t, TyV K d t ∧ PySem.W.kitOne K t (.type "int") = some (isIntD d) ∧ PySem.W.kitOne K t (.type "bool") = some (isBlD d) ∧ PySem.W.kitOne K t (.type "tuple") = some (isTupD d) ∧ PySem.W.kitOne K t (.type "list") = some (isLstD d) ∧ PySem.W.kitOne K t (.type "str") = some (isStrD d)
def pvD : D → Bool
  | .non => true
  | .bl _ => true
  | .int _ => true
  | .str _ => true
  | .tup _ => true
  | .lst _ => true
  | _ => false
theorem kt_NoneType : kitB "NoneType" "int" = some false ∧ kitB "NoneType" "bool" = some false ∧ kitB "NoneType" "tuple" = some false ∧ kitB "NoneType" "list" = some false ∧ kitB "NoneType" "str" = some false := by decide +kernel
theorem kt_bool : kitB "bool" "int" = some true ∧ kitB "bool" "bool" = some true ∧ kitB "bool" "tuple" = some false ∧ kitB "bool" "list" = some false ∧ kitB "bool" "str" = some false := by decide +kernel
theorem kt_int : kitB "int" "int" = some true ∧ kitB "int" "bool" = some false ∧ kitB "int" "tuple" = some false ∧ kitB "int" "list" = some false ∧ kitB "int" "str" = some false := by decide +kernel
theorem kt_str : kitB "str" "int" = some false ∧ kitB "str" "bool" = some false ∧ kitB "str" "tuple" = some false ∧ kitB "str" "list" = some false ∧ kitB "str" "str" = some true := by decide +kernel
theorem kt_tuple : kitB "tuple" "int" = some false ∧ kitB "tuple" "bool" = some false ∧ kitB "tuple" "tuple" = some true ∧ kitB "tuple" "list" = some false ∧ kitB "tuple" "str" = some false := by decide +kernel
theorem kt_list : kitB "list" "int" = some false ∧ kitB "list" "bool" = some false ∧ kitB "list" "tuple" = some false ∧ kitB "list" "list" = some true ∧ kitB "list" "str" = some false := by decide +kernel
theorem any_pv {K : PySem.W.Frag} {d : D} (h : pvD d = true) : AnyV K d := by
  cases d with
  | non => exact ⟨_, ⟨_, rfl, rfl⟩, kit_ty kt_NoneType.1, kit_ty kt_NoneType.2.1, kit_ty kt_NoneType.2.2.1, kit_ty kt_NoneType.2.2.2.1, kit_ty kt_NoneType.2.2.2.2⟩
  | bl b => exact ⟨_, ⟨_, rfl, rfl⟩, kit_ty kt_bool.1, kit_ty kt_bool.2.1, kit_ty kt_bool.2.2.1, kit_ty kt_bool.2.2.2.1, kit_ty kt_bool.2.2.2.2⟩
  | int b => exact ⟨_, ⟨_, rfl, rfl⟩, kit_ty kt_int.1, kit_ty kt_int.2.1, kit_ty kt_int.2.2.1, kit_ty kt_int.2.2.2.1, kit_ty kt_int.2.2.2.2⟩
  | str b => exact ⟨_, ⟨_, rfl, rfl⟩, kit_ty kt_str.1, kit_ty kt_str.2.1, kit_ty kt_str.2.2.1, kit_ty kt_str.2.2.2.1, kit_ty kt_str.2.2.2.2⟩
  | tup b => exact ⟨_, ⟨_, rfl, rfl⟩, kit_ty kt_tuple.1, kit_ty kt_tuple.2.1, kit_ty kt_tuple.2.2.1, kit_ty kt_tuple.2.2.2.1, kit_ty kt_tuple.2.2.2.2⟩
  | lst b => exact ⟨_, ⟨_, rfl, rfl⟩, kit_ty kt_list.1, kit_ty kt_list.2.1, kit_ty kt_list.2.2.1, kit_ty kt_list.2.2.2.1, kit_ty kt_list.2.2.2.2⟩
  | raw b => cases h
  | ext b => cases h
  | scr b => cases h
/-- its parts, if it is a tuple, as well -/
structure AnyT (K : PySem.W.Frag) (d : D) : Prop where
  v : AnyV K d
  p : ∀ l, d = .tup l → ∀ x ∈ l, AnyV K x
def ptD : D → Bool
  | .tup l => l.all pvD
  | d => pvD d
theorem any_pt {K : PySem.W.Frag} {d : D} (h : ptD d = true) : AnyT K d := by
  refine ⟨any_pv ?_, fun l e x hx => ?_⟩
  · cases d <;> first | rfl | exact h
  · subst e
    exact any_pv (List.all_eq_true.mp h x hx)
theorem any_ext {K : PySem.W.Frag} {Q : Hp → V → Prop} (h : AnyV K (.ext Q)) : AnyT K (.ext Q) := ⟨h, fun _ e => nomatch e⟩
/-! ### what is shown -/
mutual
def shQ : D → Prop
  | .int i => i.natAbs < 2 ^ 1900
  | .str x => (reprText x).length ≤ 90000
  | .tup l => shQL l
  | .lst l => shQL l
  | .non => True
  | .bl _ => True
  | .raw _ => False
  | .ext _ => False
  | .scr _ => False
def shQL : List D → Prop
  | [] => True
  | d :: ds => shQ d ∧ shQL ds
end
mutual
def dpD : D → Nat
  | .tup l => dpL l + 1
  | .lst l => dpL l + 1
  | _ => 0
def dpL : List D → Nat
  | [] => 0
  | d :: ds => max (dpD d) (dpL ds)
end
mutual
def wtS : D → Nat
  | .int _ => 1930
  | .str x => (reprText x).length
  | .tup l => wtL l + 3
  | .lst l => wtL l + 3
  | _ => 8
def wtL : List D → Nat
  | [] => 0
  | d :: ds => wtS d + 2 + wtL ds
end
section
variable {P : Program} {w : World} {K : PySem.W.Frag}
end
section
variable {P : Program} {w : World} {K : PySem.W.Frag}
end
/-! ### what values are -/
/-! ### contracts of the checks over any values -/
/-- any value that is handed to the program -/
structure Any (K : PySem.W.Frag) (d : D) : Prop where
  t : AnyT K d
  l : ∀ l, d = .tup l → l.length ≤ 1000
theorem Any.pt {K : PySem.W.Frag} {d : D} (h : ptD d = true) (k : ∀ l, d = .tup l → l.length ≤ 1000 := by intro l e; first | (cases e; decide) | cases e) : Any K d := ⟨any_pt h, k⟩
theorem Any.ext {K : PySem.W.Frag} {Q : Hp → V → Prop} (h : AnyV K (.ext Q)) : Any K (.ext Q) := ⟨any_ext h, fun _ e => nomatch e⟩
theorem Any.i2 {K : PySem.W.Frag} {p q : Int} : Any K (.tup [.int p, .int q]) := .pt rfl (fun l e => by cases e; exact Nat.le_add_left 2 998)
/-! ### errors told apart -/
/-- an owned list's item -/
theorem ix_pickO {p : Addr} {l : List D} {i : Int} {S : Sto} {Q : D → Sto → Prop} (P : D → Prop) (g : getS p S = some l) (h : ∀ x ∈ l, P x) (h0 : 0 ≤ i) (h1 : i < (l.length : Int)) (k : ∀ x, P x → Q x S) : ixP (.raw (.ref p)) (.int i) S Q := by
  obtain ⟨x, e, px⟩ := pickL h h0 h1
  exact ⟨l, x, g, e, k x px⟩
/-! ### plain values, looked at by the kernel -/
end Tp
namespace Tp
open PySem PySem.Spec PyProof.Rows L2 DL
/-! ### k06: what is told -/
/-! ### the eight answers -/
end Tp
namespace Tp
open PySem PySem.Spec PyProof.Rows L2 DL
/-! ### k18: what is told of losses -/
end Tp
namespace Tp
open PySem PySem.Spec PyProof.Rows L2 DL
/-! ### arguments that are checked one behind the other -/
/-- bounds of a pair -/
def PB (B : Nat) (d : D) : Prop := ∀ x y : Int, d = .tup [.int x, .int y] → Bd B x ∧ Bd B y
theorem PB.up {A B : Nat} {d : D} (h : PB A d) (k : A ≤ B) : PB B d := fun x y e => ⟨(h x y e).1.up k, (h x y e).2.up k⟩
/-! ### rests, of any value -/
/-! ### k11: what is told -/
end Tp
namespace Tp
open PySem PySem.Spec PyProof.Rows L2 DL
/-! ### errors with a field, told -/
/-! ### one turn checked first -/
/-! ### k28: what is told of misses -/
end Tp
namespace Tp
open PySem PySem.Spec PyProof.Rows L2 DL
/-! ### k24: what is told of losses and sources -/
theorem eqP_ne {x y : D} {S : Sto} {Q : Bool → Sto → Prop} (h : flatOk 9 x = true ∧ flatOk 9 y = true) (n1 : ∀ i j, x = .int i → y = .int j → False) (n2 : ∀ i j, x = .str i → y = .str j → False) (z : eqB x y = false) (q : Q false S) : eqP x y S Q := eq_deep (by rw [z]; exact q) h n1 n2
end Tp
namespace Tp
open PySem PySem.Spec PyProof.Rows L2 DL
/-! ### k50: scales, of any value -/
section
variable {P : Program} {w : World} {K : PySem.W.Frag}
end
end Tp
namespace Tp
open PySem PySem.Spec PyProof.Rows L2 DL
/-! ### k55: six-cornered turns, of any value -/
/-! strips, and what lies within -/
/-! contracts -/
/-! what is told -/
section
variable {P : Program} {w : World} {K : PySem.W.Frag}
end
end Tp
namespace Tp
open PySem PySem.Spec PyProof.Rows L2 DL
/-! ### k01: any thing, recognized -/
def flB : D → Bool
  | .tup l => flatOkL 8 l
  | _ => true
section
variable {P : Program} {w : World} {K : PySem.W.Frag}
end
end Tp
namespace Tp
open PySem PySem.Spec PyProof.Rows L2 DL
/-! ### k07: rests, told of any thing -/
section
variable {P : Program} {w : World} {K : PySem.W.Frag}
end
end Tp
namespace Tp
open PySem PySem.Spec PyProof.Rows L2 DL
/-! ### ways: what turns come to, one behind the other -/
def mulL (x y : Int × Int × Int) : Int × Int × Int := (x.1 * y.1 - x.2.1 * y.2.1, x.1 * y.2.1 + x.2.1 * y.1, x.2.2 * y.2.2)
def lgT (t : Trn) : Int × Int × Int := (lgA t.1 t.2.1 t.2.2, lgB t.1 t.2.1 t.2.2, cc t.1 t.2.1)
def EqR (x y : Int × Int × Int) : Prop := x.1 * y.2.2 = y.1 * x.2.2 ∧ x.2.1 * y.2.2 = y.2.1 * x.2.2
theorem EqR.symm {x y : Int × Int × Int} (h : EqR x y) : EqR y x := ⟨h.1.symm, h.2.symm⟩
theorem mulL_assoc (x y z : Int × Int × Int) : mulL (mulL x y) z = mulL x (mulL y z) := by
  unfold mulL
  dsimp only
  refine Prod.ext ?_ (Prod.ext ?_ ?_) <;> dsimp only <;> grind
theorem mulL_one (x : Int × Int × Int) : mulL x (1, 0, 1) = x := by
  unfold mulL
  dsimp only
  refine Prod.ext ?_ (Prod.ext ?_ ?_) <;> dsimp only <;> omega
def sumL (l : List Trn) : Int × Int × Int := l.foldl (fun a t => mulL a (lgT t)) (1, 0, 1)
theorem lg_bk2 {p q k : Int} (h : Tn p q k) : lgA p (-q) (-k % 4) = lgA p q k ∧ lgB p (-q) (-k % 4) = -lgB p q k := by
  obtain ⟨h1, h2⟩ := lg_back h 1 0
  unfold exX at h1
  unfold exY at h2
  exact ⟨by omega, by omega⟩
theorem lgT_bk {t : Trn} (h : TnT t) : lgT (bkT t) = ((lgT t).1, -(lgT t).2.1, (lgT t).2.2) := by
  obtain ⟨h1, h2⟩ := lg_bk2 h
  unfold lgT bkT
  dsimp only
  rw [h1, h2, cc_neg]
theorem bk_tn {t : Trn} (h : TnT t) : TnT (bkT t) := tn_bk2 h
end Tp
namespace Tp
open PySem PySem.Spec PyProof.Rows L2 DL
/-! ### k41: ways for turns -/
theorem rt_sq2 (j : Nat) (a b : Int) : rtX j a b * rtX j a b + rtY j a b * rtY j a b = cc a b := by
  unfold cc
  match j with
  | 0 => simp only [rtX, rtY]
  | 1 => simp only [rtX, rtY]; grind
  | 2 => simp only [rtX, rtY]; grind
  | _ + 3 => simp only [rtX, rtY]; grind
end Tp
namespace Tp
open PySem PySem.Spec PyProof.Rows L2 DL
/-! ### k41: the way, item by item -/
open Classical in
def SmT (u : Trn) : Prop := u.1 ≤ 10000000000 ∧ -10000000000 ≤ u.2.1 ∧ u.2.1 ≤ 10000000000
theorem it_sm {u : Trn} (h : SmT u) : SmT (bkT u) := ⟨h.1, by have := h.2.2; show _ ≤ -u.2.1; omega, by have := h.2.1; show -u.2.1 ≤ _; omega⟩
open Classical in
structure WayOk (t : Trn) (W : List Trn) : Prop where
  kw : ∀ u ∈ W, KW u
  sm : ∀ u ∈ W, SmT u
  len : W.length ≤ 34
  eq : EqR (sumL W) (lgT t)
  cnt : ((2 ^ (W.filter fun u => !decide (u.2.1 = 0)).length : Nat) : Int) ≤ cc t.1 t.2.1
/-! ### the legs that a way comes to -/
def gst (v : Int × Int) (t : Trn) : Int × Int := (v.1 * t.1 - v.2 * t.2.1, v.1 * t.2.1 + v.2 * t.1)
def gpr (l : List Trn) : Int × Int := l.foldl gst (1, 0)
def qsm (l : List Trn) : Int := l.foldl (fun a t => a + t.2.2) 0
def legP (x y K : Int) : Int × Int × Int := (rtX (K % 4).toNat (x * x - y * y) (x * y + y * x), rtY (K % 4).toNat (x * x - y * y) (x * y + y * x), x * x + y * y)
theorem legP_mul {x y K : Int} {t : Trn} (h : TnT t) : mulL (legP x y K) (lgT t) = legP (gst (x, y) t).1 (gst (x, y) t).2 (K + t.2.2) := by
  obtain ⟨p, q, k⟩ := t
  have k1 := h.k1
  have k2 := h.k2
  have k1 : 0 ≤ k := k1
  have k2 : k ≤ 3 := k2
  obtain ⟨e1, e2⟩ := rt_mul (k := K % 4) (l := k) ⟨by omega, by omega⟩ ⟨k1, by omega⟩ (x * x - y * y) (x * y + y * x) (p * p - q * q) (p * q + q * p)
  unfold mulL legP lgT lgA lgB gst
  dsimp only
  have em : (K % 4 + k) % 4 = (K + k) % 4 := by omega
  refine Prod.ext ?_ (Prod.ext ?_ ?_) <;> dsimp only
  · rw [e1, em]
    congr 1 <;> grind
  · rw [e2, em]
    congr 1 <;> grind
  · unfold cc
    grind
theorem sum_leg (l : List Trn) (h : ∀ t ∈ l, TnT t) : sumL l = legP (gpr l).1 (gpr l).2 (qsm l) := by
  have key : ∀ (l : List Trn) (v : Int × Int) (K : Int), (∀ t ∈ l, TnT t) → l.foldl (fun a t => mulL a (lgT t)) (legP v.1 v.2 K) = legP (l.foldl gst v).1 (l.foldl gst v).2 (l.foldl (fun a t => a + t.2.2) K) := by
    intro l
    induction l with
    | nil => intro v K _; rfl
    | cons t l ih =>
      intro v K h
      rw [List.foldl_cons, List.foldl_cons, List.foldl_cons, legP_mul (h t List.mem_cons_self)]
      exact ih (gst v t) _ fun u hu => h u (List.mem_cons_of_mem _ hu)
  have := key l (1, 0) 0 h
  unfold sumL gpr qsm
  rw [← this]
  rfl
/-- legs without a common divisor -/
theorem co_sq {x y : Int} (g : Nat.gcd x.natAbs y.natAbs = 1) (o : cc x y % 2 = 1) : ∃ s t : Int, s * (x * x - y * y) + t * (x * y + y * x) = 1 := by
  obtain ⟨s, t, b⟩ := bez g
  obtain ⟨j, hj⟩ : ∃ j, cc x y = 2 * j + 1 := ⟨cc x y / 2, by omega⟩
  obtain ⟨s2, t2, e2⟩ : ∃ s t : Int, s * (x * x - y * y) + t * cc x y = 1 := by
    obtain ⟨α, hα⟩ : ∃ α, α = s * s * s * x + 3 * s * s * t * y := ⟨_, rfl⟩
    obtain ⟨β, hβ⟩ : ∃ β, β = 3 * s * t * t * x + t * t * t * y := ⟨_, rfl⟩
    have e : x * x * α + y * y * β = 1 := by
      have : x * x * α + y * y * β = (s * x + t * y) * (s * x + t * y) * (s * x + t * y) := by rw [hα, hβ]; grind
      rw [this, b] <;> rfl
    refine ⟨-j * (α - β), 1 - j * (α + β), ?_⟩
    have e2 : -j * (α - β) * (x * x - y * y) + (1 - j * (α + β)) * cc x y = cc x y - 2 * j * (x * x * α + y * y * β) := by unfold cc; grind
    rw [e2, e, hj]
    omega
  refine ⟨s2 * s2 * (x * x - y * y) + 2 * s2 * t2 * cc x y + t2 * t2 * (x * x - y * y), t2 * t2 * (x * y + y * x), ?_⟩
  have c2 : cc x y * cc x y = (x * x - y * y) * (x * x - y * y) + (x * y + y * x) * (x * y + y * x) := by unfold cc; grind
  generalize x * x - y * y = a at *
  generalize x * y + y * x = b at *
  generalize cc x y = c at *
  have : (s2 * s2 * a + 2 * s2 * t2 * c + t2 * t2 * a) * a + t2 * t2 * b * b = (s2 * a + t2 * c) * (s2 * a + t2 * c) + t2 * t2 * (a * a + b * b - c * c) := by grind
  rw [this, e2, c2]
  grind
end Tp
namespace Tp
open PySem PySem.Spec PyProof.Rows L2 DL
/-! ### k41: what is promised -/
theorem gok_two {P : Program} {w : World} {K : PySem.W.Frag} {mg : Str → Option Value} {base : Heap} {k : Nat} {f : Addr} {fd : FuncData} {ps : List Str} {C A B : Con} (a : GOk P w K mg base k f fd ps (spD K A)) (b : GOk P w K mg base k f fd ps (spD K B)) (h : ∀ ds S Q, C ds S Q → A ds S Q ∨ B ds S Q) :
    GOk P w K mg base k f fd ps (spD K C) :=
  ⟨fun vs H Q E ⟨ds, S, Hd, Qd, z1, z2, z3, z4⟩ => (h ds S Qd z3).elim (fun z => a.len vs H Q E ⟨ds, S, Hd, Qd, z1, z2, z, z4⟩) (fun z => b.len vs H Q E ⟨ds, S, Hd, Qd, z1, z2, z, z4⟩),
   fun A9 fr s H ar us vs Q E gd hr e0 hb r ⟨ds, S, Hd, Qd, z1, z2, z3, z4⟩ => (h ds S Qd z3).elim (fun z => a.run A9 fr s H ar us vs Q E gd hr e0 hb r ⟨ds, S, Hd, Qd, z1, z2, z, z4⟩) (fun z => b.run A9 fr s H ar us vs Q E gd hr e0 hb r ⟨ds, S, Hd, Qd, z1, z2, z, z4⟩)⟩
theorem noS_src1 {p : Addr} {l : List D} {m : Nat} (h : Src m l) : noS [(p, l)] := by
  obtain ⟨a, b, c, e, _⟩ := h
  exact noS_cons (by rw [e] <;> rfl) noS_nil
end Tp
namespace Tp
open PySem PySem.Spec PyProof.Rows L2 DL
/-! ### k80: products of ways -/
theorem mulL_comm (x y : Int × Int × Int) : mulL x y = mulL y x := by
  unfold mulL
  refine Prod.ext ?_ (Prod.ext ?_ ?_) <;> dsimp only <;> grind
theorem one_mulL (x : Int × Int × Int) : mulL (1, 0, 1) x = x := by rw [mulL_comm, mulL_one]
theorem fold_mul : ∀ (m : List Trn) (x : Int × Int × Int), m.foldl (fun a t => mulL a (lgT t)) x = mulL x (sumL m)
  | [], x => (mulL_one x).symm
  | t :: m, x => by
    unfold sumL
    rw [List.foldl_cons, List.foldl_cons, fold_mul m, fold_mul m, one_mulL, mulL_assoc]
theorem sumL_append (l m : List Trn) : sumL (l ++ m) = mulL (sumL l) (sumL m) := by
  unfold sumL
  rw [List.foldl_append]
  exact fold_mul m _
theorem sumL_cons (t : Trn) (l : List Trn) : sumL (t :: l) = mulL (lgT t) (sumL l) := by
  have := fold_mul l (mulL (1, 0, 1) (lgT t))
  rw [one_mulL] at this
  unfold sumL
  rw [List.foldl_cons, one_mulL]
  exact this
def conjL (z : Int × Int × Int) : Int × Int × Int := (z.1, -z.2.1, z.2.2)
theorem conj_mul (x y : Int × Int × Int) : conjL (mulL x y) = mulL (conjL x) (conjL y) := by
  unfold conjL mulL
  refine Prod.ext ?_ (Prod.ext ?_ ?_) <;> dsimp only <;> grind
theorem sumL_away : ∀ (l : List Trn), (∀ t ∈ l, TnT t) → sumL (l.reverse.map bkT) = conjL (sumL l)
  | [], _ => by decide
  | t :: l, h => by
    rw [List.reverse_cons, List.map_append, sumL_append, sumL_away l fun u hu => h u (List.mem_cons_of_mem _ hu), sumL_cons, conj_mul, mulL_comm]
    congr 1
    show sumL [bkT t] = _
    rw [sumL_cons, show sumL [] = (1, 0, 1) from rfl, mulL_one, lgT_bk (h t List.mem_cons_self)]
    rfl
theorem leg_sq (x y K : Int) : (legP x y K).1 * (legP x y K).1 + (legP x y K).2.1 * (legP x y K).2.1 = (legP x y K).2.2 * (legP x y K).2.2 := by
  unfold legP
  dsimp only
  rw [rt_sq2]
  unfold cc
  grind
theorem sum_unit {l : List Trn} (h : ∀ t ∈ l, TnT t) : EqR (mulL (sumL l) (conjL (sumL l))) (1, 0, 1) := by
  rw [sum_leg l h]
  have e := leg_sq (gpr l).1 (gpr l).2 (qsm l)
  generalize legP (gpr l).1 (gpr l).2 (qsm l) = z at e
  unfold EqR mulL conjL
  dsimp only
  constructor <;> grind
structure RdOk (n : Nat) (t : Trn) (l : List Trn) : Prop where
  tn : TnT t
  kw : ∀ u ∈ l, KW u
  sm : ∀ u ∈ l, SmT u
  len : l.length ≤ n
  eq : EqR (sumL l) (lgT t)
theorem RdOk.of {t : Trn} {W : List Trn} (hT : TnT t) (h : WayOk t W) : RdOk 34 t W := ⟨hT, h.kw, h.sm, h.len, h.eq⟩
theorem mem_app {α : Type} {P : α → Prop} {l m : List α} (h : ∀ x ∈ l, P x) (k : ∀ x ∈ m, P x) : ∀ x ∈ l ++ m, P x := fun x hx => (List.mem_append.mp hx).elim (h x) (k x)
theorem RdOk.away {n : Nat} {t : Trn} {l : List Trn} (h : RdOk n t l) : RdOk n (bkT t) (l.reverse.map bkT) := by
  refine ⟨bk_tn h.tn, kw_rev h.kw, fun u hu => ?_, by rw [List.length_map, List.length_reverse]; exact h.len, ?_⟩
  · obtain ⟨v, hv, rfl⟩ := List.mem_map.mp hu
    exact it_sm (h.sm v (List.mem_reverse.mp hv))
  · rw [sumL_away l fun u hu => (h.kw u hu).1, lgT_bk h.tn]
    obtain ⟨e1, e2⟩ := h.eq
    unfold EqR conjL
    dsimp only
    exact ⟨e1, by rw [Int.neg_mul, Int.neg_mul, e2]⟩
theorem tn_unit : TnT (1, 0, 0) := ⟨by decide, by decide, by decide, by decide, by decide, by decide, by decide, by decide⟩
theorem lg_unit80 : lgT (1, 0, 0) = (1, 0, 1) := by decide +kernel
theorem RdOk.none {n : Nat} {t : Trn} {l : List Trn} (h : RdOk n t l) : RdOk (n + n) (1, 0, 0) (l ++ l.reverse.map bkT) := by
  have k := h.away
  refine ⟨tn_unit, mem_app h.kw k.kw, mem_app h.sm k.sm, by rw [List.length_append]; have := h.len; have := k.len; omega, ?_⟩
  rw [sumL_append, sumL_away l fun u hu => (h.kw u hu).1, lg_unit80]
  exact sum_unit fun u hu => (h.kw u hu).1
end Tp
namespace Tp
open PySem PySem.Spec PyProof.Rows L2 DL
/-! ### k54: balls -/
/-! the image of the image by the back turn, where the hexagons are alike -/
/-! rows of strips, reckoned -/
end Tp
namespace Tp
open PySem PySem.Spec PyProof.Rows L2 DL
/-! ### k54: what is promised -/
end Tp
namespace Tp
open PySem PySem.Spec PyProof.Rows L2 DL
/-! ### k23: losses, of any value -/
structure LsE (x : D) : Prop where
  pt : ptD x = true
  fl : flatOk 8 x = true
  f9 : flatOk 9 x = true
  fb : flB x = true
  ln : ∀ l, x = .tup l → l.length ≤ 1000
  bd : PB 280 x
  sh : shQ x
  dp : dpD x ≤ 3
  wt : wtS x ≤ 9000
theorem LsE.any {K : PySem.W.Frag} {x : D} (h : LsE x) : Any K x := .pt h.pt h.ln
theorem cut_1 {v : D} {r : List D} : DL.cutD (v :: r) (some 1) none = r := by
  rw [cut_from (by decide) (by rw [List.length_cons]; omega)]
  rfl
theorem sl_1 {v : D} {r : List D} {S : Sto} {Q : D → Sto → Prop} (q : Q (.tup r) S) : slP (.tup (v :: r)) (some 1) none S Q := by
  refine ⟨fun h => ?_, by rw [cut_1]; exact q⟩
  have h1 := h.1
  unfold HT.sIx at h1
  simp at h1
/-! things -/
section
variable {P : Program} {w : World} {K : PySem.W.Frag}
end
theorem sl_m2 {a b : D} {S : Sto} {Q : D → Sto → Prop} (q : Q (.tup [a]) S) : slP (.tup [a, b]) none (some (-1)) S Q := ⟨(show ¬ (HT.sIx 2 0 none = 0 ∧ HT.sIx 2 2 (some (-1)) = 2) by decide), q⟩
theorem sl_m3 {a b c : D} {S : Sto} {Q : D → Sto → Prop} (q : Q (.tup [a, b]) S) : slP (.tup [a, b, c]) none (some (-1)) S Q := ⟨(show ¬ (HT.sIx 3 0 none = 0 ∧ HT.sIx 3 3 (some (-1)) = 3) by decide), q⟩
end Tp
namespace Tp
open PySem PySem.Spec PyProof.Rows L2 DL
/-! ### k44: ways, of any value -/
/-! contracts -/
end Tp
namespace Tp
open PySem PySem.Spec PyProof.Rows L2 DL
/-! ### k44: what is asked, what is told -/
end Tp
namespace Tp
open PySem PySem.Spec PyProof.Rows L2 DL
/-! ### k44: how great -/
end Tp
namespace Tp
open PySem PySem.Spec PyProof.Rows L2 DL
/-! ### k44: what is asked of the law's own defs -/
section
variable {P : Program} {w : World} {K : PySem.W.Frag}
end
/-! answers -/
end Tp
namespace Tp
open PySem PySem.Spec PyProof.Rows L2 DL
/-! ### k44: doors, mixed roads, the great ones -/
section
variable {P : Program} {w : World} {K : PySem.W.Frag}
end
/-! the last ones -/
end Tp
namespace Tp
open PySem PySem.Spec PyProof.Rows L2 DL
/-! ### k78: the matrices of shears -/
def mLg (a b c : Int) : Mt := (a, -b, b, a, c)
theorem nrm_id {m : Mt} (h : foldG (ml m) = 1) : nrm m = m := by
  unfold nrm
  rw [h]
  refine mt_ext ?_ ?_ ?_ ?_ ?_ <;> exact Int.ediv_one _
theorem foldG_bez {m : Mt} {s t : Int} (h : s * m.1 + t * m.2.2.1 = 1) : foldG (ml m) = 1 := by
  have hd := (foldG_dvd (ns := ml m) (g := 0)).2
  have h1 : foldG (ml m) ∣ m.1.natAbs := hd m.1 (by simp [ml])
  have h2 : foldG (ml m) ∣ m.2.2.1.natAbs := hd m.2.2.1 (by simp [ml])
  have e1 : ((foldG (ml m) : Nat) : Int) ∣ m.1 := Int.ofNat_dvd_left.mpr h1
  have e2 : ((foldG (ml m) : Nat) : Int) ∣ m.2.2.1 := Int.ofNat_dvd_left.mpr h2
  have e3 : ((foldG (ml m) : Nat) : Int) ∣ 1 := by
    rw [← h]
    exact Int.dvd_add (Int.dvd_mul_of_dvd_right e1) (Int.dvd_mul_of_dvd_right e2)
  have e4 : foldG (ml m) ∣ 1 := Int.natCast_dvd_natCast.mp e3
  exact Nat.dvd_one.mp e4
theorem nrm_lg {a b c s t : Int} (h : s * a + t * b = 1) : nrm (mLg a b c) = mLg a b c := nrm_id (foldG_bez (m := mLg a b c) h)
theorem mat_raw (p q : Int) (o : Bool) : matN (shC p q o) idM = smM (p * p) (mLg (p * p - q * q) (2 * p * q) (p * p + q * q)) := by
  cases o
  · show mt1 (false, q, p) (mt1 (true, -(2 * p * q), p * p + q * q) (mt1 (false, q, p) idM)) = _
    unfold mt1 idM smM mLg
    refine mt_ext ?_ ?_ ?_ ?_ ?_ <;> dsimp only <;> simp <;> grind
  · show mt1 (true, -q, p) (mt1 (false, 2 * p * q, p * p + q * q) (mt1 (true, -q, p) idM)) = _
    unfold mt1 idM smM mLg
    refine mt_ext ?_ ?_ ?_ ?_ ?_ <;> dsimp only <;> simp <;> grind
theorem bez_leg {p q k : Int} (h : Tn p q k) : ∃ s t : Int, s * (p * p - q * q) + t * (2 * p * q) = 1 := by
  have h0 : Tn p q 0 := Tn.zero h
  obtain ⟨s, t, e⟩ := bez (gcd_lg h0)
  have e1 : lgA p q 0 = p * p - q * q := by unfold lgA; rfl
  have e2 : lgB p q 0 = 2 * p * q := by
    unfold lgB
    show p * q + q * p = 2 * p * q
    grind
  rw [e1, e2] at e
  exact ⟨s, t, e⟩
theorem pp1 {p q k : Int} (h : Tn p q k) : 1 ≤ p * p := by
  have := Int.mul_le_mul_of_nonneg_left h.p1 (show 0 ≤ p by have := h.p1; omega)
  have := h.p1
  omega
theorem mat_sh {p q k : Int} (h : Tn p q k) (o : Bool) : matC (shC p q o) = mLg (p * p - q * q) (2 * p * q) (p * p + q * q) := by
  obtain ⟨s, t, e⟩ := bez_leg h
  unfold matC
  rw [mat_raw, nrm_sm (pp1 h), nrm_lg e]
theorem mat_back {p q k : Int} (h : Tn p q k) (o : Bool) : matC (shC p (-q) o) = mLg (p * p - q * q) (-(2 * p * q)) (p * p + q * q) := by
  rw [mat_sh (tn_bk2 h) o]
  unfold mLg
  refine mt_ext ?_ ?_ ?_ ?_ ?_ <;> dsimp only <;> grind
theorem mul_lg (a b c d e f : Int) : mulM (mLg a b c) (mLg d e f) = mLg (a * d - b * e) (b * d + a * e) (c * f) := by
  unfold mulM mLg
  refine mt_ext ?_ ?_ ?_ ?_ ?_ <;> dsimp only <;> grind
theorem sm_smM (g k : Int) (m : Mt) : smM g (smM k m) = smM (g * k) m := by
  unfold smM
  refine mt_ext ?_ ?_ ?_ ?_ ?_ <;> dsimp only <;> rw [Int.mul_assoc]
theorem mat_two (p q r s : Int) (o u : Bool) : matN (shC p q o ++ shC r s u) idM = smM ((r * r) * (p * p)) (mulM (mLg (r * r - s * s) (2 * r * s) (r * r + s * s)) (mLg (p * p - q * q) (2 * p * q) (p * p + q * q))) := by
  rw [matN_app, matN_mul, mat_raw, mat_raw, sm_mul]
theorem leg_nrm (p q : Int) : (p * p - q * q) * (p * p - q * q) + (2 * p * q) * (2 * p * q) = (p * p + q * q) * (p * p + q * q) := by grind
theorem mat_none {p q k : Int} (h : Tn p q k) (o : Bool) : matC (shC p q o ++ shC p (-q) o) = idM := by
  unfold matC
  have h1 := pp1 h
  have hp : 1 ≤ (p * p) * (p * p) := by
    have := Int.mul_le_mul_of_nonneg_left h1 (show 0 ≤ p * p by omega)
    omega
  have hc : 0 < cc p q := cc_pos h
  unfold cc at hc
  have hc2 : 1 ≤ (p * p + q * q) * (p * p + q * q) := by
    have := Int.mul_le_mul_of_nonneg_left (show 1 ≤ p * p + q * q by omega) (show 0 ≤ p * p + q * q by omega)
    omega
  have key : mulM (mLg (p * p - -q * -q) (2 * p * -q) (p * p + -q * -q)) (mLg (p * p - q * q) (2 * p * q) (p * p + q * q)) = smM ((p * p + q * q) * (p * p + q * q)) idM := by
    rw [mul_lg]
    unfold mLg smM idM
    have := leg_nrm p q
    refine mt_ext ?_ ?_ ?_ ?_ ?_ <;> dsimp only <;> simp <;> grind
  rw [mat_two, key, sm_smM, nrm_sm (by have := Int.mul_le_mul_of_nonneg_left hc2 (show 0 ≤ p * p * (p * p) by omega); omega)]
  exact nrm_id (by decide +kernel)
theorem mat_twice {p q k : Int} (h : Tn p q k) (o : Bool) : matC (shC p q o ++ shC p q o) = mLg ((p * p - q * q) * (p * p - q * q) - (2 * p * q) * (2 * p * q)) (2 * (p * p - q * q) * (2 * p * q)) ((p * p + q * q) * (p * p + q * q)) := by
  unfold matC
  have h1 := pp1 h
  have hp : 1 ≤ (p * p) * (p * p) := by
    have := Int.mul_le_mul_of_nonneg_left h1 (show 0 ≤ p * p by omega)
    omega
  rw [mat_two, nrm_sm hp, mul_lg]
  obtain ⟨s, t, e⟩ := bez_leg h
  obtain ⟨x, hx⟩ : ∃ x, x = p * p - q * q := ⟨_, rfl⟩
  obtain ⟨y, hy⟩ : ∃ y, y = 2 * p * q := ⟨_, rfl⟩
  have hn := leg_nrm p q
  have ho := cc_odd h
  unfold cc at ho
  have hodd : cc x y % 2 = 1 := by
    unfold cc
    rw [hx, hy, hn, Int.mul_emod, ho]
    rfl
  rw [← hx, ← hy] at e ⊢
  have g1 : Nat.gcd x.natAbs y.natAbs = 1 := by
    have d1 : ((Nat.gcd x.natAbs y.natAbs : Nat) : Int) ∣ x := Int.ofNat_dvd_left.mpr (Nat.gcd_dvd_left _ _)
    have d2 : ((Nat.gcd x.natAbs y.natAbs : Nat) : Int) ∣ y := Int.ofNat_dvd_left.mpr (Nat.gcd_dvd_right _ _)
    have d3 : ((Nat.gcd x.natAbs y.natAbs : Nat) : Int) ∣ 1 := by
      rw [← e]
      exact Int.dvd_add (Int.dvd_mul_of_dvd_right d1) (Int.dvd_mul_of_dvd_right d2)
    exact Nat.dvd_one.mp (Int.natCast_dvd_natCast.mp d3)
  obtain ⟨s2, t2, e2⟩ := co_sq g1 hodd
  have e3 : y * x + x * y = x * y + y * x := Int.add_comm _ _
  rw [e3, nrm_lg e2]
  have e4 : x * y + y * x = 2 * x * y := by grind
  rw [e4]

end Tp
namespace Tp
open PySem PySem.Spec PyProof.Rows L2 DL
/-! ### k78: contracts -/
def con_lowZ : Con := fun ds S Q => ∃ n d : Int, ds = [.int n, .int d] ∧ d ≠ 0 ∧ (Bd 1500 n ∧ Bd 700 d) ∧ ∀ x y : Int, Q (.tup [.int x, .int y]) S
def con_low2 : Con := fun ds S Q => con_lowest ds S Q ∨ con_lowZ ds S Q
def con_stepZ : Con := fun ds S Q => ∃ (b : Bool) (n d : Int), ds = [.str (ax b), .int n, .int d] ∧ d ≠ 0 ∧ (Bd 600 n ∧ Bd 600 d) ∧ ∀ x y : Int, Q (.tup [.str (ax b), .int x, .int y]) S
def con_step2 : Con := fun ds S Q => con_step ds S Q ∨ con_stepZ ds S Q
def con_thr78 : Con := fun ds S Q => ∃ p q k : Int, ds = [mD (mLg (p * p - q * q) (2 * p * q) (p * p + q * q))] ∧ Tn p q k ∧ q ≠ 0 ∧ ∀ l : List D, l.length = 3 → Q (.lst l) S
def con_cf78 : Con := fun ds S Q => ∃ p q k : Int, ds = [mD (mLg (p * p - q * q) (2 * p * q) (p * p + q * q))] ∧ Tn p q k ∧ ∀ l : List D, l.length = (if q = 0 then 0 else 3) → Q (.lst l) S
theorem cdm {j : Int} {b : Nat} (h : Bd b j) (h0 : j ≠ 0) (z : b ≤ 8000) (i : Int) : CDivM i j := ⟨h0, by
  have e : ¬ j.natAbs = 0 := by omega
  exact Nat.lt_of_lt_of_le ((Nat.log2_lt e).mpr h) (by omega)⟩
theorem due_lg {p q k : Int} (h : Tn p q k) : dueM (mLg (p * p - q * q) (2 * p * q) (p * p + q * q)) = if q = 0 then 0 else 3 := by
  have hp := h.p1
  unfold dueM mLg
  dsimp only
  by_cases hq : q = 0
  · subst hq
    simp
  · have hqq : 0 < q * q := by
      rcases Int.lt_or_gt_of_ne hq with z | z
      · have := Int.mul_pos_of_neg_of_neg z z; omega
      · have := Int.mul_pos z z; omega
    have hb : ¬ 2 * p * q = 0 := fun z => by
      rcases Int.mul_eq_zero.mp z with e | e
      · omega
      · exact hq e
    have ha : ¬ p * p - q * q = p * p + q * q := by omega
    simp [hq, hb, ha]
theorem lg_is {p q k : Int} (h : Tn p q k) (o : Bool) : IsM (mLg (p * p - q * q) (2 * p * q) (p * p + q * q)) := by
  have := matC_is (shC_ok h o)
  rwa [mat_sh h o] at this
theorem lg_bd78 {p q k : Int} (h : Tn p q k) : BdM 1300 (mLg (p * p - q * q) (2 * p * q) (p * p + q * q)) := by
  have := matC_bd (shC_ok h true)
  rw [mat_sh h true] at this
  exact this.up (by decide)
def con_lr78 : Con := fun ds S Q => ∃ (p q k : Int) (o : Bool), ds = [.tup [.int p, .int q, .int k], .str (od o)] ∧ Tn p q k ∧ Q (.bl true) S
theorem len8 {p q r s : Int} (o u : Bool) : (shC p q o ++ shC r s u).length ≤ 8 := by
  cases o <;> cases u <;> exact Nat.le_of_ble_eq_true rfl
theorem okc_two {p q k r s l : Int} (h : Tn p q k) (h' : Tn r s l) (o u : Bool) : OkC (shC p q o ++ shC r s u) := ⟨fun t ht => (List.mem_append.mp ht).elim ((shC_ok h o).1 t) ((shC_ok h' u).1 t), len8 o u⟩
theorem gcdZ (n : Int) {d : Int} (hd : d ≠ 0) (b : Bd 700 d) : 0 < ((Nat.gcd n.natAbs d.natAbs : Nat) : Int) ∧ Bd 700 ((Nat.gcd n.natAbs d.natAbs : Nat) : Int) := by
  have h1 : 0 < Nat.gcd n.natAbs d.natAbs := Nat.gcd_pos_of_pos_right _ (by omega)
  have h2 : Nat.gcd n.natAbs d.natAbs ≤ d.natAbs := Nat.gcd_le_right _ (by omega)
  refine ⟨by omega, ?_⟩
  unfold Bd at *
  omega

end Tp
namespace Tp
open PySem PySem.Spec PyProof.Rows L2 DL
/-! ### k78: pictures in order -/
theorem ix_pr {os : List (Int × Int)} {i : Int} {v : Int × Int} {S : Sto} {Q : D → Sto → Prop} (h0 : 0 ≤ i) (h : os[i.toNat]? = some v) (q : Q (pr2 v) S) : ixP (.lst (os.map pr2)) (.int i) S Q := by
  refine ⟨pr2 v, ?_, q⟩
  have e : i = ((i.toNat : Nat) : Int) := by omega
  rw [e]
  exact atI_nat (by rw [List.getElem?_map, h] <;> rfl)
def SortP (l : List (Int × Int)) : Prop := ∀ i v w, l[i]? = some v → l[i + 1]? = some w → lt2 v w = true
def con_fw78 : Con := fun ds S Q => ∃ l : List (Int × Int), ds = [.lst (l.map pr2)] ∧ SortP l ∧ l.length ≤ 400 ∧ Q .non S
def con_shp78 : Con := fun ds S Q => ∃ (p q k : Int) (o : Bool) (l : List (Int × Int)), ds = [.tup [.int p, .int q, .int k], .str (od o), .lst (l.map pr2)] ∧ Tn p q k ∧ SortP l ∧ l.length ≤ 400 ∧ (∀ v ∈ l, BdP 400 v) ∧ Q (.lst (((l.map fun v => shV p q k o v.1 v.2).mergeSort le2).map pr2)) S
def con_shcP : Con := fun ds S Q => ∃ (p q k : Int) (o : Bool), ds = [.tup [.int p, .int q, .int k], .str (od o)] ∧ Tn p q k ∧ Q (.lst ((shC p q o).map stD)) S
def con_dr78 : Con := fun ds S Q => ∃ (p q k : Int) (o : Bool) (dots : List D), ds = [.tup [.int p, .int q, .int k], .str (od o), .lst dots] ∧ Tn p q k ∧ (∀ d ∈ dots, DotB 160 d) ∧ dots.length ≤ 10 ∧ Q (.bl true) S
def con_pr78 : Con := fun ds S Q => ∃ p q k r : Int, ds = [.tup [.int p, .int q, .int k], .int r] ∧ Tn p q k ∧ (0 ≤ r ∧ r ≤ 4) ∧ Q (.bl true) S
theorem leg0 (p q : Int) : lgA p q 0 = p * p - q * q ∧ lgB p q 0 = 2 * p * q ∧ cc p q = p * p + q * q := by
  refine ⟨by unfold lgA; rfl, ?_, rfl⟩
  unfold lgB
  show p * q + q * p = 2 * p * q
  grind
theorem nrr_1 (n : Int) : nrr n 1 = n := by unfold nrr; omega
theorem im_quart (k x y : Int) : imX 1 0 k x y = rtX k.toNat x y ∧ imY 1 0 k x y = rtY k.toNat x y := by
  have ec : cc 1 0 = 1 := by decide
  unfold imX imY exX exY
  rw [ec, nrr_1, nrr_1]
  unfold lgA lgB
  have h := rt_q k.toNat x y
  constructor
  · rw [← h.1]
    show rtX k.toNat 1 0 * x - rtY k.toNat 1 0 * y = _
    grind
  · rw [← h.2]
    show rtX k.toNat 1 0 * y + rtY k.toNat 1 0 * x = _
    grind
def con_swg78 : Con := fun ds S Q => ∃ x y k : Int, ds = [.tup [.int x, .int y], .int k] ∧ (Bd 1200 x ∧ Bd 1200 y) ∧ Q (.tup [.int (rtX (k % 4).toNat x y), .int (rtY (k % 4).toNat x y)]) S
theorem tn_quart (k : Int) : Tn 1 0 (k % 4) := ⟨by decide, by decide, by decide, by decide, by decide, by decide, by omega, by omega⟩
/-! where the two shears part -/
theorem rt_inj {j : Nat} {a b c d : Int} (h1 : rtX j a b = rtX j c d) (h2 : rtY j a b = rtY j c d) : a = c ∧ b = d := by
  match j with
  | 0 => exact ⟨h1, h2⟩
  | 1 => exact ⟨h2, Int.neg_inj.mp h1⟩
  | 2 => exact ⟨Int.neg_inj.mp h1, Int.neg_inj.mp h2⟩
  | _ + 3 => exact ⟨Int.neg_inj.mp h2, h1⟩
theorem par78 {p q k r : Int} {i j : Nat} {v : Bool} (hv : v = true ↔ (shV p q k true (-r + (i : Int)) (-r + (j : Int))).1 = (shV p q k false (-r + (i : Int)) (-r + (j : Int))).1 ∧ (shV p q k true (-r + (i : Int)) (-r + (j : Int))).2 = (shV p q k false (-r + (i : Int)) (-r + (j : Int))).2) :
    (!v) = partG (shC p q true) (shC p q false) r i j := by
  have e : v = true ↔ (ledN (shC p q true) (-r + (i : Int), -r + (j : Int))).1 = (ledN (shC p q false) (-r + (i : Int), -r + (j : Int))).1 ∧ (ledN (shC p q true) (-r + (i : Int), -r + (j : Int))).2 = (ledN (shC p q false) (-r + (i : Int), -r + (j : Int))).2 := by
    refine hv.trans ⟨fun ⟨h1, h2⟩ => ?_, fun ⟨h1, h2⟩ => ?_⟩
    · unfold shV rt2 at h1 h2
      exact rt_inj h1 h2
    · unfold shV rt2
      dsimp only
      rw [h1, h2]
      exact ⟨rfl, rfl⟩
  unfold partG
  rw [decide_not]
  congr 1
  rw [Bool.eq_iff_iff, e, decide_eq_true_iff]
theorem ft_at {G : Nat → Nat → Bool} {n : Nat} {o : Option (Nat × Nat)} (h : FT G n n 0 o) {i j : Nat} (hi : i < n) (hj : j < n) (g : G i j = true) : ∃ a b, o = some (a, b) ∧ (a < i ∨ (a = i ∧ b ≤ j)) := by
  match o, h with
  | none, h => have z := h i j hj (.inl hi); rw [z] at g; cases g
  | some (a, b), h =>
    refine ⟨a, b, rfl, ?_⟩
    have h4 := h.2.2.2 i j hj
    by_cases z : i < a ∨ (i = a ∧ j < b)
    · have e := h4 z
      rw [e] at g
      cases g
    · omega
theorem ft_eq {G : Nat → Nat → Bool} {n i j : Nat} (h : FT G n n 0 (some (i, j))) : G i j = true := h.2.2.1
theorem eq_opt {r : Int} {o : Option (Nat × Nat)} {i j : Nat} {S : Sto} {Q : Bool → Sto → Prop} (q : ∀ v : Bool, (v = true ↔ o = some (i, j)) → Q v S) : eqP (optP r o) (.tup [.int (-r + (i : Int)), .int (-r + (j : Int))]) S Q := by
  match o with
  | none => exact eqP_ne ⟨rfl, rfl⟩ (fun _ _ e => nomatch e) (fun _ _ e => nomatch e) rfl (q false ⟨fun z => (nomatch z), fun z => (nomatch z)⟩)
  | some (a, b) =>
    refine eq_t2 fun v hv => q v (hv.trans ⟨fun ⟨h1, h2⟩ => ?_, fun z => ?_⟩)
    · have e1 : a = i := by omega
      have e2 : b = j := by omega
      rw [e1, e2]
    · cases z
      exact ⟨rfl, rfl⟩
theorem srt78 {i : Nat} {d : D} (h : [D.str "xyx", D.str "yxy"][i]? = some d) : ∃ o, d = .str (od o) ∧ [true, false][i]? = some o := by
  match i, h with
  | 0, h => exact ⟨true, (Option.some.inj h).symm, rfl⟩
  | 1, h => exact ⟨false, (Option.some.inj h).symm, rfl⟩
theorem lt_no {a b i j : Nat} {r : Int} (h : a < i ∨ (a = i ∧ b ≤ j)) : lt2 (-r + (i : Int), -r + (j : Int)) (-r + (a : Int), -r + (b : Int)) = false := decide_eq_false (by
  show ¬ (-r + (i : Int) < -r + (a : Int) ∨ -r + (i : Int) = -r + (a : Int) ∧ -r + (j : Int) < -r + (b : Int))
  omega)

end Tp
namespace Tp
open PySem PySem.Spec PyProof.Rows L2 DL
/-! ### k78: the law -/
def con_dots78 : Con := fun ds S Q => ∃ (pp : Addr) (l : List D) (m : Nat), ds = [.raw (.ref pp), .int 9, .int 5] ∧ S = [(pp, l)] ∧ Src m l ∧ m ≤ 800000 ∧ ∀ (os : List (Int × Int)) l', SortP os → os.length ≤ 9 → (∀ v ∈ os, BdP 60 v) → Src (m + 100) l' → Q (.lst (os.map pr2)) [(pp, l')]
theorem idM_is : IsM (1, 0, 0, 1, 1) := ⟨by decide, by decide, by decide +kernel⟩
theorem idM_bd78 : BdM 1300 (1, 0, 0, 1, 1) := (show BdM 1 idM from idM_bd).up (by decide)
theorem due_id : dueM (1, 0, 0, 1, 1) = 0 := by decide
theorem tn_213 : Tn 2 1 3 := ⟨by decide, by decide, by decide, by decide, by decide, by decide, by decide, by decide⟩

end Tp
namespace Tp
open PySem PySem.Spec PyProof.Rows L2 DL
/-! ### sorted(set(xs)) of pairs -/
theorem unpt : ∀ (L : List (Addr × List Int)), (∀ p ∈ L, ∃ x y, p.2 = [x, y]) → ∃ bs : List Pt, L = bs.map ptK
  | [], _ => ⟨[], rfl⟩
  | p :: L, h => by
    obtain ⟨x, y, e⟩ := h p List.mem_cons_self
    obtain ⟨bs, eb⟩ := unpt L fun q hq => h q (List.mem_cons_of_mem _ hq)
    refine ⟨(p.1, x, y) :: bs, ?_⟩
    rw [eb]
    show p :: _ = (p.1, [x, y]) :: _
    rw [← e]
theorem rp_pts {K : PySem.W.Frag} {H : Hp} : ∀ bs : List Pt, (∀ b ∈ bs, SqT K H b.1 [V.int b.2.1, V.int b.2.2]) → RpL K H ((bs.map fun b => b.2).map pr2) (bs.map fun b => V.ref b.1)
  | [], _ => rfl
  | b :: bs, h => ⟨_, _, rfl, ⟨b.1, _, rfl, h b List.mem_cons_self, ⟨_, _, rfl, rfl, _, _, rfl, rfl, rfl⟩⟩, rp_pts bs fun c hc => h c (List.mem_cons_of_mem _ hc)⟩
theorem pts_lt : ∀ {cs : List Pt}, (cs.Pairwise fun b c => le2 b.2 c.2 = true) → ((cs.map ptK).map (·.2)).Nodup → (cs.map fun b => b.2).Pairwise fun v w => lt2 v w = true
  | [], _, _ => .nil
  | b :: cs, h, n => by
    obtain ⟨h1, h2⟩ := List.pairwise_cons.mp h
    rw [List.map_cons, List.map_cons, List.nodup_cons] at n
    refine List.pairwise_cons.mpr ⟨fun v hv => ?_, pts_lt h2 n.2⟩
    obtain ⟨c, hc, rfl⟩ := List.mem_map.mp hv
    have h3 := of_decide_eq_true (h1 c hc)
    have h4 : ¬ (b.2.1 = c.2.1 ∧ b.2.2 = c.2.2) := fun ⟨e1, e2⟩ => n.1 (by
      rw [List.map_map]
      refine List.mem_map.mpr ⟨c, hc, ?_⟩
      show [c.2.1, c.2.2] = [b.2.1, b.2.2]
      rw [e1, e2])
    exact decide_eq_true (by show b.2.1 < c.2.1 ∨ b.2.1 = c.2.1 ∧ b.2.2 < c.2.2; omega)
theorem bt_sorted78 : bootBuiltins "sorted" = some (.builtin "sorted") := by decide +kernel
theorem nodup_sub {α : Type} [DecidableEq α] : ∀ {l m : List α}, l.Nodup → (∀ x ∈ l, x ∈ m) → l.length ≤ m.length
  | [], _, _, _ => Nat.zero_le _
  | x :: l, m, h, k => by
    obtain ⟨h1, h2⟩ := List.nodup_cons.mp h
    have hx : x ∈ m := k x List.mem_cons_self
    have ih := nodup_sub (m := m.erase x) h2 fun y hy => (List.mem_erase_of_ne (fun e => h1 (by rw [← e]; exact hy))).mpr (k y (List.mem_cons_of_mem _ hy))
    have := List.length_erase_of_mem hx
    have := List.length_pos_of_mem hx
    rw [List.length_cons]
    omega
section
variable {X : Cx}
theorem de_sortSet {a : Expr} {en : DEnv} {S : Sto} {Q : D → Sto → Prop} {p p2 q pos : Pos} (hc : X.calm = true) (hu : X.A.units + 65 < cLine) (hm : X.mg "sorted" = none) (hm2 : X.mg "set" = none)
    (h : DE X a en S fun d S1 => ∃ ps : List (Int × Int), d = .lst (ps.map pr2) ∧ ps.length < 64 ∧ ∀ os : List (Int × Int), (os.Pairwise fun v w => lt2 v w = true) → os.length ≤ ps.length → (∀ v ∈ os, v ∈ ps) → Q (.lst (os.map pr2)) S1) (hg : Gl X "sorted" := by rfl) (hg2 : Gl X "set" := by rfl)
    (na : starEach [a] X.env = (false, eval a X.env) :: starEach [] X.env := by rfl) (nb : starEach [.Call (.Name "set" p2) [a] [] q] X.env = (false, eval (.Call (.Name "set" p2) [a] [] q) X.env) :: starEach [] X.env := by rfl)
    (pl : (backTo q (starEach [] X.env)).any (·.1) = false := by rfl) (pl2 : (backTo pos (starEach [] X.env)).any (·.1) = false := by rfl) : DE X (.Call (.Name "sorted" p) [.Call (.Name "set" p2) [a] [] q] [] pos) en S Q := ⟨fun σ H Hd st re => by
  refine wE_of (pe_callB (cr_sortSetD hc hu) hg hm bt_sorted78 (pa_cons (pe_callTy (cr_setOfT hc (by omega)) hg2 hm2 PyProof.Rows.boot_set (pa_cons peW pa_nil na) (he := na) (hpl := pl)) pa_nil nb) (he := nb) (hpl := pl2)) ?_
  refine wE_mono (h σ H Hd st re) fun v H1 ⟨d, S1, Hd1, e1, st1, r1, ps, e2, hl, q1⟩ => ?_
  subst e2
  obtain ⟨l, xs, rfl, f2, f3⟩ := r1
  obtain ⟨ks, k1, k2, k3⟩ := refs_pr f3
  subst k1
  have kl : ks.length = ps.length := by
    have := congrArg List.length k3
    rw [List.length_map, List.length_map] at this
    exact this
  refine ⟨l, ks, rfl, .of (st1.sub _ _ f2), fun p hp => same_t st1.sub (k2 p hp), by omega, fun z L hz hL hL2 => ?_⟩
  obtain ⟨bs, rfl⟩ := unpt L fun p hp => by
    have : p.2 ∈ ks.map (·.2) := List.mem_map.mpr ⟨p, hL p hp, rfl⟩
    rw [k3] at this
    obtain ⟨t, _, e⟩ := List.mem_map.mp this
    exact ⟨t.1, t.2, e.symm⟩
  obtain ⟨e3, st3⟩ := st1.laid (o := SetTO X.prog X.w z (bs.map ptK)) hz
  have hsd : ∀ b ∈ bs, SqT X.K Hd1 b.1 [V.int b.2.1, V.int b.2.2] := fun b hb => k2 (ptK b) (hL _ (List.mem_map.mpr ⟨b, hb, rfl⟩))
  refine ⟨z, bs, rfl, upd_same, fun b hb => same_t (e3.trans st3.sub) (hsd b hb), fun cs p3 hp hnd hso hp3 => ?_⟩
  have hnc : ((cs.map ptK).map (·.2)).Nodup := ((hp.map ptK).map (·.2)).nodup_iff.mpr hnd
  refine .up (e1.trans e3) (new_lst st3 (rp_pts cs fun b hb => same_t e3 (hsd b (hp.mem_iff.mp hb))) hp3 (q1 _ (pts_lt hso hnc) ?_ ?_))
  · rw [List.length_map, hp.length_eq, ← kl]
    have hn1 : ((bs.map ptK).map (·.2)).length ≤ (ks.map (·.2)).length := nodup_sub hnd fun x hx => by
      obtain ⟨y, hy, rfl⟩ := List.mem_map.mp hx
      exact List.mem_map.mpr ⟨y, hL y hy, rfl⟩
    simpa using hn1
  · intro v hv
    obtain ⟨b, hb, rfl⟩ := List.mem_map.mp hv
    have h5 : (ptK b).2 ∈ ks.map (·.2) := List.mem_map.mpr ⟨ptK b, hL _ (List.mem_map.mpr ⟨b, hp.mem_iff.mp hb, rfl⟩), rfl⟩
    rw [k3] at h5
    obtain ⟨t, ht, e⟩ := List.mem_map.mp h5
    have e : [t.1, t.2] = [b.2.1, b.2.2] := e
    simp only [List.cons.injEq, and_true] at e
    have : t = b.2 := Prod.ext e.1 e.2
    rw [← this]
    exact ht⟩
end
theorem sortP_of {os : List (Int × Int)} (h : os.Pairwise fun v w => lt2 v w = true) : SortP os := fun i v w hv hw => by
  obtain ⟨h1, e1⟩ := List.getElem?_eq_some_iff.mp hv
  obtain ⟨h2, e2⟩ := List.getElem?_eq_some_iff.mp hw
  rw [← e1, ← e2]
  exact List.pairwise_iff_getElem.mp h i (i + 1) h1 h2 (by omega)
theorem bd_inc {n : Nat} {x r : Int} (h : Bd n x) (h0 : 0 ≤ r) (h1 : r < 2) : Bd (n + 1) (x + r) := by
  unfold Bd at *
  rw [Nat.pow_succ]
  have : 0 < 2 ^ n := Nat.two_pow_pos n
  omega
theorem dt_lend {X : Cx} {e : Expr} {en : DEnv} {S : Sto} {Q : Bool → Sto → Prop} (i : Nat) {p : Addr} {l : List D} (nS : noS S) (h : DT X e (en.set i (some (.lst l))) S fun b S' => S' = S ∧ Q b ((p, l) :: S))
    (he : en[i]? = some (some (.raw (.ref p))) := by rfl) : DT X e en ((p, l) :: S) Q := ⟨fun σ H Hd st re => by
  obtain ⟨xs, r, e1, st'⟩ := st.frozen
  have hp0 : Hd p = none := st.own.1
  obtain ⟨v, e2, rv⟩ := re.get he
  have rv : v = V.ref p := rv
  subst rv
  have re' : RpE X.K (upd Hd p (.lst xs)) (en.set i (some (.lst l))) (σ.set i (some (.ref p))) := (re.mono e1).set (d := .lst l) ⟨p, xs, rfl, upd_same, r.mono e1⟩ i
  have es : σ.set i (some (.ref p)) = σ := by
    obtain ⟨h1, h2⟩ := List.getElem?_eq_some_iff.mp e2
    rw [← h2]
    exact List.set_getElem_self h1
  rw [es] at re'
  refine wT_mono (h σ H _ st' re') fun b H2 ⟨S2, Hd2, f1, st2, eS, q⟩ => ?_
  subst eS
  have hp2 : Hd2 p = some (.lst xs) := f1 p _ upd_same
  have sm : Same Hd (cutH p Hd2) := fun b u hb => by
    have hne : b ≠ p := fun z => by rw [z, hp0] at hb; cases hb
    rw [cut_ne hne]
    exact f1 b u (by rw [upd_ne hne]; exact hb)
  refine ⟨(p, l) :: S2, cutH p Hd2, sm, ⟨fun b u hb => ?_, cut_same, ?_, ⟨xs, st2.sub p _ hp2, r.mono sm⟩, own_cut hp2 nS st2.own⟩, q⟩
  · by_cases z : b = p
    · rw [z, cut_same] at hb; cases hb
    · rw [cut_ne z] at hb
      exact st2.sub b u hb
  · cases g : getS p S2 with
    | none => rfl
    | some m =>
      have := (st2.own.at g).1
      rw [hp2] at this
      cases this⟩

end Tp
namespace Tp
open PySem PySem.Spec PyProof.Rows L2 DL
def top (i : Nat) : Stmt := PySem.Challenge.pw_turnedpixels_k78_whole_shears_as_chains.main.body.getD i (.Pass ⟨0, 0, 0, 0⟩)
local macro_rules | `(tactic| walk_at "bd") => `(tactic| first
  | assumption
  | (with_reducible refine' Bd.exX _ (by assumption) (by assumption) ?a1 ?a2; (case a1 => walk_at "bd"); (case a2 => walk_at "bd"))
  | (with_reducible refine' Bd.exY _ (by assumption) (by assumption) ?a1 ?a2; (case a1 => walk_at "bd"); (case a2 => walk_at "bd"))
  | (with_reducible refine' Bd.imX _ (by assumption) (by assumption) ?a1 ?a2; (case a1 => walk_at "bd"); (case a2 => walk_at "bd"))
  | (with_reducible refine' Bd.imY _ (by assumption) (by assumption) ?a1 ?a2; (case a1 => walk_at "bd"); (case a2 => walk_at "bd"))
  | (with_reducible refine' Bd.reX (by assumption) (by assumption) ?a1 ?a2; (case a1 => walk_at "bd"); (case a2 => walk_at "bd"))
  | (with_reducible refine' Bd.reY (by assumption) (by assumption) ?a1 ?a2; (case a1 => walk_at "bd"); (case a2 => walk_at "bd"))
  | (with_reducible refine' Bd.rtX _ ?a1 ?a2; (case a1 => walk_at "bd"); (case a2 => walk_at "bd"))
  | (with_reducible refine' Bd.rtY _ ?a1 ?a2; (case a1 => walk_at "bd"); (case a2 => walk_at "bd"))
  | (with_reducible refine' Bd.nrr ?a1 ?a2; (case a1 => walk_at "bd"); (case a2 => walk_at "bd"))
  | with_reducible exact Bd.lgA _ (by assumption) (by assumption)
  | with_reducible exact Bd.lgB _ (by assumption) (by assumption)
  | with_reducible exact Bd.cc (by assumption) (by assumption)
  | with_reducible exact bd_cc (by unfold Bd; decide)
  | with_reducible exact Bd.lit (OfNat.ofNat _)
  | (with_reducible refine' Bd.isq ?a1; (case a1 => walk_at "bd"))
  | with_reducible exact Bd.lit ((OfNat.ofNat _) ^ _)
  | (with_reducible refine' Bd.abs ?a1; (case a1 => walk_at "bd"))
  | (with_reducible refine' Bd.neg ?a1; (case a1 => walk_at "bd"))
  | (with_reducible refine' Bd.mul ?a1 ?a2; (case a1 => walk_at "bd"); (case a2 => walk_at "bd"))
  | (with_reducible refine' Bd.add ?a1 ?a2; (case a1 => walk_at "bd"); (case a2 => walk_at "bd"))
  | (with_reducible refine' Bd.sub ?a1 ?a2; (case a1 => walk_at "bd"); (case a2 => walk_at "bd"))
  | (with_reducible refine' Bd.pow ?a1 _; (case a1 => walk_at "bd"))
  | (with_reducible refine' Bd.ite ?a1 ?a2; (case a1 => walk_at "bd"); (case a2 => walk_at "bd"))
  | (with_reducible refine' Bd.of_lt ?z1 ?z2 ?z3; (case z1 => assumption); (case z2 => assumption); (case z3 => walk_at "bd"))
  | (with_reducible refine' Bd.of_le ?z1 ?z2 ?z3; (case z1 => assumption); (case z2 => assumption); (case z3 => walk_at "bd"))
  | (with_reducible refine' Bd.div ?a1; (case a1 => walk_at "bd"))
  | (with_reducible refine' Bd.mod ?a1 ?a2; (case a1 => walk_at "bd"); (case a2 => walk_at "pos")))
local macro_rules | `(tactic| walk_at "bdu") => `(tactic| (refine' Bd.up ?u1 ?u2; (case u1 => walk_at "bd"); (case u2 => decide +kernel)))
local macro_rules | `(tactic| walk_at "tn") => `(tactic| first | assumption | exact tn_bk2 (by assumption) | exact Tn.zero (by assumption) | exact tn_one (by assumption) (by assumption) | exact ⟨by decide, by decide, by decide, by decide, by decide, by decide, by decide, by decide⟩)
local macro_rules | `(tactic| walk_at "m") => `(tactic| first | assumption | omega)
local macro_rules | `(tactic| walk_at "isi") => `(tactic| first | refine drc_isi rfl k_ii ?_ | refine drc_isi rfl k_ib ?_ | refine drc_isi rfl k_tt ?_ | refine drc_isi rfl k_bi ?_ | refine drc_isi rfl k_bb ?_ | refine drc_isi rfl k_it ?_ | refine drc_isi rfl k_st ?_ | refine drc_isi rfl k_nt ?_ | refine drc_isi rfl k_lt ?_ | refine drc_isi rfl k_bt ?_ | refine drc_isi rfl k_si ?_ | refine drc_isi rfl k_ni ?_ | refine drc_isi rfl k_ti ?_ | refine drc_isi rfl k_li ?_ | refine drc_isi rfl k_ll ?_)
local macro_rules | `(tactic| walk_at "no") => `(tactic| exact absurd hc (by simp))
local macro_rules | `(tactic| walk_at "cmw") => `(tactic| (refine' cmw ?h1 ?h2 ?h3; (case h1 => walk_at "bd"); (case h2 => walk_at "bd"); (case h3 => decide +kernel)))
local macro_rules | `(tactic| walk_at "cdw") => `(tactic| (refine' cdw ?h1 ?h2 ?h3; (case h1 => walk_at "bd"); (case h2 => walk_at "pos"); (case h3 => decide +kernel)))
local macro_rules | `(tactic| walk_at "cpw") => `(tactic| (refine' cpw ?h1 ?h2 ?h3; (case h1 => walk_at "bd"); (case h2 => exact ⟨by decide, by decide⟩); (case h3 => decide +kernel)))
local macro_rules | `(tactic| walk_at "pos") => `(tactic| first | assumption | exact of_decide_eq_true (by assumption) | exact cc_pos (by assumption) | exact Int.mul_pos (cc_pos (by assumption)) (cc_pos (by assumption)) | omega | (split <;> omega) | decide +kernel)
local macro_rules | `(tactic| walk_at "len") => `(tactic| first | decide | omega | (simp; done) | (simp; omega) | (simp only [List.length_map, shC_len]; decide) | (show 3 + 3 ≤ 100000; decide))
local macro_rules | `(tactic| walk_at "len3") => `(tactic| first | decide | exact ⟨by simp, by simp, by simp⟩)
local macro_rules | `(tactic| walk_at "slice") => `(tactic| first | refine sl_1 ?_ | refine sl_m2 ?_ | refine sl_m3 ?_ | refine sl_t31 ?_ | refine sl_t2 ?_ | refine sl_l ?_)
local macro_rules | `(tactic| walk_at "ix") => `(tactic| first | refine ix_t ?_ | refine ix_t ?_ (by assumption) | refine ix_l ?_ | refine ix_o getS_hd ?_ | (refine ix_o (by walk_at "gets") ?_))
local macro_rules | `(tactic| walk_at "gets") => `(tactic| first | exact getS_hd | assumption | (rw [getS_tl (by assumption)]; first | exact getS_hd | assumption | exact getS_setS_same (by assumption)) | exact getS_setS_same (by assumption))
local macro_rules | `(tactic| walk_at "sets") => `(tactic| first | rw [setS_hd] | rw [setS_setS] | rw [setS_tl (by assumption)] | skip)
local macro_rules | `(tactic| walk_at "eq") => `(tactic| first | refine eq_int ?_ | refine eq_tup ?_ | refine eq_lst ?_ | refine eq_scr ?_ | refine eq_str ?_)
local macro_rules | `(tactic| walk_at "flat") => `(tactic| first | rfl | decide)
local macro_rules | `(tactic| walk_at "sho") => `(tactic| (simp only [rat, shoP, shoL, List.cons_append, List.nil_append, true_and, and_true] <;> walk_at "shos"))
local macro_rules | `(tactic| walk_at "shos") => `(tactic| first | trivial | (refine ⟨?_, ?_⟩ <;> walk_at "shos") | (refine' shw ?h1 ?h2; (case h1 => walk_at "bd"); (case h2 => decide +kernel)))
local macro_rules | `(tactic| walk_at "big") => `(tactic| (simp only [rat, bigD, bigL, List.cons_append, List.nil_append]; decide))
local macro_rules | `(tactic| walk_at "obj") => `(tactic| first | exact .inl ⟨_, rfl⟩ | exact .inr ⟨_, rfl⟩)
local macro_rules | `(tactic| walk_at "lenP") => `(tactic| first | refine (show lenP (.tup _) _ _ from ?_) | refine (show lenP (.lst _) _ _ from ?_) | refine (show lenP (.scr _) _ _ from ?_) | skip)
local macro_rules | `(tactic| walk_at "rng") => `(tactic| first | decide | omega)
local macro_rules | `(tactic| walk_at "ord") => `(tactic| skip)
local macro_rules | `(tactic| walk_at "wk") => `(tactic| (repeat (first | refine ⟨rfl, ?_⟩ | exact trivial)))
local macro_rules | `(tactic| walk_at "spx") => `(tactic| first | exact ⟨by assumption, by assumption⟩ | (refine ⟨?_, ?_⟩ <;> first | omega | (split <;> omega)))
local macro_rules | `(tactic| walk_at "at") => `(tactic| first | rfl | assumption)
local macro_rules | `(tactic| walk_at "isr") => `(tactic| first | assumption | exact re_is (by assumption) _ _ | exact ⟨⟨by decide, by decide⟩, by decide, by decide⟩)
local macro_rules | `(tactic| walk_at "isq") => `(tactic| first | exact isq_ok (root_p _ _) (sq_bd (by assumption)) | exact isq_ok (root_q _ _) (sq_bd (by assumption)) | exact isq_okV (root_p _ _) (by assumption) | exact isq_okV (root_q _ _) (by assumption) | exact ⟨by omega, (show Bd 3000 _ by walk_at "bdu")⟩)
local macro_rules | `(tactic| walk_at "n0") => `(tactic| first | assumption | omega | decide)
local macro_rules | `(tactic| walk_at "cfl") => `(tactic| first | exact flat_ints _ | exact flat_bls _ | rfl)
local macro_rules | `(tactic| walk_at "cpl") => `(tactic| first | exact plain_ints _ | exact plain_bls _ | rfl)
local macro_rules | `(tactic| walk_at "zl") => `(tactic| first | (rw [List.length_map, List.length_map]; assumption) | (simp only [List.length_map, List.length_range]; done) | (simp; done))
local macro_rules | `(tactic| walk_at "sets2") => `(tactic| first | rw [setS_hd] | (rw [setS_tl (by assumption)]; first | rw [setS_hd] | rw [setS_setS] | skip) | rw [setS_setS] | skip)
local macro_rules | `(tactic| walk_at "sc") => `(tactic| first | assumption | exact sc_great ⟨by assumption, by assumption⟩ ⟨by assumption, by assumption⟩ ⟨by assumption, by assumption⟩ | exact ⟨by decide, by decide, by decide, by decide, by decide, by decide, by decide⟩ | exact ⟨by decide +kernel, by decide +kernel, by decide +kernel, by decide +kernel, by decide +kernel, by decide +kernel, by decide +kernel⟩)
local macro_rules | `(tactic| walk_at "gi") => `(tactic| first | exact ⟨by assumption, by assumption⟩ | exact ⟨by omega, by omega⟩ | (refine ⟨?_, ?_⟩ <;> (try dsimp only) <;> split <;> omega) | (dsimp only; omega) | (refine ⟨?_, ?_⟩ <;> dsimp only <;> omega))
local macro_rules | `(tactic| walk_at "kw1") => `(tactic| first | assumption | exact ⟨by assumption, by assumption⟩)
local macro_rules | `(tactic| walk_at "kw") => `(tactic| first | assumption)
local macro_rules | `(tactic| walk_at "kwt") => `(tactic| first | assumption | exact kw_tn (by assumption))
local macro_rules | `(tactic| walk_at "kwl") => `(tactic| first | assumption | omega | (simp only [List.length_map, List.length_reverse]; omega))
local macro_rules | `(tactic| walk_at "rd") => `(tactic| first | (refine ⟨?_, ?_⟩ <;> first | assumption | omega | decide +kernel))
local macro_rules | `(tactic| walk_at "sx") => `(tactic| first | assumption | exact sx_bk (by assumption) | exact sx_rot (by assumption) _ | exact sx_kin (by assumption) _ _ ⟨by omega, by omega⟩ | exact ⟨by decide, by decide, by decide, by decide, by decide, by decide, by decide, by decide, by decide, by decide⟩)
local macro_rules | `(tactic| walk_at "k6") => `(tactic| first | exact ⟨by assumption, by assumption⟩ | exact ⟨by omega, by omega⟩)
local macro_rules | `(tactic| walk_at "shl") => `(tactic| first | omega | (simp only [List.length_map]; omega) | (rw [List.length_replicate]; omega))
local macro_rules | `(tactic| walk_at "nos") => `(tactic| first | assumption | exact noS_nil | exact noS_cons rfl noS_nil | exact noS_src1 (by assumption))
local macro_rules | `(tactic| walk_at "mlen") => `(tactic| (rw [List.length_map]; show _ * 2 ≤ _; omega))
section
variable {P : Program} {w : World} {K : PySem.W.Frag} {mg : Str → Option Value} {base : Heap}
abbrev s_is_whole : Stmt := top 11
theorem sc_is_whole : FnScope ["value"] ["value"] (defScope s_is_whole) := ⟨rfl, rfl, rfl, by decide +kernel, rfl, by decide +kernel, by decide +kernel⟩
set_option maxHeartbeats 40000000 in
theorem ok_is_whole {f : Addr} {fd : FuncData} (F : Fun K "is_whole" "is_whole" s_is_whole f fd) (n_bool : mg "bool" = none) (n_int : mg "int" = none) (n_isinstance : mg "isinstance" = none) : GOk P w K mg base 1 f fd ["value"] (spD K con_is_whole) := by
  refine gok_ds F sc_is_whole (m := 0) rfl (fun ds S0 Q h => ?_) fun cdv A fr s0 H0 E0' gd hr ds S0 Q h => ?_
  · obtain ⟨_, rfl, _⟩ := h
    rfl
  obtain ⟨i, rfl, q⟩ := h
  refine ds_nrm ?_ (by set_option simprocs false in dsimp only [List.map, List.replicate, List.cons_append, List.nil_append])
  refine ds_cons ?_
  refine ds_ret ?_
  refine de_and ?_
  refine de_B call_isi n_isinstance bt_isinstance ?_
  refine da_cons ?_
  refine de_name 0 ?_
  refine da_cons ?_
  refine de_ty n_int bt_int ?_
  refine da_nil ?_
  walk_at "isi"
  refine ⟨_, rfl, fun hb => ?_, fun hb => ?_⟩
  · exact absurd hb (by simp)
  refine de_one ?_
  refine de_not ?_
  refine de_B call_isi n_isinstance bt_isinstance ?_
  refine da_cons ?_
  refine de_name 0 ?_
  refine da_cons ?_
  refine de_ty n_bool bt_bool ?_
  refine da_nil ?_
  walk_at "isi"
  refine ⟨_, rfl, ?_⟩
  exact q
abbrev s_is_whole_tuple : Stmt := top 12
theorem sc_is_whole_tuple : FnScope ["value", "size", "part"] ["value", "size"] (defScope s_is_whole_tuple) := ⟨rfl, rfl, rfl, by decide +kernel, rfl, by decide +kernel, by decide +kernel⟩
set_option maxHeartbeats 40000000 in
theorem ok_is_whole_tuple {f : Addr} {fd : FuncData} (F : Fun K "is_whole_tuple" "is_whole_tuple" s_is_whole_tuple f fd) (c_is_whole : Cal P w K mg base 1 "is_whole" ["value"] [] con_is_whole) (n_all : mg "all" = none) (n_isinstance : mg "isinstance" = none) (n_len : mg "len" = none) (n_tuple : mg "tuple" = none) : GOk P w K mg base 2 f fd ["value", "size"] (spD K con_is_whole_tuple) := by
  refine gok_ds F sc_is_whole_tuple (m := 1) rfl (fun ds S0 Q h => ?_) fun cdv A fr s0 H0 E0' gd hr ds S0 Q h => ?_
  · obtain ⟨_, rfl, _⟩ := h
    rfl
  obtain ⟨ns, rfl, hn, q⟩ := h
  refine ds_nrm ?_ (by set_option simprocs false in dsimp only [List.map, List.replicate, List.cons_append, List.nil_append])
  refine ds_cons ?_
  refine ds_ret ?_
  refine de_and ?_
  refine de_B call_isi n_isinstance bt_isinstance ?_
  refine da_cons ?_
  refine de_name 0 ?_
  refine da_cons ?_
  refine de_ty n_tuple bt_tuple ?_
  refine da_nil ?_
  walk_at "isi"
  refine ⟨_, rfl, fun hb => ?_, fun hb => ?_⟩
  · exact absurd hb (by simp)
  refine de_and ?_
  refine de_eq (hr.units) ?_
  refine de_B call_len_seq n_len bt_len ?_
  refine da_cons ?_
  refine de_name 0 ?_
  refine da_nil ?_
  refine drc_len ?_
  walk_at "lenP"
  refine de_name 1 ?_
  walk_at "eq"
  refine ⟨_, rfl, fun hb => ?_, fun hb => ?_⟩
  · exact absurd hb (by simp)
  refine de_one ?_
  refine de_B (cr_all rfl) n_all bt_all ?_
  refine da_cons ?_
  refine de_lc 2 rfl sc_is_whole_tuple.nd (blkOk_by (N := ["value", "size", "part"]) (sc := defScope s_is_whole_tuple) (by decide +kernel)) ?_ (fun _ _ _ _ _ => pg_name sc_is_whole_tuple.nd rfl (Or.inl rfl))
  refine di_tup ?_
  refine de_name 0 ?_
  refine ⟨_, rfl, ?_⟩
  refine ⟨fun k acc S' => S' = S0 ∧ acc = (List.replicate k true).map D.bl, ⟨rfl, rfl⟩, fun k d acc S' p hk hP hp hl s H C cl fp => ?_, by simp; omega, fun acc S' hl hP => ?_⟩
  · obtain ⟨rfl, rfl⟩ := hP
    obtain ⟨m, _, rfl⟩ := List.mem_map.mp (List.mem_of_getElem? hk)
    refine de_call c_is_whole gd (hr.mono (by decide)) ?_
    refine da_cons ?_
    refine de_name 2 ?_
    refine da_nil ?_
    refine ⟨_, rfl, ?_⟩
    exact ⟨_, rfl, rfl, by rw [List.replicate_succ', List.map_append] <;> rfl⟩
  obtain ⟨rfl, rfl⟩ := hP
  rw [List.length_map]
  refine da_nil ?_
  refine drc_all ?_
  rw [show (List.replicate ns.length true).all id = true by simp]
  exact q
abbrev s_nearest : Stmt := top 13
theorem sc_nearest : FnScope ["number", "divisor"] ["number", "divisor"] (defScope s_nearest) := ⟨rfl, rfl, rfl, by decide +kernel, rfl, by decide +kernel, by decide +kernel⟩
set_option maxHeartbeats 40000000 in
theorem ok_nearest {f : Addr} {fd : FuncData} (F : Fun K "nearest" "nearest" s_nearest f fd)  : GOk P w K mg base 1 f fd ["number", "divisor"] (spD K con_nearest) := by
  refine gok_ds F sc_nearest (m := 0) rfl (fun ds S0 Q h => ?_) fun cdv A fr s0 H0 E0' gd hr ds S0 Q h => ?_
  · obtain ⟨_, _, rfl, _⟩ := h
    rfl
  obtain ⟨n, d, rfl, ⟨b1, b2, b3⟩, q⟩ := h
  refine ds_nrm ?_ (by set_option simprocs false in dsimp only [List.map, List.replicate, List.cons_append, List.nil_append])
  refine ds_cons ?_
  refine ds_ret ?_
  refine de_fdiv ?_
  refine de_add ?_
  refine de_mul ?_
  refine de_int ?_
  refine de_name 0 ?_
  first | refine mul_i ?_ (by walk_at "cmw") | refine mul_l ?_ ⟨by decide, by decide, by first | decide | exact Nat.le_of_ble_eq_true rfl | walk_at "mlen"⟩
  refine de_name 1 ?_
  first | refine add_int ?_ | refine add_lst ?_ (by walk_at "len") | refine add_tup ?_ (by walk_at "len3") | refine add_scr ?_ (by walk_at "len") | refine (show addP (.str _) (.str _) _ _ from ⟨by decide +kernel, ?_⟩)
  refine de_mul ?_
  refine de_int ?_
  refine de_name 1 ?_
  first | refine mul_i ?_ (by walk_at "cmw") | refine mul_l ?_ ⟨by decide, by decide, by first | decide | exact Nat.le_of_ble_eq_true rfl | walk_at "mlen"⟩
  refine ⟨_, _, rfl, rfl, (by walk_at "cdw"), ?_⟩
  unfold nrr at q
  exact q
abbrev s_times : Stmt := top 14
theorem sc_times : FnScope ["one", "other", "x", "y", "r", "s"] ["one", "other"] (defScope s_times) := ⟨rfl, rfl, rfl, by decide +kernel, rfl, by decide +kernel, by decide +kernel⟩
set_option maxHeartbeats 40000000 in
theorem ok_times {f : Addr} {fd : FuncData} (F : Fun K "times" "times" s_times f fd)  : GOk P w K mg base 1 f fd ["one", "other"] (spD K con_times) := by
  refine gok_ds F sc_times (m := 4) rfl (fun ds S0 Q h => ?_) fun cdv A fr s0 H0 E0' gd hr ds S0 Q h => ?_
  · obtain ⟨_, _, _, _, rfl, _⟩ := h
    rfl
  obtain ⟨x, y, r, s, rfl, ⟨b1, b2, b3, b4⟩, q⟩ := h
  refine ds_nrm ?_ (by set_option simprocs false in dsimp only [List.map, List.replicate, List.cons_append, List.nil_append])
  refine ds_cons ?_
  refine ds_asg (h := ?_)
  refine de_name 0 ?_
  first | refine dg_tup rfl rfl ?_ | refine dg_tupL rfl rfl ?_ (fun h => pg_lst rfl h)
  refine dgs_cons (h := ?_)
  refine dg_name 2 ?_ sc_times.nd
  refine dgs_cons (h := ?_)
  refine dg_name 3 ?_ sc_times.nd
  refine dgs_nil ?_
  refine ds_cons ?_
  refine ds_asg (h := ?_)
  refine de_name 1 ?_
  first | refine dg_tup rfl rfl ?_ | refine dg_tupL rfl rfl ?_ (fun h => pg_lst rfl h)
  refine dgs_cons (h := ?_)
  refine dg_name 4 ?_ sc_times.nd
  refine dgs_cons (h := ?_)
  refine dg_name 5 ?_ sc_times.nd
  refine dgs_nil ?_
  refine ds_cons ?_
  refine ds_ret ?_
  refine de_tup ?_
  refine da_cons ?_
  refine de_sub ?_
  refine de_mul ?_
  refine de_name 2 ?_
  refine de_name 4 ?_
  first | refine mul_i ?_ (by walk_at "cmw") | refine mul_l ?_ ⟨by decide, by decide, by first | decide | exact Nat.le_of_ble_eq_true rfl | walk_at "mlen"⟩
  refine de_mul ?_
  refine de_name 3 ?_
  refine de_name 5 ?_
  first | refine mul_i ?_ (by walk_at "cmw") | refine mul_l ?_ ⟨by decide, by decide, by first | decide | exact Nat.le_of_ble_eq_true rfl | walk_at "mlen"⟩
  refine ⟨_, _, rfl, rfl, ?_⟩
  refine da_cons ?_
  refine de_add ?_
  refine de_mul ?_
  refine de_name 2 ?_
  refine de_name 5 ?_
  first | refine mul_i ?_ (by walk_at "cmw") | refine mul_l ?_ ⟨by decide, by decide, by first | decide | exact Nat.le_of_ble_eq_true rfl | walk_at "mlen"⟩
  refine de_mul ?_
  refine de_name 3 ?_
  refine de_name 4 ?_
  first | refine mul_i ?_ (by walk_at "cmw") | refine mul_l ?_ ⟨by decide, by decide, by first | decide | exact Nat.le_of_ble_eq_true rfl | walk_at "mlen"⟩
  first | refine add_int ?_ | refine add_lst ?_ (by walk_at "len") | refine add_tup ?_ (by walk_at "len3") | refine add_scr ?_ (by walk_at "len") | refine (show addP (.str _) (.str _) _ _ from ⟨by decide +kernel, ?_⟩)
  refine da_nil ?_
  refine ⟨by walk_at "len", ?_⟩
  exact q
abbrev s_is_pixel : Stmt := top 19
theorem sc_is_pixel : FnScope ["value"] ["value"] (defScope s_is_pixel) := ⟨rfl, rfl, rfl, by decide +kernel, rfl, by decide +kernel, by decide +kernel⟩
set_option maxHeartbeats 40000000 in
theorem ok_is_pixel {f : Addr} {fd : FuncData} (F : Fun K "is_pixel" "is_pixel" s_is_pixel f fd) (c_is_whole_tuple : Cal P w K mg base 2 "is_whole_tuple" ["value", "size"] [] con_is_whole_tuple) : GOk P w K mg base 3 f fd ["value"] (spD K con_is_pixel) := by
  refine gok_ds F sc_is_pixel (m := 0) rfl (fun ds S0 Q h => ?_) fun cdv A fr s0 H0 E0' gd hr ds S0 Q h => ?_
  · obtain ⟨_, _, rfl, _⟩ := h
    rfl
  obtain ⟨x, y, rfl, q⟩ := h
  refine ds_nrm ?_ (by set_option simprocs false in dsimp only [List.map, List.replicate, List.cons_append, List.nil_append])
  refine ds_cons ?_
  refine ds_ret ?_
  refine de_call c_is_whole_tuple gd (hr.mono (by decide)) ?_
  refine da_cons ?_
  refine de_name 0 ?_
  refine da_cons ?_
  refine de_int ?_
  refine da_nil ?_
  first | refine ⟨[_, _, _], rfl, by simp, ?_⟩ | refine ⟨[_, _], rfl, by simp, ?_⟩
  exact q
abbrev s_is_turn : Stmt := top 20
theorem sc_is_turn : FnScope ["value", "p", "q", "quarters"] ["value"] (defScope s_is_turn) := ⟨rfl, rfl, rfl, by decide +kernel, rfl, by decide +kernel, by decide +kernel⟩
set_option maxHeartbeats 40000000 in
theorem ok_is_turn {f : Addr} {fd : FuncData} (F : Fun K "is_turn" "is_turn" s_is_turn f fd) (b_gcd : mg "gcd" = some (.builtin "math.gcd")) (c_is_whole_tuple : Cal P w K mg base 2 "is_whole_tuple" ["value", "size"] [] con_is_whole_tuple) (g_GREATEST_P : ∃ u, mg "GREATEST_P" = some (.int (1000000000000000) u)) (n_abs : mg "abs" = none) : GOk P w K mg base 3 f fd ["value"] (spD K con_is_turn) := by
  refine gok_ds F sc_is_turn (m := 3) rfl (fun ds S0 Q h => ?_) fun cdv A fr s0 H0 E0' gd hr ds S0 Q h => ?_
  · obtain ⟨_, _, _, rfl, _⟩ := h
    rfl
  obtain ⟨p, q, k, rfl, hT, qq⟩ := h
  obtain ⟨u0, gP⟩ := g_GREATEST_P
  have h1 := hT.p1
  have h2 := hT.p2
  have h3 := hT.q1
  have h4 := hT.q2
  have h5 := hT.k1
  have h6 := hT.k2
  have b1 := hT.bp
  have b2 := hT.bq
  refine ds_nrm ?_ (by set_option simprocs false in dsimp only [List.map, List.replicate, List.cons_append, List.nil_append])
  refine ds_cons ?_
  refine ds_if ?_
  refine dt_not ?_
  refine dt_val (h := ?_)
  refine de_call c_is_whole_tuple gd (hr.mono (by decide)) ?_
  refine da_cons ?_
  refine de_name 0 ?_
  refine da_cons ?_
  refine de_int ?_
  refine da_nil ?_
  first | refine ⟨[_, _, _], rfl, by simp, ?_⟩ | refine ⟨[_, _], rfl, by simp, ?_⟩
  refine ⟨_, rfl, ?_⟩
  refine ⟨fun ht => ?_, fun ht => ?_⟩
  · exact absurd ht (by simp)
  refine ds_nil ?_
  refine ds_cons ?_
  refine ds_asg (h := ?_)
  refine de_name 0 ?_
  first | refine dg_tup rfl rfl ?_ | refine dg_tupL rfl rfl ?_ (fun h => pg_lst rfl h)
  refine dgs_cons (h := ?_)
  refine dg_name 1 ?_ sc_is_turn.nd
  refine dgs_cons (h := ?_)
  refine dg_name 2 ?_ sc_is_turn.nd
  refine dgs_cons (h := ?_)
  refine dg_name 3 ?_ sc_is_turn.nd
  refine dgs_nil ?_
  refine ds_cons ?_
  refine ds_if ?_
  refine dt_w ?_
  refine dw_or ?_
  refine dt_lt ?_
  refine de_name 1 ?_
  refine de_int ?_
  refine ⟨_, _, rfl, rfl, ?_⟩
  refine ⟨fun hb => ?_, fun hb => ?_⟩
  · exact absurd (of_decide_eq_true hb) (by first | omega | (split <;> omega))
  refine dw_or ?_
  refine dt_gt ?_
  refine de_name 1 ?_
  refine de_globI gP ?_
  refine ⟨_, _, rfl, rfl, ?_⟩
  refine ⟨fun hb => ?_, fun hb => ?_⟩
  · exact absurd (of_decide_eq_true hb) (by first | omega | (split <;> omega))
  refine dw_or ?_
  refine dt_ge ?_
  refine de_B call_abs n_abs bt_abs ?_
  refine da_cons ?_
  refine de_name 2 ?_
  refine da_nil ?_
  refine drc_abs ?_
  refine de_name 1 ?_
  refine ⟨_, _, rfl, rfl, ?_⟩
  refine ⟨fun hb => ?_, fun hb => ?_⟩
  · exact absurd (of_decide_eq_true hb) (by first | omega | (split <;> omega))
  refine dw_or ?_
  refine dt_lt ?_
  refine de_name 3 ?_
  refine de_int ?_
  refine ⟨_, _, rfl, rfl, ?_⟩
  refine ⟨fun hb => ?_, fun hb => ?_⟩
  · exact absurd (of_decide_eq_true hb) (by first | omega | (split <;> omega))
  refine dw_or1 ?_
  refine dt_gt ?_
  refine de_name 3 ?_
  refine de_int ?_
  refine ⟨_, _, rfl, rfl, ?_⟩
  refine ⟨fun ht => ?_, fun ht => ?_⟩
  · exact absurd (of_decide_eq_true ht) (by omega)
  refine ds_nil ?_
  refine ds_cons ?_
  refine ds_ret ?_
  refine de_and ?_
  refine de_eq (hr.units) ?_
  refine de_mod ?_
  refine de_add ?_
  refine de_name 1 ?_
  refine de_name 2 ?_
  first | refine add_int ?_ | refine add_lst ?_ (by walk_at "len") | refine add_tup ?_ (by walk_at "len3") | refine add_scr ?_ (by walk_at "len") | refine (show addP (.str _) (.str _) _ _ from ⟨by decide +kernel, ?_⟩)
  refine de_int ?_
  refine ⟨_, _, rfl, rfl, (by walk_at "pos"), ?_⟩
  refine de_int ?_
  walk_at "eq"
  refine ⟨_, rfl, fun hb => ?_, fun hb => ?_⟩
  · exact absurd hb (by simp [hT.o])
  refine de_one ?_
  refine de_eq (hr.units) ?_
  refine de_gcd b_gcd ?_
  refine da_cons ?_
  refine de_name 1 ?_
  refine da_cons ?_
  refine de_name 2 ?_
  refine da_nil ?_
  refine ⟨_, _, rfl, ?_⟩
  refine de_int ?_
  walk_at "eq"
  rw [decide_eq_true (show ((Nat.gcd p.natAbs q.natAbs : Nat) : Int) = 1 by rw [hT.g] <;> rfl)]
  exact qq
abbrev s_check_pixel : Stmt := top 21
theorem sc_check_pixel : FnScope ["pixel"] ["pixel"] (defScope s_check_pixel) := ⟨rfl, rfl, rfl, by decide +kernel, rfl, by decide +kernel, by decide +kernel⟩
set_option maxHeartbeats 40000000 in
theorem ok_check_pixel {f : Addr} {fd : FuncData} (F : Fun K "check_pixel" "check_pixel" s_check_pixel f fd) (c_is_pixel : Cal P w K mg base 3 "is_pixel" ["value"] [] con_is_pixel) : GOk P w K mg base 4 f fd ["pixel"] (spD K con_check_pixel) := by
  refine gok_ds F sc_check_pixel (m := 0) rfl (fun ds S0 Q h => ?_) fun cdv A fr s0 H0 E0' gd hr ds S0 Q h => ?_
  · obtain ⟨_, _, rfl, _⟩ := h
    rfl
  obtain ⟨x, y, rfl, q⟩ := h
  refine ds_nrm ?_ (by set_option simprocs false in dsimp only [List.map, List.replicate, List.cons_append, List.nil_append])
  refine ds_cons ?_
  refine ds_if ?_
  refine dt_not ?_
  refine dt_val (h := ?_)
  refine de_call c_is_pixel gd (hr.mono (by decide)) ?_
  refine da_cons ?_
  refine de_name 0 ?_
  refine da_nil ?_
  refine ⟨_, _, rfl, ?_⟩
  refine ⟨_, rfl, ?_⟩
  refine ⟨fun ht => ?_, fun ht => ?_⟩
  · exact absurd ht (by simp)
  refine ds_nil ?_
  refine ds_nil ?_
  exact q
abbrev s_check_turn : Stmt := top 22
theorem sc_check_turn : FnScope ["turn"] ["turn"] (defScope s_check_turn) := ⟨rfl, rfl, rfl, by decide +kernel, rfl, by decide +kernel, by decide +kernel⟩
set_option maxHeartbeats 40000000 in
theorem ok_check_turn {f : Addr} {fd : FuncData} (F : Fun K "check_turn" "check_turn" s_check_turn f fd) (c_is_turn : Cal P w K mg base 3 "is_turn" ["value"] [] con_is_turn) : GOk P w K mg base 4 f fd ["turn"] (spD K con_check_turn) := by
  refine gok_ds F sc_check_turn (m := 0) rfl (fun ds S0 Q h => ?_) fun cdv A fr s0 H0 E0' gd hr ds S0 Q h => ?_
  · obtain ⟨_, _, _, rfl, _⟩ := h
    rfl
  obtain ⟨p, q, k, rfl, hT, qq⟩ := h
  refine ds_nrm ?_ (by set_option simprocs false in dsimp only [List.map, List.replicate, List.cons_append, List.nil_append])
  refine ds_cons ?_
  refine ds_if ?_
  refine dt_not ?_
  refine dt_val (h := ?_)
  refine de_call c_is_turn gd (hr.mono (by decide)) ?_
  refine da_cons ?_
  refine de_name 0 ?_
  refine da_nil ?_
  refine ⟨_, _, _, rfl, by walk_at "tn", ?_⟩
  refine ⟨_, rfl, ?_⟩
  refine ⟨fun ht => ?_, fun ht => ?_⟩
  · exact absurd ht (by simp)
  refine ds_nil ?_
  refine ds_nil ?_
  exact qq
abbrev s_legs_of : Stmt := top 23
theorem sc_legs_of : FnScope ["turn", "p", "q", "quarters", "a", "b", "_"] ["turn"] (defScope s_legs_of) := ⟨rfl, rfl, rfl, by decide +kernel, rfl, by decide +kernel, by decide +kernel⟩
set_option maxHeartbeats 40000000 in
theorem ok_legs_of {f : Addr} {fd : FuncData} (F : Fun K "legs_of" "legs_of" s_legs_of f fd) (c_check_turn : Cal P w K mg base 4 "check_turn" ["turn"] [] con_check_turn) (c_times : Cal P w K mg base 1 "times" ["one", "other"] [] con_times) (n_range : mg "range" = none) : GOk P w K mg base 5 f fd ["turn"] (spD K con_legs_of) := by
  refine gok_ds F sc_legs_of (m := 6) rfl (fun ds S0 Q h => ?_) fun cdv A fr s0 H0 E0' gd hr ds S0 Q h => ?_
  · obtain ⟨_, _, _, rfl, _⟩ := h
    rfl
  obtain ⟨p, q, k, rfl, hT, qq⟩ := h
  have h5 := hT.k1
  have h6 := hT.k2
  have b1 := hT.bp
  have b2 := hT.bq
  refine ds_nrm ?_ (by set_option simprocs false in dsimp only [List.map, List.replicate, List.cons_append, List.nil_append])
  refine ds_cons ?_
  refine ds_expr (h := ?_)
  refine de_call c_check_turn gd (hr.mono (by decide)) ?_
  refine da_cons ?_
  refine de_name 0 ?_
  refine da_nil ?_
  refine ⟨_, _, _, rfl, by walk_at "tn", ?_⟩
  refine ds_cons ?_
  refine ds_asg (h := ?_)
  refine de_name 0 ?_
  first | refine dg_tup rfl rfl ?_ | refine dg_tupL rfl rfl ?_ (fun h => pg_lst rfl h)
  refine dgs_cons (h := ?_)
  refine dg_name 1 ?_ sc_legs_of.nd
  refine dgs_cons (h := ?_)
  refine dg_name 2 ?_ sc_legs_of.nd
  refine dgs_cons (h := ?_)
  refine dg_name 3 ?_ sc_legs_of.nd
  refine dgs_nil ?_
  refine ds_cons ?_
  refine ds_asg (h := ?_)
  refine de_call c_times gd (hr.mono (by decide)) ?_
  refine da_cons ?_
  refine de_tup ?_
  refine da_cons ?_
  refine de_name 1 ?_
  refine da_cons ?_
  refine de_name 2 ?_
  refine da_nil ?_
  refine ⟨by walk_at "len", ?_⟩
  refine da_cons ?_
  refine de_tup ?_
  refine da_cons ?_
  refine de_name 1 ?_
  refine da_cons ?_
  refine de_name 2 ?_
  refine da_nil ?_
  refine ⟨by walk_at "len", ?_⟩
  refine da_nil ?_
  refine ⟨_, _, _, _, rfl, ⟨by walk_at "bdu", by walk_at "bdu", by walk_at "bdu", by walk_at "bdu"⟩, ?_⟩
  first | refine dg_tup rfl rfl ?_ | refine dg_tupL rfl rfl ?_ (fun h => pg_lst rfl h)
  refine dgs_cons (h := ?_)
  refine dg_name 4 ?_ sc_legs_of.nd
  refine dgs_cons (h := ?_)
  refine dg_name 5 ?_ sc_legs_of.nd
  refine dgs_nil ?_
  refine ds_cons ?_
  refine ds_for (γ := Nat) PassesOwn.never rfl ?_
  refine di_rng1 n_range ?_
  refine da_cons ?_
  refine de_name 3 ?_
  refine da_nil ?_
  refine ⟨_, rfl, (by walk_at "rng"), ?_⟩
  refine ⟨fun j : Nat => [some (.tup [.int p, .int q, .int k]), some (.int p), some (.int q), some (.int k), some (.int (rtX j (p * p - q * q) (p * q + q * p))), some (.int (rtY j (p * p - q * q) (p * q + q * p))), none], fun i j S' => j = i ∧ S' = S0, 0, ⟨rfl, rfl, rfl, rfl, rfl, rfl, trivial⟩, ⟨rfl, rfl⟩, fun i d j S' hi hP => ?_, fun j S' hP => ?_⟩
  · obtain ⟨rfl, rfl⟩ := hP
    obtain ⟨hlt, rfl⟩ := rngD_get hi
    have hj : j < 3 := by omega
    refine dg_name 6 ?_ sc_legs_of.nd
    refine ds_cons ?_
    refine ds_par (i := 4) (j := 5) rfl sc_legs_of.nd rfl rfl (by decide) ?_
    refine da_cons ?_
    refine de_neg ?_
    refine de_name 5 ?_
    refine ⟨_, rfl, ?_⟩
    refine da_cons ?_
    refine de_name 4 ?_
    refine da_nil ?_
    refine ⟨_, _, rfl, ?_⟩
    refine ds_nrm ?_
    refine ds_nil ?_
    exact ⟨j + 1, ⟨rfl, rfl, rfl, rfl, by rw [(rt_step j hj _ _).1] <;> rfl, by rw [(rt_step j hj _ _).2] <;> rfl, trivial⟩, rfl, rfl⟩
  obtain ⟨rfl, rfl⟩ := hP
  rw [rngD_len]
  refine ds_cons ?_
  refine ds_ret ?_
  refine de_tup ?_
  refine da_cons ?_
  refine de_name 4 ?_
  refine da_cons ?_
  refine de_name 5 ?_
  refine da_cons ?_
  refine de_add ?_
  refine de_mul ?_
  refine de_name 1 ?_
  refine de_name 1 ?_
  first | refine mul_i ?_ (by walk_at "cmw") | refine mul_l ?_ ⟨by decide, by decide, by first | decide | exact Nat.le_of_ble_eq_true rfl | walk_at "mlen"⟩
  refine de_mul ?_
  refine de_name 2 ?_
  refine de_name 2 ?_
  first | refine mul_i ?_ (by walk_at "cmw") | refine mul_l ?_ ⟨by decide, by decide, by first | decide | exact Nat.le_of_ble_eq_true rfl | walk_at "mlen"⟩
  first | refine add_int ?_ | refine add_lst ?_ (by walk_at "len") | refine add_tup ?_ (by walk_at "len3") | refine add_scr ?_ (by walk_at "len") | refine (show addP (.str _) (.str _) _ _ from ⟨by decide +kernel, ?_⟩)
  refine da_nil ?_
  refine ⟨by walk_at "len", ?_⟩
  unfold lgA lgB at qq
  exact qq
abbrev s_exact_place : Stmt := top 24
theorem sc_exact_place : FnScope ["turn", "pixel", "a", "b", "c", "x", "y"] ["turn", "pixel"] (defScope s_exact_place) := ⟨rfl, rfl, rfl, by decide +kernel, rfl, by decide +kernel, by decide +kernel⟩
set_option maxHeartbeats 40000000 in
theorem ok_exact_place {f : Addr} {fd : FuncData} (F : Fun K "exact_place" "exact_place" s_exact_place f fd) (c_check_pixel : Cal P w K mg base 4 "check_pixel" ["pixel"] [] con_check_pixel) (c_check_turn : Cal P w K mg base 4 "check_turn" ["turn"] [] con_check_turn) (c_legs_of : Cal P w K mg base 5 "legs_of" ["turn"] [] con_legs_of) (c_times : Cal P w K mg base 1 "times" ["one", "other"] [] con_times) : GOk P w K mg base 6 f fd ["turn", "pixel"] (spD K con_exact_place) := by
  refine gok_ds F sc_exact_place (m := 5) rfl (fun ds S0 Q h => ?_) fun cdv A fr s0 H0 E0' gd hr ds S0 Q h => ?_
  · obtain ⟨_, _, _, _, _, rfl, _⟩ := h
    rfl
  obtain ⟨p, q, k, x, y, rfl, hT, ⟨bx, by'⟩, qq⟩ := h
  have b1 := hT.bp
  have b2 := hT.bq
  refine ds_nrm ?_ (by set_option simprocs false in dsimp only [List.map, List.replicate, List.cons_append, List.nil_append])
  refine ds_cons ?_
  refine ds_expr (h := ?_)
  refine de_call c_check_turn gd (hr.mono (by decide)) ?_
  refine da_cons ?_
  refine de_name 0 ?_
  refine da_nil ?_
  refine ⟨_, _, _, rfl, by walk_at "tn", ?_⟩
  refine ds_cons ?_
  refine ds_expr (h := ?_)
  refine de_call c_check_pixel gd (hr.mono (by decide)) ?_
  refine da_cons ?_
  refine de_name 1 ?_
  refine da_nil ?_
  refine ⟨_, _, rfl, ?_⟩
  refine ds_cons ?_
  refine ds_asg (h := ?_)
  refine de_call c_legs_of gd (hr.mono (by decide)) ?_
  refine da_cons ?_
  refine de_name 0 ?_
  refine da_nil ?_
  refine ⟨_, _, _, rfl, by walk_at "tn", ?_⟩
  first | refine dg_tup rfl rfl ?_ | refine dg_tupL rfl rfl ?_ (fun h => pg_lst rfl h)
  refine dgs_cons (h := ?_)
  refine dg_name 2 ?_ sc_exact_place.nd
  refine dgs_cons (h := ?_)
  refine dg_name 3 ?_ sc_exact_place.nd
  refine dgs_cons (h := ?_)
  refine dg_name 4 ?_ sc_exact_place.nd
  refine dgs_nil ?_
  refine ds_cons ?_
  refine ds_asg (h := ?_)
  refine de_call c_times gd (hr.mono (by decide)) ?_
  refine da_cons ?_
  refine de_tup ?_
  refine da_cons ?_
  refine de_name 2 ?_
  refine da_cons ?_
  refine de_name 3 ?_
  refine da_nil ?_
  refine ⟨by walk_at "len", ?_⟩
  refine da_cons ?_
  refine de_name 1 ?_
  refine da_nil ?_
  refine ⟨_, _, _, _, rfl, ⟨by walk_at "bdu", by walk_at "bdu", by walk_at "bdu", by walk_at "bdu"⟩, ?_⟩
  first | refine dg_tup rfl rfl ?_ | refine dg_tupL rfl rfl ?_ (fun h => pg_lst rfl h)
  refine dgs_cons (h := ?_)
  refine dg_name 5 ?_ sc_exact_place.nd
  refine dgs_cons (h := ?_)
  refine dg_name 6 ?_ sc_exact_place.nd
  refine dgs_nil ?_
  refine ds_cons ?_
  refine ds_ret ?_
  refine de_tup ?_
  refine da_cons ?_
  refine de_name 5 ?_
  refine da_cons ?_
  refine de_name 6 ?_
  refine da_cons ?_
  refine de_name 4 ?_
  refine da_nil ?_
  refine ⟨by walk_at "len", ?_⟩
  unfold exX exY at qq
  exact qq
abbrev s_image : Stmt := top 25
theorem sc_image : FnScope ["turn", "pixel", "x", "y", "c"] ["turn", "pixel"] (defScope s_image) := ⟨rfl, rfl, rfl, by decide +kernel, rfl, by decide +kernel, by decide +kernel⟩
set_option maxHeartbeats 40000000 in
theorem ok_image {f : Addr} {fd : FuncData} (F : Fun K "image" "image" s_image f fd) (c_exact_place : Cal P w K mg base 6 "exact_place" ["turn", "pixel"] [] con_exact_place) (c_nearest : Cal P w K mg base 1 "nearest" ["number", "divisor"] [] con_nearest) : GOk P w K mg base 7 f fd ["turn", "pixel"] (spD K con_image) := by
  refine gok_ds F sc_image (m := 3) rfl (fun ds S0 Q h => ?_) fun cdv A fr s0 H0 E0' gd hr ds S0 Q h => ?_
  · obtain ⟨_, _, _, _, _, rfl, _⟩ := h
    rfl
  obtain ⟨p, q, k, x, y, rfl, hT, ⟨bx, by'⟩, qq⟩ := h
  have b1 := hT.bp
  have b2 := hT.bq
  refine ds_nrm ?_ (by set_option simprocs false in dsimp only [List.map, List.replicate, List.cons_append, List.nil_append])
  refine ds_cons ?_
  refine ds_asg (h := ?_)
  refine de_call c_exact_place gd (hr.mono (by decide)) ?_
  refine da_cons ?_
  refine de_name 0 ?_
  refine da_cons ?_
  refine de_name 1 ?_
  refine da_nil ?_
  refine ⟨_, _, _, _, _, rfl, by walk_at "tn", ⟨by walk_at "bdu", by walk_at "bdu"⟩, ?_⟩
  first | refine dg_tup rfl rfl ?_ | refine dg_tupL rfl rfl ?_ (fun h => pg_lst rfl h)
  refine dgs_cons (h := ?_)
  refine dg_name 2 ?_ sc_image.nd
  refine dgs_cons (h := ?_)
  refine dg_name 3 ?_ sc_image.nd
  refine dgs_cons (h := ?_)
  refine dg_name 4 ?_ sc_image.nd
  refine dgs_nil ?_
  refine ds_cons ?_
  refine ds_ret ?_
  refine de_tup ?_
  refine da_cons ?_
  refine de_call c_nearest gd (hr.mono (by decide)) ?_
  refine da_cons ?_
  refine de_name 2 ?_
  refine da_cons ?_
  refine de_name 4 ?_
  refine da_nil ?_
  refine ⟨_, _, rfl, ⟨by walk_at "bdu", by walk_at "bdu", by walk_at "pos"⟩, ?_⟩
  refine da_cons ?_
  refine de_call c_nearest gd (hr.mono (by decide)) ?_
  refine da_cons ?_
  refine de_name 3 ?_
  refine da_cons ?_
  refine de_name 4 ?_
  refine da_nil ?_
  refine ⟨_, _, rfl, ⟨by walk_at "bdu", by walk_at "bdu", by walk_at "pos"⟩, ?_⟩
  refine da_nil ?_
  refine ⟨by walk_at "len", ?_⟩
  unfold imX imY at qq
  exact qq
abbrev s_back : Stmt := top 26
theorem sc_back : FnScope ["turn", "p", "q", "quarters"] ["turn"] (defScope s_back) := ⟨rfl, rfl, rfl, by decide +kernel, rfl, by decide +kernel, by decide +kernel⟩
set_option maxHeartbeats 40000000 in
theorem ok_back {f : Addr} {fd : FuncData} (F : Fun K "back" "back" s_back f fd) (c_check_turn : Cal P w K mg base 4 "check_turn" ["turn"] [] con_check_turn) : GOk P w K mg base 5 f fd ["turn"] (spD K con_back) := by
  refine gok_ds F sc_back (m := 3) rfl (fun ds S0 Q h => ?_) fun cdv A fr s0 H0 E0' gd hr ds S0 Q h => ?_
  · obtain ⟨_, _, _, rfl, _⟩ := h
    rfl
  obtain ⟨p, q, k, rfl, hT, qq⟩ := h
  refine ds_nrm ?_ (by set_option simprocs false in dsimp only [List.map, List.replicate, List.cons_append, List.nil_append])
  refine ds_cons ?_
  refine ds_expr (h := ?_)
  refine de_call c_check_turn gd (hr.mono (by decide)) ?_
  refine da_cons ?_
  refine de_name 0 ?_
  refine da_nil ?_
  refine ⟨_, _, _, rfl, by walk_at "tn", ?_⟩
  refine ds_cons ?_
  refine ds_asg (h := ?_)
  refine de_name 0 ?_
  first | refine dg_tup rfl rfl ?_ | refine dg_tupL rfl rfl ?_ (fun h => pg_lst rfl h)
  refine dgs_cons (h := ?_)
  refine dg_name 1 ?_ sc_back.nd
  refine dgs_cons (h := ?_)
  refine dg_name 2 ?_ sc_back.nd
  refine dgs_cons (h := ?_)
  refine dg_name 3 ?_ sc_back.nd
  refine dgs_nil ?_
  refine ds_cons ?_
  refine ds_ret ?_
  refine de_tup ?_
  refine da_cons ?_
  refine de_name 1 ?_
  refine da_cons ?_
  refine de_neg ?_
  refine de_name 2 ?_
  refine ⟨_, rfl, ?_⟩
  refine da_cons ?_
  refine de_mod ?_
  refine de_neg ?_
  refine de_name 3 ?_
  refine ⟨_, rfl, ?_⟩
  refine de_int ?_
  refine ⟨_, _, rfl, rfl, (by walk_at "pos"), ?_⟩
  refine da_nil ?_
  refine ⟨by walk_at "len", ?_⟩
  exact qq
abbrev s__law_source : Stmt := top 59
theorem sc__law_source : FnScope ["_law_entry", "_law_k", "_law_great"] ["_law_entry", "_law_k"] (defScope s__law_source) := ⟨rfl, rfl, rfl, by decide +kernel, rfl, by decide +kernel, by decide +kernel⟩
set_option maxHeartbeats 40000000 in
theorem ok__law_source {f : Addr} {fd : FuncData} (F : Fun K "_law_source" "_law_source" s__law_source f fd) (n_abs : mg "abs" = none) (n_int : mg "int" = none) (n_max : mg "max" = none) : GOk P w K mg base 1 f fd ["_law_entry", "_law_k"] (spD K con_source) := by
  refine gok_ds F sc__law_source (m := 1) rfl (fun ds S0 Q h => ?_) fun cdv A fr s0 H0 E0' gd hr ds S0 Q h => ?_
  · obtain ⟨_, _, rfl, _⟩ := h
    rfl
  obtain ⟨e, k, rfl, ⟨k1, k2⟩, q⟩ := h
  have bk : Bd 7 k := by unfold Bd; omega
  refine ds_nrm ?_ (by set_option simprocs false in dsimp only [List.map, List.replicate, List.cons_append, List.nil_append])
  refine ds_cons ?_
  refine ds_asg (h := ?_)
  refine de_B call_abs n_abs bt_abs ?_
  refine da_cons ?_
  refine de_name 0 ?_
  refine da_nil ?_
  refine drc_abs ?_
  refine dg_name 2 ?_ sc__law_source.nd
  refine ds_cons ?_
  refine ds_ret ?_
  refine de_lstO ?_
  refine da_cons ?_
  refine de_B (call_max2 rfl) n_max bt_max ?_
  refine da_cons ?_
  refine de_int ?_
  refine da_cons ?_
  refine de_sub ?_
  refine de_name 2 ?_
  refine de_pow ?_
  refine de_int ?_
  refine de_int ?_
  refine ⟨_, _, rfl, rfl, (by walk_at "cpw"), ?_⟩
  refine ⟨_, _, rfl, rfl, ?_⟩
  refine da_nil ?_
  refine drc_max ?_
  refine da_cons ?_
  refine de_add ?_
  refine de_add ?_
  refine de_mul ?_
  refine de_mod ?_
  refine de_T call_int1 n_int bt_int ?_
  refine da_cons ?_
  refine de_name 2 ?_
  refine da_nil ?_
  first | refine drc_int ?_ | refine drc_intb ?_
  refine de_add ?_
  refine de_pow ?_
  refine de_int ?_
  refine de_int ?_
  refine ⟨_, _, rfl, rfl, (by walk_at "cpw"), ?_⟩
  refine de_int ?_
  first | refine add_int ?_ | refine add_lst ?_ (by walk_at "len") | refine add_tup ?_ (by walk_at "len3") | refine add_scr ?_ (by walk_at "len") | refine (show addP (.str _) (.str _) _ _ from ⟨by decide +kernel, ?_⟩)
  refine ⟨_, _, rfl, rfl, (by walk_at "pos"), ?_⟩
  refine de_int ?_
  first | refine mul_i ?_ (by walk_at "cmw") | refine mul_l ?_ ⟨by decide, by decide, by first | decide | exact Nat.le_of_ble_eq_true rfl | walk_at "mlen"⟩
  refine de_mul ?_
  refine de_int ?_
  refine de_name 1 ?_
  first | refine mul_i ?_ (by walk_at "cmw") | refine mul_l ?_ ⟨by decide, by decide, by first | decide | exact Nat.le_of_ble_eq_true rfl | walk_at "mlen"⟩
  first | refine add_int ?_ | refine add_lst ?_ (by walk_at "len") | refine add_tup ?_ (by walk_at "len3") | refine add_scr ?_ (by walk_at "len") | refine (show addP (.str _) (.str _) _ _ from ⟨by decide +kernel, ?_⟩)
  refine de_T call_int1 n_int bt_int ?_
  refine da_cons ?_
  refine de_lt ?_
  refine de_name 0 ?_
  refine de_int ?_
  refine ⟨_, _, rfl, rfl, ?_⟩
  refine da_nil ?_
  first | refine drc_int ?_ | refine drc_intb ?_
  first | refine add_int ?_ | refine add_lst ?_ (by walk_at "len") | refine add_tup ?_ (by walk_at "len3") | refine add_scr ?_ (by walk_at "len") | refine (show addP (.str _) (.str _) _ _ from ⟨by decide +kernel, ?_⟩)
  refine da_cons ?_
  refine de_int ?_
  refine da_nil ?_
  refine ⟨by walk_at "len", fun p1 hp1 => ?_⟩
  exact q _ _ (by assumption) (src_mk (src_a _ _) (src_b _ _ _ ⟨k1, k2⟩))
abbrev s__law_draw : Stmt := top 60
theorem sc__law_draw : FnScope ["_law_source_here", "_law_count", "_law_digit", "_law_mixed"] ["_law_source_here", "_law_count"] (defScope s__law_draw) := ⟨rfl, rfl, rfl, by decide +kernel, rfl, by decide +kernel, by decide +kernel⟩
set_option maxHeartbeats 40000000 in
theorem ok__law_draw {f : Addr} {fd : FuncData} (F : Fun K "_law_draw" "_law_draw" s__law_draw f fd) (n_int : mg "int" = none) : GOk P w K mg base 1 f fd ["_law_source_here", "_law_count"] (spD K con_draw) := by
  refine gok_ds F sc__law_draw (m := 2) rfl (fun ds S0 Q h => ?_) fun cdv A fr s0 H0 E0' gd hr ds S0 Q h => ?_
  · obtain ⟨_, _, _, _, rfl, _⟩ := h
    rfl
  obtain ⟨p, n, l, m, rfl, hg, ⟨a, b, c, rfl, ha, hb, hc, hb0⟩, hm, hn, bn, qq⟩ := h
  have bc : Bd 30 c := by unfold Bd; omega
  have bc1 : Bd 30 (c + 1) := by unfold Bd; omega
  refine ds_nrm ?_ (by set_option simprocs false in dsimp only [List.map, List.replicate, List.cons_append, List.nil_append])
  refine ds_cons ?_
  refine ds_if ?_
  refine dt_gt ?_
  refine de_ix (h := ?_)
  refine de_name 0 ?_
  refine de_int ?_
  walk_at "ix"
  refine de_int ?_
  refine ⟨_, _, rfl, rfl, ?_⟩
  refine ⟨fun ht => ?_, fun ht => ?_⟩
  · refine ds_cons ?_
    refine ds_asg (h := ?_)
    refine de_mod ?_
    refine de_T call_int1 n_int bt_int ?_
    refine da_cons ?_
    refine de_ix (h := ?_)
    refine de_name 0 ?_
    refine de_int ?_
    walk_at "ix"
    refine da_nil ?_
    first | refine drc_int ?_ | refine drc_intb ?_
    refine de_name 1 ?_
    refine ⟨_, _, rfl, rfl, (by walk_at "pos"), ?_⟩
    refine dg_name 2 ?_ sc__law_draw.nd
    refine ds_cons ?_
    refine ds_asg (h := ?_)
    refine de_fdiv ?_
    refine de_ix (h := ?_)
    refine de_name 0 ?_
    refine de_int ?_
    walk_at "ix"
    refine de_name 1 ?_
    refine ⟨_, _, rfl, rfl, (by walk_at "cdw"), ?_⟩
    refine dg_sub ?_
    refine de_name 0 ?_
    refine de_int ?_
    refine ⟨_, _, _, _, rfl, rfl, (by walk_at "gets"), rfl, ?_⟩
    walk_at "sets"
    refine ds_cons ?_
    refine ds_ret ?_
    refine de_name 2 ?_
    exact qq _ _ (Int.emod_nonneg _ (by omega)) (Int.emod_lt_of_pos _ hn) (src_div ha hb hc hb0 hn)
  refine ds_nil ?_
  refine ds_cons ?_
  refine ds_asg (h := ?_)
  refine de_add ?_
  refine de_ix (h := ?_)
  refine de_name 0 ?_
  refine de_int ?_
  walk_at "ix"
  refine de_int ?_
  first | refine add_int ?_ | refine add_lst ?_ (by walk_at "len") | refine add_tup ?_ (by walk_at "len3") | refine add_scr ?_ (by walk_at "len") | refine (show addP (.str _) (.str _) _ _ from ⟨by decide +kernel, ?_⟩)
  refine dg_sub ?_
  refine de_name 0 ?_
  refine de_int ?_
  refine ⟨_, _, _, _, rfl, rfl, (by walk_at "gets"), rfl, ?_⟩
  walk_at "sets"
  refine ds_cons ?_
  refine ds_asg (h := ?_)
  refine de_mod ?_
  refine de_T call_int1 n_int bt_int ?_
  refine da_cons ?_
  refine de_pow ?_
  refine de_add ?_
  refine de_ix (h := ?_)
  refine de_name 0 ?_
  refine de_int ?_
  walk_at "ix"
  refine de_mul ?_
  refine de_int ?_
  refine de_ix (h := ?_)
  refine de_name 0 ?_
  refine de_int ?_
  walk_at "ix"
  first | refine mul_i ?_ (by walk_at "cmw") | refine mul_l ?_ ⟨by decide, by decide, by first | decide | exact Nat.le_of_ble_eq_true rfl | walk_at "mlen"⟩
  first | refine add_int ?_ | refine add_lst ?_ (by walk_at "len") | refine add_tup ?_ (by walk_at "len3") | refine add_scr ?_ (by walk_at "len") | refine (show addP (.str _) (.str _) _ _ from ⟨by decide +kernel, ?_⟩)
  refine de_int ?_
  refine ⟨_, _, rfl, rfl, (by walk_at "cpw"), ?_⟩
  refine da_nil ?_
  first | refine drc_int ?_ | refine drc_intb ?_
  refine de_add ?_
  refine de_pow ?_
  refine de_int ?_
  refine de_int ?_
  refine ⟨_, _, rfl, rfl, (by walk_at "cpw"), ?_⟩
  refine de_int ?_
  first | refine add_int ?_ | refine add_lst ?_ (by walk_at "len") | refine add_tup ?_ (by walk_at "len3") | refine add_scr ?_ (by walk_at "len") | refine (show addP (.str _) (.str _) _ _ from ⟨by decide +kernel, ?_⟩)
  refine ⟨_, _, rfl, rfl, (by walk_at "pos"), ?_⟩
  refine dg_name 3 ?_ sc__law_draw.nd
  refine ds_cons ?_
  refine ds_asg (h := ?_)
  refine de_mod ?_
  refine de_T call_int1 n_int bt_int ?_
  refine da_cons ?_
  refine de_pow ?_
  refine de_add ?_
  refine de_mul ?_
  refine de_name 3 ?_
  refine de_ix (h := ?_)
  refine de_name 0 ?_
  refine de_int ?_
  walk_at "ix"
  first | refine mul_i ?_ (by walk_at "cmw") | refine mul_l ?_ ⟨by decide, by decide, by first | decide | exact Nat.le_of_ble_eq_true rfl | walk_at "mlen"⟩
  refine de_int ?_
  first | refine add_int ?_ | refine add_lst ?_ (by walk_at "len") | refine add_tup ?_ (by walk_at "len3") | refine add_scr ?_ (by walk_at "len") | refine (show addP (.str _) (.str _) _ _ from ⟨by decide +kernel, ?_⟩)
  refine de_int ?_
  refine ⟨_, _, rfl, rfl, (by walk_at "cpw"), ?_⟩
  refine da_nil ?_
  first | refine drc_int ?_ | refine drc_intb ?_
  refine de_add ?_
  refine de_pow ?_
  refine de_int ?_
  refine de_int ?_
  refine ⟨_, _, rfl, rfl, (by walk_at "cpw"), ?_⟩
  refine de_int ?_
  first | refine add_int ?_ | refine add_lst ?_ (by walk_at "len") | refine add_tup ?_ (by walk_at "len3") | refine add_scr ?_ (by walk_at "len") | refine (show addP (.str _) (.str _) _ _ from ⟨by decide +kernel, ?_⟩)
  refine ⟨_, _, rfl, rfl, (by walk_at "pos"), ?_⟩
  refine dg_name 3 ?_ sc__law_draw.nd
  refine ds_cons ?_
  refine ds_ret ?_
  refine de_mod ?_
  refine de_T call_int1 n_int bt_int ?_
  refine da_cons ?_
  refine de_fdiv ?_
  refine de_name 3 ?_
  refine de_int ?_
  refine ⟨_, _, rfl, rfl, (by walk_at "cdw"), ?_⟩
  refine da_nil ?_
  first | refine drc_int ?_ | refine drc_intb ?_
  refine de_name 1 ?_
  refine ⟨_, _, rfl, rfl, (by walk_at "pos"), ?_⟩
  exact qq _ _ (Int.emod_nonneg _ (by omega)) (Int.emod_lt_of_pos _ hn) (src_next ha hb hc hb0)
abbrev s__law_common : Stmt := top 61
theorem sc__law_common : FnScope ["_law_one", "_law_two"] ["_law_one", "_law_two"] (defScope s__law_common) := ⟨rfl, rfl, rfl, by decide +kernel, rfl, by decide +kernel, by decide +kernel⟩
set_option maxHeartbeats 40000000 in
theorem ok__law_common {f : Addr} {fd : FuncData} (F : Fun K "_law_common" "_law_common" s__law_common f fd) (n_abs : mg "abs" = none) (n_int : mg "int" = none) : GOk P w K mg base 1 f fd ["_law_one", "_law_two"] (spD K con_common) := by
  refine gok_ds F sc__law_common (m := 0) rfl (fun ds S0 Q h => ?_) fun cdv A fr s0 H0 E0' gd hr ds S0 Q h => ?_
  · obtain ⟨_, _, rfl, _⟩ := h
    rfl
  obtain ⟨a, b, rfl, qq⟩ := h
  refine ds_nrm ?_ (by set_option simprocs false in dsimp only [List.map, List.replicate, List.cons_append, List.nil_append])
  refine ds_cons ?_
  refine ds_par (i := 0) (j := 1) rfl sc__law_common.nd rfl rfl (by decide) ?_
  refine da_cons ?_
  refine de_B call_abs n_abs bt_abs ?_
  refine da_cons ?_
  refine de_name 0 ?_
  refine da_nil ?_
  refine drc_abs ?_
  refine da_cons ?_
  refine de_B call_abs n_abs bt_abs ?_
  refine da_cons ?_
  refine de_name 1 ?_
  refine da_nil ?_
  refine drc_abs ?_
  refine da_nil ?_
  refine ⟨_, _, rfl, ?_⟩
  refine ds_nrm ?_
  refine ds_cons ?_
  refine ds_while (γ := Nat × Nat) PassesOwn.never (fun g => [some (.int g.1), some (.int g.2)]) (fun g S' => S' = S0 ∧ Nat.gcd g.1 g.2 = Nat.gcd a.natAbs b.natAbs) (fun g => g.2) (a.natAbs, b.natAbs) ⟨by rw [abs_nat] <;> rfl, by rw [abs_nat] <;> rfl, trivial⟩ ⟨rfl, rfl⟩ (fun g S' hP => ?_)
  obtain ⟨rfl, hG⟩ := hP
  obtain ⟨x, y⟩ := g
  refine dt_gt ?_
  refine de_name 1 ?_
  refine de_int ?_
  refine ⟨_, _, rfl, rfl, ?_⟩
  refine ⟨fun ht => ?_, fun ht => ?_⟩
  · have hy : 0 < y := by have := of_decide_eq_true ht; omega
    refine ds_cons ?_
    refine ds_par (i := 0) (j := 1) rfl sc__law_common.nd rfl rfl (by decide) ?_
    refine da_cons ?_
    refine de_name 1 ?_
    refine da_cons ?_
    refine de_mod ?_
    refine de_T call_int1 n_int bt_int ?_
    refine da_cons ?_
    refine de_name 0 ?_
    refine da_nil ?_
    first | refine drc_int ?_ | refine drc_intb ?_
    refine de_name 1 ?_
    refine ⟨_, _, rfl, rfl, (by walk_at "pos"), ?_⟩
    refine da_nil ?_
    refine ⟨_, _, rfl, ?_⟩
    refine ds_nrm ?_
    refine ds_nil ?_
    exact ⟨(y, x % y), ⟨rfl, rfl, trivial⟩, ⟨rfl, by rw [← hG]; exact gcd_step x y⟩, Nat.mod_lt x hy⟩
  have hy : y = 0 := by have := of_decide_eq_false ht; omega
  subst hy
  have hG : x = Nat.gcd a.natAbs b.natAbs := by rw [← hG] <;> exact (Nat.gcd_zero_right x).symm
  refine ds_cons ?_
  refine ds_ret ?_
  refine de_name 0 ?_
  rw [hG]
  exact qq
abbrev s__law_spin : Stmt := top 62
theorem sc__law_spin : FnScope ["_law_source_here", "_law_most", "_law_p", "_law_sort", "_law_q"] ["_law_source_here", "_law_most"] (defScope s__law_spin) := ⟨rfl, rfl, rfl, by decide +kernel, rfl, by decide +kernel, by decide +kernel⟩
set_option maxHeartbeats 40000000 in
theorem ok__law_spin {f : Addr} {fd : FuncData} (F : Fun K "_law_spin" "_law_spin" s__law_spin f fd) (c__law_common : Cal P w K mg base 1 "_law_common" ["_law_one", "_law_two"] [] con_common) (c__law_draw : Cal P w K mg base 1 "_law_draw" ["_law_source_here", "_law_count"] [] con_draw) (n_int : mg "int" = none) (n_max : mg "max" = none) (n_min : mg "min" = none) : GOk P w K mg base 2 f fd ["_law_source_here", "_law_most"] (spD K con_spin) := by
  refine gok_ds F sc__law_spin (m := 3) rfl (fun ds S0 Q h => ?_) fun cdv A fr s0 H0 E0' gd hr ds S0 Q h => ?_
  · obtain ⟨_, _, _, _, rfl, _⟩ := h
    rfl
  obtain ⟨pp, n, l, m, rfl, hg, hS, hm, hn, hn2, qq⟩ := h
  have bn : Bd 50 n := by unfold Bd; omega
  refine ds_nrm ?_ (by set_option simprocs false in dsimp only [List.map, List.replicate, List.cons_append, List.nil_append])
  refine ds_cons ?_
  refine ds_par (i := 2) (j := 3) rfl sc__law_spin.nd rfl rfl (by decide) ?_
  refine da_cons ?_
  refine de_add ?_
  refine de_int ?_
  refine de_call c__law_draw gd (hr.mono (by decide)) ?_
  refine da_cons ?_
  refine de_name 0 ?_
  refine da_cons ?_
  refine de_name 1 ?_
  refine da_nil ?_
  refine ⟨_, _, _, _, rfl, (by walk_at "gets"), (by assumption), (by walk_at "m"), (by walk_at "pos"), (by walk_at "bdu"), fun r1 l1 hr1 hn1 hs1 => ?_⟩
  walk_at "sets"
  first | refine add_int ?_ | refine add_lst ?_ (by walk_at "len") | refine add_tup ?_ (by walk_at "len3") | refine add_scr ?_ (by walk_at "len") | refine (show addP (.str _) (.str _) _ _ from ⟨by decide +kernel, ?_⟩)
  refine da_cons ?_
  refine de_call c__law_draw gd (hr.mono (by decide)) ?_
  refine da_cons ?_
  refine de_name 0 ?_
  refine da_cons ?_
  refine de_int ?_
  refine da_nil ?_
  refine ⟨_, _, _, _, rfl, (by walk_at "gets"), (by assumption), (by walk_at "m"), (by walk_at "pos"), (by walk_at "bdu"), fun r2 l2 hr2 hn2 hs2 => ?_⟩
  walk_at "sets"
  refine da_nil ?_
  refine ⟨_, _, rfl, ?_⟩
  refine ds_nrm ?_
  refine ds_cons ?_
  refine ds_asg (h := ?_)
  refine de_ix (h := ?_)
  refine de_lst ?_
  refine da_cons ?_
  refine de_call c__law_draw gd (hr.mono (by decide)) ?_
  refine da_cons ?_
  refine de_name 0 ?_
  refine da_cons ?_
  refine de_name 2 ?_
  refine da_nil ?_
  refine ⟨_, _, _, _, rfl, (by walk_at "gets"), (by assumption), (by walk_at "m"), (by walk_at "pos"), (by walk_at "bdu"), fun r3 l3 hr3 hn3 hs3 => ?_⟩
  walk_at "sets"
  refine da_cons ?_
  refine de_sub ?_
  refine de_name 2 ?_
  refine de_int ?_
  refine ⟨_, _, rfl, rfl, ?_⟩
  refine da_cons ?_
  refine de_B (call_max2 rfl) n_max bt_max ?_
  refine da_cons ?_
  refine de_int ?_
  refine da_cons ?_
  refine de_sub ?_
  refine de_name 2 ?_
  refine de_int ?_
  refine ⟨_, _, rfl, rfl, ?_⟩
  refine da_nil ?_
  refine drc_max ?_
  refine da_cons ?_
  refine de_call c__law_draw gd (hr.mono (by decide)) ?_
  refine da_cons ?_
  refine de_name 0 ?_
  refine da_cons ?_
  refine de_B (call_min2 rfl) n_min bt_min ?_
  refine da_cons ?_
  refine de_name 2 ?_
  refine da_cons ?_
  refine de_int ?_
  refine da_nil ?_
  refine drc_min ?_
  refine da_nil ?_
  refine ⟨_, _, _, _, rfl, (by walk_at "gets"), (by assumption), (by walk_at "m"), (by walk_at "pos"), (by walk_at "bdu"), fun r4 l4 hr4 hn4 hs4 => ?_⟩
  walk_at "sets"
  refine da_cons ?_
  refine de_call c__law_draw gd (hr.mono (by decide)) ?_
  refine da_cons ?_
  refine de_name 0 ?_
  refine da_cons ?_
  refine de_name 2 ?_
  refine da_nil ?_
  refine ⟨_, _, _, _, rfl, (by walk_at "gets"), (by assumption), (by walk_at "m"), (by walk_at "pos"), (by walk_at "bdu"), fun r5 l5 hr5 hn5 hs5 => ?_⟩
  walk_at "sets"
  refine da_nil ?_
  refine ⟨by walk_at "len", ?_⟩
  refine de_name 3 ?_
  first | refine ix_pick (fun d => ∃ x : Int, d = .int x ∧ 0 ≤ x ∧ x < 1 + r1) (fa_cons ⟨_, rfl, by walk_at "spx"⟩ (fa_cons ⟨_, rfl, by walk_at "spx"⟩ (fa_cons ⟨_, rfl, by walk_at "spx"⟩ (fa_cons ⟨_, rfl, by walk_at "spx"⟩ (fa_cons ⟨_, rfl, by walk_at "spx"⟩ fa_nil))))) (by assumption) (by show r2 < 5; assumption) ?_ | refine ix_pick (fun d => ∃ x : Int, d = .int x ∧ (x = q0 ∨ x = -q0)) (fa_cons ⟨_, rfl, .inl rfl⟩ (fa_cons ⟨_, rfl, .inr rfl⟩ fa_nil)) (by assumption) (by assumption) ?_
  rintro _ ⟨xq, rfl, hxq⟩
  refine dg_name 4 ?_ sc__law_spin.nd
  refine ds_cons ?_
  refine ds_while (γ := Int) PassesOwn.never (fun q => [some (.raw (.ref pp)), some (.int n), some (.int (1 + r1)), some (.int r2), some (.int q)]) (fun q S' => S' = setS pp l5 S0 ∧ 0 ≤ q ∧ q < 1 + r1) (fun q => (1 + r1 - q).toNat) xq ⟨rfl, rfl, rfl, rfl, rfl, trivial⟩ ⟨rfl, hxq⟩ (fun q S' hP => ?_)
  obtain ⟨rfl, hq0, hq1⟩ := hP
  refine dt_w ?_
  refine dw_or ?_
  refine dt_gt ?_
  refine de_call c__law_common gd (hr.mono (by decide)) ?_
  refine da_cons ?_
  refine de_name 2 ?_
  refine da_cons ?_
  refine de_name 4 ?_
  refine da_nil ?_
  refine ⟨_, _, rfl, ?_⟩
  refine de_int ?_
  refine ⟨_, _, rfl, rfl, ?_⟩
  refine ⟨fun hb => ?_, fun hb => ?_⟩
  · refine ⟨fun _ => ?_, fun h => absurd h (by simp)⟩
    refine ds_cons ?_
    refine ds_asg (h := ?_)
    refine de_add ?_
    refine de_name 4 ?_
    refine de_int ?_
    refine add_int ?_
    refine dg_name 4 ?_ sc__law_spin.nd
    refine ds_nil ?_
    have hq2 := spin_turn (p := 1 + r1) (q := q) (by omega) (by omega) (.inl (of_decide_eq_true hb))
    exact ⟨q + 1, ⟨rfl, rfl, rfl, rfl, rfl, trivial⟩, ⟨rfl, by omega, hq2⟩, by omega⟩
  refine dw_or1 ?_
  refine dt_eq (hr.units) ?_
  refine de_mod ?_
  refine de_T call_int1 n_int bt_int ?_
  refine da_cons ?_
  refine de_add ?_
  refine de_name 2 ?_
  refine de_name 4 ?_
  first | refine add_int ?_ | refine add_lst ?_ (by walk_at "len") | refine add_tup ?_ (by walk_at "len3") | refine add_scr ?_ (by walk_at "len") | refine (show addP (.str _) (.str _) _ _ from ⟨by decide +kernel, ?_⟩)
  refine da_nil ?_
  first | refine drc_int ?_ | refine drc_intb ?_
  refine de_int ?_
  refine ⟨_, _, rfl, rfl, (by walk_at "pos"), ?_⟩
  refine de_int ?_
  walk_at "eq"
  refine ⟨fun ht => ?_, fun ht => ?_⟩
  · refine ds_cons ?_
    refine ds_asg (h := ?_)
    refine de_add ?_
    refine de_name 4 ?_
    refine de_int ?_
    first | refine add_int ?_ | refine add_lst ?_ (by walk_at "len") | refine add_tup ?_ (by walk_at "len3") | refine add_scr ?_ (by walk_at "len") | refine (show addP (.str _) (.str _) _ _ from ⟨by decide +kernel, ?_⟩)
    refine dg_name 4 ?_ sc__law_spin.nd
    refine ds_nil ?_
    have hq2 := spin_turn (p := 1 + r1) (q := q) (by omega) (by omega) (.inr (of_decide_eq_true ht))
    exact ⟨q + 1, ⟨rfl, rfl, rfl, rfl, rfl, trivial⟩, ⟨rfl, by omega, hq2⟩, by omega⟩
  have hgc := gcd_one (p := 1 + r1) (q := q) (by omega) (of_decide_eq_false hb)
  have hod : (1 + r1 + q) % 2 = 1 := by have := of_decide_eq_false ht; omega
  obtain ⟨q0, hq0'⟩ : ∃ q0, q0 = q := ⟨q, rfl⟩
  subst hq0'
  refine ds_cons ?_
  refine ds_ret ?_
  refine de_tup ?_
  refine da_cons ?_
  refine de_name 2 ?_
  refine da_cons ?_
  refine de_ix (h := ?_)
  refine de_lst ?_
  refine da_cons ?_
  refine de_name 4 ?_
  refine da_cons ?_
  refine de_neg ?_
  refine de_name 4 ?_
  refine ⟨_, rfl, ?_⟩
  refine da_nil ?_
  refine ⟨by walk_at "len", ?_⟩
  refine de_call c__law_draw gd (hr.mono (by decide)) ?_
  refine da_cons ?_
  refine de_name 0 ?_
  refine da_cons ?_
  refine de_int ?_
  refine da_nil ?_
  refine ⟨_, _, _, _, rfl, (by walk_at "gets"), (by assumption), (by walk_at "m"), (by walk_at "pos"), (by walk_at "bdu"), fun r7 l7 hr7 hn7 hs7 => ?_⟩
  walk_at "sets"
  first | refine ix_pick (fun d => ∃ x : Int, d = .int x ∧ 0 ≤ x ∧ x < 1 + r1) (fa_cons ⟨_, rfl, by walk_at "spx"⟩ (fa_cons ⟨_, rfl, by walk_at "spx"⟩ (fa_cons ⟨_, rfl, by walk_at "spx"⟩ (fa_cons ⟨_, rfl, by walk_at "spx"⟩ (fa_cons ⟨_, rfl, by walk_at "spx"⟩ fa_nil))))) (by assumption) (by show r2 < 5; assumption) ?_ | refine ix_pick (fun d => ∃ x : Int, d = .int x ∧ (x = q0 ∨ x = -q0)) (fa_cons ⟨_, rfl, .inl rfl⟩ (fa_cons ⟨_, rfl, .inr rfl⟩ fa_nil)) (by assumption) (by assumption) ?_
  rintro _ ⟨xq, rfl, hxq⟩
  refine da_cons ?_
  refine de_call c__law_draw gd (hr.mono (by decide)) ?_
  refine da_cons ?_
  refine de_name 0 ?_
  refine da_cons ?_
  refine de_int ?_
  refine da_nil ?_
  refine ⟨_, _, _, _, rfl, (by walk_at "gets"), (by assumption), (by walk_at "m"), (by walk_at "pos"), (by walk_at "bdu"), fun r8 l8 hr8 hn8 hs8 => ?_⟩
  walk_at "sets"
  refine da_nil ?_
  refine ⟨by walk_at "len", ?_⟩
  refine qq _ _ _ _ ?_ (by omega) ((by assumption : Src _ _).up (by omega))
  have tt := tn_mk (p := 1 + r1) (q := q0) (by omega) (by omega) hq0 hq1 hgc hod ⟨by assumption, by assumption⟩
  rcases hxq with e | e
  · rw [e]; exact tt.1
  · rw [e]; exact tt.2
abbrev s__law_dot : Stmt := top 63
theorem sc__law_dot : FnScope ["_law_source_here", "_law_wide", "_law_spots", "_law_k"] ["_law_source_here", "_law_wide"] (defScope s__law_dot) := ⟨rfl, rfl, rfl, by decide +kernel, rfl, by decide +kernel, by decide +kernel⟩
set_option maxHeartbeats 40000000 in
theorem ok__law_dot {f : Addr} {fd : FuncData} (F : Fun K "_law_dot" "_law_dot" s__law_dot f fd) (c__law_draw : Cal P w K mg base 1 "_law_draw" ["_law_source_here", "_law_count"] [] con_draw) (n_range : mg "range" = none) (n_tuple : mg "tuple" = none) : GOk P w K mg base 2 f fd ["_law_source_here", "_law_wide"] (spD K con_dot) := by
  refine gok_ds F sc__law_dot (m := 2) rfl (fun ds S0 Q h => ?_) fun cdv A fr s0 H0 E0' gd hr ds S0 Q h => ?_
  · obtain ⟨_, _, _, _, rfl, _⟩ := h
    rfl
  obtain ⟨pp, n, l, m, rfl, hg, hS, hm, hn, bn, qq⟩ := h
  refine ds_nrm ?_ (by set_option simprocs false in dsimp only [List.map, List.replicate, List.cons_append, List.nil_append])
  refine ds_cons ?_
  refine ds_asg (h := ?_)
  refine de_lstO ?_
  refine da_nil ?_
  refine ⟨by walk_at "len", fun p1 hp1 => ?_⟩
  refine dg_name 2 ?_ sc__law_dot.nd
  refine ds_cons ?_
  refine ds_for (γ := Unit) PassesOwn.never rfl ?_
  refine di_rng1 n_range ?_
  refine da_cons ?_
  refine de_int ?_
  refine da_nil ?_
  refine ⟨_, rfl, (by walk_at "rng"), ?_⟩
  have hne : p1 ≠ pp := fun z => by rw [z, hg] at hp1; cases hp1
  refine ⟨fun _ => [some (.raw (.ref pp)), some (.int n), some (.raw (.ref p1)), none], fun i _ S' => ∃ (xs : List Int) (l' : List D), S' = (p1, xs.map D.int) :: setS pp l' S0 ∧ xs.length = i ∧ (∀ x ∈ xs, -n ≤ x ∧ x ≤ n) ∧ Src (m + i) l' ∧ getS pp (setS pp l' S0) = some l', (), ⟨rfl, rfl, rfl, trivial⟩, ⟨[], l, by rw [setS_self hg] <;> rfl, rfl, (fun _ h => nomatch h), hS, getS_setS_same hg⟩, fun i d _ S' hi hP => ?_, fun _ S' hP => ?_⟩
  · obtain ⟨xs, l', rfl, hl, hx, hS', hg'⟩ := hP
    obtain ⟨hi2, rfl⟩ := rngD_get hi
    have hi3 : i < 2 := hi2
    refine dg_name 3 ?_ sc__law_dot.nd
    refine ds_cons ?_
    refine ds_expr (h := ?_)
    refine de_append ?_
    refine de_name 2 ?_
    refine ⟨_, _, rfl, (by walk_at "gets"), ?_⟩
    refine da_cons ?_
    refine de_sub ?_
    refine de_call c__law_draw gd (hr.mono (by decide)) ?_
    refine da_cons ?_
    refine de_name 0 ?_
    refine da_cons ?_
    refine de_add ?_
    refine de_mul ?_
    refine de_int ?_
    refine de_name 1 ?_
    first | refine mul_i ?_ (by walk_at "cmw") | refine mul_l ?_ ⟨by decide, by decide, by first | decide | exact Nat.le_of_ble_eq_true rfl | walk_at "mlen"⟩
    refine de_int ?_
    first | refine add_int ?_ | refine add_lst ?_ (by walk_at "len") | refine add_tup ?_ (by walk_at "len3") | refine add_scr ?_ (by walk_at "len") | refine (show addP (.str _) (.str _) _ _ from ⟨by decide +kernel, ?_⟩)
    refine da_nil ?_
    refine ⟨_, _, _, _, rfl, (by walk_at "gets"), (by assumption), (by walk_at "m"), (by walk_at "pos"), (by walk_at "bdu"), fun r2 l2 hr2 hn2 hs2 => ?_⟩
    walk_at "sets"
    refine de_name 1 ?_
    refine ⟨_, _, rfl, rfl, ?_⟩
    refine da_nil ?_
    refine ⟨_, _, rfl, (by walk_at "gets"), (by walk_at "len"), ?_⟩
    walk_at "sets"
    refine ds_nil ?_
    rw [setS_setS]
    refine ⟨(), ⟨rfl, rfl, rfl, trivial⟩, xs ++ [r2 - n], l2, by rw [List.map_append] <;> rfl, by rw [List.length_append, hl] <;> rfl, fun x hx' => ?_, (by assumption : Src _ _).up (by omega), getS_setS_same hg⟩
    rcases List.mem_append.mp hx' with z | z
    · exact hx x z
    · have z : x = r2 - n := by simpa using z
      omega
  obtain ⟨xs, l', rfl, hl, hx, hS', hg'⟩ := hP
  have hl : xs.length = 2 := hl
  obtain ⟨x, y, rfl⟩ : ∃ x y, xs = [x, y] := by
    match xs, hl with
    | [x, y], _ => exact ⟨x, y, rfl⟩
  refine ds_freeze 2 rfl (ds_nrm ?_) rfl
  refine ds_cons ?_
  refine ds_ret ?_
  refine de_T call_tuple_of n_tuple bt_tuple ?_
  refine da_cons ?_
  refine de_name 2 ?_
  refine da_nil ?_
  first | refine drc_tuple ?_ | refine drc_tupleO getS_hd ?_
  exact qq x y l' (hx x (by simp)) (hx y (by simp)) hS'
abbrev s_lowest : Stmt := top 15
theorem sc_lowest : FnScope ["number", "divisor", "common"] ["number", "divisor"] (defScope s_lowest) := ⟨rfl, rfl, rfl, by decide +kernel, rfl, by decide +kernel, by decide +kernel⟩
set_option maxHeartbeats 40000000 in
theorem ok_lowest_w0 {f : Addr} {fd : FuncData} (F : Fun K "lowest" "lowest" s_lowest f fd) (b_gcd : mg "gcd" = some (.builtin "math.gcd")) : GOk P w K mg base 1 f fd ["number", "divisor"] (spD K con_lowest) := by
  refine gok_ds F sc_lowest (m := 1) rfl (fun ds S0 Q h => ?_) fun cdv A fr s0 H0 E0' gd hr ds S0 Q h => ?_
  · obtain ⟨_, _, rfl, _⟩ := h
    rfl
  obtain ⟨n, d, rfl, hd, ⟨b1, b2⟩, qq⟩ := h
  have g1 := gcd_pos' n hd
  have bg := gcd_bd n hd b2
  refine ds_nrm ?_ (by set_option simprocs false in dsimp only [List.map, List.replicate, List.cons_append, List.nil_append])
  refine ds_cons ?_
  refine ds_asg (h := ?_)
  refine de_gcd b_gcd ?_
  refine da_cons ?_
  refine de_name 0 ?_
  refine da_cons ?_
  refine de_name 1 ?_
  refine da_nil ?_
  refine ⟨_, _, rfl, ?_⟩
  refine dg_name 2 ?_ sc_lowest.nd
  refine ds_cons ?_
  refine ds_if ?_
  refine dt_lt ?_
  refine de_name 1 ?_
  refine de_int ?_
  refine ⟨_, _, rfl, rfl, ?_⟩
  refine ⟨fun ht => ?_, fun ht => ?_⟩
  · exact absurd (of_decide_eq_true ht) (by omega)
  refine ds_nil ?_
  refine ds_cons ?_
  refine ds_ret ?_
  refine de_tup ?_
  refine da_cons ?_
  refine de_fdiv ?_
  refine de_name 0 ?_
  refine de_name 2 ?_
  refine ⟨_, _, rfl, rfl, (by walk_at "cdw"), ?_⟩
  refine da_cons ?_
  refine de_fdiv ?_
  refine de_name 1 ?_
  refine de_name 2 ?_
  refine ⟨_, _, rfl, rfl, (by walk_at "cdw"), ?_⟩
  refine da_nil ?_
  refine ⟨by walk_at "len", ?_⟩
  exact qq
set_option maxHeartbeats 40000000 in
theorem ok_lowest_w1 {f : Addr} {fd : FuncData} (F : Fun K "lowest" "lowest" s_lowest f fd) (b_gcd : mg "gcd" = some (.builtin "math.gcd")) : GOk P w K mg base 1 f fd ["number", "divisor"] (spD K con_lowZ) := by
  refine gok_ds F sc_lowest (m := 1) rfl (fun ds S0 Q h => ?_) fun cdv A fr s0 H0 E0' gd hr ds S0 Q h => ?_
  · obtain ⟨_, _, rfl, _⟩ := h
    rfl
  obtain ⟨n, d, rfl, hd, ⟨b1, b2⟩, qq⟩ := h
  obtain ⟨hg0, bg⟩ := gcdZ n hd b2
  refine ds_nrm ?_ (by set_option simprocs false in dsimp only [List.map, List.replicate, List.cons_append, List.nil_append])
  refine ds_cons ?_
  refine ds_asg (h := ?_)
  refine de_gcd b_gcd ?_
  refine da_cons ?_
  refine de_name 0 ?_
  refine da_cons ?_
  refine de_name 1 ?_
  refine da_nil ?_
  refine ⟨_, _, rfl, ?_⟩
  refine dg_name 2 ?_ sc_lowest.nd
  refine ds_cons ?_
  refine ds_join (γ := Int) (fun z => [some (.int n), some (.int d), some (.int z)]) (fun z S' => S0 = S' ∧ z ≠ 0 ∧ Bd 700 z) ?_ ?_
  · refine ds_if ?_
    refine dt_lt ?_
    refine de_name 1 ?_
    refine de_int ?_
    refine ⟨_, _, rfl, rfl, ?_⟩
    refine ⟨fun ht => ?_, fun ht => ?_⟩
    · refine ds_cons ?_
      refine ds_asg (h := ?_)
      refine de_neg ?_
      refine de_name 2 ?_
      refine ⟨_, rfl, ?_⟩
      refine dg_name 2 ?_ sc_lowest.nd
      refine ds_nil ?_
      exact ⟨_, by walk_at "wk", rfl, by omega, bg.neg⟩
    refine ds_nil ?_
    exact ⟨_, by walk_at "wk", rfl, by omega, bg⟩
  rintro z _ ⟨rfl, hz0, bz⟩
  refine ds_cons ?_
  refine ds_ret ?_
  refine de_tup ?_
  refine da_cons ?_
  refine de_fdivM ?_
  refine de_name 0 ?_
  refine de_name 2 ?_
  refine ⟨_, _, rfl, rfl, (by first | exact cdm (by assumption) (by assumption) (by decide) _), ?_⟩
  refine da_cons ?_
  refine de_fdivM ?_
  refine de_name 1 ?_
  refine de_name 2 ?_
  refine ⟨_, _, rfl, rfl, (by first | exact cdm (by assumption) (by assumption) (by decide) _), ?_⟩
  refine da_nil ?_
  refine ⟨by walk_at "len", ?_⟩
  exact qq _ _
theorem ok_lowest {f : Addr} {fd : FuncData} (F : Fun K "lowest" "lowest" s_lowest f fd) (b_gcd : mg "gcd" = some (.builtin "math.gcd")) : GOk P w K mg base 1 f fd ["number", "divisor"] (spD K con_low2) := gok_two (ok_lowest_w0 F b_gcd) (ok_lowest_w1 F b_gcd) (fun _ _ _ h => h)
abbrev s__step : Stmt := top 43
theorem sc__step : FnScope ["axis", "number", "divisor"] ["axis", "number", "divisor"] (defScope s__step) := ⟨rfl, rfl, rfl, by decide +kernel, rfl, by decide +kernel, by decide +kernel⟩
set_option maxHeartbeats 40000000 in
theorem ok__step_w0 {f : Addr} {fd : FuncData} (F : Fun K "_step" "_step" s__step f fd) (c_lowest : Cal P w K mg base 1 "lowest" ["number", "divisor"] [] con_low2) : GOk P w K mg base 2 f fd ["axis", "number", "divisor"] (spD K con_step) := by
  refine gok_ds F sc__step (m := 0) rfl (fun ds S0 Q h => ?_) fun cdv A fr s0 H0 E0' gd hr ds S0 Q h => ?_
  · obtain ⟨_, _, _, rfl, _⟩ := h
    rfl
  obtain ⟨b, n, d, rfl, hd, ⟨b1, b2⟩, qq⟩ := h
  have g1 := gcd_pos' n hd
  have bg := gcd_bd n hd b2
  refine ds_nrm ?_ (by set_option simprocs false in dsimp only [List.map, List.replicate, List.cons_append, List.nil_append])
  refine ds_cons ?_
  refine ds_asg (h := ?_)
  refine de_call c_lowest gd (hr.mono (by decide)) ?_
  refine da_cons ?_
  refine de_name 1 ?_
  refine da_cons ?_
  refine de_name 2 ?_
  refine da_nil ?_
  refine .inl ⟨_, _, rfl, by walk_at "pos", ⟨by walk_at "bdu", by walk_at "bdu"⟩, ?_⟩
  first | refine dg_tup rfl rfl ?_ | refine dg_tupL rfl rfl ?_ (fun h => pg_lst rfl h)
  refine dgs_cons (h := ?_)
  refine dg_name 1 ?_ sc__step.nd
  refine dgs_cons (h := ?_)
  refine dg_name 2 ?_ sc__step.nd
  refine dgs_nil ?_
  refine ds_cons ?_
  refine ds_ret ?_
  refine de_tup ?_
  refine da_cons ?_
  refine de_name 0 ?_
  refine da_cons ?_
  refine de_name 1 ?_
  refine da_cons ?_
  refine de_name 2 ?_
  refine da_nil ?_
  refine ⟨by walk_at "len", ?_⟩
  exact qq
set_option maxHeartbeats 40000000 in
theorem ok__step_w1 {f : Addr} {fd : FuncData} (F : Fun K "_step" "_step" s__step f fd) (c_lowest : Cal P w K mg base 1 "lowest" ["number", "divisor"] [] con_low2) : GOk P w K mg base 2 f fd ["axis", "number", "divisor"] (spD K con_stepZ) := by
  refine gok_ds F sc__step (m := 0) rfl (fun ds S0 Q h => ?_) fun cdv A fr s0 H0 E0' gd hr ds S0 Q h => ?_
  · obtain ⟨_, _, _, rfl, _⟩ := h
    rfl
  obtain ⟨b, n, d, rfl, hd, ⟨b1, b2⟩, qq⟩ := h
  refine ds_nrm ?_ (by set_option simprocs false in dsimp only [List.map, List.replicate, List.cons_append, List.nil_append])
  refine ds_cons ?_
  refine ds_asg (h := ?_)
  refine de_call c_lowest gd (hr.mono (by decide)) ?_
  refine da_cons ?_
  refine de_name 1 ?_
  refine da_cons ?_
  refine de_name 2 ?_
  refine da_nil ?_
  refine .inr ⟨_, _, rfl, hd, ⟨by walk_at "bdu", by walk_at "bdu"⟩, fun x1 y1 => ?_⟩
  first | refine dg_tup rfl rfl ?_ | refine dg_tupL rfl rfl ?_ (fun h => pg_lst rfl h)
  refine dgs_cons (h := ?_)
  refine dg_name 1 ?_ sc__step.nd
  refine dgs_cons (h := ?_)
  refine dg_name 2 ?_ sc__step.nd
  refine dgs_nil ?_
  refine ds_cons ?_
  refine ds_ret ?_
  refine de_tup ?_
  refine da_cons ?_
  refine de_name 0 ?_
  refine da_cons ?_
  refine de_name 1 ?_
  refine da_cons ?_
  refine de_name 2 ?_
  refine da_nil ?_
  refine ⟨by walk_at "len", ?_⟩
  exact qq _ _
theorem ok__step {f : Addr} {fd : FuncData} (F : Fun K "_step" "_step" s__step f fd) (c_lowest : Cal P w K mg base 1 "lowest" ["number", "divisor"] [] con_low2) : GOk P w K mg base 2 f fd ["axis", "number", "divisor"] (spD K con_step2) := gok_two (ok__step_w0 F c_lowest) (ok__step_w1 F c_lowest) (fun _ _ _ h => h)
abbrev s__is_step : Stmt := top 42
theorem sc__is_step : FnScope ["value"] ["value"] (defScope s__is_step) := ⟨rfl, rfl, rfl, by decide +kernel, rfl, by decide +kernel, by decide +kernel⟩
set_option maxHeartbeats 40000000 in
theorem ok__is_step {f : Addr} {fd : FuncData} (F : Fun K "_is_step" "_is_step" s__is_step f fd) (c_is_whole_tuple : Cal P w K mg base 2 "is_whole_tuple" ["value", "size"] [] con_is_whole_tuple) (n_isinstance : mg "isinstance" = none) (n_len : mg "len" = none) (n_tuple : mg "tuple" = none) : GOk P w K mg base 3 f fd ["value"] (spD K con_isstep) := by
  refine gok_ds F sc__is_step (m := 0) rfl (fun ds S0 Q h => ?_) fun cdv A fr s0 H0 E0' gd hr ds S0 Q h => ?_
  · obtain ⟨_, _, _, rfl, _⟩ := h
    rfl
  obtain ⟨b, n, d, rfl, hd, qq⟩ := h
  refine ds_nrm ?_ (by set_option simprocs false in dsimp only [List.map, List.replicate, List.cons_append, List.nil_append])
  refine ds_cons ?_
  refine ds_if ?_
  refine dt_w ?_
  refine dw_or ?_
  refine dt_not ?_
  refine dt_val (h := ?_)
  refine de_B call_isi n_isinstance bt_isinstance ?_
  refine da_cons ?_
  refine de_name 0 ?_
  refine da_cons ?_
  refine de_ty n_tuple bt_tuple ?_
  refine da_nil ?_
  walk_at "isi"
  refine ⟨_, rfl, ?_⟩
  refine ⟨fun hb => ?_, fun hb => ?_⟩
  · first | exact absurd hb (by simp) | exact absurd hb (by decide)
  refine dw_or ?_
  refine dt_ne (hr.units) ?_
  refine de_B call_len_seq n_len bt_len ?_
  refine da_cons ?_
  refine de_name 0 ?_
  refine da_nil ?_
  refine drc_len ?_
  walk_at "lenP"
  refine de_int ?_
  refine eq_int ?_
  refine ⟨fun hb => ?_, fun hb => ?_⟩
  · first | exact absurd hb (by simp) | exact absurd hb (by decide)
  refine dw_or1 ?_
  refine dt_notin (hu65 hr) ?_
  refine de_ix (h := ?_)
  refine de_name 0 ?_
  refine de_int ?_
  walk_at "ix"
  refine de_tup ?_
  refine da_cons ?_
  refine de_str ?_
  refine da_cons ?_
  refine de_str ?_
  refine da_nil ?_
  refine ⟨by walk_at "len", ?_⟩
  refine in_ax ?_
  refine ⟨fun ht => ?_, fun ht => ?_⟩
  · exact absurd ht (by simp)
  refine ds_nil ?_
  refine ds_cons ?_
  refine ds_ret ?_
  refine de_and ?_
  refine de_call c_is_whole_tuple gd (hr.mono (by decide)) ?_
  refine da_cons ?_
  refine de_slice ?_
  refine de_name 0 ?_
  refine do_some ?_
  refine de_int ?_
  refine ⟨rfl, _, rfl, ?_⟩
  refine do_none ?_
  walk_at "slice"
  refine da_cons ?_
  refine de_int ?_
  refine da_nil ?_
  first | refine ⟨[_, _, _], rfl, by simp, ?_⟩ | refine ⟨[_, _], rfl, by simp, ?_⟩
  refine ⟨_, rfl, fun hb => ?_, fun hb => ?_⟩
  · exact absurd hb (by simp)
  refine de_one ?_
  refine de_ge ?_
  refine de_ix (h := ?_)
  refine de_name 0 ?_
  refine de_int ?_
  walk_at "ix"
  refine de_int ?_
  refine ⟨_, _, rfl, rfl, ?_⟩
  rw [decide_eq_true hd]
  exact qq
abbrev s_check_chain : Stmt := top 32
theorem sc_check_chain : FnScope ["chain", "at", "item"] ["chain"] (defScope s_check_chain) := ⟨rfl, rfl, rfl, by decide +kernel, rfl, by decide +kernel, by decide +kernel⟩
set_option maxHeartbeats 40000000 in
theorem ok_check_chain {f : Addr} {fd : FuncData} (F : Fun K "check_chain" "check_chain" s_check_chain f fd) (c__is_step : Cal P w K mg base 3 "_is_step" ["value"] [] con_isstep) (g_MOST_STEPS : ∃ u, mg "MOST_STEPS" = some (.int (8) u)) (n_enumerate : mg "enumerate" = none) (n_isinstance : mg "isinstance" = none) (n_len : mg "len" = none) (n_list : mg "list" = none) : GOk P w K mg base 4 f fd ["chain"] (spD K con_chkc) := by
  refine gok_ds F sc_check_chain (m := 2) rfl (fun ds S0 Q h => ?_) fun cdv A fr s0 H0 E0' gd hr ds S0 Q h => ?_
  · obtain ⟨_, rfl, _⟩ := h
    rfl
  obtain ⟨l, rfl, hC, qq⟩ := h
  have hok := hC.1
  have h8 := hC.2
  refine ds_nrm ?_ (by set_option simprocs false in dsimp only [List.map, List.replicate, List.cons_append, List.nil_append])
  refine ds_cons ?_
  refine ds_if ?_
  refine dt_w ?_
  refine dw_or ?_
  refine dt_not ?_
  refine dt_val (h := ?_)
  refine de_B call_isi n_isinstance bt_isinstance ?_
  refine da_cons ?_
  refine de_name 0 ?_
  refine da_cons ?_
  refine de_ty n_list bt_list ?_
  refine da_nil ?_
  walk_at "isi"
  refine ⟨_, rfl, ?_⟩
  refine ⟨fun hb => ?_, fun hb => ?_⟩
  · first | exact absurd hb (by simp) | exact absurd hb (by decide)
  refine dw_or1 ?_
  refine dt_gt ?_
  refine de_B call_len_seq n_len bt_len ?_
  refine da_cons ?_
  refine de_name 0 ?_
  refine da_nil ?_
  refine drc_len ?_
  walk_at "lenP"
  refine de_globI2 g_MOST_STEPS ?_
  refine ⟨_, _, rfl, rfl, ?_⟩
  refine ⟨fun ht => ?_, fun ht => ?_⟩
  · exact absurd (of_decide_eq_true ht) (by rw [List.length_map]; omega)
  refine ds_nil ?_
  refine ds_cons ?_
  refine ds_forG (γ := Unit) [1, 2] PassesOwn.never rfl ?_
  refine di_enum n_enumerate ?_
  refine da_cons ?_
  refine de_name 0 ?_
  refine da_nil ?_
  refine ⟨_, rfl, ?_⟩
  refine ⟨fun _ => [], _, fun _ => (by dsimp only [putU, fgt, List.set]), fun i _ S' => S0 = S', (), by walk_at "wk", rfl, fun i1 d1 g1 S1 hi1 hP1 => ?_, fun g1 S1 hP1 => ?_⟩
  · subst hP1
    obtain ⟨d9, hd9, rfl⟩ := enuD_at hi1
    obtain ⟨t, ht1, rfl⟩ := st_at hd9
    have hs1 := (hok t (List.mem_of_getElem? ht1)).1
    first | refine dg_tup rfl rfl ?_ | refine dg_tupL rfl rfl ?_ (fun h => pg_lst rfl h)
    refine dgs_cons (h := ?_)
    refine dg_name 1 ?_ sc_check_chain.nd
    refine dgs_cons (h := ?_)
    refine dg_name 2 ?_ sc_check_chain.nd
    refine dgs_nil ?_
    refine ds_cons ?_
    refine ds_if ?_
    refine dt_not ?_
    refine dt_val (h := ?_)
    refine de_call c__is_step gd (hr.mono (by decide)) ?_
    refine da_cons ?_
    refine de_name 2 ?_
    refine da_nil ?_
    refine ⟨_, _, _, rfl, (by assumption), ?_⟩
    refine ⟨_, rfl, ?_⟩
    refine ⟨fun ht => ?_, fun ht => ?_⟩
    · exact absurd ht (by simp)
    refine ds_nil ?_
    refine ds_nil ?_
    exact ⟨(), by walk_at "wk", rfl⟩
  subst hP1
  refine ds_nil ?_
  exact qq
abbrev s_along : Stmt := top 34
theorem sc_along : FnScope ["chain", "pixel", "x", "y", "axis", "number", "divisor"] ["chain", "pixel"] (defScope s_along) := ⟨rfl, rfl, rfl, by decide +kernel, rfl, by decide +kernel, by decide +kernel⟩
set_option maxHeartbeats 40000000 in
theorem ok_along {f : Addr} {fd : FuncData} (F : Fun K "along" "along" s_along f fd) (c_nearest : Cal P w K mg base 1 "nearest" ["number", "divisor"] [] con_nearest) : GOk P w K mg base 2 f fd ["chain", "pixel"] (spD K con_led) := by
  refine gok_ds F sc_along (m := 5) rfl (fun ds S0 Q h => ?_) fun cdv A fr s0 H0 E0' gd hr ds S0 Q h => ?_
  · obtain ⟨_, _, _, rfl, _⟩ := h
    rfl
  obtain ⟨l, x, y, rfl, hC, ⟨bx, by'⟩, qq⟩ := h
  have hok := hC.1
  have h8 := hC.2
  refine ds_nrm ?_ (by set_option simprocs false in dsimp only [List.map, List.replicate, List.cons_append, List.nil_append])
  refine ds_cons ?_
  refine ds_asg (h := ?_)
  refine de_name 1 ?_
  first | refine dg_tup rfl rfl ?_ | refine dg_tupL rfl rfl ?_ (fun h => pg_lst rfl h)
  refine dgs_cons (h := ?_)
  refine dg_name 2 ?_ sc_along.nd
  refine dgs_cons (h := ?_)
  refine dg_name 3 ?_ sc_along.nd
  refine dgs_nil ?_
  refine ds_cons ?_
  refine ds_forG (γ := Int × Int) [2, 3, 4, 5, 6] PassesOwn.never rfl ?_
  refine di_lst ?_
  refine de_name 0 ?_
  refine ⟨_, rfl, ?_⟩
  refine ⟨fun v => [(2, .int v.1), (3, .int v.2)], _, fun _ => (by dsimp only [putU, fgt, List.set]), fun i v S' => v = ledN (l.take i) (x, y) ∧ S0 = S', (x, y), by walk_at "wk", ⟨rfl, rfl⟩, fun i1 d1 g1 S1 hi1 hP1 => ?_, fun g1 S1 hP1 => ?_⟩
  · obtain ⟨rfl, rfl⟩ := hP1
    obtain ⟨t, ht1, rfl⟩ := st_at hi1
    have hs1 := hok t (List.mem_of_getElem? ht1)
    obtain ⟨b, n, d⟩ := t
    obtain ⟨hd1, bn1, bd1⟩ := hs1
    have hd1 : 1 ≤ d := hd1
    have bn1 : Bd 150 n := bn1
    have bd1 : Bd 150 d := bd1
    have bv := take_bd (by decide) hC (show BdP 1400 (x, y) from ⟨bx, by'⟩) i1
    have e1 := ledN_take ht1 (x, y)
    obtain ⟨v, hv⟩ : ∃ v, v = ledN (l.take i1) (x, y) := ⟨_, rfl⟩
    rw [← hv] at bv e1 ⊢
    obtain ⟨v1, v2⟩ := v
    obtain ⟨bv1, bv2⟩ := bv
    have bv1 : Bd 2640 v1 := bv1
    have bv2 : Bd 2640 v2 := bv2
    first | refine dg_tup rfl rfl ?_ | refine dg_tupL rfl rfl ?_ (fun h => pg_lst rfl h)
    refine dgs_cons (h := ?_)
    refine dg_name 4 ?_ sc_along.nd
    refine dgs_cons (h := ?_)
    refine dg_name 5 ?_ sc_along.nd
    refine dgs_cons (h := ?_)
    refine dg_name 6 ?_ sc_along.nd
    refine dgs_nil ?_
    refine ds_cons ?_
    refine ds_if ?_
    refine dt_eq (hr.units) ?_
    refine de_name 4 ?_
    refine de_str ?_
    refine eq_ax ?_
    refine ⟨fun ht => ?_, fun ht => ?_⟩
    · refine ds_cons ?_
      refine ds_augI 2 sc_along.nd rfl rfl rfl ?_
      refine de_call c_nearest gd (hr.mono (by decide)) ?_
      refine da_cons ?_
      refine de_mul ?_
      refine de_name 5 ?_
      refine de_name 3 ?_
      first | refine mul_i ?_ (by walk_at "cmw") | refine mul_l ?_ ⟨by decide, by decide, by first | decide | exact Nat.le_of_ble_eq_true rfl | walk_at "mlen"⟩
      refine da_cons ?_
      refine de_name 6 ?_
      refine da_nil ?_
      refine ⟨_, _, rfl, ⟨by walk_at "bdu", by walk_at "bdu", by walk_at "pos"⟩, ?_⟩
      refine ⟨_, rfl, ?_⟩
      refine ds_nrm ?_
      refine ds_nil ?_
      refine ds_nil ?_
      exact ⟨led1 (b, n, d) (v1, v2), by (repeat (first | refine ⟨rfl, ?_⟩ | refine ⟨by rw [ht] <;> rfl, ?_⟩ | exact trivial)), e1.symm, rfl⟩
    refine ds_cons ?_
    refine ds_augI 3 sc_along.nd rfl rfl rfl ?_
    refine de_call c_nearest gd (hr.mono (by decide)) ?_
    refine da_cons ?_
    refine de_mul ?_
    refine de_name 5 ?_
    refine de_name 2 ?_
    first | refine mul_i ?_ (by walk_at "cmw") | refine mul_l ?_ ⟨by decide, by decide, by first | decide | exact Nat.le_of_ble_eq_true rfl | walk_at "mlen"⟩
    refine da_cons ?_
    refine de_name 6 ?_
    refine da_nil ?_
    refine ⟨_, _, rfl, ⟨by walk_at "bdu", by walk_at "bdu", by walk_at "pos"⟩, ?_⟩
    refine ⟨_, rfl, ?_⟩
    refine ds_nrm ?_
    refine ds_nil ?_
    refine ds_nil ?_
    exact ⟨led1 (b, n, d) (v1, v2), by (repeat (first | refine ⟨rfl, ?_⟩ | refine ⟨by rw [ht] <;> rfl, ?_⟩ | exact trivial)), e1.symm, rfl⟩
  obtain ⟨rfl, rfl⟩ := hP1
  rw [List.length_map, List.take_of_length_le (Nat.le_refl l.length)]
  refine ds_cons ?_
  refine ds_ret ?_
  refine de_tup ?_
  refine da_cons ?_
  refine de_name 2 ?_
  refine da_cons ?_
  refine de_name 3 ?_
  refine da_nil ?_
  refine ⟨by walk_at "len", ?_⟩
  exact qq
abbrev s_after_chain : Stmt := top 35
theorem sc_after_chain : FnScope ["chain", "pixel"] ["chain", "pixel"] (defScope s_after_chain) := ⟨rfl, rfl, rfl, by decide +kernel, rfl, by decide +kernel, by decide +kernel⟩
set_option maxHeartbeats 40000000 in
theorem ok_after_chain {f : Addr} {fd : FuncData} (F : Fun K "after_chain" "after_chain" s_after_chain f fd) (c_along : Cal P w K mg base 2 "along" ["chain", "pixel"] [] con_led) (c_check_chain : Cal P w K mg base 4 "check_chain" ["chain"] [] con_chkc) (c_check_pixel : Cal P w K mg base 4 "check_pixel" ["pixel"] [] con_check_pixel) : GOk P w K mg base 5 f fd ["chain", "pixel"] (spD K con_led) := by
  refine gok_ds F sc_after_chain (m := 0) rfl (fun ds S0 Q h => ?_) fun cdv A fr s0 H0 E0' gd hr ds S0 Q h => ?_
  · obtain ⟨_, _, _, rfl, _⟩ := h
    rfl
  obtain ⟨l, x, y, rfl, hC, ⟨bx, by'⟩, qq⟩ := h
  refine ds_nrm ?_ (by set_option simprocs false in dsimp only [List.map, List.replicate, List.cons_append, List.nil_append])
  refine ds_cons ?_
  refine ds_expr (h := ?_)
  refine de_call c_check_chain gd (hr.mono (by decide)) ?_
  refine da_cons ?_
  refine de_name 0 ?_
  refine da_nil ?_
  refine ⟨_, rfl, (by assumption), ?_⟩
  refine ds_cons ?_
  refine ds_expr (h := ?_)
  refine de_call c_check_pixel gd (hr.mono (by decide)) ?_
  refine da_cons ?_
  refine de_name 1 ?_
  refine da_nil ?_
  refine ⟨_, _, rfl, ?_⟩
  refine ds_cons ?_
  refine ds_ret ?_
  refine de_call c_along gd (hr.mono (by decide)) ?_
  refine da_cons ?_
  refine de_name 0 ?_
  refine da_cons ?_
  refine de_name 1 ?_
  refine da_nil ?_
  refine ⟨_, _, _, rfl, (by assumption), ⟨by walk_at "bdu", by walk_at "bdu"⟩, ?_⟩
  exact qq
abbrev s_before_chain : Stmt := top 36
theorem sc_before_chain : FnScope ["chain", "pixel", "x", "y", "axis", "number", "divisor"] ["chain", "pixel"] (defScope s_before_chain) := ⟨rfl, rfl, rfl, by decide +kernel, rfl, by decide +kernel, by decide +kernel⟩
set_option maxHeartbeats 40000000 in
theorem ok_before_chain {f : Addr} {fd : FuncData} (F : Fun K "before_chain" "before_chain" s_before_chain f fd) (c_check_chain : Cal P w K mg base 4 "check_chain" ["chain"] [] con_chkc) (c_check_pixel : Cal P w K mg base 4 "check_pixel" ["pixel"] [] con_check_pixel) (c_nearest : Cal P w K mg base 1 "nearest" ["number", "divisor"] [] con_nearest) : GOk P w K mg base 5 f fd ["chain", "pixel"] (spD K con_before) := by
  refine gok_ds F sc_before_chain (m := 5) rfl (fun ds S0 Q h => ?_) fun cdv A fr s0 H0 E0' gd hr ds S0 Q h => ?_
  · obtain ⟨_, _, _, rfl, _⟩ := h
    rfl
  obtain ⟨l, x, y, rfl, hC, ⟨bx, by'⟩, qq⟩ := h
  have hok := hC.1
  have h8 := hC.2
  refine ds_nrm ?_ (by set_option simprocs false in dsimp only [List.map, List.replicate, List.cons_append, List.nil_append])
  refine ds_cons ?_
  refine ds_expr (h := ?_)
  refine de_call c_check_chain gd (hr.mono (by decide)) ?_
  refine da_cons ?_
  refine de_name 0 ?_
  refine da_nil ?_
  refine ⟨_, rfl, (by assumption), ?_⟩
  refine ds_cons ?_
  refine ds_expr (h := ?_)
  refine de_call c_check_pixel gd (hr.mono (by decide)) ?_
  refine da_cons ?_
  refine de_name 1 ?_
  refine da_nil ?_
  refine ⟨_, _, rfl, ?_⟩
  refine ds_cons ?_
  refine ds_asg (h := ?_)
  refine de_name 1 ?_
  first | refine dg_tup rfl rfl ?_ | refine dg_tupL rfl rfl ?_ (fun h => pg_lst rfl h)
  refine dgs_cons (h := ?_)
  refine dg_name 2 ?_ sc_before_chain.nd
  refine dgs_cons (h := ?_)
  refine dg_name 3 ?_ sc_before_chain.nd
  refine dgs_nil ?_
  refine ds_cons ?_
  refine ds_forG (γ := Int × Int) [2, 3, 4, 5, 6] PassesOwn.never rfl ?_
  refine di_lst ?_
  refine de_rev ?_
  refine de_name 0 ?_
  refine ⟨_, rfl, ?_⟩
  refine ⟨_, rfl, ?_⟩
  refine ⟨fun v => [(2, .int v.1), (3, .int v.2)], _, fun _ => (by dsimp only [putU, fgt, List.set]), fun i v S' => v = unlT l i (x, y) ∧ S0 = S', (x, y), by walk_at "wk", ⟨rfl, rfl⟩, fun i1 d1 g1 S1 hi1 hP1 => ?_, fun g1 S1 hP1 => ?_⟩
  · obtain ⟨rfl, rfl⟩ := hP1
    rw [← List.map_reverse] at hi1
    obtain ⟨t, ht1, rfl⟩ := st_at (os := l.reverse) hi1
    have hs1 := hok t (List.mem_reverse.mp (List.mem_of_getElem? ht1))
    have hlt1 := (List.getElem?_eq_some_iff.mp ht1).1
    rw [List.length_reverse] at hlt1
    obtain ⟨b, n, d⟩ := t
    obtain ⟨hd1, bn1, bd1⟩ := hs1
    have hd1 : 1 ≤ d := hd1
    have bn1 : Bd 150 n := bn1
    have bd1 : Bd 150 d := bd1
    have bv := (unlT_bd (by decide) hok (show BdP 1400 (x, y) from ⟨bx, by'⟩) i1 (by omega)).up (show 1400 + 155 * i1 ≤ 2640 by omega)
    have e1 := unlT_succ ht1 (x, y)
    obtain ⟨v, hv⟩ : ∃ v, v = unlT l i1 (x, y) := ⟨_, rfl⟩
    rw [← hv] at bv e1 ⊢
    obtain ⟨v1, v2⟩ := v
    obtain ⟨bv1, bv2⟩ := bv
    have bv1 : Bd 2640 v1 := bv1
    have bv2 : Bd 2640 v2 := bv2
    first | refine dg_tup rfl rfl ?_ | refine dg_tupL rfl rfl ?_ (fun h => pg_lst rfl h)
    refine dgs_cons (h := ?_)
    refine dg_name 4 ?_ sc_before_chain.nd
    refine dgs_cons (h := ?_)
    refine dg_name 5 ?_ sc_before_chain.nd
    refine dgs_cons (h := ?_)
    refine dg_name 6 ?_ sc_before_chain.nd
    refine dgs_nil ?_
    refine ds_cons ?_
    refine ds_if ?_
    refine dt_eq (hr.units) ?_
    refine de_name 4 ?_
    refine de_str ?_
    refine eq_ax ?_
    refine ⟨fun ht => ?_, fun ht => ?_⟩
    · refine ds_cons ?_
      refine ds_augS 2 sc_before_chain.nd rfl rfl rfl ?_
      refine de_call c_nearest gd (hr.mono (by decide)) ?_
      refine da_cons ?_
      refine de_mul ?_
      refine de_name 5 ?_
      refine de_name 3 ?_
      first | refine mul_i ?_ (by walk_at "cmw") | refine mul_l ?_ ⟨by decide, by decide, by first | decide | exact Nat.le_of_ble_eq_true rfl | walk_at "mlen"⟩
      refine da_cons ?_
      refine de_name 6 ?_
      refine da_nil ?_
      refine ⟨_, _, rfl, ⟨by walk_at "bdu", by walk_at "bdu", by walk_at "pos"⟩, ?_⟩
      refine ⟨_, rfl, ?_⟩
      refine ds_nrm ?_
      refine ds_nil ?_
      refine ds_nil ?_
      exact ⟨unl1 (b, n, d) (v1, v2), by (repeat (first | refine ⟨rfl, ?_⟩ | refine ⟨by rw [ht] <;> rfl, ?_⟩ | exact trivial)), e1.symm, rfl⟩
    refine ds_cons ?_
    refine ds_augS 3 sc_before_chain.nd rfl rfl rfl ?_
    refine de_call c_nearest gd (hr.mono (by decide)) ?_
    refine da_cons ?_
    refine de_mul ?_
    refine de_name 5 ?_
    refine de_name 2 ?_
    first | refine mul_i ?_ (by walk_at "cmw") | refine mul_l ?_ ⟨by decide, by decide, by first | decide | exact Nat.le_of_ble_eq_true rfl | walk_at "mlen"⟩
    refine da_cons ?_
    refine de_name 6 ?_
    refine da_nil ?_
    refine ⟨_, _, rfl, ⟨by walk_at "bdu", by walk_at "bdu", by walk_at "pos"⟩, ?_⟩
    refine ⟨_, rfl, ?_⟩
    refine ds_nrm ?_
    refine ds_nil ?_
    refine ds_nil ?_
    exact ⟨unl1 (b, n, d) (v1, v2), by (repeat (first | refine ⟨rfl, ?_⟩ | refine ⟨by rw [ht] <;> rfl, ?_⟩ | exact trivial)), e1.symm, rfl⟩
  obtain ⟨rfl, rfl⟩ := hP1
  rw [List.length_reverse, List.length_map, unlT_all l _ rfl]
  refine ds_cons ?_
  refine ds_ret ?_
  refine de_tup ?_
  refine da_cons ?_
  refine de_name 2 ?_
  refine da_cons ?_
  refine de_name 3 ?_
  refine da_nil ?_
  refine ⟨by walk_at "len", ?_⟩
  exact qq
abbrev s_check_order : Stmt := top 48
theorem sc_check_order : FnScope ["order"] ["order"] (defScope s_check_order) := ⟨rfl, rfl, rfl, by decide +kernel, rfl, by decide +kernel, by decide +kernel⟩
set_option maxHeartbeats 40000000 in
theorem ok_check_order {f : Addr} {fd : FuncData} (F : Fun K "check_order" "check_order" s_check_order f fd)  : GOk P w K mg base 1 f fd ["order"] (spD K con_ckord) := by
  refine gok_ds F sc_check_order (m := 0) rfl (fun ds S0 Q h => ?_) fun cdv A fr s0 H0 E0' gd hr ds S0 Q h => ?_
  · obtain ⟨_, rfl, _⟩ := h
    rfl
  obtain ⟨o, rfl, qq⟩ := h
  refine ds_nrm ?_ (by set_option simprocs false in dsimp only [List.map, List.replicate, List.cons_append, List.nil_append])
  refine ds_cons ?_
  refine ds_if ?_
  refine dt_notin (hu65 hr) ?_
  refine de_name 0 ?_
  refine de_tup ?_
  refine da_cons ?_
  refine de_str ?_
  refine da_cons ?_
  refine de_str ?_
  refine da_nil ?_
  refine ⟨by walk_at "len", ?_⟩
  refine in_od ?_
  refine ⟨fun ht => ?_, fun ht => ?_⟩
  · exact absurd ht (by simp)
  refine ds_nil ?_
  refine ds_nil ?_
  exact qq
abbrev s_shear_chain : Stmt := top 49
theorem sc_shear_chain : FnScope ["turn", "order", "p", "q", "_", "b", "c"] ["turn", "order"] (defScope s_shear_chain) := ⟨rfl, rfl, rfl, by decide +kernel, rfl, by decide +kernel, by decide +kernel⟩
set_option maxHeartbeats 40000000 in
theorem ok_shear_chain {f : Addr} {fd : FuncData} (F : Fun K "shear_chain" "shear_chain" s_shear_chain f fd) (c_check_order : Cal P w K mg base 1 "check_order" ["order"] [] con_ckord) (c_check_turn : Cal P w K mg base 4 "check_turn" ["turn"] [] con_check_turn) : GOk P w K mg base 5 f fd ["turn", "order"] (spD K con_shcP) := by
  refine gok_ds F sc_shear_chain (m := 5) rfl (fun ds S0 Q h => ?_) fun cdv A fr s0 H0 E0' gd hr ds S0 Q h => ?_
  · obtain ⟨_, _, _, _, rfl, _⟩ := h
    rfl
  obtain ⟨p, q, k, o, rfl, hT, qq⟩ := h
  have b1 := hT.bp
  have b2 := hT.bq
  refine ds_nrm ?_ (by set_option simprocs false in dsimp only [List.map, List.replicate, List.cons_append, List.nil_append])
  refine ds_cons ?_
  refine ds_expr (h := ?_)
  refine de_call c_check_turn gd (hr.mono (by decide)) ?_
  refine da_cons ?_
  refine de_name 0 ?_
  refine da_nil ?_
  refine ⟨_, _, _, rfl, by walk_at "tn", ?_⟩
  refine ds_cons ?_
  refine ds_expr (h := ?_)
  refine de_call c_check_order gd (hr.mono (by decide)) ?_
  refine da_cons ?_
  refine de_name 1 ?_
  refine da_nil ?_
  first | refine ⟨_, rfl, ?_⟩ | refine ⟨true, rfl, ?_⟩ | refine ⟨false, rfl, ?_⟩
  refine ds_cons ?_
  refine ds_asg (h := ?_)
  refine de_name 0 ?_
  first | refine dg_tup rfl rfl ?_ | refine dg_tupL rfl rfl ?_ (fun h => pg_lst rfl h)
  refine dgs_cons (h := ?_)
  refine dg_name 2 ?_ sc_shear_chain.nd
  refine dgs_cons (h := ?_)
  refine dg_name 3 ?_ sc_shear_chain.nd
  refine dgs_cons (h := ?_)
  refine dg_name 4 ?_ sc_shear_chain.nd
  refine dgs_nil ?_
  refine ds_cons ?_
  refine ds_par (i := 5) (j := 6) rfl sc_shear_chain.nd rfl rfl (by decide) ?_
  refine da_cons ?_
  refine de_mul ?_
  refine de_mul ?_
  refine de_int ?_
  refine de_name 2 ?_
  first | refine mul_i ?_ (by walk_at "cmw") | refine mul_l ?_ ⟨by decide, by decide, by first | decide | exact Nat.le_of_ble_eq_true rfl | walk_at "mlen"⟩
  refine de_name 3 ?_
  first | refine mul_i ?_ (by walk_at "cmw") | refine mul_l ?_ ⟨by decide, by decide, by first | decide | exact Nat.le_of_ble_eq_true rfl | walk_at "mlen"⟩
  refine da_cons ?_
  refine de_add ?_
  refine de_mul ?_
  refine de_name 2 ?_
  refine de_name 2 ?_
  first | refine mul_i ?_ (by walk_at "cmw") | refine mul_l ?_ ⟨by decide, by decide, by first | decide | exact Nat.le_of_ble_eq_true rfl | walk_at "mlen"⟩
  refine de_mul ?_
  refine de_name 3 ?_
  refine de_name 3 ?_
  first | refine mul_i ?_ (by walk_at "cmw") | refine mul_l ?_ ⟨by decide, by decide, by first | decide | exact Nat.le_of_ble_eq_true rfl | walk_at "mlen"⟩
  first | refine add_int ?_ | refine add_lst ?_ (by walk_at "len") | refine add_tup ?_ (by walk_at "len3") | refine add_scr ?_ (by walk_at "len") | refine (show addP (.str _) (.str _) _ _ from ⟨by decide +kernel, ?_⟩)
  refine da_nil ?_
  refine ⟨_, _, rfl, ?_⟩
  refine ds_nrm ?_
  refine ds_cons ?_
  refine ds_if ?_
  refine dt_eq (hr.units) ?_
  refine de_name 1 ?_
  refine de_str ?_
  refine eq_od ?_
  refine ⟨fun ht => ?_, fun ht => ?_⟩
  · subst ht
    refine ds_cons ?_
    refine ds_ret ?_
    refine de_lst ?_
    refine da_cons ?_
    refine de_tup ?_
    refine da_cons ?_
    refine de_str ?_
    refine da_cons ?_
    refine de_neg ?_
    refine de_name 3 ?_
    refine ⟨_, rfl, ?_⟩
    refine da_cons ?_
    refine de_name 2 ?_
    refine da_nil ?_
    refine ⟨by walk_at "len", ?_⟩
    refine da_cons ?_
    refine de_tup ?_
    refine da_cons ?_
    refine de_str ?_
    refine da_cons ?_
    refine de_name 5 ?_
    refine da_cons ?_
    refine de_name 6 ?_
    refine da_nil ?_
    refine ⟨by walk_at "len", ?_⟩
    refine da_cons ?_
    refine de_tup ?_
    refine da_cons ?_
    refine de_str ?_
    refine da_cons ?_
    refine de_neg ?_
    refine de_name 3 ?_
    refine ⟨_, rfl, ?_⟩
    refine da_cons ?_
    refine de_name 2 ?_
    refine da_nil ?_
    refine ⟨by walk_at "len", ?_⟩
    refine da_nil ?_
    refine ⟨by walk_at "len", ?_⟩
    exact qq
  subst ht
  refine ds_nil ?_
  refine ds_cons ?_
  refine ds_ret ?_
  refine de_lst ?_
  refine da_cons ?_
  refine de_tup ?_
  refine da_cons ?_
  refine de_str ?_
  refine da_cons ?_
  refine de_name 3 ?_
  refine da_cons ?_
  refine de_name 2 ?_
  refine da_nil ?_
  refine ⟨by walk_at "len", ?_⟩
  refine da_cons ?_
  refine de_tup ?_
  refine da_cons ?_
  refine de_str ?_
  refine da_cons ?_
  refine de_neg ?_
  refine de_name 5 ?_
  refine ⟨_, rfl, ?_⟩
  refine da_cons ?_
  refine de_name 6 ?_
  refine da_nil ?_
  refine ⟨by walk_at "len", ?_⟩
  refine da_cons ?_
  refine de_tup ?_
  refine da_cons ?_
  refine de_str ?_
  refine da_cons ?_
  refine de_name 3 ?_
  refine da_cons ?_
  refine de_name 2 ?_
  refine da_nil ?_
  refine ⟨by walk_at "len", ?_⟩
  refine da_nil ?_
  refine ⟨by walk_at "len", ?_⟩
  exact qq
abbrev s_sheared_by : Stmt := top 51
theorem sc_sheared_by : FnScope ["chain", "turn", "pixel"] ["chain", "turn", "pixel"] (defScope s_sheared_by) := ⟨rfl, rfl, rfl, by decide +kernel, rfl, by decide +kernel, by decide +kernel⟩
set_option maxHeartbeats 40000000 in
theorem ok_sheared_by {f : Addr} {fd : FuncData} (F : Fun K "sheared_by" "sheared_by" s_sheared_by f fd) (c_along : Cal P w K mg base 2 "along" ["chain", "pixel"] [] con_led) (c_times : Cal P w K mg base 1 "times" ["one", "other"] [] con_times) (g_QUARTERS : ∃ a, mg "QUARTERS" = some (.ref a) ∧ Rp K (fun _ => none) (.tup [.tup [.int (1), .int (0)], .tup [.int (0), .int (1)], .tup [.int (-1), .int (0)], .tup [.int (0), .int (-1)]]) (.ref a)) : GOk P w K mg base 3 f fd ["chain", "turn", "pixel"] (spD K con_shby) := by
  refine gok_ds F sc_sheared_by (m := 0) rfl (fun ds S0 Q h => ?_) fun cdv A fr s0 H0 E0' gd hr ds S0 Q h => ?_
  · obtain ⟨_, _, _, _, _, _, rfl, _⟩ := h
    rfl
  obtain ⟨p, q, k, o, x, y, rfl, hT, ⟨bx, by'⟩, qq⟩ := h
  have b1 := hT.bp
  have b2 := hT.bq
  have k1 := hT.k1
  have k2 := hT.k2
  have bv := sh_bd hT o (by decide) bx by'
  have bv1 : Bd 1165 (ledN (shC p q o) (x, y)).1 := bv.1
  have bv2 : Bd 1165 (ledN (shC p q o) (x, y)).2 := bv.2
  refine ds_nrm ?_ (by set_option simprocs false in dsimp only [List.map, List.replicate, List.cons_append, List.nil_append])
  refine ds_cons ?_
  refine ds_ret ?_
  refine de_call c_times gd (hr.mono (by decide)) ?_
  refine da_cons ?_
  refine de_call c_along gd (hr.mono (by decide)) ?_
  refine da_cons ?_
  refine de_name 0 ?_
  refine da_cons ?_
  refine de_name 2 ?_
  refine da_nil ?_
  refine ⟨_, _, _, rfl, shC_ok (by assumption) _, ⟨by walk_at "bdu", by walk_at "bdu"⟩, ?_⟩
  refine da_cons ?_
  refine de_ix (h := ?_)
  refine de_globT g_QUARTERS ?_
  refine de_ix (h := ?_)
  refine de_name 1 ?_
  refine de_int ?_
  first | refine ix_qu ⟨by omega, by omega⟩ ?_ | walk_at "ix"
  first | refine ix_qu ⟨by omega, by omega⟩ ?_ | walk_at "ix"
  refine da_nil ?_
  refine ⟨_, _, _, _, rfl, ⟨by walk_at "bdu", by walk_at "bdu", by walk_at "bdu", by walk_at "bdu"⟩, ?_⟩
  exact sh_tm o x y qq
abbrev s_sheared : Stmt := top 50
theorem sc_sheared : FnScope ["turn", "order", "pixel", "chain"] ["turn", "order", "pixel"] (defScope s_sheared) := ⟨rfl, rfl, rfl, by decide +kernel, rfl, by decide +kernel, by decide +kernel⟩
set_option maxHeartbeats 40000000 in
theorem ok_sheared {f : Addr} {fd : FuncData} (F : Fun K "sheared" "sheared" s_sheared f fd) (c_check_pixel : Cal P w K mg base 4 "check_pixel" ["pixel"] [] con_check_pixel) (c_shear_chain : Cal P w K mg base 5 "shear_chain" ["turn", "order"] [] con_shcP) (c_sheared_by : Cal P w K mg base 3 "sheared_by" ["chain", "turn", "pixel"] [] con_shby) : GOk P w K mg base 6 f fd ["turn", "order", "pixel"] (spD K con_sheared) := by
  refine gok_ds F sc_sheared (m := 1) rfl (fun ds S0 Q h => ?_) fun cdv A fr s0 H0 E0' gd hr ds S0 Q h => ?_
  · obtain ⟨_, _, _, _, _, _, rfl, _⟩ := h
    rfl
  obtain ⟨p, q, k, o, x, y, rfl, hT, ⟨bx, by'⟩, qq⟩ := h
  have b1 := hT.bp
  have b2 := hT.bq
  have k1 := hT.k1
  have k2 := hT.k2
  have bv := sh_bd hT o (by decide) bx by'
  have bv1 : Bd 1165 (ledN (shC p q o) (x, y)).1 := bv.1
  have bv2 : Bd 1165 (ledN (shC p q o) (x, y)).2 := bv.2
  refine ds_nrm ?_ (by set_option simprocs false in dsimp only [List.map, List.replicate, List.cons_append, List.nil_append])
  refine ds_cons ?_
  refine ds_asg (h := ?_)
  refine de_call c_shear_chain gd (hr.mono (by decide)) ?_
  refine da_cons ?_
  refine de_name 0 ?_
  refine da_cons ?_
  refine de_name 1 ?_
  refine da_nil ?_
  first | refine ⟨_, _, _, _, rfl, by walk_at "tn", ?_⟩ | refine ⟨_, _, _, true, rfl, by walk_at "tn", ?_⟩ | refine ⟨_, _, _, false, rfl, by walk_at "tn", ?_⟩
  refine dg_name 3 ?_ sc_sheared.nd
  refine ds_cons ?_
  refine ds_expr (h := ?_)
  refine de_call c_check_pixel gd (hr.mono (by decide)) ?_
  refine da_cons ?_
  refine de_name 2 ?_
  refine da_nil ?_
  refine ⟨_, _, rfl, ?_⟩
  refine ds_cons ?_
  refine ds_ret ?_
  refine de_call c_sheared_by gd (hr.mono (by decide)) ?_
  refine da_cons ?_
  refine de_name 3 ?_
  refine da_cons ?_
  refine de_name 0 ?_
  refine da_cons ?_
  refine de_name 2 ?_
  refine da_nil ?_
  refine ⟨_, _, _, _, _, _, rfl, by walk_at "tn", ⟨by walk_at "bdu", by walk_at "bdu"⟩, ?_⟩
  exact qq
abbrev s_unsheared : Stmt := top 52
theorem sc_unsheared : FnScope ["turn", "order", "pixel", "chain"] ["turn", "order", "pixel"] (defScope s_unsheared) := ⟨rfl, rfl, rfl, by decide +kernel, rfl, by decide +kernel, by decide +kernel⟩
set_option maxHeartbeats 40000000 in
theorem ok_unsheared {f : Addr} {fd : FuncData} (F : Fun K "unsheared" "unsheared" s_unsheared f fd) (c_before_chain : Cal P w K mg base 5 "before_chain" ["chain", "pixel"] [] con_before) (c_check_pixel : Cal P w K mg base 4 "check_pixel" ["pixel"] [] con_check_pixel) (c_shear_chain : Cal P w K mg base 5 "shear_chain" ["turn", "order"] [] con_shcP) (c_times : Cal P w K mg base 1 "times" ["one", "other"] [] con_times) (g_QUARTERS : ∃ a, mg "QUARTERS" = some (.ref a) ∧ Rp K (fun _ => none) (.tup [.tup [.int (1), .int (0)], .tup [.int (0), .int (1)], .tup [.int (-1), .int (0)], .tup [.int (0), .int (-1)]]) (.ref a)) : GOk P w K mg base 6 f fd ["turn", "order", "pixel"] (spD K con_unsh) := by
  refine gok_ds F sc_unsheared (m := 1) rfl (fun ds S0 Q h => ?_) fun cdv A fr s0 H0 E0' gd hr ds S0 Q h => ?_
  · obtain ⟨_, _, _, _, _, _, rfl, _⟩ := h
    rfl
  obtain ⟨p, q, k, o, x, y, rfl, hT, ⟨bx, by'⟩, qq⟩ := h
  have b1 := hT.bp
  have b2 := hT.bq
  have k1 := hT.k1
  have k2 := hT.k2
  have bv := sh_bd hT o (by decide) bx by'
  have bv1 : Bd 1165 (ledN (shC p q o) (x, y)).1 := bv.1
  have bv2 : Bd 1165 (ledN (shC p q o) (x, y)).2 := bv.2
  refine ds_nrm ?_ (by set_option simprocs false in dsimp only [List.map, List.replicate, List.cons_append, List.nil_append])
  refine ds_cons ?_
  refine ds_asg (h := ?_)
  refine de_call c_shear_chain gd (hr.mono (by decide)) ?_
  refine da_cons ?_
  refine de_name 0 ?_
  refine da_cons ?_
  refine de_name 1 ?_
  refine da_nil ?_
  first | refine ⟨_, _, _, _, rfl, by walk_at "tn", ?_⟩ | refine ⟨_, _, _, true, rfl, by walk_at "tn", ?_⟩ | refine ⟨_, _, _, false, rfl, by walk_at "tn", ?_⟩
  refine dg_name 3 ?_ sc_unsheared.nd
  refine ds_cons ?_
  refine ds_expr (h := ?_)
  refine de_call c_check_pixel gd (hr.mono (by decide)) ?_
  refine da_cons ?_
  refine de_name 2 ?_
  refine da_nil ?_
  refine ⟨_, _, rfl, ?_⟩
  refine ds_cons ?_
  refine ds_ret ?_
  refine de_call c_before_chain gd (hr.mono (by decide)) ?_
  refine da_cons ?_
  refine de_name 3 ?_
  refine da_cons ?_
  refine de_call c_times gd (hr.mono (by decide)) ?_
  refine da_cons ?_
  refine de_name 2 ?_
  refine da_cons ?_
  refine de_ix (h := ?_)
  refine de_globT g_QUARTERS ?_
  refine de_mod ?_
  refine de_neg ?_
  refine de_ix (h := ?_)
  refine de_name 0 ?_
  refine de_int ?_
  first | refine ix_qu ⟨by omega, by omega⟩ ?_ | walk_at "ix"
  refine ⟨_, rfl, ?_⟩
  refine de_int ?_
  refine ⟨_, _, rfl, rfl, (by walk_at "pos"), ?_⟩
  first | refine ix_qu ⟨by omega, by omega⟩ ?_ | walk_at "ix"
  refine da_nil ?_
  refine ⟨_, _, _, _, rfl, ⟨by walk_at "bdu", by walk_at "bdu", by walk_at "bdu", by walk_at "bdu"⟩, ?_⟩
  refine da_nil ?_
  rw [(rt_q _ _ _).1, (rt_q _ _ _).2]
  refine ⟨_, _, _, rfl, shC_ok hT _, ⟨by walk_at "bdu", by walk_at "bdu"⟩, ?_⟩
  unfold usV at qq
  exact qq
abbrev s__common : Stmt := top 46
theorem sc__common : FnScope ["numbers", "common", "number"] ["numbers"] (defScope s__common) := ⟨rfl, rfl, rfl, by decide +kernel, rfl, by decide +kernel, by decide +kernel⟩
set_option maxHeartbeats 40000000 in
theorem ok__common {f : Addr} {fd : FuncData} (F : Fun K "_common" "_common" s__common f fd) (b_gcd : mg "gcd" = some (.builtin "math.gcd")) : GOk P w K mg base 1 f fd ["numbers"] (spD K con_common5) := by
  refine gok_ds F sc__common (m := 2) rfl (fun ds S0 Q h => ?_) fun cdv A fr s0 H0 E0' gd hr ds S0 Q h => ?_
  · obtain ⟨_, rfl, _⟩ := h
    rfl
  obtain ⟨m, rfl, qq⟩ := h
  refine ds_nrm ?_ (by set_option simprocs false in dsimp only [List.map, List.replicate, List.cons_append, List.nil_append])
  refine ds_cons ?_
  refine ds_asg (h := ?_)
  refine de_int ?_
  refine dg_name 1 ?_ sc__common.nd
  refine ds_cons ?_
  refine ds_forG (γ := Nat) [1, 2] PassesOwn.never rfl ?_
  refine di_tup ?_
  refine de_name 0 ?_
  refine ⟨_, rfl, ?_⟩
  refine ⟨fun g => [(1, .int (g : Int))], _, fun _ => (by dsimp only [putU, fgt, List.set]), fun i g S' => g = gTo m i ∧ S0 = S', 0, by walk_at "wk", ⟨rfl, rfl⟩, fun i1 d1 g1 S1 hi1 hP1 => ?_, fun g1 S1 hP1 => ?_⟩
  · obtain ⟨rfl, rfl⟩ := hP1
    obtain ⟨v9, hv9, rfl⟩ := int_at (os := ml m) hi1
    refine dg_name 2 ?_ sc__common.nd
    refine ds_cons ?_
    refine ds_asg (h := ?_)
    refine de_gcd b_gcd ?_
    refine da_cons ?_
    refine de_name 1 ?_
    refine da_cons ?_
    refine de_name 2 ?_
    refine da_nil ?_
    refine ⟨_, _, rfl, ?_⟩
    refine dg_name 1 ?_ sc__common.nd
    refine ds_nil ?_
    exact ⟨gTo m (i1 + 1), by (repeat (first | refine ⟨rfl, ?_⟩ | refine ⟨by rw [gTo_succ hv9] <;> rfl, ?_⟩ | exact trivial)), rfl, rfl⟩
  obtain ⟨rfl, rfl⟩ := hP1
  refine ds_cons ?_
  refine ds_ret ?_
  refine de_name 1 ?_
  exact qq
abbrev s_is_matrix : Stmt := top 31
theorem sc_is_matrix : FnScope ["value", "a", "b", "c", "d", "e"] ["value"] (defScope s_is_matrix) := ⟨rfl, rfl, rfl, by decide +kernel, rfl, by decide +kernel, by decide +kernel⟩
set_option maxHeartbeats 40000000 in
theorem ok_is_matrix {f : Addr} {fd : FuncData} (F : Fun K "is_matrix" "is_matrix" s_is_matrix f fd) (c__common : Cal P w K mg base 1 "_common" ["numbers"] [] con_common5) (c_is_whole_tuple : Cal P w K mg base 2 "is_whole_tuple" ["value", "size"] [] con_is_whole_tuple) : GOk P w K mg base 3 f fd ["value"] (spD K con_ismat) := by
  refine gok_ds F sc_is_matrix (m := 5) rfl (fun ds S0 Q h => ?_) fun cdv A fr s0 H0 E0' gd hr ds S0 Q h => ?_
  · obtain ⟨_, rfl, _⟩ := h
    rfl
  obtain ⟨m, rfl, hM, bM, qq⟩ := h
  obtain ⟨a, b, c, d, e⟩ := m
  obtain ⟨b1, b2, b3, b4, b5⟩ := bM
  have b1 : Bd 1300 a := b1
  have b2 : Bd 1300 b := b2
  have b3 : Bd 1300 c := b3
  have b4 : Bd 1300 d := b4
  have b5 : Bd 1300 e := b5
  obtain ⟨he, hd, hg⟩ := hM
  have he : 1 ≤ e := he
  have hd : a * d - b * c = e * e := hd
  refine ds_nrm ?_ (by set_option simprocs false in dsimp only [List.map, List.replicate, List.cons_append, List.nil_append])
  refine ds_cons ?_
  refine ds_if ?_
  refine dt_not ?_
  refine dt_val (h := ?_)
  refine de_call c_is_whole_tuple gd (hr.mono (by decide)) ?_
  refine da_cons ?_
  refine de_name 0 ?_
  refine da_cons ?_
  refine de_int ?_
  refine da_nil ?_
  first | refine ⟨[_, _, _, _, _], rfl, by simp, ?_⟩ | refine ⟨[_, _, _], rfl, by simp, ?_⟩ | refine ⟨[_, _], rfl, by simp, ?_⟩
  refine ⟨_, rfl, ?_⟩
  refine ⟨fun ht => ?_, fun ht => ?_⟩
  · exact absurd ht (by simp)
  refine ds_nil ?_
  refine ds_cons ?_
  refine ds_asg (h := ?_)
  refine de_name 0 ?_
  first | refine dg_tup rfl rfl ?_ | refine dg_tupL rfl rfl ?_ (fun h => pg_lst rfl h)
  refine dgs_cons (h := ?_)
  refine dg_name 1 ?_ sc_is_matrix.nd
  refine dgs_cons (h := ?_)
  refine dg_name 2 ?_ sc_is_matrix.nd
  refine dgs_cons (h := ?_)
  refine dg_name 3 ?_ sc_is_matrix.nd
  refine dgs_cons (h := ?_)
  refine dg_name 4 ?_ sc_is_matrix.nd
  refine dgs_cons (h := ?_)
  refine dg_name 5 ?_ sc_is_matrix.nd
  refine dgs_nil ?_
  refine ds_cons ?_
  refine ds_ret ?_
  refine de_and ?_
  refine de_ge ?_
  refine de_name 5 ?_
  refine de_int ?_
  refine ⟨_, _, rfl, rfl, ?_⟩
  refine ⟨_, rfl, fun hb => ?_, fun hb => ?_⟩
  · exact absurd (of_decide_eq_false hb) (by omega)
  refine de_and ?_
  refine de_eq (hr.units) ?_
  refine de_sub ?_
  refine de_mul ?_
  refine de_name 1 ?_
  refine de_name 4 ?_
  first | refine mul_i ?_ (by walk_at "cmw") | refine mul_l ?_ ⟨by decide, by decide, by first | decide | exact Nat.le_of_ble_eq_true rfl | walk_at "mlen"⟩
  refine de_mul ?_
  refine de_name 2 ?_
  refine de_name 3 ?_
  first | refine mul_i ?_ (by walk_at "cmw") | refine mul_l ?_ ⟨by decide, by decide, by first | decide | exact Nat.le_of_ble_eq_true rfl | walk_at "mlen"⟩
  refine ⟨_, _, rfl, rfl, ?_⟩
  refine de_mul ?_
  refine de_name 5 ?_
  refine de_name 5 ?_
  first | refine mul_i ?_ (by walk_at "cmw") | refine mul_l ?_ ⟨by decide, by decide, by first | decide | exact Nat.le_of_ble_eq_true rfl | walk_at "mlen"⟩
  refine eq_int ?_
  refine ⟨_, rfl, fun hb => ?_, fun hb => ?_⟩
  · exact absurd hd (of_decide_eq_false hb)
  refine de_one ?_
  refine de_eq (hr.units) ?_
  refine de_call c__common gd (hr.mono (by decide)) ?_
  refine da_cons ?_
  refine de_name 0 ?_
  refine da_nil ?_
  refine ⟨(_, _, _, _, _), rfl, ?_⟩
  refine de_int ?_
  refine eq_int ?_
  rw [decide_eq_true (show ((foldG (ml (a, b, c, d, e)) : Nat) : Int) = 1 by rw [hg] <;> rfl)]
  exact qq
abbrev s_check_matrix : Stmt := top 33
theorem sc_check_matrix : FnScope ["matrix"] ["matrix"] (defScope s_check_matrix) := ⟨rfl, rfl, rfl, by decide +kernel, rfl, by decide +kernel, by decide +kernel⟩
set_option maxHeartbeats 40000000 in
theorem ok_check_matrix {f : Addr} {fd : FuncData} (F : Fun K "check_matrix" "check_matrix" s_check_matrix f fd) (c_is_matrix : Cal P w K mg base 3 "is_matrix" ["value"] [] con_ismat) : GOk P w K mg base 4 f fd ["matrix"] (spD K con_chkmat) := by
  refine gok_ds F sc_check_matrix (m := 0) rfl (fun ds S0 Q h => ?_) fun cdv A fr s0 H0 E0' gd hr ds S0 Q h => ?_
  · obtain ⟨_, rfl, _⟩ := h
    rfl
  obtain ⟨m, rfl, hM, bM, qq⟩ := h
  refine ds_nrm ?_ (by set_option simprocs false in dsimp only [List.map, List.replicate, List.cons_append, List.nil_append])
  refine ds_cons ?_
  refine ds_if ?_
  refine dt_not ?_
  refine dt_val (h := ?_)
  refine de_call c_is_matrix gd (hr.mono (by decide)) ?_
  refine da_cons ?_
  refine de_name 0 ?_
  refine da_nil ?_
  refine ⟨_, rfl, (by assumption), (by assumption), ?_⟩
  refine ⟨_, rfl, ?_⟩
  refine ⟨fun ht => ?_, fun ht => ?_⟩
  · exact absurd ht (by simp)
  refine ds_nil ?_
  refine ds_nil ?_
  exact qq
abbrev s_is_chain : Stmt := top 30
theorem sc_is_chain : FnScope ["value", "item"] ["value"] (defScope s_is_chain) := ⟨rfl, rfl, rfl, by decide +kernel, rfl, by decide +kernel, by decide +kernel⟩
set_option maxHeartbeats 40000000 in
theorem ok_is_chain {f : Addr} {fd : FuncData} (F : Fun K "is_chain" "is_chain" s_is_chain f fd) (c__is_step : Cal P w K mg base 3 "_is_step" ["value"] [] con_isstep) (g_MOST_STEPS : ∃ u, mg "MOST_STEPS" = some (.int (8) u)) (n_all : mg "all" = none) (n_isinstance : mg "isinstance" = none) (n_len : mg "len" = none) (n_list : mg "list" = none) : GOk P w K mg base 4 f fd ["value"] (spD K con_ischain) := by
  refine gok_ds F sc_is_chain (m := 1) rfl (fun ds S0 Q h => ?_) fun cdv A fr s0 H0 E0' gd hr ds S0 Q h => ?_
  · obtain ⟨_, rfl, _⟩ := h
    rfl
  obtain ⟨l, rfl, hC, qq⟩ := h
  have hok := hC.1
  have h8 := hC.2
  refine ds_nrm ?_ (by set_option simprocs false in dsimp only [List.map, List.replicate, List.cons_append, List.nil_append])
  refine ds_cons ?_
  refine ds_ret ?_
  refine de_and ?_
  refine de_B call_isi n_isinstance bt_isinstance ?_
  refine da_cons ?_
  refine de_name 0 ?_
  refine da_cons ?_
  refine de_ty n_list bt_list ?_
  refine da_nil ?_
  walk_at "isi"
  refine ⟨_, rfl, fun hb => ?_, fun hb => ?_⟩
  · exact absurd hb (by simp)
  refine de_and ?_
  refine de_le ?_
  refine de_B call_len_seq n_len bt_len ?_
  refine da_cons ?_
  refine de_name 0 ?_
  refine da_nil ?_
  refine drc_len ?_
  walk_at "lenP"
  refine de_globI2 g_MOST_STEPS ?_
  refine ⟨_, _, rfl, rfl, ?_⟩
  refine ⟨_, rfl, fun hb => ?_, fun hb => ?_⟩
  · exact absurd (of_decide_eq_false hb) (by rw [List.length_map]; omega)
  refine de_one ?_
  refine de_B (cr_all rfl) n_all bt_all ?_
  refine da_cons ?_
  refine de_lc 1 rfl sc_is_chain.nd (blkOk_by (N := ["value", "item"]) (sc := defScope s_is_chain) (by decide +kernel)) ?_ (fun _ _ _ _ _ => pg_name sc_is_chain.nd rfl (Or.inl rfl))
  refine di_lst ?_
  refine de_name 0 ?_
  refine ⟨_, rfl, ?_⟩
  refine ⟨fun k acc S' => S0 = S' ∧ acc = (List.replicate k true).map D.bl, ⟨rfl, rfl⟩, fun k9 d acc S' p9 hk hP hp hl s H C cl fp => ?_, by rw [List.length_map]; omega, fun acc S' hl hP => ?_⟩
  · obtain ⟨rfl, rfl⟩ := hP
    obtain ⟨t, ht1, rfl⟩ := st_at hk
    have hs1 := (hok t (List.mem_of_getElem? ht1)).1
    refine de_call c__is_step gd (hr.mono (by decide)) ?_
    refine da_cons ?_
    refine de_name 1 ?_
    refine da_nil ?_
    refine ⟨_, _, _, rfl, (by assumption), ?_⟩
    exact ⟨_, rfl, rfl, by rw [List.replicate_succ', List.map_append] <;> rfl⟩
  obtain ⟨rfl, rfl⟩ := hP
  refine da_nil ?_
  refine drc_all ?_
  rw [show (List.replicate (l.map stD).length true).all id = true by simp]
  exact qq
abbrev s_matrix_of : Stmt := top 37
theorem sc_matrix_of : FnScope ["chain", "a", "b", "c", "d", "e", "axis", "number", "divisor", "common"] ["chain"] (defScope s_matrix_of) := ⟨rfl, rfl, rfl, by decide +kernel, rfl, by decide +kernel, by decide +kernel⟩
set_option maxHeartbeats 40000000 in
theorem ok_matrix_of {f : Addr} {fd : FuncData} (F : Fun K "matrix_of" "matrix_of" s_matrix_of f fd) (c__common : Cal P w K mg base 1 "_common" ["numbers"] [] con_common5) (c_check_chain : Cal P w K mg base 4 "check_chain" ["chain"] [] con_chkc) : GOk P w K mg base 5 f fd ["chain"] (spD K con_matof) := by
  refine gok_ds F sc_matrix_of (m := 9) rfl (fun ds S0 Q h => ?_) fun cdv A fr s0 H0 E0' gd hr ds S0 Q h => ?_
  · obtain ⟨_, rfl, _⟩ := h
    rfl
  obtain ⟨l, rfl, hC, qq⟩ := h
  have hok := hC.1
  have h8 := hC.2
  refine ds_nrm ?_ (by set_option simprocs false in dsimp only [List.map, List.replicate, List.cons_append, List.nil_append])
  refine ds_cons ?_
  refine ds_expr (h := ?_)
  refine de_call c_check_chain gd (hr.mono (by decide)) ?_
  refine da_cons ?_
  refine de_name 0 ?_
  refine da_nil ?_
  refine ⟨_, rfl, (by assumption), ?_⟩
  refine ds_cons ?_
  refine ds_asg (h := ?_)
  refine de_tup ?_
  refine da_cons ?_
  refine de_int ?_
  refine da_cons ?_
  refine de_int ?_
  refine da_cons ?_
  refine de_int ?_
  refine da_cons ?_
  refine de_int ?_
  refine da_cons ?_
  refine de_int ?_
  refine da_nil ?_
  refine ⟨by walk_at "len", ?_⟩
  first | refine dg_tup rfl rfl ?_ | refine dg_tupL rfl rfl ?_ (fun h => pg_lst rfl h)
  refine dgs_cons (h := ?_)
  refine dg_name 1 ?_ sc_matrix_of.nd
  refine dgs_cons (h := ?_)
  refine dg_name 2 ?_ sc_matrix_of.nd
  refine dgs_cons (h := ?_)
  refine dg_name 3 ?_ sc_matrix_of.nd
  refine dgs_cons (h := ?_)
  refine dg_name 4 ?_ sc_matrix_of.nd
  refine dgs_cons (h := ?_)
  refine dg_name 5 ?_ sc_matrix_of.nd
  refine dgs_nil ?_
  refine ds_cons ?_
  refine ds_forG (γ := Mt) [1, 2, 3, 4, 5, 6, 7, 8] PassesOwn.never rfl ?_
  refine di_lst ?_
  refine de_name 0 ?_
  refine ⟨_, rfl, ?_⟩
  refine ⟨fun v => [(1, .int v.1), (2, .int v.2.1), (3, .int v.2.2.1), (4, .int v.2.2.2.1), (5, .int v.2.2.2.2)], _, fun _ => (by dsimp only [putU, fgt, List.set]), fun i v S' => v = matN (l.take i) idM ∧ S0 = S', idM, by walk_at "wk", ⟨rfl, rfl⟩, fun i1 d1 g1 S1 hi1 hP1 => ?_, fun g1 S1 hP1 => ?_⟩
  · obtain ⟨rfl, rfl⟩ := hP1
    obtain ⟨t, ht1, rfl⟩ := st_at hi1
    have hs1 := hok t (List.mem_of_getElem? ht1)
    obtain ⟨b, n, d⟩ := t
    obtain ⟨hd1, bn1, bd1⟩ := hs1
    have hd1 : 1 ≤ d := hd1
    have bn1 : Bd 150 n := bn1
    have bd1 : Bd 150 d := bd1
    have bm := mat_bd hC i1
    have e1 := matN_take ht1 idM
    obtain ⟨⟨p, q, r, s, w9⟩, hv⟩ : ∃ v, v = matN (l.take i1) idM := ⟨_, rfl⟩
    rw [← hv] at bm e1 ⊢
    obtain ⟨bm1, bm2, bm3, bm4, bm5⟩ := bm
    have bm1 : Bd 1217 p := bm1
    have bm2 : Bd 1217 q := bm2
    have bm3 : Bd 1217 r := bm3
    have bm4 : Bd 1217 s := bm4
    have bm5 : Bd 1217 w9 := bm5
    first | refine dg_tup rfl rfl ?_ | refine dg_tupL rfl rfl ?_ (fun h => pg_lst rfl h)
    refine dgs_cons (h := ?_)
    refine dg_name 6 ?_ sc_matrix_of.nd
    refine dgs_cons (h := ?_)
    refine dg_name 7 ?_ sc_matrix_of.nd
    refine dgs_cons (h := ?_)
    refine dg_name 8 ?_ sc_matrix_of.nd
    refine dgs_nil ?_
    refine ds_cons ?_
    refine ds_join (γ := Unit) (fun _ => [some (.lst (l.map stD)), some (.int (mt1 (b, n, d) (p, q, r, s, w9)).1), some (.int (mt1 (b, n, d) (p, q, r, s, w9)).2.1), some (.int (mt1 (b, n, d) (p, q, r, s, w9)).2.2.1), some (.int (mt1 (b, n, d) (p, q, r, s, w9)).2.2.2.1), some (.int w9), some (.str (ax b)), some (.int n), some (.int d), none]) (fun _ S' => S0 = S') ?_ ?_
    · refine ds_if ?_
      refine dt_eq (hr.units) ?_
      refine de_name 6 ?_
      refine de_str ?_
      refine eq_ax ?_
      refine ⟨fun ht => ?_, fun ht => ?_⟩
      · refine ds_cons ?_
        refine ds_asg (h := ?_)
        refine de_tup ?_
        refine da_cons ?_
        refine de_add ?_
        refine de_mul ?_
        refine de_name 8 ?_
        refine de_name 1 ?_
        first | refine mul_i ?_ (by walk_at "cmw") | refine mul_l ?_ ⟨by decide, by decide, by first | decide | exact Nat.le_of_ble_eq_true rfl | walk_at "mlen"⟩
        refine de_mul ?_
        refine de_name 7 ?_
        refine de_name 3 ?_
        first | refine mul_i ?_ (by walk_at "cmw") | refine mul_l ?_ ⟨by decide, by decide, by first | decide | exact Nat.le_of_ble_eq_true rfl | walk_at "mlen"⟩
        first | refine add_int ?_ | refine add_lst ?_ (by walk_at "len") | refine add_tup ?_ (by walk_at "len3") | refine add_scr ?_ (by walk_at "len") | refine (show addP (.str _) (.str _) _ _ from ⟨by decide +kernel, ?_⟩)
        refine da_cons ?_
        refine de_add ?_
        refine de_mul ?_
        refine de_name 8 ?_
        refine de_name 2 ?_
        first | refine mul_i ?_ (by walk_at "cmw") | refine mul_l ?_ ⟨by decide, by decide, by first | decide | exact Nat.le_of_ble_eq_true rfl | walk_at "mlen"⟩
        refine de_mul ?_
        refine de_name 7 ?_
        refine de_name 4 ?_
        first | refine mul_i ?_ (by walk_at "cmw") | refine mul_l ?_ ⟨by decide, by decide, by first | decide | exact Nat.le_of_ble_eq_true rfl | walk_at "mlen"⟩
        first | refine add_int ?_ | refine add_lst ?_ (by walk_at "len") | refine add_tup ?_ (by walk_at "len3") | refine add_scr ?_ (by walk_at "len") | refine (show addP (.str _) (.str _) _ _ from ⟨by decide +kernel, ?_⟩)
        refine da_cons ?_
        refine de_mul ?_
        refine de_name 8 ?_
        refine de_name 3 ?_
        first | refine mul_i ?_ (by walk_at "cmw") | refine mul_l ?_ ⟨by decide, by decide, by first | decide | exact Nat.le_of_ble_eq_true rfl | walk_at "mlen"⟩
        refine da_cons ?_
        refine de_mul ?_
        refine de_name 8 ?_
        refine de_name 4 ?_
        first | refine mul_i ?_ (by walk_at "cmw") | refine mul_l ?_ ⟨by decide, by decide, by first | decide | exact Nat.le_of_ble_eq_true rfl | walk_at "mlen"⟩
        refine da_nil ?_
        refine ⟨by walk_at "len", ?_⟩
        first | refine dg_tup rfl rfl ?_ | refine dg_tupL rfl rfl ?_ (fun h => pg_lst rfl h)
        refine dgs_cons (h := ?_)
        refine dg_name 1 ?_ sc_matrix_of.nd
        refine dgs_cons (h := ?_)
        refine dg_name 2 ?_ sc_matrix_of.nd
        refine dgs_cons (h := ?_)
        refine dg_name 3 ?_ sc_matrix_of.nd
        refine dgs_cons (h := ?_)
        refine dg_name 4 ?_ sc_matrix_of.nd
        refine dgs_nil ?_
        refine ds_nil ?_
        exact ⟨(), by (repeat (first | refine ⟨rfl, ?_⟩ | refine ⟨by rw [ht] <;> rfl, ?_⟩ | exact trivial)), rfl⟩
      refine ds_cons ?_
      refine ds_asg (h := ?_)
      refine de_tup ?_
      refine da_cons ?_
      refine de_mul ?_
      refine de_name 8 ?_
      refine de_name 1 ?_
      first | refine mul_i ?_ (by walk_at "cmw") | refine mul_l ?_ ⟨by decide, by decide, by first | decide | exact Nat.le_of_ble_eq_true rfl | walk_at "mlen"⟩
      refine da_cons ?_
      refine de_mul ?_
      refine de_name 8 ?_
      refine de_name 2 ?_
      first | refine mul_i ?_ (by walk_at "cmw") | refine mul_l ?_ ⟨by decide, by decide, by first | decide | exact Nat.le_of_ble_eq_true rfl | walk_at "mlen"⟩
      refine da_cons ?_
      refine de_add ?_
      refine de_mul ?_
      refine de_name 8 ?_
      refine de_name 3 ?_
      first | refine mul_i ?_ (by walk_at "cmw") | refine mul_l ?_ ⟨by decide, by decide, by first | decide | exact Nat.le_of_ble_eq_true rfl | walk_at "mlen"⟩
      refine de_mul ?_
      refine de_name 7 ?_
      refine de_name 1 ?_
      first | refine mul_i ?_ (by walk_at "cmw") | refine mul_l ?_ ⟨by decide, by decide, by first | decide | exact Nat.le_of_ble_eq_true rfl | walk_at "mlen"⟩
      first | refine add_int ?_ | refine add_lst ?_ (by walk_at "len") | refine add_tup ?_ (by walk_at "len3") | refine add_scr ?_ (by walk_at "len") | refine (show addP (.str _) (.str _) _ _ from ⟨by decide +kernel, ?_⟩)
      refine da_cons ?_
      refine de_add ?_
      refine de_mul ?_
      refine de_name 8 ?_
      refine de_name 4 ?_
      first | refine mul_i ?_ (by walk_at "cmw") | refine mul_l ?_ ⟨by decide, by decide, by first | decide | exact Nat.le_of_ble_eq_true rfl | walk_at "mlen"⟩
      refine de_mul ?_
      refine de_name 7 ?_
      refine de_name 2 ?_
      first | refine mul_i ?_ (by walk_at "cmw") | refine mul_l ?_ ⟨by decide, by decide, by first | decide | exact Nat.le_of_ble_eq_true rfl | walk_at "mlen"⟩
      first | refine add_int ?_ | refine add_lst ?_ (by walk_at "len") | refine add_tup ?_ (by walk_at "len3") | refine add_scr ?_ (by walk_at "len") | refine (show addP (.str _) (.str _) _ _ from ⟨by decide +kernel, ?_⟩)
      refine da_nil ?_
      refine ⟨by walk_at "len", ?_⟩
      first | refine dg_tup rfl rfl ?_ | refine dg_tupL rfl rfl ?_ (fun h => pg_lst rfl h)
      refine dgs_cons (h := ?_)
      refine dg_name 1 ?_ sc_matrix_of.nd
      refine dgs_cons (h := ?_)
      refine dg_name 2 ?_ sc_matrix_of.nd
      refine dgs_cons (h := ?_)
      refine dg_name 3 ?_ sc_matrix_of.nd
      refine dgs_cons (h := ?_)
      refine dg_name 4 ?_ sc_matrix_of.nd
      refine dgs_nil ?_
      refine ds_nil ?_
      exact ⟨(), by (repeat (first | refine ⟨rfl, ?_⟩ | refine ⟨by rw [ht] <;> rfl, ?_⟩ | exact trivial)), rfl⟩
    rintro _ _ rfl
    refine ds_cons ?_
    refine ds_asg (h := ?_)
    refine de_mul ?_
    refine de_name 8 ?_
    refine de_name 5 ?_
    first | refine mul_i ?_ (by walk_at "cmw") | refine mul_l ?_ ⟨by decide, by decide, by first | decide | exact Nat.le_of_ble_eq_true rfl | walk_at "mlen"⟩
    refine dg_name 5 ?_ sc_matrix_of.nd
    refine ds_nil ?_
    exact ⟨mt1 (b, n, d) (p, q, r, s, w9), by (repeat (first | refine ⟨rfl, ?_⟩ | refine ⟨by cases b <;> rfl, ?_⟩ | exact trivial)), e1.symm, rfl⟩
  obtain ⟨rfl, rfl⟩ := hP1
  rw [List.length_map, List.take_of_length_le (Nat.le_refl l.length)]
  have bm := mat_bd hC l.length
  rw [List.take_of_length_le (Nat.le_refl l.length)] at bm
  have hge := foldG_pos (mat_e hC)
  have bge := foldG_bd (mat_e hC) bm
  have eC : matC l = nrm (matN l idM) := rfl
  obtain ⟨⟨p, q, r, s, w9⟩, hv⟩ : ∃ v, v = matN l idM := ⟨_, rfl⟩
  rw [← hv] at bm hge bge eC ⊢
  obtain ⟨bm1, bm2, bm3, bm4, bm5⟩ := bm
  have bm1 : Bd 1217 p := bm1
  have bm2 : Bd 1217 q := bm2
  have bm3 : Bd 1217 r := bm3
  have bm4 : Bd 1217 s := bm4
  have bm5 : Bd 1217 w9 := bm5
  have hge : 0 < ((foldG (ml (p, q, r, s, w9)) : Nat) : Int) := by omega
  rw [eC] at qq
  refine ds_nrm ?_
  refine ds_cons ?_
  refine ds_asg (h := ?_)
  refine de_call c__common gd (hr.mono (by decide)) ?_
  refine da_cons ?_
  refine de_tup ?_
  refine da_cons ?_
  refine de_name 1 ?_
  refine da_cons ?_
  refine de_name 2 ?_
  refine da_cons ?_
  refine de_name 3 ?_
  refine da_cons ?_
  refine de_name 4 ?_
  refine da_cons ?_
  refine de_name 5 ?_
  refine da_nil ?_
  refine ⟨by walk_at "len", ?_⟩
  refine da_nil ?_
  refine ⟨(_, _, _, _, _), rfl, ?_⟩
  refine dg_name 9 ?_ sc_matrix_of.nd
  refine ds_cons ?_
  refine ds_ret ?_
  refine de_tup ?_
  refine da_cons ?_
  refine de_fdiv ?_
  refine de_name 1 ?_
  refine de_name 9 ?_
  refine ⟨_, _, rfl, rfl, (by walk_at "cdw"), ?_⟩
  refine da_cons ?_
  refine de_fdiv ?_
  refine de_name 2 ?_
  refine de_name 9 ?_
  refine ⟨_, _, rfl, rfl, (by walk_at "cdw"), ?_⟩
  refine da_cons ?_
  refine de_fdiv ?_
  refine de_name 3 ?_
  refine de_name 9 ?_
  refine ⟨_, _, rfl, rfl, (by walk_at "cdw"), ?_⟩
  refine da_cons ?_
  refine de_fdiv ?_
  refine de_name 4 ?_
  refine de_name 9 ?_
  refine ⟨_, _, rfl, rfl, (by walk_at "cdw"), ?_⟩
  refine da_cons ?_
  refine de_fdiv ?_
  refine de_name 5 ?_
  refine de_name 9 ?_
  refine ⟨_, _, rfl, rfl, (by walk_at "cdw"), ?_⟩
  refine da_nil ?_
  refine ⟨by walk_at "len", ?_⟩
  exact qq
abbrev s_shows_chain : Stmt := top 40
theorem sc_shows_chain : FnScope ["matrix", "value"] ["matrix", "value"] (defScope s_shows_chain) := ⟨rfl, rfl, rfl, by decide +kernel, rfl, by decide +kernel, by decide +kernel⟩
set_option maxHeartbeats 40000000 in
theorem ok_shows_chain {f : Addr} {fd : FuncData} (F : Fun K "shows_chain" "shows_chain" s_shows_chain f fd) (c_check_matrix : Cal P w K mg base 4 "check_matrix" ["matrix"] [] con_chkmat) (c_is_chain : Cal P w K mg base 4 "is_chain" ["value"] [] con_ischain) (c_matrix_of : Cal P w K mg base 5 "matrix_of" ["chain"] [] con_matof) : GOk P w K mg base 6 f fd ["matrix", "value"] (spD K con_shows35) := by
  refine gok_ds F sc_shows_chain (m := 0) rfl (fun ds S0 Q h => ?_) fun cdv A fr s0 H0 E0' gd hr ds S0 Q h => ?_
  · obtain ⟨_, _, rfl, _⟩ := h
    rfl
  obtain ⟨m, l, rfl, rfl, hC, qq⟩ := h
  have hiM := matC_is hC
  have biM := (matC_bd hC).up (show 1217 ≤ 1300 by decide)
  refine ds_nrm ?_ (by set_option simprocs false in dsimp only [List.map, List.replicate, List.cons_append, List.nil_append])
  refine ds_cons ?_
  refine ds_expr (h := ?_)
  refine de_call c_check_matrix gd (hr.mono (by decide)) ?_
  refine da_cons ?_
  refine de_name 0 ?_
  refine da_nil ?_
  refine ⟨_, rfl, (by assumption), (by assumption), ?_⟩
  refine ds_cons ?_
  refine ds_ret ?_
  refine de_and ?_
  refine de_call c_is_chain gd (hr.mono (by decide)) ?_
  refine da_cons ?_
  refine de_name 1 ?_
  refine da_nil ?_
  refine ⟨_, rfl, (by assumption), ?_⟩
  refine ⟨_, rfl, fun hb => ?_, fun hb => ?_⟩
  · exact absurd hb (by simp)
  refine de_one ?_
  refine de_eq (hr.units) ?_
  refine de_call c_matrix_of gd (hr.mono (by decide)) ?_
  refine da_cons ?_
  refine de_name 1 ?_
  refine da_nil ?_
  refine ⟨_, rfl, (by assumption), ?_⟩
  refine de_name 0 ?_
  refine eq_mD rfl ?_
  exact qq
abbrev s_fewest_shears : Stmt := top 38
theorem sc_fewest_shears : FnScope ["matrix", "a", "b", "c", "d", "e"] ["matrix"] (defScope s_fewest_shears) := ⟨rfl, rfl, rfl, by decide +kernel, rfl, by decide +kernel, by decide +kernel⟩
set_option maxHeartbeats 40000000 in
theorem ok_fewest_shears {f : Addr} {fd : FuncData} (F : Fun K "fewest_shears" "fewest_shears" s_fewest_shears f fd) (c_check_matrix : Cal P w K mg base 4 "check_matrix" ["matrix"] [] con_chkmat) : GOk P w K mg base 5 f fd ["matrix"] (spD K con_dueL) := by
  refine gok_ds F sc_fewest_shears (m := 5) rfl (fun ds S0 Q h => ?_) fun cdv A fr s0 H0 E0' gd hr ds S0 Q h => ?_
  · obtain ⟨_, rfl, _⟩ := h
    rfl
  obtain ⟨m, rfl, hM, bM, qq⟩ := h
  obtain ⟨a, b, c, d, e⟩ := m
  obtain ⟨b1, b2, b3, b4, b5⟩ := id bM
  have b1 : Bd 1300 a := b1
  have b2 : Bd 1300 b := b2
  have b3 : Bd 1300 c := b3
  have b4 : Bd 1300 d := b4
  have b5 : Bd 1300 e := b5
  have hp : (if a = e ∧ d = e then (if b = c then (0 : Int) else 1) else if a = e ∨ d = e then 2 else if b = 0 ∧ c = 0 then 4 else 3) = dueM (a, b, c, d, e) := due_prog hM
  refine ds_nrm ?_ (by set_option simprocs false in dsimp only [List.map, List.replicate, List.cons_append, List.nil_append])
  refine ds_cons ?_
  refine ds_expr (h := ?_)
  refine de_call c_check_matrix gd (hr.mono (by decide)) ?_
  refine da_cons ?_
  refine de_name 0 ?_
  refine da_nil ?_
  refine ⟨_, rfl, (by assumption), (by assumption), ?_⟩
  refine ds_cons ?_
  refine ds_asg (h := ?_)
  refine de_name 0 ?_
  first | refine dg_tup rfl rfl ?_ | refine dg_tupL rfl rfl ?_ (fun h => pg_lst rfl h)
  refine dgs_cons (h := ?_)
  refine dg_name 1 ?_ sc_fewest_shears.nd
  refine dgs_cons (h := ?_)
  refine dg_name 2 ?_ sc_fewest_shears.nd
  refine dgs_cons (h := ?_)
  refine dg_name 3 ?_ sc_fewest_shears.nd
  refine dgs_cons (h := ?_)
  refine dg_name 4 ?_ sc_fewest_shears.nd
  refine dgs_cons (h := ?_)
  refine dg_name 5 ?_ sc_fewest_shears.nd
  refine dgs_nil ?_
  refine ds_cons ?_
  refine ds_if ?_
  refine DT.mono (Q := fun b9 S' => S0 = S' ∧ (b9 = true ↔ (a = e ∧ d = e))) ?_ ?_
  · refine dt_w ?_
    refine dw_and ?_
    refine dt_eq (hr.units) ?_
    refine de_name 1 ?_
    refine de_name 5 ?_
    refine eq_int ?_
    refine ⟨fun hb => ?_, fun hb => ?_⟩
    · exact ⟨rfl, fun h => (nomatch h), fun h => (of_decide_eq_false hb h.1).elim⟩
    refine dw_and1 ?_
    refine dt_eq (hr.units) ?_
    refine de_name 4 ?_
    refine de_name 5 ?_
    refine eq_int ?_
    exact ⟨rfl, fun h => ⟨of_decide_eq_true hb, of_decide_eq_true h⟩, fun h => decide_eq_true h.2⟩
  rintro b9 _ ⟨rfl, hbb⟩
  refine ⟨fun ht => ?_, fun ht => ?_⟩
  · have hx := hbb.mp ht
    refine ds_cons ?_
    refine ds_ret ?_
    refine de_ifE ?_
    refine dt_eq (hr.units) ?_
    refine de_name 2 ?_
    refine de_name 3 ?_
    refine eq_int ?_
    refine ⟨fun ht => ?_, fun ht => ?_⟩
    · refine de_int ?_
      rw [show dueM (a, b, c, d, e) = 0 from hp.symm.trans (by rw [if_pos hx, if_pos (of_decide_eq_true ht)])] at qq
      exact qq
    refine de_int ?_
    rw [show dueM (a, b, c, d, e) = 1 from hp.symm.trans (by rw [if_pos hx, if_neg (of_decide_eq_false ht)])] at qq
    exact qq
  have hx : ¬ (a = e ∧ d = e) := fun z => by rw [hbb.mpr z] at ht; cases ht
  refine ds_nil ?_
  refine ds_cons ?_
  refine ds_if ?_
  refine DT.mono (Q := fun b9 S' => S0 = S' ∧ (b9 = true ↔ (a = e ∨ d = e))) ?_ ?_
  · refine dt_w ?_
    refine dw_or ?_
    refine dt_eq (hr.units) ?_
    refine de_name 1 ?_
    refine de_name 5 ?_
    refine eq_int ?_
    refine ⟨fun hb => ?_, fun hb => ?_⟩
    · exact ⟨rfl, fun _ => .inl (of_decide_eq_true hb), fun _ => rfl⟩
    refine dw_or1 ?_
    refine dt_eq (hr.units) ?_
    refine de_name 4 ?_
    refine de_name 5 ?_
    refine eq_int ?_
    exact ⟨rfl, fun h => .inr (of_decide_eq_true h), fun h => decide_eq_true (h.resolve_left (of_decide_eq_false hb))⟩
  rintro b9 _ ⟨rfl, hbb⟩
  refine ⟨fun ht => ?_, fun ht => ?_⟩
  · have hy := hbb.mp ht
    refine ds_cons ?_
    refine ds_ret ?_
    refine de_int ?_
    rw [show dueM (a, b, c, d, e) = 2 from hp.symm.trans (by rw [if_neg hx, if_pos hy])] at qq
    exact qq
  have hy : ¬ (a = e ∨ d = e) := fun z => by rw [hbb.mpr z] at ht; cases ht
  refine ds_nil ?_
  refine ds_cons ?_
  refine ds_ret ?_
  refine de_ifE ?_
  refine DT.mono (Q := fun b9 S' => S0 = S' ∧ (b9 = true ↔ (b = 0 ∧ c = 0))) ?_ ?_
  · refine dt_w ?_
    refine dw_and ?_
    refine dt_eq (hr.units) ?_
    refine de_name 2 ?_
    refine de_int ?_
    refine eq_int ?_
    refine ⟨fun hb => ?_, fun hb => ?_⟩
    · exact ⟨rfl, fun h => (nomatch h), fun h => (of_decide_eq_false hb h.1).elim⟩
    refine dw_and1 ?_
    refine dt_eq (hr.units) ?_
    refine de_name 3 ?_
    refine de_int ?_
    refine eq_int ?_
    exact ⟨rfl, fun h => ⟨of_decide_eq_true hb, of_decide_eq_true h⟩, fun h => decide_eq_true h.2⟩
  rintro b9 _ ⟨rfl, hbb⟩
  refine ⟨fun ht => ?_, fun ht => ?_⟩
  · refine de_int ?_
    rw [show dueM (a, b, c, d, e) = 4 from hp.symm.trans (by rw [if_neg hx, if_neg hy, if_pos (hbb.mp ht)])] at qq
    exact qq
  refine de_int ?_
  rw [show dueM (a, b, c, d, e) = 3 from hp.symm.trans (by rw [if_neg hx, if_neg hy, if_neg (fun z => by rw [hbb.mpr z] at ht; cases ht)])] at qq
  exact qq
abbrev s__plain : Stmt := top 45
theorem sc__plain : FnScope ["chain", "axis", "number", "divisor"] ["chain"] (defScope s__plain) := ⟨rfl, rfl, rfl, by decide +kernel, rfl, by decide +kernel, by decide +kernel⟩
set_option maxHeartbeats 40000000 in
theorem ok__plain {f : Addr} {fd : FuncData} (F : Fun K "_plain" "_plain" s__plain f fd) (c__step : Cal P w K mg base 2 "_step" ["axis", "number", "divisor"] [] con_step2) : GOk P w K mg base 3 f fd ["chain"] (spD K con_plain) := by
  refine gok_ds F sc__plain (m := 3) rfl (fun ds S0 Q h => ?_) fun cdv A fr s0 H0 E0' gd hr ds S0 Q h => ?_
  · obtain ⟨_, rfl, _⟩ := h
    rfl
  obtain ⟨l, rfl, hC, qq⟩ := h
  have hok := hC.1
  have h8 := hC.2
  refine ds_nrm ?_ (by set_option simprocs false in dsimp only [List.map, List.replicate, List.cons_append, List.nil_append])
  refine ds_cons ?_
  refine ds_ret ?_
  refine de_lcTIf (own := [("axis", 1), ("number", 2), ("divisor", 3)]) [1, 2, 3] rfl sc__plain.nd (blkOk_by (N := ["chain", "axis", "number", "divisor"]) (sc := defScope s__plain) (by decide +kernel)) rfl rfl ?_ (fun _ _ _ _ _ => pg_tup rfl (pgs_cons (pg_name sc__plain.nd rfl (Or.inl rfl)) (pgs_cons (pg_name sc__plain.nd rfl (Or.inl rfl)) (pgs_cons (pg_name sc__plain.nd rfl (Or.inl rfl)) pgs_nil))))
  refine di_lst ?_
  refine de_name 0 ?_
  refine ⟨_, rfl, ?_⟩
  refine ⟨fun i9 acc S' => S0 = S' ∧ acc = ((l.take i9).filter nz).map (stD ∘ red), ⟨rfl, rfl⟩, fun k9 d acc S' p9 hk hP hp hl => ?_, by rw [List.length_map]; omega, fun acc S' hl hP => ?_⟩
  · obtain ⟨rfl, rfl⟩ := hP
    obtain ⟨t, ht9, rfl⟩ := st_at hk
    have hs1 := hok t (List.mem_of_getElem? ht9)
    obtain ⟨b, n, d⟩ := t
    obtain ⟨hd1, bn1, bd1⟩ := hs1
    have hd1 : 1 ≤ d := hd1
    have bn1 : Bd 150 n := bn1
    have bd1 : Bd 150 d := bd1
    refine ⟨_, rfl, rfl, _, by set_option simprocs false in dsimp only [setV, wipeE, List.set], ?_⟩
    intro s H C cl fp
    refine dt_ne (hr.units) ?_
    refine de_name 2 ?_
    refine de_int ?_
    refine eq_int ?_
    refine ⟨_, rfl, fun ht s6 H6 C6 cl6 fp6 => ?_, fun ht => ⟨rfl, by rw [flt_step _ _ ht9, if_neg (fun z => by rw [show (!decide (n = 0)) = nz (b, n, d) from (decide_not ..).symm, z] at ht; cases ht), List.append_nil]⟩⟩
    refine de_call c__step gd (hr.mono (by decide)) ?_
    refine da_cons ?_
    refine de_name 1 ?_
    refine da_cons ?_
    refine de_name 2 ?_
    refine da_cons ?_
    refine de_name 3 ?_
    refine da_nil ?_
    refine .inl ⟨_, _, _, rfl, (by omega), ⟨by walk_at "bdu", by walk_at "bdu"⟩, ?_⟩
    exact ⟨_, rfl, rfl, by rw [flt_step _ _ ht9, if_pos (show nz (b, n, d) = true from (decide_not ..).trans ht)] <;> rfl⟩
  obtain ⟨rfl, rfl⟩ := hP
  rw [List.length_map, List.take_of_length_le (Nat.le_refl l.length)]
  exact (congrArg (fun z => Q (.lst z) _) (show (plainC l).map stD = (l.filter nz).map (stD ∘ red) from List.map_map ..)).mp qq
abbrev s_first_parting : Stmt := top 41
theorem sc_first_parting : FnScope ["chain", "second", "reach", "one", "other", "x", "y"] ["chain", "second", "reach"] (defScope s_first_parting) := ⟨rfl, rfl, rfl, by decide +kernel, rfl, by decide +kernel, by decide +kernel⟩
set_option maxHeartbeats 40000000 in
theorem ok_first_parting {f : Addr} {fd : FuncData} (F : Fun K "first_parting" "first_parting" s_first_parting f fd) (c__plain : Cal P w K mg base 3 "_plain" ["chain"] [] con_plain) (c_along : Cal P w K mg base 2 "along" ["chain", "pixel"] [] con_led) (c_check_chain : Cal P w K mg base 4 "check_chain" ["chain"] [] con_chkc) (c_is_whole : Cal P w K mg base 1 "is_whole" ["value"] [] con_is_whole) (g_GREATEST_REACH : ∃ u, mg "GREATEST_REACH" = some (.int (30) u)) (n_range : mg "range" = none) : GOk P w K mg base 5 f fd ["chain", "second", "reach"] (spD K con_part) := by
  refine gok_ds F sc_first_parting (m := 4) rfl (fun ds S0 Q h => ?_) fun cdv A fr s0 H0 E0' gd hr ds S0 Q h => ?_
  · obtain ⟨_, _, _, rfl, _⟩ := h
    rfl
  obtain ⟨l, m, r, rfl, hC, hD, ⟨hr0, hr1⟩, qq⟩ := h
  have hpl := plain_ok hC
  have hpm := plain_ok hD
  have el := plain_led hC.1
  have em := plain_led hD.1
  have hgn : (r + 1 - -r).toNat = gN r := by unfold gN; omega
  refine ds_nrm ?_ (by set_option simprocs false in dsimp only [List.map, List.replicate, List.cons_append, List.nil_append])
  refine ds_cons ?_
  refine ds_expr (h := ?_)
  refine de_call c_check_chain gd (hr.mono (by decide)) ?_
  refine da_cons ?_
  refine de_name 0 ?_
  refine da_nil ?_
  refine ⟨_, rfl, (by assumption), ?_⟩
  refine ds_cons ?_
  refine ds_expr (h := ?_)
  refine de_call c_check_chain gd (hr.mono (by decide)) ?_
  refine da_cons ?_
  refine de_name 1 ?_
  refine da_nil ?_
  refine ⟨_, rfl, (by assumption), ?_⟩
  refine ds_cons ?_
  refine ds_if ?_
  refine dt_w ?_
  refine dw_or ?_
  refine dt_not ?_
  refine dt_val (h := ?_)
  refine de_call c_is_whole gd (hr.mono (by decide)) ?_
  refine da_cons ?_
  refine de_name 2 ?_
  refine da_nil ?_
  refine ⟨_, rfl, ?_⟩
  refine ⟨_, rfl, ?_⟩
  refine ⟨fun hb => ?_, fun hb => ?_⟩
  · first | exact absurd (of_decide_eq_true hb) (by omega) | exact absurd hb (by simp)
  refine dw_or ?_
  refine dt_lt ?_
  refine de_name 2 ?_
  refine de_int ?_
  refine ⟨_, _, rfl, rfl, ?_⟩
  refine ⟨fun hb => ?_, fun hb => ?_⟩
  · first | exact absurd (of_decide_eq_true hb) (by omega) | exact absurd hb (by simp)
  refine dw_or1 ?_
  refine dt_gt ?_
  refine de_name 2 ?_
  refine de_globI2 g_GREATEST_REACH ?_
  refine ⟨_, _, rfl, rfl, ?_⟩
  refine ⟨fun ht => ?_, fun ht => ?_⟩
  · exact absurd (of_decide_eq_true ht) (by omega)
  refine ds_nil ?_
  refine ds_cons ?_
  refine ds_par (i := 3) (j := 4) rfl sc_first_parting.nd rfl rfl (by decide) ?_
  refine da_cons ?_
  refine de_call c__plain gd (hr.mono (by decide)) ?_
  refine da_cons ?_
  refine de_name 0 ?_
  refine da_nil ?_
  refine ⟨_, rfl, (by assumption), ?_⟩
  refine da_cons ?_
  refine de_call c__plain gd (hr.mono (by decide)) ?_
  refine da_cons ?_
  refine de_name 1 ?_
  refine da_nil ?_
  refine ⟨_, rfl, (by assumption), ?_⟩
  refine da_nil ?_
  refine ⟨_, _, rfl, ?_⟩
  refine ds_nrm ?_
  refine ds_cons ?_
  refine ds_if ?_
  refine dt_eq (hr.units) ?_
  refine de_name 3 ?_
  refine de_name 4 ?_
  refine eq_chainP fun v hv => ?_
  refine ⟨fun ht => ?_, fun ht => ?_⟩
  · refine ds_cons ?_
    refine ds_ret ?_
    refine de_non ?_
    rw [part_same (fun w => by rw [← el w, ← em w, hv ht])] at qq
    exact qq
  refine ds_nil ?_
  refine ds_cons ?_
  refine ds_forG (γ := Unit) [5, 6] PassesOwn.never rfl ?_
  refine di_rng2 n_range ?_
  refine da_cons ?_
  refine de_neg ?_
  refine de_name 2 ?_
  refine ⟨_, rfl, ?_⟩
  refine da_cons ?_
  refine de_add ?_
  refine de_name 2 ?_
  refine de_int ?_
  first | refine add_int ?_ | refine add_lst ?_ (by walk_at "len") | refine add_tup ?_ (by walk_at "len3") | refine add_scr ?_ (by walk_at "len") | refine (show addP (.str _) (.str _) _ _ from ⟨by decide +kernel, ?_⟩)
  refine da_nil ?_
  refine ⟨_, _, rfl, (by walk_at "rng"), ?_⟩
  refine ⟨fun _ => [], _, fun _ => (by dsimp only [putU, fgt, List.set]), fun i _ S' => S0 = S' ∧ FT (partG l m r) (gN r) i 0 none, (), by walk_at "wk", ⟨rfl, ft_0⟩, fun i1 d1 g1 S1 hi1 hP1 => ?_, fun g1 S1 hP1 => ?_⟩
  · obtain ⟨rfl, hft1⟩ := hP1
    obtain ⟨hlt1, rfl⟩ := rngD_get hi1
    rw [hgn] at hlt1
    have bx1 : Bd 10 (-r + (i1 : Int)) := by unfold gN at hlt1; unfold Bd; omega
    refine dg_name 5 ?_ sc_first_parting.nd
    refine ds_cons ?_
    refine ds_forG (γ := Unit) [6] PassesOwn.never rfl ?_
    refine di_rng2 n_range ?_
    refine da_cons ?_
    refine de_neg ?_
    refine de_name 2 ?_
    refine ⟨_, rfl, ?_⟩
    refine da_cons ?_
    refine de_add ?_
    refine de_name 2 ?_
    refine de_int ?_
    first | refine add_int ?_ | refine add_lst ?_ (by walk_at "len") | refine add_tup ?_ (by walk_at "len3") | refine add_scr ?_ (by walk_at "len") | refine (show addP (.str _) (.str _) _ _ from ⟨by decide +kernel, ?_⟩)
    refine da_nil ?_
    refine ⟨_, _, rfl, (by walk_at "rng"), ?_⟩
    refine ⟨fun _ => [], _, fun _ => (by dsimp only [putU, fgt, List.set]), fun j _ S' => S0 = S' ∧ FT (partG l m r) (gN r) i1 j none, (), by walk_at "wk", ⟨rfl, hft1⟩, fun i2 d2 g2 S2 hi2 hP2 => ?_, fun g2 S2 hP2 => ?_⟩
    · obtain ⟨rfl, hft2⟩ := hP2
      obtain ⟨hlt2, rfl⟩ := rngD_get hi2
      rw [hgn] at hlt2
      have by2 : Bd 10 (-r + (i2 : Int)) := by unfold gN at hlt2; unfold Bd; omega
      refine dg_name 6 ?_ sc_first_parting.nd
      refine ds_cons ?_
      refine ds_if ?_
      refine dt_ne (hr.units) ?_
      refine de_call c_along gd (hr.mono (by decide)) ?_
      refine da_cons ?_
      refine de_name 3 ?_
      refine da_cons ?_
      refine de_tup ?_
      refine da_cons ?_
      refine de_name 5 ?_
      refine da_cons ?_
      refine de_name 6 ?_
      refine da_nil ?_
      refine ⟨by walk_at "len", ?_⟩
      refine da_nil ?_
      refine ⟨_, _, _, rfl, (by assumption), ⟨by walk_at "bdu", by walk_at "bdu"⟩, ?_⟩
      refine de_call c_along gd (hr.mono (by decide)) ?_
      refine da_cons ?_
      refine de_name 4 ?_
      refine da_cons ?_
      refine de_tup ?_
      refine da_cons ?_
      refine de_name 5 ?_
      refine da_cons ?_
      refine de_name 6 ?_
      refine da_nil ?_
      refine ⟨by walk_at "len", ?_⟩
      refine da_nil ?_
      refine ⟨_, _, _, rfl, (by assumption), ⟨by walk_at "bdu", by walk_at "bdu"⟩, ?_⟩
      refine eq_t2 fun v2 hv2 => ?_
      refine ⟨fun ht => ?_, fun ht => ?_⟩
      · rw [el, em] at hv2
        have hg := partG_iff hv2
        rw [show (!v2) = true from ht] at hg
        refine ds_cons ?_
        refine ds_ret ?_
        refine de_tup ?_
        refine da_cons ?_
        refine de_name 5 ?_
        refine da_cons ?_
        refine de_name 6 ?_
        refine da_nil ?_
        refine ⟨by walk_at "len", ?_⟩
        rw [part_some hlt1 hlt2 hft2 hg] at qq
        exact qq
      refine ds_nil ?_
      refine ds_nil ?_
      rw [el, em] at hv2
      have hg := partG_iff hv2
      rw [show (!v2) = false from ht] at hg
      have hn := ft_next hlt2 hft2
      rw [if_neg (fun z => by rw [hg] at z; cases z.2)] at hn
      exact ⟨(), by walk_at "wk", rfl, hn⟩
    obtain ⟨rfl, hft2⟩ := hP2
    rw [rngD_len, hgn] at hft2
    refine ds_nil ?_
    exact ⟨(), by walk_at "wk", rfl, ft_row hft2⟩
  obtain ⟨rfl, hft1⟩ := hP1
  rw [rngD_len, hgn] at hft1
  refine ds_cons ?_
  refine ds_ret ?_
  refine de_non ?_
  rw [← part_of hft1] at qq
  exact qq
abbrev s__three_steps : Stmt := top 44
theorem sc__three_steps : FnScope ["matrix", "a", "b", "c", "d", "e"] ["matrix"] (defScope s__three_steps) := ⟨rfl, rfl, rfl, by decide +kernel, rfl, by decide +kernel, by decide +kernel⟩
set_option maxHeartbeats 40000000 in
theorem ok__three_steps {f : Addr} {fd : FuncData} (F : Fun K "_three_steps" "_three_steps" s__three_steps f fd) (c__step : Cal P w K mg base 2 "_step" ["axis", "number", "divisor"] [] con_step2) : GOk P w K mg base 3 f fd ["matrix"] (spD K con_thr78) := by
  refine gok_ds F sc__three_steps (m := 5) rfl (fun ds S0 Q h => ?_) fun cdv A fr s0 H0 E0' gd hr ds S0 Q h => ?_
  · obtain ⟨_, _, _, rfl, _⟩ := h
    rfl
  obtain ⟨p, q, k, rfl, hT, hq, qq⟩ := h
  have b1 := hT.bp
  have b2 := hT.bq
  have hp0 := hT.p1
  have hc9 : 0 < cc p q := cc_pos hT
  unfold cc at hc9
  obtain ⟨a, ea⟩ : ∃ a, a = p * p - q * q := ⟨_, rfl⟩
  obtain ⟨b, eb⟩ : ∃ b, b = 2 * p * q := ⟨_, rfl⟩
  obtain ⟨c, ec⟩ : ∃ c, c = p * p + q * q := ⟨_, rfl⟩
  have ba : Bd 110 a := by rw [ea]; walk_at "bdu"
  have bb : Bd 110 b := by rw [eb]; walk_at "bdu"
  have bc : Bd 110 c := by rw [ec]; walk_at "bdu"
  have hb0 : b ≠ 0 := by rw [eb]; intro z; rcases Int.mul_eq_zero.mp z with e | e <;> omega
  have hc0 : c ≠ 0 := by omega
  rw [← ea, ← eb, ← ec]
  unfold mLg mD
  refine ds_nrm ?_ (by set_option simprocs false in dsimp only [List.map, List.replicate, List.cons_append, List.nil_append])
  refine ds_cons ?_
  refine ds_asg (h := ?_)
  refine de_name 0 ?_
  first | refine dg_tup rfl rfl ?_ | refine dg_tupL rfl rfl ?_ (fun h => pg_lst rfl h)
  refine dgs_cons (h := ?_)
  refine dg_name 1 ?_ sc__three_steps.nd
  refine dgs_cons (h := ?_)
  refine dg_name 2 ?_ sc__three_steps.nd
  refine dgs_cons (h := ?_)
  refine dg_name 3 ?_ sc__three_steps.nd
  refine dgs_cons (h := ?_)
  refine dg_name 4 ?_ sc__three_steps.nd
  refine dgs_cons (h := ?_)
  refine dg_name 5 ?_ sc__three_steps.nd
  refine dgs_nil ?_
  refine ds_cons ?_
  refine ds_if ?_
  refine dt_ne (hr.units) ?_
  refine de_name 3 ?_
  refine de_int ?_
  refine eq_int ?_
  refine ⟨fun ht => ?_, fun ht => ?_⟩
  · refine ds_cons ?_
    refine ds_ret ?_
    refine de_lst ?_
    refine da_cons ?_
    refine de_call c__step gd (hr.mono (by decide)) ?_
    refine da_cons ?_
    refine de_str ?_
    refine da_cons ?_
    refine de_sub ?_
    refine de_name 4 ?_
    refine de_name 5 ?_
    refine ⟨_, _, rfl, rfl, ?_⟩
    refine da_cons ?_
    refine de_name 3 ?_
    refine da_nil ?_
    refine .inr ⟨true, _, _, rfl, (by omega), ⟨by walk_at "bdu", by walk_at "bdu"⟩, fun x1 y1 => ?_⟩
    refine da_cons ?_
    refine de_call c__step gd (hr.mono (by decide)) ?_
    refine da_cons ?_
    refine de_str ?_
    refine da_cons ?_
    refine de_name 3 ?_
    refine da_cons ?_
    refine de_name 5 ?_
    refine da_nil ?_
    refine .inr ⟨false, _, _, rfl, (by omega), ⟨by walk_at "bdu", by walk_at "bdu"⟩, fun x2 y2 => ?_⟩
    refine da_cons ?_
    refine de_call c__step gd (hr.mono (by decide)) ?_
    refine da_cons ?_
    refine de_str ?_
    refine da_cons ?_
    refine de_sub ?_
    refine de_name 1 ?_
    refine de_name 5 ?_
    refine ⟨_, _, rfl, rfl, ?_⟩
    refine da_cons ?_
    refine de_name 3 ?_
    refine da_nil ?_
    refine .inr ⟨true, _, _, rfl, (by omega), ⟨by walk_at "bdu", by walk_at "bdu"⟩, fun x3 y3 => ?_⟩
    refine da_nil ?_
    refine ⟨by walk_at "len", ?_⟩
    exact qq _ rfl
  · exact absurd ht (by simpa using hb0)
abbrev s_chain_for : Stmt := top 39
theorem sc_chain_for : FnScope ["matrix", "many", "a", "b", "c", "d", "e", "steps"] ["matrix"] (defScope s_chain_for) := ⟨rfl, rfl, rfl, by decide +kernel, rfl, by decide +kernel, by decide +kernel⟩
set_option maxHeartbeats 40000000 in
theorem ok_chain_for {f : Addr} {fd : FuncData} (F : Fun K "chain_for" "chain_for" s_chain_for f fd) (c__three_steps : Cal P w K mg base 3 "_three_steps" ["matrix"] [] con_thr78) (c_fewest_shears : Cal P w K mg base 5 "fewest_shears" ["matrix"] [] con_dueL) : GOk P w K mg base 6 f fd ["matrix"] (spD K con_cf78) := by
  refine gok_ds F sc_chain_for (m := 7) rfl (fun ds S0 Q h => ?_) fun cdv A fr s0 H0 E0' gd hr ds S0 Q h => ?_
  · obtain ⟨_, _, _, rfl, _⟩ := h
    rfl
  obtain ⟨p, q, k, rfl, hT, qq⟩ := h
  refine ds_nrm ?_ (by set_option simprocs false in dsimp only [List.map, List.replicate, List.cons_append, List.nil_append])
  refine ds_cons ?_
  refine ds_asg (h := ?_)
  refine de_call c_fewest_shears gd (hr.mono (by decide)) ?_
  refine da_cons ?_
  refine de_name 0 ?_
  refine da_nil ?_
  refine ⟨_, rfl, lg_is hT true, lg_bd78 hT, ?_⟩
  rw [due_lg hT]
  unfold mLg mD
  refine dg_name 1 ?_ sc_chain_for.nd
  refine ds_cons ?_
  refine ds_asg (h := ?_)
  refine de_name 0 ?_
  first | refine dg_tup rfl rfl ?_ | refine dg_tupL rfl rfl ?_ (fun h => pg_lst rfl h)
  refine dgs_cons (h := ?_)
  refine dg_name 2 ?_ sc_chain_for.nd
  refine dgs_cons (h := ?_)
  refine dg_name 3 ?_ sc_chain_for.nd
  refine dgs_cons (h := ?_)
  refine dg_name 4 ?_ sc_chain_for.nd
  refine dgs_cons (h := ?_)
  refine dg_name 5 ?_ sc_chain_for.nd
  refine dgs_cons (h := ?_)
  refine dg_name 6 ?_ sc_chain_for.nd
  refine dgs_nil ?_
  refine ds_cons ?_
  refine ds_if ?_
  refine dt_eq (hr.units) ?_
  refine de_name 1 ?_
  refine de_int ?_
  refine eq_int ?_
  refine ⟨fun ht => ?_, fun ht => ?_⟩
  · have hq : q = 0 := Decidable.byContradiction fun z => by have := of_decide_eq_true ht; rw [if_neg z] at this; omega
    refine ds_cons ?_
    refine ds_ret ?_
    refine de_lst ?_
    refine da_nil ?_
    refine ⟨by walk_at "len", ?_⟩
    exact qq _ (by rw [if_pos hq] <;> rfl)
  have hq : q ≠ 0 := fun z => by have := of_decide_eq_false ht; rw [if_pos z] at this; exact this rfl
  refine ds_nil ?_
  refine ds_cons ?_
  refine ds_if ?_
  refine dt_eq (hr.units) ?_
  refine de_name 1 ?_
  refine de_int ?_
  refine eq_int ?_
  refine ⟨fun ht => ?_, fun ht => ?_⟩
  · exact absurd (of_decide_eq_true ht) (by rw [if_neg hq]; decide)
  refine ds_nil ?_
  refine ds_cons ?_
  refine ds_if ?_
  refine dt_eq (hr.units) ?_
  refine de_name 1 ?_
  refine de_int ?_
  refine eq_int ?_
  refine ⟨fun ht => ?_, fun ht => ?_⟩
  · exact absurd (of_decide_eq_true ht) (by rw [if_neg hq]; decide)
  refine ds_nil ?_
  refine ds_cons ?_
  refine ds_if ?_
  refine dt_eq (hr.units) ?_
  refine de_name 1 ?_
  refine de_int ?_
  refine eq_int ?_
  refine ⟨fun ht => ?_, fun ht => ?_⟩
  · refine ds_cons ?_
    refine ds_ret ?_
    refine de_call c__three_steps gd (hr.mono (by decide)) ?_
    refine da_cons ?_
    refine de_name 0 ?_
    refine da_nil ?_
    refine ⟨p, q, k, rfl, hT, hq, fun l2 hl2 => ?_⟩
    exact qq _ (by rw [if_neg hq]; assumption)
  · exact absurd (if_neg hq) (of_decide_eq_false ht)
abbrev s__first_wrong : Stmt := top 57
theorem sc__first_wrong : FnScope ["items", "at", "item"] ["items"] (defScope s__first_wrong) := ⟨rfl, rfl, rfl, by decide +kernel, rfl, by decide +kernel, by decide +kernel⟩
set_option maxHeartbeats 40000000 in
theorem ok__first_wrong {f : Addr} {fd : FuncData} (F : Fun K "_first_wrong" "_first_wrong" s__first_wrong f fd) (c_is_pixel : Cal P w K mg base 3 "is_pixel" ["value"] [] con_is_pixel) (n_enumerate : mg "enumerate" = none) : GOk P w K mg base 4 f fd ["items"] (spD K con_fw78) := by
  refine gok_ds F sc__first_wrong (m := 2) rfl (fun ds S0 Q h => ?_) fun cdv A fr s0 H0 E0' gd hr ds S0 Q h => ?_
  · obtain ⟨_, rfl, _⟩ := h
    rfl
  obtain ⟨l, rfl, hS, hl, qq⟩ := h
  refine ds_nrm ?_ (by set_option simprocs false in dsimp only [List.map, List.replicate, List.cons_append, List.nil_append])
  refine ds_cons ?_
  refine ds_forG (γ := Unit) [1, 2] PassesOwn.never rfl ?_
  refine di_enum n_enumerate ?_
  refine da_cons ?_
  refine de_name 0 ?_
  refine da_nil ?_
  refine ⟨_, rfl, ?_⟩
  refine ⟨fun _ => [], _, fun _ => (by dsimp only [putU, fgt, List.set]), fun i _ S' => S0 = S', (), by walk_at "wk", rfl, fun i1 d1 g1 S1 hi1 hP1 => ?_, fun g1 S1 hP1 => ?_⟩
  · subst hP1
    obtain ⟨d9, hd9, rfl⟩ := enuD_at hi1
    obtain ⟨⟨x9, y9⟩, ht9, rfl⟩ := pr_at hd9
    have hil : i1 < l.length := (List.getElem?_eq_some_iff.mp ht9).1
    have bi1 : Bd 10 (i1 : Int) := by unfold Bd; omega
    first | refine dg_tup rfl rfl ?_ | refine dg_tupL rfl rfl ?_ (fun h => pg_lst rfl h)
    refine dgs_cons (h := ?_)
    refine dg_name 1 ?_ sc__first_wrong.nd
    refine dgs_cons (h := ?_)
    refine dg_name 2 ?_ sc__first_wrong.nd
    refine dgs_nil ?_
    refine ds_cons ?_
    refine ds_if ?_
    refine DT.mono (Q := fun b' S' => S0 = S' ∧ b' = false) ?_ ?_
    · refine dt_w ?_
      refine dw_or ?_
      refine dt_not ?_
      refine dt_val (h := ?_)
      refine de_call c_is_pixel gd (hr.mono (by decide)) ?_
      refine da_cons ?_
      refine de_name 2 ?_
      refine da_nil ?_
      refine ⟨_, _, rfl, ?_⟩
      refine ⟨_, rfl, ?_⟩
      refine ⟨fun hb => ?_, fun hb => ?_⟩
      · exact absurd hb (by simp)
      refine dw_or1 ?_
      refine dt_w ?_
      refine dw_and ?_
      refine dt_gt ?_
      refine de_name 1 ?_
      refine de_int ?_
      refine ⟨_, _, rfl, rfl, ?_⟩
      refine ⟨fun hb => ?_, fun hb => ?_⟩
      · exact ⟨rfl, rfl⟩
      have hpos : 0 < i1 := by have := of_decide_eq_true hb; omega
      obtain ⟨⟨x8, y8⟩, ht8⟩ : ∃ v, l[i1 - 1]? = some v := ⟨_, List.getElem?_eq_getElem (show i1 - 1 < l.length by omega)⟩
      have hlt9 : lt2 (x8, y8) (x9, y9) = true := hS (i1 - 1) _ _ ht8 (by rw [show i1 - 1 + 1 = i1 by omega]; exact ht9)
      refine dw_and1 ?_
      refine dt_le2 (hu65 hr) ?_
      refine de_name 2 ?_
      refine de_ix (h := ?_)
      refine de_name 0 ?_
      refine de_sub ?_
      refine de_name 1 ?_
      refine de_int ?_
      refine ⟨_, _, rfl, rfl, ?_⟩
      refine ix_pr (by omega) (by rw [show ((i1 : Int) - 1).toNat = i1 - 1 by omega]; exact ht8) ?_
      refine ⟨_, _, _, _, rfl, rfl, ?_⟩
      exact ⟨rfl, by rw [hlt9] <;> rfl⟩
    rintro _ _ ⟨rfl, rfl⟩
    refine ⟨fun ht => ?_, fun ht => ?_⟩
    · cases ht
    refine ds_nil ?_
    refine ds_nil ?_
    exact ⟨(), by walk_at "wk", rfl⟩
  subst hP1
  refine ds_cons ?_
  refine ds_ret ?_
  refine de_non ?_
  exact qq
abbrev s_check_picture : Stmt := top 55
theorem sc_check_picture : FnScope ["pixels", "at"] ["pixels"] (defScope s_check_picture) := ⟨rfl, rfl, rfl, by decide +kernel, rfl, by decide +kernel, by decide +kernel⟩
set_option maxHeartbeats 40000000 in
theorem ok_check_picture {f : Addr} {fd : FuncData} (F : Fun K "check_picture" "check_picture" s_check_picture f fd) (c__first_wrong : Cal P w K mg base 4 "_first_wrong" ["items"] [] con_fw78) (g_MOST_PIXELS : ∃ u, mg "MOST_PIXELS" = some (.int (400) u)) (n_isinstance : mg "isinstance" = none) (n_len : mg "len" = none) (n_list : mg "list" = none) : GOk P w K mg base 5 f fd ["pixels"] (spD K con_fw78) := by
  refine gok_ds F sc_check_picture (m := 1) rfl (fun ds S0 Q h => ?_) fun cdv A fr s0 H0 E0' gd hr ds S0 Q h => ?_
  · obtain ⟨_, rfl, _⟩ := h
    rfl
  obtain ⟨l, rfl, hS, hl, qq⟩ := h
  refine ds_nrm ?_ (by set_option simprocs false in dsimp only [List.map, List.replicate, List.cons_append, List.nil_append])
  refine ds_cons ?_
  refine ds_if ?_
  refine dt_w ?_
  refine dw_or ?_
  refine dt_not ?_
  refine dt_val (h := ?_)
  refine de_B call_isi n_isinstance bt_isinstance ?_
  refine da_cons ?_
  refine de_name 0 ?_
  refine da_cons ?_
  refine de_ty n_list bt_list ?_
  refine da_nil ?_
  walk_at "isi"
  refine ⟨_, rfl, ?_⟩
  refine ⟨fun hb => ?_, fun hb => ?_⟩
  · first | exact absurd hb (by simp) | exact absurd hb (by decide)
  refine dw_or1 ?_
  refine dt_gt ?_
  refine de_B call_len_seq n_len bt_len ?_
  refine da_cons ?_
  refine de_name 0 ?_
  refine da_nil ?_
  refine drc_len ?_
  walk_at "lenP"
  refine de_globI2 g_MOST_PIXELS ?_
  refine ⟨_, _, rfl, rfl, ?_⟩
  refine ⟨fun ht => ?_, fun ht => ?_⟩
  · exact absurd (of_decide_eq_true ht) (by rw [List.length_map]; omega)
  refine ds_nil ?_
  refine ds_cons ?_
  refine ds_asg (h := ?_)
  refine de_call c__first_wrong gd (hr.mono (by decide)) ?_
  refine da_cons ?_
  refine de_name 0 ?_
  refine da_nil ?_
  refine ⟨_, rfl, hS, hl, ?_⟩
  refine dg_name 1 ?_ sc_check_picture.nd
  refine ds_cons ?_
  refine ds_if ?_
  refine dt_notN ?_
  refine de_name 1 ?_
  refine ⟨_, rfl, ?_⟩
  refine ⟨fun ht => ?_, fun ht => ?_⟩
  · cases ht
  refine ds_nil ?_
  refine ds_nil ?_
  exact qq
abbrev s_sheared_picture : Stmt := top 56
theorem sc_sheared_picture : FnScope ["turn", "order", "pixels", "chain", "pixel"] ["turn", "order", "pixels"] (defScope s_sheared_picture) := ⟨rfl, rfl, rfl, by decide +kernel, rfl, by decide +kernel, by decide +kernel⟩
set_option maxHeartbeats 40000000 in
theorem ok_sheared_picture {f : Addr} {fd : FuncData} (F : Fun K "sheared_picture" "sheared_picture" s_sheared_picture f fd) (c_check_order : Cal P w K mg base 1 "check_order" ["order"] [] con_ckord) (c_check_picture : Cal P w K mg base 5 "check_picture" ["pixels"] [] con_fw78) (c_check_turn : Cal P w K mg base 4 "check_turn" ["turn"] [] con_check_turn) (c_shear_chain : Cal P w K mg base 5 "shear_chain" ["turn", "order"] [] con_shcP) (c_sheared_by : Cal P w K mg base 3 "sheared_by" ["chain", "turn", "pixel"] [] con_shby) (n_sorted : mg "sorted" = none) : GOk P w K mg base 6 f fd ["turn", "order", "pixels"] (spD K con_shp78) := by
  refine gok_ds F sc_sheared_picture (m := 2) rfl (fun ds S0 Q h => ?_) fun cdv A fr s0 H0 E0' gd hr ds S0 Q h => ?_
  · obtain ⟨_, _, _, _, _, rfl, _⟩ := h
    rfl
  obtain ⟨p, q, k, o, l, rfl, hT, hS, hl, hB, qq⟩ := h
  refine ds_nrm ?_ (by set_option simprocs false in dsimp only [List.map, List.replicate, List.cons_append, List.nil_append])
  refine ds_cons ?_
  refine ds_expr (h := ?_)
  refine de_call c_check_turn gd (hr.mono (by decide)) ?_
  refine da_cons ?_
  refine de_name 0 ?_
  refine da_nil ?_
  refine ⟨_, _, _, rfl, by walk_at "tn", ?_⟩
  refine ds_cons ?_
  refine ds_expr (h := ?_)
  refine de_call c_check_order gd (hr.mono (by decide)) ?_
  refine da_cons ?_
  refine de_name 1 ?_
  refine da_nil ?_
  first | refine ⟨_, rfl, ?_⟩ | refine ⟨true, rfl, ?_⟩ | refine ⟨false, rfl, ?_⟩
  refine ds_cons ?_
  refine ds_expr (h := ?_)
  refine de_call c_check_picture gd (hr.mono (by decide)) ?_
  refine da_cons ?_
  refine de_name 2 ?_
  refine da_nil ?_
  refine ⟨_, rfl, hS, hl, ?_⟩
  refine ds_cons ?_
  refine ds_asg (h := ?_)
  refine de_call c_shear_chain gd (hr.mono (by decide)) ?_
  refine da_cons ?_
  refine de_name 0 ?_
  refine da_cons ?_
  refine de_name 1 ?_
  refine da_nil ?_
  first | refine ⟨_, _, _, _, rfl, by walk_at "tn", ?_⟩ | refine ⟨_, _, _, true, rfl, by walk_at "tn", ?_⟩ | refine ⟨_, _, _, false, rfl, by walk_at "tn", ?_⟩
  refine dg_name 3 ?_ sc_sheared_picture.nd
  refine ds_cons ?_
  refine ds_ret ?_
  refine de_B (cr_sortD (hu65 hr)) n_sorted bt_sorted ?_
  refine da_cons ?_
  refine de_lc 4 rfl sc_sheared_picture.nd (blkOk_by (N := ["turn", "order", "pixels", "chain", "pixel"]) (sc := defScope s_sheared_picture) (by decide +kernel)) ?_ (fun _ _ _ _ _ => pg_name sc_sheared_picture.nd rfl (Or.inl rfl))
  refine di_lst ?_
  refine de_name 2 ?_
  refine ⟨_, rfl, ?_⟩
  refine ⟨fun i9 acc S' => S0 = S' ∧ acc = (l.map fun v => pr2 (shV p q k o v.1 v.2)).take i9, ⟨rfl, rfl⟩, fun k9 d acc S' p9 hk hP hp hl9 s5 H5 C5 cl5 fp5 => ?_, by rw [List.length_map]; omega, fun acc S' hl9 hP => ?_⟩
  · obtain ⟨rfl, rfl⟩ := hP
    obtain ⟨⟨x9, y9⟩, ht9, rfl⟩ := pr_at hk
    obtain ⟨bx9, by9⟩ := hB _ (List.mem_of_getElem? ht9)
    have bx9 : Bd 400 x9 := bx9
    have by9 : Bd 400 y9 := by9
    refine de_call c_sheared_by gd (hr.mono (by decide)) ?_
    refine da_cons ?_
    refine de_name 3 ?_
    refine da_cons ?_
    refine de_name 0 ?_
    refine da_cons ?_
    refine de_name 4 ?_
    refine da_nil ?_
    refine ⟨_, _, _, _, _, _, rfl, by walk_at "tn", ⟨by walk_at "bdu", by walk_at "bdu"⟩, ?_⟩
    exact ⟨_, rfl, rfl, by rw [take_step (fun v : Int × Int => pr2 (shV p q k o v.1 v.2)) ht9] <;> rfl⟩
  obtain ⟨rfl, rfl⟩ := hP
  rw [List.length_map, List.take_of_length_le (by rw [List.length_map]; exact Nat.le_refl _), show (l.map fun v => pr2 (shV p q k o v.1 v.2)) = (l.map fun v => shV p q k o v.1 v.2).map pr2 by rw [List.map_map] <;> rfl]
  refine da_nil ?_
  refine drc_sort2 _ (by rw [List.length_map]; omega) ?_
  exact qq
abbrev s__law_swung : Stmt := top 65
theorem sc__law_swung : FnScope ["_law_dot_here", "_law_many"] ["_law_dot_here", "_law_many"] (defScope s__law_swung) := ⟨rfl, rfl, rfl, by decide +kernel, rfl, by decide +kernel, by decide +kernel⟩
set_option maxHeartbeats 40000000 in
theorem ok__law_swung {f : Addr} {fd : FuncData} (F : Fun K "_law_swung" "_law_swung" s__law_swung f fd) (c_image : Cal P w K mg base 7 "image" ["turn", "pixel"] [] con_image) (n_int : mg "int" = none) : GOk P w K mg base 8 f fd ["_law_dot_here", "_law_many"] (spD K con_swg78) := by
  refine gok_ds F sc__law_swung (m := 0) rfl (fun ds S0 Q h => ?_) fun cdv A fr s0 H0 E0' gd hr ds S0 Q h => ?_
  · obtain ⟨_, _, _, rfl, _⟩ := h
    rfl
  obtain ⟨x, y, k, rfl, ⟨bx, by'⟩, qq⟩ := h
  refine ds_nrm ?_ (by set_option simprocs false in dsimp only [List.map, List.replicate, List.cons_append, List.nil_append])
  refine ds_cons ?_
  refine ds_ret ?_
  refine de_call c_image gd (hr.mono (by decide)) ?_
  refine da_cons ?_
  refine de_tup ?_
  refine da_cons ?_
  refine de_int ?_
  refine da_cons ?_
  refine de_int ?_
  refine da_cons ?_
  refine de_mod ?_
  refine de_T call_int1 n_int bt_int ?_
  refine da_cons ?_
  refine de_name 1 ?_
  refine da_nil ?_
  first | refine drc_int ?_ | refine drc_intb ?_
  refine de_int ?_
  refine ⟨_, _, rfl, rfl, (by walk_at "pos"), ?_⟩
  refine da_nil ?_
  refine ⟨by walk_at "len", ?_⟩
  refine da_cons ?_
  refine de_name 0 ?_
  refine da_nil ?_
  refine ⟨_, _, _, _, _, rfl, tn_quart k, ⟨bx, by'⟩, ?_⟩
  rw [(im_quart (k % 4) x y).1, (im_quart (k % 4) x y).2]
  exact qq
abbrev s__law_lines_right : Stmt := top 66
theorem sc__law_lines_right : FnScope ["_law_spin_here", "_law_sort", "_law_a", "_law_b", "_law_c", "_law_links", "_law_lines", "_law_again"] ["_law_spin_here", "_law_sort"] (defScope s__law_lines_right) := ⟨rfl, rfl, rfl, by decide +kernel, rfl, by decide +kernel, by decide +kernel⟩
set_option maxHeartbeats 40000000 in
theorem ok__law_lines_right {f : Addr} {fd : FuncData} (F : Fun K "_law_lines_right" "_law_lines_right" s__law_lines_right f fd) (c_back : Cal P w K mg base 5 "back" ["turn"] [] con_back) (c_chain_for : Cal P w K mg base 6 "chain_for" ["matrix"] [] con_cf78) (c_fewest_shears : Cal P w K mg base 5 "fewest_shears" ["matrix"] [] con_dueL) (c_is_chain : Cal P w K mg base 4 "is_chain" ["value"] [] con_ischain) (c_legs_of : Cal P w K mg base 5 "legs_of" ["turn"] [] con_legs_of) (c_matrix_of : Cal P w K mg base 5 "matrix_of" ["chain"] [] con_matof) (c_shear_chain : Cal P w K mg base 5 "shear_chain" ["turn", "order"] [] con_shcP) (c_shows_chain : Cal P w K mg base 6 "shows_chain" ["matrix", "value"] [] con_shows35) (n_int : mg "int" = none) (n_len : mg "len" = none) : GOk P w K mg base 7 f fd ["_law_spin_here", "_law_sort"] (spD K con_lr78) := by
  refine gok_ds F sc__law_lines_right (m := 6) rfl (fun ds S0 Q h => ?_) fun cdv A fr s0 H0 E0' gd hr ds S0 Q h => ?_
  · obtain ⟨_, _, _, _, rfl, _⟩ := h
    rfl
  obtain ⟨p, q, k, o, rfl, hT, qq⟩ := h
  have b1 := hT.bp
  have b2 := hT.bq
  have hbk := tn_bk2 hT
  refine ds_nrm ?_ (by set_option simprocs false in dsimp only [List.map, List.replicate, List.cons_append, List.nil_append])
  refine ds_cons ?_
  refine ds_asg (h := ?_)
  refine de_call c_legs_of gd (hr.mono (by decide)) ?_
  refine da_cons ?_
  refine de_tup ?_
  refine da_cons ?_
  refine de_ix (h := ?_)
  refine de_name 0 ?_
  refine de_int ?_
  walk_at "ix"
  refine da_cons ?_
  refine de_ix (h := ?_)
  refine de_name 0 ?_
  refine de_int ?_
  walk_at "ix"
  refine da_cons ?_
  refine de_int ?_
  refine da_nil ?_
  refine ⟨by walk_at "len", ?_⟩
  refine da_nil ?_
  refine ⟨_, _, _, rfl, Tn.zero hT, ?_⟩
  rw [(leg0 p q).1, (leg0 p q).2.1, (leg0 p q).2.2]
  first | refine dg_tup rfl rfl ?_ | refine dg_tupL rfl rfl ?_ (fun h => pg_lst rfl h)
  refine dgs_cons (h := ?_)
  refine dg_name 2 ?_ sc__law_lines_right.nd
  refine dgs_cons (h := ?_)
  refine dg_name 3 ?_ sc__law_lines_right.nd
  refine dgs_cons (h := ?_)
  refine dg_name 4 ?_ sc__law_lines_right.nd
  refine dgs_nil ?_
  refine ds_cons ?_
  refine ds_par (i := 5) (j := 6) rfl sc__law_lines_right.nd rfl rfl (by decide) ?_
  refine da_cons ?_
  refine de_call c_shear_chain gd (hr.mono (by decide)) ?_
  refine da_cons ?_
  refine de_name 0 ?_
  refine da_cons ?_
  refine de_name 1 ?_
  refine da_nil ?_
  first | refine ⟨_, _, _, _, rfl, by walk_at "tn", ?_⟩ | refine ⟨_, _, _, true, rfl, by walk_at "tn", ?_⟩ | refine ⟨_, _, _, false, rfl, by walk_at "tn", ?_⟩
  refine da_cons ?_
  refine de_tup ?_
  refine da_cons ?_
  refine de_name 2 ?_
  refine da_cons ?_
  refine de_neg ?_
  refine de_name 3 ?_
  refine ⟨_, rfl, ?_⟩
  refine da_cons ?_
  refine de_name 3 ?_
  refine da_cons ?_
  refine de_name 2 ?_
  refine da_cons ?_
  refine de_name 4 ?_
  refine da_nil ?_
  refine ⟨by walk_at "len", ?_⟩
  refine da_nil ?_
  refine ⟨_, _, rfl, ?_⟩
  refine ds_nrm ?_
  refine ds_cons ?_
  refine ds_if ?_
  refine dt_w ?_
  refine dw_or ?_
  refine dt_not ?_
  refine dt_val (h := ?_)
  refine de_call c_is_chain gd (hr.mono (by decide)) ?_
  refine da_cons ?_
  refine de_name 5 ?_
  refine da_nil ?_
  refine ⟨_, rfl, shC_ok hT o, ?_⟩
  refine ⟨_, rfl, ?_⟩
  refine ⟨fun hb => ?_, fun hb => ?_⟩
  · first | exact absurd hb (by simp) | exact (nb hb rfl).elim
  refine dw_or ?_
  refine dt_ne (hr.units) ?_
  refine de_call c_matrix_of gd (hr.mono (by decide)) ?_
  refine da_cons ?_
  refine de_name 5 ?_
  refine da_nil ?_
  refine ⟨_, rfl, shC_ok hT o, ?_⟩
  rw [mat_sh hT o]
  refine de_name 6 ?_
  refine eqP_same rfl rfl ?_
  refine ⟨fun hb => ?_, fun hb => ?_⟩
  · first | exact absurd hb (by simp) | exact (nb hb rfl).elim
  refine dw_or1 ?_
  refine dt_not ?_
  refine dt_val (h := ?_)
  refine de_call c_shows_chain gd (hr.mono (by decide)) ?_
  refine da_cons ?_
  refine de_name 6 ?_
  refine da_cons ?_
  refine de_name 5 ?_
  refine da_nil ?_
  refine ⟨matC (shC p q o), _, by rw [mat_sh hT o] <;> rfl, rfl, shC_ok hT o, ?_⟩
  refine ⟨_, rfl, ?_⟩
  refine ⟨fun ht => ?_, fun ht => ?_⟩
  · exact absurd ht (by simp)
  refine ds_nil ?_
  refine ds_cons ?_
  refine ds_if ?_
  refine dt_w ?_
  refine dw_or ?_
  refine dt_ne (hr.units) ?_
  refine de_call c_fewest_shears gd (hr.mono (by decide)) ?_
  refine da_cons ?_
  refine de_name 6 ?_
  refine da_nil ?_
  refine ⟨_, rfl, lg_is hT true, lg_bd78 hT, ?_⟩
  rw [due_lg hT]
  refine de_mul ?_
  refine de_int ?_
  refine de_T call_int1 n_int bt_int ?_
  refine da_cons ?_
  refine de_ne (hr.units) ?_
  refine de_ix (h := ?_)
  refine de_name 0 ?_
  refine de_int ?_
  walk_at "ix"
  refine de_int ?_
  refine eq_int ?_
  refine da_nil ?_
  first | refine drc_int ?_ | refine drc_intb ?_
  first | refine mul_i ?_ (by walk_at "cmw") | refine mul_l ?_ ⟨by decide, by decide, by first | decide | exact Nat.le_of_ble_eq_true rfl | walk_at "mlen"⟩
  refine eqP_same (congrArg D.int (by by_cases z : q = 0 <;> simp [z])) rfl ?_
  refine ⟨fun hb => ?_, fun hb => ?_⟩
  · first | exact absurd hb (by simp) | exact (nb hb rfl).elim
  refine dw_or1 ?_
  refine dt_ne (hr.units) ?_
  refine de_B call_len_seq n_len bt_len ?_
  refine da_cons ?_
  refine de_call c_chain_for gd (hr.mono (by decide)) ?_
  refine da_cons ?_
  refine de_name 6 ?_
  refine da_nil ?_
  refine ⟨p, q, k, rfl, hT, fun l7 hl7 => ?_⟩
  refine da_nil ?_
  refine drc_len ?_
  walk_at "lenP"
  refine de_call c_fewest_shears gd (hr.mono (by decide)) ?_
  refine da_cons ?_
  refine de_name 6 ?_
  refine da_nil ?_
  refine ⟨_, rfl, lg_is hT true, lg_bd78 hT, ?_⟩
  rw [due_lg hT]
  refine eqP_same (congrArg D.int (by rw [hl7]; split <;> rfl)) rfl ?_
  refine ⟨fun ht => ?_, fun ht => ?_⟩
  · exact (nb ht rfl).elim
  refine ds_nil ?_
  refine ds_cons ?_
  refine ds_asg (h := ?_)
  refine de_call c_shear_chain gd (hr.mono (by decide)) ?_
  refine da_cons ?_
  refine de_call c_back gd (hr.mono (by decide)) ?_
  refine da_cons ?_
  refine de_name 0 ?_
  refine da_nil ?_
  refine ⟨_, _, _, rfl, by walk_at "tn", ?_⟩
  refine da_cons ?_
  refine de_name 1 ?_
  refine da_nil ?_
  first | refine ⟨_, _, _, _, rfl, by walk_at "tn", ?_⟩ | refine ⟨_, _, _, true, rfl, by walk_at "tn", ?_⟩ | refine ⟨_, _, _, false, rfl, by walk_at "tn", ?_⟩
  refine dg_name 7 ?_ sc__law_lines_right.nd
  refine ds_cons ?_
  refine ds_if ?_
  refine dt_w ?_
  refine dw_or ?_
  refine dt_ne (hr.units) ?_
  refine de_call c_matrix_of gd (hr.mono (by decide)) ?_
  refine da_cons ?_
  refine de_add ?_
  refine de_name 5 ?_
  refine de_name 7 ?_
  first | refine add_int ?_ | refine add_lst ?_ (by walk_at "len") | refine add_tup ?_ (by walk_at "len3") | refine add_scr ?_ (by walk_at "len") | refine (show addP (.str _) (.str _) _ _ from ⟨by decide +kernel, ?_⟩)
  refine da_nil ?_
  refine ⟨shC p q o ++ shC p (-q) o, by rw [List.map_append], okc_two hT hbk o o, ?_⟩
  rw [mat_none hT o]
  refine de_tup ?_
  refine da_cons ?_
  refine de_int ?_
  refine da_cons ?_
  refine de_int ?_
  refine da_cons ?_
  refine de_int ?_
  refine da_cons ?_
  refine de_int ?_
  refine da_cons ?_
  refine de_int ?_
  refine da_nil ?_
  refine ⟨by walk_at "len", ?_⟩
  refine eqP_same rfl rfl ?_
  refine ⟨fun hb => ?_, fun hb => ?_⟩
  · first | exact absurd hb (by simp) | exact (nb hb rfl).elim
  refine dw_or1 ?_
  refine dt_ne (hr.units) ?_
  refine de_call c_matrix_of gd (hr.mono (by decide)) ?_
  refine da_cons ?_
  refine de_name 7 ?_
  refine da_nil ?_
  refine ⟨_, rfl, shC_ok hbk o, ?_⟩
  rw [mat_back hT o]
  refine de_tup ?_
  refine da_cons ?_
  refine de_name 2 ?_
  refine da_cons ?_
  refine de_name 3 ?_
  refine da_cons ?_
  refine de_neg ?_
  refine de_name 3 ?_
  refine ⟨_, rfl, ?_⟩
  refine da_cons ?_
  refine de_name 2 ?_
  refine da_cons ?_
  refine de_name 4 ?_
  refine da_nil ?_
  refine ⟨by walk_at "len", ?_⟩
  refine eqP_same (by unfold mLg mD; dsimp only; rw [Int.neg_neg]) rfl ?_
  refine ⟨fun ht => ?_, fun ht => ?_⟩
  · exact (nb ht rfl).elim
  refine ds_nil ?_
  refine ds_cons ?_
  refine ds_ret ?_
  refine de_eq (hr.units) ?_
  refine de_call c_matrix_of gd (hr.mono (by decide)) ?_
  refine da_cons ?_
  refine de_add ?_
  refine de_name 5 ?_
  refine de_name 5 ?_
  first | refine add_int ?_ | refine add_lst ?_ (by walk_at "len") | refine add_tup ?_ (by walk_at "len3") | refine add_scr ?_ (by walk_at "len") | refine (show addP (.str _) (.str _) _ _ from ⟨by decide +kernel, ?_⟩)
  refine da_nil ?_
  refine ⟨shC p q o ++ shC p q o, by rw [List.map_append], okc_two hT hT o o, ?_⟩
  rw [mat_twice hT o]
  refine de_tup ?_
  refine da_cons ?_
  refine de_sub ?_
  refine de_mul ?_
  refine de_name 2 ?_
  refine de_name 2 ?_
  first | refine mul_i ?_ (by walk_at "cmw") | refine mul_l ?_ ⟨by decide, by decide, by first | decide | exact Nat.le_of_ble_eq_true rfl | walk_at "mlen"⟩
  refine de_mul ?_
  refine de_name 3 ?_
  refine de_name 3 ?_
  first | refine mul_i ?_ (by walk_at "cmw") | refine mul_l ?_ ⟨by decide, by decide, by first | decide | exact Nat.le_of_ble_eq_true rfl | walk_at "mlen"⟩
  refine ⟨_, _, rfl, rfl, ?_⟩
  refine da_cons ?_
  refine de_mul ?_
  refine de_mul ?_
  refine de_neg ?_
  refine de_int ?_
  refine ⟨_, rfl, ?_⟩
  refine de_name 2 ?_
  first | refine mul_i ?_ (by walk_at "cmw") | refine mul_l ?_ ⟨by decide, by decide, by first | decide | exact Nat.le_of_ble_eq_true rfl | walk_at "mlen"⟩
  refine de_name 3 ?_
  first | refine mul_i ?_ (by walk_at "cmw") | refine mul_l ?_ ⟨by decide, by decide, by first | decide | exact Nat.le_of_ble_eq_true rfl | walk_at "mlen"⟩
  refine da_cons ?_
  refine de_mul ?_
  refine de_mul ?_
  refine de_int ?_
  refine de_name 2 ?_
  first | refine mul_i ?_ (by walk_at "cmw") | refine mul_l ?_ ⟨by decide, by decide, by first | decide | exact Nat.le_of_ble_eq_true rfl | walk_at "mlen"⟩
  refine de_name 3 ?_
  first | refine mul_i ?_ (by walk_at "cmw") | refine mul_l ?_ ⟨by decide, by decide, by first | decide | exact Nat.le_of_ble_eq_true rfl | walk_at "mlen"⟩
  refine da_cons ?_
  refine de_sub ?_
  refine de_mul ?_
  refine de_name 2 ?_
  refine de_name 2 ?_
  first | refine mul_i ?_ (by walk_at "cmw") | refine mul_l ?_ ⟨by decide, by decide, by first | decide | exact Nat.le_of_ble_eq_true rfl | walk_at "mlen"⟩
  refine de_mul ?_
  refine de_name 3 ?_
  refine de_name 3 ?_
  first | refine mul_i ?_ (by walk_at "cmw") | refine mul_l ?_ ⟨by decide, by decide, by first | decide | exact Nat.le_of_ble_eq_true rfl | walk_at "mlen"⟩
  refine ⟨_, _, rfl, rfl, ?_⟩
  refine da_cons ?_
  refine de_mul ?_
  refine de_name 4 ?_
  refine de_name 4 ?_
  first | refine mul_i ?_ (by walk_at "cmw") | refine mul_l ?_ ⟨by decide, by decide, by first | decide | exact Nat.le_of_ble_eq_true rfl | walk_at "mlen"⟩
  refine da_nil ?_
  refine ⟨by walk_at "len", ?_⟩
  refine eqP_same (by unfold mLg mD; dsimp only; congr 1; simp; grind) rfl ?_
  exact qq
abbrev s__law_dots_right : Stmt := top 67
theorem sc__law_dots_right : FnScope ["_law_spin_here", "_law_sort", "_law_dots_here", "_law_links", "_law_dot_here"] ["_law_spin_here", "_law_sort", "_law_dots_here"] (defScope s__law_dots_right) := ⟨rfl, rfl, rfl, by decide +kernel, rfl, by decide +kernel, by decide +kernel⟩
set_option maxHeartbeats 40000000 in
theorem ok__law_dots_right {f : Addr} {fd : FuncData} (F : Fun K "_law_dots_right" "_law_dots_right" s__law_dots_right f fd) (c__law_swung : Cal P w K mg base 8 "_law_swung" ["_law_dot_here", "_law_many"] [] con_swg78) (c_after_chain : Cal P w K mg base 5 "after_chain" ["chain", "pixel"] [] con_led) (c_before_chain : Cal P w K mg base 5 "before_chain" ["chain", "pixel"] [] con_before) (c_shear_chain : Cal P w K mg base 5 "shear_chain" ["turn", "order"] [] con_shcP) (c_sheared : Cal P w K mg base 6 "sheared" ["turn", "order", "pixel"] [] con_sheared) (c_unsheared : Cal P w K mg base 6 "unsheared" ["turn", "order", "pixel"] [] con_unsh) : GOk P w K mg base 9 f fd ["_law_spin_here", "_law_sort", "_law_dots_here"] (spD K con_dr78) := by
  refine gok_ds F sc__law_dots_right (m := 2) rfl (fun ds S0 Q h => ?_) fun cdv A fr s0 H0 E0' gd hr ds S0 Q h => ?_
  · obtain ⟨_, _, _, _, _, rfl, _⟩ := h
    rfl
  obtain ⟨p, q, k, o, dots, rfl, hT, hD, hl, qq⟩ := h
  have b1 := hT.bp
  have b2 := hT.bq
  have k1 := hT.k1
  have k2 := hT.k2
  have b3 := tn_b3 hT
  refine ds_nrm ?_ (by set_option simprocs false in dsimp only [List.map, List.replicate, List.cons_append, List.nil_append])
  refine ds_cons ?_
  refine ds_asg (h := ?_)
  refine de_call c_shear_chain gd (hr.mono (by decide)) ?_
  refine da_cons ?_
  refine de_name 0 ?_
  refine da_cons ?_
  refine de_name 1 ?_
  refine da_nil ?_
  first | refine ⟨_, _, _, _, rfl, by walk_at "tn", ?_⟩ | refine ⟨_, _, _, true, rfl, by walk_at "tn", ?_⟩ | refine ⟨_, _, _, false, rfl, by walk_at "tn", ?_⟩
  refine dg_name 3 ?_ sc__law_dots_right.nd
  refine ds_cons ?_
  refine ds_forG (γ := Unit) [4] PassesOwn.never rfl ?_
  refine di_lst ?_
  refine de_name 2 ?_
  refine ⟨_, rfl, ?_⟩
  refine ⟨fun _ => [], _, fun _ => (by dsimp only [putU, fgt, List.set]), fun i _ S' => S0 = S', (), by walk_at "wk", rfl, fun i1 d1 g1 S1 hi1 hP1 => ?_, fun g1 S1 hP1 => ?_⟩
  · subst hP1
    obtain ⟨x, y, rfl, bx, by'⟩ := hD d1 (List.mem_of_getElem? hi1)
    have bv := sh_bd hT o (by decide) (bx.up (show 160 ≤ 700 by decide)) (by'.up (by decide))
    have bv1 : Bd 1165 (ledN (shC p q o) (x, y)).1 := bv.1
    have bv2 : Bd 1165 (ledN (shC p q o) (x, y)).2 := bv.2
    have br1 := (Bd.rtX ((4 - k) % 4).toNat bx by').up (show _ ≤ 170 by decide)
    have br2 := (Bd.rtY ((4 - k) % 4).toNat bx by').up (show _ ≤ 170 by decide)
    refine dg_name 4 ?_ sc__law_dots_right.nd
    refine ds_cons ?_
    refine ds_if ?_
    refine dt_ne (hr.units) ?_
    refine de_call c_sheared gd (hr.mono (by decide)) ?_
    refine da_cons ?_
    refine de_name 0 ?_
    refine da_cons ?_
    refine de_name 1 ?_
    refine da_cons ?_
    refine de_name 4 ?_
    refine da_nil ?_
    first | refine ⟨_, _, _, _, _, _, rfl, by walk_at "tn", ⟨by walk_at "bdu", by walk_at "bdu"⟩, ?_⟩ | refine ⟨_, _, _, true, _, _, rfl, by walk_at "tn", ⟨by walk_at "bdu", by walk_at "bdu"⟩, ?_⟩ | refine ⟨_, _, _, false, _, _, rfl, by walk_at "tn", ⟨by walk_at "bdu", by walk_at "bdu"⟩, ?_⟩
    refine de_call c__law_swung gd (hr.mono (by decide)) ?_
    refine da_cons ?_
    refine de_call c_after_chain gd (hr.mono (by decide)) ?_
    refine da_cons ?_
    refine de_name 3 ?_
    refine da_cons ?_
    refine de_name 4 ?_
    refine da_nil ?_
    refine ⟨_, _, _, rfl, shC_ok hT _, ⟨by walk_at "bdu", by walk_at "bdu"⟩, ?_⟩
    refine da_cons ?_
    refine de_ix (h := ?_)
    refine de_name 0 ?_
    refine de_int ?_
    walk_at "ix"
    refine da_nil ?_
    refine ⟨_, _, _, rfl, ⟨by walk_at "bdu", by walk_at "bdu"⟩, ?_⟩
    refine eqP_same (by unfold shV rt2; rw [show (k % 4).toNat = k.toNat by omega]) rfl ?_
    refine ⟨fun ht => ?_, fun ht => ?_⟩
    · exact (nb ht rfl).elim
    refine ds_nil ?_
    refine ds_cons ?_
    refine ds_if ?_
    refine dt_ne (hr.units) ?_
    refine de_call c_unsheared gd (hr.mono (by decide)) ?_
    refine da_cons ?_
    refine de_name 0 ?_
    refine da_cons ?_
    refine de_name 1 ?_
    refine da_cons ?_
    refine de_name 4 ?_
    refine da_nil ?_
    first | refine ⟨_, _, _, _, _, _, rfl, by walk_at "tn", ⟨by walk_at "bdu", by walk_at "bdu"⟩, ?_⟩ | refine ⟨_, _, _, true, _, _, rfl, by walk_at "tn", ⟨by walk_at "bdu", by walk_at "bdu"⟩, ?_⟩ | refine ⟨_, _, _, false, _, _, rfl, by walk_at "tn", ⟨by walk_at "bdu", by walk_at "bdu"⟩, ?_⟩
    refine de_call c_before_chain gd (hr.mono (by decide)) ?_
    refine da_cons ?_
    refine de_name 3 ?_
    refine da_cons ?_
    refine de_call c__law_swung gd (hr.mono (by decide)) ?_
    refine da_cons ?_
    refine de_name 4 ?_
    refine da_cons ?_
    refine de_sub ?_
    refine de_int ?_
    refine de_ix (h := ?_)
    refine de_name 0 ?_
    refine de_int ?_
    walk_at "ix"
    refine ⟨_, _, rfl, rfl, ?_⟩
    refine da_nil ?_
    refine ⟨_, _, _, rfl, ⟨by walk_at "bdu", by walk_at "bdu"⟩, ?_⟩
    refine da_nil ?_
    refine ⟨_, _, _, rfl, shC_ok hT _, ⟨by walk_at "bdu", by walk_at "bdu"⟩, ?_⟩
    refine eqP_same (by unfold usV rt2; rw [show ((4 - k) % 4).toNat = (-k % 4).toNat by omega]) rfl ?_
    refine ⟨fun ht => ?_, fun ht => ?_⟩
    · exact (nb ht rfl).elim
    refine ds_nil ?_
    refine ds_nil ?_
    exact ⟨(), by walk_at "wk", rfl⟩
  subst hP1
  refine ds_cons ?_
  refine ds_ret ?_
  refine de_bl ?_
  exact qq
abbrev s__law_parted_right : Stmt := top 68
theorem sc__law_parted_right : FnScope ["_law_spin_here", "_law_far", "_law_links", "_law_sort", "_law_found", "_law_x", "_law_y", "_law_is_parted"] ["_law_spin_here", "_law_far"] (defScope s__law_parted_right) := ⟨rfl, rfl, rfl, by decide +kernel, rfl, by decide +kernel, by decide +kernel⟩
set_option maxHeartbeats 40000000 in
theorem ok__law_parted_right {f : Addr} {fd : FuncData} (F : Fun K "_law_parted_right" "_law_parted_right" s__law_parted_right f fd) (c_first_parting : Cal P w K mg base 5 "first_parting" ["chain", "second", "reach"] [] con_part) (c_shear_chain : Cal P w K mg base 5 "shear_chain" ["turn", "order"] [] con_shcP) (c_sheared : Cal P w K mg base 6 "sheared" ["turn", "order", "pixel"] [] con_sheared) (n_range : mg "range" = none) : GOk P w K mg base 7 f fd ["_law_spin_here", "_law_far"] (spD K con_pr78) := by
  refine gok_ds F sc__law_parted_right (m := 6) rfl (fun ds S0 Q h => ?_) fun cdv A fr s0 H0 E0' gd hr ds S0 Q h => ?_
  · obtain ⟨_, _, _, _, rfl, _⟩ := h
    rfl
  obtain ⟨p, q, k, r, rfl, hT, ⟨hr0, hr1⟩, qq⟩ := h
  have b1 := hT.bp
  have b2 := hT.bq
  have br : Bd 3 r := by unfold Bd; omega
  have hgn : (r + 1 - -r).toNat = gN r := by unfold gN; omega
  refine ds_nrm ?_ (by set_option simprocs false in dsimp only [List.map, List.replicate, List.cons_append, List.nil_append])
  refine ds_cons ?_
  refine ds_setLc 2 3 rfl sc__law_parted_right.nd rfl rfl (sw_true rfl rfl rfl (by decide +kernel)) (blkOk_by (N := ["_law_spin_here", "_law_far", "_law_links", "_law_sort", "_law_found", "_law_x", "_law_y", "_law_is_parted"]) (sc := defScope s__law_parted_right) (by decide +kernel)) ?_ (fun _ _ _ _ _ => pg_name sc__law_parted_right.nd rfl (Or.inl rfl))
  refine di_tup ?_
  refine de_tup ?_
  refine da_cons ?_
  refine de_str ?_
  refine da_cons ?_
  refine de_str ?_
  refine da_nil ?_
  refine ⟨by walk_at "len", ?_⟩
  refine ⟨_, rfl, ?_⟩
  refine ⟨fun i9 acc S' => S0 = S' ∧ acc = (([true, false] : List Bool).map fun o => D.lst ((shC p q o).map stD)).take i9, ⟨rfl, rfl⟩, fun k9 d acc S' p9 hk hP hp hl9 s5 H5 C5 cl5 fp5 => ?_, by decide, fun acc S' hl9 hP => ?_⟩
  · obtain ⟨rfl, rfl⟩ := hP
    obtain ⟨o9, rfl, ho9⟩ := srt78 hk
    refine de_call c_shear_chain gd (hr.mono (by decide)) ?_
    refine da_cons ?_
    refine de_name 0 ?_
    refine da_cons ?_
    refine de_name 3 ?_
    refine da_nil ?_
    refine ⟨_, _, _, o9, rfl, hT, ?_⟩
    exact ⟨_, rfl, rfl, by rw [take_step (fun o : Bool => D.lst ((shC p q o).map stD)) ho9] <;> rfl⟩
  obtain ⟨rfl, rfl⟩ := hP
  refine ds_nrm ?_
  rw [show List.take [D.str "xyx", D.str "yxy"].length (([true, false] : List Bool).map fun o => D.lst ((shC p q o).map stD)) = [D.lst ((shC p q true).map stD), D.lst ((shC p q false).map stD)] from rfl]
  refine ds_cons ?_
  refine ds_asg (h := ?_)
  refine de_call c_first_parting gd (hr.mono (by decide)) ?_
  refine da_cons ?_
  refine de_ix (h := ?_)
  refine de_name 2 ?_
  refine de_int ?_
  walk_at "ix"
  refine da_cons ?_
  refine de_ix (h := ?_)
  refine de_name 2 ?_
  refine de_int ?_
  walk_at "ix"
  refine da_cons ?_
  refine de_name 1 ?_
  refine da_nil ?_
  refine ⟨shC p q true, shC p q false, r, rfl, shC_ok hT true, shC_ok hT false, ⟨by omega, by omega⟩, ?_⟩
  obtain ⟨op, hop⟩ : ∃ op, op = partO (shC p q true) (shC p q false) r := ⟨_, rfl⟩
  rw [← hop]
  have hft : FT (partG (shC p q true) (shC p q false) r) (gN r) (gN r) 0 op := by rw [hop]; exact ft_find _ _
  refine dg_name 4 ?_ sc__law_parted_right.nd
  refine ds_cons ?_
  refine ds_forG (γ := Unit) [5, 6, 7] PassesOwn.never rfl ?_
  refine di_rng2 n_range ?_
  refine da_cons ?_
  refine de_neg ?_
  refine de_name 1 ?_
  refine ⟨_, rfl, ?_⟩
  refine da_cons ?_
  refine de_add ?_
  refine de_name 1 ?_
  refine de_int ?_
  first | refine add_int ?_ | refine add_lst ?_ (by walk_at "len") | refine add_tup ?_ (by walk_at "len3") | refine add_scr ?_ (by walk_at "len") | refine (show addP (.str _) (.str _) _ _ from ⟨by decide +kernel, ?_⟩)
  refine da_nil ?_
  refine ⟨_, _, rfl, (by walk_at "rng"), ?_⟩
  refine ⟨fun _ => [], _, fun _ => (by dsimp only [putU, fgt, List.set]), fun i _ S' => S0 = S', (), by walk_at "wk", rfl, fun i1 d1 g1 S1 hi1 hP1 => ?_, fun g1 S1 hP1 => ?_⟩
  · subst hP1
    obtain ⟨hlt1, rfl⟩ := rngD_get hi1
    rw [hgn] at hlt1
    have bx1 : Bd 10 (-r + (i1 : Int)) := by unfold gN at hlt1; unfold Bd; omega
    refine dg_name 5 ?_ sc__law_parted_right.nd
    refine ds_cons ?_
    refine ds_forG (γ := Unit) [6, 7] PassesOwn.never rfl ?_
    refine di_rng2 n_range ?_
    refine da_cons ?_
    refine de_neg ?_
    refine de_name 1 ?_
    refine ⟨_, rfl, ?_⟩
    refine da_cons ?_
    refine de_add ?_
    refine de_name 1 ?_
    refine de_int ?_
    first | refine add_int ?_ | refine add_lst ?_ (by walk_at "len") | refine add_tup ?_ (by walk_at "len3") | refine add_scr ?_ (by walk_at "len") | refine (show addP (.str _) (.str _) _ _ from ⟨by decide +kernel, ?_⟩)
    refine da_nil ?_
    refine ⟨_, _, rfl, (by walk_at "rng"), ?_⟩
    refine ⟨fun _ => [], _, fun _ => (by dsimp only [putU, fgt, List.set]), fun i _ S' => S0 = S', (), by walk_at "wk", rfl, fun i2 d2 g2 S2 hi2 hP2 => ?_, fun g2 S2 hP2 => ?_⟩
    · subst hP2
      obtain ⟨hlt2, rfl⟩ := rngD_get hi2
      rw [hgn] at hlt2
      have by2 : Bd 10 (-r + (i2 : Int)) := by unfold gN at hlt2; unfold Bd; omega
      refine dg_name 6 ?_ sc__law_parted_right.nd
      refine ds_cons ?_
      refine ds_asg (h := ?_)
      refine de_ne (hr.units) ?_
      refine de_call c_sheared gd (hr.mono (by decide)) ?_
      refine da_cons ?_
      refine de_name 0 ?_
      refine da_cons ?_
      refine de_str ?_
      refine da_cons ?_
      refine de_tup ?_
      refine da_cons ?_
      refine de_name 5 ?_
      refine da_cons ?_
      refine de_name 6 ?_
      refine da_nil ?_
      refine ⟨by walk_at "len", ?_⟩
      refine da_nil ?_
      first | refine ⟨_, _, _, true, _, _, rfl, hT, ⟨bx1.up (by decide), by2.up (by decide)⟩, ?_⟩ | refine ⟨_, _, _, false, _, _, rfl, hT, ⟨bx1.up (by decide), by2.up (by decide)⟩, ?_⟩
      refine de_call c_sheared gd (hr.mono (by decide)) ?_
      refine da_cons ?_
      refine de_name 0 ?_
      refine da_cons ?_
      refine de_str ?_
      refine da_cons ?_
      refine de_tup ?_
      refine da_cons ?_
      refine de_name 5 ?_
      refine da_cons ?_
      refine de_name 6 ?_
      refine da_nil ?_
      refine ⟨by walk_at "len", ?_⟩
      refine da_nil ?_
      first | refine ⟨_, _, _, true, _, _, rfl, hT, ⟨bx1.up (by decide), by2.up (by decide)⟩, ?_⟩ | refine ⟨_, _, _, false, _, _, rfl, hT, ⟨bx1.up (by decide), by2.up (by decide)⟩, ?_⟩
      refine eq_t2 fun v2 hv2 => ?_
      have hg := par78 hv2
      refine dg_name 7 ?_ sc__law_parted_right.nd
      refine ds_cons ?_
      refine ds_if ?_
      refine DT.mono (Q := fun b S' => S0 = S' ∧ b = false) ?_ ?_
      · refine dt_w ?_
        refine dw_or ?_
        refine DT.mono (Q := fun b S' => S0 = S' ∧ b = false) ?_ ?_
        · refine dt_w ?_
          refine dw_and ?_
          refine dt_val (h := ?_)
          refine de_name 7 ?_
          refine ⟨_, rfl, ?_⟩
          refine ⟨fun hb => ?_, fun hb => ?_⟩
          · exact ⟨rfl, rfl⟩
          obtain ⟨a0, b0, hop2, hle⟩ := ft_at hft hlt1 hlt2 (hg.symm.trans hb)
          refine dw_and1 ?_
          refine DT.mono (Q := fun b S' => S0 = S' ∧ b = false) ?_ ?_
          · refine dt_w ?_
            refine dw_or ?_
            refine dt_isN ?_
            refine de_name 4 ?_
            refine ⟨_, optP_non _ _, ?_⟩
            refine ⟨fun hb => ?_, fun hb => ?_⟩
            · rw [hop2] at hb; cases hb
            rw [hop2]
            refine dw_or1 ?_
            refine dt_gt2 (hu65 hr) ?_
            refine de_name 4 ?_
            refine de_tup ?_
            refine da_cons ?_
            refine de_name 5 ?_
            refine da_cons ?_
            refine de_name 6 ?_
            refine da_nil ?_
            refine ⟨by walk_at "len", ?_⟩
            refine ⟨_, _, _, _, rfl, rfl, ?_⟩
            exact ⟨rfl, by first | rfl | exact lt_no hle⟩
          rintro _ _ ⟨rfl, rfl⟩
          exact ⟨rfl, rfl⟩
        rintro _ _ ⟨rfl, rfl⟩
        refine ⟨fun hb => ?_, fun hb => ?_⟩
        · cases hb
        refine dw_or1 ?_
        refine DT.mono (Q := fun b S' => S0 = S' ∧ b = false) ?_ ?_
        · refine dt_w ?_
          refine dw_and ?_
          refine dt_eq (hr.units) ?_
          refine de_name 4 ?_
          refine de_tup ?_
          refine da_cons ?_
          refine de_name 5 ?_
          refine da_cons ?_
          refine de_name 6 ?_
          refine da_nil ?_
          refine ⟨by walk_at "len", ?_⟩
          refine eq_opt fun v3 hv3 => ?_
          refine ⟨fun hb => ?_, fun hb => ?_⟩
          · exact ⟨rfl, rfl⟩
          have hz := hv3.mp hb
          have hg2 := hg.trans (ft_eq (hz ▸ hft))
          refine dw_and1 ?_
          refine dt_not ?_
          refine dt_val (h := ?_)
          refine de_name 7 ?_
          refine ⟨_, rfl, ?_⟩
          exact ⟨rfl, by rw [hg2] <;> rfl⟩
        rintro _ _ ⟨rfl, rfl⟩
        exact ⟨rfl, rfl⟩
      rintro _ _ ⟨rfl, rfl⟩
      refine ⟨fun ht => ?_, fun ht => ?_⟩
      · cases ht
      refine ds_nil ?_
      refine ds_nil ?_
      exact ⟨(), by walk_at "wk", rfl⟩
    subst hP2
    refine ds_nil ?_
    exact ⟨(), by walk_at "wk", rfl⟩
  subst hP1
  refine ds_cons ?_
  refine ds_ret ?_
  refine de_bl ?_
  exact qq
abbrev s__law_dots : Stmt := top 64
theorem sc__law_dots : FnScope ["_law_source_here", "_law_many", "_law_wide", "_law_found", "_law_k", "_law_dot_here", "_law_spot"] ["_law_source_here", "_law_many", "_law_wide"] (defScope s__law_dots) := ⟨rfl, rfl, rfl, by decide +kernel, rfl, by decide +kernel, by decide +kernel⟩
set_option maxHeartbeats 40000000 in
theorem ok__law_dots {f : Addr} {fd : FuncData} (F : Fun K "_law_dots" "_law_dots" s__law_dots f fd) (c__law_dot : Cal P w K mg base 2 "_law_dot" ["_law_source_here", "_law_wide"] [] con_dot) (c__law_draw : Cal P w K mg base 1 "_law_draw" ["_law_source_here", "_law_count"] [] con_draw) (n_len : mg "len" = none) (n_range : mg "range" = none) (n_set : mg "set" = none) (n_sorted : mg "sorted" = none) : GOk P w K mg base 3 f fd ["_law_source_here", "_law_many", "_law_wide"] (spD K con_dots78) := by
  refine gok_ds F sc__law_dots (m := 4) rfl (fun ds S0 Q h => ?_) fun cdv A fr s0 H0 E0' gd hr ds S0 Q h => ?_
  · obtain ⟨_, _, _, rfl, _⟩ := h
    rfl
  obtain ⟨pp, l, m, rfl, rfl, hS, hm, qq⟩ := h
  refine ds_nrm ?_ (by set_option simprocs false in dsimp only [List.map, List.replicate, List.cons_append, List.nil_append])
  refine ds_cons ?_
  refine ds_asg (h := ?_)
  refine de_lstO ?_
  refine da_nil ?_
  refine ⟨by walk_at "len", fun p1 hp1 => ?_⟩
  refine dg_name 3 ?_ sc__law_dots.nd
  have hne : p1 ≠ pp := fun z => by rw [z, getS_hd] at hp1; cases hp1
  refine ds_cons ?_
  refine ds_forG (γ := Unit) [4, 5, 6] PassesOwn.never rfl ?_
  refine di_rng1 n_range ?_
  refine da_cons ?_
  refine de_call c__law_draw gd (hr.mono (by decide)) ?_
  refine da_cons ?_
  refine de_name 0 ?_
  refine da_cons ?_
  refine de_add ?_
  refine de_name 1 ?_
  refine de_int ?_
  first | refine add_int ?_ | refine add_lst ?_ (by walk_at "len") | refine add_tup ?_ (by walk_at "len3") | refine add_scr ?_ (by walk_at "len") | refine (show addP (.str _) (.str _) _ _ from ⟨by decide +kernel, ?_⟩)
  refine da_nil ?_
  refine ⟨_, _, _, _, rfl, (by walk_at "gets"), (by assumption), (by walk_at "m"), (by walk_at "pos"), (by walk_at "bdu"), fun r2 l2 hr2 hn2 hs2 => ?_⟩
  walk_at "sets2"
  refine da_nil ?_
  refine ⟨_, rfl, (by walk_at "rng"), ?_⟩
  refine ⟨fun _ => [], _, fun _ => (by dsimp only [putU, fgt, List.set]), fun i _ S' => ∃ (ps : List (Int × Int)) (l' : List D), S' = (p1, ps.map pr2) :: [(pp, l')] ∧ ps.length = i ∧ (∀ v ∈ ps, BdP (5 + i) v) ∧ Src (m + 2 + 8 * i) l', (), by walk_at "wk", ⟨[], _, rfl, rfl, (fun _ h => nomatch h), (by assumption : Src _ _).up (by omega)⟩, fun i1 d1 g1 S1 hi1 hP1 => ?_, fun g1 S1 hP1 => ?_⟩
  · obtain ⟨ps, l', rfl, hl, hx, hS'⟩ := hP1
    obtain ⟨hi2, rfl⟩ := rngD_get hi1
    have hi3 : i1 < 9 := by omega
    have hlm : (ps.map pr2).length = ps.length := List.length_map ..
    have bln : Bd 5 ((ps.map pr2).length : Int) := by unfold Bd; omega
    refine dg_name 4 ?_ sc__law_dots.nd
    refine ds_cons ?_
    refine ds_asg (h := ?_)
    refine de_call c__law_dot gd (hr.mono (by decide)) ?_
    refine da_cons ?_
    refine de_name 0 ?_
    refine da_cons ?_
    refine de_name 2 ?_
    refine da_nil ?_
    refine ⟨_, _, _, _, rfl, (by walk_at "gets"), (by assumption), (by walk_at "m"), (by walk_at "pos"), (by walk_at "bdu"), fun x3 y3 l3 hx3 hy3 hs3 => ?_⟩
    have bx3 := Bd.of_abs hx3.1 hx3.2 (by walk_at "bd")
    have by3 := Bd.of_abs hy3.1 hy3.2 (by walk_at "bd")
    walk_at "sets2"
    refine dg_name 5 ?_ sc__law_dots.nd
    refine ds_cons ?_
    refine ds_join (γ := Int × Int) (fun v => [some (.raw (.ref pp)), some (.int 9), some (.int 5), some (.raw (.ref p1)), some (.int (0 + (i1 : Int))), some (pr2 v), none]) (fun v S' => ∃ l8, S' = (p1, ps.map pr2) :: [(pp, l8)] ∧ Src (m + 2 + 8 * i1 + 8) l8 ∧ BdP (5 + (i1 + 1)) v) ?_ ?_
    · refine ds_if ?_
      refine DT.mono (Q := fun b S' => ∃ l9, S' = (p1, ps.map pr2) :: [(pp, l9)] ∧ Src (m + 2 + 8 * i1 + 3) l9 ∧ (b = true → 0 < ps.length)) ?_ ?_
      · refine dt_w ?_
        refine dw_and ?_
        refine dt_lend 3 (by walk_at "nos") ?_
        refine dt_ne (hr.units) ?_
        refine de_name 3 ?_
        refine de_lst ?_
        refine da_nil ?_
        refine ⟨by walk_at "len", ?_⟩
        refine eq_nil (flat_pr2 _) ?_
        refine ⟨rfl, ?_⟩
        refine ⟨fun hb => ?_, fun hb => ?_⟩
        · exact ⟨_, rfl, (by assumption : Src _ _).up (by omega), fun z => nomatch z⟩
        have hpos : 0 < ps.length := by cases ps with | nil => cases hb | cons => exact Nat.succ_pos _
        refine dw_and1 ?_
        refine dt_gt ?_
        refine de_call c__law_draw gd (hr.mono (by decide)) ?_
        refine da_cons ?_
        refine de_name 0 ?_
        refine da_cons ?_
        refine de_int ?_
        refine da_nil ?_
        refine ⟨_, _, _, _, rfl, (by walk_at "gets"), (by assumption), (by walk_at "m"), (by walk_at "pos"), (by walk_at "bdu"), fun r4 l4 hr4 hn4 hs4 => ?_⟩
        walk_at "sets2"
        refine de_int ?_
        refine ⟨_, _, rfl, rfl, ?_⟩
        exact ⟨_, rfl, (by assumption : Src _ _).up (by omega), fun _ => hpos⟩
      rintro b _ ⟨l9, rfl, hs9, hb9⟩
      refine ⟨fun ht => ?_, fun ht => ?_⟩
      · have hpos := hb9 ht
        refine ds_cons ?_
        refine ds_asg (h := ?_)
        refine de_ix (h := ?_)
        refine de_name 3 ?_
        refine de_call c__law_draw gd (hr.mono (by decide)) ?_
        refine da_cons ?_
        refine de_name 0 ?_
        refine da_cons ?_
        refine de_B call_len_seq n_len bt_len ?_
        refine da_cons ?_
        refine de_name 3 ?_
        refine da_nil ?_
        refine drc_len ?_
        walk_at "lenP"
        refine Exists.intro _ ⟨getS_hd, ?_⟩
        refine da_nil ?_
        refine ⟨_, _, _, _, rfl, (by walk_at "gets"), (by assumption), (by walk_at "m"), (by walk_at "pos"), (by walk_at "bdu"), fun r5 l5 hr5 hn5 hs5 => ?_⟩
        walk_at "sets2"
        refine ix_pickO (fun d => ∃ v : Int × Int, d = pr2 v ∧ BdP (5 + i1) v) getS_hd (fun d hd => by obtain ⟨v, hv, rfl⟩ := List.mem_map.mp hd; exact ⟨v, rfl, hx v hv⟩) (by assumption) (by omega) ?_
        rintro _ ⟨⟨x5, y5⟩, rfl, bx5, by5⟩
        unfold pr2
        have bx5 : Bd (5 + i1) x5 := bx5
        have by5 : Bd (5 + i1) y5 := by5
        refine dg_name 6 ?_ sc__law_dots.nd
        refine ds_cons ?_
        refine ds_asg (h := ?_)
        refine de_tup ?_
        refine da_cons ?_
        refine de_add ?_
        refine de_ix (h := ?_)
        refine de_name 6 ?_
        refine de_int ?_
        walk_at "ix"
        refine de_call c__law_draw gd (hr.mono (by decide)) ?_
        refine da_cons ?_
        refine de_name 0 ?_
        refine da_cons ?_
        refine de_int ?_
        refine da_nil ?_
        refine ⟨_, _, _, _, rfl, (by walk_at "gets"), (by assumption), (by walk_at "m"), (by walk_at "pos"), (by walk_at "bdu"), fun r6 l6 hr6 hn6 hs6 => ?_⟩
        walk_at "sets2"
        first | refine add_int ?_ | refine add_lst ?_ (by walk_at "len") | refine add_tup ?_ (by walk_at "len3") | refine add_scr ?_ (by walk_at "len") | refine (show addP (.str _) (.str _) _ _ from ⟨by decide +kernel, ?_⟩)
        refine da_cons ?_
        refine de_add ?_
        refine de_ix (h := ?_)
        refine de_name 6 ?_
        refine de_int ?_
        walk_at "ix"
        refine de_call c__law_draw gd (hr.mono (by decide)) ?_
        refine da_cons ?_
        refine de_name 0 ?_
        refine da_cons ?_
        refine de_int ?_
        refine da_nil ?_
        refine ⟨_, _, _, _, rfl, (by walk_at "gets"), (by assumption), (by walk_at "m"), (by walk_at "pos"), (by walk_at "bdu"), fun r7 l7 hr7 hn7 hs7 => ?_⟩
        walk_at "sets2"
        first | refine add_int ?_ | refine add_lst ?_ (by walk_at "len") | refine add_tup ?_ (by walk_at "len3") | refine add_scr ?_ (by walk_at "len") | refine (show addP (.str _) (.str _) _ _ from ⟨by decide +kernel, ?_⟩)
        refine da_nil ?_
        refine ⟨by walk_at "len", ?_⟩
        refine dg_name 5 ?_ sc__law_dots.nd
        refine ds_nil ?_
        exact ⟨(_, _), by walk_at "wk", _, rfl, (by assumption : Src _ _).up (by omega), bd_inc bx5 (by assumption) (by assumption), bd_inc by5 (by assumption) (by assumption)⟩
      refine ds_nil ?_
      exact ⟨(_, _), by walk_at "wk", _, rfl, (by assumption : Src _ _).up (by omega), (by refine Bd.up (a := (Int.natAbs 5).log2 + 1) (by assumption) ?_; have q5 : (Int.natAbs 5).log2 + 1 = 3 := (by decide +kernel); omega), (by refine Bd.up (a := (Int.natAbs 5).log2 + 1) (by assumption) ?_; have q5 : (Int.natAbs 5).log2 + 1 = 3 := (by decide +kernel); omega)⟩
    rintro v9 _ ⟨l8, rfl, hs8, hbv⟩
    refine ds_cons ?_
    refine ds_expr (h := ?_)
    refine de_append ?_
    refine de_name 3 ?_
    refine ⟨_, _, rfl, (by walk_at "gets"), ?_⟩
    refine da_cons ?_
    refine de_name 5 ?_
    refine da_nil ?_
    refine ⟨_, _, rfl, (by walk_at "gets"), (by walk_at "len"), ?_⟩
    walk_at "sets"
    refine ds_nil ?_
    exact ⟨(), by walk_at "wk", ps ++ [v9], l8, by rw [List.map_append] <;> rfl, by rw [List.length_append, hl] <;> rfl, fun v z => (List.mem_append.mp z).elim (fun w => ⟨(hx v w).1.up (by omega), (hx v w).2.up (by omega)⟩) (fun w => by rw [List.mem_singleton.mp w]; exact hbv), hs8.up (by omega)⟩
  obtain ⟨ps, l', rfl, hl, hx, hS'⟩ := hP1
  rw [rngD_len] at hl hx hS'
  refine ds_freeze 3 rfl (ds_nrm ?_) rfl
  refine ds_cons ?_
  refine ds_ret ?_
  refine de_sortSet rfl (hu65 hr) n_sorted n_set ?_
  refine de_name 3 ?_
  refine ⟨ps, rfl, by omega, fun os hso hle hin => ?_⟩
  exact qq os _ (sortP_of hso) (by omega) (fun v hv => ⟨(hx v (hin v hv)).1.up (by omega), (hx v (hin v hv)).2.up (by omega)⟩) (hS'.up (by omega))
abbrev s_law : Stmt := top 69
theorem sc_law : FnScope ["_law_script", "_law_k", "_law_cell", "_law_source_here", "_law_wide", "_law_spin_here", "_law_sort", "_law_dots_here", "_law_far", "_law_some", "_law_dot_here"] ["_law_script"] (defScope s_law) := ⟨rfl, rfl, rfl, by decide +kernel, rfl, by decide +kernel, by decide +kernel⟩
set_option maxHeartbeats 40000000 in
theorem ok_law {f : Addr} {fd : FuncData} (F : Fun K "law" "law" s_law f fd) (c__law_dot : Cal P w K mg base 2 "_law_dot" ["_law_source_here", "_law_wide"] [] con_dot) (c__law_dots : Cal P w K mg base 3 "_law_dots" ["_law_source_here", "_law_many", "_law_wide"] [] con_dots78) (c__law_dots_right : Cal P w K mg base 9 "_law_dots_right" ["_law_spin_here", "_law_sort", "_law_dots_here"] [] con_dr78) (c__law_draw : Cal P w K mg base 1 "_law_draw" ["_law_source_here", "_law_count"] [] con_draw) (c__law_lines_right : Cal P w K mg base 7 "_law_lines_right" ["_law_spin_here", "_law_sort"] [] con_lr78) (c__law_parted_right : Cal P w K mg base 7 "_law_parted_right" ["_law_spin_here", "_law_far"] [] con_pr78) (c__law_source : Cal P w K mg base 1 "_law_source" ["_law_entry", "_law_k"] [] con_source) (c__law_spin : Cal P w K mg base 2 "_law_spin" ["_law_source_here", "_law_most"] [] con_spin) (c_fewest_shears : Cal P w K mg base 5 "fewest_shears" ["matrix"] [] con_dueL) (c_matrix_of : Cal P w K mg base 5 "matrix_of" ["chain"] [] con_matof) (c_shear_chain : Cal P w K mg base 5 "shear_chain" ["turn", "order"] [] con_shcP) (c_sheared : Cal P w K mg base 6 "sheared" ["turn", "order", "pixel"] [] con_sheared) (c_sheared_picture : Cal P w K mg base 6 "sheared_picture" ["turn", "order", "pixels"] [] con_shp78) (n_enumerate : mg "enumerate" = none) (n_int : mg "int" = none) (n_len : mg "len" = none) (n_max : mg "max" = none) (n_min : mg "min" = none) (n_sorted : mg "sorted" = none) : GOk P w K mg base 10 f fd ["_law_script"] (spD K (conLaw 63)) := by
  refine gok_ds F sc_law (m := 10) rfl (fun ds S0 Q h => ?_) fun cdv A fr s0 H0 E0' gd hr ds S0 Q h => ?_
  · obtain ⟨_, _, rfl, _⟩ := h
    rfl
  obtain ⟨ns, hns, rfl, rfl, qq⟩ := h
  refine ds_nrm ?_ (by set_option simprocs false in dsimp only [List.map, List.replicate, List.cons_append, List.nil_append])
  refine ds_cons ?_
  refine ds_forG (γ := Unit) [1, 2, 3, 4, 5, 6, 7, 9] PassesOwn.never rfl ?_
  refine di_enum n_enumerate ?_
  refine da_cons ?_
  refine de_slice ?_
  refine de_add ?_
  refine de_name 0 ?_
  refine de_lst ?_
  refine da_cons ?_
  refine de_int ?_
  refine da_nil ?_
  refine ⟨by walk_at "len", ?_⟩
  first | refine add_int ?_ | refine add_lst ?_ (by walk_at "len") | refine add_tup ?_ (by walk_at "len3") | refine add_scr ?_ (by walk_at "len") | refine (show addP (.str _) (.str _) _ _ from ⟨by decide +kernel, ?_⟩)
  refine do_none ?_
  refine do_some ?_
  refine de_B (call_max2 rfl) n_max bt_max ?_
  refine da_cons ?_
  refine de_int ?_
  refine da_cons ?_
  refine de_B (call_min2 rfl) n_min bt_min ?_
  refine da_cons ?_
  refine de_B call_len_seq n_len bt_len ?_
  refine da_cons ?_
  refine de_name 0 ?_
  refine da_nil ?_
  refine drc_len ?_
  walk_at "lenP"
  refine da_cons ?_
  refine de_int ?_
  refine da_nil ?_
  refine drc_min ?_
  refine da_nil ?_
  refine drc_max ?_
  refine ⟨rfl, _, rfl, ?_⟩
  walk_at "slice"
  refine da_nil ?_
  refine ⟨_, rfl, ?_⟩
  refine ⟨fun _ => [], _, fun _ => (by dsimp only [putU, fgt, List.set]), fun i _ S' => [] = S', (), by walk_at "wk", rfl, fun i1 d1 g1 S1 hi1 hP1 => ?_, fun g1 S1 hP1 => ?_⟩
  · subst hP1
    obtain ⟨hi64, e, rfl⟩ := scr_turn (by refine ⟨?_, ?_⟩ <;> split <;> (try split) <;> omega) hi1
    first | refine dg_tup rfl rfl ?_ | refine dg_tupL rfl rfl ?_ (fun h => pg_lst rfl h)
    refine dgs_cons (h := ?_)
    refine dg_name 1 ?_ sc_law.nd
    refine dgs_cons (h := ?_)
    refine dg_name 2 ?_ sc_law.nd
    refine dgs_nil ?_
    refine ds_cons ?_
    refine ds_asg (h := ?_)
    refine de_call c__law_source gd (hr.mono (by decide)) ?_
    refine da_cons ?_
    refine de_name 2 ?_
    refine da_cons ?_
    refine de_name 1 ?_
    refine da_nil ?_
    refine ⟨_, _, rfl, (by walk_at "rng"), fun p1 l1 hp1 hs1 => ?_⟩
    refine dg_name 3 ?_ sc_law.nd
    refine ds_cons ?_
    refine ds_forG (γ := Unit) [4, 5, 6, 7, 9] PassesOwn.never rfl ?_
    refine di_tup ?_
    refine de_tup ?_
    refine da_cons ?_
    refine de_int ?_
    refine da_cons ?_
    refine de_int ?_
    refine da_cons ?_
    refine de_pow ?_
    refine de_int ?_
    refine de_int ?_
    refine ⟨_, _, rfl, rfl, (by walk_at "cpw"), ?_⟩
    refine da_nil ?_
    refine ⟨by walk_at "len", ?_⟩
    refine ⟨_, rfl, ?_⟩
    have hall2 : ∀ d ∈ [D.int 9, D.int 1000, D.int (10 ^ (Int.toNat 15))], (fun d => ∃ m : Int, d = .int m ∧ 1 ≤ m ∧ m ≤ 1000000000000000) d := (fa_cons ⟨_, rfl, by decide +kernel, by decide +kernel⟩ (fa_cons ⟨_, rfl, by decide +kernel, by decide +kernel⟩ (fa_cons ⟨_, rfl, by decide +kernel, by decide +kernel⟩ fa_nil)))
    refine ⟨fun _ => [], _, fun _ => (by dsimp only [putU, fgt, List.set]), fun i _ S' => ∃ l, [(p1, l)] = S' ∧ Src (1000 * i) l, (), by walk_at "wk", ⟨l1, rfl, hs1⟩, fun i2 d2 g2 S2 hi2 hP2 => ?_, fun g2 S2 hP2 => ?_⟩
    · obtain ⟨l0, rfl, hs0⟩ := hP2
      obtain ⟨mq, rfl, hmq0, hmq1⟩ := hall2 d2 (List.mem_of_getElem? hi2)
      have hi6 : i2 < 3 := (List.getElem?_eq_some_iff.mp hi2).1
      refine dg_name 4 ?_ sc_law.nd
      refine ds_cons ?_
      refine ds_asg (h := ?_)
      refine de_tup ?_
      refine da_cons ?_
      refine de_call c__law_spin gd (hr.mono (by decide)) ?_
      refine da_cons ?_
      refine de_name 3 ?_
      refine da_cons ?_
      refine de_name 4 ?_
      refine da_nil ?_
      refine ⟨_, _, _, _, rfl, (by walk_at "gets"), (by assumption), (by walk_at "m"), (by walk_at "pos"), (by walk_at "pos"), fun p2 q2 k2 l2 ht2 hm2 hs2 => ?_⟩
      have bp2 := ht2.bp
      have bq2 := ht2.bq
      have bk2 := tn_b3 ht2
      walk_at "sets2"
      refine da_cons ?_
      refine de_ix (h := ?_)
      refine de_lst ?_
      refine da_cons ?_
      refine de_str ?_
      refine da_cons ?_
      refine de_str ?_
      refine da_nil ?_
      refine ⟨by walk_at "len", ?_⟩
      refine de_call c__law_draw gd (hr.mono (by decide)) ?_
      refine da_cons ?_
      refine de_name 3 ?_
      refine da_cons ?_
      refine de_int ?_
      refine da_nil ?_
      refine ⟨_, _, _, _, rfl, (by walk_at "gets"), (by assumption), (by walk_at "m"), (by walk_at "pos"), (by walk_at "bdu"), fun r3 l3 hr3 hn3 hs3 => ?_⟩
      walk_at "sets2"
      refine ix_pick (fun d => ∃ o : Bool, d = .str (od o)) (fa_cons ⟨true, rfl⟩ (fa_cons ⟨false, rfl⟩ fa_nil)) (by omega) (by show _ < (2 : Int); omega) ?_
      rintro _ ⟨o9, rfl⟩
      refine da_nil ?_
      refine ⟨by walk_at "len", ?_⟩
      first | refine dg_tup rfl rfl ?_ | refine dg_tupL rfl rfl ?_ (fun h => pg_lst rfl h)
      refine dgs_cons (h := ?_)
      refine dg_name 5 ?_ sc_law.nd
      refine dgs_cons (h := ?_)
      refine dg_name 6 ?_ sc_law.nd
      refine dgs_nil ?_
      refine ds_cons ?_
      refine ds_setLc 7 8 rfl sc_law.nd rfl rfl (sw_true rfl rfl rfl (by decide +kernel)) (blkOk_by (N := ["_law_script", "_law_k", "_law_cell", "_law_source_here", "_law_wide", "_law_spin_here", "_law_sort", "_law_dots_here", "_law_far", "_law_some", "_law_dot_here"]) (sc := defScope s_law) (by decide +kernel)) ?_ (fun _ _ _ _ _ => pg_name sc_law.nd rfl (Or.inl rfl))
      refine di_tup ?_
      refine de_tup ?_
      refine da_cons ?_
      refine de_int ?_
      refine da_cons ?_
      refine de_int ?_
      refine da_cons ?_
      refine de_pow ?_
      refine de_int ?_
      refine de_int ?_
      refine ⟨_, _, rfl, rfl, (by walk_at "cpw"), ?_⟩
      refine da_nil ?_
      refine ⟨by walk_at "len", ?_⟩
      refine ⟨_, rfl, ?_⟩
      refine ⟨fun i9 acc S' => (∃ l, [(p1, l)] = S' ∧ Src (1000 * i2 + 500 + 2 * i9) l) ∧ ∀ d ∈ acc, DotB 160 d, ⟨⟨_, rfl, (by assumption : Src _ _).up (by omega)⟩, fun _ h => (nomatch h)⟩, fun k9 d acc S' p9 hk hP hp hl s H C cl fp => ?_, by simp, fun acc S' hl hP => ?_⟩
      · obtain ⟨⟨l8, rfl, hs8⟩, hA⟩ := hP
        have hne : p9 ≠ p1 := fun z => by rw [z, getS_hd] at hp; cases hp
        obtain ⟨mw, rfl, hmw0, bmw⟩ := ((fa_cons ⟨_, rfl, by decide +kernel, by unfold Bd; decide +kernel⟩ (fa_cons ⟨_, rfl, by decide +kernel, by unfold Bd; decide +kernel⟩ (fa_cons ⟨_, rfl, by decide +kernel, by unfold Bd; decide +kernel⟩ fa_nil))) : ∀ d ∈ [D.int 2, D.int 30, D.int (10 ^ (Int.toNat 40))], (fun d => ∃ m : Int, d = .int m ∧ 0 ≤ m ∧ Bd 150 m) d) d (List.mem_of_getElem? hk)
        have hk3 : k9 < 3 := (List.getElem?_eq_some_iff.mp hk).1
        refine de_call c__law_dot gd (hr.mono (by decide)) ?_
        refine da_cons ?_
        refine de_name 3 ?_
        refine da_cons ?_
        refine de_name 8 ?_
        refine da_nil ?_
        refine ⟨_, _, _, _, rfl, (by walk_at "gets"), (by assumption), (by walk_at "m"), (by walk_at "pos"), (by walk_at "bdu"), fun x4 y4 l4 hx4 hy4 hs4 => ?_⟩
        have bx4 := Bd.of_abs hx4.1 hx4.2 (by walk_at "bd")
        have by4 := Bd.of_abs hy4.1 hy4.2 (by walk_at "bd")
        walk_at "sets2"
        exact ⟨_, rfl, ⟨_, rfl, (by assumption : Src (_ + 2) _).up (by omega)⟩, fa_app hA (fa_cons (dot_mk (by assumption) (by assumption) (by decide +kernel)) fa_nil)⟩
      obtain ⟨⟨l7, rfl, hs7⟩, hA⟩ := hP
      have hs7 : Src (1000 * i2 + 500 + 2 * 3) l7 := hs7
      have hl3 : acc.length ≤ 3 := hl
      refine ds_nrm ?_
      refine ds_cons ?_
      refine ds_if ?_
      refine dt_w ?_
      refine dw_or ?_
      refine dt_not ?_
      refine dt_val (h := ?_)
      refine de_call c__law_lines_right gd (hr.mono (by decide)) ?_
      refine da_cons ?_
      refine de_name 5 ?_
      refine da_cons ?_
      refine de_name 6 ?_
      refine da_nil ?_
      refine ⟨_, _, _, o9, rfl, by walk_at "tn", ?_⟩
      refine ⟨_, rfl, ?_⟩
      refine ⟨fun hb => ?_, fun hb => ?_⟩
      · first | cases hb | exact (nb hb rfl).elim
      refine dw_or1 ?_
      refine dt_not ?_
      refine dt_val (h := ?_)
      refine de_call c__law_dots_right gd (hr.mono (by decide)) ?_
      refine da_cons ?_
      refine de_name 5 ?_
      refine da_cons ?_
      refine de_name 6 ?_
      refine da_cons ?_
      refine de_name 7 ?_
      refine da_nil ?_
      refine ⟨_, _, _, o9, _, rfl, by walk_at "tn", hA, (by omega), ?_⟩
      refine ⟨_, rfl, ?_⟩
      refine ⟨fun ht => ?_, fun ht => ?_⟩
      · first | cases ht | exact (nb ht rfl).elim
      refine ds_nil ?_
      refine ds_cons ?_
      refine ds_if ?_
      refine dt_not ?_
      refine dt_val (h := ?_)
      refine de_call c__law_parted_right gd (hr.mono (by decide)) ?_
      refine da_cons ?_
      refine de_name 5 ?_
      refine da_cons ?_
      refine de_ix (h := ?_)
      refine de_lst ?_
      refine da_cons ?_
      refine de_int ?_
      refine da_cons ?_
      refine de_int ?_
      refine da_nil ?_
      refine ⟨by walk_at "len", ?_⟩
      refine de_T call_int1 n_int bt_int ?_
      refine da_cons ?_
      refine DE.mono (Q := fun d S' => [(p1, l7)] = S' ∧ ∃ b : Bool, d = .bl b) ?_ ?_
      · refine de_and ?_
        refine de_eq (hr.units) ?_
        refine de_name 1 ?_
        refine de_int ?_
        walk_at "eq"
        refine ⟨_, rfl, fun hb => ?_, fun hb => ?_⟩
        · exact ⟨rfl, _, rfl⟩
        refine de_one ?_
        refine de_ne (hr.units) ?_
        refine de_name 0 ?_
        refine de_lst ?_
        refine da_nil ?_
        refine ⟨by walk_at "len", ?_⟩
        walk_at "eq"
        exact ⟨rfl, _, rfl⟩
      rintro _ _ ⟨rfl, b8, rfl⟩
      refine da_nil ?_
      first | refine drc_int ?_ | refine drc_intb ?_
      refine ix_pick (fun d => ∃ m : Int, d = .int m ∧ 0 ≤ m ∧ m ≤ 4) (fa_cons ⟨_, rfl, by decide, by decide⟩ (fa_cons ⟨_, rfl, by decide, by decide⟩ fa_nil)) (by split <;> decide) (by split <;> decide) ?_
      rintro _ ⟨mr, rfl, hmr0, hmr1⟩
      refine da_nil ?_
      refine ⟨_, _, _, _, rfl, by walk_at "tn", ⟨by first | decide | omega | (split <;> decide), by first | decide | omega | (split <;> decide)⟩, ?_⟩
      refine ⟨_, rfl, ?_⟩
      refine ⟨fun ht => ?_, fun ht => ?_⟩
      · first | cases ht | exact (nb ht rfl).elim
      refine ds_nil ?_
      refine ds_cons ?_
      refine ds_asg (h := ?_)
      refine de_call c__law_dots gd (hr.mono (by decide)) ?_
      refine da_cons ?_
      refine de_name 3 ?_
      refine da_cons ?_
      refine de_int ?_
      refine da_cons ?_
      refine de_int ?_
      refine da_nil ?_
      refine ⟨_, _, _, rfl, rfl, (by assumption), (by walk_at "m"), fun os8 l8 hso8 hln8 hbd8 hs8 => ?_⟩
      refine dg_name 9 ?_ sc_law.nd
      refine ds_cons ?_
      refine ds_if ?_
      refine dt_ne (hr.units) ?_
      refine de_call c_sheared_picture gd (hr.mono (by decide)) ?_
      refine da_cons ?_
      refine de_name 5 ?_
      refine da_cons ?_
      refine de_name 6 ?_
      refine da_cons ?_
      refine de_name 9 ?_
      refine da_nil ?_
      refine ⟨_, _, _, o9, os8, rfl, (by walk_at "tn"), hso8, (by omega), (fun v hv => ⟨(hbd8 v hv).1.up (by decide), (hbd8 v hv).2.up (by decide)⟩), ?_⟩
      refine de_B (cr_sortD (hu65 hr)) n_sorted bt_sorted ?_
      refine da_cons ?_
      refine de_lc 10 rfl sc_law.nd (blkOk_by (N := ["_law_script", "_law_k", "_law_cell", "_law_source_here", "_law_wide", "_law_spin_here", "_law_sort", "_law_dots_here", "_law_far", "_law_some", "_law_dot_here"]) (sc := defScope s_law) (by decide +kernel)) ?_ (fun _ _ _ _ _ => pg_name sc_law.nd rfl (Or.inl rfl))
      refine di_lst ?_
      refine de_name 9 ?_
      refine ⟨_, rfl, ?_⟩
      refine ⟨fun i9 acc S' => [(p1, l8)] = S' ∧ acc = (os8.map fun v => pr2 (shV p2 q2 k2 o9 v.1 v.2)).take i9, ⟨rfl, rfl⟩, fun k9 d acc S' p9 hk hP hp hl9 s5 H5 C5 cl5 fp5 => ?_, by rw [List.length_map]; omega, fun acc S' hl9 hP => ?_⟩
      · obtain ⟨rfl, rfl⟩ := hP
        obtain ⟨⟨x9, y9⟩, ht9, rfl⟩ := pr_at hk
        obtain ⟨bx9, by9⟩ := hbd8 _ (List.mem_of_getElem? ht9)
        have bx9 : Bd 60 x9 := bx9
        have by9 : Bd 60 y9 := by9
        refine de_call c_sheared gd (hr.mono (by decide)) ?_
        refine da_cons ?_
        refine de_name 5 ?_
        refine da_cons ?_
        refine de_name 6 ?_
        refine da_cons ?_
        refine de_name 10 ?_
        refine da_nil ?_
        refine ⟨_, _, _, o9, _, _, rfl, (by walk_at "tn"), ⟨bx9.up (by decide), by9.up (by decide)⟩, ?_⟩
        exact ⟨_, rfl, rfl, by rw [take_step (fun v : Int × Int => pr2 (shV p2 q2 k2 o9 v.1 v.2)) ht9] <;> rfl⟩
      obtain ⟨rfl, rfl⟩ := hP
      rw [List.length_map, List.take_of_length_le (by rw [List.length_map]; exact Nat.le_refl _), show (os8.map fun v => pr2 (shV p2 q2 k2 o9 v.1 v.2)) = (os8.map fun v => shV p2 q2 k2 o9 v.1 v.2).map pr2 by rw [List.map_map] <;> rfl]
      refine da_nil ?_
      refine drc_sort2 _ (by rw [List.length_map]; omega) ?_
      refine eqP_same rfl (flat9l (flat_pr2 _)) ?_
      refine ⟨fun ht => ?_, fun ht => ?_⟩
      · exact (nb ht rfl).elim
      refine ds_nil ?_
      refine ds_nil ?_
      exact ⟨(), by walk_at "wk", _, rfl, (by assumption : Src (_ + 100) _).up (by omega)⟩
    obtain ⟨l6, rfl, hs6⟩ := hP2
    have hs6 : Src (1000 * 3) l6 := hs6
    refine ds_forget ?_ rfl
    refine ds_nil ?_
    exact ⟨(), by walk_at "wk", rfl⟩
  subst hP1
  refine ds_cons ?_
  refine ds_ret ?_
  refine DE.mono (Q := fun d S' => ([] : Sto) = S' ∧ d = .bl true) ?_ ?_
  · refine de_and ?_
    refine de_eq (hr.units) ?_
    refine de_call c_matrix_of gd (hr.mono (by decide)) ?_
    refine da_cons ?_
    refine de_call c_shear_chain gd (hr.mono (by decide)) ?_
    refine da_cons ?_
    refine de_tup ?_
    refine da_cons ?_
    refine de_int ?_
    refine da_cons ?_
    refine de_int ?_
    refine da_cons ?_
    refine de_int ?_
    refine da_nil ?_
    refine ⟨by walk_at "len", ?_⟩
    refine da_cons ?_
    refine de_str ?_
    refine da_nil ?_
    refine ⟨_, _, _, false, rfl, tn_213, ?_⟩
    refine da_nil ?_
    refine ⟨shC 2 1 false, rfl, shC_ok tn_213 false, ?_⟩
    rw [mat_sh tn_213 false]
    refine de_tup ?_
    refine da_cons ?_
    refine de_int ?_
    refine da_cons ?_
    refine de_neg ?_
    refine de_int ?_
    refine ⟨_, rfl, ?_⟩
    refine da_cons ?_
    refine de_int ?_
    refine da_cons ?_
    refine de_int ?_
    refine da_cons ?_
    refine de_int ?_
    refine da_nil ?_
    refine ⟨by walk_at "len", ?_⟩
    refine eqP_same rfl rfl ?_
    refine ⟨_, rfl, fun hb => ?_, fun hb => ?_⟩
    · cases hb
    refine de_one ?_
    refine de_eq (hr.units) ?_
    refine de_call c_fewest_shears gd (hr.mono (by decide)) ?_
    refine da_cons ?_
    refine de_tup ?_
    refine da_cons ?_
    refine de_int ?_
    refine da_cons ?_
    refine de_int ?_
    refine da_cons ?_
    refine de_int ?_
    refine da_cons ?_
    refine de_int ?_
    refine da_cons ?_
    refine de_int ?_
    refine da_nil ?_
    refine ⟨by walk_at "len", ?_⟩
    refine da_nil ?_
    refine ⟨(1, 0, 0, 1, 1), rfl, idM_is, idM_bd78, ?_⟩
    rw [due_id]
    refine de_int ?_
    refine eqP_same rfl rfl ?_
    exact ⟨rfl, rfl⟩
  rintro _ _ ⟨rfl, rfl⟩
  exact qq
end
theorem all_mk {l : PySem.W.OpenLaw} {w : World} {K : PySem.W.Frag} {h : Heap} {mg : Str → Option Value} {fa f0 f1 f2 f3 f4 f5 f6 f7 f8 f9 f10 f11 f12 f13 f14 f15 f16 f17 f18 f19 f20 f21 f22 f23 f24 f25 f26 f27 f28 f29 f30 f31 f32 f33 f34 f35 f36 f37 f38 f39 f40 f41 f42 f43 f44 f45 f46 f47 f48 : Addr} (X : K.In h) (G : h.Ns mainGlobals mg) (hfa : mg "law" = some (.ref fa))
    {od0 an0 od1 an1 od2 an2 od3 an3 od4 an4 od5 an5 od6 an6 od7 an7 od8 an8 od9 an9 od10 an10 od11 an11 od12 an12 od13 an13 od14 an14 od15 an15 od16 an16 od17 an17 od18 an18 od19 an19 od20 an20 od21 an21 od22 an22 od23 an23 od24 an24 od25 an25 od26 an26 od27 an27 od28 an28 od29 an29 od30 an30 od31 an31 od32 an32 od33 an33 od34 an34 od35 an35 od36 an36 od37 an37 od38 an38 od39 an39 od40 an40 od41 an41 od42 an42 od43 an43 od44 an44 od45 an45 od46 an46 od47 an47 od48 an48 : Option Addr} {sl0 sl1 sl2 sl3 sl4 sl5 sl6 sl7 sl8 sl9 sl10 sl11 sl12 sl13 sl14 sl15 sl16 sl17 sl18 sl19 sl20 sl21 sl22 sl23 sl24 sl25 sl26 sl27 sl28 sl29 sl30 sl31 sl32 sl33 sl34 sl35 sl36 sl37 sl38 sl39 sl40 sl41 sl42 sl43 sl44 sl45 sl46 sl47 sl48 : Array (Option Value)} {oc0 kV0 dc0 pm0 cd0 ct0 oc1 kV1 dc1 pm1 cd1 ct1 oc2 kV2 dc2 pm2 cd2 ct2 oc3 kV3 dc3 pm3 cd3 ct3 oc4 kV4 dc4 pm4 cd4 ct4 oc5 kV5 dc5 pm5 cd5 ct5 oc6 kV6 dc6 pm6 cd6 ct6 oc7 kV7 dc7 pm7 cd7 ct7 oc8 kV8 dc8 pm8 cd8 ct8 oc9 kV9 dc9 pm9 cd9 ct9 oc10 kV10 dc10 pm10 cd10 ct10 oc11 kV11 dc11 pm11 cd11 ct11 oc12 kV12 dc12 pm12 cd12 ct12 oc13 kV13 dc13 pm13 cd13 ct13 oc14 kV14 dc14 pm14 cd14 ct14 oc15 kV15 dc15 pm15 cd15 ct15 oc16 kV16 dc16 pm16 cd16 ct16 oc17 kV17 dc17 pm17 cd17 ct17 oc18 kV18 dc18 pm18 cd18 ct18 oc19 kV19 dc19 pm19 cd19 ct19 oc20 kV20 dc20 pm20 cd20 ct20 oc21 kV21 dc21 pm21 cd21 ct21 oc22 kV22 dc22 pm22 cd22 ct22 oc23 kV23 dc23 pm23 cd23 ct23 oc24 kV24 dc24 pm24 cd24 ct24 oc25 kV25 dc25 pm25 cd25 ct25 oc26 kV26 dc26 pm26 cd26 ct26 oc27 kV27 dc27 pm27 cd27 ct27 oc28 kV28 dc28 pm28 cd28 ct28 oc29 kV29 dc29 pm29 cd29 ct29 oc30 kV30 dc30 pm30 cd30 ct30 oc31 kV31 dc31 pm31 cd31 ct31 oc32 kV32 dc32 pm32 cd32 ct32 oc33 kV33 dc33 pm33 cd33 ct33 oc34 kV34 dc34 pm34 cd34 ct34 oc35 kV35 dc35 pm35 cd35 ct35 oc36 kV36 dc36 pm36 cd36 ct36 oc37 kV37 dc37 pm37 cd37 ct37 oc38 kV38 dc38 pm38 cd38 ct38 oc39 kV39 dc39 pm39 cd39 ct39 oc40 kV40 dc40 pm40 cd40 ct40 oc41 kV41 dc41 pm41 cd41 ct41 oc42 kV42 dc42 pm42 cd42 ct42 oc43 kV43 dc43 pm43 cd43 ct43 oc44 kV44 dc44 pm44 cd44 ct44 oc45 kV45 dc45 pm45 cd45 ct45 oc46 kV46 dc46 pm46 cd46 ct46 oc47 kV47 dc47 pm47 cd47 ct47 oc48 kV48 dc48 pm48 cd48 ct48 : Value}
    (a0 : PySem.W.nsIn K mainGlobals "is_whole" = some (some (.ref f0))) (l0 : K.lookup f0 = some ⟨oc0, od0, .func (PySem.W.fnOf "is_whole" "is_whole" (defArgs s_is_whole) (defBody s_is_whole) (defScope s_is_whole) .none kV0 dc0 pm0 an0 cd0 ct0), sl0⟩) (c0 : PySem.W.codeIn K cd0 "is_whole" = true) (k0 : PySem.W.keepIn K (.ref f0) = true)
    (a1 : PySem.W.nsIn K mainGlobals "is_whole_tuple" = some (some (.ref f1))) (l1 : K.lookup f1 = some ⟨oc1, od1, .func (PySem.W.fnOf "is_whole_tuple" "is_whole_tuple" (defArgs s_is_whole_tuple) (defBody s_is_whole_tuple) (defScope s_is_whole_tuple) .none kV1 dc1 pm1 an1 cd1 ct1), sl1⟩) (c1 : PySem.W.codeIn K cd1 "is_whole_tuple" = true) (k1 : PySem.W.keepIn K (.ref f1) = true)
    (a2 : PySem.W.nsIn K mainGlobals "nearest" = some (some (.ref f2))) (l2 : K.lookup f2 = some ⟨oc2, od2, .func (PySem.W.fnOf "nearest" "nearest" (defArgs s_nearest) (defBody s_nearest) (defScope s_nearest) .none kV2 dc2 pm2 an2 cd2 ct2), sl2⟩) (c2 : PySem.W.codeIn K cd2 "nearest" = true) (k2 : PySem.W.keepIn K (.ref f2) = true)
    (a3 : PySem.W.nsIn K mainGlobals "times" = some (some (.ref f3))) (l3 : K.lookup f3 = some ⟨oc3, od3, .func (PySem.W.fnOf "times" "times" (defArgs s_times) (defBody s_times) (defScope s_times) .none kV3 dc3 pm3 an3 cd3 ct3), sl3⟩) (c3 : PySem.W.codeIn K cd3 "times" = true) (k3 : PySem.W.keepIn K (.ref f3) = true)
    (a4 : PySem.W.nsIn K mainGlobals "is_pixel" = some (some (.ref f4))) (l4 : K.lookup f4 = some ⟨oc4, od4, .func (PySem.W.fnOf "is_pixel" "is_pixel" (defArgs s_is_pixel) (defBody s_is_pixel) (defScope s_is_pixel) .none kV4 dc4 pm4 an4 cd4 ct4), sl4⟩) (c4 : PySem.W.codeIn K cd4 "is_pixel" = true) (k4 : PySem.W.keepIn K (.ref f4) = true)
    (a5 : PySem.W.nsIn K mainGlobals "is_turn" = some (some (.ref f5))) (l5 : K.lookup f5 = some ⟨oc5, od5, .func (PySem.W.fnOf "is_turn" "is_turn" (defArgs s_is_turn) (defBody s_is_turn) (defScope s_is_turn) .none kV5 dc5 pm5 an5 cd5 ct5), sl5⟩) (c5 : PySem.W.codeIn K cd5 "is_turn" = true) (k5 : PySem.W.keepIn K (.ref f5) = true)
    (a6 : PySem.W.nsIn K mainGlobals "check_pixel" = some (some (.ref f6))) (l6 : K.lookup f6 = some ⟨oc6, od6, .func (PySem.W.fnOf "check_pixel" "check_pixel" (defArgs s_check_pixel) (defBody s_check_pixel) (defScope s_check_pixel) .none kV6 dc6 pm6 an6 cd6 ct6), sl6⟩) (c6 : PySem.W.codeIn K cd6 "check_pixel" = true) (k6 : PySem.W.keepIn K (.ref f6) = true)
    (a7 : PySem.W.nsIn K mainGlobals "check_turn" = some (some (.ref f7))) (l7 : K.lookup f7 = some ⟨oc7, od7, .func (PySem.W.fnOf "check_turn" "check_turn" (defArgs s_check_turn) (defBody s_check_turn) (defScope s_check_turn) .none kV7 dc7 pm7 an7 cd7 ct7), sl7⟩) (c7 : PySem.W.codeIn K cd7 "check_turn" = true) (k7 : PySem.W.keepIn K (.ref f7) = true)
    (a8 : PySem.W.nsIn K mainGlobals "legs_of" = some (some (.ref f8))) (l8 : K.lookup f8 = some ⟨oc8, od8, .func (PySem.W.fnOf "legs_of" "legs_of" (defArgs s_legs_of) (defBody s_legs_of) (defScope s_legs_of) .none kV8 dc8 pm8 an8 cd8 ct8), sl8⟩) (c8 : PySem.W.codeIn K cd8 "legs_of" = true) (k8 : PySem.W.keepIn K (.ref f8) = true)
    (a9 : PySem.W.nsIn K mainGlobals "exact_place" = some (some (.ref f9))) (l9 : K.lookup f9 = some ⟨oc9, od9, .func (PySem.W.fnOf "exact_place" "exact_place" (defArgs s_exact_place) (defBody s_exact_place) (defScope s_exact_place) .none kV9 dc9 pm9 an9 cd9 ct9), sl9⟩) (c9 : PySem.W.codeIn K cd9 "exact_place" = true) (k9 : PySem.W.keepIn K (.ref f9) = true)
    (a10 : PySem.W.nsIn K mainGlobals "image" = some (some (.ref f10))) (l10 : K.lookup f10 = some ⟨oc10, od10, .func (PySem.W.fnOf "image" "image" (defArgs s_image) (defBody s_image) (defScope s_image) .none kV10 dc10 pm10 an10 cd10 ct10), sl10⟩) (c10 : PySem.W.codeIn K cd10 "image" = true) (k10 : PySem.W.keepIn K (.ref f10) = true)
    (a11 : PySem.W.nsIn K mainGlobals "back" = some (some (.ref f11))) (l11 : K.lookup f11 = some ⟨oc11, od11, .func (PySem.W.fnOf "back" "back" (defArgs s_back) (defBody s_back) (defScope s_back) .none kV11 dc11 pm11 an11 cd11 ct11), sl11⟩) (c11 : PySem.W.codeIn K cd11 "back" = true) (k11 : PySem.W.keepIn K (.ref f11) = true)
    (a12 : PySem.W.nsIn K mainGlobals "_law_source" = some (some (.ref f12))) (l12 : K.lookup f12 = some ⟨oc12, od12, .func (PySem.W.fnOf "_law_source" "_law_source" (defArgs s__law_source) (defBody s__law_source) (defScope s__law_source) .none kV12 dc12 pm12 an12 cd12 ct12), sl12⟩) (c12 : PySem.W.codeIn K cd12 "_law_source" = true) (k12 : PySem.W.keepIn K (.ref f12) = true)
    (a13 : PySem.W.nsIn K mainGlobals "_law_draw" = some (some (.ref f13))) (l13 : K.lookup f13 = some ⟨oc13, od13, .func (PySem.W.fnOf "_law_draw" "_law_draw" (defArgs s__law_draw) (defBody s__law_draw) (defScope s__law_draw) .none kV13 dc13 pm13 an13 cd13 ct13), sl13⟩) (c13 : PySem.W.codeIn K cd13 "_law_draw" = true) (k13 : PySem.W.keepIn K (.ref f13) = true)
    (a14 : PySem.W.nsIn K mainGlobals "_law_common" = some (some (.ref f14))) (l14 : K.lookup f14 = some ⟨oc14, od14, .func (PySem.W.fnOf "_law_common" "_law_common" (defArgs s__law_common) (defBody s__law_common) (defScope s__law_common) .none kV14 dc14 pm14 an14 cd14 ct14), sl14⟩) (c14 : PySem.W.codeIn K cd14 "_law_common" = true) (k14 : PySem.W.keepIn K (.ref f14) = true)
    (a15 : PySem.W.nsIn K mainGlobals "_law_spin" = some (some (.ref f15))) (l15 : K.lookup f15 = some ⟨oc15, od15, .func (PySem.W.fnOf "_law_spin" "_law_spin" (defArgs s__law_spin) (defBody s__law_spin) (defScope s__law_spin) .none kV15 dc15 pm15 an15 cd15 ct15), sl15⟩) (c15 : PySem.W.codeIn K cd15 "_law_spin" = true) (k15 : PySem.W.keepIn K (.ref f15) = true)
    (a16 : PySem.W.nsIn K mainGlobals "_law_dot" = some (some (.ref f16))) (l16 : K.lookup f16 = some ⟨oc16, od16, .func (PySem.W.fnOf "_law_dot" "_law_dot" (defArgs s__law_dot) (defBody s__law_dot) (defScope s__law_dot) .none kV16 dc16 pm16 an16 cd16 ct16), sl16⟩) (c16 : PySem.W.codeIn K cd16 "_law_dot" = true) (k16 : PySem.W.keepIn K (.ref f16) = true)
    (a17 : PySem.W.nsIn K mainGlobals "lowest" = some (some (.ref f17))) (l17 : K.lookup f17 = some ⟨oc17, od17, .func (PySem.W.fnOf "lowest" "lowest" (defArgs s_lowest) (defBody s_lowest) (defScope s_lowest) .none kV17 dc17 pm17 an17 cd17 ct17), sl17⟩) (c17 : PySem.W.codeIn K cd17 "lowest" = true) (k17 : PySem.W.keepIn K (.ref f17) = true)
    (a18 : PySem.W.nsIn K mainGlobals "_step" = some (some (.ref f18))) (l18 : K.lookup f18 = some ⟨oc18, od18, .func (PySem.W.fnOf "_step" "_step" (defArgs s__step) (defBody s__step) (defScope s__step) .none kV18 dc18 pm18 an18 cd18 ct18), sl18⟩) (c18 : PySem.W.codeIn K cd18 "_step" = true) (k18 : PySem.W.keepIn K (.ref f18) = true)
    (a19 : PySem.W.nsIn K mainGlobals "_is_step" = some (some (.ref f19))) (l19 : K.lookup f19 = some ⟨oc19, od19, .func (PySem.W.fnOf "_is_step" "_is_step" (defArgs s__is_step) (defBody s__is_step) (defScope s__is_step) .none kV19 dc19 pm19 an19 cd19 ct19), sl19⟩) (c19 : PySem.W.codeIn K cd19 "_is_step" = true) (k19 : PySem.W.keepIn K (.ref f19) = true)
    (a20 : PySem.W.nsIn K mainGlobals "check_chain" = some (some (.ref f20))) (l20 : K.lookup f20 = some ⟨oc20, od20, .func (PySem.W.fnOf "check_chain" "check_chain" (defArgs s_check_chain) (defBody s_check_chain) (defScope s_check_chain) .none kV20 dc20 pm20 an20 cd20 ct20), sl20⟩) (c20 : PySem.W.codeIn K cd20 "check_chain" = true) (k20 : PySem.W.keepIn K (.ref f20) = true)
    (a21 : PySem.W.nsIn K mainGlobals "along" = some (some (.ref f21))) (l21 : K.lookup f21 = some ⟨oc21, od21, .func (PySem.W.fnOf "along" "along" (defArgs s_along) (defBody s_along) (defScope s_along) .none kV21 dc21 pm21 an21 cd21 ct21), sl21⟩) (c21 : PySem.W.codeIn K cd21 "along" = true) (k21 : PySem.W.keepIn K (.ref f21) = true)
    (a22 : PySem.W.nsIn K mainGlobals "after_chain" = some (some (.ref f22))) (l22 : K.lookup f22 = some ⟨oc22, od22, .func (PySem.W.fnOf "after_chain" "after_chain" (defArgs s_after_chain) (defBody s_after_chain) (defScope s_after_chain) .none kV22 dc22 pm22 an22 cd22 ct22), sl22⟩) (c22 : PySem.W.codeIn K cd22 "after_chain" = true) (k22 : PySem.W.keepIn K (.ref f22) = true)
    (a23 : PySem.W.nsIn K mainGlobals "before_chain" = some (some (.ref f23))) (l23 : K.lookup f23 = some ⟨oc23, od23, .func (PySem.W.fnOf "before_chain" "before_chain" (defArgs s_before_chain) (defBody s_before_chain) (defScope s_before_chain) .none kV23 dc23 pm23 an23 cd23 ct23), sl23⟩) (c23 : PySem.W.codeIn K cd23 "before_chain" = true) (k23 : PySem.W.keepIn K (.ref f23) = true)
    (a24 : PySem.W.nsIn K mainGlobals "check_order" = some (some (.ref f24))) (l24 : K.lookup f24 = some ⟨oc24, od24, .func (PySem.W.fnOf "check_order" "check_order" (defArgs s_check_order) (defBody s_check_order) (defScope s_check_order) .none kV24 dc24 pm24 an24 cd24 ct24), sl24⟩) (c24 : PySem.W.codeIn K cd24 "check_order" = true) (k24 : PySem.W.keepIn K (.ref f24) = true)
    (a25 : PySem.W.nsIn K mainGlobals "shear_chain" = some (some (.ref f25))) (l25 : K.lookup f25 = some ⟨oc25, od25, .func (PySem.W.fnOf "shear_chain" "shear_chain" (defArgs s_shear_chain) (defBody s_shear_chain) (defScope s_shear_chain) .none kV25 dc25 pm25 an25 cd25 ct25), sl25⟩) (c25 : PySem.W.codeIn K cd25 "shear_chain" = true) (k25 : PySem.W.keepIn K (.ref f25) = true)
    (a26 : PySem.W.nsIn K mainGlobals "sheared_by" = some (some (.ref f26))) (l26 : K.lookup f26 = some ⟨oc26, od26, .func (PySem.W.fnOf "sheared_by" "sheared_by" (defArgs s_sheared_by) (defBody s_sheared_by) (defScope s_sheared_by) .none kV26 dc26 pm26 an26 cd26 ct26), sl26⟩) (c26 : PySem.W.codeIn K cd26 "sheared_by" = true) (k26 : PySem.W.keepIn K (.ref f26) = true)
    (a27 : PySem.W.nsIn K mainGlobals "sheared" = some (some (.ref f27))) (l27 : K.lookup f27 = some ⟨oc27, od27, .func (PySem.W.fnOf "sheared" "sheared" (defArgs s_sheared) (defBody s_sheared) (defScope s_sheared) .none kV27 dc27 pm27 an27 cd27 ct27), sl27⟩) (c27 : PySem.W.codeIn K cd27 "sheared" = true) (k27 : PySem.W.keepIn K (.ref f27) = true)
    (a28 : PySem.W.nsIn K mainGlobals "unsheared" = some (some (.ref f28))) (l28 : K.lookup f28 = some ⟨oc28, od28, .func (PySem.W.fnOf "unsheared" "unsheared" (defArgs s_unsheared) (defBody s_unsheared) (defScope s_unsheared) .none kV28 dc28 pm28 an28 cd28 ct28), sl28⟩) (c28 : PySem.W.codeIn K cd28 "unsheared" = true) (k28 : PySem.W.keepIn K (.ref f28) = true)
    (a29 : PySem.W.nsIn K mainGlobals "_common" = some (some (.ref f29))) (l29 : K.lookup f29 = some ⟨oc29, od29, .func (PySem.W.fnOf "_common" "_common" (defArgs s__common) (defBody s__common) (defScope s__common) .none kV29 dc29 pm29 an29 cd29 ct29), sl29⟩) (c29 : PySem.W.codeIn K cd29 "_common" = true) (k29 : PySem.W.keepIn K (.ref f29) = true)
    (a30 : PySem.W.nsIn K mainGlobals "is_matrix" = some (some (.ref f30))) (l30 : K.lookup f30 = some ⟨oc30, od30, .func (PySem.W.fnOf "is_matrix" "is_matrix" (defArgs s_is_matrix) (defBody s_is_matrix) (defScope s_is_matrix) .none kV30 dc30 pm30 an30 cd30 ct30), sl30⟩) (c30 : PySem.W.codeIn K cd30 "is_matrix" = true) (k30 : PySem.W.keepIn K (.ref f30) = true)
    (a31 : PySem.W.nsIn K mainGlobals "check_matrix" = some (some (.ref f31))) (l31 : K.lookup f31 = some ⟨oc31, od31, .func (PySem.W.fnOf "check_matrix" "check_matrix" (defArgs s_check_matrix) (defBody s_check_matrix) (defScope s_check_matrix) .none kV31 dc31 pm31 an31 cd31 ct31), sl31⟩) (c31 : PySem.W.codeIn K cd31 "check_matrix" = true) (k31 : PySem.W.keepIn K (.ref f31) = true)
    (a32 : PySem.W.nsIn K mainGlobals "is_chain" = some (some (.ref f32))) (l32 : K.lookup f32 = some ⟨oc32, od32, .func (PySem.W.fnOf "is_chain" "is_chain" (defArgs s_is_chain) (defBody s_is_chain) (defScope s_is_chain) .none kV32 dc32 pm32 an32 cd32 ct32), sl32⟩) (c32 : PySem.W.codeIn K cd32 "is_chain" = true) (k32 : PySem.W.keepIn K (.ref f32) = true)
    (a33 : PySem.W.nsIn K mainGlobals "matrix_of" = some (some (.ref f33))) (l33 : K.lookup f33 = some ⟨oc33, od33, .func (PySem.W.fnOf "matrix_of" "matrix_of" (defArgs s_matrix_of) (defBody s_matrix_of) (defScope s_matrix_of) .none kV33 dc33 pm33 an33 cd33 ct33), sl33⟩) (c33 : PySem.W.codeIn K cd33 "matrix_of" = true) (k33 : PySem.W.keepIn K (.ref f33) = true)
    (a34 : PySem.W.nsIn K mainGlobals "shows_chain" = some (some (.ref f34))) (l34 : K.lookup f34 = some ⟨oc34, od34, .func (PySem.W.fnOf "shows_chain" "shows_chain" (defArgs s_shows_chain) (defBody s_shows_chain) (defScope s_shows_chain) .none kV34 dc34 pm34 an34 cd34 ct34), sl34⟩) (c34 : PySem.W.codeIn K cd34 "shows_chain" = true) (k34 : PySem.W.keepIn K (.ref f34) = true)
    (a35 : PySem.W.nsIn K mainGlobals "fewest_shears" = some (some (.ref f35))) (l35 : K.lookup f35 = some ⟨oc35, od35, .func (PySem.W.fnOf "fewest_shears" "fewest_shears" (defArgs s_fewest_shears) (defBody s_fewest_shears) (defScope s_fewest_shears) .none kV35 dc35 pm35 an35 cd35 ct35), sl35⟩) (c35 : PySem.W.codeIn K cd35 "fewest_shears" = true) (k35 : PySem.W.keepIn K (.ref f35) = true)
    (a36 : PySem.W.nsIn K mainGlobals "_plain" = some (some (.ref f36))) (l36 : K.lookup f36 = some ⟨oc36, od36, .func (PySem.W.fnOf "_plain" "_plain" (defArgs s__plain) (defBody s__plain) (defScope s__plain) .none kV36 dc36 pm36 an36 cd36 ct36), sl36⟩) (c36 : PySem.W.codeIn K cd36 "_plain" = true) (k36 : PySem.W.keepIn K (.ref f36) = true)
    (a37 : PySem.W.nsIn K mainGlobals "first_parting" = some (some (.ref f37))) (l37 : K.lookup f37 = some ⟨oc37, od37, .func (PySem.W.fnOf "first_parting" "first_parting" (defArgs s_first_parting) (defBody s_first_parting) (defScope s_first_parting) .none kV37 dc37 pm37 an37 cd37 ct37), sl37⟩) (c37 : PySem.W.codeIn K cd37 "first_parting" = true) (k37 : PySem.W.keepIn K (.ref f37) = true)
    (a38 : PySem.W.nsIn K mainGlobals "_three_steps" = some (some (.ref f38))) (l38 : K.lookup f38 = some ⟨oc38, od38, .func (PySem.W.fnOf "_three_steps" "_three_steps" (defArgs s__three_steps) (defBody s__three_steps) (defScope s__three_steps) .none kV38 dc38 pm38 an38 cd38 ct38), sl38⟩) (c38 : PySem.W.codeIn K cd38 "_three_steps" = true) (k38 : PySem.W.keepIn K (.ref f38) = true)
    (a39 : PySem.W.nsIn K mainGlobals "chain_for" = some (some (.ref f39))) (l39 : K.lookup f39 = some ⟨oc39, od39, .func (PySem.W.fnOf "chain_for" "chain_for" (defArgs s_chain_for) (defBody s_chain_for) (defScope s_chain_for) .none kV39 dc39 pm39 an39 cd39 ct39), sl39⟩) (c39 : PySem.W.codeIn K cd39 "chain_for" = true) (k39 : PySem.W.keepIn K (.ref f39) = true)
    (a40 : PySem.W.nsIn K mainGlobals "_first_wrong" = some (some (.ref f40))) (l40 : K.lookup f40 = some ⟨oc40, od40, .func (PySem.W.fnOf "_first_wrong" "_first_wrong" (defArgs s__first_wrong) (defBody s__first_wrong) (defScope s__first_wrong) .none kV40 dc40 pm40 an40 cd40 ct40), sl40⟩) (c40 : PySem.W.codeIn K cd40 "_first_wrong" = true) (k40 : PySem.W.keepIn K (.ref f40) = true)
    (a41 : PySem.W.nsIn K mainGlobals "check_picture" = some (some (.ref f41))) (l41 : K.lookup f41 = some ⟨oc41, od41, .func (PySem.W.fnOf "check_picture" "check_picture" (defArgs s_check_picture) (defBody s_check_picture) (defScope s_check_picture) .none kV41 dc41 pm41 an41 cd41 ct41), sl41⟩) (c41 : PySem.W.codeIn K cd41 "check_picture" = true) (k41 : PySem.W.keepIn K (.ref f41) = true)
    (a42 : PySem.W.nsIn K mainGlobals "sheared_picture" = some (some (.ref f42))) (l42 : K.lookup f42 = some ⟨oc42, od42, .func (PySem.W.fnOf "sheared_picture" "sheared_picture" (defArgs s_sheared_picture) (defBody s_sheared_picture) (defScope s_sheared_picture) .none kV42 dc42 pm42 an42 cd42 ct42), sl42⟩) (c42 : PySem.W.codeIn K cd42 "sheared_picture" = true) (k42 : PySem.W.keepIn K (.ref f42) = true)
    (a43 : PySem.W.nsIn K mainGlobals "_law_swung" = some (some (.ref f43))) (l43 : K.lookup f43 = some ⟨oc43, od43, .func (PySem.W.fnOf "_law_swung" "_law_swung" (defArgs s__law_swung) (defBody s__law_swung) (defScope s__law_swung) .none kV43 dc43 pm43 an43 cd43 ct43), sl43⟩) (c43 : PySem.W.codeIn K cd43 "_law_swung" = true) (k43 : PySem.W.keepIn K (.ref f43) = true)
    (a44 : PySem.W.nsIn K mainGlobals "_law_lines_right" = some (some (.ref f44))) (l44 : K.lookup f44 = some ⟨oc44, od44, .func (PySem.W.fnOf "_law_lines_right" "_law_lines_right" (defArgs s__law_lines_right) (defBody s__law_lines_right) (defScope s__law_lines_right) .none kV44 dc44 pm44 an44 cd44 ct44), sl44⟩) (c44 : PySem.W.codeIn K cd44 "_law_lines_right" = true) (k44 : PySem.W.keepIn K (.ref f44) = true)
    (a45 : PySem.W.nsIn K mainGlobals "_law_dots_right" = some (some (.ref f45))) (l45 : K.lookup f45 = some ⟨oc45, od45, .func (PySem.W.fnOf "_law_dots_right" "_law_dots_right" (defArgs s__law_dots_right) (defBody s__law_dots_right) (defScope s__law_dots_right) .none kV45 dc45 pm45 an45 cd45 ct45), sl45⟩) (c45 : PySem.W.codeIn K cd45 "_law_dots_right" = true) (k45 : PySem.W.keepIn K (.ref f45) = true)
    (a46 : PySem.W.nsIn K mainGlobals "_law_parted_right" = some (some (.ref f46))) (l46 : K.lookup f46 = some ⟨oc46, od46, .func (PySem.W.fnOf "_law_parted_right" "_law_parted_right" (defArgs s__law_parted_right) (defBody s__law_parted_right) (defScope s__law_parted_right) .none kV46 dc46 pm46 an46 cd46 ct46), sl46⟩) (c46 : PySem.W.codeIn K cd46 "_law_parted_right" = true) (k46 : PySem.W.keepIn K (.ref f46) = true)
    (a47 : PySem.W.nsIn K mainGlobals "_law_dots" = some (some (.ref f47))) (l47 : K.lookup f47 = some ⟨oc47, od47, .func (PySem.W.fnOf "_law_dots" "_law_dots" (defArgs s__law_dots) (defBody s__law_dots) (defScope s__law_dots) .none kV47 dc47 pm47 an47 cd47 ct47), sl47⟩) (c47 : PySem.W.codeIn K cd47 "_law_dots" = true) (k47 : PySem.W.keepIn K (.ref f47) = true)
    (a48 : PySem.W.nsIn K mainGlobals "law" = some (some (.ref f48))) (l48 : K.lookup f48 = some ⟨oc48, od48, .func (PySem.W.fnOf "law" "law" (defArgs s_law) (defBody s_law) (defScope s_law) .none kV48 dc48 pm48 an48 cd48 ct48), sl48⟩) (c48 : PySem.W.codeIn K cd48 "law" = true) (k48 : PySem.W.keepIn K (.ref f48) = true)
    (z_abs : PySem.W.nsIn K mainGlobals "abs" = some none)
    (z_all : PySem.W.nsIn K mainGlobals "all" = some none)
    (z_bool : PySem.W.nsIn K mainGlobals "bool" = some none)
    (z_enumerate : PySem.W.nsIn K mainGlobals "enumerate" = some none)
    (z_int : PySem.W.nsIn K mainGlobals "int" = some none)
    (z_isinstance : PySem.W.nsIn K mainGlobals "isinstance" = some none)
    (z_len : PySem.W.nsIn K mainGlobals "len" = some none)
    (z_list : PySem.W.nsIn K mainGlobals "list" = some none)
    (z_max : PySem.W.nsIn K mainGlobals "max" = some none)
    (z_min : PySem.W.nsIn K mainGlobals "min" = some none)
    (z_range : PySem.W.nsIn K mainGlobals "range" = some none)
    (z_set : PySem.W.nsIn K mainGlobals "set" = some none)
    (z_sorted : PySem.W.nsIn K mainGlobals "sorted" = some none)
    (z_tuple : PySem.W.nsIn K mainGlobals "tuple" = some none)
    (y_gcd : PySem.W.nsIn K mainGlobals "gcd" = some (some (.builtin "math.gcd")))
    (x_GREATEST_P : ∃ u, mg "GREATEST_P" = some (.int (1000000000000000) u))
    (x_GREATEST_REACH : ∃ u, mg "GREATEST_REACH" = some (.int (30) u))
    (x_MOST_PIXELS : ∃ u, mg "MOST_PIXELS" = some (.int (400) u))
    (x_MOST_STEPS : ∃ u, mg "MOST_STEPS" = some (.int (8) u))
    (x_QUARTERS : ∃ a, mg "QUARTERS" = some (.ref a) ∧ Rp K (fun _ => none) (.tup [.tup [.int (1), .int (0)], .tup [.int (0), .int (1)], .tup [.int (-1), .int (0)], .tup [.int (0), .int (-1)]]) (.ref a))
    : ∃ fd : FuncData, (∀ (s : Shared) (v : Value), BindsTo s fd ⟨[v], []⟩ [("_law_script", v)]) ∧ ∀ base : Heap, K.In base → base.Ns mainGlobals mg → GOk l.prog w K mg base 10 fa fd ["_law_script"] (spD K (conLaw 63)) := by
  have e := hfa.symm.trans (PySem.W.mg_of X G a48)
  cases e
  have F0 := fun_mk (st := s_is_whole) l0 c0 k0
  have F1 := fun_mk (st := s_is_whole_tuple) l1 c1 k1
  have F2 := fun_mk (st := s_nearest) l2 c2 k2
  have F3 := fun_mk (st := s_times) l3 c3 k3
  have F4 := fun_mk (st := s_is_pixel) l4 c4 k4
  have F5 := fun_mk (st := s_is_turn) l5 c5 k5
  have F6 := fun_mk (st := s_check_pixel) l6 c6 k6
  have F7 := fun_mk (st := s_check_turn) l7 c7 k7
  have F8 := fun_mk (st := s_legs_of) l8 c8 k8
  have F9 := fun_mk (st := s_exact_place) l9 c9 k9
  have F10 := fun_mk (st := s_image) l10 c10 k10
  have F11 := fun_mk (st := s_back) l11 c11 k11
  have F12 := fun_mk (st := s__law_source) l12 c12 k12
  have F13 := fun_mk (st := s__law_draw) l13 c13 k13
  have F14 := fun_mk (st := s__law_common) l14 c14 k14
  have F15 := fun_mk (st := s__law_spin) l15 c15 k15
  have F16 := fun_mk (st := s__law_dot) l16 c16 k16
  have F17 := fun_mk (st := s_lowest) l17 c17 k17
  have F18 := fun_mk (st := s__step) l18 c18 k18
  have F19 := fun_mk (st := s__is_step) l19 c19 k19
  have F20 := fun_mk (st := s_check_chain) l20 c20 k20
  have F21 := fun_mk (st := s_along) l21 c21 k21
  have F22 := fun_mk (st := s_after_chain) l22 c22 k22
  have F23 := fun_mk (st := s_before_chain) l23 c23 k23
  have F24 := fun_mk (st := s_check_order) l24 c24 k24
  have F25 := fun_mk (st := s_shear_chain) l25 c25 k25
  have F26 := fun_mk (st := s_sheared_by) l26 c26 k26
  have F27 := fun_mk (st := s_sheared) l27 c27 k27
  have F28 := fun_mk (st := s_unsheared) l28 c28 k28
  have F29 := fun_mk (st := s__common) l29 c29 k29
  have F30 := fun_mk (st := s_is_matrix) l30 c30 k30
  have F31 := fun_mk (st := s_check_matrix) l31 c31 k31
  have F32 := fun_mk (st := s_is_chain) l32 c32 k32
  have F33 := fun_mk (st := s_matrix_of) l33 c33 k33
  have F34 := fun_mk (st := s_shows_chain) l34 c34 k34
  have F35 := fun_mk (st := s_fewest_shears) l35 c35 k35
  have F36 := fun_mk (st := s__plain) l36 c36 k36
  have F37 := fun_mk (st := s_first_parting) l37 c37 k37
  have F38 := fun_mk (st := s__three_steps) l38 c38 k38
  have F39 := fun_mk (st := s_chain_for) l39 c39 k39
  have F40 := fun_mk (st := s__first_wrong) l40 c40 k40
  have F41 := fun_mk (st := s_check_picture) l41 c41 k41
  have F42 := fun_mk (st := s_sheared_picture) l42 c42 k42
  have F43 := fun_mk (st := s__law_swung) l43 c43 k43
  have F44 := fun_mk (st := s__law_lines_right) l44 c44 k44
  have F45 := fun_mk (st := s__law_dots_right) l45 c45 k45
  have F46 := fun_mk (st := s__law_parted_right) l46 c46 k46
  have F47 := fun_mk (st := s__law_dots) l47 c47 k47
  have F48 := fun_mk (st := s_law) l48 c48 k48
  have n_abs := PySem.W.mg_none_of X G z_abs
  have n_all := PySem.W.mg_none_of X G z_all
  have n_bool := PySem.W.mg_none_of X G z_bool
  have n_enumerate := PySem.W.mg_none_of X G z_enumerate
  have n_int := PySem.W.mg_none_of X G z_int
  have n_isinstance := PySem.W.mg_none_of X G z_isinstance
  have n_len := PySem.W.mg_none_of X G z_len
  have n_list := PySem.W.mg_none_of X G z_list
  have n_max := PySem.W.mg_none_of X G z_max
  have n_min := PySem.W.mg_none_of X G z_min
  have n_range := PySem.W.mg_none_of X G z_range
  have n_set := PySem.W.mg_none_of X G z_set
  have n_sorted := PySem.W.mg_none_of X G z_sorted
  have n_tuple := PySem.W.mg_none_of X G z_tuple
  have b_gcd := PySem.W.mg_of X G y_gcd
  have g_GREATEST_P := x_GREATEST_P
  have g_GREATEST_REACH := x_GREATEST_REACH
  have g_MOST_PIXELS := x_MOST_PIXELS
  have g_MOST_STEPS := x_MOST_STEPS
  have g_QUARTERS := x_QUARTERS
  refine ⟨PySem.W.fnOf "law" "law" (defArgs s_law) (defBody s_law) (defScope s_law) .none kV48 dc48 pm48 an48 cd48 ct48, fun s v => .of_eq rfl, fun base _ _ => ?_⟩
  have c_is_whole := cal_of (kws := []) F0 (ok_is_whole (P := l.prog) (w := w) (base := base) F0 n_bool n_int n_isinstance) (PySem.W.mg_of X G a0) (bargs_of F0 fun _ _ _ _ _ _ us hl => match us, hl with | [_], _ => rfl) (fun _ h => nomatch h)
  have c_is_whole_tuple := cal_of (kws := []) F1 (ok_is_whole_tuple (P := l.prog) (w := w) (base := base) F1 c_is_whole n_all n_isinstance n_len n_tuple) (PySem.W.mg_of X G a1) (bargs_of F1 fun _ _ _ _ _ _ us hl => match us, hl with | [_, _], _ => rfl) (fun _ h => nomatch h)
  have c_nearest := cal_of (kws := []) F2 (ok_nearest (P := l.prog) (w := w) (base := base) F2 ) (PySem.W.mg_of X G a2) (bargs_of F2 fun _ _ _ _ _ _ us hl => match us, hl with | [_, _], _ => rfl) (fun _ h => nomatch h)
  have c_times := cal_of (kws := []) F3 (ok_times (P := l.prog) (w := w) (base := base) F3 ) (PySem.W.mg_of X G a3) (bargs_of F3 fun _ _ _ _ _ _ us hl => match us, hl with | [_, _], _ => rfl) (fun _ h => nomatch h)
  have c_is_pixel := cal_of (kws := []) F4 (ok_is_pixel (P := l.prog) (w := w) (base := base) F4 c_is_whole_tuple) (PySem.W.mg_of X G a4) (bargs_of F4 fun _ _ _ _ _ _ us hl => match us, hl with | [_], _ => rfl) (fun _ h => nomatch h)
  have c_is_turn := cal_of (kws := []) F5 (ok_is_turn (P := l.prog) (w := w) (base := base) F5 b_gcd c_is_whole_tuple g_GREATEST_P n_abs) (PySem.W.mg_of X G a5) (bargs_of F5 fun _ _ _ _ _ _ us hl => match us, hl with | [_], _ => rfl) (fun _ h => nomatch h)
  have c_check_pixel := cal_of (kws := []) F6 (ok_check_pixel (P := l.prog) (w := w) (base := base) F6 c_is_pixel) (PySem.W.mg_of X G a6) (bargs_of F6 fun _ _ _ _ _ _ us hl => match us, hl with | [_], _ => rfl) (fun _ h => nomatch h)
  have c_check_turn := cal_of (kws := []) F7 (ok_check_turn (P := l.prog) (w := w) (base := base) F7 c_is_turn) (PySem.W.mg_of X G a7) (bargs_of F7 fun _ _ _ _ _ _ us hl => match us, hl with | [_], _ => rfl) (fun _ h => nomatch h)
  have c_legs_of := cal_of (kws := []) F8 (ok_legs_of (P := l.prog) (w := w) (base := base) F8 c_check_turn c_times n_range) (PySem.W.mg_of X G a8) (bargs_of F8 fun _ _ _ _ _ _ us hl => match us, hl with | [_], _ => rfl) (fun _ h => nomatch h)
  have c_exact_place := cal_of (kws := []) F9 (ok_exact_place (P := l.prog) (w := w) (base := base) F9 c_check_pixel c_check_turn c_legs_of c_times) (PySem.W.mg_of X G a9) (bargs_of F9 fun _ _ _ _ _ _ us hl => match us, hl with | [_, _], _ => rfl) (fun _ h => nomatch h)
  have c_image := cal_of (kws := []) F10 (ok_image (P := l.prog) (w := w) (base := base) F10 c_exact_place c_nearest) (PySem.W.mg_of X G a10) (bargs_of F10 fun _ _ _ _ _ _ us hl => match us, hl with | [_, _], _ => rfl) (fun _ h => nomatch h)
  have c_back := cal_of (kws := []) F11 (ok_back (P := l.prog) (w := w) (base := base) F11 c_check_turn) (PySem.W.mg_of X G a11) (bargs_of F11 fun _ _ _ _ _ _ us hl => match us, hl with | [_], _ => rfl) (fun _ h => nomatch h)
  have c__law_source := cal_of (kws := []) F12 (ok__law_source (P := l.prog) (w := w) (base := base) F12 n_abs n_int n_max) (PySem.W.mg_of X G a12) (bargs_of F12 fun _ _ _ _ _ _ us hl => match us, hl with | [_, _], _ => rfl) (fun _ h => nomatch h)
  have c__law_draw := cal_of (kws := []) F13 (ok__law_draw (P := l.prog) (w := w) (base := base) F13 n_int) (PySem.W.mg_of X G a13) (bargs_of F13 fun _ _ _ _ _ _ us hl => match us, hl with | [_, _], _ => rfl) (fun _ h => nomatch h)
  have c__law_common := cal_of (kws := []) F14 (ok__law_common (P := l.prog) (w := w) (base := base) F14 n_abs n_int) (PySem.W.mg_of X G a14) (bargs_of F14 fun _ _ _ _ _ _ us hl => match us, hl with | [_, _], _ => rfl) (fun _ h => nomatch h)
  have c__law_spin := cal_of (kws := []) F15 (ok__law_spin (P := l.prog) (w := w) (base := base) F15 c__law_common c__law_draw n_int n_max n_min) (PySem.W.mg_of X G a15) (bargs_of F15 fun _ _ _ _ _ _ us hl => match us, hl with | [_, _], _ => rfl) (fun _ h => nomatch h)
  have c__law_dot := cal_of (kws := []) F16 (ok__law_dot (P := l.prog) (w := w) (base := base) F16 c__law_draw n_range n_tuple) (PySem.W.mg_of X G a16) (bargs_of F16 fun _ _ _ _ _ _ us hl => match us, hl with | [_, _], _ => rfl) (fun _ h => nomatch h)
  have c_lowest := cal_of (kws := []) F17 (ok_lowest (P := l.prog) (w := w) (base := base) F17 b_gcd) (PySem.W.mg_of X G a17) (bargs_of F17 fun _ _ _ _ _ _ us hl => match us, hl with | [_, _], _ => rfl) (fun _ h => nomatch h)
  have c__step := cal_of (kws := []) F18 (ok__step (P := l.prog) (w := w) (base := base) F18 c_lowest) (PySem.W.mg_of X G a18) (bargs_of F18 fun _ _ _ _ _ _ us hl => match us, hl with | [_, _, _], _ => rfl) (fun _ h => nomatch h)
  have c__is_step := cal_of (kws := []) F19 (ok__is_step (P := l.prog) (w := w) (base := base) F19 c_is_whole_tuple n_isinstance n_len n_tuple) (PySem.W.mg_of X G a19) (bargs_of F19 fun _ _ _ _ _ _ us hl => match us, hl with | [_], _ => rfl) (fun _ h => nomatch h)
  have c_check_chain := cal_of (kws := []) F20 (ok_check_chain (P := l.prog) (w := w) (base := base) F20 c__is_step g_MOST_STEPS n_enumerate n_isinstance n_len n_list) (PySem.W.mg_of X G a20) (bargs_of F20 fun _ _ _ _ _ _ us hl => match us, hl with | [_], _ => rfl) (fun _ h => nomatch h)
  have c_along := cal_of (kws := []) F21 (ok_along (P := l.prog) (w := w) (base := base) F21 c_nearest) (PySem.W.mg_of X G a21) (bargs_of F21 fun _ _ _ _ _ _ us hl => match us, hl with | [_, _], _ => rfl) (fun _ h => nomatch h)
  have c_after_chain := cal_of (kws := []) F22 (ok_after_chain (P := l.prog) (w := w) (base := base) F22 c_along c_check_chain c_check_pixel) (PySem.W.mg_of X G a22) (bargs_of F22 fun _ _ _ _ _ _ us hl => match us, hl with | [_, _], _ => rfl) (fun _ h => nomatch h)
  have c_before_chain := cal_of (kws := []) F23 (ok_before_chain (P := l.prog) (w := w) (base := base) F23 c_check_chain c_check_pixel c_nearest) (PySem.W.mg_of X G a23) (bargs_of F23 fun _ _ _ _ _ _ us hl => match us, hl with | [_, _], _ => rfl) (fun _ h => nomatch h)
  have c_check_order := cal_of (kws := []) F24 (ok_check_order (P := l.prog) (w := w) (base := base) F24 ) (PySem.W.mg_of X G a24) (bargs_of F24 fun _ _ _ _ _ _ us hl => match us, hl with | [_], _ => rfl) (fun _ h => nomatch h)
  have c_shear_chain := cal_of (kws := []) F25 (ok_shear_chain (P := l.prog) (w := w) (base := base) F25 c_check_order c_check_turn) (PySem.W.mg_of X G a25) (bargs_of F25 fun _ _ _ _ _ _ us hl => match us, hl with | [_, _], _ => rfl) (fun _ h => nomatch h)
  have c_sheared_by := cal_of (kws := []) F26 (ok_sheared_by (P := l.prog) (w := w) (base := base) F26 c_along c_times g_QUARTERS) (PySem.W.mg_of X G a26) (bargs_of F26 fun _ _ _ _ _ _ us hl => match us, hl with | [_, _, _], _ => rfl) (fun _ h => nomatch h)
  have c_sheared := cal_of (kws := []) F27 (ok_sheared (P := l.prog) (w := w) (base := base) F27 c_check_pixel c_shear_chain c_sheared_by) (PySem.W.mg_of X G a27) (bargs_of F27 fun _ _ _ _ _ _ us hl => match us, hl with | [_, _, _], _ => rfl) (fun _ h => nomatch h)
  have c_unsheared := cal_of (kws := []) F28 (ok_unsheared (P := l.prog) (w := w) (base := base) F28 c_before_chain c_check_pixel c_shear_chain c_times g_QUARTERS) (PySem.W.mg_of X G a28) (bargs_of F28 fun _ _ _ _ _ _ us hl => match us, hl with | [_, _, _], _ => rfl) (fun _ h => nomatch h)
  have c__common := cal_of (kws := []) F29 (ok__common (P := l.prog) (w := w) (base := base) F29 b_gcd) (PySem.W.mg_of X G a29) (bargs_of F29 fun _ _ _ _ _ _ us hl => match us, hl with | [_], _ => rfl) (fun _ h => nomatch h)
  have c_is_matrix := cal_of (kws := []) F30 (ok_is_matrix (P := l.prog) (w := w) (base := base) F30 c__common c_is_whole_tuple) (PySem.W.mg_of X G a30) (bargs_of F30 fun _ _ _ _ _ _ us hl => match us, hl with | [_], _ => rfl) (fun _ h => nomatch h)
  have c_check_matrix := cal_of (kws := []) F31 (ok_check_matrix (P := l.prog) (w := w) (base := base) F31 c_is_matrix) (PySem.W.mg_of X G a31) (bargs_of F31 fun _ _ _ _ _ _ us hl => match us, hl with | [_], _ => rfl) (fun _ h => nomatch h)
  have c_is_chain := cal_of (kws := []) F32 (ok_is_chain (P := l.prog) (w := w) (base := base) F32 c__is_step g_MOST_STEPS n_all n_isinstance n_len n_list) (PySem.W.mg_of X G a32) (bargs_of F32 fun _ _ _ _ _ _ us hl => match us, hl with | [_], _ => rfl) (fun _ h => nomatch h)
  have c_matrix_of := cal_of (kws := []) F33 (ok_matrix_of (P := l.prog) (w := w) (base := base) F33 c__common c_check_chain) (PySem.W.mg_of X G a33) (bargs_of F33 fun _ _ _ _ _ _ us hl => match us, hl with | [_], _ => rfl) (fun _ h => nomatch h)
  have c_shows_chain := cal_of (kws := []) F34 (ok_shows_chain (P := l.prog) (w := w) (base := base) F34 c_check_matrix c_is_chain c_matrix_of) (PySem.W.mg_of X G a34) (bargs_of F34 fun _ _ _ _ _ _ us hl => match us, hl with | [_, _], _ => rfl) (fun _ h => nomatch h)
  have c_fewest_shears := cal_of (kws := []) F35 (ok_fewest_shears (P := l.prog) (w := w) (base := base) F35 c_check_matrix) (PySem.W.mg_of X G a35) (bargs_of F35 fun _ _ _ _ _ _ us hl => match us, hl with | [_], _ => rfl) (fun _ h => nomatch h)
  have c__plain := cal_of (kws := []) F36 (ok__plain (P := l.prog) (w := w) (base := base) F36 c__step) (PySem.W.mg_of X G a36) (bargs_of F36 fun _ _ _ _ _ _ us hl => match us, hl with | [_], _ => rfl) (fun _ h => nomatch h)
  have c_first_parting := cal_of (kws := []) F37 (ok_first_parting (P := l.prog) (w := w) (base := base) F37 c__plain c_along c_check_chain c_is_whole g_GREATEST_REACH n_range) (PySem.W.mg_of X G a37) (bargs_of F37 fun _ _ _ _ _ _ us hl => match us, hl with | [_, _, _], _ => rfl) (fun _ h => nomatch h)
  have c__three_steps := cal_of (kws := []) F38 (ok__three_steps (P := l.prog) (w := w) (base := base) F38 c__step) (PySem.W.mg_of X G a38) (bargs_of F38 fun _ _ _ _ _ _ us hl => match us, hl with | [_], _ => rfl) (fun _ h => nomatch h)
  have c_chain_for := cal_of (kws := []) F39 (ok_chain_for (P := l.prog) (w := w) (base := base) F39 c__three_steps c_fewest_shears) (PySem.W.mg_of X G a39) (bargs_of F39 fun _ _ _ _ _ _ us hl => match us, hl with | [_], _ => rfl) (fun _ h => nomatch h)
  have c__first_wrong := cal_of (kws := []) F40 (ok__first_wrong (P := l.prog) (w := w) (base := base) F40 c_is_pixel n_enumerate) (PySem.W.mg_of X G a40) (bargs_of F40 fun _ _ _ _ _ _ us hl => match us, hl with | [_], _ => rfl) (fun _ h => nomatch h)
  have c_check_picture := cal_of (kws := []) F41 (ok_check_picture (P := l.prog) (w := w) (base := base) F41 c__first_wrong g_MOST_PIXELS n_isinstance n_len n_list) (PySem.W.mg_of X G a41) (bargs_of F41 fun _ _ _ _ _ _ us hl => match us, hl with | [_], _ => rfl) (fun _ h => nomatch h)
  have c_sheared_picture := cal_of (kws := []) F42 (ok_sheared_picture (P := l.prog) (w := w) (base := base) F42 c_check_order c_check_picture c_check_turn c_shear_chain c_sheared_by n_sorted) (PySem.W.mg_of X G a42) (bargs_of F42 fun _ _ _ _ _ _ us hl => match us, hl with | [_, _, _], _ => rfl) (fun _ h => nomatch h)
  have c__law_swung := cal_of (kws := []) F43 (ok__law_swung (P := l.prog) (w := w) (base := base) F43 c_image n_int) (PySem.W.mg_of X G a43) (bargs_of F43 fun _ _ _ _ _ _ us hl => match us, hl with | [_, _], _ => rfl) (fun _ h => nomatch h)
  have c__law_lines_right := cal_of (kws := []) F44 (ok__law_lines_right (P := l.prog) (w := w) (base := base) F44 c_back c_chain_for c_fewest_shears c_is_chain c_legs_of c_matrix_of c_shear_chain c_shows_chain n_int n_len) (PySem.W.mg_of X G a44) (bargs_of F44 fun _ _ _ _ _ _ us hl => match us, hl with | [_, _], _ => rfl) (fun _ h => nomatch h)
  have c__law_dots_right := cal_of (kws := []) F45 (ok__law_dots_right (P := l.prog) (w := w) (base := base) F45 c__law_swung c_after_chain c_before_chain c_shear_chain c_sheared c_unsheared) (PySem.W.mg_of X G a45) (bargs_of F45 fun _ _ _ _ _ _ us hl => match us, hl with | [_, _, _], _ => rfl) (fun _ h => nomatch h)
  have c__law_parted_right := cal_of (kws := []) F46 (ok__law_parted_right (P := l.prog) (w := w) (base := base) F46 c_first_parting c_shear_chain c_sheared n_range) (PySem.W.mg_of X G a46) (bargs_of F46 fun _ _ _ _ _ _ us hl => match us, hl with | [_, _], _ => rfl) (fun _ h => nomatch h)
  have c__law_dots := cal_of (kws := []) F47 (ok__law_dots (P := l.prog) (w := w) (base := base) F47 c__law_dot c__law_draw n_len n_range n_set n_sorted) (PySem.W.mg_of X G a47) (bargs_of F47 fun _ _ _ _ _ _ us hl => match us, hl with | [_, _, _], _ => rfl) (fun _ h => nomatch h)
  exact ok_law (P := l.prog) (w := w) (base := base) F48 c__law_dot c__law_dots c__law_dots_right c__law_draw c__law_lines_right c__law_parted_right c__law_source c__law_spin c_fewest_shears c_matrix_of c_shear_chain c_sheared c_sheared_picture n_enumerate n_int n_len n_max n_min n_sorted
end Tp
set_option maxRecDepth 100000 in
set_option maxHeartbeats 0 in
theorem PySem.Challenge.cw_turnedpixels_k78_whole_shears_as_chains_holds : PySem.Challenge.rw_turnedpixels_k78_whole_shears_as_chains.Holds := by
  w_on; o_law; k_head; (case hw => w_witness2)
  k_fill
  refine DL.law_end (l := PySem.Challenge.rw_turnedpixels_k78_whole_shears_as_chains) (n := 63) (k := 10) (x := "_law_script") rfl (by decide) rfl ⟨rfl, by decide, by decide⟩ (fun w h Y => PySem.W.kIn_of Y) ?F
  case F =>
    intro w mg fa h KX G hmg
    refine' Tp.all_mk KX G hmg ?a0 ?l0 ?c0 ?k0 ?a1 ?l1 ?c1 ?k1 ?a2 ?l2 ?c2 ?k2 ?a3 ?l3 ?c3 ?k3 ?a4 ?l4 ?c4 ?k4 ?a5 ?l5 ?c5 ?k5 ?a6 ?l6 ?c6 ?k6 ?a7 ?l7 ?c7 ?k7 ?a8 ?l8 ?c8 ?k8 ?a9 ?l9 ?c9 ?k9 ?a10 ?l10 ?c10 ?k10 ?a11 ?l11 ?c11 ?k11 ?a12 ?l12 ?c12 ?k12 ?a13 ?l13 ?c13 ?k13 ?a14 ?l14 ?c14 ?k14 ?a15 ?l15 ?c15 ?k15 ?a16 ?l16 ?c16 ?k16 ?a17 ?l17 ?c17 ?k17 ?a18 ?l18 ?c18 ?k18 ?a19 ?l19 ?c19 ?k19 ?a20 ?l20 ?c20 ?k20 ?a21 ?l21 ?c21 ?k21 ?a22 ?l22 ?c22 ?k22 ?a23 ?l23 ?c23 ?k23 ?a24 ?l24 ?c24 ?k24 ?a25 ?l25 ?c25 ?k25 ?a26 ?l26 ?c26 ?k26 ?a27 ?l27 ?c27 ?k27 ?a28 ?l28 ?c28 ?k28 ?a29 ?l29 ?c29 ?k29 ?a30 ?l30 ?c30 ?k30 ?a31 ?l31 ?c31 ?k31 ?a32 ?l32 ?c32 ?k32 ?a33 ?l33 ?c33 ?k33 ?a34 ?l34 ?c34 ?k34 ?a35 ?l35 ?c35 ?k35 ?a36 ?l36 ?c36 ?k36 ?a37 ?l37 ?c37 ?k37 ?a38 ?l38 ?c38 ?k38 ?a39 ?l39 ?c39 ?k39 ?a40 ?l40 ?c40 ?k40 ?a41 ?l41 ?c41 ?k41 ?a42 ?l42 ?c42 ?k42 ?a43 ?l43 ?c43 ?k43 ?a44 ?l44 ?c44 ?k44 ?a45 ?l45 ?c45 ?k45 ?a46 ?l46 ?c46 ?k46 ?a47 ?l47 ?c47 ?k47 ?a48 ?l48 ?c48 ?k48 ?z_abs ?z_all ?z_bool ?z_enumerate ?z_int ?z_isinstance ?z_len ?z_list ?z_max ?z_min ?z_range ?z_set ?z_sorted ?z_tuple ?y_gcd ?x_GREATEST_P ?x_GREATEST_REACH ?x_MOST_PIXELS ?x_MOST_STEPS ?x_QUARTERS
    (case a0 => k_is)
    (case l0 => k_is)
    (case c0 => k_is)
    (case k0 => k_is)
    (case a1 => k_is)
    (case l1 => k_is)
    (case c1 => k_is)
    (case k1 => k_is)
    (case a2 => k_is)
    (case l2 => k_is)
    (case c2 => k_is)
    (case k2 => k_is)
    (case a3 => k_is)
    (case l3 => k_is)
    (case c3 => k_is)
    (case k3 => k_is)
    (case a4 => k_is)
    (case l4 => k_is)
    (case c4 => k_is)
    (case k4 => k_is)
    (case a5 => k_is)
    (case l5 => k_is)
    (case c5 => k_is)
    (case k5 => k_is)
    (case a6 => k_is)
    (case l6 => k_is)
    (case c6 => k_is)
    (case k6 => k_is)
    (case a7 => k_is)
    (case l7 => k_is)
    (case c7 => k_is)
    (case k7 => k_is)
    (case a8 => k_is)
    (case l8 => k_is)
    (case c8 => k_is)
    (case k8 => k_is)
    (case a9 => k_is)
    (case l9 => k_is)
    (case c9 => k_is)
    (case k9 => k_is)
    (case a10 => k_is)
    (case l10 => k_is)
    (case c10 => k_is)
    (case k10 => k_is)
    (case a11 => k_is)
    (case l11 => k_is)
    (case c11 => k_is)
    (case k11 => k_is)
    (case a12 => k_is)
    (case l12 => k_is)
    (case c12 => k_is)
    (case k12 => k_is)
    (case a13 => k_is)
    (case l13 => k_is)
    (case c13 => k_is)
    (case k13 => k_is)
    (case a14 => k_is)
    (case l14 => k_is)
    (case c14 => k_is)
    (case k14 => k_is)
    (case a15 => k_is)
    (case l15 => k_is)
    (case c15 => k_is)
    (case k15 => k_is)
    (case a16 => k_is)
    (case l16 => k_is)
    (case c16 => k_is)
    (case k16 => k_is)
    (case a17 => k_is)
    (case l17 => k_is)
    (case c17 => k_is)
    (case k17 => k_is)
    (case a18 => k_is)
    (case l18 => k_is)
    (case c18 => k_is)
    (case k18 => k_is)
    (case a19 => k_is)
    (case l19 => k_is)
    (case c19 => k_is)
    (case k19 => k_is)
    (case a20 => k_is)
    (case l20 => k_is)
    (case c20 => k_is)
    (case k20 => k_is)
    (case a21 => k_is)
    (case l21 => k_is)
    (case c21 => k_is)
    (case k21 => k_is)
    (case a22 => k_is)
    (case l22 => k_is)
    (case c22 => k_is)
    (case k22 => k_is)
    (case a23 => k_is)
    (case l23 => k_is)
    (case c23 => k_is)
    (case k23 => k_is)
    (case a24 => k_is)
    (case l24 => k_is)
    (case c24 => k_is)
    (case k24 => k_is)
    (case a25 => k_is)
    (case l25 => k_is)
    (case c25 => k_is)
    (case k25 => k_is)
    (case a26 => k_is)
    (case l26 => k_is)
    (case c26 => k_is)
    (case k26 => k_is)
    (case a27 => k_is)
    (case l27 => k_is)
    (case c27 => k_is)
    (case k27 => k_is)
    (case a28 => k_is)
    (case l28 => k_is)
    (case c28 => k_is)
    (case k28 => k_is)
    (case a29 => k_is)
    (case l29 => k_is)
    (case c29 => k_is)
    (case k29 => k_is)
    (case a30 => k_is)
    (case l30 => k_is)
    (case c30 => k_is)
    (case k30 => k_is)
    (case a31 => k_is)
    (case l31 => k_is)
    (case c31 => k_is)
    (case k31 => k_is)
    (case a32 => k_is)
    (case l32 => k_is)
    (case c32 => k_is)
    (case k32 => k_is)
    (case a33 => k_is)
    (case l33 => k_is)
    (case c33 => k_is)
    (case k33 => k_is)
    (case a34 => k_is)
    (case l34 => k_is)
    (case c34 => k_is)
    (case k34 => k_is)
    (case a35 => k_is)
    (case l35 => k_is)
    (case c35 => k_is)
    (case k35 => k_is)
    (case a36 => k_is)
    (case l36 => k_is)
    (case c36 => k_is)
    (case k36 => k_is)
    (case a37 => k_is)
    (case l37 => k_is)
    (case c37 => k_is)
    (case k37 => k_is)
    (case a38 => k_is)
    (case l38 => k_is)
    (case c38 => k_is)
    (case k38 => k_is)
    (case a39 => k_is)
    (case l39 => k_is)
    (case c39 => k_is)
    (case k39 => k_is)
    (case a40 => k_is)
    (case l40 => k_is)
    (case c40 => k_is)
    (case k40 => k_is)
    (case a41 => k_is)
    (case l41 => k_is)
    (case c41 => k_is)
    (case k41 => k_is)
    (case a42 => k_is)
    (case l42 => k_is)
    (case c42 => k_is)
    (case k42 => k_is)
    (case a43 => k_is)
    (case l43 => k_is)
    (case c43 => k_is)
    (case k43 => k_is)
    (case a44 => k_is)
    (case l44 => k_is)
    (case c44 => k_is)
    (case k44 => k_is)
    (case a45 => k_is)
    (case l45 => k_is)
    (case c45 => k_is)
    (case k45 => k_is)
    (case a46 => k_is)
    (case l46 => k_is)
    (case c46 => k_is)
    (case k46 => k_is)
    (case a47 => k_is)
    (case l47 => k_is)
    (case c47 => k_is)
    (case k47 => k_is)
    (case a48 => k_is)
    (case l48 => k_is)
    (case c48 => k_is)
    (case k48 => k_is)
    (case z_abs => k_is)
    (case z_all => k_is)
    (case z_bool => k_is)
    (case z_enumerate => k_is)
    (case z_int => k_is)
    (case z_isinstance => k_is)
    (case z_len => k_is)
    (case z_list => k_is)
    (case z_max => k_is)
    (case z_min => k_is)
    (case z_range => k_is)
    (case z_set => k_is)
    (case z_sorted => k_is)
    (case z_tuple => k_is)
    (case y_gcd => k_is)
    (case x_GREATEST_P => exact ⟨_, PySem.W.mg_of KX G (by k_is)⟩)
    (case x_GREATEST_REACH => exact ⟨_, PySem.W.mg_of KX G (by k_is)⟩)
    (case x_MOST_PIXELS => exact ⟨_, PySem.W.mg_of KX G (by k_is)⟩)
    (case x_MOST_STEPS => exact ⟨_, PySem.W.mg_of KX G (by k_is)⟩)
    (case x_QUARTERS => exact ⟨_, PySem.W.mg_of KX G (by k_is), DL.rp_tupsK (as := [_, _, _, _]) (by k_is) (by decide) (DL.rpl_cons (DL.rp_pairK (by k_is)) (DL.rpl_cons (DL.rp_pairK (by k_is)) (DL.rpl_cons (DL.rp_pairK (by k_is)) (DL.rpl_cons (DL.rp_pairK (by k_is)) DL.rpl_nil))))⟩)
#print axioms PySem.Challenge.cw_turnedpixels_k78_whole_shears_as_chains_holds
