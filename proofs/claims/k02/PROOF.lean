import PyProof.Rows.All
import Wide.All
import OpenK.AllK
import Wide.FinOn
import HandS.ForMost
import HandS.ForExc
import HandS.Evl
import HandS.Wide
import HandS.IsInst
import HandS.Style
import HandS.TupAny
import HandS.Lambda
import HandS.EndOwn
import HandS.ExcIs
import HandS.More
import HandS.CallLocal
import HandS.Walk
import PySem.Challenge.RW_restfold_k02_clocks
set_option Elab.async false
set_option linter.all false
set_option maxRecDepth 100000
set_option maxHeartbeats 8000000
/-! Own layer: data as plain terms. A store of data, what an expression gives over it, what a block leaves, without the heap. -/
namespace Dn
open PySem PySem.Spec PyProof.Rows L2
open Evl (Ex)

/-- an exception's object, behind its flight -/
def ExV (cls : Value) (d : Option Addr) (a : Addr) : HO := .ext fun h => ∃ (oe : Obj) (vs : Array Value), h.get? a = some oe ∧ Zc cls d oe ∧ oe.data = .fields vs

/-- data -/
inductive Dt where
  | raw (v : V)
  | lst (l : List Dt)
  | tup (l : List Dt)
  | dct (l : List (Key × Dt))
  | exc (C : Addr) (fs : List (Str × V))
abbrev dI (i : Int) : Dt := .raw (.int i)
abbrev dB (b : Bool) : Dt := .raw (.bl b)
abbrev dS (s : Str) : Dt := .raw (.str s)
abbrev dN : Dt := .raw .non

mutual
inductive Den (H : Hp) : V → Dt → Prop where
  | raw (v : V) : Den H v (.raw v)
  | lst {a : Addr} {xs : List V} {ds : List Dt} (h : H a = some (.lst xs)) (l : DenL H xs ds) : Den H (.ref a) (.lst ds)
  | tup {a : Addr} {xs : List V} {ds : List Dt} (h : H a = some (.tup xs)) (l : DenL H xs ds) : Den H (.ref a) (.tup ds)
  | dct {a : Addr} {kvs : List (Key × V)} {ds : List (Key × Dt)} (h : H a = some (.dK kvs)) (l : DenK H kvs ds) : Den H (.ref a) (.dct ds)
  | exc0 {a C : Addr} (h : H a = some (ExV (.ref C) none a)) : Den H (.ref a) (.exc C [])
  | excD {a C d : Addr} {fs : List (Str × V)} (h : H a = some (ExV (.ref C) (some d) a)) (hd : H d = some (.xd fs)) (hf : fs ≠ []) : Den H (.ref a) (.exc C fs)
inductive DenL (H : Hp) : List V → List Dt → Prop where
  | nil : DenL H [] []
  | cons {v : V} {vs : List V} {d : Dt} {ds : List Dt} (h : Den H v d) (t : DenL H vs ds) : DenL H (v :: vs) (d :: ds)
inductive DenK (H : Hp) : List (Key × V) → List (Key × Dt) → Prop where
  | nil : DenK H [] []
  | cons {k : Key} {v : V} {vs : List (Key × V)} {d : Dt} {ds : List (Key × Dt)} (h : Den H v d) (t : DenK H vs ds) : DenK H ((k, v) :: vs) ((k, d) :: ds)
end

mutual
theorem Den.mono {H H' : Hp} (e : Ex H H') {v : V} {d : Dt} : Den H v d → Den H' v d
  | .raw v => .raw v
  | .lst h l => .lst (e _ _ h) (l.mono e)
  | .tup h l => .tup (e _ _ h) (l.mono e)
  | .dct h l => .dct (e _ _ h) (l.mono e)
  | .exc0 h => .exc0 (e _ _ h)
  | .excD h hd hf => .excD (e _ _ h) (e _ _ hd) hf
theorem DenL.mono {H H' : Hp} (e : Ex H H') {vs : List V} {ds : List Dt} : DenL H vs ds → DenL H' vs ds
  | .nil => .nil
  | .cons h t => .cons (h.mono e) (t.mono e)
theorem DenK.mono {H H' : Hp} (e : Ex H H') {vs : List (Key × V)} {ds : List (Key × Dt)} : DenK H vs ds → DenK H' vs ds
  | .nil => .nil
  | .cons h t => .cons (h.mono e) (t.mono e)
end

section
variable {H H' : Hp} {v : V} {d : Dt} {vs xs : List V} {ds : List Dt} {a : Addr}
theorem Den.rawI {w : V} (h : Den H v (.raw w)) : v = w := by cases h; rfl
theorem Den.lstI (h : Den H v (.lst ds)) : ∃ a xs, v = .ref a ∧ H a = some (.lst xs) ∧ DenL H xs ds := by
  cases h with | lst h l => exact ⟨_, _, rfl, h, l⟩
theorem Den.tupI (h : Den H v (.tup ds)) : ∃ a xs, v = .ref a ∧ H a = some (.tup xs) ∧ DenL H xs ds := by
  cases h with | tup h l => exact ⟨_, _, rfl, h, l⟩
theorem Den.dctI {ks : List (Key × Dt)} (h : Den H v (.dct ks)) : ∃ a kvs, v = .ref a ∧ H a = some (.dK kvs) ∧ DenK H kvs ks := by
  cases h with | dct h l => exact ⟨_, _, rfl, h, l⟩
theorem DenL.len (h : DenL H vs ds) : vs.length = ds.length := by
  induction vs generalizing ds with
  | nil => cases h; rfl
  | cons v vs ih => cases h with | cons h t => rw [List.length_cons, List.length_cons, ih t]
theorem DenL.nilI (h : DenL H vs []) : vs = [] := by cases h; rfl
theorem DenL.consI (h : DenL H vs (d :: ds)) : ∃ v r, vs = v :: r ∧ Den H v d ∧ DenL H r ds := by
  cases h with | cons h t => exact ⟨_, _, rfl, h, t⟩
theorem DenL.get (h : DenL H vs ds) : ∀ {i : Nat}, ds[i]? = some d → ∃ v, vs[i]? = some v ∧ Den H v d := by
  induction vs generalizing ds with
  | nil => cases h; intro i e; simp at e
  | cons w vs ih =>
    cases h with
    | cons h t =>
      intro i e
      cases i with
      | zero =>
        have e' : some _ = some d := e
        cases e'
        exact ⟨w, rfl, h⟩
      | succ i => exact ih t (i := i) (by simpa using e)
theorem DenL.getV (h : DenL H vs ds) : ∀ {i : Nat}, vs[i]? = some v → ∃ d, ds[i]? = some d ∧ Den H v d := by
  induction vs generalizing ds with
  | nil => cases h; intro i e; simp at e
  | cons w vs ih =>
    cases h with
    | cons h t =>
      intro i e
      cases i with
      | zero =>
        have e' : some w = some v := e
        cases e'
        exact ⟨_, rfl, h⟩
      | succ i => exact ih t (i := i) (by simpa using e)
theorem DenL.app {ws : List V} {es : List Dt} (h : DenL H vs ds) (g : DenL H ws es) : DenL H (vs ++ ws) (ds ++ es) := by
  induction vs generalizing ds with
  | nil => cases h; exact g
  | cons v vs ih => cases h with | cons h t => exact .cons h (ih t)
theorem DenL.take (h : DenL H vs ds) (n : Nat) : DenL H (vs.take n) (ds.take n) := by
  induction vs generalizing ds n with
  | nil => cases h; simpa using DenL.nil
  | cons v vs ih =>
    cases h with
    | cons h t =>
      cases n with
      | zero => simpa using DenL.nil
      | succ n => simpa using DenL.cons h (ih t n)
theorem DenL.drop (h : DenL H vs ds) (n : Nat) : DenL H (vs.drop n) (ds.drop n) := by
  induction vs generalizing ds n with
  | nil => cases h; simpa using DenL.nil
  | cons v vs ih =>
    cases n with
    | zero => simpa using h
    | succ n => cases h with | cons h t => simpa using ih t n
theorem DenL.ints {ns : List Int} (h : DenL H vs (ns.map dI)) : vs = ns.map V.int := by
  induction ns generalizing vs with
  | nil => exact h.nilI
  | cons n ns ih =>
    obtain ⟨v, r, rfl, h1, h2⟩ := h.consI
    rw [h1.rawI, ih h2] <;> rfl
theorem DenL.ofInts {ns : List Int} : DenL H (ns.map V.int) (ns.map dI) := by
  induction ns with
  | nil => exact .nil
  | cons n ns ih => exact .cons (.raw _) ih
theorem DenL.raws {ws : List V} : DenL H ws (ws.map .raw) := by
  induction ws with
  | nil => exact .nil
  | cons n ns ih => exact .cons (.raw _) ih
end

/-! ### stores of data -/
abbrev Sto := List (Option Dt)
structure DenS (H : Hp) (σ : L2.St) (δ : Sto) : Prop where
  len : σ.length = δ.length
  at_ : ∀ (i : Nat) (d : Dt), δ[i]? = some (some d) → ∃ v : V, σ[i]? = some (some v) ∧ Den H v d
theorem DenS.mono {H H' : Hp} {σ : L2.St} {δ : Sto} (e : Ex H H') (S : DenS H σ δ) : DenS H' σ δ := ⟨S.len, fun i d h => by
  obtain ⟨v, h1, h2⟩ := S.at_ i d h
  exact ⟨v, h1, h2.mono e⟩⟩
theorem DenS.set {H : Hp} {σ : L2.St} {δ : Sto} {i : Nat} {v : V} {d : Dt} (S : DenS H σ δ) (h : Den H v d) : DenS H (σ.set i (some v)) (δ.set i (some d)) := by
  refine ⟨by rw [List.length_set, List.length_set, S.len], fun j e hj => ?_⟩
  by_cases hij : i = j
  · subst hij
    by_cases hl : i < δ.length
    · rw [List.getElem?_set_self hl] at hj
      cases hj
      exact ⟨v, by rw [List.getElem?_set_self (by rw [S.len]; exact hl)], h⟩
    · rw [List.getElem?_eq_none (by rw [List.length_set]; omega)] at hj
      cases hj
  · rw [List.getElem?_set_ne hij] at hj
    rw [List.getElem?_set_ne hij]
    exact S.at_ j e hj
theorem DenS.drop1 {H : Hp} {σ : L2.St} {δ : Sto} (i : Nat) (S : DenS H σ δ) : DenS H σ (δ.set i none) := by
  refine ⟨by rw [List.length_set, S.len], fun j e hj => ?_⟩
  by_cases hij : i = j
  · subst hij
    by_cases hl : i < δ.length
    · rw [List.getElem?_set_self hl] at hj
      cases hj
    · rw [List.getElem?_eq_none (by rw [List.length_set]; omega)] at hj
      cases hj
  · rw [List.getElem?_set_ne hij] at hj
    exact S.at_ j e hj
def startD (N : List Str) (ds : List Dt) : Sto := ds.map some ++ List.replicate (N.length - ds.length) none
theorem DenS.start {H : Hp} {N : List Str} {vs : List V} {ds : List Dt} (h : DenL H vs ds) : DenS H (L2.start N vs) (startD N ds) := by
  have hl := h.len
  refine ⟨?_, fun i d e => ?_⟩
  · unfold L2.start startD
    simp [hl]
  · unfold startD at e
    unfold L2.start
    by_cases hi : i < ds.length
    · rw [List.getElem?_append_left (by simpa using hi), List.getElem?_map] at e
      cases q : ds[i]? with
      | none => rw [q] at e; cases e
      | some d' =>
        rw [q] at e
        cases e
        obtain ⟨v, h1, h2⟩ := h.get q
        refine ⟨v, ?_, h2⟩
        rw [List.getElem?_append_left (by simp [hl]; exact hi), List.getElem?_map, h1]
        rfl
    · rw [List.getElem?_append_right (by simpa using hi)] at e
      rw [List.getElem?_replicate] at e
      split at e <;> cases e

/-! ### what an expression gives -/
def EvS (te : TE) (δ : Sto) (d : Dt) : Prop := ∀ (σ : L2.St) (H : Hp) (Q : VK), DenS H σ δ → (∀ v H', Ex H H' → Den H' v d → Q v H') → te σ H Q
def EtS (tt : TT) (δ : Sto) (b : Bool) : Prop := ∀ (σ : L2.St) (H : Hp) (Q : Bool → Hp → Prop), DenS H σ δ → (∀ H', Ex H H' → Q b H') → tt σ H Q
def EaS (ta : TA) (δ : Sto) (ds : List Dt) : Prop := ∀ (σ : L2.St) (H : Hp) (Q : List V → Hp → Prop), DenS H σ δ → (∀ vs H', Ex H H' → DenL H' vs ds → Q vs H') → ta σ H Q
def EoS (to : TO) (δ : Sto) (o : Option Int) : Prop := ∀ (σ : L2.St) (H : Hp) (Q : Option Int → Hp → Prop), DenS H σ δ → (∀ H', Ex H H' → Q o H') → to σ H Q
/-- operations on data -/
def OpD (r : R2) (x y z : Dt) : Prop := ∀ (v w : V) (H : Hp) (Q : VK), Den H v x → Den H w y → (∀ u H', Ex H H' → Den H' u z → Q u H') → r v w H Q
def UnD (r : V → Hp → VK → Prop) (x z : Dt) : Prop := ∀ (v : V) (H : Hp) (Q : VK), Den H v x → (∀ u H', Ex H H' → Den H' u z → Q u H') → r v H Q
def CaD (r : List V → Hp → VK → Prop) (ds : List Dt) (z : Dt) : Prop := ∀ (vs : List V) (H : Hp) (Q : VK), DenL H vs ds → (∀ u H', Ex H H' → Den H' u z → Q u H') → r vs H Q
def SpD (sp : Sp) (ds : List Dt) (z : Dt) : Prop := ∀ (vs : List V) (H : Hp) (Q : VK) (E : XK), DenL H vs ds → (∀ u H', Ex H H' → Den H' u z → Q u H') → sp vs H Q E

section
variable {K : PySem.W.Frag} {δ : Sto} {ta tb tc te : TE} {t u : TT} {x y z d e : Dt} {r r' : R2} {ds : List Dt}
theorem ev_var {i : Nat} (h : δ[i]? = some (some d)) : EvS (tVar i) δ d := fun σ H Q S q => by
  obtain ⟨v, h1, h2⟩ := S.at_ i d h
  exact ⟨v, h1, q v H (Evl.Ex.refl H) h2⟩
theorem ev_c {v : V} : EvS (tC v) δ (.raw v) := fun σ H Q S q => q v H (Evl.Ex.refl H) (.raw v)
theorem ev_op (ha : EvS ta δ x) (hb : EvS tb δ y) (hr : OpD r x y z) : EvS (tOp r ta tb) δ z := fun σ H Q S q =>
  ha σ H _ S fun v H1 e1 d1 => hb σ H1 _ (S.mono e1) fun w H2 e2 d2 => hr v w H2 Q (d1.mono e2) d2 fun u H3 e3 d3 => q u H3 ((e1.trans e2).trans e3) d3
theorem ev_un {r : V → Hp → VK → Prop} (ha : EvS ta δ x) (hr : UnD r x z) : EvS (tUn r ta) δ z := fun σ H Q S q =>
  ha σ H _ S fun v H1 e1 d1 => hr v H1 Q d1 fun u H2 e2 d2 => q u H2 (e1.trans e2) d2
theorem ev_eq (h : EvS te δ d) (e' : d = e) : EvS te δ e := e' ▸ h
theorem et_eq {b c : Bool} (h : EtS t δ b) (e' : b = c) : EtS t δ c := e' ▸ h
theorem ea_nil : EaS tNil δ [] := fun σ H Q S q => q [] H (Evl.Ex.refl H) .nil
theorem ea_cons {tr : TA} (h : EvS ta δ d) (hr : EaS tr δ ds) : EaS (tCons ta tr) δ (d :: ds) := fun σ H Q S q =>
  h σ H _ S fun v H1 e1 d1 => hr σ H1 _ (S.mono e1) fun vs H2 e2 d2 => q (v :: vs) H2 (e1.trans e2) (.cons (d1.mono e2) d2)
theorem ev_tup {ta : TA} (h : EaS ta δ ds) (hl : ds.length ≤ 100000) : EvS (tTup ta) δ (.tup ds) := fun σ H Q S q =>
  h σ H _ S fun vs H1 e1 d1 => ⟨by rw [d1.len]; exact Evl.sz_of hl, fun p hp => q _ _ (e1.trans (Evl.Ex.new hp)) (.tup upd_same (d1.mono (Evl.Ex.new hp)))⟩
theorem ev_lst {ta : TA} (h : EaS ta δ ds) (hl : ds.length ≤ 100000) : EvS (tLst ta) δ (.lst ds) := fun σ H Q S q =>
  h σ H _ S fun vs H1 e1 d1 => ⟨by rw [d1.len]; exact Evl.sz_of hl, fun p hp => q _ _ (e1.trans (Evl.Ex.new hp)) (.lst upd_same (d1.mono (Evl.Ex.new hp)))⟩
theorem eo_none : EoS tNoPart δ none := fun σ H Q S q => q H (Evl.Ex.refl H)
theorem eo_some {i : Int} (h : EvS te δ (dI i)) : EoS (tPart te) δ (some i) := fun σ H Q S q =>
  h σ H _ S fun v H1 e1 d1 => ⟨i, d1.rawI, q H1 e1⟩
theorem ev_cb {r : List V → Hp → VK → Prop} {ta : TA} (h : EaS ta δ ds) (hr : CaD r ds z) : EvS (tCB r ta) δ z := fun σ H Q S q =>
  h σ H _ S fun vs H1 e1 d1 => hr vs H1 Q d1 fun u H2 e2 d2 => q u H2 (e1.trans e2) d2
theorem ev_call {sp : Sp} {E : XK} {ta : TA} (h : EaS ta δ ds) (hs : SpD sp ds z) : EvS (tCall sp [] E ta) δ z := fun σ H Q S q =>
  h σ H _ S fun vs H1 e1 d1 => by
    show sp (vs ++ []) H1 Q E
    rw [List.append_nil]
    exact hs vs H1 Q E d1 fun u H2 e2 d2 => q u H2 (e1.trans e2) d2
theorem ev_call0 {sp : Sp} {E : XK} (hs : SpD sp [] z) : EvS (tCall sp [] E tNil) δ z := ev_call ea_nil hs
theorem ev_if {b : Bool} (h : EtS t δ b) (h1 : b = true → EvS ta δ d) (h2 : b = false → EvS tb δ d) : EvS (tIf t ta tb) δ d := fun σ H Q S q => h σ H _ S fun H1 e1 => by
  cases b with
  | true =>
    show ta σ H1 Q
    exact h1 rfl σ H1 Q (S.mono e1) fun v H2 e2 d2 => q v H2 (e1.trans e2) d2
  | false =>
    show tb σ H1 Q
    exact h2 rfl σ H1 Q (S.mono e1) fun v H2 e2 d2 => q v H2 (e1.trans e2) d2
theorem ev_chain {a b : Bool} (ha : EvS ta δ x) (hb : EvS tb δ y) (hr : OpD r x y (dB a)) (hc : a = true → EvS tc δ z) (hr' : a = true → OpD r' y z (dB b)) : EvS (tChain r r' ta tb tc) δ (dB (a && b)) := fun σ H Q S q =>
  ha σ H _ S fun v H1 e1 d1 => hb σ H1 _ (S.mono e1) fun w H2 e2 d2 => hr v w H2 _ (d1.mono e2) d2 fun u H3 e3 d3 => ⟨a, d3.rawI, by
    cases a with
    | true =>
      show tc σ H3 fun w' H4 => r' w w' H4 Q
      exact hc rfl σ H3 _ (S.mono ((e1.trans e2).trans e3)) fun w' H4 e4 d4 => hr' rfl w w' H4 Q (d2.mono (e3.trans e4)) d4 fun u' H5 e5 d5 => q u' H5 ((((e1.trans e2).trans e3).trans e4).trans e5) d5
    | false =>
      show Q (.bl false) H3
      exact q _ H3 ((e1.trans e2).trans e3) (.raw _)⟩
theorem ev_andV {a b : Bool} (h1 : EvS ta δ (dB a)) (h2 : a = true → EvS tb δ (dB b)) : EvS (tAndV ta tb) δ (dB (a && b)) := fun σ H Q S q => h1 σ H _ S fun v H1 e1 d1 => ⟨a, d1.rawI, by
  cases a with
  | true =>
    show tb σ H1 Q
    exact h2 rfl σ H1 Q (S.mono e1) fun v H2 e2 d2 => q v H2 (e1.trans e2) d2
  | false =>
    show Q (.bl false) H1
    exact q _ H1 e1 (.raw _)⟩
theorem ev_orV {a b : Bool} (h1 : EvS ta δ (dB a)) (h2 : a = false → EvS tb δ (dB b)) : EvS (tOrV ta tb) δ (dB (a || b)) := fun σ H Q S q => h1 σ H _ S fun v H1 e1 d1 => ⟨a, d1.rawI, by
  cases a with
  | true =>
    show Q (.bl true) H1
    exact q _ H1 e1 (.raw _)
  | false =>
    show tb σ H1 Q
    exact h2 rfl σ H1 Q (S.mono e1) fun v H2 e2 d2 => q v H2 (e1.trans e2) d2⟩
theorem ev_notV {a : Bool} (h1 : EvS ta δ (dB a)) : EvS (tNotV ta) δ (dB (!a)) := fun σ H Q S q => h1 σ H _ S fun v H1 e1 d1 => ⟨a, d1.rawI, q _ H1 e1 (.raw _)⟩
/-! tests -/
theorem et_test {b : Bool} (h : EvS te δ (dB b)) : EtS (tTest te) δ b := fun σ H Q S q => h σ H _ S fun v H1 e1 d1 => ⟨b, d1.rawI, q H1 e1⟩
theorem et_B {b : Bool} (h : EvS te δ (dB b)) : EtS (tB te) δ b := fun σ H Q S q => h σ H _ S fun v H1 e1 d1 => ⟨b, d1.rawI, q H1 e1⟩
theorem et_and {a b : Bool} (h1 : EtS t δ a) (h2 : a = true → EtS u δ b) : EtS (tAnd t u) δ (a && b) := fun σ H Q S q => h1 σ H _ S fun H1 e1 => by
  cases a with
  | true =>
    show u σ H1 Q
    exact h2 rfl σ H1 Q (S.mono e1) fun H2 e2 => q H2 (e1.trans e2)
  | false =>
    show Q false H1
    exact q H1 e1
theorem et_or {a b : Bool} (h1 : EtS t δ a) (h2 : a = false → EtS u δ b) : EtS (tOr t u) δ (a || b) := fun σ H Q S q => h1 σ H _ S fun H1 e1 => by
  cases a with
  | true =>
    show Q true H1
    exact q H1 e1
  | false =>
    show u σ H1 Q
    exact h2 rfl σ H1 Q (S.mono e1) fun H2 e2 => q H2 (e1.trans e2)
theorem et_not {a : Bool} (h1 : EtS t δ a) : EtS (tNot t) δ (!a) := fun σ H Q S q => h1 σ H _ S fun H1 e1 => q H1 e1
theorem et_yes : EtS tYes δ true := fun σ H Q S q => q H (Evl.Ex.refl H)
/-! operations -/
theorem od_I0 {g : Int → Int → V} {i j : Int} : OpD (rI0 g) (dI i) (dI j) (.raw (g i j)) := fun v w H Q h1 h2 q => ⟨i, j, h1.rawI, h2.rawI, q _ H (Evl.Ex.refl H) (.raw _)⟩
theorem od_I {C : Int → Int → Prop} {g : Int → Int → V} {i j : Int} (hc : C i j) : OpD (rI C g) (dI i) (dI j) (.raw (g i j)) := fun v w H Q h1 h2 q => ⟨i, j, h1.rawI, h2.rawI, hc, q _ H (Evl.Ex.refl H) (.raw _)⟩
theorem ud_U {g : Int → V} {i : Int} : UnD (rU g) (dI i) (.raw (g i)) := fun v H Q h q => ⟨i, h.rawI, q _ H (Evl.Ex.refl H) (.raw _)⟩
theorem od_eq {v w : V} (hs : scal v w = true) : OpD rEq (.raw v) (.raw w) (dB (decide (v = w))) := fun a b H Q h1 h2 q => by
  rw [h1.rawI, h2.rawI]
  exact ⟨hs, q _ H (Evl.Ex.refl H) (.raw _)⟩
theorem od_ne {v w : V} (hs : scal v w = true) : OpD rNe (.raw v) (.raw w) (dB (!decide (v = w))) := fun a b H Q h1 h2 q => by
  rw [h1.rawI, h2.rawI]
  exact ⟨hs, q _ H (Evl.Ex.refl H) (.raw _)⟩
theorem od_eqI {i j : Int} : OpD rEq (dI i) (dI j) (dB (decide (i = j))) := fun a b H Q h1 h2 q => by
  rw [h1.rawI, h2.rawI]
  refine ⟨rfl, q _ H (Evl.Ex.refl H) ?_⟩
  rw [dec_int, show decide (i = j) = (i == j) from by by_cases e : i = j <;> simp [e]]
  exact .raw _
theorem od_neI {i j : Int} : OpD rNe (dI i) (dI j) (dB (!decide (i = j))) := fun a b H Q h1 h2 q => by
  rw [h1.rawI, h2.rawI]
  refine ⟨rfl, q _ H (Evl.Ex.refl H) ?_⟩
  rw [dec_int, show decide (i = j) = (i == j) from by by_cases e : i = j <;> simp [e]]
  exact .raw _
theorem od_eqB {i j : Bool} : OpD rEq (dB i) (dB j) (dB (i == j)) := fun a b H Q h1 h2 q => by
  rw [h1.rawI, h2.rawI]
  refine ⟨rfl, q _ H (Evl.Ex.refl H) ?_⟩
  rw [dec_bl]
  exact .raw _
theorem od_isB {i j : Bool} : OpD rIsB (dB i) (dB j) (dB (decide (i = j))) := fun a b H Q h1 h2 q => ⟨i, j, h1.rawI, h2.rawI, q _ H (Evl.Ex.refl H) (.raw _)⟩
theorem od_notB {i j : Bool} : OpD rNotB (dB i) (dB j) (dB (!decide (i = j))) := fun a b H Q h1 h2 q => ⟨i, j, h1.rawI, h2.rawI, q _ H (Evl.Ex.refl H) (.raw _)⟩
theorem at_get {α : Type} {l : List α} {i : Int} {x : α} (h0 : 0 ≤ i) (h : l[i.toNat]? = some x) : atI l i = some x := by
  have e : i = ((i.toNat : Nat) : Int) := by omega
  rw [e]
  exact atI_nat h
theorem od_ixL {i : Int} (h0 : 0 ≤ i) (h : ds[i.toNat]? = some z) : OpD (rIxL K) (.lst ds) (dI i) z := fun v w H Q h1 h2 q => by
  obtain ⟨a, xs, rfl, ha, hl⟩ := h1.lstI
  obtain ⟨v, e1, e2⟩ := hl.get h
  exact ⟨a, xs, i, v, rfl, h2.rawI, SqL.of ha, at_get h0 e1, q _ H (Evl.Ex.refl H) e2⟩
theorem od_ixT {i : Int} (h0 : 0 ≤ i) (h : ds[i.toNat]? = some z) : OpD (rIxT K) (.tup ds) (dI i) z := fun v w H Q h1 h2 q => by
  obtain ⟨a, xs, rfl, ha, hl⟩ := h1.tupI
  obtain ⟨v, e1, e2⟩ := hl.get h
  exact ⟨a, xs, i, v, rfl, h2.rawI, SqT.of ha, at_get h0 e1, q _ H (Evl.Ex.refl H) e2⟩
theorem od_ixSeqT {i : Int} (h0 : 0 ≤ i) (h : ds[i.toNat]? = some z) : OpD (rIx K) (.tup ds) (dI i) z := fun v w H Q h1 h2 q => .inr (.inl (od_ixT h0 h v w H Q h1 h2 q))
theorem od_ixSeqL {i : Int} (h0 : 0 ≤ i) (h : ds[i.toNat]? = some z) : OpD (rIx K) (.lst ds) (dI i) z := fun v w H Q h1 h2 q => .inl (od_ixL h0 h v w H Q h1 h2 q)
theorem od_cat {es : List Dt} (hl : ds.length + es.length ≤ 100000) : OpD rCat (.lst ds) (.lst es) (.lst (ds ++ es)) := fun v w H Q h1 h2 q => by
  obtain ⟨a, xs, rfl, ha, la⟩ := h1.lstI
  obtain ⟨b, ys, rfl, hb, lb⟩ := h2.lstI
  exact ⟨a, b, xs, ys, rfl, rfl, ha, hb, by rw [la.len, lb.len]; exact Evl.sz_of hl, fun p hp => q _ _ (Evl.Ex.new hp) (.lst upd_same ((la.app lb).mono (Evl.Ex.new hp)))⟩
theorem od_catT {es : List Dt} (hn : ds ≠ []) (hm : es ≠ []) (hl : ds.length + es.length ≤ 100000) : OpD (rCatT K) (.tup ds) (.tup es) (.tup (ds ++ es)) := fun v w H Q h1 h2 q => by
  obtain ⟨a, xs, rfl, ha, la⟩ := h1.tupI
  obtain ⟨b, ys, rfl, hb, lb⟩ := h2.tupI
  have nx : xs ≠ [] := fun z => hn (by cases ds with | nil => rfl | cons _ _ => rw [z] at la; cases la)
  have ny : ys ≠ [] := fun z => hm (by cases es with | nil => rfl | cons _ _ => rw [z] at lb; cases lb)
  exact ⟨a, b, xs, ys, rfl, rfl, SqT.of ha, SqT.of hb, nx, by rw [la.len, lb.len]; exact Evl.sz_of hl, fun z => absurd z ny, fun _ p hp => q _ _ (Evl.Ex.new hp) (.tup upd_same ((la.app lb).mono (Evl.Ex.new hp)))⟩
end

/-! ### what a block leaves -/
/-- from the store δ: N of the store behind, R of what is handed back, B at a break, C at a continue -/
def Hs (t : TS) (δ : Sto) (N : Sto → Prop) (R : Dt → Prop) (B : Sto → Prop) (C : Sto → Prop) : Prop :=
  ∀ (σ : L2.St) (H : Hp) (D : Ends), DenS H σ δ → (∀ σ' H' δ', Ex H H' → DenS H' σ' δ' → N δ' → D.nx σ' H') → (∀ v H' d, Ex H H' → Den H' v d → R d → D.rt v H') →
    (∀ σ' H' δ', Ex H H' → DenS H' σ' δ' → B δ' → D.bk σ' H') → (∀ σ' H' δ', Ex H H' → DenS H' σ' δ' → C δ' → D.ct σ' H') → t D σ H
abbrev noS : Sto → Prop := fun _ => False
abbrev noD : Dt → Prop := fun _ => False
section
variable {K : PySem.W.Frag} {δ δ' : Sto} {te : TE} {tc : TT} {t u w : TS} {d : Dt} {N N' B C : Sto → Prop} {R : Dt → Prop}
theorem hs_asg {i : Nat} (h : EvS te δ d) (n : N (δ.set i (some d))) : Hs (tAsg te (gName i)) δ N R B C := fun σ H D S hn _ _ _ =>
  h σ H _ S fun v H1 e1 d1 => hn _ H1 _ e1 ((S.mono e1).set d1) n
theorem hs_seq (h : Hs t δ N' R B C) (k : ∀ δ', N' δ' → Hs u δ' N R B C) : Hs (tSeq t u) δ N R B C := fun σ H D S hn hr hb hc =>
  h σ H { D with nx := u D } S (fun σ' H' δ' e1 S1 n => k δ' n σ' H' D S1 (fun σ2 H2 δ2 e2 S2 n2 => hn σ2 H2 δ2 (e1.trans e2) S2 n2) (fun v H2 d e2 d2 r => hr v H2 d (e1.trans e2) d2 r)
    (fun σ2 H2 δ2 e2 S2 n2 => hb σ2 H2 δ2 (e1.trans e2) S2 n2) (fun σ2 H2 δ2 e2 S2 n2 => hc σ2 H2 δ2 (e1.trans e2) S2 n2)) hr hb hc
/-- x = e, then the rest -/
theorem hq_asg {i : Nat} (h : EvS te δ d) (k : Hs u (δ.set i (some d)) N R B C) : Hs (tSeq (tAsg te (gName i)) u) δ N R B C := hs_seq (N' := fun δ' => δ' = δ.set i (some d)) (hs_asg h rfl) fun _ e => by rw [e]; exact k
theorem hs_ret (h : EvS te δ d) (r : R d) : Hs (tRet te) δ N R B C := fun σ H D S _ hr _ _ => h σ H _ S fun v H1 e1 d1 => hr v H1 d e1 d1 r
theorem hs_retN (r : R dN) : Hs tRetN δ N R B C := fun σ H D S _ hr _ _ => hr .non H dN (Evl.Ex.refl H) (.raw _) r
theorem hs_next (n : N δ) : Hs tNext δ N R B C := fun σ H D S hn _ _ _ => hn σ H δ (Evl.Ex.refl H) S n
theorem hs_break (n : B δ) : Hs tBreak δ N R B C := fun σ H D S _ _ hb _ => hb σ H δ (Evl.Ex.refl H) S n
theorem hs_cont (n : C δ) : Hs tCont δ N R B C := fun σ H D S _ _ _ hc => hc σ H δ (Evl.Ex.refl H) S n
theorem hs_drop (h : EvS te δ d) (n : N δ) : Hs (tDrop te) δ N R B C := fun σ H D S hn _ _ _ => h σ H _ S fun v H1 e1 d1 => hn σ H1 δ e1 (S.mono e1) n
theorem hq_drop (h : EvS te δ d) (k : Hs u δ N R B C) : Hs (tSeq (tDrop te) u) δ N R B C := hs_seq (N' := fun δ' => δ' = δ) (hs_drop h rfl) fun _ e => by rw [e]; exact k
theorem hs_if {b : Bool} (h : EtS tc δ b) (h1 : b = true → Hs t δ N R B C) (h2 : b = false → Hs u δ N R B C) : Hs (tIfS tc t u) δ N R B C := fun σ H D S hn hr hb hc => h σ H _ S fun H1 e1 => by
  have up : ∀ {P : L2.St → Hp → Prop} {M : Sto → Prop}, (∀ σ' H' δ', Ex H H' → DenS H' σ' δ' → M δ' → P σ' H') → ∀ σ' H' δ', Ex H1 H' → DenS H' σ' δ' → M δ' → P σ' H' := fun f σ' H' δ' e S' m => f σ' H' δ' (e1.trans e) S' m
  cases b with
  | true =>
    show t D σ H1
    exact h1 rfl σ H1 D (S.mono e1) (up hn) (fun v H2 d e2 d2 r => hr v H2 d (e1.trans e2) d2 r) (up hb) (up hc)
  | false =>
    show u D σ H1
    exact h2 rfl σ H1 D (S.mono e1) (up hn) (fun v H2 d e2 d2 r => hr v H2 d (e1.trans e2) d2 r) (up hb) (up hc)
/-- if c: t (and no else), then the rest; t leaves -/
theorem hq_when {b : Bool} (h : EtS tc δ b) (h1 : b = true → Hs t δ noS R B C) (h2 : b = false → Hs u δ N R B C) : Hs (tSeq (tIfS tc t tNext) u) δ N R B C := hs_seq (N' := fun δ' => b = false ∧ δ' = δ)
  (hs_if h (fun e => fun σ H D S _ hr hb hc => h1 e σ H D S (fun _ _ _ _ _ z => z.elim) hr hb hc) fun e => hs_next ⟨e, rfl⟩) fun _ ⟨e, e'⟩ => by rw [e']; exact h2 e
theorem hs_imp {R' : Dt → Prop} {B' C' : Sto → Prop} (h : Hs t δ N' R' B' C') (n : ∀ x, N' x → N x) (r : ∀ x, R' x → R x) (b : ∀ x, B' x → B x) (c : ∀ x, C' x → C x) : Hs t δ N R B C := fun σ H D S hn hr hb hc =>
  h σ H D S (fun σ' H' δ' e S' m => hn σ' H' δ' e S' (n _ m)) (fun v H' d e d' m => hr v H' d e d' (r _ m)) (fun σ' H' δ' e S' m => hb σ' H' δ' e S' (b _ m)) (fun σ' H' δ' e S' m => hc σ' H' δ' e S' (c _ m))
/-- a, b = c, d -/
theorem hs_par {i j : Nat} {ta : TA} {x y : Dt} (h : EaS ta δ [x, y]) (n : N ((δ.set i (some x)).set j (some y))) : Hs (tPar i j ta) δ N R B C := fun σ H D S hn _ _ _ =>
  h σ H _ S fun vs H1 e1 d1 => by
    obtain ⟨v, r, rfl, dv, dr⟩ := d1.consI
    obtain ⟨w', r', rfl, dw, dr'⟩ := dr.consI
    obtain rfl := dr'.nilI
    exact ⟨v, w', rfl, hn _ H1 _ e1 (((S.mono e1).set dv).set dw) n⟩
theorem hq_par {i j : Nat} {ta : TA} {x y : Dt} (h : EaS ta δ [x, y]) (k : Hs u ((δ.set i (some x)).set j (some y)) N R B C) : Hs (tSeq (tPar i j ta) u) δ N R B C :=
  hs_seq (N' := fun δ' => δ' = (δ.set i (some x)).set j (some y)) (hs_par h rfl) fun _ e => by rw [e]; exact k
/-- a, b = t -/
theorem hs_un2 {i j : Nat} {x y : Dt} (h : EvS te δ (.tup [x, y])) (n : N ((δ.set i (some x)).set j (some y))) : Hs (tAsg te (gTup K 2 (gCons (gName i) (gCons (gName j) gNil)))) δ N R B C := fun σ H D S hn _ _ _ =>
  h σ H _ S fun v H1 e1 d1 => by
    obtain ⟨a, xs, rfl, ha, hl⟩ := d1.tupI
    have hle := hl.len
    obtain ⟨v1, r, rfl, dv, dr⟩ := hl.consI
    obtain ⟨v2, r', rfl, dw, dr'⟩ := dr.consI
    obtain rfl := dr'.nilI
    exact ⟨a, _, rfl, SqT.of ha, rfl, v1, _, rfl, v2, _, rfl, rfl, hn _ H1 _ e1 (((S.mono e1).set dv).set dw) n⟩
theorem hq_un2 {i j : Nat} {x y : Dt} (h : EvS te δ (.tup [x, y])) (k : Hs u ((δ.set i (some x)).set j (some y)) N R B C) : Hs (tSeq (tAsg te (gTup K 2 (gCons (gName i) (gCons (gName j) gNil)))) u) δ N R B C :=
  hs_seq (N' := fun δ' => δ' = (δ.set i (some x)).set j (some y)) (hs_un2 h rfl) fun _ e => by rw [e]; exact k
/-- if c: t else: u, then the rest, the two ways told by one word -/
theorem hq_if {b : Bool} (h : EtS tc δ b) (h1 : b = true → Hs t δ N' R B C) (h2 : b = false → Hs u δ N' R B C) (k : ∀ δ', N' δ' → Hs w δ' N R B C) : Hs (tSeq (tIfS tc t u) w) δ N R B C := hs_seq (hs_if h h1 h2) k
/-- while -/
theorem hs_while (I : Nat → Sto → Prop) (m : Nat) (h0 : I m δ) (hs : ∀ m δ', I m δ' → ∃ b, EtS tc δ' b ∧ (b = true → Hs t δ' (fun x => ∃ k, k < m ∧ I k x) R N (fun x => ∃ k, k < m ∧ I k x)) ∧ (b = false → N δ')) : Hs (tWhile tc t) δ N R B C := fun σ H D S hn hr hb hc => by
  refine Evl.s_while (fun m σ' H' => Ex H H' ∧ ∃ δ', DenS H' σ' δ' ∧ I m δ') m ⟨Evl.Ex.refl H, δ, S, h0⟩ fun m σ' H' ⟨e1, δ', S1, i1⟩ => ?_
  obtain ⟨b, hb1, h1, h2⟩ := hs m δ' i1
  refine ⟨b, fun H1 e2 Q q => hb1 σ' H1 Q (S1.mono e2) q, fun eb H1 e2 => ?_, fun eb H1 e2 => hn σ' H1 δ' (e1.trans e2) (S1.mono e2) (h2 eb)⟩
  refine ⟨fun σ2 H2 => ∃ k, k < m ∧ (Ex H H2 ∧ ∃ δ2, DenS H2 σ2 δ2 ∧ I k δ2), fun σ2 H2 x => x, ?_⟩
  refine h1 eb σ' H1 _ (S1.mono e2) (fun σ2 H2 δ2 e3 S2 ⟨k, hk, i2⟩ => ⟨k, hk, (e1.trans e2).trans e3, δ2, S2, i2⟩) (fun v H2 d e3 d2 r => hr v H2 d ((e1.trans e2).trans e3) d2 r)
    (fun σ2 H2 δ2 e3 S2 n => hn σ2 H2 δ2 ((e1.trans e2).trans e3) S2 n) (fun σ2 H2 δ2 e3 S2 ⟨k, hk, i2⟩ => ⟨k, hk, (e1.trans e2).trans e3, δ2, S2, i2⟩)
end
/-- a def's promise over data: from arguments ds, where P holds, it hands back f ds -/
def spD (n : Nat) (P : List Dt → Prop) (f : List Dt → Dt) : Sp := fun vs H Q _ => ∃ ds, DenL H vs ds ∧ ds.length = n ∧ P ds ∧ ∀ v H', Ex H H' → Den H' v (f ds) → Q v H'
theorem spD_of {n : Nat} {P : List Dt → Prop} {f : List Dt → Dt} {ds : List Dt} (hn : ds.length = n) (hp : P ds) : SpD (spD n P f) ds (f ds) := fun vs H Q E d q => ⟨ds, d, hn, hp, q⟩
section
variable {P : Program} {w : World} {K : PySem.W.Frag} {mg : Str → Option Value} {base : Heap}
/-- a def proved over data -/
theorem Fun.okD {x qual : Str} {st : Stmt} {f : Addr} {fd : FuncData} {N ps : List Str} {k n : Nat} {Pr : List Dt → Prop} {g : List Dt → Dt} (F : L2.Fun K x qual st f fd) (S : FnScope N ps (defScope st)) (hn : n = ps.length)
    (hbody : ∀ (cdv : Value) (A : Around) (outer : List Env) (s : Shared) (H : Hp) (Q : VK) (E : XK), Room k (A.deeper (envOfC qual (defScope st) s.heap.objs.size f cdv)) →
      ∃ t, PSs (cxOf L2.CX0 P w K mg base N qual (defScope st) f cdv A outer s H E).nox (defBody st) t ∧ ∀ ds, ds.length = n → Pr ds → Hs t (startD N ds) (fun _ => g ds = dN) (fun d => d = g ds) noS noS) : FnOk P w K mg base L2.CX0 (k + 1) f fd ps (spD n Pr g) := by
  refine L2.Fun.ok F S (fun vs H Q E h => ?_) (fun cdv A outer s H vs Q E hr h => ?_)
  · obtain ⟨ds, hd, hl, _⟩ := h
    rw [hd.len, hl, hn]
  · obtain ⟨ds, hd, hl, hp, q⟩ := h
    obtain ⟨t, ht, hh⟩ := hbody cdv A outer s H Q E hr
    refine ⟨t, ht, hh ds hl hp (L2.start N vs) H _ (DenS.start hd) (fun σ' H' δ' e _ z => ?_) (fun v H' d e d' z => ?_) (fun _ _ _ _ _ z => z.elim) (fun _ _ _ _ _ z => z.elim)⟩
    · exact q .non H' e (by rw [z]; exact .raw _)
    · exact q v H' e (by rw [← z]; exact d')
end
end Dn
/-! Own layer, second part: operators of several kinds, built-ins, calls, what raises. -/
namespace Dn
open PySem PySem.Spec PyProof.Rows L2
open Evl (Ex)
theorem exR {H : Hp} : Ex H H := Evl.Ex.refl H

/-! ### operators of several kinds -/
def rAddU (K : PySem.W.Frag) : R2 := fun x y H Q => rI0 (fun i j => V.int (i + j)) x y H Q ∨ rCat x y H Q ∨ rCatT K x y H Q ∨ ∃ i j, x = V.str i ∧ y = V.str j ∧ i.length + j.length ≤ sizeLine ∧ Q (.str (i ++ j)) H
def rMulU : R2 := fun x y H Q => rI CMulW (fun i j => V.int (i * j)) x y H Q ∨ rRep x y H Q
def rEqU (K : PySem.W.Frag) : R2 := fun x y H Q => rEq x y H Q ∨ rEqD K x y H Q
def rNeU (K : PySem.W.Frag) : R2 := fun x y H Q => rNe x y H Q ∨ rNeD K x y H Q
section
variable {X : Cx}
theorem op_addU : OpR X (binaryOp .Add) (rAddU X.K) := op_add.or (op_cat.or (op_catT.or op_add_str))
theorem op_mulU : OpR X (binaryOp .Mult) rMulU := op_mulW.or op_rep
theorem op_eqU (hu : X.A.units + 64 < cLine) : OpR X (compareOp .Eq) (rEqU X.K) := op_eq.or (op_eqD hu)
theorem op_neU (hu : X.A.units + 64 < cLine) : OpR X (compareOp .NotEq) (rNeU X.K) := op_ne.or (op_neD hu)
end
section
variable {K : PySem.W.Frag} {ds es : List Dt} {i j : Int}
theorem od_addI : OpD (rAddU K) (dI i) (dI j) (dI (i + j)) := fun v w H Q h1 h2 q => .inl (od_I0 (g := fun i j => V.int (i + j)) v w H Q h1 h2 q)
theorem od_addL (hl : ds.length + es.length ≤ 100000) : OpD (rAddU K) (.lst ds) (.lst es) (.lst (ds ++ es)) := fun v w H Q h1 h2 q => .inr (.inl (od_cat hl v w H Q h1 h2 q))
theorem od_addT (hn : ds ≠ []) (hm : es ≠ []) (hl : ds.length + es.length ≤ 100000) : OpD (rAddU K) (.tup ds) (.tup es) (.tup (ds ++ es)) := fun v w H Q h1 h2 q => .inr (.inr (.inl (od_catT hn hm hl v w H Q h1 h2 q)))
theorem od_mulI (h : CMulW i j) : OpD rMulU (dI i) (dI j) (dI (i * j)) := fun v w H Q h1 h2 q => .inl (od_I (g := fun i j => V.int (i * j)) h v w H Q h1 h2 q)
theorem od_eqUI : OpD (rEqU K) (dI i) (dI j) (dB (decide (i = j))) := fun v w H Q h1 h2 q => .inl (od_eqI v w H Q h1 h2 q)
theorem od_neUI : OpD (rNeU K) (dI i) (dI j) (dB (!decide (i = j))) := fun v w H Q h1 h2 q => .inl (od_neI v w H Q h1 h2 q)
theorem od_eqUB {a b : Bool} : OpD (rEqU K) (dB a) (dB b) (dB (a == b)) := fun v w H Q h1 h2 q => .inl (od_eqB v w H Q h1 h2 q)
theorem od_neUB {a b : Bool} : OpD (rNeU K) (dB a) (dB b) (dB (!(a == b))) := fun v w H Q h1 h2 q => .inl (by
  rw [h1.rawI, h2.rawI]
  refine ⟨rfl, q _ H exR ?_⟩
  rw [dec_bl]
  exact .raw _)
end
/-! ### == of data -/
def pyV : V → Option PyData
  | .non => some .none
  | .bl b => some (.bool b)
  | .int i => some (.int i)
  | .str s => some (.str s)
  | _ => none
mutual
def py : Dt → Option PyData
  | .raw v => pyV v
  | .lst l => (pyL l).map .list
  | .tup l => (pyL l).map .tuple
  | .dct _ => none
  | .exc _ _ => none
def pyL : List Dt → Option (List PyData)
  | [] => some []
  | d :: l => (py d).bind fun p => (pyL l).map fun r => p :: r
end
mutual
theorem Den.dp {K : PySem.W.Frag} {H : Hp} {v : V} : ∀ {d : Dt} {p : PyData}, Den H v d → py d = some p → Dp K H v p
  | .raw w, p, h, e => by
    rw [h.rawI]
    unfold py at e
    cases w <;> simp only [pyV] at e <;> cases e
    · exact .non
    · exact .bl _
    · exact .int _
    · exact .str _
  | .lst l, p, h, e => by
    unfold py at e
    obtain ⟨ps, e1, e2⟩ := Option.map_eq_some_iff.mp e
    subst e2
    cases h with | lst ha hl => exact .lst (SqL.of ha) (hl.dp e1)
  | .tup l, p, h, e => by
    unfold py at e
    obtain ⟨ps, e1, e2⟩ := Option.map_eq_some_iff.mp e
    subst e2
    cases h with | tup ha hl => exact .tup (SqT.of ha) (hl.dp e1)
  | .dct _, p, h, e => by unfold py at e; cases e
  | .exc _ _, p, h, e => by unfold py at e; cases e
theorem DenL.dp {K : PySem.W.Frag} {H : Hp} : ∀ {l : List Dt} {vs : List V} {ps : List PyData}, DenL H vs l → pyL l = some ps → DpAll K H vs ps
  | [], vs, ps, h, e => by
    unfold pyL at e
    cases e
    rw [h.nilI]
    exact .nil
  | d :: l, vs, ps, h, e => by
    unfold pyL at e
    obtain ⟨p, e1, e2⟩ := Option.bind_eq_some_iff.mp e
    obtain ⟨r, e3, e4⟩ := Option.map_eq_some_iff.mp e2
    subst e4
    cases h with | cons h t => exact .cons (h.dp e1) (t.dp e3)
end
section
variable {K : PySem.W.Frag} {x y : Dt} {p q : PyData}
theorem od_eqUD (h1 : py x = some p) (h2 : py y = some q) (s1 : SeqAt.shaped p = true) (s2 : SeqAt.shaped q = true) : OpD (rEqU K) x y (dB (PyData.eqv p q)) := fun v w H Q d1 d2 k =>
  .inr ⟨p, q, d1.dp h1, d2.dp h2, s1, s2, k _ H exR (.raw _)⟩
theorem od_neUD (h1 : py x = some p) (h2 : py y = some q) (s1 : SeqAt.shaped p = true) (s2 : SeqAt.shaped q = true) : OpD (rNeU K) x y (dB (!PyData.eqv p q)) := fun v w H Q d1 d2 k =>
  .inr ⟨p, q, d1.dp h1, d2.dp h2, s1, s2, k _ H exR (.raw _)⟩
end
/-! ### type(x), is of types, len, list, isinstance -/
def tyD : Dt → Option String
  | .raw .non => some "NoneType"
  | .raw (.bl _) => some "bool"
  | .raw (.int _) => some "int"
  | .raw (.str _) => some "str"
  | .lst _ => some "list"
  | .tup _ => some "tuple"
  | .dct _ => some "dict"
  | _ => none
theorem tyB_of {K : PySem.W.Frag} {H : Hp} {v : V} : ∀ {d : Dt} {T : String}, Den H v d → tyD d = some T → TyB K H v T
  | .raw w, T, h, e => by
    rw [h.rawI]
    cases w <;> simp only [tyD] at e <;> cases e
    · exact .non
    · exact .bl _
    · exact .int _
    · exact .str _
  | .lst l, T, h, e => by
    simp only [tyD] at e
    cases e
    cases h with | lst ha _ => exact .lst (SqL.of ha)
  | .tup l, T, h, e => by
    simp only [tyD] at e
    cases e
    cases h with | tup ha _ => exact .tup (SqT.of ha)
  | .dct l, T, h, e => by
    simp only [tyD] at e
    cases e
    cases h with | dct ha _ => exact .dK ha
  | .exc _ _, T, h, e => by simp only [tyD] at e; cases e
theorem tyX_of {K : PySem.W.Frag} {H : Hp} {v : V} : ∀ {d : Dt} {T : String}, Den H v d → tyD d = some T → TyX K H v (.type T)
  | .raw w, T, h, e => by
    rw [h.rawI]
    cases w <;> simp only [tyD] at e <;> cases e
    · exact .base .non
    · exact .base (.bl _)
    · exact .base (.int _)
    · exact .base (.str _)
  | .lst l, T, h, e => by
    simp only [tyD] at e
    cases e
    cases h with | lst ha _ => exact .base (.lst ha)
  | .tup l, T, h, e => by
    simp only [tyD] at e
    cases e
    cases h with | tup ha _ => exact .base (.tup ha)
  | .dct l, T, h, e => by
    simp only [tyD] at e
    cases e
    cases h with | dct ha _ => exact .base (.dK ha)
  | .exc _ _, T, h, e => by simp only [tyD] at e; cases e
def rIsT : R2 := fun x y H Q => ∃ a b, x = .ty a ∧ y = .ty b ∧ Q (.bl (decide (a = b))) H
def rNoT : R2 := fun x y H Q => ∃ a b, x = .ty a ∧ y = .ty b ∧ Q (.bl (!decide (a = b))) H
def rIsNo : R2 := fun x y H Q => y = .non ∧ Q (.bl (decide (x = .non))) H
def rNoNo : R2 := fun x y H Q => y = .non ∧ Q (.bl (!decide (x = .non))) H
section
variable {X : Cx}
theorem op_isT : OpR X (compareOp .Is) rIsT := op_isTyB
theorem op_noT : OpR X (compareOp .IsNot) rNoT := op_notTyB
theorem op_isNo : OpR X (compareOp .Is) rIsNo := op_isN
theorem op_noNo : OpR X (compareOp .IsNot) rNoNo := op_notN
end
/-- None, of data -/
def noneD : Dt → Bool
  | .raw .non => true
  | _ => false
section
variable {K : PySem.W.Frag} {d : Dt} {ds : List Dt} {a b T U : String}
theorem ca_type (h : tyD d = some T) : CaD (rTyp K) [d] (.raw (.ty T)) := fun vs H Q h1 q => by
  obtain ⟨v, r, rfl, hd, hn⟩ := h1.consI
  obtain rfl := hn.nilI
  exact ⟨v, T, rfl, tyB_of hd h, q _ H exR (.raw _)⟩
theorem od_isT : OpD rIsT (.raw (.ty a)) (.raw (.ty b)) (dB (decide (a = b))) := fun v w H Q h1 h2 q => ⟨a, b, h1.rawI, h2.rawI, q _ H exR (.raw _)⟩
theorem od_noT : OpD rNoT (.raw (.ty a)) (.raw (.ty b)) (dB (!decide (a = b))) := fun v w H Q h1 h2 q => ⟨a, b, h1.rawI, h2.rawI, q _ H exR (.raw _)⟩
theorem den_none {H : Hp} {v : V} (h : Den H v d) : decide (v = .non) = noneD d := by
  cases h with
  | raw v => cases v <;> rfl
  | _ => rfl
theorem od_isNo : OpD rIsNo d dN (dB (noneD d)) := fun v w H Q h1 h2 q => ⟨h2.rawI, by rw [den_none h1]; exact q _ H exR (.raw _)⟩
theorem od_noNo : OpD rNoNo d dN (dB (!noneD d)) := fun v w H Q h1 h2 q => ⟨h2.rawI, by rw [den_none h1]; exact q _ H exR (.raw _)⟩
def rLenS (K : PySem.W.Frag) : List V → Hp → VK → Prop := fun xs H Q => ∃ p ys, xs = [.ref p] ∧ (SqL K H p ys ∨ SqT K H p ys) ∧ Q (.int ys.length) H
def rLenD : List V → Hp → VK → Prop := fun xs H Q => ∃ a kvs, xs = [V.ref a] ∧ H a = some (.dK kvs) ∧ Q (.int kvs.length) H
def rLenStr : List V → Hp → VK → Prop := fun xs H Q => ∃ z, xs = [V.str z] ∧ z.length ≤ sizeLine ∧ Q (.int z.length) H
def rListS (K : PySem.W.Frag) : List V → Hp → VK → Prop := fun xs H Q => ∃ p ys, xs = [.ref p] ∧ (SqL K H p ys ∨ SqT K H p ys) ∧ ∀ l, H l = none → Q (.ref l) (upd H l (.lst ys))
theorem ca_lenL : CaD (rLenS K) [.lst ds] (dI ds.length) := fun vs H Q h1 q => by
  obtain ⟨v, r, rfl, hd, hn⟩ := h1.consI
  obtain rfl := hn.nilI
  obtain ⟨a, xs, rfl, ha, hl⟩ := hd.lstI
  exact ⟨a, xs, rfl, .inl (SqL.of ha), by rw [hl.len]; exact q _ H exR (.raw _)⟩
theorem ca_lenT : CaD (rLenS K) [.tup ds] (dI ds.length) := fun vs H Q h1 q => by
  obtain ⟨v, r, rfl, hd, hn⟩ := h1.consI
  obtain rfl := hn.nilI
  obtain ⟨a, xs, rfl, ha, hl⟩ := hd.tupI
  exact ⟨a, xs, rfl, .inr (SqT.of ha), by rw [hl.len]; exact q _ H exR (.raw _)⟩
theorem ca_listL : CaD (rListS K) [.lst ds] (.lst ds) := fun vs H Q h1 q => by
  obtain ⟨v, r, rfl, hd, hn⟩ := h1.consI
  obtain rfl := hn.nilI
  obtain ⟨a, xs, rfl, ha, hl⟩ := hd.lstI
  exact ⟨a, xs, rfl, .inl (SqL.of ha), fun l hl' => q _ _ (Evl.Ex.new hl') (.lst upd_same (hl.mono (Evl.Ex.new hl')))⟩
theorem ca_listT : CaD (rListS K) [.tup ds] (.lst ds) := fun vs H Q h1 q => by
  obtain ⟨v, r, rfl, hd, hn⟩ := h1.consI
  obtain rfl := hn.nilI
  obtain ⟨a, xs, rfl, ha, hl⟩ := hd.tupI
  exact ⟨a, xs, rfl, .inr (SqT.of ha), fun l hl' => q _ _ (Evl.Ex.new hl') (.lst upd_same (hl.mono (Evl.Ex.new hl')))⟩
theorem ca_isi {b : Bool} (h : tyD d = some T) (hk : kitB T U = some b) : CaD (rIsi K) [d, .raw (.ty U)] (dB b) := fun vs H Q h1 q => by
  obtain ⟨v, r, rfl, hd, hn⟩ := h1.consI
  obtain ⟨v2, r2, rfl, hd2, hn2⟩ := hn.consI
  obtain rfl := hn2.nilI
  rw [hd2.rawI]
  exact ⟨v, .ty U, .type T, .type U, b, rfl, .ty U, tyX_of hd h, kit_ty hk, q _ H exR (.raw _)⟩
theorem ev_dnewK {δ : Sto} : EvS tDNewK δ (.dct []) := fun σ H Q S q => fun d hd => q _ _ (Evl.Ex.new hd) (.dct upd_same .nil)
end
/-! ### calls -/
/-- the def that the module's name x holds keeps the promise sp, by at most k levels -/
structure Cl (P : Program) (w : World) (K : PySem.W.Frag) (mg : Str → Option Value) (base : Heap) (CX : CXT) (k : Nat) (x : Str) (sp : Sp) : Prop where
  ex : ∃ (f : Addr) (fd : FuncData) (ps : List Str), FnOk P w K mg base CX k f fd ps sp ∧ mg x = some (.ref f) ∧ PySem.W.keepIn K (.ref f) = true ∧ Binds K fd ps []
section
variable {X : Cx} {CX : CXT} {k j : Nat} {x : Str} {sp : Sp} {E : XK} {p pos : Pos} {e : Expr} {es : List Expr} {t : TA}
theorem pe_cl (C : Cl X.prog X.w X.K X.mg X.base CX k x sp) (hr : Room j X.A) (hk : k ≤ j) (hx : Passes CX X E) (hg : Gl X x) (ha : PA X (e :: es) t) (hdb : (x == ("__debug__" : Str)) = false := by decide)
    (he : starEach (e :: es) X.env = (false, eval e X.env) :: starEach es X.env := by rfl) (hpl : (backTo pos (starEach es X.env)).any (·.1) = false := by rfl) : PE X (.Call (.Name x p) (e :: es) [] pos) (tCall sp [] E t) := by
  obtain ⟨f, fd, ps, F, m, kp, b⟩ := C.ex
  exact pe_call F (hr.mono hk) hg m kp b .nil hx ha (hdb := hdb) (he := he) (hpl := hpl)
theorem pe_cl0 (C : Cl X.prog X.w X.K X.mg X.base CX k x sp) (hr : Room j X.A) (hk : k ≤ j) (hx : Passes CX X E) (hg : Gl X x) (hdb : (x == ("__debug__" : Str)) = false := by decide) : PE X (.Call (.Name x p) [] [] pos) (tCall sp [] E tNil) := by
  obtain ⟨f, fd, ps, F, m, kp, b⟩ := C.ex
  exact pe_call0 F (hr.mono hk) hg m kp b .nil hx (hdb := hdb)
end
/-! ### what raises -/
abbrev Rs := Except Addr Dt
/-- the promise of a def that may raise -/
def spX (n : Nat) (P : List Dt → Prop) (f : List Dt → Rs) : Sp := fun vs H Q E => ∃ ds, DenL H vs ds ∧ ds.length = n ∧ P ds ∧ (∀ d, f ds = .ok d → ∀ v H', Ex H H' → Den H' v d → Q v H') ∧ ∀ C, f ds = .error C → ∀ H', Ex H H' → E (.ref C) none H'
def EvX (E : XK) (te : TE) (δ : Sto) (r : Rs) : Prop := ∀ (σ : L2.St) (H : Hp) (Q : VK), DenS H σ δ → (∀ d, r = .ok d → ∀ v H', Ex H H' → Den H' v d → Q v H') → (∀ C, r = .error C → ∀ H', Ex H H' → E (.ref C) none H') → te σ H Q
def HsE (E : XK) (t : TS) (δ : Sto) (N : Sto → Prop) (R : Dt → Prop) (W : Addr → Prop) : Prop :=
  ∀ (σ : L2.St) (H : Hp) (D : Ends), DenS H σ δ → (∀ σ' H' δ', Ex H H' → DenS H' σ' δ' → N δ' → D.nx σ' H') → (∀ v H' d, Ex H H' → Den H' v d → R d → D.rt v H') → (∀ C H', Ex H H' → W C → E (.ref C) none H') → t D σ H
section
variable {K : PySem.W.Frag} {E : XK} {δ : Sto} {te ta tb : TE} {tc : TT} {t u : TS} {ds : List Dt} {r : Rs} {N N' : Sto → Prop} {R : Dt → Prop} {W : Addr → Prop} {x y z d : Dt}
theorem evx_call {n : Nat} {P : List Dt → Prop} {f : List Dt → Rs} {ta : TA} (h : EaS ta δ ds) (hn : ds.length = n) (hp : P ds) : EvX E (tCall (spX n P f) [] E ta) δ (f ds) := fun σ H Q S q qe =>
  h σ H _ S fun vs H1 e1 d1 => by
    show spX n P f (vs ++ []) H1 Q E
    rw [List.append_nil]
    exact ⟨ds, d1, hn, hp, fun d e v H2 e2 d2 => q d e v H2 (e1.trans e2) d2, fun C e H2 e2 => qe C e H2 (e1.trans e2)⟩
theorem evx_of (h : EvS te δ d) : EvX E te δ (.ok d) := fun σ H Q S q _ => h σ H Q S fun v H1 e1 d1 => q d rfl v H1 e1 d1
theorem evx_op1 {rr : R2} {g : Dt → Dt} (h : EvX E ta δ r) (hb : ∀ x, r = .ok x → ∃ y, EvS tb δ y ∧ OpD rr x y (g x)) : EvX E (tOp rr ta tb) δ (r.map g) := fun σ H Q S q qe =>
  h σ H _ S (fun x e v H1 e1 d1 => by
    obtain ⟨y, h2, h3⟩ := hb x e
    exact h2 σ H1 _ (S.mono e1) fun w H2 e2 d2 => h3 v w H2 Q (d1.mono e2) d2 fun u H3 e3 d3 => q (g x) (by rw [e]; rfl) u H3 ((e1.trans e2).trans e3) d3) fun C e H1 e1 => qe C (by rw [e]; rfl) H1 e1
theorem he_seq (h : HsE E t δ N' R W) (k : ∀ δ', N' δ' → HsE E u δ' N R W) : HsE E (tSeq t u) δ N R W := fun σ H D S hn hr hw =>
  h σ H { D with nx := u D } S (fun σ' H' δ' e1 S1 n => k δ' n σ' H' D S1 (fun σ2 H2 δ2 e2 S2 n2 => hn σ2 H2 δ2 (e1.trans e2) S2 n2) (fun v H2 d e2 d2 r => hr v H2 d (e1.trans e2) d2 r) (fun C H2 e2 w => hw C H2 (e1.trans e2) w)) hr hw
theorem he_of (h : Hs t δ N R noS noS) : HsE E t δ N R W := fun σ H D S hn hr _ => h σ H D S hn hr (fun _ _ _ _ _ z => z.elim) (fun _ _ _ _ _ z => z.elim)
theorem he_drop (h : EvX E te δ r) (n : ∀ d, r = .ok d → N δ) (w : ∀ C, r = .error C → W C) : HsE E (tDrop te) δ N R W := fun σ H D S hn _ hw =>
  h σ H _ S (fun d e v H1 e1 _ => hn σ H1 δ e1 (S.mono e1) (n d e)) fun C e H1 e1 => hw C H1 e1 (w C e)
theorem he_ret (h : EvX E te δ r) (n : ∀ d, r = .ok d → R d) (w : ∀ C, r = .error C → W C) : HsE E (tRet te) δ N R W := fun σ H D S _ hr hw =>
  h σ H _ S (fun d e v H1 e1 d1 => hr v H1 d e1 d1 (n d e)) fun C e H1 e1 => hw C H1 e1 (w C e)
theorem he_asg {i : Nat} (h : EvX E te δ r) (n : ∀ d, r = .ok d → N (δ.set i (some d))) (w : ∀ C, r = .error C → W C) : HsE E (tAsg te (gName i)) δ N R W := fun σ H D S hn _ hw =>
  h σ H _ S (fun d e v H1 e1 d1 => hn _ H1 _ e1 ((S.mono e1).set d1) (n d e)) fun C e H1 e1 => hw C H1 e1 (w C e)
theorem he_if {b : Bool} (h : EtS tc δ b) (h1 : b = true → HsE E t δ N R W) (h2 : b = false → HsE E u δ N R W) : HsE E (tIfS tc t u) δ N R W := fun σ H D S hn hr hw => h σ H _ S fun H1 e1 => by
  cases b with
  | true =>
    show t D σ H1
    exact h1 rfl σ H1 D (S.mono e1) (fun σ' H' δ' e S' m => hn σ' H' δ' (e1.trans e) S' m) (fun v H2 d e2 d2 r => hr v H2 d (e1.trans e2) d2 r) (fun C H2 e2 w => hw C H2 (e1.trans e2) w)
  | false =>
    show u D σ H1
    exact h2 rfl σ H1 D (S.mono e1) (fun σ' H' δ' e S' m => hn σ' H' δ' (e1.trans e) S' m) (fun v H2 d e2 d2 r => hr v H2 d (e1.trans e2) d2 r) (fun C H2 e2 w => hw C H2 (e1.trans e2) w)
theorem he_next (n : N δ) : HsE E tNext δ N R W := fun σ H D S hn _ _ => hn σ H δ exR S n
/-- raise C(..) -/
theorem he_raise {C : Addr} (w : W C) : HsE E (fun _ _ H => E (.ref C) none H) δ N R W := fun σ H D _ _ _ hw => hw C H exR w
/-- a, b, c = t -/
theorem he_un3 {i j l : Nat} {f : Dt → Dt × Dt × Dt} (h : EvX E te δ r) (hf : ∀ d, r = .ok d → ∃ x y z, d = .tup [x, y, z] ∧ N (((δ.set i (some x)).set j (some y)).set l (some z))) (w : ∀ C, r = .error C → W C) :
    HsE E (tAsg te (gTup K 3 (gCons (gName i) (gCons (gName j) (gCons (gName l) gNil))))) δ N R W := fun σ H D S hn _ hw =>
  h σ H _ S (fun d e v H1 e1 d1 => by
    obtain ⟨x, y, z, rfl, n⟩ := hf d e
    obtain ⟨a, xs, rfl, ha, hl⟩ := d1.tupI
    obtain ⟨v1, r, rfl, dv, dr⟩ := hl.consI
    obtain ⟨v2, r', rfl, dw, dr'⟩ := dr.consI
    obtain ⟨v3, r3, rfl, dz, dr3⟩ := dr'.consI
    obtain rfl := dr3.nilI
    exact ⟨a, _, rfl, SqT.of ha, rfl, v1, _, rfl, v2, _, rfl, v3, _, rfl, rfl, hn _ H1 _ e1 ((((S.mono e1).set dv).set dw).set dz) n⟩) fun C e H1 e1 => hw C H1 e1 (w C e)
end
section
variable {P : Program} {w : World} {K : PySem.W.Frag} {mg : Str → Option Value} {base : Heap}
theorem Fun.okE {x qual : Str} {st : Stmt} {f : Addr} {fd : FuncData} {N ps : List Str} {k n : Nat} {Pr : List Dt → Prop} {g : List Dt → Rs} (F : L2.Fun K x qual st f fd) (S : FnScope N ps (defScope st)) (hn : n = ps.length)
    (hbody : ∀ (cdv : Value) (A : Around) (outer : List Env) (s : Shared) (H : Hp) (Q : VK) (E : XK), Room k (A.deeper (envOfC qual (defScope st) s.heap.objs.size f cdv)) →
      ∃ t, PSs (cxOf (L2.CX P w) P w K mg base N qual (defScope st) f cdv A outer s H E) (defBody st) t ∧ ∀ ds, ds.length = n → Pr ds → HsE E t (startD N ds) (fun _ => g ds = .ok dN) (fun d => g ds = .ok d) (fun C => g ds = .error C)) : FnOk P w K mg base (L2.CX P w) (k + 1) f fd ps (spX n Pr g) := by
  refine L2.Fun.okX F S (fun vs H Q E h => ?_) (fun cdv A outer s H vs Q E hr h => ?_)
  · obtain ⟨ds, hd, hl, _⟩ := h
    rw [hd.len, hl, hn]
  · obtain ⟨ds, hd, hl, hp, q, qe⟩ := h
    obtain ⟨t, ht, hh⟩ := hbody cdv A outer s H Q E hr
    refine ⟨t, ht, hh ds hl hp (L2.start N vs) H _ (DenS.start hd) (fun σ' H' δ' e _ z => ?_) (fun v H' d e d' z => ?_) (fun C H' e z => ?_)⟩
    · exact q dN z .non H' e (.raw _)
    · exact q d z v H' e d'
    · exact qe C z H' e
end
end Dn
namespace Dn
open PySem PySem.Spec PyProof.Rows L2
open Evl (Ex)
theorem CallR.or {X : Cx} {f : Value} {r r' : List V → Hp → VK → Prop} (h : CallR X f r) (h' : CallR X f r') : CallR X f (fun xs H Q => r xs H Q ∨ r' xs H Q) := by
  intro pins s σ H xs us Q I rv q
  rcases q with q | q
  · exact h pins s σ H xs us Q I rv q
  · exact h' pins s σ H xs us Q I rv q
def rLenU (K : PySem.W.Frag) : List V → Hp → VK → Prop := fun xs H Q => rLenS K xs H Q ∨ rLenD xs H Q ∨ rLenStr xs H Q
theorem call_lenU {X : Cx} : CallR X (.builtin "len") (rLenU X.K) := CallR.or call_len_seq (CallR.or call_lenD call_len_str)
/-- isinstance of an exception's object that stands in H -/
def rIsX (K : PySem.W.Frag) : List V → Hp → VK → Prop := fun xs H Q => ∃ (a D : Addr) (c : V) (cv : Value) (b : Bool), xs = [.ref a, c] ∧ H a = some (ExV (.ref D) none a) ∧ ClsV c cv ∧ ExcC K D ∧ PySem.W.kitOne K (.ref D) cv = some b ∧ Q (.bl b) H
theorem call_isX {X : Cx} : CallR X (.builtin "isinstance") (rIsX X.K) := by
  intro pins s σ H xs us Q I r h
  obtain ⟨a, D, c, cv, b, rfl, ha, hc, C, e, q⟩ := h
  obtain ⟨u1, u2, rfl, r1, r2⟩ := vals2 r
  cases (show u1 = Value.ref a from r1)
  have e2 := hc.eq r2
  subst e2
  obtain ⟨⟨oe, vs, hget, hz, hv⟩, _, _⟩ := I.hok a _ ha
  have J : PySem.W.InstAt s.heap a oe D none := by
    obtain ⟨oc, od, oda, osl⟩ := oe
    obtain ⟨z1, z2⟩ := hz
    dsimp only at z1 z2 hv
    rw [z1, z2, hv] at hget ⊢
    exact ⟨hget, rfl, rfl, trivial⟩
  exact PySem.W.kia_one (PySem.W.handS_kitx_exc C.hg C.hk C.hs C.hd C.ha C.hn C.ht C.hm) I.kIn J e (fun z => nomatch z) fun tk => ⟨.bl b, H, I.tok tk, rfl, q⟩
def rIsU (K : PySem.W.Frag) : List V → Hp → VK → Prop := fun xs H Q => rIsi K xs H Q ∨ rIsX K xs H Q
theorem call_isU {X : Cx} : CallR X (.builtin "isinstance") (rIsU X.K) := CallR.or call_isi call_isX
theorem ca_isU {K : PySem.W.Frag} {d : Dt} {T U : String} {b : Bool} (h : tyD d = some T) (hk : kitB T U = some b) : CaD (rIsU K) [d, .raw (.ty U)] (dB b) := fun vs H Q h1 q => .inl (ca_isi h hk vs H Q h1 q)
/-- an own exception's object and a class c -/
theorem ca_isE {K : PySem.W.Frag} {D : Addr} {c : V} {cv : Value} {b : Bool} (hc : ClsV c cv) (C : ExcC K D) (hk : PySem.W.kitOne K (.ref D) cv = some b) {H : Hp} {a : Addr} {Q : VK} (ha : H a = some (ExV (.ref D) none a)) (q : Q (.bl b) H) : rIsU K [.ref a, c] H Q :=
  .inr ⟨a, D, c, cv, b, rfl, ha, hc, C, hk, q⟩

/-! ### an exception that is caught and kept -/
section
variable {X : Cx} {pins : List (Addr × Obj)} {σ : L2.St} {H : Hp} {s : Shared}
/-- a pinned exception's object is followed from now on -/
theorem Inv.follow {a : Addr} {oe : Obj} {vs : Array Value} {cls : Value} {d : Option Addr} (I : Inv X ((a, oe) :: pins) σ H s) (hz : Zc cls d oe) (hd : oe.data = .fields vs) (hnew : X.s_0.heap.get? a = none)
    (hp : ∀ p ∈ X.pn ++ pins, p.1 ≠ a) : Inv X pins σ (upd H a (ExV cls d a)) s := by
  obtain ⟨g1, g2, g3, g4, g5⟩ := I.pin (a, oe) (List.mem_append_right _ List.mem_cons_self)
  have old : ∀ b u, H b = some u → b ≠ a := fun b u e z => by
    rw [z, g2] at e
    cases e
  have oldE : ∀ b u, X.s_0.heap.get? b = some u → b ≠ a := fun b u e z => by
    rw [z, hnew] at e
    cases e
  refine ⟨I.ok, I.os, I.bare, ⟨I.base.keep, I.base.slot, fun b o e n hx => ?_, I.base.there, fun b xs e => ?_, fun b o u e => ?_, fun b ps e => ?_⟩, I.loc, I.cell, ?_, fun x c e => ?_, fun p hq => ?_, fun b u e => ?_, I.len⟩
  · rw [upd_ne (oldE b o e)]
    exact I.base.free b o e n hx
  · have z := I.base.tups b xs e
    rw [upd_ne (old b _ z)]
    exact z
  · have z := I.base.frzs b o u e
    rw [upd_ne (old b _ z)]
    exact z
  · obtain ⟨more, z⟩ := I.base.tbls b ps e
    exact ⟨more, by rw [upd_ne (old b _ z)]; exact z⟩
  · rw [upd_ne (Ne.symm g3)]
    exact I.free
  · have nc : c ≠ a := fun z => by
      obtain ⟨v, o, ho, hc⟩ := I.cell x c e
      rw [z, g1] at ho
      cases ho
      rw [hd] at hc
      cases hc
    rw [upd_ne nc]
    exact I.freeC x c e
  · have np := hp p hq
    have hm : p ∈ X.pn ++ ((a, oe) :: pins) := (List.mem_append.mp hq).elim (fun z => List.mem_append_left _ z) fun z => List.mem_append_right _ (List.mem_cons_of_mem _ z)
    obtain ⟨q1, q2, q3, q4, q5⟩ := I.pin p hm
    exact ⟨q1, by rw [upd_ne np]; exact q2, q3, q4, q5⟩
  · by_cases hb : b = a
    · subst hb
      rw [upd_same] at e
      cases e
      exact ⟨⟨oe, vs, g1, hz, hd⟩, ⟨oe, g1⟩, fun h1 h2 ⟨o, v, x1, x2⟩ k => ⟨o, v, k o x1, x2⟩⟩
    · rw [upd_ne hb] at e
      refine (I.hok b u e).stay (fun c v _ q => q) (fun c q => ?_) fun c xs q => ?_
      · rw [upd_ne (old c _ q)]
        exact q
      · rw [upd_ne (old c _ q)]
        exact q
end
/-- what «except x as n: m = n» wishes: slot i is n's, slot j is m's; the exception's object is followed behind it -/
def wKept (K : PySem.W.Frag) (c : Value) (i j : Nat) (Wout : WX) (D : Ends) : WX := fun cls d σ H =>
  ∃ b, PySem.W.exmOne K cls c = some b ∧ (b = true → ∀ a, H a = none → D.nx (((σ.set i (some (.ref a))).set j (some (.ref a))).set i none) (upd H a (ExV cls d a))) ∧ (b = false → Wout cls d σ H)
section
variable {X : Cx} {x n m : Str} {c : Value} {i j : Nat} {body : List Stmt} {np p1 p2 p3 pos pos' : Pos} {tb : WX → TS} {Wout : WX}
theorem ps_try_kept (hs : X.stack = X.env :: X.outer) (hf : X.env.frame = some X.env.locals) (hN : X.N.Nodup) (hi : X.N[i]? = some n) (hln : X.env.kindOf n = some .local) (hj : X.N[j]? = some m) (hlm : X.env.kindOf m = some .local) (hex : X.ex = []) (hc : Names X x c) (tk : Takes X Wout)
    (hdn : (n == ("__debug__" : Str)) = false) (hcn : (n == ("__classdict__" : Str)) = false) (hsw : swapsWith (.Name n p2) (some (.Name m p1)) p3.line X.env = pure false) (hil : i < X.N.length)
    (hb : ∀ (W : WX) (pn : List (Addr × Obj)) (xe : Value → Shared → Prop), Takes (X.tr pn xe) W → PassesOwn (model X.prog X.w) X.A X.env xe → PSs (X.tr pn xe) body (tb W)) :
    PS X (.Try body [.ExceptHandler (some (.Name x np)) (some n) [.Assign [.Name m p1] (.Name n p2) p3] pos'] [] [] pos) (fun D σ H => tb (wKept X.K c i j Wout D) D σ H) := by
  refine ⟨fun pins s σ H D I0 h => ?_⟩
  have ok0 := I0.ok
  have frm : X.A.frames = some (X.env :: X.outer) := by rw [ok0.frames, hs]
  refine wpAny_Try_except ?_
  refine wpAny_mono ((hb (wKept X.K c i j Wout D) (X.pn ++ pins) (fun e s₁ => wpAny (model X.prog X.w) X.A (noteFrame e X.env) (fun _ s₂ => wpAny (model X.prog X.w) X.A (setFlight e none) (fun _ s₃ =>
      wpAny (model X.prog X.w) X.A (handleBy e X.env [.ExceptHandler (some (.Name x np)) (some n) [.Assign [.Name m p1] (.Name n p2) p3] pos']) (SP X pins D) X.xe s₃) X.xe s₂) X.xe s₁)
    (fun u s' air => ?_) PassesOwn.looking).run [] s σ H D (I0.toTry _) h) (fun fl s1 sp => ?_) (fun e s1 he => he)
  · obtain ⟨a, B, sI, pinsB, σB, HB, cls, d, rfl, JB, nb, up, sky, na, os, ag, b, hb1, yes, no⟩ := air
    have J : Inv X pins σB HB sI := JB.ofTry ok0
    have sky0 : Sky B (X.env :: X.outer) a (Zc cls d) X.env.locals s'.heap := by rw [← hs]; exact sky
    show wpAny (model X.prog X.w) X.A (noteFrame (.ref a) X.env) _ _ _
    refine Sky.land Zc.steady frm hf sky0 fun hA fA uA => ?_
    have JA : Inv X pins σB HB { s' with heap := hA } := J.landed nb fA.1 (up.trans uA) os ag
    obtain ⟨oA, vA, eA, zA, dA⟩ := fA.there
    have offFrames : a ∉ frs (X.env :: X.outer) := fun hm => by
      obtain ⟨_, o', e', hnf⟩ := fA.2.2.1.mem hm
      rw [eA] at e'
      cases e'
      exact hnf _ dA
    have nL : a ≠ X.env.locals := fun z => offFrames (List.mem_filterMap.mpr ⟨X.env, List.mem_cons_self, by rw [hf, z]⟩)
    have nF : a ∉ X.fs := fun hm => by
      obtain ⟨e, he, q⟩ := List.mem_filterMap.mp hm
      exact offFrames (List.mem_filterMap.mpr ⟨e, List.mem_cons_of_mem _ he, q⟩)
    -- new: not in the state ahead of the flight, so not at the entry
    have newI : sI.heap.get? a = none := by
      cases q : sI.heap.get? a with
      | none => rfl
      | some o =>
        have z := nb a o q (by rw [hs]; exact offFrames)
        rw [fA.2.1] at z
        cases z
    have newE : X.s_0.heap.get? a = none := by
      cases q : X.s_0.heap.get? a with
      | none => rfl
      | some o =>
        obtain ⟨o', z⟩ := J.base.there a o q (by rw [hex]; exact List.not_mem_nil)
        rw [newI] at z
        cases z
    have apart : ∀ p ∈ X.pn ++ pins, p.1 ≠ a := fun p hp z => by
      have q := (J.pin p hp).1
      rw [z, newI] at q
      cases q
    have SA := JA.suite eA dA na nL nF
    refine wpAny_handleBy_cons (codeAny_handlers_test ?_) (by intro q; cases q)
    have LT : PySem.W.Looks (model X.prog X.w) hA (typeOf (.ref a)) cls := fun A Q E s k q => wpAny_typeOf_ref (k _ _ eA) (by rw [zA.1]; exact q)
    have LM := PySem.W.exm_one (M := model X.prog X.w) (JA.kIn) LT hb1
    have test : ∀ {Q : Value → Shared → Prop} {E : Value → Shared → Prop}, Q c { s' with heap := hA } → wpAny (model X.prog X.w) (X.A.mark (some (.ref a))) (eval (.Name x np) X.env) Q E { s' with heap := hA } := fun {Q E} q => by
      obtain ⟨hg, hdbg, hm | ⟨hm, hv, hnn⟩⟩ := hc
      · exact ld_glob (X := X.suite a ((a, oA) :: (X.pn ++ pins))) SA hg hm q hdbg
      · exact ld_blt (X := X.suite a ((a, oA) :: (X.pn ++ pins))) SA hg hm hv q hnn hdbg
    refine test (LM.here ?_)
    cases b with
    | true =>
      refine codeAny_handlers_suite_as ?_
      refine HandSPX.lands_againZ fA fun hC fC uC => ?_
      have JC : Inv X pins σB HB { s' with heap := hC } := J.landed nb fC.1 ((up.trans uA).trans uC) os ag
      obtain ⟨oC, vC, eC, zC, dC⟩ := fC.there
      have SC := JC.suite eC dC na nL nF
      have st : PSs (X.suite a ((a, oC) :: (X.pn ++ pins))) [.Assign [.Name m p1] (.Name n p2) p3] (tAsg (tVar i) (gName j)) :=
        pss_one (ps_set (X := X.suite a ((a, oC) :: (X.pn ++ pins))) (i := j) hN hj (.inl hlm) (pe_var (X := X.suite a ((a, oC) :: (X.pn ++ pins))) (i := i) hi (.inl hln) hdn hcn) hsw (.inr hlm))
      refine store_ok (X := X.suite a ((a, oC) :: (X.pn ++ pins))) (v := .ref a) SC hN hi (.inl hln) rfl (fun s5 S5 => ?_) (.inr hln)
      have hiB : i < σB.length := by rw [J.len]; exact hil
      refine wpAny_mono (st.run [] s5 _ HB { nx := fun σ' H' => σ' = (σB.set i (some (.ref a))).set j (some (.ref a)) ∧ H' = HB, rt := fun _ _ => False } S5 ⟨.ref a, by rw [List.getElem?_set_self hiB], rfl, rfl⟩) (fun fl s6 hsp => ?_) (fun _ _ z => False.elim z)
      cases fl with
      | next =>
        obtain ⟨σ6, H6, S6, e6, e7⟩ := hsp
        subst e6
        subst e7
        have J6 : Inv X pins _ H6 s6 := S6.unsuite ok0
        have P6 : Inv X ((a, oC) :: pins) _ H6 s6 := J6.pins_of fun p hp => by
          rcases List.mem_cons.mp hp with e | hp
          · rw [e]
            exact S6.pin (a, oC) (List.mem_append_left _ List.mem_cons_self)
          · exact J6.pin p (List.mem_append_right _ hp)
        exact gone_ok P6 hN hi hln fun s7 P7 => ⟨_, _, Inv.follow P7 zC dC newE apart, yes rfl a na⟩
      | brk =>
        obtain ⟨_, _, _, q6⟩ := hsp
        exact q6.elim
      | cont =>
        obtain ⟨_, _, _, q6⟩ := hsp
        exact q6.elim
      | ret u =>
        obtain ⟨_, _, _, _, _, q6⟩ := hsp
        exact q6.elim
    | false =>
      show wpAny _ X.A (handleBy (.ref a) X.env []) _ _ _
      refine wpAny_handleBy_nil ?_
      obtain ⟨k1, k2, k3, oe, vs, T, oT, ts', he, hz, hd, h1, hr⟩ := id fA
      unfold PySem.passOn
      refine wpAny_bind (wpAny_field he hd h1 ?_)
      rw [if_neg (show ¬ ((Value.ref T == Value.none) = true) from by simp)]
      have out : wpAny (model X.prog X.w) X.A (setFlight (.ref a) X.env.frame) (fun _ s4 => wpAny (model X.prog X.w) X.A (throw (.ref a) : Sem Flow) (SP X pins D) X.xe s4) X.xe { s' with heap := hA } := by
        rw [hf]
        refine HandSPX.setFlight_upZ fA fun hE hh uE => wpAny_throw (tk _ _ ?_)
        exact ⟨a, B, sI, pins, σB, HB, cls, d, rfl, J, nb, (up.trans uA).trans uE, .inr (.inr (by rw [hs]; exact hh)), na, os, ag, no rfl⟩
      first
        | exact wpAny_bind (wpAny_pure (wpAny_bind out))
        | exact wpAny_bind out
  · cases fl with
    | next =>
      obtain ⟨σE, HE, JE, q⟩ := sp
      exact wpAny_execs_nil ⟨σE, HE, JE.ofTry ok0, q⟩
    | brk =>
      obtain ⟨σE, HE, JE, q⟩ := sp
      exact ⟨σE, HE, JE.ofTry ok0, q⟩
    | cont =>
      obtain ⟨σE, HE, JE, q⟩ := sp
      exact ⟨σE, HE, JE.ofTry ok0, q⟩
    | ret u =>
      obtain ⟨v, σE, HE, JE, r, q⟩ := sp
      exact ⟨v, σE, HE, JE.ofTry ok0, r, q⟩
end
end Dn
/-! Own layer: comprehensions over data; what a change of a list leaves. -/
namespace Dn
open PySem PySem.Spec PyProof.Rows L2
open Evl (Ex)
mutual
/-- no list in it -/
def noLst : Dt → Bool
  | .raw _ => true
  | .lst _ => false
  | .tup l => noLstL l
  | .dct l => noLstK l
  | .exc _ _ => true
def noLstL : List Dt → Bool
  | [] => true
  | d :: l => noLst d && noLstL l
def noLstK : List (Key × Dt) → Bool
  | [] => true
  | (_, d) :: l => noLst d && noLstK l
end
theorem extv_ne {cls : Value} {d : Option Addr} {a : Addr} {xs : List V} : ExV cls d a ≠ .lst xs := fun z => by
  unfold ExV at z
  cases z
mutual
theorem Den.updL {H : Hp} {D : Addr} {acc ys : List V} (hD : H D = some (.lst acc)) {v : V} : ∀ {d : Dt}, Den H v d → noLst d = true → Den (upd H D (.lst ys)) v d
  | .raw w, h, _ => by
    rw [h.rawI]
    exact .raw _
  | .lst l, h, n => by
    unfold noLst at n
    cases n
  | .tup l, h, n => by
    unfold noLst at n
    cases h with | tup ha hl => exact .tup (by rw [upd_ne (ne_of ha hD (by intro z; cases z))]; exact ha) (hl.updL hD n)
  | .dct l, h, n => by
    unfold noLst at n
    cases h with | dct ha hl => exact .dct (by rw [upd_ne (ne_of ha hD (by intro z; cases z))]; exact ha) (hl.updL hD n)
  | .exc _ _, h, n => by
    cases h with
    | exc0 h => exact .exc0 (by rw [upd_ne (ne_of h hD extv_ne)]; exact h)
    | excD h hd hf => exact .excD (by rw [upd_ne (ne_of h hD extv_ne)]; exact h) (by rw [upd_ne (ne_of hd hD (by intro z; cases z))]; exact hd) hf
theorem DenL.updL {H : Hp} {D : Addr} {acc ys : List V} (hD : H D = some (.lst acc)) : ∀ {l : List Dt} {vs : List V}, DenL H vs l → noLstL l = true → DenL (upd H D (.lst ys)) vs l
  | [], vs, h, _ => by
    rw [h.nilI]
    exact .nil
  | d :: l, vs, h, n => by
    unfold noLstL at n
    have n' := Bool.and_eq_true_iff.mp n
    cases h with | cons h t => exact .cons (h.updL hD n'.1) (t.updL hD n'.2)
theorem DenK.updL {H : Hp} {D : Addr} {acc ys : List V} (hD : H D = some (.lst acc)) : ∀ {l : List (Key × Dt)} {vs : List (Key × V)}, DenK H vs l → noLstK l = true → DenK (upd H D (.lst ys)) vs l
  | [], vs, h, _ => by
    cases h
    exact .nil
  | (k, d) :: l, vs, h, n => by
    unfold noLstK at n
    have n' := Bool.and_eq_true_iff.mp n
    cases h with | cons h t => exact .cons (h.updL hD n'.1) (t.updL hD n'.2)
end
theorem noLstL_app {l m : List Dt} (h1 : noLstL l = true) (h2 : noLstL m = true) : noLstL (l ++ m) = true := by
  induction l with
  | nil => exact h2
  | cons d l ih =>
    unfold noLstL at h1
    have h1' := Bool.and_eq_true_iff.mp h1
    show noLstL (d :: (l ++ m)) = true
    unfold noLstL
    rw [h1'.1, ih h1'.2] <;> rfl
/-! ### the comprehension's own slots -/
theorem wipe_get (σ : L2.St) : ∀ (vs : List Nat) (k : Nat), (wipe σ vs)[k]? = if k ∈ vs then (if k < σ.length then some none else none) else σ[k]?
  | [], k => by simp [wipe]
  | v :: vs, k => by
    have ih := wipe_get σ vs k
    show ((wipe σ vs).set v none)[k]? = _
    by_cases e : v = k
    · subst e
      by_cases hl : v < σ.length
      · rw [List.getElem?_set_self (by rw [wipe_length]; exact hl), if_pos List.mem_cons_self, if_pos hl]
      · rw [List.getElem?_eq_none (by rw [List.length_set, wipe_length]; omega), if_pos List.mem_cons_self, if_neg hl]
    · rw [List.getElem?_set_ne e, ih]
      by_cases h : k ∈ vs
      · rw [if_pos h, if_pos (List.mem_cons_of_mem _ h)]
      · rw [if_neg h, if_neg (fun z => (List.mem_cons.mp z).elim (fun q => e q.symm) h)]
theorem wipe_set {σ : L2.St} {vs : List Nat} {i : Nat} {x : Option V} (h : i ∈ vs) : wipe (σ.set i x) vs = wipe σ vs := by
  apply List.ext_getElem?
  intro k
  rw [wipe_get, wipe_get, List.length_set]
  by_cases hk : k ∈ vs
  · rw [if_pos hk, if_pos hk]
  · rw [if_neg hk, if_neg hk, List.getElem?_set_ne (fun (z : i = k) => hk (by rw [← z]; exact h))]
theorem wipe_wipe (σ : L2.St) (vs : List Nat) : wipe (wipe σ vs) vs = wipe σ vs := by
  apply List.ext_getElem?
  intro k
  rw [wipe_get, wipe_get, wipe_length]
  by_cases hk : k ∈ vs
  · rw [if_pos hk, if_pos hk]
  · rw [if_neg hk]
def wipeD (δ : Sto) : List Nat → Sto
  | [] => δ
  | v :: vs => (wipeD δ vs).set v none
theorem DenS.setN {H : Hp} {σ : L2.St} {δ : Sto} {i : Nat} (S : DenS H σ δ) : DenS H (σ.set i none) (δ.set i none) := by
  refine ⟨by rw [List.length_set, List.length_set, S.len], fun j e hj => ?_⟩
  by_cases hij : i = j
  · subst hij
    by_cases hl : i < δ.length
    · rw [List.getElem?_set_self hl] at hj
      cases hj
    · rw [List.getElem?_eq_none (by rw [List.length_set]; omega)] at hj
      cases hj
  · rw [List.getElem?_set_ne hij] at hj
    rw [List.getElem?_set_ne hij]
    exact S.at_ j e hj
theorem DenS.wiped {H : Hp} {σ : L2.St} {δ : Sto} (S : DenS H σ δ) : ∀ vs : List Nat, DenS H (wipe σ vs) (wipeD δ vs)
  | [] => S
  | _ :: vs => (S.wiped vs).setN
theorem DenS.bare {H : Hp} {σ : L2.St} {n : Nat} (h : σ.length = n) : DenS H σ (List.replicate n none) := ⟨by rw [h, List.length_replicate], fun i d e => by
  rw [List.getElem?_replicate] at e
  split at e <;> cases e⟩
/-- the target takes d: the store δ turns into δ' -/
def GdS (g : TG) (vs : List Nat) (d : Dt) (δ δ' : Sto) : Prop := ∀ (v : V) (σ : L2.St) (H : Hp) (k : L2.St → Hp → Prop), DenS H (wipe σ vs) δ → Den H v d → (∀ σ2, wipe σ2 vs = wipe σ vs → DenS H σ2 δ' → k σ2 H) → g v (wipe σ vs) H k
section
variable {K : PySem.W.Frag} {δ : Sto} {vs : List Nat} {d x y : Dt} {i j : Nat}
theorem gds_name (h : j ∈ vs) : GdS (gName j) vs d δ (δ.set j (some d)) := fun v σ H k S h1 q => q _ (by rw [wipe_set h, wipe_wipe]) (S.set h1)
theorem gds_two (h : i ∈ vs) (h' : j ∈ vs) : GdS (gTup K 2 (gCons (gName i) (gCons (gName j) gNil))) vs (.tup [x, y]) δ ((δ.set i (some x)).set j (some y)) := fun v σ H k S h1 q => by
  obtain ⟨a, xs, rfl, ha, hl⟩ := h1.tupI
  obtain ⟨v1, r, rfl, dv, dr⟩ := hl.consI
  obtain ⟨v2, r', rfl, dw, dr'⟩ := dr.consI
  obtain rfl := dr'.nilI
  exact ⟨a, _, rfl, SqT.of ha, rfl, v1, _, rfl, v2, _, rfl, rfl, q _ (by rw [wipe_set h', wipe_set h, wipe_wipe]) ((S.set dv).set dw)⟩
theorem ev_lc {tl te : TE} {tt : TT} {g : TG} {ds : List Dt} (f : Dt → Option Dt) (h : EvS tl δ (.lst ds)) (hz : ds.length ≤ 40000) (hn : noLstL (ds.filterMap f) = true)
    (hb : ∀ d, d ∈ ds → ∃ δ' b, GdS g vs d (wipeD δ vs) δ' ∧ EtS tt δ' b ∧ (b = true → ∃ e, EvS te δ' e ∧ f d = some e) ∧ (b = false → f d = none)) : EvS (tLc (iList K tl) g tt te vs) δ (.lst (ds.filterMap f)) := by
  intro σ H Q S q
  refine h σ H _ S fun v H1 e1 d1 => ?_
  obtain ⟨a, xs, rfl, ha, hl⟩ := d1.lstI
  refine ⟨a, rfl, ⟨xs, SqL.of ha⟩, fun D hD => ?_⟩
  have sub : ∀ i, noLstL ((ds.take i).filterMap f) = true := fun i => by
    have e : ds.filterMap f = (ds.take i).filterMap f ++ (ds.drop i).filterMap f := by rw [← List.filterMap_append, List.take_append_drop]
    rw [e] at hn
    clear e
    revert hn
    generalize (ds.take i).filterMap f = l
    intro hn
    induction l with
    | nil => rfl
    | cons d l ih =>
      have hn' : noLstL (d :: (l ++ (ds.drop i).filterMap f)) = true := hn
      unfold noLstL at hn' ⊢
      have h2 := Bool.and_eq_true_iff.mp hn'
      rw [h2.1, ih h2.2] <;> rfl
  refine lc_list (xs := xs) (fun i H' => Ex H1 H' ∧ ∃ acc, H' D = some (.lst acc) ∧ DenL H' acc ((ds.take i).filterMap f) ∧ acc.length ≤ i) ⟨Evl.Ex.new hD, [], upd_same, by simpa using DenL.nil, Nat.le_refl _⟩ (fun i H' _ p => SqL.of (p.1 _ _ ha)) (fun i x H' hx p => ?_) fun H' p => ?_
  · obtain ⟨e2, acc, hacc, dacc, lacc⟩ := p
    obtain ⟨d, hd, dx⟩ := hl.getV hx
    obtain ⟨δ', b, hg, ht, hy, hno⟩ := hb d (List.mem_of_getElem? hd)
    have S1 : DenS H' (wipe σ vs) (wipeD δ vs) := (S.mono (e1.trans e2)).wiped vs
    have hil : i < ds.length := (List.getElem?_eq_some_iff.mp hd).1
    have tk : ds.take (i + 1) = ds.take i ++ [d] := by rw [List.take_succ, hd] <;> rfl
    refine hg x σ H' _ S1 (dx.mono e2) fun σ2 w2 S2 => ⟨w2, ht σ2 H' _ S2 fun H3 e3 => ?_⟩
    cases b with
    | true =>
      show te σ2 H3 _
      obtain ⟨e, he, hf⟩ := hy rfl
      have ft : (ds.take (i + 1)).filterMap f = (ds.take i).filterMap f ++ [e] := by rw [tk, List.filterMap_append, List.filterMap_cons_some hf, List.filterMap_nil]
      refine he σ2 H3 _ (S2.mono e3) fun y H4 e4 dy => ⟨acc, e4 _ _ (e3 _ _ hacc), Evl.sz_lt (by omega), Evl.Ex.mut ((e2.trans e3).trans e4) hD, acc ++ [y], upd_same, ?_, by rw [List.length_append]; exact Nat.add_le_add_right lacc 1⟩
      rw [ft]
      have dall : DenL H4 (acc ++ [y]) ((ds.take i).filterMap f ++ [e]) := (dacc.mono (e3.trans e4)).app (.cons dy .nil)
      refine dall.updL (acc := acc) (e4 _ _ (e3 _ _ hacc)) ?_
      rw [← ft]
      exact sub (i + 1)
    | false =>
      have ft : (ds.take (i + 1)).filterMap f = (ds.take i).filterMap f := by rw [tk, List.filterMap_append, List.filterMap_cons_none (hno rfl), List.filterMap_nil, List.append_nil]
      refine ⟨e2.trans e3, acc, e3 _ _ hacc, ?_, Nat.le_succ_of_le lacc⟩
      rw [ft]
      exact dacc.mono e3
  · obtain ⟨e2, acc, hacc, dacc, _⟩ := p
    refine q (.ref D) H' (e1.trans e2) (.lst hacc ?_)
    have e : ds.take xs.length = ds := by rw [hl.len, List.take_length]
    rw [e] at dacc
    exact dacc
theorem ev_lcT {tl te : TE} {tt : TT} {g : TG} {ds : List Dt} (f : Dt → Option Dt) (h : EvS tl δ (.tup ds)) (hz : ds.length ≤ 40000) (hn : noLstL (ds.filterMap f) = true)
    (hb : ∀ d, d ∈ ds → ∃ δ' b, GdS g vs d (wipeD δ vs) δ' ∧ EtS tt δ' b ∧ (b = true → ∃ e, EvS te δ' e ∧ f d = some e) ∧ (b = false → f d = none)) : EvS (tLc (iTup K tl) g tt te vs) δ (.lst (ds.filterMap f)) := by
  intro σ H Q S q
  refine h σ H _ S fun v H1 e1 d1 => ?_
  obtain ⟨a, xs, rfl, ha, hl⟩ := d1.tupI
  refine ⟨a, rfl, ⟨xs, SqT.of ha⟩, fun D hD => ?_⟩
  have sub : ∀ i, noLstL ((ds.take i).filterMap f) = true := fun i => by
    have e : ds.filterMap f = (ds.take i).filterMap f ++ (ds.drop i).filterMap f := by rw [← List.filterMap_append, List.take_append_drop]
    rw [e] at hn
    clear e
    revert hn
    generalize (ds.take i).filterMap f = l
    intro hn
    induction l with
    | nil => rfl
    | cons d l ih =>
      have hn' : noLstL (d :: (l ++ (ds.drop i).filterMap f)) = true := hn
      unfold noLstL at hn' ⊢
      have h2 := Bool.and_eq_true_iff.mp hn'
      rw [h2.1, ih h2.2] <;> rfl
  refine lc_tup (xs := xs) (fun i H' => Ex H1 H' ∧ ∃ acc, H' D = some (.lst acc) ∧ DenL H' acc ((ds.take i).filterMap f) ∧ acc.length ≤ i) ⟨Evl.Ex.new hD, [], upd_same, by simpa using DenL.nil, Nat.le_refl _⟩ (fun i H' _ p => SqT.of (p.1 _ _ ha)) (fun i x H' hx p => ?_) fun H' p => ?_
  · obtain ⟨e2, acc, hacc, dacc, lacc⟩ := p
    obtain ⟨d, hd, dx⟩ := hl.getV hx
    obtain ⟨δ', b, hg, ht, hy, hno⟩ := hb d (List.mem_of_getElem? hd)
    have S1 : DenS H' (wipe σ vs) (wipeD δ vs) := (S.mono (e1.trans e2)).wiped vs
    have hil : i < ds.length := (List.getElem?_eq_some_iff.mp hd).1
    have tk : ds.take (i + 1) = ds.take i ++ [d] := by rw [List.take_succ, hd] <;> rfl
    refine hg x σ H' _ S1 (dx.mono e2) fun σ2 w2 S2 => ⟨w2, ht σ2 H' _ S2 fun H3 e3 => ?_⟩
    cases b with
    | true =>
      show te σ2 H3 _
      obtain ⟨e, he, hf⟩ := hy rfl
      have ft : (ds.take (i + 1)).filterMap f = (ds.take i).filterMap f ++ [e] := by rw [tk, List.filterMap_append, List.filterMap_cons_some hf, List.filterMap_nil]
      refine he σ2 H3 _ (S2.mono e3) fun y H4 e4 dy => ⟨acc, e4 _ _ (e3 _ _ hacc), Evl.sz_lt (by omega), Evl.Ex.mut ((e2.trans e3).trans e4) hD, acc ++ [y], upd_same, ?_, by rw [List.length_append]; exact Nat.add_le_add_right lacc 1⟩
      rw [ft]
      have dall : DenL H4 (acc ++ [y]) ((ds.take i).filterMap f ++ [e]) := (dacc.mono (e3.trans e4)).app (.cons dy .nil)
      refine dall.updL (acc := acc) (e4 _ _ (e3 _ _ hacc)) ?_
      rw [← ft]
      exact sub (i + 1)
    | false =>
      have ft : (ds.take (i + 1)).filterMap f = (ds.take i).filterMap f := by rw [tk, List.filterMap_append, List.filterMap_cons_none (hno rfl), List.filterMap_nil, List.append_nil]
      refine ⟨e2.trans e3, acc, e3 _ _ hacc, ?_, Nat.le_succ_of_le lacc⟩
      rw [ft]
      exact dacc.mono e3
  · obtain ⟨e2, acc, hacc, dacc, _⟩ := p
    refine q (.ref D) H' (e1.trans e2) (.lst hacc ?_)
    have e : ds.take xs.length = ds := by rw [hl.len, List.take_length]
    rw [e] at dacc
    exact dacc
end
end Dn
/-! Own layer, third part: the law's own def that keeps what is refused. -/
namespace Dn
open PySem PySem.Spec PyProof.Rows L2 LamX
open Evl (Ex)
theorem takes_len {X : Cx} {W : WX} (tk : Takes X W) : Takes X (fun cls d σ H => σ.length = X.N.length → W cls d σ H) := fun u s' ⟨a, B, sI, pins, σ, H, cls, d, e, I, nb, up, sky, na, os, ag, w⟩ =>
  tk u s' ⟨a, B, sI, pins, σ, H, cls, d, e, I, nb, up, sky, na, os, ag, w I.len⟩
/-- the lambda done: None; refused: the exception's object, followed from now on -/
def TTkept (K : PySem.W.Frag) (CS : Addr) : (XK → Hp → VK → Prop) → Hp → VK → Prop := fun tl H Q =>
  tl (fun cls d H' => PySem.W.exmOne K cls (.ref CS) = some true ∧ ∀ a, H' a = none → Q (.ref a) (upd H' a (ExV cls d a))) H (fun _ H' => Q .non H')
def nKept : List Str := ["_law_deed", "_law_kept_here", "_law_e"]
def bKept (kk : Nat) (pa pb pc p1 p2 p3 p4 p5 p6 p7 p8 p9 p10 p11 : Pos) : List Stmt :=
  [.Assign [.Name "_law_kept_here" pa] (.Constant .none kk pb) pc,
   .Try [.Expr (.Call (.Name "_law_deed" p1) [] [] p2) p3] [.ExceptHandler (some (.Name "FoldError" p4)) (some "_law_e") [.Assign [.Name "_law_kept_here" p5] (.Name "_law_e" p6) p7] p8] [] [] p9,
   .Return (some (.Name "_law_kept_here" p10)) p11]
def sKept : Scope := { kind := .function, names := [(PySem.Str.ofString "_law_deed", .local), (PySem.Str.ofString "_law_kept_here", .local), (PySem.Str.ofString "_law_e", .local), (PySem.Str.ofString "FoldError", .globalImplicit)], isGenerator := false, isCoroutine := false, more := [] }
theorem kept_gives {X : Cx} {x q : Str} {g CS : Addr} {cdg : Value} {kk : Nat} {pa pb pc p1 p2 p3 p4 p5 p6 p7 p8 p9 p10 p11 : Pos} {sg : Scope} (hsg : sg = sKept) (hme : X.mg "FoldError" = some (.ref CS)) :
    GivesTo X nKept x sg g cdg (bKept kk pa pb pc p1 p2 p3 p4 p5 p6 p7 p8 p9 p10 p11) "_law_deed" q (TTkept X.K CS) := by
  subst hsg
  intro f c' s H Q tl act hc h
  have nd : nKept.Nodup := by decide +kernel
  refine ⟨_, pss_cons (ps_set (X := (cxOf C8.CX0 X.prog X.w X.K X.mg X.base nKept x sKept g cdg X.A X.stack s H C8.E0).nox) (i := 1) nd rfl (Or.inl rfl) pe_non)
    (pss_cons (ps_try_kept (X := (cxOf C8.CX0 X.prog X.w X.K X.mg X.base nKept x sKept g cdg X.A X.stack s H C8.E0).nox) (i := 2) (j := 1) (c := .ref CS)
      (tb := fun W D σ H => ∃ Ech : XK, (∀ cls d σ' H', Ech cls d H' → σ'.length = 3 → W cls d σ' H') ∧ σ[0]? = some (some (.ref f)) ∧ H c' = some (CodeO c' q) ∧ tl Ech H (fun _ H' => D.nx σ H'))
      rfl rfl nd rfl rfl rfl rfl rfl ⟨by rfl, by decide +kernel, .inl hme⟩ L2.takes0 (by decide +kernel) (by decide +kernel) (by rfl) (show 2 < 3 by decide) (fun W pn xe tk _ => ?_))
    (pss_one (ps_ret (pv 1)))), ?_⟩
  · refine ⟨fun pins s' σ H' D I h' => ?_⟩
    obtain ⟨Ech, hW, h1, h2, h3⟩ := h'
    have hp := act (fun cls d σ' H' => σ'.length = 3 → W cls d σ' H') pn xe Ech p1 p2 (takes_len tk) hW
    have hq := pss_one (ps_expr (pos := p3) hp)
    exact hq.run pins s' σ H' D I ⟨h1, h2, h3⟩
  · refine ⟨fun cls d H' => PySem.W.exmOne X.K cls (.ref CS) = some true ∧ ∀ a, H' a = none → Q (.ref a) (upd H' a (ExV cls d a)), fun cls d σ' H' ⟨e1, e2⟩ hl => ⟨true, e1, fun _ a na => ?_, fun z => nomatch z⟩, rfl, hc, ?_⟩
    · match σ', hl with
      | [u, v, z], _ => exact ⟨.ref a, rfl, e2 a na⟩
    · have e : (fun (_ : V) (H' : Hp) => Q .non H') = fun (_ : V) (H' : Hp) => tRet (tVar 1) { nx := fun _ H' => Q .non H', rt := Q } ((L2.start nKept [V.ref f]).set 1 (some .non)) H' := by
        funext _ H'
        refine propext ⟨fun z => ⟨.non, rfl, z⟩, fun ⟨v, e, z⟩ => ?_⟩
        cases (show some (some V.non) = some (some v) from e)
        exact z
      show tl _ H (fun (_ : V) (H' : Hp) => tRet (tVar 1) { nx := fun _ H' => Q .non H', rt := Q } ((L2.start nKept [V.ref f]).set 1 (some .non)) H')
      rw [← e]
      exact h
end Dn
namespace Dn
open PySem PySem.Spec PyProof.Rows L2 LamX
open Evl (Ex)
theorem extv_nt {cls : Value} {d : Option Addr} {a : Addr} (ps : Array Value) : ExV cls d a ≠ .tbl ps := fun z => by
  unfold ExV at z
  cases z
mutual
theorem Den.monoN {H H' : Hp} (e : ExtN H H') {v : V} {d : Dt} : Den H v d → Den H' v d
  | .raw v => .raw v
  | .lst h l => .lst (e _ _ h fun _ z => by cases z) (l.monoN e)
  | .tup h l => .tup (e _ _ h fun _ z => by cases z) (l.monoN e)
  | .dct h l => .dct (e _ _ h fun _ z => by cases z) (l.monoN e)
  | .exc0 h => .exc0 (e _ _ h extv_nt)
  | .excD h hd hf => .excD (e _ _ h extv_nt) (e _ _ hd fun _ z => by cases z) hf
theorem DenL.monoN {H H' : Hp} (e : ExtN H H') {vs : List V} {ds : List Dt} : DenL H vs ds → DenL H' vs ds
  | .nil => .nil
  | .cons h t => .cons (h.monoN e) (t.monoN e)
theorem DenK.monoN {H H' : Hp} (e : ExtN H H') {vs : List (Key × V)} {ds : List (Key × Dt)} : DenK H vs ds → DenK H' vs ds
  | .nil => .nil
  | .cons h t => .cons (h.monoN e) (t.monoN e)
end
theorem DenS.monoN {H H' : Hp} {σ : L2.St} {δ : Sto} (e : ExtN H H') (S : DenS H σ δ) : DenS H' σ δ := ⟨S.len, fun i d h => by
  obtain ⟨v, h1, h2⟩ := S.at_ i d h
  exact ⟨v, h1, h2.monoN e⟩⟩
theorem SqL.monoN {K : PySem.W.Frag} {H H' : Hp} {a : Addr} {xs : List V} (e : ExtN H H') (h : SqL K H a xs) : SqL K H' a xs := by
  rcases h with (h | ⟨o, h⟩) | h
  · exact .inl (.inl (e _ _ h fun _ z => by cases z))
  · exact .inl (.inr ⟨o, e _ _ h fun _ z => by cases z⟩)
  · exact .inr h
/-- a change of what H does not know -/
theorem extN_mut {H H' : Hp} {p : Addr} {o : HO} (e : ExtN H H') (h : H p = none) : ExtN H (upd H' p o) := fun a u ha n => by
  rw [upd_ne (ne_of_none ha h)]
  exact e a u ha n
/-! ### with tables -/
def EvK (T : List (Addr × Str)) (te : TE) (δ : Sto) (d : Dt) : Prop := ∀ (σ : L2.St) (H : Hp) (Q : VK), DenS H σ δ → Tabs T H → (∀ v H', ExtN H H' → Tabs T H' → Den H' v d → Q v H') → te σ H Q
def HsK (T : List (Addr × Str)) (t : TS) (δ : Sto) (N : Sto → Prop) (R : Dt → Prop) : Prop :=
  ∀ (σ : L2.St) (H : Hp) (D : Ends), DenS H σ δ → Tabs T H → (∀ σ' H' δ', ExtN H H' → Tabs T H' → DenS H' σ' δ' → N δ' → D.nx σ' H') → (∀ v H' d, ExtN H H' → Tabs T H' → Den H' v d → R d → D.rt v H') → t D σ H
/-- lists in it hold plain values alone -/
def plainV : V → Bool
  | .ref _ => false
  | _ => true
def plainD : Dt → Bool
  | .raw v => plainV v
  | _ => false
mutual
def flatD : Dt → Bool
  | .raw _ => true
  | .lst l => l.all plainD
  | .tup l => flatDL l
  | .dct l => flatDK l
  | .exc _ _ => true
def flatDL : List Dt → Bool
  | [] => true
  | d :: l => flatD d && flatDL l
def flatDK : List (Key × Dt) → Bool
  | [] => true
  | (_, d) :: l => flatD d && flatDK l
end
theorem plain_ref {H : Hp} {v : V} {d : Dt} (h : Den H v d) (p : plainD d = true) : ∀ a, v ≠ .ref a := fun a z => by
  subst z
  cases h with
  | raw => cases p
  | _ => cases p
theorem plain_all {H : Hp} {xs : List V} {l : List Dt} (h : DenL H xs l) (p : l.all plainD = true) (r : Addr) (rest : List V) : xs ≠ .ref r :: rest := fun z => by
  subst z
  cases h with
  | cons h t =>
    rw [List.all_cons] at p
    exact plain_ref h (Bool.and_eq_true_iff.mp p).1 r rfl
theorem plain_upd {H H' : Hp} {l : List Dt} (p : l.all plainD = true) : ∀ {xs : List V}, DenL H xs l → DenL H' xs l := by
  induction l with
  | nil =>
    intro xs h
    rw [h.nilI]
    exact .nil
  | cons d l ih =>
    intro xs h
    rw [List.all_cons] at p
    have p' := Bool.and_eq_true_iff.mp p
    cases h with
    | cons h t =>
      refine .cons ?_ (ih p'.2 t)
      cases d with
      | raw w =>
        rw [h.rawI]
        exact .raw _
      | _ => cases p'.1
mutual
theorem Den.updF {H : Hp} {D r : Addr} {rest ys : List V} (hD : H D = some (.lst (.ref r :: rest))) {v : V} : ∀ {d : Dt}, Den H v d → flatD d = true → Den (upd H D (.lst ys)) v d
  | .raw w, h, _ => by
    rw [h.rawI]
    exact .raw _
  | .lst l, h, n => by
    unfold flatD at n
    cases h with | lst ha hl => exact .lst (by rw [upd_ne (ne_of ha hD fun z => plain_all hl n r rest (by cases z; rfl))]; exact ha) (plain_upd n hl)
  | .tup l, h, n => by
    unfold flatD at n
    cases h with | tup ha hl => exact .tup (by rw [upd_ne (ne_of ha hD (by intro z; cases z))]; exact ha) (hl.updF hD n)
  | .dct l, h, n => by
    unfold flatD at n
    cases h with | dct ha hl => exact .dct (by rw [upd_ne (ne_of ha hD (by intro z; cases z))]; exact ha) (hl.updF hD n)
  | .exc _ _, h, n => by
    have ne : ∀ {cls : Value} {d : Option Addr} {a : Addr} {xs : List V}, ExV cls d a ≠ .lst xs := fun z => by
      unfold ExV at z
      cases z
    cases h with
    | exc0 h => exact .exc0 (by rw [upd_ne (ne_of h hD ne)]; exact h)
    | excD h hd hf => exact .excD (by rw [upd_ne (ne_of h hD ne)]; exact h) (by rw [upd_ne (ne_of hd hD (by intro z; cases z))]; exact hd) hf
theorem DenL.updF {H : Hp} {D r : Addr} {rest ys : List V} (hD : H D = some (.lst (.ref r :: rest))) : ∀ {l : List Dt} {vs : List V}, DenL H vs l → flatDL l = true → DenL (upd H D (.lst ys)) vs l
  | [], vs, h, _ => by
    rw [h.nilI]
    exact .nil
  | d :: l, vs, h, n => by
    unfold flatDL at n
    have n' := Bool.and_eq_true_iff.mp n
    cases h with | cons h t => exact .cons (h.updF hD n'.1) (t.updF hD n'.2)
theorem DenK.updF {H : Hp} {D r : Addr} {rest ys : List V} (hD : H D = some (.lst (.ref r :: rest))) : ∀ {l : List (Key × Dt)} {vs : List (Key × V)}, DenK H vs l → flatDK l = true → DenK (upd H D (.lst ys)) vs l
  | [], vs, h, _ => by
    cases h
    exact .nil
  | (k, d) :: l, vs, h, n => by
    unfold flatDK at n
    have n' := Bool.and_eq_true_iff.mp n
    cases h with | cons h t => exact .cons (h.updF hD n'.1) (t.updF hD n'.2)
end
section
variable {K : PySem.W.Frag} {T : List (Addr × Str)} {δ δ' : Sto} {te : TE} {tc : TT} {t u : TS} {d z : Dt} {N N' : Sto → Prop} {R : Dt → Prop}
theorem evk_of (h : EvS te δ d) : EvK T te δ d := fun σ H Q S TS q => h σ H Q S fun v H' e d' => q v H' (ExtN.of e) (TS.ext e) d'
theorem hsk_of (h : Hs t δ N R noS noS) : HsK T t δ N R := fun σ H D S TS hn hr => h σ H D S (fun σ' H' δ' e S' n => hn σ' H' δ' (ExtN.of e) (TS.ext e) S' n) (fun v H' d e d' r => hr v H' d (ExtN.of e) (TS.ext e) d' r) (fun _ _ _ _ _ z => z.elim) (fun _ _ _ _ _ z => z.elim)
theorem hsk_seq (h : HsK T t δ N' R) (k : ∀ δ', N' δ' → HsK T u δ' N R) : HsK T (tSeq t u) δ N R := fun σ H D S TS hn hr =>
  h σ H { D with nx := u D } S TS (fun σ' H' δ' e T1 S1 n => k δ' n σ' H' D S1 T1 (fun σ2 H2 δ2 e2 T2 S2 n2 => hn σ2 H2 δ2 (e.trans e2) T2 S2 n2) (fun v H2 d e2 T2 d2 r => hr v H2 d (e.trans e2) T2 d2 r)) hr
theorem hsk_asg {i : Nat} (h : EvK T te δ d) (n : N (δ.set i (some d))) : HsK T (tAsg te (gName i)) δ N R := fun σ H D S TS hn _ => h σ H _ S TS fun v H1 e1 T1 d1 => hn _ H1 _ e1 T1 ((S.monoN e1).set d1) n
theorem hqk_asg {i : Nat} (h : EvK T te δ d) (k : HsK T u (δ.set i (some d)) N R) : HsK T (tSeq (tAsg te (gName i)) u) δ N R := hsk_seq (N' := fun δ' => δ' = δ.set i (some d)) (hsk_asg h rfl) fun _ e => by rw [e]; exact k
theorem hqk_when {b : Bool} (h : EtS tc δ b) (h1 : b = true → HsK T t δ noS R) (h2 : b = false → HsK T u δ N R) : HsK T (tSeq (tIfS tc t tNext) u) δ N R := fun σ H D S TS hn hr => h σ H _ S fun H1 e1 => by
  cases b with
  | true =>
    show t { D with nx := u D } σ H1
    exact h1 rfl σ H1 _ (S.mono e1) (TS.ext e1) (fun _ _ _ _ _ _ z => z.elim) (fun v H2 d e2 T2 d2 r => hr v H2 d ((ExtN.of e1).trans e2) T2 d2 r)
  | false =>
    show u D σ H1
    exact h2 rfl σ H1 D (S.mono e1) (TS.ext e1) (fun σ2 H2 δ2 e2 T2 S2 n2 => hn σ2 H2 δ2 ((ExtN.of e1).trans e2) T2 S2 n2) (fun v H2 d e2 T2 d2 r => hr v H2 d ((ExtN.of e1).trans e2) T2 d2 r)
theorem hsk_when {b : Bool} (h : EtS tc δ b) (h1 : b = true → HsK T t δ noS R) (h2 : b = false → N δ) : HsK T (tIfS tc t tNext) δ N R := fun σ H D S TS hn hr => h σ H _ S fun H1 e1 => by
  cases b with
  | true =>
    show t D σ H1
    exact h1 rfl σ H1 _ (S.mono e1) (TS.ext e1) (fun _ _ _ _ _ _ z => z.elim) (fun v H2 d e2 T2 d2 r => hr v H2 d ((ExtN.of e1).trans e2) T2 d2 r)
  | false =>
    show D.nx σ H1
    exact hn σ H1 δ (ExtN.of e1) (TS.ext e1) (S.mono e1) (h2 rfl)
/-- the lambda raises an error of the class D -/
theorem evk_kept {CF D : Addr} {tl : XK → TE} (h : ∀ E, EvX E (tl E) δ (.error D)) (hm : PySem.W.exmOne K (.ref D) (.ref CF) = some true) : EvK T (tLam T (TTkept K CF) tl) δ (.exc D []) := fun σ H Q S TS q =>
  ⟨TS, fun H1 e1 T1 => h _ σ H1 _ (S.monoN e1) (fun d e => by cases e) fun C e H2 e2 => by
    cases e
    exact ⟨hm, fun a na => q (.ref a) _ ((e1.trans (ExtN.of e2)).trans (ExtN.of (Evl.Ex.new na))) ((T1.ext e2).ext (Evl.Ex.new na)) (.exc0 upd_same)⟩⟩
theorem evk_call1 {sp : Sp} {E : XK} (h : EvK T te δ d) (hs : SpD sp [d] z) : EvK T (tCall sp [] E (tCons te tNil)) δ z := fun σ H Q S TS q =>
  h σ H _ S TS fun v H1 e1 T1 d1 => by
    show sp ([v] ++ []) H1 Q E
    exact hs [v] H1 Q E (.cons d1 .nil) fun u H2 e2 d2 => q u H2 (e1.trans (ExtN.of e2)) (T1.ext e2) d2
theorem evk_lst1 (h : EvK T te δ d) : EvK T (tLst (tCons te tNil)) δ (.lst [d]) := fun σ H Q S TS q =>
  h σ H _ S TS fun v H1 e1 T1 d1 => ⟨Evl.sz_of (show 1 ≤ 100000 by decide), fun p hp => q _ _ (e1.trans (ExtN.of (Evl.Ex.new hp))) (T1.ext (Evl.Ex.new hp)) (.lst upd_same (.cons (d1.mono (Evl.Ex.new hp)) .nil))⟩
theorem TabS_upd {H : Hp} {P D : Addr} {q : Str} {xs ys : List V} (t : TabS H P q) (hD : H D = some (.lst xs)) : TabS (upd H D (.lst ys)) P q := by
  obtain ⟨ps, h1, h2, h3⟩ := t
  refine ⟨ps, by rw [upd_ne (ne_of h1 hD (by intro z; cases z))]; exact h1, h2, fun pos cv hc => ?_⟩
  obtain ⟨c, e1, e2⟩ := h3 pos cv hc
  refine ⟨c, e1, ?_⟩
  rw [upd_ne (ne_of e2 hD fun z => by
    unfold CodeO at z
    cases z)]
  exact e2
/-- slot i holds a list that was made behind H0, its items ls; the other slots: δ -/
def HsB (T : List (Addr × Str)) (i : Nat) (t : TS) (δ : Sto) (ls : List Dt) (N : Sto → Prop) (R : Dt → Prop) : Prop :=
  ∀ (H0 : Hp) (σ : L2.St) (H : Hp) (D : Ends) (l : Addr) (xs : List V), ExtN H0 H → H0 l = none → Tabs T H → DenS H σ δ → σ[i]? = some (some (.ref l)) → H l = some (.lst xs) → DenL H xs ls →
    (∀ σ' H' δ', ExtN H0 H' → Tabs T H' → DenS H' σ' δ' → N δ' → D.nx σ' H') → (∀ v H' d, ExtN H0 H' → Tabs T H' → Den H' v d → R d → D.rt v H') → t D σ H
theorem hsb_start {i : Nat} (hi : i < δ.length) (h : EvK T te δ z) (k : HsB T i u (δ.set i none) [z] N R) : HsK T (tSeq (tAsg (tLst (tCons te tNil)) (gName i)) u) δ N R := fun σ H D S TS hn hr =>
  h σ H _ S TS fun v H1 e1 T1 d1 => ⟨Evl.sz_of (show 1 ≤ 100000 by decide), fun p hp => by
    have S1 : DenS (upd H1 p (.lst [v])) (σ.set i (some (.ref p))) (δ.set i none) := by
      have S2 := (S.monoN e1).mono (Evl.Ex.new (o := .lst [v]) hp)
      refine ⟨by rw [List.length_set, List.length_set, S2.len], fun j e hj => ?_⟩
      by_cases hij : i = j
      · subst hij
        rw [List.getElem?_set_self hi] at hj
        cases hj
      · rw [List.getElem?_set_ne hij] at hj
        rw [List.getElem?_set_ne hij]
        exact S2.at_ j e hj
    exact k H1 _ _ D p [v] (ExtN.of (Evl.Ex.new hp)) hp (T1.ext (Evl.Ex.new hp)) S1 (by rw [List.getElem?_set_self (by rw [S.len]; exact hi)]) upd_same (.cons (d1.mono (Evl.Ex.new hp)) .nil)
      (fun σ' H' δ' e T' S' n => hn σ' H' δ' (e1.trans e) T' S' n) (fun v H' d e T' d' r => hr v H' d (e1.trans e) T' d' r)⟩
/-- told.append(e): told is a list of lists, all else is flat -/
theorem hsb_app {i : Nat} {l0 l1 : List Dt} {r : V → List V → Hp → VK → Prop} (hr : r = rAppend) (hf : flatDL (.lst l0 :: l1) = true) (ho : ∀ (j : Nat) d, δ[j]? = some (some d) → flatD d = true) (hz : flatD z = true) (hl : l1.length ≤ 1000)
    (h : EvK T te δ z) (k : HsB T i u δ (.lst l0 :: (l1 ++ [z])) N R) : HsB T i (tSeq (tDrop (tBM K "list" r (tVar i) (tCons te tNil))) u) δ (.lst l0 :: l1) N R := fun H0 σ H D l xs e0 hl0 TS S hi hxl dxl hn hr' => by
  subst hr
  refine ⟨.ref l, hi, .inl ⟨rfl, _, SqL.of hxl⟩, ?_⟩
  refine h σ H _ S TS fun y H1 e1 T1 d1 => ?_
  have hl1 : H1 l = some (.lst xs) := e1 _ _ hxl fun _ z => by cases z
  have hx1 := dxl.monoN e1
  obtain ⟨v0, vr, rfl, d0, dr⟩ := hx1.consI
  obtain ⟨p0, x0, rfl, hp0, hx0⟩ := d0.lstI
  refine ⟨l, _, y, rfl, rfl, hl1, ?_, ?_⟩
  · have := dr.len
    show vr.length + 1 < sizeLine
    exact Evl.sz_lt (by omega)
  · have S1 := S.monoN e1
    have S2 : DenS (upd H1 l (.lst ((.ref p0 :: vr) ++ [y]))) σ δ := ⟨S1.len, fun j d hj => by
      obtain ⟨v, q1, q2⟩ := S1.at_ j d hj
      exact ⟨v, q1, q2.updF hl1 (ho j d hj)⟩⟩
    have D2 : DenL (upd H1 l (.lst ((.ref p0 :: vr) ++ [y]))) ((.ref p0 :: vr) ++ [y]) ((.lst l0 :: l1) ++ [z]) := (hx1.updF hl1 hf).app (.cons (d1.updF hl1 hz) .nil)
    exact k H0 σ _ D l _ (extN_mut (e0.trans e1) hl0) hl0 (fun p hp => TabS_upd (T1 p hp) hl1) S2 hi upd_same D2 hn hr'
theorem hsb_end {i : Nat} {ls : List Dt} (hi : i < δ.length) (k : HsK T t (δ.set i (some (.lst ls))) N R) : HsB T i t δ ls N R := fun H0 σ H D l xs e0 hl0 TS S hs hxl dxl hn hr => by
  have S1 : DenS H σ (δ.set i (some (.lst ls))) := by
    refine ⟨by rw [List.length_set, S.len], fun j e hj => ?_⟩
    by_cases hij : i = j
    · subst hij
      rw [List.getElem?_set_self hi] at hj
      cases hj
      exact ⟨_, hs, .lst hxl dxl⟩
    · rw [List.getElem?_set_ne hij] at hj
      exact S.at_ j e hj
  exact k σ H D S1 TS (fun σ' H' δ' e T' S' n => hn σ' H' δ' (e0.trans e) T' S' n) (fun v H' d e T' d' r => hr v H' d (e0.trans e) T' d' r)
end
/-- kept(lambda: body) -/
theorem pe_keep {X : Cx} {T : List (Addr × Str)} {stK : Stmt} {gk CF c P : Addr} {fdk : FuncData} {k : Nat} {params : Arguments} {body : Expr} {scope : Scope} {t : XK → TE} {p lpos pos : Pos} {kk : Nat} {pa pb pc p1 p2 p3 p4 p5 p6 p7 p8 p9 p10 p11 : Pos}
    (Fk : L2.Fun X.K "_law_kept" "_law_kept" stK gk fdk) (hsc : defScope stK = sKept) (hbd : defBody stK = bKept kk pa pb pc p1 p2 p3 p4 p5 p6 p7 p8 p9 p10 p11) (bk : L2.Binds X.K fdk ["_law_deed"] []) (hm : X.mg "_law_kept" = some (.ref gk)) (hF : X.mg "FoldError" = some (.ref CF)) (hg : Gl X "_law_kept")
    (TB : TabB X.base X.mg c P) (hcode : X.env.code = .ref c) (hmT : (P, X.env.qual ++ "<lambda>") ∈ T) (hu : ∀ p ∈ T, p.1 = P → p.2 = X.env.qual ++ "<lambda>") (hr : Room (k + 2) X.A) (L : LamS X.env.scope scope) (hdef : defaultsOf params X.env = ([], []))
    (hbind : ∀ (q : Str) (cl : List (Str × Addr)) (pm cv ctv : Value), bindArgs (PySem.W.kla_fn "<lambda>" q params body scope cl pm cv ctv) ⟨[], []⟩ = pure [])
    (hbody : ∀ (A : Around) (outer : List Env) (s : Shared) (H : Hp) (E : XK) (f c' : Addr), Room k (A.deeper (lamEnv X scope s.heap.objs.size f c')) → PE (lamCx X A outer s H E scope f c') body (t E)) :
    PE X (.Call (.Name "_law_kept" p) [.Lambda params body scope lpos] [] pos) (tLam T (TTkept X.K CF) t) := by
  obtain ⟨oc, od, kV, doc, pm, an, cdv, ct, osl, rfl, lk, hcd⟩ := Fk.ex
  have nd : nKept.Nodup := by decide +kernel
  have Sg : FnScope nKept ["_law_deed"] (defScope stK) := by
    rw [hsc]
    exact ⟨rfl, rfl, rfl, nd, rfl, by decide +kernel, by decide +kernel⟩
  exact pe_lamcall (Ng := nKept) hg hm Fk.kp lk hcd bk Sg rfl (by rw [hsc]; exact Or.inl rfl) (by rw [hbd]; exact kept_gives hsc hF) TB hcode hmT hu hr L hdef hbind hbody (by decide +kernel) (by decide +kernel) (by decide +kernel)
/-- a def's body, the def's code object known -/
theorem Fun.okC {P : Program} {w : World} {K : PySem.W.Frag} {mg : Str → Option Value} {base : Heap} {x qual : Str} {st : Stmt} {f c : Addr} {fd : FuncData} {N ps : List Str} {k : Nat} {sp : Sp} (F : L2.Fun K x qual st f fd) (hfc : fd.code = .ref c) (S : FnScope N ps (defScope st)) (len : ∀ vs H Q E, sp vs H Q E → vs.length = ps.length)
    (hbody : ∀ (A : Around) (outer : List Env) (s : Shared) (H : Hp) (vs : List V) (Q : VK) (E : XK), Room k (A.deeper (envOfC qual (defScope st) s.heap.objs.size f (.ref c))) → sp vs H Q E →
      ∃ t, PSs (cxOf L2.CX0 P w K mg base N qual (defScope st) f (.ref c) A outer s H E).nox (defBody st) t ∧ t { nx := fun _ H' => Q .non H', rt := Q } (L2.start N vs) H) : FnOk P w K mg base L2.CX0 (k + 1) f fd ps sp := by
  obtain ⟨oc, od, kV, doc, pm, an, cdv, ct, osl, e, lk, hcd⟩ := F.ex
  have e2 : cdv = .ref c := by
    rw [e] at hfc
    exact hfc
  subst e2
  subst e
  refine fn_of lk hcd S len fun A outer s H vs Q E hr hsp => ?_
  obtain ⟨t, h, q⟩ := hbody A outer s H vs Q E hr hsp
  exact ⟨t, h.nox, q⟩
end Dn

namespace Dn
open PySem PySem.Spec PyProof.Rows L2 LamX
open Evl (Ex)
def EtK (T : List (Addr × Str)) (tt : TT) (δ : Sto) (b : Bool) : Prop := ∀ (σ : L2.St) (H : Hp) (Q : Bool → Hp → Prop), DenS H σ δ → Tabs T H → (∀ H', ExtN H H' → Tabs T H' → Q b H') → tt σ H Q
section
variable {K : PySem.W.Frag} {T : List (Addr × Str)} {δ δ' : Sto} {te ta tb : TE} {tc : TT} {t u : TS} {d x y z : Dt} {r : R2} {b c : Bool} {N N' : Sto → Prop} {R : Dt → Prop}
theorem evk_op (ha : EvK T ta δ x) (hb : EvS tb δ y) (hr : OpD r x y z) : EvK T (tOp r ta tb) δ z := fun σ H Q S TS q =>
  ha σ H _ S TS fun v H1 e1 T1 d1 => hb σ H1 _ (S.monoN e1) fun w H2 e2 d2 => hr v w H2 Q (d1.mono e2) d2 fun u H3 e3 d3 => q u H3 ((e1.trans (ExtN.of e2)).trans (ExtN.of e3)) ((T1.ext e2).ext e3) d3
theorem evk_eq {e : Dt} (h : EvK T te δ d) (q : d = e) : EvK T te δ e := q ▸ h
theorem etk_test (h : EvK T te δ (dB b)) : EtK T (tTest te) δ b := fun σ H Q S TS q => h σ H _ S TS fun v H1 e1 T1 d1 => ⟨b, d1.rawI, q H1 e1 T1⟩
theorem etk_eq (h : EtK T tc δ b) (q : b = c) : EtK T tc δ c := q ▸ h
theorem hqk_whenK (h : EtK T tc δ b) (h1 : b = true → HsK T t δ noS R) (h2 : b = false → HsK T u δ N R) : HsK T (tSeq (tIfS tc t tNext) u) δ N R := fun σ H D S TS hn hr => h σ H _ S TS fun H1 e1 T1 => by
  cases b with
  | true =>
    show t { D with nx := u D } σ H1
    exact h1 rfl σ H1 _ (S.monoN e1) T1 (fun _ _ _ _ _ _ z => z.elim) (fun v H2 d e2 T2 d2 r => hr v H2 d (e1.trans e2) T2 d2 r)
  | false =>
    show u D σ H1
    exact h2 rfl σ H1 D (S.monoN e1) T1 (fun σ2 H2 δ2 e2 T2 S2 n2 => hn σ2 H2 δ2 (e1.trans e2) T2 S2 n2) (fun v H2 d e2 T2 d2 r => hr v H2 d (e1.trans e2) T2 d2 r)
theorem hsk_whenK (h : EtK T tc δ b) (h1 : b = true → HsK T t δ noS R) (h2 : b = false → N δ) : HsK T (tIfS tc t tNext) δ N R := fun σ H D S TS hn hr => h σ H _ S TS fun H1 e1 T1 => by
  cases b with
  | true =>
    show t { D with nx := D.nx } σ H1
    exact h1 rfl σ H1 _ (S.monoN e1) T1 (fun _ _ _ _ _ _ z => z.elim) (fun v H2 d e2 T2 d2 r => hr v H2 d (e1.trans e2) T2 d2 r)
  | false =>
    show D.nx σ H1
    exact hn σ H1 δ e1 T1 (S.monoN e1) (h2 rfl)
theorem hsk_forT {tl : TE} {ds : List Dt} {j : Nat} (h : EvS tl δ (.tup ds)) (I : Sto → Prop) (h0 : I δ) (hs : ∀ δ' d, I δ' → d ∈ ds → HsK T t (δ'.set j (some d)) I R) (hd : ∀ δ', I δ' → N δ') : HsK T (tFor (iTup K tl) (gName j) t) δ N R := fun σ H D S TS hn hr =>
  h σ H _ S fun v H1 e1 d1 => by
    obtain ⟨a, xs, rfl, ha, hl⟩ := d1.tupI
    refine ⟨a, rfl, ⟨xs, SqT.of ha⟩, for_tup (fun _ σ' H' => ExtN H1 H' ∧ Tabs T H' ∧ ∃ δ', DenS H' σ' δ' ∧ I δ') ⟨ExtN.refl _, TS.ext e1, δ, S.mono e1, h0⟩ (fun i σ' H' _ p => SqT.of (p.1 _ _ ha fun _ z => by cases z)) (fun i x σ' H' hx p => ?_) fun σ' H' p => ?_⟩
    · obtain ⟨e2, T2, δ2, S2, i2⟩ := p
      obtain ⟨d, hd', dx⟩ := hl.getV hx
      show t _ (σ'.set j (some x)) H'
      exact hs δ2 d i2 (List.mem_of_getElem? hd') _ H' _ (S2.set (dx.monoN e2)) T2 (fun σ3 H3 δ3 e3 T3 S3 n => ⟨e2.trans e3, T3, δ3, S3, n⟩) (fun v H3 d e3 T3 d3 r => hr v H3 d ((ExtN.of e1).trans (e2.trans e3)) T3 d3 r)
    · obtain ⟨e2, T2, δ2, S2, i2⟩ := p
      exact hn σ' H' δ2 ((ExtN.of e1).trans e2) T2 S2 (hd δ2 i2)
end
/-- a call of what slot i holds: one of several defs -/
def tCallS (i : Nat) (S : Addr → Option Sp) (E : XK) (t : TA) : TE := fun σ H Q => ∃ f sp, σ[i]? = some (some (.ref f)) ∧ S f = some sp ∧ t σ H fun vs H1 => sp vs H1 Q E
section
variable {X : Cx} {CX : CXT} {k j i : Nat} {S : Addr → Option Sp} {E : XK} {x : Str} {p pos : Pos} {e : Expr} {es : List Expr} {t : TA}
theorem pe_callS (A : ∀ f sp, S f = some sp → ∃ (fd : FuncData) (ps : List Str), FnOk X.prog X.w X.K X.mg X.base CX k f fd ps sp ∧ PySem.W.keepIn X.K (.ref f) = true ∧ Binds X.K fd ps []) (hr : Room j X.A) (hk : k ≤ j) (hx : Passes CX X E) (hN : X.N[i]? = some x) (hv : Vis X.env.scope x) (ha : PA X (e :: es) t)
    (hdb : (x == ("__debug__" : Str)) = false := by decide) (hcd : (x == ("__classdict__" : Str)) = false := by decide)
    (he : starEach (e :: es) X.env = (false, eval e X.env) :: starEach es X.env := by rfl) (hpl : (backTo pos (starEach es X.env)).any (·.1) = false := by rfl) : PE X (.Call (.Name x p) (e :: es) [] pos) (tCallS i S E t) := by
  refine ⟨fun pins s σ H Q I h => ?_⟩
  obtain ⟨f, sp, hs, hS, ht⟩ := h
  obtain ⟨fd, ps, F, kp, b⟩ := A f sp hS
  refine (pe_callL (i := i) (f := f) (sp := sp) (dvs := []) (E := E) F (hr.mono hk) hN hv kp b .nil hx ha hdb hcd he hpl).run pins s σ H Q I ⟨hs, ?_⟩
  have e0 : (fun (vs : List V) (H1 : Hp) => sp (vs ++ []) H1 Q E) = fun vs H1 => sp vs H1 Q E := by
    funext vs H1
    rw [List.append_nil]
  rw [e0]
  exact ht
theorem evx_callS {δ : Sto} {f0 : Addr} {n : Nat} {P : List Dt → Prop} {F : List Dt → Rs} {ds : List Dt} (hi : δ[i]? = some (some (.raw (.ref f0)))) (hS : S f0 = some (spX n P F)) (h : EaS t δ ds) (hn : ds.length = n) (hp : P ds) : EvX E (tCallS i S E t) δ (F ds) := fun σ H Q DS q qe => by
  obtain ⟨v, hv, dv⟩ := DS.at_ i _ hi
  rw [dv.rawI] at hv
  refine ⟨f0, _, hv, hS, h σ H _ DS fun vs H1 e1 d1 => ?_⟩
  exact ⟨ds, d1, hn, hp, fun d e v H2 e2 d2 => q d e v H2 (e1.trans e2) d2, fun C e H2 e2 => qe C e H2 (e1.trans e2)⟩
end
end Dn
/-! Own layer: what the laws' small defs reckon, as plain functions of ints. -/
namespace Dn
open PySem PySem.Spec PyProof.Rows L2
open Evl (Ex)
def mixed (c k : Int) : Int := ((c % 1000000007 + 7919 * k + 11) % 1000003) * ((c % 1000000007 + 7919 * k + 11) % 1000003) % 1000003 * ((c % 1000000007 + 7919 * k + 11) % 1000003) % 1000003
theorem mixed_lo (c k : Int) : 0 ≤ mixed c k := by unfold mixed; omega
theorem mixed_hi (c k : Int) : mixed c k < 1000003 := by unfold mixed; omega
def wide (c k : Int) : Int := c % 10 ^ 40 * 1000003 ^ 2 + mixed c k * 1000003 + mixed c (k + 50)
theorem wide_lo (c k : Int) : 0 ≤ wide c k := by
  have h1 := mixed_lo c k
  have h2 := mixed_lo c (k + 50)
  have h3 : 0 ≤ c % 10 ^ 40 := Int.emod_nonneg _ (by decide)
  unfold wide
  omega
theorem wide_hi (c k : Int) : wide c k < 2 ^ 180 := by
  have h1 := mixed_hi c k
  have h2 := mixed_hi c (k + 50)
  have h3 : c % 10 ^ 40 < 10 ^ 40 := Int.emod_lt_of_pos _ (by decide)
  unfold wide
  omega
theorem nat2 {i : Int} {a : Nat} (h0 : -(2 ^ a : Int) < i) (h1 : i < 2 ^ a) : i.natAbs < 2 ^ a := by
  have e : ((2 ^ a : Nat) : Int) = (2 : Int) ^ a := by simp
  omega
theorem cmw {i j : Int} (a b : Nat) (hi : -(2 ^ a : Int) < i ∧ i < 2 ^ a) (hj : -(2 ^ b : Int) < j ∧ j < 2 ^ b) (h0 : 0 < a := by decide) (h1 : 0 < b := by decide) (h : a + b ≤ 1000000 := by decide) : CMulW i j :=
  wide_mul (nat2 hi.1 hi.2) (nat2 hj.1 hj.2) h0 h1 h
theorem cm64 {i j : Int} (hi : -18446744073709551616 < i ∧ i < 18446744073709551616) (hj : -18446744073709551616 < j ∧ j < 18446744073709551616) : CMulW i j :=
  cmw 64 64 ⟨by omega, by omega⟩ ⟨by omega, by omega⟩
theorem cdw {i j : Int} (b : Nat) (h : 0 < j) (hb : j < 2 ^ b) (h0 : 0 < b := by decide) (h9 : b ≤ 9000 := by decide) : CDivW i j := wide_div (i := i) h (nat2 (by have : (0 : Int) ≤ 2 ^ b := Int.le_of_lt (Int.pow_pos (by decide)); omega) hb) h0 h9
def few (n : Int) : Int := 1 + n / 9 % 12
def smooth (n : Int) : Int := ([2, 3, 4, 5, 6, 7, 9, 10] : List Int).getD (n / 9 % 8).toNat 0 * ([2, 3, 5, 6, 8, 9, 11, 12] : List Int).getD (n / 100 % 8).toNat 0
def hoursL (c k n : Int) : List Int := [few n, few n, smooth n, smooth n * ([10, 49, 72, 1000] : List Int).getD (n / 1000 % 4).toNat 0, 1 + wide c (k + 1) % 10 ^ 30, 1 + wide c (k + 1) % 10 ^ 30, 10 ^ 30, few n, 1]
def hours (c k : Int) : Int := (hoursL c k (mixed c k)).getD (mixed c k % 9).toNat 0
theorem getD_all {P : Int → Prop} {l : List Int} (h : ∀ x ∈ l, P x) {i : Nat} (hi : i < l.length) : P (l.getD i 0) := by
  rw [List.getD_eq_getElem?_getD, List.getElem?_eq_getElem hi]
  exact h _ (List.getElem_mem hi)
theorem smooth_in (n : Int) : 4 ≤ smooth n ∧ smooth n ≤ 120 := by
  have h1 : 2 ≤ ([2, 3, 4, 5, 6, 7, 9, 10] : List Int).getD (n / 9 % 8).toNat 0 ∧ ([2, 3, 4, 5, 6, 7, 9, 10] : List Int).getD (n / 9 % 8).toNat 0 ≤ 10 :=
    getD_all (P := fun x => 2 ≤ x ∧ x ≤ 10) (by decide) (by show _ < 8; omega)
  have h2 : 2 ≤ ([2, 3, 5, 6, 8, 9, 11, 12] : List Int).getD (n / 100 % 8).toNat 0 ∧ ([2, 3, 5, 6, 8, 9, 11, 12] : List Int).getD (n / 100 % 8).toNat 0 ≤ 12 :=
    getD_all (P := fun x => 2 ≤ x ∧ x ≤ 12) (by decide) (by show _ < 8; omega)
  unfold smooth
  generalize ([2, 3, 4, 5, 6, 7, 9, 10] : List Int).getD (n / 9 % 8).toNat 0 = a at *
  generalize ([2, 3, 5, 6, 8, 9, 11, 12] : List Int).getD (n / 100 % 8).toNat 0 = b at *
  refine ⟨Int.mul_le_mul h1.1 h2.1 (by decide) (by omega), Int.mul_le_mul h1.2 h2.2 (by omega) (by decide)⟩
theorem more_in (n : Int) : 10 ≤ ([10, 49, 72, 1000] : List Int).getD (n / 1000 % 4).toNat 0 ∧ ([10, 49, 72, 1000] : List Int).getD (n / 1000 % 4).toNat 0 ≤ 1000 :=
  getD_all (P := fun x => 10 ≤ x ∧ x ≤ 1000) (by decide) (by show _ < 4; omega)
theorem smore_in (n : Int) : 40 ≤ smooth n * ([10, 49, 72, 1000] : List Int).getD (n / 1000 % 4).toNat 0 ∧ smooth n * ([10, 49, 72, 1000] : List Int).getD (n / 1000 % 4).toNat 0 ≤ 120000 := by
  have h1 := smooth_in n
  have h2 := more_in n
  exact ⟨Int.mul_le_mul h1.1 h2.1 (by decide) (by omega), Int.mul_le_mul h1.2 h2.2 (by omega) (by decide)⟩
theorem hoursL_in (c k n : Int) : ∀ x ∈ hoursL c k n, 1 ≤ x ∧ x ≤ 1000000000000000000000000000000 := by
  have h1 := smooth_in n
  have h2 := smore_in n
  have e : (10 : Int) ^ 30 = 1000000000000000000000000000000 := by decide +kernel
  have hf : 1 ≤ few n ∧ few n ≤ 12 := by unfold few; omega
  intro x hx
  unfold hoursL at hx
  simp only [List.mem_cons, List.not_mem_nil, or_false] at hx
  rw [e] at hx
  rcases hx with h | h | h | h | h | h | h | h | h <;> rw [h] <;> omega
theorem hours_in (c k : Int) : 1 ≤ hours c k ∧ hours c k ≤ 1000000000000000000000000000000 := by
  have h1 := mixed_lo c k
  exact getD_all (P := fun x => 1 ≤ x ∧ x ≤ 1000000000000000000000000000000) (hoursL_in c k _) (by show _ < 9; omega)
def turnL (c k n : Int) : List Int := [n / 6 % 50, -1 - n / 6 % 50, wide c (k + 3), 0 - wide c (k + 3), 0, wide c (k + 3) * wide c (k + 3)]
def turn (c k : Int) : Int := (turnL c k (mixed c k)).getD (mixed c k % 6).toNat 0
def clockH (c k : Int) : Int := ([0, hours c k - 1, wide c (k + 4) % hours c k] : List Int).getD (mixed c (k + 2) % 3).toNat 0
theorem clockH_in (c k : Int) : 0 ≤ clockH c k ∧ clockH c k < hours c k := by
  have h := hours_in c k
  have m := mixed_lo c (k + 2)
  refine getD_all (P := fun x => 0 ≤ x ∧ x < hours c k) (fun x hx => ?_) (by show _ < 3; omega)
  have h3 : 0 ≤ wide c (k + 4) % hours c k := Int.emod_nonneg _ (by omega)
  have h4 : wide c (k + 4) % hours c k < hours c k := Int.emod_lt_of_pos _ (by omega)
  simp only [List.mem_cons, List.not_mem_nil, or_false] at hx
  rcases hx with e | e | e <;> rw [e] <;> omega
theorem turn_in (c k : Int) : -(2 ^ 400 : Int) < turn c k ∧ turn c k < 2 ^ 400 := by
  have m := mixed_lo c k
  have w0 := wide_lo c (k + 3)
  have w1 := wide_hi c (k + 3)
  have w2 : wide c (k + 3) * wide c (k + 3) ≤ 2 ^ 180 * 2 ^ 180 := Int.mul_le_mul (Int.le_of_lt w1) (Int.le_of_lt w1) w0 (by decide +kernel)
  have w3 : 0 ≤ wide c (k + 3) * wide c (k + 3) := Int.mul_nonneg w0 w0
  refine getD_all (P := fun x => -(2 ^ 400 : Int) < x ∧ x < 2 ^ 400) (fun x hx => ?_) (by show _ < 6; omega)
  unfold turnL at hx
  simp only [List.mem_cons, List.not_mem_nil, or_false] at hx
  generalize wide c (k + 3) * wide c (k + 3) = ww at *
  generalize wide c (k + 3) = ww1 at *
  rcases hx with e | e | e | e | e | e <;> rw [e] <;> omega
/-- an item of a written list of ints -/
theorem od_ixI {K : PySem.W.Frag} {l : List Int} {i : Int} (h0 : 0 ≤ i) (h1 : i < (l.length : Int)) : OpD (rIx K) (.lst (l.map dI)) (dI i) (dI (l.getD i.toNat 0)) := by
  refine od_ixSeqL h0 ?_
  have hi : i.toNat < l.length := by omega
  rw [List.getElem?_map, List.getD_eq_getElem?_getD, List.getElem?_eq_getElem hi]
  rfl
end Dn
namespace Dn
open PySem PySem.Spec PyProof.Rows L2
open Evl (Ex)
section
variable {K : PySem.W.Frag} {d : Dt} {ds : List Dt} {δ : Sto} {E : XK}
theorem ca_lenUL : CaD (rLenU K) [.lst ds] (dI ds.length) := fun vs H Q h1 q => .inl (ca_lenL vs H Q h1 q)
theorem ca_lenUT : CaD (rLenU K) [.tup ds] (dI ds.length) := fun vs H Q h1 q => .inl (ca_lenT vs H Q h1 q)
theorem ev_callX {n : Nat} {P : List Dt → Prop} {f : List Dt → Rs} {ta : TA} (h : EaS ta δ ds) (hn : ds.length = n) (hp : P ds) (hf : f ds = .ok d) : EvS (tCall (spX n P f) [] E ta) δ d := fun σ H Q S q =>
  evx_call (E := E) h hn hp σ H Q S (fun d' e v H' e1 d1 => by
    rw [hf] at e
    cases e
    exact q v H' e1 d1) fun C e => by
    rw [hf] at e
    cases e
end
def kk (m : Int) : List Dt → Prop := fun ds => ∃ c k : Int, ds = [dI c, dI k] ∧ 0 ≤ k ∧ k ≤ m
def ii (f : Int → Int → Int) : List Dt → Dt
  | [.raw (.int c), .raw (.int k)] => dI (f c k)
  | _ => dN
abbrev spMixed : Sp := spD 2 (kk 100000) (ii mixed)
abbrev spWide : Sp := spD 2 (kk 99000) (ii wide)
abbrev spHours : Sp := spD 2 (kk 98000) (ii hours)
abbrev spTurn : Sp := spD 2 (kk 98000) (ii turn)
def clockD (ds : List Dt) : Dt := match ds with
  | [.raw (.int c), .raw (.int k)] => .tup [dI (hours c k), dI (clockH c k)]
  | _ => dN
abbrev spClock : Sp := spD 2 (kk 97000) clockD
abbrev spWhole : Sp := spD 1 (fun ds => ∃ i : Int, ds = [dI i]) (fun _ => dB true)
def isNum (d : Dt) : Bool := tyD d == some "int"
def isNumD (ds : List Dt) : Dt := match ds with | [d] => dB (isNum d) | _ => dN
def one (p : Dt → Prop) : List Dt → Prop := fun ds => ∃ d, ds = [d] ∧ p d
abbrev spNum : Sp := spD 1 (one fun d => ∃ T, tyD d = some T) isNumD
theorem isNum_of {d : Dt} {T : String} (h : tyD d = some T) : isNum d = decide (T = "int") := by
  unfold isNum
  rw [h]
  by_cases e : T = "int"
  · subst e
    rfl
  · rw [decide_eq_false e]
    simpa using e
theorem isNum_int {d : Dt} (h : isNum d = true) : ∃ i, d = dI i := by
  unfold isNum at h
  cases d with
  | raw v => cases v <;> simp [tyD] at h <;> exact ⟨_, rfl⟩
  | _ => simp [tyD] at h
def isClock : Dt → Bool
  | .tup [.raw (.int h), .raw (.int x)] => decide (1 ≤ h) && decide (h ≤ 1000000000000000000000000000000) && (decide (0 ≤ x) && decide (x < h))
  | _ => false
/-- what is_clock is asked of: its type is known, of a pair the types of its two -/
def okTh (d : Dt) : Prop := (∃ T, tyD d = some T) ∧ ∀ a b, d = .tup [a, b] → (∃ T, tyD a = some T) ∧ ∃ T, tyD b = some T
theorem isClock_not {d : Dt} {T : String} (h : tyD d = some T) (hT : T ≠ "tuple") : isClock d = false := by
  cases d with
  | tup l =>
    have e : some "tuple" = some T := h
    cases e
    exact absurd rfl hT
  | _ => rfl
theorem isClock_len {l : List Dt} (h : l.length ≠ 2) : isClock (.tup l) = false := by
  unfold isClock
  split
  · rename_i q
    cases q
    exact absurd rfl h
  · rfl
theorem isClock_num {a b : Dt} (h : isNum a = false ∨ isNum b = false) : isClock (.tup [a, b]) = false := by
  unfold isClock
  split
  · rename_i q
    cases q
    rcases h with h | h <;> cases h
  · rfl
abbrev spIsClock : Sp := spD 1 (one okTh) (fun ds => match ds with | [d] => dB (isClock d) | _ => dN)
abbrev spNeedClock (CB : Addr) : Sp := spX 1 (one okTh) (fun ds => match ds with | [d] => if isClock d = true then .ok dN else .error CB | _ => .ok dN)
abbrev spNeedTurn (CT : Addr) : Sp := spX 1 (one fun d => ∃ T, tyD d = some T) (fun ds => match ds with | [d] => if isNum d = true then .ok dN else .error CT | _ => .ok dN)
def showsD : Dt → Dt → Dt
  | .tup [.raw (.int h), _], .raw (.int t) => dI (t % h)
  | _, _ => dN
def rightD : Dt → Dt → Dt
  | .tup [.raw (.int h), .raw (.int x)], .raw (.int t) => dB (decide (t % h = x))
  | _, _ => dN
def ckTurn (CB CT : Addr) (f : Dt → Dt → Dt) (ds : List Dt) : Rs := match ds with
  | [c, t] => if isClock c = true then (if isNum t = true then .ok (f c t) else .error CT) else .error CB
  | _ => .ok dN
def pTurn (ds : List Dt) : Prop := ∃ c t, ds = [c, t] ∧ okTh c ∧ ∃ T, tyD t = some T
abbrev spShows (CB CT : Addr) : Sp := spX 2 pTurn (ckTurn CB CT showsD)
abbrev spRight (CB CT : Addr) : Sp := spX 2 pTurn (ckTurn CB CT rightD)
theorem isClock_inv {d : Dt} (h : isClock d = true) : ∃ n x : Int, d = .tup [dI n, dI x] ∧ 1 ≤ n ∧ n ≤ 1000000000000000000000000000000 ∧ 0 ≤ x ∧ x < n := by
  unfold isClock at h
  split at h
  · simp only [Bool.and_eq_true, decide_eq_true_eq] at h
    exact ⟨_, _, rfl, h.1.1, h.1.2, h.2.1, h.2.2⟩
  · cases h
theorem okTh_clock (h x : Int) : okTh (.tup [dI h, dI x]) := ⟨⟨_, rfl⟩, fun a b e => by cases e; exact ⟨⟨_, rfl⟩, ⟨_, rfl⟩⟩⟩
theorem isClock_good {h x : Int} (h1 : 1 ≤ h) (h2 : h ≤ 1000000000000000000000000000000) (x0 : 0 ≤ x) (x1 : x < h) : isClock (.tup [dI h, dI x]) = true := by
  unfold isClock
  simp [h1, h2, x0, x1]
/-! what is no clock, no turn -/
def odd11 (h x : Int) : List Dt := [dN, dI 5, dS "12", .lst [dI h, dI x], .tup [dI h], .tup [dI h, dI x, dI 0], .tup [dI 0, dI 0], .tup [dI (-1), dI 0], .tup [dI h, dI h], .tup [dI h, dI (-1)], .dct []]
def odd7 (h n : Int) : List Dt := [.tup [dI h, dN], .tup [dS "1", dI 0], .tup [dB true, dI 0], .tup [dI h, dB false], .tup [dI (10 ^ 30 + 1 + n), dI 0], .tup [.lst [dI h], dI 0], .tup []]
def oddClock (h x n : Int) : Dt := (odd11 h x ++ odd7 h n).getD (n % 18).toNat dN
theorem getDD_all {P : Dt → Prop} {l : List Dt} (h : ∀ x ∈ l, P x) {i : Nat} (hi : i < l.length) : P (l.getD i dN) := by
  rw [List.getD_eq_getElem?_getD, List.getElem?_eq_getElem hi]
  exact h _ (List.getElem_mem hi)
theorem oddClock_is {h x n : Int} (hn : 0 ≤ n) (h1 : 1 ≤ h) : okTh (oddClock h x n) ∧ isClock (oddClock h x n) = false := by
  refine getDD_all (P := fun d => okTh d ∧ isClock d = false) (fun d hd => ?_) (by show _ < 18; omega)
  have e : (10 : Int) ^ 30 = 1000000000000000000000000000000 := by decide +kernel
  rcases List.mem_append.mp hd with hd | hd
  · unfold odd11 at hd
    simp only [List.mem_cons, List.not_mem_nil, or_false] at hd
    rcases hd with q | q | q | q | q | q | q | q | q | q | q <;> subst q <;> refine ⟨⟨⟨_, rfl⟩, fun a b z => ?_⟩, ?_⟩ <;> first | rfl | (cases z; exact ⟨⟨_, rfl⟩, ⟨_, rfl⟩⟩) | (cases z; done) | (unfold isClock; simp)
  · unfold odd7 at hd
    simp only [List.mem_cons, List.not_mem_nil, or_false] at hd
    rw [e] at hd
    rcases hd with q | q | q | q | q | q | q <;> subst q <;> refine ⟨⟨⟨_, rfl⟩, fun a b z => ?_⟩, ?_⟩ <;> first | rfl | (cases z; exact ⟨⟨_, rfl⟩, ⟨_, rfl⟩⟩) | (cases z; done) | (unfold isClock; simp; omega)
def odd8 : List Dt := [dN, dB true, dS "1", .lst [dI 1], .tup [dI 1], .dct [], dB false, dS ""]
def oddTurn (n : Int) : Dt := odd8.getD (n % 8).toNat dN
theorem oddTurn_is {n : Int} : okTh (oddTurn n) ∧ isClock (oddTurn n) = false ∧ isNum (oddTurn n) = false := by
  refine getDD_all (P := fun d => okTh d ∧ isClock d = false ∧ isNum d = false) (fun d hd => ?_) (by show _ < 8; omega)
  unfold odd8 at hd
  simp only [List.mem_cons, List.not_mem_nil, or_false] at hd
  rcases hd with q | q | q | q | q | q | q | q <;> subst q <;> refine ⟨⟨⟨_, rfl⟩, fun a b z => ?_⟩, rfl, rfl⟩ <;> cases z
theorem od_ixD {K : PySem.W.Frag} {l : List Dt} {i : Int} (h0 : 0 ≤ i) (h1 : i < (l.length : Int)) : OpD (rIx K) (.lst l) (dI i) (l.getD i.toNat dN) := by
  refine od_ixSeqL h0 ?_
  have hi : i.toNat < l.length := by omega
  rw [List.getD_eq_getElem?_getD, List.getElem?_eq_getElem hi]
  rfl
abbrev spOddClock : Sp := spD 2 (fun ds => ∃ h x n : Int, ds = [.tup [dI h, dI x], dI n] ∧ 0 ≤ n) (fun ds => match ds with | [.tup [.raw (.int h), .raw (.int x)], .raw (.int n)] => oddClock h x n | _ => dN)
abbrev spOddTurn : Sp := spD 1 (fun ds => ∃ n : Int, ds = [dI n]) (fun ds => match ds with | [.raw (.int n)] => oddTurn n | _ => dN)
def pGood (ds : List Dt) : Prop := ∃ h x t : Int, ds = [.tup [dI h, dI x], dI t] ∧ 1 ≤ h ∧ h ≤ 1000000000000000000000000000000 ∧ 0 ≤ x ∧ x < h
abbrev spGood : Sp := spD 2 pGood (fun _ => dB true)
end Dn
/-! Own layer: the words of a refusal. -/
namespace Dn
open PySem PySem.Spec PyProof.Rows L2
open Evl (Ex)
/-- whether the class D is under C -/
def under (K : PySem.W.Frag) (D C : Addr) : Bool := PySem.W.kitOne K (.ref D) (.ref C) == some true
/-- a refusal without fields: each of the classes answers -/
structure WordOf (K : PySem.W.Frag) (CB CT CN CM CW CV CX D : Addr) : Prop where
  ec : ExcC K D
  q1 : PySem.W.kitOne K (.ref D) (.ref CB) = some (under K D CB)
  q2 : PySem.W.kitOne K (.ref D) (.ref CT) = some (under K D CT)
  q3 : PySem.W.kitOne K (.ref D) (.ref CN) = some (under K D CN)
  q4 : PySem.W.kitOne K (.ref D) (.ref CM) = some (under K D CM)
  q5 : PySem.W.kitOne K (.ref D) (.ref CW) = some (under K D CW)
  q6 : PySem.W.kitOne K (.ref D) (.ref CV) = some false
  q7 : PySem.W.kitOne K (.ref D) (.ref CX) = some false
  q8 : PySem.W.kitOne K (.ref D) (.type "ValueError") = some true
def wordP (K : PySem.W.Frag) (D : Addr) (s : Str) (C : Addr) : Dt := .tup [dS s, dB (under K D C)]
def wordF : Dt → Option Dt
  | .tup [x, .raw (.bl true)] => some x
  | _ => none
def wordsOf (K : PySem.W.Frag) (CB CT CN CM CW D : Addr) : List Dt := [wordP K D "clock" CB, wordP K D "turn" CT, wordP K D "none" CN, wordP K D "many" CM, wordP K D "wall" CW].filterMap wordF
theorem wordF_tup {x : Dt} {b : Bool} : wordF (.tup [x, dB b]) = if b = true then some x else none := by cases b <;> rfl
theorem noLst_words {K : PySem.W.Frag} {CB CT CN CM CW D : Addr} : noLstL (wordsOf K CB CT CN CM CW D) = true := by
  unfold wordsOf wordP
  cases under K D CB <;> cases under K D CT <;> cases under K D CN <;> cases under K D CM <;> cases under K D CW <;> rfl
def pWord (K : PySem.W.Frag) (CB CT CN CM CW CV CX : Addr) (ds : List Dt) : Prop := ∃ D, ds = [.exc D []] ∧ WordOf K CB CT CN CM CW CV CX D
def wordD (K : PySem.W.Frag) (CB CT CN CM CW : Addr) (ds : List Dt) : Dt := match ds with | [.exc D []] => .lst (wordsOf K CB CT CN CM CW D) | _ => dN
abbrev spWord (K : PySem.W.Frag) (CB CT CN CM CW CV CX : Addr) : Sp := spD 1 (pWord K CB CT CN CM CW CV CX) (wordD K CB CT CN CM CW)
theorem ca_isEx {K : PySem.W.Frag} {D C : Addr} {b : Bool} (E : ExcC K D) (h : PySem.W.kitOne K (.ref D) (.ref C) = some b) : CaD (rIsU K) [.exc D [], .raw (.ref C)] (dB b) := fun vs H Q h1 q => by
  obtain ⟨v, r, rfl, hd, hn⟩ := h1.consI
  obtain ⟨v2, r2, rfl, hd2, hn2⟩ := hn.consI
  obtain rfl := hn2.nilI
  obtain rfl := hd2.rawI
  cases hd with
  | exc0 ha => exact ca_isE (.own C) E h ha (q _ H exR (.raw _))
  | excD ha hd hf => exact absurd rfl hf
theorem ca_isExT {K : PySem.W.Frag} {D : Addr} {T : String} {b : Bool} (E : ExcC K D) (h : PySem.W.kitOne K (.ref D) (.type T) = some b) : CaD (rIsU K) [.exc D [], .raw (.ty T)] (dB b) := fun vs H Q h1 q => by
  obtain ⟨v, r, rfl, hd, hn⟩ := h1.consI
  obtain ⟨v2, r2, rfl, hd2, hn2⟩ := hn.consI
  obtain rfl := hn2.nilI
  obtain rfl := hd2.rawI
  cases hd with
  | exc0 ha => exact ca_isE (.ty T) E h ha (q _ H exR (.raw _))
  | excD ha hd hf => exact absurd rfl hf
end Dn
namespace Dn
open PySem PySem.Spec PyProof.Rows L2
theorem under_of {K : PySem.W.Frag} {D C : Addr} {b : Bool} (h : PySem.W.kitOne K (.ref D) (.ref C) = some b) : under K D C = b := by
  unfold under
  rw [h]
  cases b <;> rfl
theorem kit_under {K : PySem.W.Frag} {D C : Addr} {b : Bool} (h : PySem.W.kitOne K (.ref D) (.ref C) = some b) : PySem.W.kitOne K (.ref D) (.ref C) = some (under K D C) := by rw [under_of h]; exact h
theorem excC_mk {K : PySem.W.Frag} {D : Addr} (h1 : PySem.W.findIn K (.ref D) "__getattribute__" = some (some (.builtin "BaseException.__getattribute__"))) (h2 : PySem.W.findIn K (.ref D) "__getattr__" = some none) (h3 : PySem.W.subIn K (.ref D) (.type "BaseException") = some true) (h4 : PySem.W.hasDictIn K D = true)
    (h5 : PySem.W.findIn K (.ref D) "__class__" = some (some (.builtin "object.__class__"))) (h6 : PySem.W.specialIn K (.builtin "object.__class__") "__get__" = some (some (.builtin "getset_descriptor.__get__"))) (h7 : PySem.W.takesIn K (.builtin "object.__class__") = some true) (h8 : PySem.W.mroIn K D (.type "object") = some true) : ExcC K D := ⟨h1, h2, h3, h4, h5, h6, h7, h8⟩
theorem wordOf_mk {K : PySem.W.Frag} {CB CT CN CM CW CV CX D : Addr} {b1 b2 b3 b4 b5 : Bool} (ec : ExcC K D) (q1 : PySem.W.kitOne K (.ref D) (.ref CB) = some b1) (q2 : PySem.W.kitOne K (.ref D) (.ref CT) = some b2) (q3 : PySem.W.kitOne K (.ref D) (.ref CN) = some b3) (q4 : PySem.W.kitOne K (.ref D) (.ref CM) = some b4) (q5 : PySem.W.kitOne K (.ref D) (.ref CW) = some b5)
    (q6 : PySem.W.kitOne K (.ref D) (.ref CV) = some false) (q7 : PySem.W.kitOne K (.ref D) (.ref CX) = some false) (q8 : PySem.W.kitOne K (.ref D) (.type "ValueError") = some true) : WordOf K CB CT CN CM CW CV CX D :=
  ⟨ec, kit_under q1, kit_under q2, kit_under q3, kit_under q4, kit_under q5, q6, q7, q8⟩
theorem words_mk {K : PySem.W.Frag} {CB CT CN CM CW D : Addr} {b1 b2 b3 b4 b5 : Bool} (q1 : PySem.W.kitOne K (.ref D) (.ref CB) = some b1) (q2 : PySem.W.kitOne K (.ref D) (.ref CT) = some b2) (q3 : PySem.W.kitOne K (.ref D) (.ref CN) = some b3) (q4 : PySem.W.kitOne K (.ref D) (.ref CM) = some b4) (q5 : PySem.W.kitOne K (.ref D) (.ref CW) = some b5) :
    wordsOf K CB CT CN CM CW D = ([.tup [dS "clock", dB b1], .tup [dS "turn", dB b2], .tup [dS "none", dB b3], .tup [dS "many", dB b4], .tup [dS "wall", dB b5]] : List Dt).filterMap wordF := by
  unfold wordsOf wordP
  rw [under_of q1, under_of q2, under_of q3, under_of q4, under_of q5]
end Dn
namespace Dn
open PySem PySem.Spec PyProof.Rows L2
open Evl (Ex)
local macro_rules | `(tactic| walk_at "sd") => `(tactic| first | assumption | decide +kernel | (show (0 : Int) < _; first | assumption | omega) | exact cm64 (by omega) (by omega) | exact ⟨by omega, by decide +kernel⟩ | omega)
local macro_rules | `(tactic| walk_at "od") => `(tactic| first | exact od_addI | exact od_I0 | exact od_I (by walk_at "sd") | exact od_mulI (by walk_at "sd") | exact od_eqUI | exact od_neUI | exact od_isT | exact od_noT | exact od_isNo | exact od_noNo | exact od_isB | exact od_notB | exact od_eqUB | exact od_addL (by decide) | exact od_addT (by simp) (by simp) (by simp) | exact od_ixSeqT (by decide) rfl)
local macro_rules | `(tactic| walk_at "ca") => `(tactic| first | exact ca_listT | exact ca_lenUT | exact ca_lenUL | exact ca_type rfl)
local macro_rules | `(tactic| walk_at "ea") => `(tactic| first | ((with_reducible show EaS tNil _ _); exact ea_nil) | exact ea_cons (by walk_at "ev") (by walk_at "ea"))
local macro_rules | `(tactic| walk_at "ev") => `(tactic| first | ((with_reducible show EvS (tC _) _ _); exact ev_c) | ((with_reducible show EvS (tVar _) _ _); exact ev_var rfl) | ((with_reducible show EvS (tOp _ _ _) _ _); exact ev_op (by walk_at "ev") (by walk_at "ev") (by walk_at "od")) | ((with_reducible show EvS (tUn _ _) _ _); exact ev_un (by walk_at "ev") ud_U) | ((with_reducible show EvS (tTup _) _ _); exact ev_tup (by walk_at "ea") (by simp)) | ((with_reducible show EvS (tLst _) _ _); exact ev_lst (by walk_at "ea") (by simp)) | ((with_reducible show EvS tDNewK _ _); exact ev_dnewK) | ((with_reducible show EvS (tCB _ _) _ _); exact ev_cb (by walk_at "ea") (by walk_at "ca")))
def topS (i : Nat) : Stmt := PySem.Challenge.pw_restfold_k02_clocks.main.body.getD i (.Pass ⟨0, 0, 0, 0⟩)
abbrev st_is_number : Stmt := topS 11
theorem sc_is_number : FnScope ["thing"] ["thing"] (defScope st_is_number) := ⟨rfl, rfl, rfl, by decide +kernel, rfl, by decide +kernel, by decide +kernel⟩
abbrev st_is_clock : Stmt := topS 12
theorem sc_is_clock : FnScope ["thing", "hours", "hour"] ["thing"] (defScope st_is_clock) := ⟨rfl, rfl, rfl, by decide +kernel, rfl, by decide +kernel, by decide +kernel⟩
abbrev st_need_clock : Stmt := topS 13
theorem sc_need_clock : FnScope ["thing"] ["thing"] (defScope st_need_clock) := ⟨rfl, rfl, rfl, by decide +kernel, rfl, by decide +kernel, by decide +kernel⟩
abbrev st_need_turn : Stmt := topS 14
theorem sc_need_turn : FnScope ["thing"] ["thing"] (defScope st_need_turn) := ⟨rfl, rfl, rfl, by decide +kernel, rfl, by decide +kernel, by decide +kernel⟩
abbrev st_hour_at : Stmt := topS 15
theorem sc_hour_at : FnScope ["clock", "turn"] ["clock", "turn"] (defScope st_hour_at) := ⟨rfl, rfl, rfl, by decide +kernel, rfl, by decide +kernel, by decide +kernel⟩
abbrev st_shows : Stmt := topS 16
theorem sc_shows : FnScope ["clock", "turn"] ["clock", "turn"] (defScope st_shows) := ⟨rfl, rfl, rfl, by decide +kernel, rfl, by decide +kernel, by decide +kernel⟩
abbrev st_is_right : Stmt := topS 17
theorem sc_is_right : FnScope ["clock", "turn"] ["clock", "turn"] (defScope st_is_right) := ⟨rfl, rfl, rfl, by decide +kernel, rfl, by decide +kernel, by decide +kernel⟩
abbrev st_law_mixed : Stmt := topS 19
theorem sc_law_mixed : FnScope ["_law_cell", "_law_k", "_law_number"] ["_law_cell", "_law_k"] (defScope st_law_mixed) := ⟨rfl, rfl, rfl, by decide +kernel, rfl, by decide +kernel, by decide +kernel⟩
abbrev st_law_whole : Stmt := topS 20
theorem sc_law_whole : FnScope ["_law_found"] ["_law_found"] (defScope st_law_whole) := ⟨rfl, rfl, rfl, by decide +kernel, rfl, by decide +kernel, by decide +kernel⟩
abbrev st_law_wide : Stmt := topS 21
theorem sc_law_wide : FnScope ["_law_cell", "_law_k"] ["_law_cell", "_law_k"] (defScope st_law_wide) := ⟨rfl, rfl, rfl, by decide +kernel, rfl, by decide +kernel, by decide +kernel⟩
abbrev st_law_hours : Stmt := topS 22
theorem sc_law_hours : FnScope ["_law_cell", "_law_k", "_law_number", "_law_few", "_law_smooth", "_law_wide_here"] ["_law_cell", "_law_k"] (defScope st_law_hours) := ⟨rfl, rfl, rfl, by decide +kernel, rfl, by decide +kernel, by decide +kernel⟩
abbrev st_law_turn : Stmt := topS 23
theorem sc_law_turn : FnScope ["_law_cell", "_law_k", "_law_number", "_law_wide_here"] ["_law_cell", "_law_k"] (defScope st_law_turn) := ⟨rfl, rfl, rfl, by decide +kernel, rfl, by decide +kernel, by decide +kernel⟩
abbrev st_law_clock : Stmt := topS 24
theorem sc_law_clock : FnScope ["_law_cell", "_law_k", "_law_hours_here", "_law_number"] ["_law_cell", "_law_k"] (defScope st_law_clock) := ⟨rfl, rfl, rfl, by decide +kernel, rfl, by decide +kernel, by decide +kernel⟩
abbrev st_law_kept : Stmt := topS 25
theorem sc_law_kept : FnScope ["_law_deed", "_law_kept_here", "_law_e"] ["_law_deed"] (defScope st_law_kept) := ⟨rfl, rfl, rfl, by decide +kernel, rfl, by decide +kernel, by decide +kernel⟩
abbrev st_law_word : Stmt := topS 26
theorem sc_law_word : FnScope ["_law_e", "_law_some", "_law_found", "_law_word_here", "_law_is_it"] ["_law_e"] (defScope st_law_word) := ⟨rfl, rfl, rfl, by decide +kernel, rfl, by decide +kernel, by decide +kernel⟩
abbrev st_law_odd_clock : Stmt := topS 27
theorem sc_law_odd_clock : FnScope ["_law_clock_here", "_law_number", "_law_hours_here", "_law_hour", "_law_some"] ["_law_clock_here", "_law_number"] (defScope st_law_odd_clock) := ⟨rfl, rfl, rfl, by decide +kernel, rfl, by decide +kernel, by decide +kernel⟩
abbrev st_law_odd_turn : Stmt := topS 28
theorem sc_law_odd_turn : FnScope ["_law_number"] ["_law_number"] (defScope st_law_odd_turn) := ⟨rfl, rfl, rfl, by decide +kernel, rfl, by decide +kernel, by decide +kernel⟩
abbrev st_law_good : Stmt := topS 29
theorem sc_law_good : FnScope ["_law_clock_here", "_law_turn_here", "_law_due", "_law_found", "_law_told"] ["_law_clock_here", "_law_turn_here"] (defScope st_law_good) := ⟨rfl, rfl, rfl, by decide +kernel, rfl, by decide +kernel, by decide +kernel⟩
abbrev st_law : Stmt := topS 30
theorem sc_law : FnScope ["_law_script", "_law_k", "_law_cell", "_law_clock_here", "_law_turn_here", "_law_number", "_law_thing", "_law_odd", "_law_told"] ["_law_script"] (defScope st_law) := ⟨rfl, rfl, rfl, by decide +kernel, rfl, by decide +kernel, by decide +kernel⟩
structure Txt (K : PySem.W.Frag) (mg : Str → Option Value) (CF CB CT CN CM CW CV CX : Addr) (tM : Tok) : Prop where
  b_type : mg "type" = none
  b_tuple : mg "tuple" = none
  b_int : mg "int" = none
  b_bool : mg "bool" = none
  b_len : mg "len" = none
  b_list : mg "list" = none
  b_isinstance : mg "isinstance" = none
  b_ValueError : mg "ValueError" = none
  b_enumerate : mg "enumerate" = none
  g_MOST_HOURS : mg "MOST_HOURS" = some (.int 1000000000000000000000000000000 tM)
  g_FoldError : mg "FoldError" = some (.ref CF)
  g_BadClock : mg "BadClock" = some (.ref CB)
  g_BadTurn : mg "BadTurn" = some (.ref CT)
  g_NoClock : mg "NoClock" = some (.ref CN)
  g_TooMany : mg "TooMany" = some (.ref CM)
  g_BadWall : mg "BadWall" = some (.ref CW)
  g_Never : mg "Never" = some (.ref CV)
  g_BadText : mg "BadText" = some (.ref CX)
  x_BadClock : PySem.W.excIn K CB [.type "ValueError", .type "Exception", .type "BaseException", .type "object"] "ValueError.__new__" = true
  k_BadClock : PySem.W.keepIn K (.ref CB) = true
  s_BadClock : PySem.W.subIn K (.ref CB) (.type "BaseException") = some true
  t_BadClock : PySem.W.typeIn K (.ref CB) = some (.type "type")
  w_BadClock : WordOf K CB CT CN CM CW CV CX CB
  m_BadClock : PySem.W.exmOne K (.ref CB) (.ref CF) = some true
  x_BadTurn : PySem.W.excIn K CT [.type "ValueError", .type "Exception", .type "BaseException", .type "object"] "ValueError.__new__" = true
  k_BadTurn : PySem.W.keepIn K (.ref CT) = true
  s_BadTurn : PySem.W.subIn K (.ref CT) (.type "BaseException") = some true
  t_BadTurn : PySem.W.typeIn K (.ref CT) = some (.type "type")
  w_BadTurn : WordOf K CB CT CN CM CW CV CX CT
  m_BadTurn : PySem.W.exmOne K (.ref CT) (.ref CF) = some true
  wB : wordsOf K CB CT CN CM CW CB = [dS "clock"]
  wT : wordsOf K CB CT CN CM CW CT = [dS "turn"]
section
variable {P : Program} {w : World} {K : PySem.W.Frag} {mg : Str → Option Value} {base : Heap} {f CF CB CT CN CM CW CV CX : Addr} {tM : Tok} {fd : FuncData}
theorem ok_is_number (F : L2.Fun K "is_number" "is_number" st_is_number f fd) (T : Txt K mg CF CB CT CN CM CW CV CX tM) : FnOk P w K mg base L2.CX0 1 f fd ["thing"] spNum := by
  refine Fun.okD F sc_is_number rfl fun cdv A outer s H Q E hr => ⟨_, (pss_one (ps_ret (pe_cmpR op_isT (pe_callTy call_type1 (by rfl) T.b_type (by decide +kernel) (pa_cons (pv 0) pa_nil)) (pe_bltn (v := .ty "int") (by rfl) T.b_int (by decide +kernel) rfl) (nomark _)))), fun ds hl hp => ?_⟩
  obtain ⟨d, rfl, Ty, hT⟩ := hp
  refine hs_ret (d := dB (isNum d)) ?_ rfl
  rw [isNum_of hT]
  exact ev_op (ev_cb (ea_cons (ev_var rfl) ea_nil) (ca_type hT)) ev_c od_isT
theorem ok_is_clock (F : L2.Fun K "is_clock" "is_clock" st_is_clock f fd) (T : Txt K mg CF CB CT CN CM CW CV CX tM) (C_is_number : Cl P w K mg base L2.CX0 1 "is_number" spNum) : FnOk P w K mg base L2.CX0 2 f fd ["thing"] spIsClock := by
  refine Fun.okD F sc_is_clock rfl fun cdv A outer s H Q E hr => ⟨_, (pss_cons (ps_if (PW.pt (pw_or (pt_cmpR op_noT (pe_callTy call_type1 (by rfl) T.b_type (by decide +kernel) (pa_cons (pv 0) pa_nil)) (pe_bltn (v := .ty "tuple") (by rfl) T.b_tuple (by decide +kernel) rfl) (nomark _)) (pw_or1 (pt_cmpR (op_neU hr.units) (pe_callB call_lenU (by rfl) T.b_len (by decide +kernel) (pa_cons (pv 0) pa_nil)) pe_int (nomark _))))) (pss_one (ps_ret pe_bl)) pss_nil)
      (pss_cons (ps_asg (pv 0) (pg_tup (by rfl) (pgs_cons (pg_name (i := 1) sc_is_clock.nd rfl (Or.inl rfl)) (pgs_cons (pg_name (i := 2) sc_is_clock.nd rfl (Or.inl rfl)) pgs_nil))))
      (pss_cons (ps_if (PW.pt (pw_or (pt_not (pt_val (pe_cl C_is_number hr (by decide) pass0 rfl (pa_cons (pv 1) pa_nil)))) (pw_or1 (pt_not (pt_val (pe_cl C_is_number hr (by decide) pass0 rfl (pa_cons (pv 2) pa_nil))))))) (pss_one (ps_ret pe_bl)) pss_nil)
      (pss_one (ps_ret (pe_and (pe_chain op_le op_le pe_int (pv 1) (pe_glob (v := .int 1000000000000000000000000000000) rfl T.g_MOST_HOURS ⟨_, rfl⟩)) (pe_one (pe_chain op_le op_lt pe_int (pv 2) (pv 1))))))))), fun ds hl hp => ?_⟩
  obtain ⟨d, rfl, ⟨Ty, hT⟩, hab⟩ := hp
  by_cases hTup : Ty = "tuple"
  · subst hTup
    obtain ⟨l, rfl⟩ : ∃ l, d = .tup l := by
      cases d with
      | raw v => cases v <;> simp [tyD] at hT
      | tup l => exact ⟨l, rfl⟩
      | _ => simp [tyD] at hT
    refine hq_when (b := !decide ((l.length : Int) = 2)) (et_or (a := false) (et_eq (et_test (ev_op (ev_cb (ea_cons (ev_var rfl) ea_nil) (ca_type hT)) ev_c od_noT)) (by decide)) fun _ => et_test (ev_op (ev_cb (ea_cons (ev_var rfl) ea_nil) ca_lenUT) ev_c od_neUI)) (fun e => hs_ret ev_c ?_) (fun e => ?_)
    · show dB false = dB (isClock (.tup l))
      have hn : l.length ≠ 2 := fun z => by
        rw [z] at e
        cases e
      rw [isClock_len hn]
    · have h2 : l.length = 2 := by
        simp only [Bool.not_eq_false', decide_eq_true_eq] at e
        omega
      match l, h2 with
      | [a, b], _ =>
      obtain ⟨⟨Ta, ha⟩, Tb, hb⟩ := hab a b rfl
      refine hq_un2 (x := a) (y := b) (ev_var rfl) ?_
      refine hq_when (b := !isNum a || !isNum b) (et_or (et_not (et_B (ev_call (ea_cons (ev_var rfl) ea_nil) (spD_of (f := isNumD) rfl ⟨a, rfl, Ta, ha⟩)))) fun _ => et_not (et_B (ev_call (ea_cons (ev_var rfl) ea_nil) (spD_of (f := isNumD) rfl ⟨b, rfl, Tb, hb⟩)))) (fun e => hs_ret ev_c ?_) (fun e => ?_)
      · show dB false = dB (isClock (.tup [a, b]))
        rw [isClock_num (by cases p : isNum a <;> cases q : isNum b <;> simp_all)]
      · obtain ⟨h, rfl⟩ := isNum_int (d := a) (by cases p : isNum a <;> simp_all)
        obtain ⟨x, rfl⟩ := isNum_int (d := b) (by cases q : isNum b <;> simp_all)
        refine hs_ret (d := dB (isClock (.tup [dI h, dI x]))) ?_ rfl
        exact ev_andV (ev_chain ev_c (ev_var rfl) od_I0 (fun _ => ev_c) (fun _ => od_I0)) fun _ => ev_chain ev_c (ev_var rfl) od_I0 (fun _ => ev_var rfl) (fun _ => od_I0)
  · refine hq_when (b := true) (et_eq (et_or (a := true) (b := false) (et_eq (et_test (ev_op (ev_cb (ea_cons (ev_var rfl) ea_nil) (ca_type hT)) ev_c od_noT)) (by simp [hTup])) fun e => nomatch e) rfl) (fun _ => hs_ret ev_c ?_) (fun e => nomatch e)
    show dB false = dB (isClock d)
    rw [isClock_not hT hTup]
theorem ok_need_clock (F : L2.Fun K "need_clock" "need_clock" st_need_clock f fd) (T : Txt K mg CF CB CT CN CM CW CV CX tM) (C_is_clock : Cl P w K mg base L2.CX0 2 "is_clock" spIsClock) : FnOk P w K mg base (L2.CX P w) 3 f fd ["thing"] (spNeedClock CB) := by
  refine Fun.okE F sc_need_clock rfl fun cdv A outer s H Q E hr => ⟨_, (pss_one (ps_if (pt_not (pt_val (pe_cl C_is_clock hr (by decide) pass0 rfl (pa_cons (pv 0) pa_nil)))) (pss_one (ps_raise rfl (takes_of rfl rfl rfl rfl) (pmk_own PySem.F.excBase_ValueError T.x_BadClock T.g_BadClock T.k_BadClock (raises_own T.s_BadClock T.t_BadClock) rfl))) pss_nil)), fun ds hl hp => ?_⟩
  obtain ⟨d, rfl, hd⟩ := hp
  refine he_if (b := !isClock d) (et_not (et_B (ev_call (ea_cons (ev_var rfl) ea_nil) (spD_of rfl ⟨d, rfl, hd⟩)))) (fun e => he_raise ?_) (fun e => he_next ?_)
  · show (if isClock d = true then (Except.ok dN : Rs) else .error CB) = .error CB
    rw [if_neg (by simpa using e)]
  · show (if isClock d = true then (Except.ok dN : Rs) else .error CB) = .ok dN
    rw [if_pos (by simpa using e)]
theorem ok_need_turn (F : L2.Fun K "need_turn" "need_turn" st_need_turn f fd) (T : Txt K mg CF CB CT CN CM CW CV CX tM) (C_is_number : Cl P w K mg base L2.CX0 1 "is_number" spNum) : FnOk P w K mg base (L2.CX P w) 2 f fd ["thing"] (spNeedTurn CT) := by
  refine Fun.okE F sc_need_turn rfl fun cdv A outer s H Q E hr => ⟨_, (pss_one (ps_if (pt_not (pt_val (pe_cl C_is_number hr (by decide) pass0 rfl (pa_cons (pv 0) pa_nil)))) (pss_one (ps_raise rfl (takes_of rfl rfl rfl rfl) (pmk_own PySem.F.excBase_ValueError T.x_BadTurn T.g_BadTurn T.k_BadTurn (raises_own T.s_BadTurn T.t_BadTurn) rfl))) pss_nil)), fun ds hl hp => ?_⟩
  obtain ⟨d, rfl, hd⟩ := hp
  refine he_if (b := !isNum d) (et_not (et_B (ev_call (ea_cons (ev_var rfl) ea_nil) (spD_of (f := isNumD) rfl ⟨d, rfl, hd⟩)))) (fun e => he_raise ?_) (fun e => he_next ?_)
  · show (if isNum d = true then (Except.ok dN : Rs) else .error CT) = .error CT
    rw [if_neg (by simpa using e)]
  · show (if isNum d = true then (Except.ok dN : Rs) else .error CT) = .ok dN
    rw [if_pos (by simpa using e)]
def hourF (ds : List Dt) : Dt := match ds with
  | [.tup [.raw (.int h), _], .raw (.int n)] => dI (n % h)
  | _ => dN
abbrev spHourAt : Sp := spD 2 (fun ds => ∃ h x n : Int, ds = [.tup [dI h, dI x], dI n] ∧ 0 < h) hourF
theorem ok_hour_at (F : L2.Fun K "hour_at" "hour_at" st_hour_at f fd) : FnOk P w K mg base L2.CX0 1 f fd ["clock", "turn"] spHourAt := by
  refine Fun.okD F sc_hour_at rfl fun cdv A outer s H Q E hr => ⟨_, (pss_one (ps_ret (pe_op op_mod (pv 1) (pe_ix ix_seq (pv 0) pe_int (fun _ _ => rfl))))), fun ds hl hp => ?_⟩
  obtain ⟨h, x, n, rfl, hp⟩ := hp
  exact hs_ret (d := dI (n % h)) (ev_op (ev_var rfl) (ev_op (ev_var rfl) ev_c (od_ixSeqT (z := dI h) (by decide) rfl)) (od_I (by show 0 < h; exact hp))) rfl
theorem ok_shows (F : L2.Fun K "shows" "shows" st_shows f fd) (C_need_clock : Cl P w K mg base (L2.CX P w) 3 "need_clock" (spNeedClock CB)) (C_need_turn : Cl P w K mg base (L2.CX P w) 2 "need_turn" (spNeedTurn CT)) (C_hour_at : Cl P w K mg base L2.CX0 1 "hour_at" spHourAt) : FnOk P w K mg base (L2.CX P w) 4 f fd ["clock", "turn"] (spShows CB CT) := by
  refine Fun.okE F sc_shows rfl fun cdv A outer s H Q E hr => ⟨_, (pss_cons (ps_expr (pe_cl C_need_clock hr (by decide) (fun a b c d e f => passes_call (takes_of rfl rfl rfl rfl) (fun _ _ _ _ h => h) a b c d e f) rfl (pa_cons (pv 0) pa_nil)))
      (pss_cons (ps_expr (pe_cl C_need_turn hr (by decide) (fun a b c d e f => passes_call (takes_of rfl rfl rfl rfl) (fun _ _ _ _ h => h) a b c d e f) rfl (pa_cons (pv 1) pa_nil)))
      (pss_one (ps_ret (pe_cl C_hour_at hr (by decide) pass0 rfl (pa_cons (pv 0) (pa_cons (pv 1) pa_nil))))))), fun ds hl hp => ?_⟩
  obtain ⟨c, t, rfl, hc, Tt, ht⟩ := hp
  refine he_seq (N' := fun δ => δ = startD ["clock", "turn"] [c, t] ∧ isClock c = true) (he_drop (evx_call (ea_cons (ev_var rfl) ea_nil) rfl ⟨c, rfl, hc⟩) (fun d e => ?_) (fun C e => ?_)) ?_
  · refine ⟨rfl, ?_⟩
    cases q : isClock c with
    | true => rfl
    | false => simp [q] at e
  · show (if isClock c = true then (if isNum t = true then (Except.ok (showsD c t) : Rs) else .error CT) else .error CB) = .error C
    cases q : isClock c with
    | true => simp [q] at e
    | false => simpa [q] using e
  rintro δ ⟨rfl, e1⟩
  refine he_seq (N' := fun δ => δ = startD ["clock", "turn"] [c, t] ∧ isNum t = true) (he_drop (evx_call (ea_cons (ev_var rfl) ea_nil) rfl ⟨t, rfl, Tt, ht⟩) (fun d e => ?_) (fun C e => ?_)) ?_
  · refine ⟨rfl, ?_⟩
    cases q : isNum t with
    | true => rfl
    | false => simp [q] at e
  · show (if isClock c = true then (if isNum t = true then (Except.ok (showsD c t) : Rs) else .error CT) else .error CB) = .error C
    rw [if_pos e1]
    cases q : isNum t with
    | true => simp [q] at e
    | false => simpa [q] using e
  rintro δ ⟨rfl, e2⟩
  obtain ⟨h, x, rfl, h1, h2, x0, x1⟩ := isClock_inv e1
  obtain ⟨n, rfl⟩ := isNum_int e2
  have hp : 0 < h := by omega
  refine he_of (hs_ret (d := dI (n % h)) (ev_call (z := dI (n % h)) (ea_cons (ev_var rfl) (ea_cons (ev_var rfl) ea_nil)) (spD_of (f := hourF) rfl ⟨h, x, n, rfl, hp⟩)) ?_)
  show (if isClock (.tup [dI h, dI x]) = true then (if isNum (dI n) = true then (Except.ok (showsD (.tup [dI h, dI x]) (dI n)) : Rs) else .error CT) else .error CB) = _
  rw [if_pos e1, if_pos e2]
  rfl
theorem ok_is_right (F : L2.Fun K "is_right" "is_right" st_is_right f fd) (C_shows : Cl P w K mg base (L2.CX P w) 4 "shows" (spShows CB CT)) : FnOk P w K mg base (L2.CX P w) 5 f fd ["clock", "turn"] (spRight CB CT) := by
  refine Fun.okE F sc_is_right rfl fun cdv A outer s H Q E hr => ⟨_, (pss_one (ps_ret (pe_cmpR (op_eqU hr.units) (pe_cl C_shows hr (by decide) (fun a b c d e f => passes_call (takes_of rfl rfl rfl rfl) (fun _ _ _ _ h => h) a b c d e f) rfl (pa_cons (pv 0) (pa_cons (pv 1) pa_nil))) (pe_ix ix_seq (pv 0) pe_int (fun _ _ => rfl)) (nomark _)))), fun ds hl hp => ?_⟩
  obtain ⟨c, t, rfl, hc, Tt, ht⟩ := hp
  refine he_ret (r := ckTurn CB CT rightD [c, t]) ?_ (fun d e => e) (fun C e => e)
  by_cases e1 : isClock c = true
  · by_cases e2 : isNum t = true
    · obtain ⟨h, x, rfl, h1, h2, x0, x1⟩ := isClock_inv e1
      obtain ⟨n, rfl⟩ := isNum_int e2
      have er : ckTurn CB CT rightD [.tup [dI h, dI x], dI n] = .ok (dB (decide (n % h = x))) := by
        show (if isClock (.tup [dI h, dI x]) = true then (if isNum (dI n) = true then (Except.ok (rightD (.tup [dI h, dI x]) (dI n)) : Rs) else .error CT) else .error CB) = _
        rw [if_pos e1, if_pos e2]
        rfl
      rw [er]
      refine evx_of (ev_op (ev_callX (d := dI (n % h)) (ea_cons (ev_var rfl) (ea_cons (ev_var rfl) ea_nil)) rfl ⟨_, _, rfl, hc, Tt, ht⟩ ?_) (ev_op (ev_var rfl) ev_c (od_ixSeqT (z := dI x) (by decide) rfl)) od_eqUI)
      show (if isClock (.tup [dI h, dI x]) = true then (if isNum (dI n) = true then (Except.ok (showsD (.tup [dI h, dI x]) (dI n)) : Rs) else .error CT) else .error CB) = _
      rw [if_pos e1, if_pos e2]
      rfl
    · intro σ H0 Q0 S q qe
      have er : ckTurn CB CT rightD [c, t] = .error CT := by
        show (if isClock c = true then (if isNum t = true then (Except.ok (rightD c t) : Rs) else .error CT) else .error CB) = _
        rw [if_pos e1, if_neg e2]
      have es : ckTurn CB CT showsD [c, t] = .error CT := by
        show (if isClock c = true then (if isNum t = true then (Except.ok (showsD c t) : Rs) else .error CT) else .error CB) = _
        rw [if_pos e1, if_neg e2]
      exact evx_call (E := E) (f := ckTurn CB CT showsD) (ea_cons (ev_var rfl) (ea_cons (ev_var rfl) ea_nil)) rfl ⟨_, _, rfl, hc, Tt, ht⟩ σ H0 _ S (fun d e => by rw [es] at e; cases e) fun C e => by
        rw [es] at e
        cases e
        exact qe CT er
  · intro σ H0 Q0 S q qe
    have er : ckTurn CB CT rightD [c, t] = .error CB := by
      show (if isClock c = true then (if isNum t = true then (Except.ok (rightD c t) : Rs) else .error CT) else .error CB) = _
      rw [if_neg e1]
    have es : ckTurn CB CT showsD [c, t] = .error CB := by
      show (if isClock c = true then (if isNum t = true then (Except.ok (showsD c t) : Rs) else .error CT) else .error CB) = _
      rw [if_neg e1]
    exact evx_call (E := E) (f := ckTurn CB CT showsD) (ea_cons (ev_var rfl) (ea_cons (ev_var rfl) ea_nil)) rfl ⟨_, _, rfl, hc, Tt, ht⟩ σ H0 _ S (fun d e => by rw [es] at e; cases e) fun C e => by
      rw [es] at e
      cases e
      exact qe CB er
end
end Dn
namespace Dn
open PySem PySem.Spec PyProof.Rows L2
open Evl (Ex)
local macro_rules | `(tactic| walk_at "sd") => `(tactic| first | assumption | decide +kernel | (show (0 : Int) < _; first | assumption | omega) | exact cm64 (by omega) (by omega) | exact ⟨by omega, by decide +kernel⟩ | omega)
local macro_rules | `(tactic| walk_at "od") => `(tactic| first | exact od_addI | exact od_I0 | exact od_I (by walk_at "sd") | exact od_mulI (by walk_at "sd") | exact od_eqUI | exact od_neUI | exact od_isT | exact od_noT | exact od_isNo | exact od_noNo | exact od_isB | exact od_notB | exact od_eqUB | exact od_addL (by decide) | exact od_addT (by simp) (by simp) (by simp) | exact od_ixSeqT (by decide) rfl)
local macro_rules | `(tactic| walk_at "ca") => `(tactic| first | exact ca_listT | exact ca_lenUT | exact ca_lenUL | exact ca_type rfl)
local macro_rules | `(tactic| walk_at "ea") => `(tactic| first | ((with_reducible show EaS tNil _ _); exact ea_nil) | exact ea_cons (by walk_at "ev") (by walk_at "ea"))
local macro_rules | `(tactic| walk_at "ev") => `(tactic| first | ((with_reducible show EvS (tC _) _ _); exact ev_c) | ((with_reducible show EvS (tVar _) _ _); exact ev_var rfl) | ((with_reducible show EvS (tOp _ _ _) _ _); exact ev_op (by walk_at "ev") (by walk_at "ev") (by walk_at "od")) | ((with_reducible show EvS (tUn _ _) _ _); exact ev_un (by walk_at "ev") ud_U) | ((with_reducible show EvS (tTup _) _ _); exact ev_tup (by walk_at "ea") (by simp)) | ((with_reducible show EvS (tLst _) _ _); exact ev_lst (by walk_at "ea") (by simp)) | ((with_reducible show EvS tDNewK _ _); exact ev_dnewK) | ((with_reducible show EvS (tCB _ _) _ _); exact ev_cb (by walk_at "ea") (by walk_at "ca")))
section
variable {P : Program} {w : World} {K : PySem.W.Frag} {mg : Str → Option Value} {base : Heap} {f CF CB CT CN CM CW CV CX : Addr} {tM : Tok} {fd : FuncData}
theorem ok_law_mixed (F : L2.Fun K "_law_mixed" "_law_mixed" st_law_mixed f fd) : FnOk P w K mg base L2.CX0 1 f fd ["_law_cell", "_law_k"] spMixed := by
  refine Fun.okD F sc_law_mixed rfl fun cdv A outer s H Q E hr => ⟨_, (pss_cons (ps_set (i := 2) sc_law_mixed.nd rfl (Or.inl rfl) (pe_op op_mod (pe_op op_addU (pe_op op_addU (pe_op op_mod (pv 0) pe_int) (pe_op op_mulU pe_int (pv 1))) pe_int) pe_int))
      (pss_one (ps_ret (pe_op op_mod (pe_op op_mulU (pe_op op_mod (pe_op op_mulU (pv 2) (pv 2)) pe_int) (pv 2)) pe_int)))), fun ds hl hp => ?_⟩
  obtain ⟨c, k, rfl, h0, h1⟩ := hp
  refine hq_asg (d := dI ((c % 1000000007 + 7919 * k + 11) % 1000003)) (by walk_at "ev") ?_
  have g0 : 0 ≤ (c % 1000000007 + 7919 * k + 11) % 1000003 := by omega
  have g1 : (c % 1000000007 + 7919 * k + 11) % 1000003 < 1000003 := by omega
  refine hs_ret (d := dI (mixed c k)) ?_ rfl
  show EvS _ _ (dI (((c % 1000000007 + 7919 * k + 11) % 1000003) * ((c % 1000000007 + 7919 * k + 11) % 1000003) % 1000003 * ((c % 1000000007 + 7919 * k + 11) % 1000003) % 1000003))
  walk_at "ev"
theorem ok_law_whole (F : L2.Fun K "_law_whole" "_law_whole" st_law_whole f fd) (T : Txt K mg CF CB CT CN CM CW CV CX tM) : FnOk P w K mg base L2.CX0 1 f fd ["_law_found"] spWhole := by
  refine Fun.okD F sc_law_whole rfl fun cdv A outer s H Q E hr => ⟨_, (pss_one (ps_ret (pe_and (pe_callB call_isU (by rfl) T.b_isinstance (by decide +kernel) (pa_cons (pv 0) (pa_cons (pe_bltn (v := .ty "int") (by rfl) T.b_int (by decide +kernel) rfl) pa_nil))) (pe_one (pe_not (pe_callB call_isU (by rfl) T.b_isinstance (by decide +kernel) (pa_cons (pv 0) (pa_cons (pe_bltn (v := .ty "bool") (by rfl) T.b_bool (by decide +kernel) rfl) pa_nil)))))))), fun ds hl hp => ?_⟩
  obtain ⟨i, rfl⟩ := hp
  refine hs_ret (d := dB true) (ev_eq (ev_andV (a := true) (b := !false) (ev_cb (ea_cons (ev_var rfl) (ea_cons ev_c ea_nil)) (ca_isU (T := "int") rfl (by decide +kernel))) fun _ => ev_notV (ev_cb (ea_cons (ev_var rfl) (ea_cons ev_c ea_nil)) (ca_isU (T := "int") rfl (by decide +kernel)))) rfl) rfl
theorem ok_law_wide (F : L2.Fun K "_law_wide" "_law_wide" st_law_wide f fd) (C_law_mixed : Cl P w K mg base L2.CX0 1 "_law_mixed" spMixed) : FnOk P w K mg base L2.CX0 2 f fd ["_law_cell", "_law_k"] spWide := by
  refine Fun.okD F sc_law_wide rfl fun cdv A outer s H Q E hr => ⟨_, (pss_one (ps_ret (pe_op op_addU (pe_op op_addU (pe_op op_mulU (pe_op op_mod (pv 0) (pe_op op_pow pe_int pe_int)) (pe_op op_pow pe_int pe_int)) (pe_op op_mulU (pe_cl C_law_mixed hr (by decide) pass0 rfl (pa_cons (pv 0) (pa_cons (pv 1) pa_nil))) pe_int)) (pe_cl C_law_mixed hr (by decide) pass0 rfl (pa_cons (pv 0) (pa_cons (pe_op op_addU (pv 1) pe_int) pa_nil)))))), fun ds hl hp => ?_⟩
  obtain ⟨c, k, rfl, h0, h1⟩ := hp
  refine hs_ret (d := dI (c % 10 ^ 40 * 1000003 ^ 2 + mixed c k * 1000003 + mixed c (k + 50))) ?_ rfl
  have m0 := mixed_lo c k
  have m1 := mixed_hi c k
  have e0 : 0 ≤ c % 10 ^ 40 := Int.emod_nonneg _ (by decide)
  have e1 : c % 10 ^ 40 < 10 ^ 40 := Int.emod_lt_of_pos _ (by decide)
  refine ev_op (ev_op (ev_op (x := dI (c % 10 ^ 40)) (y := dI (1000003 ^ 2)) (ev_op (ev_var rfl) (ev_op ev_c ev_c (od_I ⟨by decide, by decide, by decide⟩)) (od_I ?_)) (ev_op ev_c ev_c (od_I ⟨by decide, by decide, by decide⟩)) (od_mulI (cmw 140 60 ⟨by omega, by omega⟩ ⟨by decide +kernel, by decide +kernel⟩)))
    (ev_op (ev_call (ea_cons (ev_var rfl) (ea_cons (ev_var rfl) ea_nil)) (spD_of (f := ii mixed) rfl ⟨c, k, rfl, by omega, by omega⟩)) ev_c (od_mulI (cm64 (by omega) (by omega)))) od_addI)
    (ev_call (ea_cons (ev_var rfl) (ea_cons (ev_op (ev_var rfl) ev_c od_addI) ea_nil)) (spD_of (f := ii mixed) rfl ⟨c, k + 50, rfl, by omega, by omega⟩)) od_addI
  show (0 : Int) < _
  decide +kernel
theorem ok_law_hours (F : L2.Fun K "_law_hours" "_law_hours" st_law_hours f fd) (C_law_mixed : Cl P w K mg base L2.CX0 1 "_law_mixed" spMixed) (C_law_wide : Cl P w K mg base L2.CX0 2 "_law_wide" spWide) : FnOk P w K mg base L2.CX0 3 f fd ["_law_cell", "_law_k"] spHours := by
  refine Fun.okD F sc_law_hours rfl fun cdv A outer s H Q E hr => ⟨_, (pss_cons (ps_set (i := 2) sc_law_hours.nd rfl (Or.inl rfl) (pe_cl C_law_mixed hr (by decide) pass0 rfl (pa_cons (pv 0) (pa_cons (pv 1) pa_nil))))
      (pss_cons (ps_set (i := 3) sc_law_hours.nd rfl (Or.inl rfl) (pe_op op_addU pe_int (pe_op op_mod (pe_op op_fdivW (pv 2) pe_int) pe_int)))
      (pss_cons (ps_set (i := 4) sc_law_hours.nd rfl (Or.inl rfl) (pe_op op_mulU (pe_ix ix_seq (pe_lst (pa_cons pe_int (pa_cons pe_int (pa_cons pe_int (pa_cons pe_int (pa_cons pe_int (pa_cons pe_int (pa_cons pe_int (pa_cons pe_int pa_nil))))))))) (pe_op op_mod (pe_op op_fdivW (pv 2) pe_int) pe_int) (fun _ _ => rfl)) (pe_ix ix_seq (pe_lst (pa_cons pe_int (pa_cons pe_int (pa_cons pe_int (pa_cons pe_int (pa_cons pe_int (pa_cons pe_int (pa_cons pe_int (pa_cons pe_int pa_nil))))))))) (pe_op op_mod (pe_op op_fdivW (pv 2) pe_int) pe_int) (fun _ _ => rfl))))
      (pss_cons (ps_set (i := 5) sc_law_hours.nd rfl (Or.inl rfl) (pe_op op_addU pe_int (pe_op op_mod (pe_cl C_law_wide hr (by decide) pass0 rfl (pa_cons (pv 0) (pa_cons (pe_op op_addU (pv 1) pe_int) pa_nil))) (pe_op op_pow pe_int pe_int))))
      (pss_one (ps_ret (pe_ix ix_seq (pe_lst (pa_cons (pv 3) (pa_cons (pv 3) (pa_cons (pv 4) (pa_cons (pe_op op_mulU (pv 4) (pe_ix ix_seq (pe_lst (pa_cons pe_int (pa_cons pe_int (pa_cons pe_int (pa_cons pe_int pa_nil))))) (pe_op op_mod (pe_op op_fdivW (pv 2) pe_int) pe_int) (fun _ _ => rfl))) (pa_cons (pv 5) (pa_cons (pv 5) (pa_cons (pe_op op_pow pe_int pe_int) (pa_cons (pv 3) (pa_cons pe_int pa_nil)))))))))) (pe_op op_mod (pv 2) pe_int) (fun _ _ => rfl)))))))), fun ds hl hp => ?_⟩
  obtain ⟨c, k, rfl, h0, h1⟩ := hp
  have m0 := mixed_lo c k
  have m1 := mixed_hi c k
  refine hq_asg (ev_call (ea_cons (ev_var rfl) (ea_cons (ev_var rfl) ea_nil)) (spD_of (f := ii mixed) rfl ⟨c, k, rfl, by omega, by omega⟩)) ?_
  show Hs _ [some (dI c), some (dI k), some (dI (mixed c k)), none, none, none] _ _ _ _
  generalize hn : mixed c k = n at *
  have dv : ∀ (δ : Sto) (q m : Int), δ[2]? = some (some (dI n)) → 0 < q → q < 2 ^ 60 → 0 < m → EvS (tOp (rI (fun (_ j : Int) => 0 < j) fun i j => V.int (i % j)) (tOp (rI CDivW fun i j => V.int (i / j)) (tVar 2) (tC (.int q))) (tC (.int m))) δ (dI (n / q % m)) := fun δ q m hδ hq hq2 hm =>
    ev_op (ev_op (ev_var hδ) ev_c (od_I (cdw 60 hq hq2))) ev_c (od_I (by show 0 < m; exact hm))
  refine hq_asg (d := dI (few n)) (ev_op ev_c (dv _ 9 12 rfl (by decide) (by decide) (by decide)) od_addI) ?_
  refine hq_asg (d := dI (smooth n)) (ev_op
    (ev_op (ev_lst (ds := [2, 3, 4, 5, 6, 7, 9, 10].map dI) (by walk_at "ea") (by decide)) (dv _ 9 8 rfl (by decide) (by decide) (by decide)) (od_ixI (by omega) (by show _ < (8 : Int); omega)))
    (ev_op (ev_lst (ds := [2, 3, 5, 6, 8, 9, 11, 12].map dI) (by walk_at "ea") (by decide)) (dv _ 100 8 rfl (by decide) (by decide) (by decide)) (od_ixI (by omega) (by show _ < (8 : Int); omega)))
    (od_mulI (cm64 ?a1 ?a2))) ?_
  case a1 =>
    have h1 : 2 ≤ ([2, 3, 4, 5, 6, 7, 9, 10] : List Int).getD (n / 9 % 8).toNat 0 ∧ ([2, 3, 4, 5, 6, 7, 9, 10] : List Int).getD (n / 9 % 8).toNat 0 ≤ 10 := getD_all (P := fun x => 2 ≤ x ∧ x ≤ 10) (by decide) (by show _ < 8; omega)
    omega
  case a2 =>
    have h2 : 2 ≤ ([2, 3, 5, 6, 8, 9, 11, 12] : List Int).getD (n / 100 % 8).toNat 0 ∧ ([2, 3, 5, 6, 8, 9, 11, 12] : List Int).getD (n / 100 % 8).toNat 0 ≤ 12 := getD_all (P := fun x => 2 ≤ x ∧ x ≤ 12) (by decide) (by show _ < 8; omega)
    omega
  refine hq_asg (d := dI (1 + wide c (k + 1) % 10 ^ 30)) (ev_op ev_c (ev_op (x := dI (wide c (k + 1))) (y := dI (10 ^ 30)) (ev_call (ea_cons (ev_var rfl) (ea_cons (ev_op (ev_var rfl) ev_c od_addI) ea_nil)) (spD_of (f := ii wide) rfl ⟨c, k + 1, rfl, by omega, by omega⟩)) (ev_op ev_c ev_c (od_I ⟨by decide, by decide, by decide⟩)) (od_I ?b1)) od_addI) ?_
  case b1 =>
    show (0 : Int) < _
    decide +kernel
  refine hs_ret (d := dI ((hoursL c k n).getD (n % 9).toNat 0)) ?_ (by show _ = dI (hours c k); unfold hours; rw [hn])
  have h3 := smooth_in n
  have h4 := more_in n
  refine ev_op (ev_lst (ds := (hoursL c k n).map dI) ?_ (by show 9 ≤ 100000; decide)) (ev_op (ev_var rfl) ev_c (od_I (by show (0 : Int) < 9; decide))) (od_ixI (by omega) (by show _ < (9 : Int); omega))
  refine ea_cons (ev_var rfl) (ea_cons (ev_var rfl) (ea_cons (ev_var rfl) (ea_cons (ev_op (ev_var rfl) (ev_op (ev_lst (ds := [10, 49, 72, 1000].map dI) (by walk_at "ea") (by decide)) (dv _ 1000 4 rfl (by decide) (by decide) (by decide)) (od_ixI (by omega) (by show _ < (4 : Int); omega))) (od_mulI (cm64 (by omega) (by omega))))
    (ea_cons (ev_var rfl) (ea_cons (ev_var rfl) (ea_cons (ev_op ev_c ev_c (od_I ⟨by decide, by decide, by decide⟩)) (ea_cons (ev_var rfl) (ea_cons ev_c ea_nil))))))))
theorem ok_law_turn (F : L2.Fun K "_law_turn" "_law_turn" st_law_turn f fd) (C_law_mixed : Cl P w K mg base L2.CX0 1 "_law_mixed" spMixed) (C_law_wide : Cl P w K mg base L2.CX0 2 "_law_wide" spWide) : FnOk P w K mg base L2.CX0 3 f fd ["_law_cell", "_law_k"] spTurn := by
  refine Fun.okD F sc_law_turn rfl fun cdv A outer s H Q E hr => ⟨_, (pss_cons (ps_set (i := 2) sc_law_turn.nd rfl (Or.inl rfl) (pe_cl C_law_mixed hr (by decide) pass0 rfl (pa_cons (pv 0) (pa_cons (pv 1) pa_nil))))
      (pss_cons (ps_set (i := 3) sc_law_turn.nd rfl (Or.inl rfl) (pe_cl C_law_wide hr (by decide) pass0 rfl (pa_cons (pv 0) (pa_cons (pe_op op_addU (pv 1) pe_int) pa_nil))))
      (pss_one (ps_ret (pe_ix ix_seq (pe_lst (pa_cons (pe_op op_mod (pe_op op_fdivW (pv 2) pe_int) pe_int) (pa_cons (pe_op op_sub (pe_un un_neg pe_int) (pe_op op_mod (pe_op op_fdivW (pv 2) pe_int) pe_int)) (pa_cons (pv 3) (pa_cons (pe_op op_sub pe_int (pv 3)) (pa_cons pe_int (pa_cons (pe_op op_mulU (pv 3) (pv 3)) pa_nil))))))) (pe_op op_mod (pv 2) pe_int) (fun _ _ => rfl)))))), fun ds hl hp => ?_⟩
  obtain ⟨c, k, rfl, h0, h1⟩ := hp
  have m0 := mixed_lo c k
  have m1 := mixed_hi c k
  refine hq_asg (ev_call (ea_cons (ev_var rfl) (ea_cons (ev_var rfl) ea_nil)) (spD_of (f := ii mixed) rfl ⟨c, k, rfl, by omega, by omega⟩)) ?_
  show Hs _ [some (dI c), some (dI k), some (dI (mixed c k)), none] _ _ _ _
  refine hq_asg (d := dI (wide c (k + 3))) (ev_call (ea_cons (ev_var rfl) (ea_cons (ev_op (ev_var rfl) ev_c od_addI) ea_nil)) (spD_of (f := ii wide) rfl ⟨c, k + 3, rfl, by omega, by omega⟩)) ?_
  have w0 := wide_lo c (k + 3)
  have w1 := wide_hi c (k + 3)
  have dv : ∀ (δ : Sto), δ[2]? = some (some (dI (mixed c k))) → EvS (tOp (rI (fun (_ j : Int) => 0 < j) fun i j => V.int (i % j)) (tOp (rI CDivW fun i j => V.int (i / j)) (tVar 2) (tC (.int 6))) (tC (.int 50))) δ (dI (mixed c k / 6 % 50)) := fun δ hδ =>
    ev_op (ev_op (ev_var hδ) ev_c (od_I (cdw 60 (by decide) (by decide)))) ev_c (od_I (by show (0 : Int) < 50; decide))
  refine hs_ret (d := dI ((turnL c k (mixed c k)).getD (mixed c k % 6).toNat 0)) ?_ rfl
  refine ev_op (ev_lst (ds := (turnL c k (mixed c k)).map dI) ?_ (by show 6 ≤ 100000; decide)) (ev_op (ev_var rfl) ev_c (od_I (by show (0 : Int) < 6; decide))) (od_ixI (by omega) (by show _ < (6 : Int); omega))
  refine ea_cons (dv _ rfl) (ea_cons (ev_op (ev_un ev_c ud_U) (dv _ rfl) od_I0) (ea_cons (ev_var rfl) (ea_cons (ev_op ev_c (ev_var rfl) od_I0) (ea_cons ev_c (ea_cons (ev_op (ev_var rfl) (ev_var rfl) (od_mulI (cmw 180 180 ⟨by omega, by omega⟩ ⟨by omega, by omega⟩))) ea_nil)))))
theorem ok_law_clock (F : L2.Fun K "_law_clock" "_law_clock" st_law_clock f fd) (C_law_mixed : Cl P w K mg base L2.CX0 1 "_law_mixed" spMixed) (C_law_wide : Cl P w K mg base L2.CX0 2 "_law_wide" spWide) (C_law_hours : Cl P w K mg base L2.CX0 3 "_law_hours" spHours) : FnOk P w K mg base L2.CX0 4 f fd ["_law_cell", "_law_k"] spClock := by
  refine Fun.okD F sc_law_clock rfl fun cdv A outer s H Q E hr => ⟨_, (pss_cons (ps_set (i := 2) sc_law_clock.nd rfl (Or.inl rfl) (pe_cl C_law_hours hr (by decide) pass0 rfl (pa_cons (pv 0) (pa_cons (pv 1) pa_nil))))
      (pss_cons (ps_set (i := 3) sc_law_clock.nd rfl (Or.inl rfl) (pe_cl C_law_mixed hr (by decide) pass0 rfl (pa_cons (pv 0) (pa_cons (pe_op op_addU (pv 1) pe_int) pa_nil))))
      (pss_one (ps_ret (pe_tup (pa_cons (pv 2) (pa_cons (pe_ix ix_seq (pe_lst (pa_cons pe_int (pa_cons (pe_op op_sub (pv 2) pe_int) (pa_cons (pe_op op_mod (pe_cl C_law_wide hr (by decide) pass0 rfl (pa_cons (pv 0) (pa_cons (pe_op op_addU (pv 1) pe_int) pa_nil))) (pv 2)) pa_nil)))) (pe_op op_mod (pv 3) pe_int) (fun _ _ => rfl)) pa_nil))))))), fun ds hl hp => ?_⟩
  obtain ⟨c, k, rfl, h0, h1⟩ := hp
  have hh := hours_in c k
  have m0 := mixed_lo c (k + 2)
  refine hq_asg (d := dI (hours c k)) (ev_call (ea_cons (ev_var rfl) (ea_cons (ev_var rfl) ea_nil)) (spD_of (f := ii hours) rfl ⟨c, k, rfl, by omega, by omega⟩)) ?_
  refine hq_asg (d := dI (mixed c (k + 2))) (ev_call (ea_cons (ev_var rfl) (ea_cons (ev_op (ev_var rfl) ev_c od_addI) ea_nil)) (spD_of (f := ii mixed) rfl ⟨c, k + 2, rfl, by omega, by omega⟩)) ?_
  refine hs_ret (d := .tup [dI (hours c k), dI (clockH c k)]) (ev_tup (ea_cons (ev_var rfl) (ea_cons ?_ ea_nil)) (by show 2 ≤ 100000; decide)) rfl
  refine ev_op (ev_lst (ds := [0, hours c k - 1, wide c (k + 4) % hours c k].map dI) ?_ (by show 3 ≤ 100000; decide)) (ev_op (ev_var rfl) ev_c (od_I (by show (0 : Int) < 3; decide))) (od_ixI (by omega) (by show _ < (3 : Int); omega))
  exact ea_cons ev_c (ea_cons (ev_op (ev_var rfl) ev_c od_I0) (ea_cons (ev_op (ev_call (ea_cons (ev_var rfl) (ea_cons (ev_op (ev_var rfl) ev_c od_addI) ea_nil)) (spD_of (f := ii wide) rfl ⟨c, k + 4, rfl, by omega, by omega⟩)) (ev_var rfl) (od_I (by show 0 < hours c k; omega))) ea_nil))
theorem ok_law_odd_clock (F : L2.Fun K "_law_odd_clock" "_law_odd_clock" st_law_odd_clock f fd) (T : Txt K mg CF CB CT CN CM CW CV CX tM) : FnOk P w K mg base L2.CX0 1 f fd ["_law_clock_here", "_law_number"] spOddClock := by
  refine Fun.okD F sc_law_odd_clock rfl fun cdv A outer s H Q E hr => ⟨_, (pss_cons (ps_asg (pv 0) (pg_tup (by rfl) (pgs_cons (pg_name (i := 2) sc_law_odd_clock.nd rfl (Or.inl rfl)) (pgs_cons (pg_name (i := 3) sc_law_odd_clock.nd rfl (Or.inl rfl)) pgs_nil))))
      (pss_cons (ps_set (i := 4) sc_law_odd_clock.nd rfl (Or.inl rfl) (pe_lst (pa_cons pe_non (pa_cons pe_int (pa_cons pe_str (pa_cons (pe_callTy call_list_of (by rfl) T.b_list (by decide +kernel) (pa_cons (pv 0) pa_nil)) (pa_cons (pe_tup (pa_cons (pv 2) pa_nil)) (pa_cons (pe_op op_addU (pv 0) (pe_tup (pa_cons pe_int pa_nil))) (pa_cons (pe_tup (pa_cons pe_int (pa_cons pe_int pa_nil))) (pa_cons (pe_tup (pa_cons (pe_un un_neg pe_int) (pa_cons pe_int pa_nil))) (pa_cons (pe_tup (pa_cons (pv 2) (pa_cons (pv 2) pa_nil))) (pa_cons (pe_tup (pa_cons (pv 2) (pa_cons (pe_un un_neg pe_int) pa_nil))) (pa_cons pe_dnewK pa_nil)))))))))))))
      (pss_cons (ps_set (i := 4) sc_law_odd_clock.nd rfl (Or.inl rfl) (pe_op op_addU (pv 4) (pe_lst (pa_cons (pe_tup (pa_cons (pv 2) (pa_cons pe_non pa_nil))) (pa_cons (pe_tup (pa_cons pe_str (pa_cons pe_int pa_nil))) (pa_cons (pe_tup (pa_cons pe_bl (pa_cons pe_int pa_nil))) (pa_cons (pe_tup (pa_cons (pv 2) (pa_cons pe_bl pa_nil))) (pa_cons (pe_tup (pa_cons (pe_op op_addU (pe_op op_addU (pe_op op_pow pe_int pe_int) pe_int) (pv 1)) (pa_cons pe_int pa_nil))) (pa_cons (pe_tup (pa_cons (pe_lst (pa_cons (pv 2) pa_nil)) (pa_cons pe_int pa_nil))) (pa_cons (pe_tup pa_nil) pa_nil))))))))))
      (pss_one (ps_ret (pe_ix ix_seq (pv 4) (pe_op op_mod (pv 1) pe_int) (fun _ _ => rfl))))))), fun ds hl hp => ?_⟩
  obtain ⟨h, x, n, rfl, h0⟩ := hp
  refine hq_un2 (x := dI h) (y := dI x) (ev_var rfl) ?_
  refine hq_asg (d := .lst (odd11 h x)) (ev_lst (by walk_at "ea") (by show 11 ≤ 100000; decide)) ?_
  refine hq_asg (d := .lst (odd11 h x ++ odd7 h n)) (ev_op (ev_var rfl) (ev_lst (ds := odd7 h n) ?_ (by show 7 ≤ 100000; decide)) (od_addL (by show 11 + 7 ≤ 100000; decide))) ?_
  · refine ea_cons (by walk_at "ev") (ea_cons (by walk_at "ev") (ea_cons (by walk_at "ev") (ea_cons (by walk_at "ev") (ea_cons (ev_tup (ea_cons (ev_op (ev_op (ev_op ev_c ev_c (od_I ⟨by decide, by decide, by decide⟩)) ev_c od_addI) (ev_var rfl) od_addI) (ea_cons ev_c ea_nil)) (by simp)) (ea_cons (by walk_at "ev") (ea_cons (by walk_at "ev") ea_nil))))))
  · refine hs_ret (d := oddClock h x n) (ev_op (ev_var rfl) (ev_op (ev_var rfl) ev_c (od_I (by show (0 : Int) < 18; decide))) (od_ixD (by omega) ?_)) rfl
    show _ < (18 : Int)
    omega
theorem ok_law_odd_turn (F : L2.Fun K "_law_odd_turn" "_law_odd_turn" st_law_odd_turn f fd) : FnOk P w K mg base L2.CX0 1 f fd ["_law_number"] spOddTurn := by
  refine Fun.okD F sc_law_odd_turn rfl fun cdv A outer s H Q E hr => ⟨_, (pss_one (ps_ret (pe_ix ix_seq (pe_lst (pa_cons pe_non (pa_cons pe_bl (pa_cons pe_str (pa_cons (pe_lst (pa_cons pe_int pa_nil)) (pa_cons (pe_tup (pa_cons pe_int pa_nil)) (pa_cons pe_dnewK (pa_cons pe_bl (pa_cons pe_str pa_nil))))))))) (pe_op op_mod (pv 0) pe_int) (fun _ _ => rfl)))), fun ds hl hp => ?_⟩
  obtain ⟨n, rfl⟩ := hp
  refine hs_ret (d := oddTurn n) (ev_op (ev_lst (ds := odd8) (by walk_at "ea") (by show 8 ≤ 100000; decide)) (ev_op (ev_var rfl) ev_c (od_I (by show (0 : Int) < 8; decide))) (od_ixD (by omega) ?_)) rfl
  show _ < (8 : Int)
  omega
end
end Dn
namespace Dn
open PySem PySem.Spec PyProof.Rows L2
open Evl (Ex)
local macro_rules | `(tactic| walk_at "sd") => `(tactic| first | assumption | decide +kernel | (show (0 : Int) < _; first | assumption | omega) | exact cm64 (by omega) (by omega) | exact ⟨by omega, by decide +kernel⟩ | omega)
local macro_rules | `(tactic| walk_at "od") => `(tactic| first | exact od_addI | exact od_I0 | exact od_I (by walk_at "sd") | exact od_mulI (by walk_at "sd") | exact od_eqUI | exact od_neUI | exact od_isT | exact od_noT | exact od_isNo | exact od_noNo | exact od_isB | exact od_notB | exact od_eqUB | exact od_addL (by decide) | exact od_addT (by simp) (by simp) (by simp) | exact od_ixSeqT (by decide) rfl)
local macro_rules | `(tactic| walk_at "ca") => `(tactic| first | exact ca_listT | exact ca_lenUT | exact ca_lenUL | exact ca_type rfl)
local macro_rules | `(tactic| walk_at "ea") => `(tactic| first | ((with_reducible show EaS tNil _ _); exact ea_nil) | exact ea_cons (by walk_at "ev") (by walk_at "ea"))
local macro_rules | `(tactic| walk_at "ev") => `(tactic| first | ((with_reducible show EvS (tC _) _ _); exact ev_c) | ((with_reducible show EvS (tVar _) _ _); exact ev_var rfl) | ((with_reducible show EvS (tOp _ _ _) _ _); exact ev_op (by walk_at "ev") (by walk_at "ev") (by walk_at "od")) | ((with_reducible show EvS (tUn _ _) _ _); exact ev_un (by walk_at "ev") ud_U) | ((with_reducible show EvS (tTup _) _ _); exact ev_tup (by walk_at "ea") (by simp)) | ((with_reducible show EvS (tLst _) _ _); exact ev_lst (by walk_at "ea") (by simp)) | ((with_reducible show EvS tDNewK _ _); exact ev_dnewK) | ((with_reducible show EvS (tCB _ _) _ _); exact ev_cb (by walk_at "ea") (by walk_at "ca")))
section
variable {P : Program} {w : World} {K : PySem.W.Frag} {mg : Str → Option Value} {base : Heap} {f CF CB CT CN CM CW CV CX : Addr} {tM : Tok} {fd : FuncData}
theorem ck_ok {CB CT : Addr} {g : Dt → Dt → Dt} {h x t : Int} (h1 : 1 ≤ h) (h2 : h ≤ 1000000000000000000000000000000) (x0 : 0 ≤ x) (x1 : x < h) : ckTurn CB CT g [.tup [dI h, dI x], dI t] = .ok (g (.tup [dI h, dI x]) (dI t)) := by
  show (if isClock (.tup [dI h, dI x]) = true then (if isNum (dI t) = true then (Except.ok (g (.tup [dI h, dI x]) (dI t)) : Rs) else .error CT) else .error CB) = _
  rw [if_pos (isClock_good h1 h2 x0 x1), if_pos (show isNum (dI t) = true from rfl)]
theorem ok_law_good (F : L2.Fun K "_law_good" "_law_good" st_law_good f fd) (T : Txt K mg CF CB CT CN CM CW CV CX tM) (C_is_clock : Cl P w K mg base L2.CX0 2 "is_clock" spIsClock) (C_law_whole : Cl P w K mg base L2.CX0 1 "_law_whole" spWhole)
    (C_shows : Cl P w K mg base (L2.CX P w) 4 "shows" (spShows CB CT)) (C_is_right : Cl P w K mg base (L2.CX P w) 5 "is_right" (spRight CB CT)) : FnOk P w K mg base L2.CX0 6 f fd ["_law_clock_here", "_law_turn_here"] spGood := by
  refine Fun.okD F sc_law_good rfl fun cdv A outer s H Q E hr => ⟨_, (pss_cons (ps_set (i := 2) sc_law_good.nd rfl (Or.inl rfl) (pe_op op_mod (pv 1) (pe_ix ix_seq (pv 0) pe_int (fun _ _ => rfl))))
      (pss_cons (ps_set (i := 3) sc_law_good.nd rfl (Or.inl rfl) (pe_cl C_shows hr (by decide) passL rfl (pa_cons (pv 0) (pa_cons (pv 1) pa_nil))))
      (pss_cons (ps_if (PW.pt (pw_or (pt_cmpR op_notBl (pe_cl C_is_clock hr (by decide) pass0 rfl (pa_cons (pv 0) pa_nil)) pe_bl (nomark _)) (pw_or (pt_not (pt_val (pe_cl C_law_whole hr (by decide) pass0 rfl (pa_cons (pv 3) pa_nil)))) (pw_or (pt_cmpR (op_neU hr.units) (pv 3) (pv 2) (nomark _)) (pw_or1 (pt_cmpR (op_neU hr.units) (pe_cl C_shows hr (by decide) passL rfl (pa_cons (pv 0) (pa_cons (pe_op op_addU (pv 1) (pe_ix ix_seq (pv 0) pe_int (fun _ _ => rfl))) pa_nil))) (pv 2) (nomark _))))))) (pss_one (ps_ret pe_bl)) pss_nil)
      (pss_cons (ps_set (i := 4) sc_law_good.nd rfl (Or.inl rfl) (pe_cl C_is_right hr (by decide) passL rfl (pa_cons (pv 0) (pa_cons (pv 1) pa_nil))))
      (pss_one (ps_ret (pe_and (pe_callB call_isU (by rfl) T.b_isinstance (by decide +kernel) (pa_cons (pv 4) (pa_cons (pe_bltn (v := .ty "bool") (by rfl) T.b_bool (by decide +kernel) rfl) pa_nil))) (pe_and (pe_cmpR (op_eqU hr.units) (pv 4) (pe_cmpR (op_eqU hr.units) (pv 2) (pe_ix ix_seq (pv 0) pe_int (fun _ _ => rfl)) (nomark _)) (nomark _)) (pe_one (pe_cmpR op_isBl (pe_cl C_is_right hr (by decide) passL rfl (pa_cons (pv 0) (pa_cons (pe_op op_sub (pe_ix ix_seq (pv 0) pe_int (fun _ _ => rfl)) (pe_op op_mulU pe_int (pe_ix ix_seq (pv 0) pe_int (fun _ _ => rfl)))) pa_nil))) pe_bl (nomark _))))))))))), fun ds hl hp => ?_⟩
  obtain ⟨h, x, t, rfl, h1, h2, x0, x1⟩ := hp
  have hp : 0 < h := by omega
  have ix0 : ∀ δ : Sto, δ[0]? = some (some (.tup [dI h, dI x])) → EvS (tOp (rIx K) (tVar 0) (tC (.int 0))) δ (dI h) := fun δ e => ev_op (ev_var e) ev_c (od_ixSeqT (z := dI h) (by decide) rfl)
  have ix1 : ∀ δ : Sto, δ[0]? = some (some (.tup [dI h, dI x])) → EvS (tOp (rIx K) (tVar 0) (tC (.int 1))) δ (dI x) := fun δ e => ev_op (ev_var e) ev_c (od_ixSeqT (z := dI x) (by decide) rfl)
  refine hq_asg (d := dI (t % h)) (ev_op (ev_var rfl) (ix0 _ rfl) (od_I (by show 0 < h; exact hp))) ?_
  refine hq_asg (d := dI (t % h)) (ev_callX (ea_cons (ev_var rfl) (ea_cons (ev_var rfl) ea_nil)) rfl ⟨_, _, rfl, okTh_clock h x, _, rfl⟩ (ck_ok h1 h2 x0 x1)) ?_
  refine hq_when (b := false) (et_eq (et_or (a := false) (b := false) (et_eq (et_test (ev_op (x := dB (isClock (.tup [dI h, dI x]))) (ev_call (ea_cons (ev_var rfl) ea_nil) (spD_of rfl ⟨_, rfl, okTh_clock h x⟩)) ev_c od_notB)) (by rw [isClock_good h1 h2 x0 x1]; decide)) fun _ =>
    et_eq (et_or (a := false) (b := false) (et_eq (et_not (et_B (ev_call (z := dB true) (ea_cons (ev_var rfl) ea_nil) (spD_of (f := fun _ => dB true) rfl ⟨t % h, rfl⟩)))) rfl) fun _ =>
      et_eq (et_or (a := false) (b := false) (et_eq (et_test (ev_op (ev_var rfl) (ev_var rfl) od_neUI)) (by simp)) fun _ =>
        et_eq (et_test (ev_op (x := dI ((t + h) % h)) (ev_callX (ea_cons (ev_var rfl) (ea_cons (ev_op (ev_var rfl) (ix0 _ rfl) od_addI) ea_nil)) rfl ⟨_, _, rfl, okTh_clock h x, _, rfl⟩ (ck_ok h1 h2 x0 x1)) (ev_var rfl) od_neUI)) (by rw [Int.add_emod_right]; simp)) rfl) rfl) rfl) (fun e => nomatch e) (fun _ => ?_)
  refine hq_asg (d := dB (decide (t % h = x))) (ev_callX (ea_cons (ev_var rfl) (ea_cons (ev_var rfl) ea_nil)) rfl ⟨_, _, rfl, okTh_clock h x, _, rfl⟩ (ck_ok h1 h2 x0 x1)) ?_
  refine hs_ret (d := dB true) (ev_eq (ev_andV (a := true) (b := true) (ev_cb (ea_cons (ev_var rfl) (ea_cons ev_c ea_nil)) (ca_isU (T := "bool") rfl (by decide +kernel))) fun _ =>
    ev_eq (ev_andV (a := true) (b := true) (ev_eq (ev_op (ev_var rfl) (ev_op (ev_var rfl) (ix1 _ rfl) od_eqUI) od_eqUB) ?_) fun _ => ev_eq (ev_op (x := dB (decide ((x - 3 * h) % h = x))) (ev_callX (ea_cons (ev_var rfl) (ea_cons (ev_op (ix1 _ rfl) (ev_op ev_c (ix0 _ rfl) (od_mulI ?_)) od_I0) ea_nil)) rfl ⟨_, _, rfl, okTh_clock h x, _, rfl⟩ (ck_ok h1 h2 x0 x1)) ev_c od_isB) ?_) rfl) rfl) rfl
  · cases decide (t % h = x) <;> rfl
  · exact cmw 60 100 ⟨by decide, by decide⟩ ⟨by omega, by omega⟩
  · have e : (x - 3 * h) % h = x := by
      rw [Int.sub_mul_emod_self_right]
      exact Int.emod_eq_of_lt x0 x1
    rw [e]
    simp
theorem ok_law_word (F : L2.Fun K "_law_word" "_law_word" st_law_word f fd) (T : Txt K mg CF CB CT CN CM CW CV CX tM) : FnOk P w K mg base L2.CX0 1 f fd ["_law_e"] (spWord K CB CT CN CM CW CV CX) := by
  refine Fun.okD F sc_law_word rfl fun cdv A outer s H Q E hr => ⟨_, (pss_cons (ps_if (pt_cmpR op_isNo (pv 0) pe_non (nomark _)) (pss_one (ps_ret (pe_lst (pa_cons pe_str pa_nil)))) pss_nil)
      (pss_cons (ps_set (i := 1) sc_law_word.nd rfl (Or.inl rfl) (pe_lst (pa_cons (pe_tup (pa_cons pe_str (pa_cons (pe_callB call_isU (by rfl) T.b_isinstance (by decide +kernel) (pa_cons (pv 0) (pa_cons (pe_glob (v := .ref _) rfl T.g_BadClock rfl) pa_nil))) pa_nil))) (pa_cons (pe_tup (pa_cons pe_str (pa_cons (pe_callB call_isU (by rfl) T.b_isinstance (by decide +kernel) (pa_cons (pv 0) (pa_cons (pe_glob (v := .ref _) rfl T.g_BadTurn rfl) pa_nil))) pa_nil))) (pa_cons (pe_tup (pa_cons pe_str (pa_cons (pe_callB call_isU (by rfl) T.b_isinstance (by decide +kernel) (pa_cons (pv 0) (pa_cons (pe_glob (v := .ref _) rfl T.g_NoClock rfl) pa_nil))) pa_nil))) pa_nil)))))
      (pss_cons (ps_set (i := 1) sc_law_word.nd rfl (Or.inl rfl) (pe_op op_addU (pv 1) (pe_lst (pa_cons (pe_tup (pa_cons pe_str (pa_cons (pe_callB call_isU (by rfl) T.b_isinstance (by decide +kernel) (pa_cons (pv 0) (pa_cons (pe_glob (v := .ref _) rfl T.g_TooMany rfl) pa_nil))) pa_nil))) (pa_cons (pe_tup (pa_cons pe_str (pa_cons (pe_callB call_isU (by rfl) T.b_isinstance (by decide +kernel) (pa_cons (pv 0) (pa_cons (pe_glob (v := .ref _) rfl T.g_BadWall rfl) pa_nil))) pa_nil))) pa_nil)))))
      (pss_cons (ps_setLc (i := 2) (own := [("_law_word_here", 3), ("_law_is_it", 4)]) (g := gTup K 2 (gCons (gName 3) (gCons (gName 4) gNil))) (by rfl) sc_law_word.nd rfl rfl (sw_true rfl rfl rfl (by decide +kernel)) (pi_list (pv 1)) (blkOk_by (N := ["_law_e", "_law_some", "_law_found", "_law_word_here", "_law_is_it"]) (sc := defScope st_law_word) (by decide +kernel)) (fun _ _ _ _ _ => by exact (pg_tup (by rfl) (pgs_cons (pg_name (i := 3) sc_law_word.nd rfl (Or.inl rfl)) (pgs_cons (pg_name (i := 4) sc_law_word.nd rfl (Or.inl rfl)) pgs_nil)))) (fun _ _ _ _ _ => by exact pts_one (pt_val (pv 4))) (fun _ _ _ _ _ => by exact (pv 3)))
      (pss_cons (ps_if (pt_val (pe_callB call_isU (by rfl) T.b_isinstance (by decide +kernel) (pa_cons (pv 0) (pa_cons (pe_glob (v := .ref _) rfl T.g_Never rfl) pa_nil)))) (pss_one (ps_set (i := 2) sc_law_word.nd rfl (Or.inl rfl) (pe_op op_addU (pv 2) (pe_lst (pa_cons pe_str (pa_cons (pe_fld (pv 0) rfl) (pa_cons (pe_fld (pv 0) rfl) pa_nil))))))) pss_nil)
      (pss_cons (ps_if (pt_val (pe_callB call_isU (by rfl) T.b_isinstance (by decide +kernel) (pa_cons (pv 0) (pa_cons (pe_glob (v := .ref _) rfl T.g_BadText rfl) pa_nil)))) (pss_one (ps_set (i := 2) sc_law_word.nd rfl (Or.inl rfl) (pe_op op_addU (pv 2) (pe_lst (pa_cons pe_str (pa_cons (pe_fld (pv 0) rfl) pa_nil)))))) pss_nil)
      (pss_cons (ps_if (pt_not (pt_val (pe_callB call_isU (by rfl) T.b_isinstance (by decide +kernel) (pa_cons (pv 0) (pa_cons (pe_bltn (v := .ty "ValueError") (by rfl) T.b_ValueError (by decide +kernel) rfl) pa_nil))))) (pss_one (ps_expr (pe_bm PySem.F.plainAttrs_list PySem.F.slot_list_append PySem.F.type_list_append mt_append (pv 2) (pa_cons pe_str pa_nil)))) pss_nil)
      (pss_one (ps_ret (pv 2)))))))))), fun ds hl hp => ?_⟩
  obtain ⟨D, rfl, W⟩ := hp
  refine hq_when (b := false) (et_test (ev_op (ev_var rfl) ev_c od_isNo)) (fun e => nomatch e) (fun _ => ?_)
  have tp : ∀ {δ : Sto} {s : Str} {C : Addr} {b : Bool} {r}, δ[0]? = some (some (.exc D [])) → r = rIsU K → PySem.W.kitOne K (.ref D) (.ref C) = some b → EvS (tTup (tCons (tC (.str s)) (tCons (tCB r (tCons (tVar 0) (tCons (tC (.ref C)) tNil))) tNil))) δ (.tup [dS s, dB b]) := fun h e k => by
    subst e
    exact ev_tup (ea_cons ev_c (ea_cons (ev_cb (ea_cons (ev_var h) (ea_cons ev_c ea_nil)) (ca_isEx W.ec k)) ea_nil)) (by show 2 ≤ 100000; decide)
  refine hq_asg (d := .lst [wordP K D "clock" CB, wordP K D "turn" CT, wordP K D "none" CN]) (ev_lst (ea_cons (tp rfl rfl W.q1) (ea_cons (tp rfl rfl W.q2) (ea_cons (tp rfl rfl W.q3) ea_nil))) (by show 3 ≤ 100000; decide)) ?_
  refine hq_asg (d := .lst [wordP K D "clock" CB, wordP K D "turn" CT, wordP K D "none" CN, wordP K D "many" CM, wordP K D "wall" CW]) (ev_op (ev_var rfl) (ev_lst (ea_cons (tp rfl rfl W.q4) (ea_cons (tp rfl rfl W.q5) ea_nil)) (by show 2 ≤ 100000; decide)) (od_addL (by show 3 + 2 ≤ 100000; decide))) ?_
  refine hq_asg (d := .lst (wordsOf K CB CT CN CM CW D)) (ev_lc wordF (ev_var rfl) (by show 5 ≤ 40000; decide) noLst_words fun d hd => ?_) ?_
  · have hx : ∃ (s : Str) (C : Addr), d = wordP K D s C := by
      simp only [List.mem_cons, List.not_mem_nil, or_false] at hd
      rcases hd with e | e | e | e | e <;> exact ⟨_, _, e⟩
    obtain ⟨s, C, rfl⟩ := hx
    refine ⟨_, under K D C, gds_two (x := dS s) (y := dB (under K D C)) (by decide) (by decide), et_B (ev_var rfl), fun e => ⟨dS s, ev_var rfl, ?_⟩, fun e => ?_⟩
    · show wordF (.tup [dS s, dB (under K D C)]) = _
      rw [wordF_tup, e, if_pos rfl]
    · show wordF (.tup [dS s, dB (under K D C)]) = _
      rw [wordF_tup, e, if_neg Bool.false_ne_true]
  refine hq_when (b := false) (et_B (ev_cb (ea_cons (ev_var rfl) (ea_cons ev_c ea_nil)) (ca_isEx W.ec W.q6))) (fun e => nomatch e) (fun _ => ?_)
  refine hq_when (b := false) (et_B (ev_cb (ea_cons (ev_var rfl) (ea_cons ev_c ea_nil)) (ca_isEx W.ec W.q7))) (fun e => nomatch e) (fun _ => ?_)
  refine hq_when (b := false) (et_eq (et_not (et_B (ev_cb (ea_cons (ev_var rfl) (ea_cons ev_c ea_nil)) (ca_isExT W.ec W.q8)))) rfl) (fun e => nomatch e) (fun _ => ?_)
  exact hs_ret (ev_var rfl) rfl
end
end Dn
namespace Dn
open PySem PySem.Spec PyProof.Rows L2 LamX
open Evl (Ex)
local macro_rules | `(tactic| walk_at "sd") => `(tactic| first | assumption | decide +kernel | (show (0 : Int) < _; first | assumption | omega) | exact cm64 (by omega) (by omega) | exact ⟨by omega, by decide +kernel⟩ | omega)
local macro_rules | `(tactic| walk_at "od") => `(tactic| first | exact od_addI | exact od_I0 | exact od_I (by walk_at "sd") | exact od_mulI (by walk_at "sd") | exact od_eqUI | exact od_neUI | exact od_isT | exact od_noT | exact od_isNo | exact od_noNo | exact od_isB | exact od_notB | exact od_eqUB | exact od_addL (by decide) | exact od_addT (by simp) (by simp) (by simp) | exact od_ixSeqT (by decide) rfl)
local macro_rules | `(tactic| walk_at "ca") => `(tactic| first | exact ca_listT | exact ca_lenUT | exact ca_lenUL | exact ca_type rfl)
local macro_rules | `(tactic| walk_at "ea") => `(tactic| first | ((with_reducible show EaS tNil _ _); exact ea_nil) | exact ea_cons (by walk_at "ev") (by walk_at "ea"))
local macro_rules | `(tactic| walk_at "ev") => `(tactic| first | ((with_reducible show EvS (tC _) _ _); exact ev_c) | ((with_reducible show EvS (tVar _) _ _); exact ev_var rfl) | ((with_reducible show EvS (tOp _ _ _) _ _); exact ev_op (by walk_at "ev") (by walk_at "ev") (by walk_at "od")) | ((with_reducible show EvS (tUn _ _) _ _); exact ev_un (by walk_at "ev") ud_U) | ((with_reducible show EvS (tTup _) _ _); exact ev_tup (by walk_at "ea") (by simp)) | ((with_reducible show EvS (tLst _) _ _); exact ev_lst (by walk_at "ea") (by simp)) | ((with_reducible show EvS tDNewK _ _); exact ev_dnewK) | ((with_reducible show EvS (tCB _ _) _ _); exact ev_cb (by walk_at "ea") (by walk_at "ca")))
theorem sl_U {X : Cx} : SlR X (rSlL X.K) := sl_list
structure TxtL (K : PySem.W.Frag) (mg : Str → Option Value) (CF CB CT CN CM CW CV CX : Addr) (tM : Tok) (gk : Addr) extends Txt K mg CF CB CT CN CM CW CV CX tM where
  g_law_kept : mg "_law_kept" = some (.ref gk)
def spLaw (K : PySem.W.Frag) (T : List (Addr × Str)) : Sp := fun vs H Q _ => ∃ (a : Addr) (ns : List Int), vs = [.ref a] ∧ SqL K H a (ns.map V.int) ∧ ns.length ≤ 63 ∧ Tabs T H ∧ ∀ H', Q (.bl true) H'
theorem hsk_go {T : List (Addr × Str)} {t : TS} {δ : Sto} {N : Sto → Prop} {σ : L2.St} {H : Hp} {D : Ends} (h : HsK T t δ N noD) (S : DenS H σ δ) (TS : Tabs T H) (hn : ∀ σ' H' δ', ExtN H H' → Tabs T H' → DenS H' σ' δ' → N δ' → D.nx σ' H') : t D σ H := h σ H D S TS hn fun _ _ _ _ _ _ z => z.elim
theorem flat_odd {h x n : Int} (hn : 0 ≤ n) : flatD (oddClock h x n) = true := by
  refine getDD_all (P := fun d => flatD d = true) (fun d hd => ?_) (by show _ < 18; omega)
  rcases List.mem_append.mp hd with hd | hd
  · unfold odd11 at hd
    simp only [List.mem_cons, List.not_mem_nil, or_false] at hd
    rcases hd with q | q | q | q | q | q | q | q | q | q | q <;> subst q <;> rfl
  · unfold odd7 at hd
    simp only [List.mem_cons, List.not_mem_nil, or_false] at hd
    rcases hd with q | q | q | q | q | q | q <;> subst q <;> rfl
theorem flat_oddT {n : Int} : flatD (oddTurn n) = true := by
  refine getDD_all (P := fun d => flatD d = true) (fun d hd => ?_) (by show _ < 8; omega)
  unfold odd8 at hd
  simp only [List.mem_cons, List.not_mem_nil, or_false] at hd
  rcases hd with q | q | q | q | q | q | q | q <;> subst q <;> rfl
section
variable {P : Program} {w : World} {K : PySem.W.Frag} {mg : Str → Option Value} {base : Heap} {f CF CB CT CN CM CW CV CX gk cL PL : Addr} {tM : Tok} {fd fdk : FuncData}
abbrev lamQ : Str := ("law" : Str) ++ ".<locals>." ++ "<lambda>"
theorem ok_law (F : L2.Fun K "law" "law" st_law f fd) (hfc : fd.code = .ref cL) (TB : TabB base mg cL PL) (T : TxtL K mg CF CB CT CN CM CW CV CX tM gk) (F_law_kept : L2.Fun K "_law_kept" "_law_kept" st_law_kept gk fdk) (B_law_kept : L2.Binds K fdk ["_law_deed"] [])
    (C_is_clock : Cl P w K mg base L2.CX0 2 "is_clock" spIsClock) (C_shows : Cl P w K mg base (L2.CX P w) 4 "shows" (spShows CB CT)) (C_is_right : Cl P w K mg base (L2.CX P w) 5 "is_right" (spRight CB CT))
    (C_law_mixed : Cl P w K mg base L2.CX0 1 "_law_mixed" spMixed) (C_law_turn : Cl P w K mg base L2.CX0 3 "_law_turn" spTurn) (C_law_clock : Cl P w K mg base L2.CX0 4 "_law_clock" spClock)
    (C_law_good : Cl P w K mg base L2.CX0 6 "_law_good" spGood) (C_law_odd_clock : Cl P w K mg base L2.CX0 1 "_law_odd_clock" spOddClock) (C_law_odd_turn : Cl P w K mg base L2.CX0 1 "_law_odd_turn" spOddTurn)
    (C_law_word : Cl P w K mg base L2.CX0 1 "_law_word" (spWord K CB CT CN CM CW CV CX)) : FnOk P w K mg base L2.CX0 8 f fd ["_law_script"] (spLaw K [(PL, lamQ)]) := by
  refine Fun.okC F hfc sc_law (fun vs H Q E h => ?_) (fun A outer s H vs Q E hr h => ?_)
  · obtain ⟨a, ns, rfl, _⟩ := h
    rfl
  obtain ⟨a, ns, rfl, hS, hlen, TS, q⟩ := h
  let TL : List (Addr × Str) := [(PL, lamQ)]
  let S_shows : Sp := spShows CB CT
  let S_is_right : Sp := spRight CB CT
  have hmT : (PL, lamQ) ∈ TL := List.mem_cons_self
  have hu : ∀ p ∈ TL, p.1 = PL → p.2 = lamQ := fun p hp _ => by
    cases List.mem_singleton.mp hp
    rfl
  refine ⟨_, (pss_cons (ps_for PassesOwn.never rfl (pi_enum rfl T.b_enumerate (pa_cons (pe_op op_addU (pe_lst (pa_cons pe_int pa_nil)) (pe_slice sl_U (pv 0) po_none (po_some pe_int))) pa_nil)) (pg_tup (by rfl) (pgs_cons (pg_name (i := 1) sc_law.nd rfl (Or.inl rfl)) (pgs_cons (pg_name (i := 2) sc_law.nd rfl (Or.inl rfl)) pgs_nil))) (pss_cons (ps_set (i := 3) sc_law.nd rfl (Or.inr rfl) (pe_cl C_law_clock hr (by decide) pass0 rfl (pa_cons (pv 2) (pa_cons (pv 1) pa_nil))))
      (pss_cons (ps_set (i := 4) sc_law.nd rfl (Or.inr rfl) (pe_cl C_law_turn hr (by decide) pass0 rfl (pa_cons (pv 2) (pa_cons (pe_op op_addU (pv 1) pe_int) pa_nil))))
      (pss_cons (ps_set (i := 5) sc_law.nd rfl (Or.inl rfl) (pe_cl C_law_mixed hr (by decide) pass0 rfl (pa_cons (pv 2) (pa_cons (pe_op op_addU (pv 1) pe_int) pa_nil))))
      (pss_cons (ps_if (PW.pt (pw_or (pt_not (pt_val (pe_cl C_law_good hr (by decide) pass0 rfl (pa_cons (pv 3) (pa_cons (pv 4) pa_nil))))) (pw_or1 (pt_not (pt_val (pe_cl C_law_good hr (by decide) pass0 rfl (pa_cons (pv 3) (pa_cons (pe_op op_addU (pe_ix ix_seq (pv 3) pe_int (fun _ _ => rfl)) (pe_op op_mulU (pv 5) (pe_ix ix_seq (pv 3) pe_int (fun _ _ => rfl)))) pa_nil)))))))) (pss_one (ps_ret pe_bl)) pss_nil)
      (pss_cons (ps_asg (pe_tup (pa_cons (pe_cl C_law_odd_clock hr (by decide) pass0 rfl (pa_cons (pv 3) (pa_cons (pv 5) pa_nil))) (pa_cons (pe_cl C_law_odd_turn hr (by decide) pass0 rfl (pa_cons (pe_op op_fdivW (pv 5) pe_int) pa_nil)) pa_nil))) (pg_tup (by rfl) (pgs_cons (pg_name (i := 6) sc_law.nd rfl (Or.inr rfl)) (pgs_cons (pg_name (i := 7) sc_law.nd rfl (Or.inr rfl)) pgs_nil))))
      (pss_cons (ps_if (PW.pt (pw_or (pt_cmpR op_notBl (pe_cl C_is_clock hr (by decide) pass0 rfl (pa_cons (pv 6) pa_nil)) pe_bl (nomark _)) (pw_or1 (pt_cmpR op_notBl (pe_cl C_is_clock hr (by decide) pass0 rfl (pa_cons (pv 7) pa_nil)) pe_bl (nomark _))))) (pss_one (ps_ret pe_bl)) pss_nil)
      (pss_cons (ps_set (i := 8) sc_law.nd rfl (Or.inl rfl) (pe_lst (pa_cons (pe_cl C_law_word hr (by decide) pass0 rfl (pa_cons (pe_keep (k := 4) (T := TL) F_law_kept rfl rfl B_law_kept T.g_law_kept T.g_FoldError rfl TB rfl hmT hu (hr.mono (by decide)) (lamS_by (sc := defScope st_law) (by decide +kernel)) rfl (fun _ _ _ _ _ => rfl) (t := fun E => tCall S_shows [] E (tCons (tVar 6) (tCons (tVar 7) tNil))) (fun A outer s H E f c' hr => by exact (pe_cl C_shows hr (by decide) (fun a b c d e f => passes_call (takes_of rfl rfl rfl rfl) (fun _ _ _ _ h => h) a b c d e f) rfl (pa_cons (pv 6) (pa_cons (pv 7) pa_nil))))) pa_nil)) pa_nil)))
      (pss_cons (ps_expr (pe_bm PySem.F.plainAttrs_list PySem.F.slot_list_append PySem.F.type_list_append mt_append (pv 8) (pa_cons (pe_cl C_law_word hr (by decide) pass0 rfl (pa_cons (pe_keep (k := 5) (T := TL) F_law_kept rfl rfl B_law_kept T.g_law_kept T.g_FoldError rfl TB rfl hmT hu (hr.mono (by decide)) (lamS_by (sc := defScope st_law) (by decide +kernel)) rfl (fun _ _ _ _ _ => rfl) (t := fun E => tCall S_is_right [] E (tCons (tVar 6) (tCons (tVar 4) tNil))) (fun A outer s H E f c' hr => by exact (pe_cl C_is_right hr (by decide) (fun a b c d e f => passes_call (takes_of rfl rfl rfl rfl) (fun _ _ _ _ h => h) a b c d e f) rfl (pa_cons (pv 6) (pa_cons (pv 4) pa_nil))))) pa_nil)) pa_nil)))
      (pss_cons (ps_expr (pe_bm PySem.F.plainAttrs_list PySem.F.slot_list_append PySem.F.type_list_append mt_append (pv 8) (pa_cons (pe_cl C_law_word hr (by decide) pass0 rfl (pa_cons (pe_keep (k := 4) (T := TL) F_law_kept rfl rfl B_law_kept T.g_law_kept T.g_FoldError rfl TB rfl hmT hu (hr.mono (by decide)) (lamS_by (sc := defScope st_law) (by decide +kernel)) rfl (fun _ _ _ _ _ => rfl) (t := fun E => tCall S_shows [] E (tCons (tVar 3) (tCons (tVar 7) tNil))) (fun A outer s H E f c' hr => by exact (pe_cl C_shows hr (by decide) (fun a b c d e f => passes_call (takes_of rfl rfl rfl rfl) (fun _ _ _ _ h => h) a b c d e f) rfl (pa_cons (pv 3) (pa_cons (pv 7) pa_nil))))) pa_nil)) pa_nil)))
      (pss_cons (ps_expr (pe_bm PySem.F.plainAttrs_list PySem.F.slot_list_append PySem.F.type_list_append mt_append (pv 8) (pa_cons (pe_cl C_law_word hr (by decide) pass0 rfl (pa_cons (pe_keep (k := 5) (T := TL) F_law_kept rfl rfl B_law_kept T.g_law_kept T.g_FoldError rfl TB rfl hmT hu (hr.mono (by decide)) (lamS_by (sc := defScope st_law) (by decide +kernel)) rfl (fun _ _ _ _ _ => rfl) (t := fun E => tCall S_is_right [] E (tCons (tVar 3) (tCons (tVar 7) tNil))) (fun A outer s H E f c' hr => by exact (pe_cl C_is_right hr (by decide) (fun a b c d e f => passes_call (takes_of rfl rfl rfl rfl) (fun _ _ _ _ h => h) a b c d e f) rfl (pa_cons (pv 3) (pa_cons (pv 7) pa_nil))))) pa_nil)) pa_nil)))
      (pss_one (ps_if (pt_cmpR (op_neU hr.units) (pv 8) (pe_lst (pa_cons (pe_lst (pa_cons pe_str pa_nil)) (pa_cons (pe_lst (pa_cons pe_str pa_nil)) (pa_cons (pe_lst (pa_cons pe_str pa_nil)) (pa_cons (pe_lst (pa_cons pe_str pa_nil)) pa_nil))))) (nomark _)) (pss_one (ps_ret pe_bl)) pss_nil)))))))))))))
      (pss_one (ps_ret pe_bl))), ?_⟩
  have e1 : 1 ≤ sizeLine := by decide
  refine ⟨e1, fun p1 hp1 => ⟨.ref a, rfl, 60, rfl, a, ns.map V.int, rfl, Evl.ex_l (Evl.Ex.new hp1) hS, fun p2 hp2 => .inr (.inl ⟨p1, p2, [.int 5], _, rfl, rfl, ?_, upd_same, ?_, fun p3 hp3 => ⟨p3, _, rfl, SqL.of upd_same, ?_⟩⟩)⟩⟩
  · rw [upd_ne (ne_of_none (o := .lst [.int 5]) upd_same hp2)]
    exact upd_same
  · have := cutV_length (ns.map V.int) none (some 60)
    rw [List.length_map] at this
    exact Evl.sz_of (show 1 + _ ≤ 100000 by omega)
  have itm : ∀ (i : Nat) y, (([.int 5] : List V) ++ cutV (ns.map V.int) none (some 60))[i]? = some y → i < 64 ∧ ∃ c : Int, y = .int c := fun i y hy => by
    have hl := (List.getElem?_eq_some_iff.mp hy).1
    have h2 := cutV_length (ns.map V.int) none (some 60)
    rw [List.length_map] at h2
    rw [List.length_append] at hl
    refine ⟨by have : ([.int 5] : List V).length = 1 := rfl; omega, ?_⟩
    have hm := List.mem_of_getElem? hy
    rcases List.mem_append.mp hm with hm | hm
    · exact ⟨5, List.mem_singleton.mp hm⟩
    · obtain ⟨c, _, e⟩ := List.mem_map.mp (List.mem_of_mem_drop (List.mem_of_mem_take hm))
      exact ⟨c, e.symm⟩
  generalize ([.int 5] : List V) ++ cutV (ns.map V.int) none (some 60) = xs at *
  have TS3 : Tabs TL (upd (upd (upd H p1 (.lst [.int 5])) p2 (.lst (cutV (ns.map V.int) none (some 60)))) p3 (.lst xs)) := TS.ext (((Evl.Ex.new hp1).trans (Evl.Ex.new hp2)).trans (Evl.Ex.new hp3))
  have L3 : (upd (upd (upd H p1 (.lst [.int 5])) p2 (.lst (cutV (ns.map V.int) none (some 60)))) p3 (.lst xs)) p3 = some (.lst xs) := upd_same
  generalize upd (upd (upd H p1 (.lst [.int 5])) p2 (.lst (cutV (ns.map V.int) none (some 60)))) p3 (.lst xs) = H3 at *
  refine for_it walk_enum (fun _ σ H' => σ.length = 9 ∧ ExtN H3 H' ∧ Tabs TL H') ⟨rfl, ExtN.refl _, TS3⟩ (fun i σ H' _ p => SqL.of (p.2.1 _ _ L3 fun _ z => by cases z)) (fun i v σ Ha Hb hi p y => ?_) fun σ H' p => q H'
  obtain ⟨hσ, ex, tb⟩ := p
  obtain ⟨T0, x, y, rfl, hT0, rfl, ex1, ey⟩ := y
  cases ex1
  obtain ⟨hi64, c, rfl⟩ := itm i y ey
  refine ⟨T0, _, rfl, SqT.of upd_same, rfl, _, _, rfl, _, _, rfl, rfl, ?_⟩
  have exb : ExtN Ha (upd Ha T0 (.tup [.int (i : Nat), .int c])) := ExtN.of (Evl.Ex.new hT0)
  have tbb := tb.ext (Evl.Ex.new (o := .tup [.int (i : Nat), .int c]) hT0)
  generalize upd Ha T0 (.tup [.int (i : Nat), .int c]) = Hc at *
  have S0 : DenS Hc ((σ.set 1 (some (.int (i : Nat)))).set 2 (some (.int c))) [none, some (dI (i : Nat)), some (dI c), none, none, none, none, none, none] := ((DenS.bare (n := 9) hσ).set (i := 1) (.raw _)).set (i := 2) (.raw _)
  show tSeq _ _ _ _ _
  refine hsk_go (δ := [none, some (dI (i : Nat)), some (dI c), none, none, none, none, none, none]) (N := fun δ => δ.length = 9) ?main S0 tbb ?nx
  case nx => exact fun σ' H' δ' e T' S' n => ⟨by rw [S'.len]; exact n, (ex.trans exb).trans e, T'⟩
  have k0 : (0 : Int) ≤ ((i : Nat) : Int) := by omega
  have k1 : ((i : Nat) : Int) ≤ 64 := by omega
  generalize ((i : Nat) : Int) = k at k0 k1 ⊢
  have hh := hours_in c k
  have hx := clockH_in c k
  have m0 := mixed_lo c (k + 30)
  have m1 := mixed_hi c (k + 30)
  refine hqk_asg (evk_of (ev_call (z := .tup [dI (hours c k), dI (clockH c k)]) (ea_cons (ev_var rfl) (ea_cons (ev_var rfl) ea_nil)) (spD_of (f := clockD) rfl ⟨c, k, rfl, by omega, by omega⟩))) ?_
  refine hqk_asg (evk_of (ev_call (z := dI (turn c (k + 20))) (ea_cons (ev_var rfl) (ea_cons (ev_op (ev_var rfl) ev_c od_addI) ea_nil)) (spD_of (f := ii turn) rfl ⟨c, k + 20, rfl, by omega, by omega⟩))) ?_
  refine hqk_asg (evk_of (ev_call (z := dI (mixed c (k + 30))) (ea_cons (ev_var rfl) (ea_cons (ev_op (ev_var rfl) ev_c od_addI) ea_nil)) (spD_of (f := ii mixed) rfl ⟨c, k + 30, rfl, by omega, by omega⟩))) ?_
  show HsK TL _ [none, some (dI k), some (dI c), some (.tup [dI (hours c k), dI (clockH c k)]), some (dI (turn c (k + 20))), some (dI (mixed c (k + 30))), none, none, none] _ _
  generalize hours c k = h at *
  generalize clockH c k = x at *
  generalize turn c (k + 20) = t at *
  generalize mixed c (k + 30) = n at *
  refine hqk_when (b := false) (et_eq (et_or (a := false) (b := false) (et_eq (et_not (et_B (ev_call (z := dB true) (ea_cons (ev_var rfl) (ea_cons (ev_var rfl) ea_nil)) (spD_of (f := fun _ => dB true) rfl ⟨h, x, t, rfl, hh.1, hh.2, hx.1, hx.2⟩)))) rfl) fun _ =>
    et_eq (et_not (et_B (ev_call (z := dB true) (ea_cons (ev_var rfl) (ea_cons (ev_op (ev_op (ev_var rfl) ev_c (od_ixSeqT (z := dI x) (by decide) rfl)) (ev_op (ev_var rfl) (ev_op (ev_var rfl) ev_c (od_ixSeqT (z := dI h) (by decide) rfl)) (od_mulI (cmw 60 100 ⟨by omega, by omega⟩ ⟨by omega, by omega⟩))) od_addI) ea_nil)) (spD_of (f := fun _ => dB true) rfl ⟨h, x, x + n * h, rfl, hh.1, hh.2, hx.1, hx.2⟩)))) rfl) rfl) (fun e => nomatch e) (fun _ => ?_)
  have od := oddClock_is (h := h) (x := x) (n := n) (by omega) hh.1
  have ot := oddTurn_is (n := n / 18)
  have fd1 := flat_odd (h := h) (x := x) (n := n) (by omega)
  have fd2 := flat_oddT (n := n / 18)
  refine hsk_seq (N' := fun δ => δ = [none, some (dI k), some (dI c), some (.tup [dI h, dI x]), some (dI t), some (dI n), some (oddClock h x n), some (oddTurn (n / 18)), none]) (hsk_of (hs_un2 (x := oddClock h x n) (y := oddTurn (n / 18)) (ev_tup (ea_cons (ev_call (ea_cons (ev_var rfl) (ea_cons (ev_var rfl) ea_nil)) (spD_of rfl ⟨h, x, n, rfl, by omega⟩)) (ea_cons (ev_call (ea_cons (ev_op (ev_var rfl) ev_c (od_I (cdw 60 (by decide) (by decide)))) ea_nil) (spD_of rfl ⟨n / 18, rfl⟩)) ea_nil)) (by show 2 ≤ 100000; decide)) rfl)) fun δ e => ?_
  subst e
  generalize oddClock h x n = th at *
  generalize oddTurn (n / 18) = ou at *
  refine hqk_when (b := false) (et_eq (et_or (a := false) (b := false) (et_eq (et_test (ev_op (x := dB (isClock th)) (ev_call (ea_cons (ev_var rfl) ea_nil) (spD_of rfl ⟨th, rfl, od.1⟩)) ev_c od_notB)) (by rw [od.2]; rfl)) fun _ => et_eq (et_test (ev_op (x := dB (isClock ou)) (ev_call (ea_cons (ev_var rfl) ea_nil) (spD_of rfl ⟨ou, rfl, ot.1⟩)) ev_c od_notB)) (by rw [ot.2.1]; rfl)) rfl) (fun e => nomatch e) (fun _ => ?_)
  have ckB : ∀ (g : Dt → Dt → Dt) (y : Dt), ckTurn CB CT g [th, y] = .error CB := fun g y => by
    show (if isClock th = true then (if isNum y = true then (Except.ok (g th y) : Rs) else .error CT) else .error CB) = _
    rw [if_neg (by rw [od.2]; exact Bool.false_ne_true)]
  have ckT : ∀ (g : Dt → Dt → Dt), ckTurn CB CT g [.tup [dI h, dI x], ou] = .error CT := fun g => by
    show (if isClock (.tup [dI h, dI x]) = true then (if isNum ou = true then (Except.ok (g (.tup [dI h, dI x]) ou) : Rs) else .error CT) else .error CB) = _
    rw [if_pos (isClock_good hh.1 hh.2 hx.1 hx.2), if_neg (by rw [ot.2.2]; exact Bool.false_ne_true)]
  obtain ⟨⟨To, hTo⟩, _⟩ := id ot.1
  have lB : ∀ {δ : Sto} {g : Dt → Dt → Dt} {i j : Nat} {y : Dt} {Ty : String} (E : XK), δ[i]? = some (some th) → δ[j]? = some (some y) → tyD y = some Ty → EvX E (tCall (spX 2 pTurn (ckTurn CB CT g)) [] E (tCons (tVar i) (tCons (tVar j) tNil))) δ (.error CB) := fun {δ g i j y Ty} E a1 a2 a3 => by
    rw [← ckB g y]
    exact evx_call (ea_cons (ev_var a1) (ea_cons (ev_var a2) ea_nil)) rfl ⟨th, y, rfl, od.1, Ty, a3⟩
  have lT : ∀ {δ : Sto} {g : Dt → Dt → Dt} {i j : Nat} (E : XK), δ[i]? = some (some (.tup [dI h, dI x])) → δ[j]? = some (some ou) → EvX E (tCall (spX 2 pTurn (ckTurn CB CT g)) [] E (tCons (tVar i) (tCons (tVar j) tNil))) δ (.error CT) := fun {δ g i j} E a1 a2 => by
    rw [← ckT g]
    exact evx_call (ea_cons (ev_var a1) (ea_cons (ev_var a2) ea_nil)) rfl ⟨_, ou, rfl, okTh_clock h x, To, hTo⟩
  have wB : wordD K CB CT CN CM CW [.exc CB []] = .lst [dS "clock"] := congrArg Dt.lst T.wB
  have wT : wordD K CB CT CN CM CW [.exc CT []] = .lst [dS "turn"] := congrArg Dt.lst T.wT
  have kB : ∀ {δ : Sto} {tl : XK → TE} {E0 : XK}, (∀ E, EvX E (tl E) δ (.error CB)) → EvK TL (tCall (spWord K CB CT CN CM CW CV CX) [] E0 (tCons (tLam TL (TTkept K CF) tl) tNil)) δ (.lst [dS "clock"]) := fun h0 => by
    rw [← wB]
    exact evk_call1 (evk_kept h0 T.m_BadClock) (spD_of rfl ⟨CB, rfl, T.w_BadClock⟩)
  have kT : ∀ {δ : Sto} {tl : XK → TE} {E0 : XK}, (∀ E, EvX E (tl E) δ (.error CT)) → EvK TL (tCall (spWord K CB CT CN CM CW CV CX) [] E0 (tCons (tLam TL (TTkept K CF) tl) tNil)) δ (.lst [dS "turn"]) := fun h0 => by
    rw [← wT]
    exact evk_call1 (evk_kept h0 T.m_BadTurn) (spD_of rfl ⟨CT, rfl, T.w_BadTurn⟩)
  have flats : ∀ (j : Nat) d, ([none, some (dI k), some (dI c), some (.tup [dI h, dI x]), some (dI t), some (dI n), some th, some ou, none] : Sto)[j]? = some (some d) → flatD d = true := fun j d hj => by
    match j, hj with
    | 0, hj => cases hj
    | 1, hj => cases hj; rfl
    | 2, hj => cases hj; rfl
    | 3, hj => cases hj; rfl
    | 4, hj => cases hj; rfl
    | 5, hj => cases hj; rfl
    | 6, hj => cases hj; exact fd1
    | 7, hj => cases hj; exact fd2
    | 8, hj => cases hj
    | j + 9, hj => cases hj
  refine hsb_start (i := 8) (by show 8 < 9; decide) (kB fun E => lB E rfl rfl hTo) ?_
  show HsB TL 8 _ [none, some (dI k), some (dI c), some (.tup [dI h, dI x]), some (dI t), some (dI n), some th, some ou, none] _ _ _
  refine hsb_app (l1 := []) rfl rfl flats rfl (by decide) (kB fun E => lB E rfl rfl rfl) ?_
  refine hsb_app (l1 := [.lst [dS "clock"]]) rfl rfl flats rfl (by decide) (kT fun E => lT E rfl rfl) ?_
  refine hsb_app (l1 := [.lst [dS "clock"], .lst [dS "turn"]]) rfl rfl flats rfl (by decide) (kT fun E => lT E rfl rfl) ?_
  refine hsb_end (by show 8 < 9; decide) ?_
  refine hsk_when (b := false) (et_eq (et_test (ev_op (ev_var rfl) (ev_lst (ds := [.lst [dS "clock"], .lst [dS "clock"], .lst [dS "turn"], .lst [dS "turn"]]) (by walk_at "ea") (by show 4 ≤ 100000; decide)) (od_neUD rfl rfl (by decide +kernel) (by decide +kernel)))) (by decide +kernel)) (fun e => nomatch e) (fun _ => rfl)
end
end Dn
namespace Dn
open PySem PySem.Spec PyProof.Rows L2 LamX
theorem all_mk {l : PySem.W.OpenLaw} {w : World} {K : PySem.W.Frag} {h : Heap} {mg : Str → Option Value} {fa cL PL CF CB CT CN CM CW CV CX : Addr} {tM : Tok}
    {f_is_number : Addr} {od_is_number an_is_number : Option Addr} {sl_is_number : Array (Option Value)} {oc_is_number kV_is_number dc_is_number pm_is_number cd_is_number ct_is_number : Value}
    {f_is_clock : Addr} {od_is_clock an_is_clock : Option Addr} {sl_is_clock : Array (Option Value)} {oc_is_clock kV_is_clock dc_is_clock pm_is_clock cd_is_clock ct_is_clock : Value}
    {f_need_clock : Addr} {od_need_clock an_need_clock : Option Addr} {sl_need_clock : Array (Option Value)} {oc_need_clock kV_need_clock dc_need_clock pm_need_clock cd_need_clock ct_need_clock : Value}
    {f_need_turn : Addr} {od_need_turn an_need_turn : Option Addr} {sl_need_turn : Array (Option Value)} {oc_need_turn kV_need_turn dc_need_turn pm_need_turn cd_need_turn ct_need_turn : Value}
    {f_hour_at : Addr} {od_hour_at an_hour_at : Option Addr} {sl_hour_at : Array (Option Value)} {oc_hour_at kV_hour_at dc_hour_at pm_hour_at cd_hour_at ct_hour_at : Value}
    {f_shows : Addr} {od_shows an_shows : Option Addr} {sl_shows : Array (Option Value)} {oc_shows kV_shows dc_shows pm_shows cd_shows ct_shows : Value}
    {f_is_right : Addr} {od_is_right an_is_right : Option Addr} {sl_is_right : Array (Option Value)} {oc_is_right kV_is_right dc_is_right pm_is_right cd_is_right ct_is_right : Value}
    {f_law_mixed : Addr} {od_law_mixed an_law_mixed : Option Addr} {sl_law_mixed : Array (Option Value)} {oc_law_mixed kV_law_mixed dc_law_mixed pm_law_mixed cd_law_mixed ct_law_mixed : Value}
    {f_law_whole : Addr} {od_law_whole an_law_whole : Option Addr} {sl_law_whole : Array (Option Value)} {oc_law_whole kV_law_whole dc_law_whole pm_law_whole cd_law_whole ct_law_whole : Value}
    {f_law_wide : Addr} {od_law_wide an_law_wide : Option Addr} {sl_law_wide : Array (Option Value)} {oc_law_wide kV_law_wide dc_law_wide pm_law_wide cd_law_wide ct_law_wide : Value}
    {f_law_hours : Addr} {od_law_hours an_law_hours : Option Addr} {sl_law_hours : Array (Option Value)} {oc_law_hours kV_law_hours dc_law_hours pm_law_hours cd_law_hours ct_law_hours : Value}
    {f_law_turn : Addr} {od_law_turn an_law_turn : Option Addr} {sl_law_turn : Array (Option Value)} {oc_law_turn kV_law_turn dc_law_turn pm_law_turn cd_law_turn ct_law_turn : Value}
    {f_law_clock : Addr} {od_law_clock an_law_clock : Option Addr} {sl_law_clock : Array (Option Value)} {oc_law_clock kV_law_clock dc_law_clock pm_law_clock cd_law_clock ct_law_clock : Value}
    {f_law_kept : Addr} {od_law_kept an_law_kept : Option Addr} {sl_law_kept : Array (Option Value)} {oc_law_kept kV_law_kept dc_law_kept pm_law_kept cd_law_kept ct_law_kept : Value}
    {f_law_word : Addr} {od_law_word an_law_word : Option Addr} {sl_law_word : Array (Option Value)} {oc_law_word kV_law_word dc_law_word pm_law_word cd_law_word ct_law_word : Value}
    {f_law_odd_clock : Addr} {od_law_odd_clock an_law_odd_clock : Option Addr} {sl_law_odd_clock : Array (Option Value)} {oc_law_odd_clock kV_law_odd_clock dc_law_odd_clock pm_law_odd_clock cd_law_odd_clock ct_law_odd_clock : Value}
    {f_law_odd_turn : Addr} {od_law_odd_turn an_law_odd_turn : Option Addr} {sl_law_odd_turn : Array (Option Value)} {oc_law_odd_turn kV_law_odd_turn dc_law_odd_turn pm_law_odd_turn cd_law_odd_turn ct_law_odd_turn : Value}
    {f_law_good : Addr} {od_law_good an_law_good : Option Addr} {sl_law_good : Array (Option Value)} {oc_law_good kV_law_good dc_law_good pm_law_good cd_law_good ct_law_good : Value}
    {f_law : Addr} {od_law an_law : Option Addr} {sl_law : Array (Option Value)} {oc_law kV_law dc_law pm_law ct_law : Value}
    (X : K.In h) (G : h.Ns mainGlobals mg) (hfa : mg "law" = some (.ref fa)) (hT : ∀ P ∈ [PL], h.get? P = some (PySem.W.tabObj #[]))
    (aC_FoldError : PySem.W.nsIn K mainGlobals "FoldError" = some (some (.ref CF)))
    (aC_BadClock : PySem.W.nsIn K mainGlobals "BadClock" = some (some (.ref CB)))
    (aC_BadTurn : PySem.W.nsIn K mainGlobals "BadTurn" = some (some (.ref CT)))
    (aC_NoClock : PySem.W.nsIn K mainGlobals "NoClock" = some (some (.ref CN)))
    (aC_TooMany : PySem.W.nsIn K mainGlobals "TooMany" = some (some (.ref CM)))
    (aC_BadWall : PySem.W.nsIn K mainGlobals "BadWall" = some (some (.ref CW)))
    (aC_Never : PySem.W.nsIn K mainGlobals "Never" = some (some (.ref CV)))
    (aC_BadText : PySem.W.nsIn K mainGlobals "BadText" = some (some (.ref CX)))
    (xC_BadClock : PySem.W.excIn K CB [.type "ValueError", .type "Exception", .type "BaseException", .type "object"] "ValueError.__new__" = true)
    (kC_BadClock : PySem.W.keepIn K (.ref CB) = true)
    (sC_BadClock : PySem.W.subIn K (.ref CB) (.type "BaseException") = some true)
    (tC_BadClock : PySem.W.typeIn K (.ref CB) = some (.type "type"))
    (mC_BadClock : PySem.W.exmOne K (.ref CB) (.ref CF) = some true)
    (e1_BadClock : PySem.W.findIn K (.ref CB) "__getattribute__" = some (some (.builtin "BaseException.__getattribute__")))
    (e2_BadClock : PySem.W.findIn K (.ref CB) "__getattr__" = some none)
    (e4_BadClock : PySem.W.hasDictIn K CB = true)
    (e5_BadClock : PySem.W.findIn K (.ref CB) "__class__" = some (some (.builtin "object.__class__")))
    (e8_BadClock : PySem.W.mroIn K CB (.type "object") = some true)
    (q_BadClock_CB : PySem.W.kitOne K (.ref CB) (.ref CB) = some true)
    (q_BadClock_CT : PySem.W.kitOne K (.ref CB) (.ref CT) = some false)
    (q_BadClock_CN : PySem.W.kitOne K (.ref CB) (.ref CN) = some false)
    (q_BadClock_CM : PySem.W.kitOne K (.ref CB) (.ref CM) = some false)
    (q_BadClock_CW : PySem.W.kitOne K (.ref CB) (.ref CW) = some false)
    (q_BadClock_CV : PySem.W.kitOne K (.ref CB) (.ref CV) = some false)
    (q_BadClock_CX : PySem.W.kitOne K (.ref CB) (.ref CX) = some false)
    (q_BadClock_VE : PySem.W.kitOne K (.ref CB) (.type "ValueError") = some true)
    (xC_BadTurn : PySem.W.excIn K CT [.type "ValueError", .type "Exception", .type "BaseException", .type "object"] "ValueError.__new__" = true)
    (kC_BadTurn : PySem.W.keepIn K (.ref CT) = true)
    (sC_BadTurn : PySem.W.subIn K (.ref CT) (.type "BaseException") = some true)
    (tC_BadTurn : PySem.W.typeIn K (.ref CT) = some (.type "type"))
    (mC_BadTurn : PySem.W.exmOne K (.ref CT) (.ref CF) = some true)
    (e1_BadTurn : PySem.W.findIn K (.ref CT) "__getattribute__" = some (some (.builtin "BaseException.__getattribute__")))
    (e2_BadTurn : PySem.W.findIn K (.ref CT) "__getattr__" = some none)
    (e4_BadTurn : PySem.W.hasDictIn K CT = true)
    (e5_BadTurn : PySem.W.findIn K (.ref CT) "__class__" = some (some (.builtin "object.__class__")))
    (e8_BadTurn : PySem.W.mroIn K CT (.type "object") = some true)
    (q_BadTurn_CB : PySem.W.kitOne K (.ref CT) (.ref CB) = some false)
    (q_BadTurn_CT : PySem.W.kitOne K (.ref CT) (.ref CT) = some true)
    (q_BadTurn_CN : PySem.W.kitOne K (.ref CT) (.ref CN) = some false)
    (q_BadTurn_CM : PySem.W.kitOne K (.ref CT) (.ref CM) = some false)
    (q_BadTurn_CW : PySem.W.kitOne K (.ref CT) (.ref CW) = some false)
    (q_BadTurn_CV : PySem.W.kitOne K (.ref CT) (.ref CV) = some false)
    (q_BadTurn_CX : PySem.W.kitOne K (.ref CT) (.ref CX) = some false)
    (q_BadTurn_VE : PySem.W.kitOne K (.ref CT) (.type "ValueError") = some true)
    (e6 : PySem.W.specialIn K (.builtin "object.__class__") "__get__" = some (some (.builtin "getset_descriptor.__get__")))
    (e7 : PySem.W.takesIn K (.builtin "object.__class__") = some true)
    (aK_MOST_HOURS : PySem.W.nsIn K mainGlobals "MOST_HOURS" = some (some (.int 1000000000000000000000000000000 tM)))
    (z_type : PySem.W.nsIn K mainGlobals "type" = some none)
    (z_tuple : PySem.W.nsIn K mainGlobals "tuple" = some none)
    (z_int : PySem.W.nsIn K mainGlobals "int" = some none)
    (z_bool : PySem.W.nsIn K mainGlobals "bool" = some none)
    (z_len : PySem.W.nsIn K mainGlobals "len" = some none)
    (z_list : PySem.W.nsIn K mainGlobals "list" = some none)
    (z_isinstance : PySem.W.nsIn K mainGlobals "isinstance" = some none)
    (z_ValueError : PySem.W.nsIn K mainGlobals "ValueError" = some none)
    (z_enumerate : PySem.W.nsIn K mainGlobals "enumerate" = some none)
    (a_is_number : PySem.W.nsIn K mainGlobals "is_number" = some (some (.ref f_is_number)))
    (l_is_number : K.lookup f_is_number = some ⟨oc_is_number, od_is_number, .func (PySem.W.fnOf "is_number" "is_number" (defArgs st_is_number) (defBody st_is_number) (defScope st_is_number) .none kV_is_number dc_is_number pm_is_number an_is_number (cd_is_number) ct_is_number), sl_is_number⟩)
    (c_is_number : PySem.W.codeIn K (cd_is_number) "is_number" = true)
    (k_is_number : PySem.W.keepIn K (.ref f_is_number) = true)
    (a_is_clock : PySem.W.nsIn K mainGlobals "is_clock" = some (some (.ref f_is_clock)))
    (l_is_clock : K.lookup f_is_clock = some ⟨oc_is_clock, od_is_clock, .func (PySem.W.fnOf "is_clock" "is_clock" (defArgs st_is_clock) (defBody st_is_clock) (defScope st_is_clock) .none kV_is_clock dc_is_clock pm_is_clock an_is_clock (cd_is_clock) ct_is_clock), sl_is_clock⟩)
    (c_is_clock : PySem.W.codeIn K (cd_is_clock) "is_clock" = true)
    (k_is_clock : PySem.W.keepIn K (.ref f_is_clock) = true)
    (a_need_clock : PySem.W.nsIn K mainGlobals "need_clock" = some (some (.ref f_need_clock)))
    (l_need_clock : K.lookup f_need_clock = some ⟨oc_need_clock, od_need_clock, .func (PySem.W.fnOf "need_clock" "need_clock" (defArgs st_need_clock) (defBody st_need_clock) (defScope st_need_clock) .none kV_need_clock dc_need_clock pm_need_clock an_need_clock (cd_need_clock) ct_need_clock), sl_need_clock⟩)
    (c_need_clock : PySem.W.codeIn K (cd_need_clock) "need_clock" = true)
    (k_need_clock : PySem.W.keepIn K (.ref f_need_clock) = true)
    (a_need_turn : PySem.W.nsIn K mainGlobals "need_turn" = some (some (.ref f_need_turn)))
    (l_need_turn : K.lookup f_need_turn = some ⟨oc_need_turn, od_need_turn, .func (PySem.W.fnOf "need_turn" "need_turn" (defArgs st_need_turn) (defBody st_need_turn) (defScope st_need_turn) .none kV_need_turn dc_need_turn pm_need_turn an_need_turn (cd_need_turn) ct_need_turn), sl_need_turn⟩)
    (c_need_turn : PySem.W.codeIn K (cd_need_turn) "need_turn" = true)
    (k_need_turn : PySem.W.keepIn K (.ref f_need_turn) = true)
    (a_hour_at : PySem.W.nsIn K mainGlobals "hour_at" = some (some (.ref f_hour_at)))
    (l_hour_at : K.lookup f_hour_at = some ⟨oc_hour_at, od_hour_at, .func (PySem.W.fnOf "hour_at" "hour_at" (defArgs st_hour_at) (defBody st_hour_at) (defScope st_hour_at) .none kV_hour_at dc_hour_at pm_hour_at an_hour_at (cd_hour_at) ct_hour_at), sl_hour_at⟩)
    (c_hour_at : PySem.W.codeIn K (cd_hour_at) "hour_at" = true)
    (k_hour_at : PySem.W.keepIn K (.ref f_hour_at) = true)
    (a_shows : PySem.W.nsIn K mainGlobals "shows" = some (some (.ref f_shows)))
    (l_shows : K.lookup f_shows = some ⟨oc_shows, od_shows, .func (PySem.W.fnOf "shows" "shows" (defArgs st_shows) (defBody st_shows) (defScope st_shows) .none kV_shows dc_shows pm_shows an_shows (cd_shows) ct_shows), sl_shows⟩)
    (c_shows : PySem.W.codeIn K (cd_shows) "shows" = true)
    (k_shows : PySem.W.keepIn K (.ref f_shows) = true)
    (a_is_right : PySem.W.nsIn K mainGlobals "is_right" = some (some (.ref f_is_right)))
    (l_is_right : K.lookup f_is_right = some ⟨oc_is_right, od_is_right, .func (PySem.W.fnOf "is_right" "is_right" (defArgs st_is_right) (defBody st_is_right) (defScope st_is_right) .none kV_is_right dc_is_right pm_is_right an_is_right (cd_is_right) ct_is_right), sl_is_right⟩)
    (c_is_right : PySem.W.codeIn K (cd_is_right) "is_right" = true)
    (k_is_right : PySem.W.keepIn K (.ref f_is_right) = true)
    (a_law_mixed : PySem.W.nsIn K mainGlobals "_law_mixed" = some (some (.ref f_law_mixed)))
    (l_law_mixed : K.lookup f_law_mixed = some ⟨oc_law_mixed, od_law_mixed, .func (PySem.W.fnOf "_law_mixed" "_law_mixed" (defArgs st_law_mixed) (defBody st_law_mixed) (defScope st_law_mixed) .none kV_law_mixed dc_law_mixed pm_law_mixed an_law_mixed (cd_law_mixed) ct_law_mixed), sl_law_mixed⟩)
    (c_law_mixed : PySem.W.codeIn K (cd_law_mixed) "_law_mixed" = true)
    (k_law_mixed : PySem.W.keepIn K (.ref f_law_mixed) = true)
    (a_law_whole : PySem.W.nsIn K mainGlobals "_law_whole" = some (some (.ref f_law_whole)))
    (l_law_whole : K.lookup f_law_whole = some ⟨oc_law_whole, od_law_whole, .func (PySem.W.fnOf "_law_whole" "_law_whole" (defArgs st_law_whole) (defBody st_law_whole) (defScope st_law_whole) .none kV_law_whole dc_law_whole pm_law_whole an_law_whole (cd_law_whole) ct_law_whole), sl_law_whole⟩)
    (c_law_whole : PySem.W.codeIn K (cd_law_whole) "_law_whole" = true)
    (k_law_whole : PySem.W.keepIn K (.ref f_law_whole) = true)
    (a_law_wide : PySem.W.nsIn K mainGlobals "_law_wide" = some (some (.ref f_law_wide)))
    (l_law_wide : K.lookup f_law_wide = some ⟨oc_law_wide, od_law_wide, .func (PySem.W.fnOf "_law_wide" "_law_wide" (defArgs st_law_wide) (defBody st_law_wide) (defScope st_law_wide) .none kV_law_wide dc_law_wide pm_law_wide an_law_wide (cd_law_wide) ct_law_wide), sl_law_wide⟩)
    (c_law_wide : PySem.W.codeIn K (cd_law_wide) "_law_wide" = true)
    (k_law_wide : PySem.W.keepIn K (.ref f_law_wide) = true)
    (a_law_hours : PySem.W.nsIn K mainGlobals "_law_hours" = some (some (.ref f_law_hours)))
    (l_law_hours : K.lookup f_law_hours = some ⟨oc_law_hours, od_law_hours, .func (PySem.W.fnOf "_law_hours" "_law_hours" (defArgs st_law_hours) (defBody st_law_hours) (defScope st_law_hours) .none kV_law_hours dc_law_hours pm_law_hours an_law_hours (cd_law_hours) ct_law_hours), sl_law_hours⟩)
    (c_law_hours : PySem.W.codeIn K (cd_law_hours) "_law_hours" = true)
    (k_law_hours : PySem.W.keepIn K (.ref f_law_hours) = true)
    (a_law_turn : PySem.W.nsIn K mainGlobals "_law_turn" = some (some (.ref f_law_turn)))
    (l_law_turn : K.lookup f_law_turn = some ⟨oc_law_turn, od_law_turn, .func (PySem.W.fnOf "_law_turn" "_law_turn" (defArgs st_law_turn) (defBody st_law_turn) (defScope st_law_turn) .none kV_law_turn dc_law_turn pm_law_turn an_law_turn (cd_law_turn) ct_law_turn), sl_law_turn⟩)
    (c_law_turn : PySem.W.codeIn K (cd_law_turn) "_law_turn" = true)
    (k_law_turn : PySem.W.keepIn K (.ref f_law_turn) = true)
    (a_law_clock : PySem.W.nsIn K mainGlobals "_law_clock" = some (some (.ref f_law_clock)))
    (l_law_clock : K.lookup f_law_clock = some ⟨oc_law_clock, od_law_clock, .func (PySem.W.fnOf "_law_clock" "_law_clock" (defArgs st_law_clock) (defBody st_law_clock) (defScope st_law_clock) .none kV_law_clock dc_law_clock pm_law_clock an_law_clock (cd_law_clock) ct_law_clock), sl_law_clock⟩)
    (c_law_clock : PySem.W.codeIn K (cd_law_clock) "_law_clock" = true)
    (k_law_clock : PySem.W.keepIn K (.ref f_law_clock) = true)
    (a_law_kept : PySem.W.nsIn K mainGlobals "_law_kept" = some (some (.ref f_law_kept)))
    (l_law_kept : K.lookup f_law_kept = some ⟨oc_law_kept, od_law_kept, .func (PySem.W.fnOf "_law_kept" "_law_kept" (defArgs st_law_kept) (defBody st_law_kept) (defScope st_law_kept) .none kV_law_kept dc_law_kept pm_law_kept an_law_kept (cd_law_kept) ct_law_kept), sl_law_kept⟩)
    (c_law_kept : PySem.W.codeIn K (cd_law_kept) "_law_kept" = true)
    (k_law_kept : PySem.W.keepIn K (.ref f_law_kept) = true)
    (a_law_word : PySem.W.nsIn K mainGlobals "_law_word" = some (some (.ref f_law_word)))
    (l_law_word : K.lookup f_law_word = some ⟨oc_law_word, od_law_word, .func (PySem.W.fnOf "_law_word" "_law_word" (defArgs st_law_word) (defBody st_law_word) (defScope st_law_word) .none kV_law_word dc_law_word pm_law_word an_law_word (cd_law_word) ct_law_word), sl_law_word⟩)
    (c_law_word : PySem.W.codeIn K (cd_law_word) "_law_word" = true)
    (k_law_word : PySem.W.keepIn K (.ref f_law_word) = true)
    (a_law_odd_clock : PySem.W.nsIn K mainGlobals "_law_odd_clock" = some (some (.ref f_law_odd_clock)))
    (l_law_odd_clock : K.lookup f_law_odd_clock = some ⟨oc_law_odd_clock, od_law_odd_clock, .func (PySem.W.fnOf "_law_odd_clock" "_law_odd_clock" (defArgs st_law_odd_clock) (defBody st_law_odd_clock) (defScope st_law_odd_clock) .none kV_law_odd_clock dc_law_odd_clock pm_law_odd_clock an_law_odd_clock (cd_law_odd_clock) ct_law_odd_clock), sl_law_odd_clock⟩)
    (c_law_odd_clock : PySem.W.codeIn K (cd_law_odd_clock) "_law_odd_clock" = true)
    (k_law_odd_clock : PySem.W.keepIn K (.ref f_law_odd_clock) = true)
    (a_law_odd_turn : PySem.W.nsIn K mainGlobals "_law_odd_turn" = some (some (.ref f_law_odd_turn)))
    (l_law_odd_turn : K.lookup f_law_odd_turn = some ⟨oc_law_odd_turn, od_law_odd_turn, .func (PySem.W.fnOf "_law_odd_turn" "_law_odd_turn" (defArgs st_law_odd_turn) (defBody st_law_odd_turn) (defScope st_law_odd_turn) .none kV_law_odd_turn dc_law_odd_turn pm_law_odd_turn an_law_odd_turn (cd_law_odd_turn) ct_law_odd_turn), sl_law_odd_turn⟩)
    (c_law_odd_turn : PySem.W.codeIn K (cd_law_odd_turn) "_law_odd_turn" = true)
    (k_law_odd_turn : PySem.W.keepIn K (.ref f_law_odd_turn) = true)
    (a_law_good : PySem.W.nsIn K mainGlobals "_law_good" = some (some (.ref f_law_good)))
    (l_law_good : K.lookup f_law_good = some ⟨oc_law_good, od_law_good, .func (PySem.W.fnOf "_law_good" "_law_good" (defArgs st_law_good) (defBody st_law_good) (defScope st_law_good) .none kV_law_good dc_law_good pm_law_good an_law_good (cd_law_good) ct_law_good), sl_law_good⟩)
    (c_law_good : PySem.W.codeIn K (cd_law_good) "_law_good" = true)
    (k_law_good : PySem.W.keepIn K (.ref f_law_good) = true)
    (a_law : PySem.W.nsIn K mainGlobals "law" = some (some (.ref f_law)))
    (l_law : K.lookup f_law = some ⟨oc_law, od_law, .func (PySem.W.fnOf "law" "law" (defArgs st_law) (defBody st_law) (defScope st_law) .none kV_law dc_law pm_law an_law (.ref cL) ct_law), sl_law⟩)
    (c_law : PySem.W.codeIn K (.ref cL) "law" = true)
    (k_law : PySem.W.keepIn K (.ref f_law) = true)
    (hcd : PySem.W.codeHdIn K cL PL = true)
    (hnl : K.lookup PL = none)
    : LawAtS l w K L2.CX0 8 63 "_law_script" mg fa h := by
  have e := hfa.symm.trans (PySem.W.mg_of X G a_law)
  cases e
  have E_BadClock : ExcC K CB := excC_mk e1_BadClock e2_BadClock sC_BadClock e4_BadClock e5_BadClock e6 e7 e8_BadClock
  have E_BadTurn : ExcC K CT := excC_mk e1_BadTurn e2_BadTurn sC_BadTurn e4_BadTurn e5_BadTurn e6 e7 e8_BadTurn
  have T : TxtL K mg CF CB CT CN CM CW CV CX tM f_law_kept := { b_type := PySem.W.mg_none_of X G z_type, b_tuple := PySem.W.mg_none_of X G z_tuple, b_int := PySem.W.mg_none_of X G z_int, b_bool := PySem.W.mg_none_of X G z_bool, b_len := PySem.W.mg_none_of X G z_len, b_list := PySem.W.mg_none_of X G z_list, b_isinstance := PySem.W.mg_none_of X G z_isinstance, b_ValueError := PySem.W.mg_none_of X G z_ValueError, b_enumerate := PySem.W.mg_none_of X G z_enumerate, g_MOST_HOURS := PySem.W.mg_of X G aK_MOST_HOURS, g_FoldError := PySem.W.mg_of X G aC_FoldError, g_BadClock := PySem.W.mg_of X G aC_BadClock, g_BadTurn := PySem.W.mg_of X G aC_BadTurn, g_NoClock := PySem.W.mg_of X G aC_NoClock, g_TooMany := PySem.W.mg_of X G aC_TooMany, g_BadWall := PySem.W.mg_of X G aC_BadWall, g_Never := PySem.W.mg_of X G aC_Never, g_BadText := PySem.W.mg_of X G aC_BadText, x_BadClock := xC_BadClock, k_BadClock := kC_BadClock, s_BadClock := sC_BadClock, t_BadClock := tC_BadClock, m_BadClock := mC_BadClock, w_BadClock := wordOf_mk E_BadClock q_BadClock_CB q_BadClock_CT q_BadClock_CN q_BadClock_CM q_BadClock_CW q_BadClock_CV q_BadClock_CX q_BadClock_VE, x_BadTurn := xC_BadTurn, k_BadTurn := kC_BadTurn, s_BadTurn := sC_BadTurn, t_BadTurn := tC_BadTurn, m_BadTurn := mC_BadTurn, w_BadTurn := wordOf_mk E_BadTurn q_BadTurn_CB q_BadTurn_CT q_BadTurn_CN q_BadTurn_CM q_BadTurn_CW q_BadTurn_CV q_BadTurn_CX q_BadTurn_VE, wB := (words_mk q_BadClock_CB q_BadClock_CT q_BadClock_CN q_BadClock_CM q_BadClock_CW).trans rfl, wT := (words_mk q_BadTurn_CB q_BadTurn_CT q_BadTurn_CN q_BadTurn_CM q_BadTurn_CW).trans rfl, g_law_kept := PySem.W.mg_of X G a_law_kept }
  have F_is_number := fun_mk (st := st_is_number) l_is_number c_is_number k_is_number
  have B_is_number := F_is_number.binds (ps := ["thing"]) fun _ _ _ _ _ _ us hl => match us, hl with | [_], _ => rfl
  have F_is_clock := fun_mk (st := st_is_clock) l_is_clock c_is_clock k_is_clock
  have B_is_clock := F_is_clock.binds (ps := ["thing"]) fun _ _ _ _ _ _ us hl => match us, hl with | [_], _ => rfl
  have F_need_clock := fun_mk (st := st_need_clock) l_need_clock c_need_clock k_need_clock
  have B_need_clock := F_need_clock.binds (ps := ["thing"]) fun _ _ _ _ _ _ us hl => match us, hl with | [_], _ => rfl
  have F_need_turn := fun_mk (st := st_need_turn) l_need_turn c_need_turn k_need_turn
  have B_need_turn := F_need_turn.binds (ps := ["thing"]) fun _ _ _ _ _ _ us hl => match us, hl with | [_], _ => rfl
  have F_hour_at := fun_mk (st := st_hour_at) l_hour_at c_hour_at k_hour_at
  have B_hour_at := F_hour_at.binds (ps := ["clock", "turn"]) fun _ _ _ _ _ _ us hl => match us, hl with | [_, _], _ => rfl
  have F_shows := fun_mk (st := st_shows) l_shows c_shows k_shows
  have B_shows := F_shows.binds (ps := ["clock", "turn"]) fun _ _ _ _ _ _ us hl => match us, hl with | [_, _], _ => rfl
  have F_is_right := fun_mk (st := st_is_right) l_is_right c_is_right k_is_right
  have B_is_right := F_is_right.binds (ps := ["clock", "turn"]) fun _ _ _ _ _ _ us hl => match us, hl with | [_, _], _ => rfl
  have F_law_mixed := fun_mk (st := st_law_mixed) l_law_mixed c_law_mixed k_law_mixed
  have B_law_mixed := F_law_mixed.binds (ps := ["_law_cell", "_law_k"]) fun _ _ _ _ _ _ us hl => match us, hl with | [_, _], _ => rfl
  have F_law_whole := fun_mk (st := st_law_whole) l_law_whole c_law_whole k_law_whole
  have B_law_whole := F_law_whole.binds (ps := ["_law_found"]) fun _ _ _ _ _ _ us hl => match us, hl with | [_], _ => rfl
  have F_law_wide := fun_mk (st := st_law_wide) l_law_wide c_law_wide k_law_wide
  have B_law_wide := F_law_wide.binds (ps := ["_law_cell", "_law_k"]) fun _ _ _ _ _ _ us hl => match us, hl with | [_, _], _ => rfl
  have F_law_hours := fun_mk (st := st_law_hours) l_law_hours c_law_hours k_law_hours
  have B_law_hours := F_law_hours.binds (ps := ["_law_cell", "_law_k"]) fun _ _ _ _ _ _ us hl => match us, hl with | [_, _], _ => rfl
  have F_law_turn := fun_mk (st := st_law_turn) l_law_turn c_law_turn k_law_turn
  have B_law_turn := F_law_turn.binds (ps := ["_law_cell", "_law_k"]) fun _ _ _ _ _ _ us hl => match us, hl with | [_, _], _ => rfl
  have F_law_clock := fun_mk (st := st_law_clock) l_law_clock c_law_clock k_law_clock
  have B_law_clock := F_law_clock.binds (ps := ["_law_cell", "_law_k"]) fun _ _ _ _ _ _ us hl => match us, hl with | [_, _], _ => rfl
  have F_law_kept := fun_mk (st := st_law_kept) l_law_kept c_law_kept k_law_kept
  have B_law_kept := F_law_kept.binds (ps := ["_law_deed"]) fun _ _ _ _ _ _ us hl => match us, hl with | [_], _ => rfl
  have F_law_word := fun_mk (st := st_law_word) l_law_word c_law_word k_law_word
  have B_law_word := F_law_word.binds (ps := ["_law_e"]) fun _ _ _ _ _ _ us hl => match us, hl with | [_], _ => rfl
  have F_law_odd_clock := fun_mk (st := st_law_odd_clock) l_law_odd_clock c_law_odd_clock k_law_odd_clock
  have B_law_odd_clock := F_law_odd_clock.binds (ps := ["_law_clock_here", "_law_number"]) fun _ _ _ _ _ _ us hl => match us, hl with | [_, _], _ => rfl
  have F_law_odd_turn := fun_mk (st := st_law_odd_turn) l_law_odd_turn c_law_odd_turn k_law_odd_turn
  have B_law_odd_turn := F_law_odd_turn.binds (ps := ["_law_number"]) fun _ _ _ _ _ _ us hl => match us, hl with | [_], _ => rfl
  have F_law_good := fun_mk (st := st_law_good) l_law_good c_law_good k_law_good
  have B_law_good := F_law_good.binds (ps := ["_law_clock_here", "_law_turn_here"]) fun _ _ _ _ _ _ us hl => match us, hl with | [_, _], _ => rfl
  have F_law := fun_mk (st := st_law) l_law c_law k_law
  have B_law := F_law.binds (ps := ["_law_script"]) fun _ _ _ _ _ _ us hl => match us, hl with | [_], _ => rfl
  refine ⟨PySem.W.fnOf "law" "law" (defArgs st_law) (defBody st_law) (defScope st_law) .none kV_law dc_law pm_law an_law (.ref cL) ct_law, [(cL, PL)], spLaw K [(PL, lamQ)], fun p hp => ?_, fun p hp => ?_, fun p hp => ?_, fun s u => ?_, fun H a ns hl hb hH hS => ?_, fun base hK hN TB => ?_⟩
  rotate_left 5
  have G_is_number := ok_is_number (P := l.prog) (w := w) (mg := mg) (base := base) F_is_number T.toTxt
  have C_is_number : Cl l.prog w K mg base (L2.CX0) 1 "is_number" _ := ⟨f_is_number, _, _, G_is_number, PySem.W.mg_of X G a_is_number, k_is_number, B_is_number⟩
  have G_hour_at := ok_hour_at (P := l.prog) (w := w) (mg := mg) (base := base) F_hour_at
  have C_hour_at : Cl l.prog w K mg base (L2.CX0) 1 "hour_at" _ := ⟨f_hour_at, _, _, G_hour_at, PySem.W.mg_of X G a_hour_at, k_hour_at, B_hour_at⟩
  have G_law_mixed := ok_law_mixed (P := l.prog) (w := w) (mg := mg) (base := base) F_law_mixed
  have C_law_mixed : Cl l.prog w K mg base (L2.CX0) 1 "_law_mixed" _ := ⟨f_law_mixed, _, _, G_law_mixed, PySem.W.mg_of X G a_law_mixed, k_law_mixed, B_law_mixed⟩
  have G_law_whole := ok_law_whole (P := l.prog) (w := w) (mg := mg) (base := base) F_law_whole T.toTxt
  have C_law_whole : Cl l.prog w K mg base (L2.CX0) 1 "_law_whole" _ := ⟨f_law_whole, _, _, G_law_whole, PySem.W.mg_of X G a_law_whole, k_law_whole, B_law_whole⟩
  have G_law_word := ok_law_word (P := l.prog) (w := w) (mg := mg) (base := base) F_law_word T.toTxt
  have C_law_word : Cl l.prog w K mg base (L2.CX0) 1 "_law_word" _ := ⟨f_law_word, _, _, G_law_word, PySem.W.mg_of X G a_law_word, k_law_word, B_law_word⟩
  have G_law_odd_clock := ok_law_odd_clock (P := l.prog) (w := w) (mg := mg) (base := base) F_law_odd_clock T.toTxt
  have C_law_odd_clock : Cl l.prog w K mg base (L2.CX0) 1 "_law_odd_clock" _ := ⟨f_law_odd_clock, _, _, G_law_odd_clock, PySem.W.mg_of X G a_law_odd_clock, k_law_odd_clock, B_law_odd_clock⟩
  have G_law_odd_turn := ok_law_odd_turn (P := l.prog) (w := w) (mg := mg) (base := base) F_law_odd_turn
  have C_law_odd_turn : Cl l.prog w K mg base (L2.CX0) 1 "_law_odd_turn" _ := ⟨f_law_odd_turn, _, _, G_law_odd_turn, PySem.W.mg_of X G a_law_odd_turn, k_law_odd_turn, B_law_odd_turn⟩
  have G_is_clock := ok_is_clock (P := l.prog) (w := w) (mg := mg) (base := base) F_is_clock T.toTxt C_is_number
  have C_is_clock : Cl l.prog w K mg base (L2.CX0) 2 "is_clock" _ := ⟨f_is_clock, _, _, G_is_clock, PySem.W.mg_of X G a_is_clock, k_is_clock, B_is_clock⟩
  have G_need_turn := ok_need_turn (P := l.prog) (w := w) (mg := mg) (base := base) F_need_turn T.toTxt C_is_number
  have C_need_turn : Cl l.prog w K mg base (L2.CX l.prog w) 2 "need_turn" _ := ⟨f_need_turn, _, _, G_need_turn, PySem.W.mg_of X G a_need_turn, k_need_turn, B_need_turn⟩
  have G_law_wide := ok_law_wide (P := l.prog) (w := w) (mg := mg) (base := base) F_law_wide C_law_mixed
  have C_law_wide : Cl l.prog w K mg base (L2.CX0) 2 "_law_wide" _ := ⟨f_law_wide, _, _, G_law_wide, PySem.W.mg_of X G a_law_wide, k_law_wide, B_law_wide⟩
  have G_need_clock := ok_need_clock (P := l.prog) (w := w) (mg := mg) (base := base) F_need_clock T.toTxt C_is_clock
  have C_need_clock : Cl l.prog w K mg base (L2.CX l.prog w) 3 "need_clock" _ := ⟨f_need_clock, _, _, G_need_clock, PySem.W.mg_of X G a_need_clock, k_need_clock, B_need_clock⟩
  have G_law_hours := ok_law_hours (P := l.prog) (w := w) (mg := mg) (base := base) F_law_hours C_law_mixed C_law_wide
  have C_law_hours : Cl l.prog w K mg base (L2.CX0) 3 "_law_hours" _ := ⟨f_law_hours, _, _, G_law_hours, PySem.W.mg_of X G a_law_hours, k_law_hours, B_law_hours⟩
  have G_law_turn := ok_law_turn (P := l.prog) (w := w) (mg := mg) (base := base) F_law_turn C_law_mixed C_law_wide
  have C_law_turn : Cl l.prog w K mg base (L2.CX0) 3 "_law_turn" _ := ⟨f_law_turn, _, _, G_law_turn, PySem.W.mg_of X G a_law_turn, k_law_turn, B_law_turn⟩
  have G_shows := ok_shows (P := l.prog) (w := w) (mg := mg) (base := base) F_shows C_need_clock C_need_turn C_hour_at
  have C_shows : Cl l.prog w K mg base (L2.CX l.prog w) 4 "shows" _ := ⟨f_shows, _, _, G_shows, PySem.W.mg_of X G a_shows, k_shows, B_shows⟩
  have G_law_clock := ok_law_clock (P := l.prog) (w := w) (mg := mg) (base := base) F_law_clock C_law_mixed C_law_wide C_law_hours
  have C_law_clock : Cl l.prog w K mg base (L2.CX0) 4 "_law_clock" _ := ⟨f_law_clock, _, _, G_law_clock, PySem.W.mg_of X G a_law_clock, k_law_clock, B_law_clock⟩
  have G_is_right := ok_is_right (P := l.prog) (w := w) (mg := mg) (base := base) F_is_right C_shows
  have C_is_right : Cl l.prog w K mg base (L2.CX l.prog w) 5 "is_right" _ := ⟨f_is_right, _, _, G_is_right, PySem.W.mg_of X G a_is_right, k_is_right, B_is_right⟩
  have G_law_good := ok_law_good (P := l.prog) (w := w) (mg := mg) (base := base) F_law_good T.toTxt C_is_clock C_law_whole C_shows C_is_right
  have C_law_good : Cl l.prog w K mg base (L2.CX0) 6 "_law_good" _ := ⟨f_law_good, _, _, G_law_good, PySem.W.mg_of X G a_law_good, k_law_good, B_law_good⟩
  exact ok_law (P := l.prog) (w := w) F_law rfl (TB (cL, PL) List.mem_cons_self) T F_law_kept B_law_kept C_is_clock C_shows C_is_right C_law_mixed C_law_turn C_law_clock C_law_good C_law_odd_clock C_law_odd_turn C_law_word
  · cases List.mem_singleton.mp hp
    exact hT PL List.mem_cons_self
  · cases List.mem_singleton.mp hp
    exact hnl
  · cases List.mem_singleton.mp hp
    exact PySem.W.codeHd_of_K X hcd
  · exact .of_eq rfl
  · refine ⟨a, ns, rfl, hS, hl, fun p hp => ?_, fun _ => rfl⟩
    cases List.mem_singleton.mp hp
    exact TabS.nil (hH (cL, PL) List.mem_cons_self)
end Dn
open PySem PySem.W PyProof.Rows
set_option maxRecDepth 100000 in
set_option maxHeartbeats 0 in
theorem PySem.Challenge.cw_restfold_k02_clocks_holds : PySem.Challenge.rw_restfold_k02_clocks.Holds := by
  w_on; o_law; k_head; (case hw => w_witness2)
  k_fill
  refine LamX.walk_ofTs (CX := fun _ => L2.CX0) (k := 8) (l := PySem.Challenge.rw_restfold_k02_clocks) (x := "_law_script") rfl (by decide) rfl ⟨rfl, by decide, by decide⟩ (fun w h Y => PySem.W.km_in_of Y) ?F (fun _ _ _ _ _ z => z)
  case F =>
    intro w mg fa h Y KX G hmg
    refine' Dn.all_mk KX G hmg (PySem.W.km_tabs_of Y) ?aC_FoldError ?aC_BadClock ?aC_BadTurn ?aC_NoClock ?aC_TooMany ?aC_BadWall ?aC_Never ?aC_BadText ?xC_BadClock ?kC_BadClock ?sC_BadClock ?tC_BadClock ?mC_BadClock ?e1_BadClock ?e2_BadClock ?e4_BadClock ?e5_BadClock ?e8_BadClock ?q_BadClock_CB ?q_BadClock_CT ?q_BadClock_CN ?q_BadClock_CM ?q_BadClock_CW ?q_BadClock_CV ?q_BadClock_CX ?q_BadClock_VE ?xC_BadTurn ?kC_BadTurn ?sC_BadTurn ?tC_BadTurn ?mC_BadTurn ?e1_BadTurn ?e2_BadTurn ?e4_BadTurn ?e5_BadTurn ?e8_BadTurn ?q_BadTurn_CB ?q_BadTurn_CT ?q_BadTurn_CN ?q_BadTurn_CM ?q_BadTurn_CW ?q_BadTurn_CV ?q_BadTurn_CX ?q_BadTurn_VE ?e6 ?e7 ?aK_MOST_HOURS ?z_type ?z_tuple ?z_int ?z_bool ?z_len ?z_list ?z_isinstance ?z_ValueError ?z_enumerate ?a_is_number ?l_is_number ?c_is_number ?k_is_number ?a_is_clock ?l_is_clock ?c_is_clock ?k_is_clock ?a_need_clock ?l_need_clock ?c_need_clock ?k_need_clock ?a_need_turn ?l_need_turn ?c_need_turn ?k_need_turn ?a_hour_at ?l_hour_at ?c_hour_at ?k_hour_at ?a_shows ?l_shows ?c_shows ?k_shows ?a_is_right ?l_is_right ?c_is_right ?k_is_right ?a_law_mixed ?l_law_mixed ?c_law_mixed ?k_law_mixed ?a_law_whole ?l_law_whole ?c_law_whole ?k_law_whole ?a_law_wide ?l_law_wide ?c_law_wide ?k_law_wide ?a_law_hours ?l_law_hours ?c_law_hours ?k_law_hours ?a_law_turn ?l_law_turn ?c_law_turn ?k_law_turn ?a_law_clock ?l_law_clock ?c_law_clock ?k_law_clock ?a_law_kept ?l_law_kept ?c_law_kept ?k_law_kept ?a_law_word ?l_law_word ?c_law_word ?k_law_word ?a_law_odd_clock ?l_law_odd_clock ?c_law_odd_clock ?k_law_odd_clock ?a_law_odd_turn ?l_law_odd_turn ?c_law_odd_turn ?k_law_odd_turn ?a_law_good ?l_law_good ?c_law_good ?k_law_good ?a_law ?l_law ?c_law ?k_law ?hcd ?hnl
    (case aC_FoldError => k_is)
    (case aC_BadClock => k_is)
    (case aC_BadTurn => k_is)
    (case aC_NoClock => k_is)
    (case aC_TooMany => k_is)
    (case aC_BadWall => k_is)
    (case aC_Never => k_is)
    (case aC_BadText => k_is)
    (case xC_BadClock => first | k_exc | k_is)
    (case kC_BadClock => k_is)
    (case sC_BadClock => k_is)
    (case tC_BadClock => k_is)
    (case mC_BadClock => first | k_is | rfl)
    (case e1_BadClock => k_is)
    (case e2_BadClock => k_is)
    (case e4_BadClock => k_is)
    (case e5_BadClock => k_is)
    (case e8_BadClock => k_is)
    (case q_BadClock_CB => first | k_is | rfl)
    (case q_BadClock_CT => first | k_is | rfl)
    (case q_BadClock_CN => first | k_is | rfl)
    (case q_BadClock_CM => first | k_is | rfl)
    (case q_BadClock_CW => first | k_is | rfl)
    (case q_BadClock_CV => first | k_is | rfl)
    (case q_BadClock_CX => first | k_is | rfl)
    (case q_BadClock_VE => first | k_is | rfl)
    (case xC_BadTurn => first | k_exc | k_is)
    (case kC_BadTurn => k_is)
    (case sC_BadTurn => k_is)
    (case tC_BadTurn => k_is)
    (case mC_BadTurn => first | k_is | rfl)
    (case e1_BadTurn => k_is)
    (case e2_BadTurn => k_is)
    (case e4_BadTurn => k_is)
    (case e5_BadTurn => k_is)
    (case e8_BadTurn => k_is)
    (case q_BadTurn_CB => first | k_is | rfl)
    (case q_BadTurn_CT => first | k_is | rfl)
    (case q_BadTurn_CN => first | k_is | rfl)
    (case q_BadTurn_CM => first | k_is | rfl)
    (case q_BadTurn_CW => first | k_is | rfl)
    (case q_BadTurn_CV => first | k_is | rfl)
    (case q_BadTurn_CX => first | k_is | rfl)
    (case q_BadTurn_VE => first | k_is | rfl)
    (case e6 => k_is)
    (case e7 => k_is)
    (case aK_MOST_HOURS => k_is)
    (case z_type => k_is)
    (case z_tuple => k_is)
    (case z_int => k_is)
    (case z_bool => k_is)
    (case z_len => k_is)
    (case z_list => k_is)
    (case z_isinstance => k_is)
    (case z_ValueError => k_is)
    (case z_enumerate => k_is)
    (case a_is_number => k_is)
    (case l_is_number => k_is)
    (case c_is_number => k_is)
    (case k_is_number => k_is)
    (case a_is_clock => k_is)
    (case l_is_clock => k_is)
    (case c_is_clock => k_is)
    (case k_is_clock => k_is)
    (case a_need_clock => k_is)
    (case l_need_clock => k_is)
    (case c_need_clock => k_is)
    (case k_need_clock => k_is)
    (case a_need_turn => k_is)
    (case l_need_turn => k_is)
    (case c_need_turn => k_is)
    (case k_need_turn => k_is)
    (case a_hour_at => k_is)
    (case l_hour_at => k_is)
    (case c_hour_at => k_is)
    (case k_hour_at => k_is)
    (case a_shows => k_is)
    (case l_shows => k_is)
    (case c_shows => k_is)
    (case k_shows => k_is)
    (case a_is_right => k_is)
    (case l_is_right => k_is)
    (case c_is_right => k_is)
    (case k_is_right => k_is)
    (case a_law_mixed => k_is)
    (case l_law_mixed => k_is)
    (case c_law_mixed => k_is)
    (case k_law_mixed => k_is)
    (case a_law_whole => k_is)
    (case l_law_whole => k_is)
    (case c_law_whole => k_is)
    (case k_law_whole => k_is)
    (case a_law_wide => k_is)
    (case l_law_wide => k_is)
    (case c_law_wide => k_is)
    (case k_law_wide => k_is)
    (case a_law_hours => k_is)
    (case l_law_hours => k_is)
    (case c_law_hours => k_is)
    (case k_law_hours => k_is)
    (case a_law_turn => k_is)
    (case l_law_turn => k_is)
    (case c_law_turn => k_is)
    (case k_law_turn => k_is)
    (case a_law_clock => k_is)
    (case l_law_clock => k_is)
    (case c_law_clock => k_is)
    (case k_law_clock => k_is)
    (case a_law_kept => k_is)
    (case l_law_kept => k_is)
    (case c_law_kept => k_is)
    (case k_law_kept => k_is)
    (case a_law_word => k_is)
    (case l_law_word => k_is)
    (case c_law_word => k_is)
    (case k_law_word => k_is)
    (case a_law_odd_clock => k_is)
    (case l_law_odd_clock => k_is)
    (case c_law_odd_clock => k_is)
    (case k_law_odd_clock => k_is)
    (case a_law_odd_turn => k_is)
    (case l_law_odd_turn => k_is)
    (case c_law_odd_turn => k_is)
    (case k_law_odd_turn => k_is)
    (case a_law_good => k_is)
    (case l_law_good => k_is)
    (case c_law_good => k_is)
    (case k_law_good => k_is)
    (case a_law => k_is)
    (case l_law => k_is)
    (case c_law => k_is)
    (case k_law => k_is)
    (case hcd => with_unfolding_all rfl)
    (case hnl => with_unfolding_all rfl)
#print axioms PySem.Challenge.cw_restfold_k02_clocks_holds
