import PyProof.Rows.All
import Wide.All
import OpenK.AllK
import Wide.FinOn
import HandS.ForMost
import HandS.ForExc
import HandS.Evl
import HandS.Wide
import HandS.IsInst
import HandS.Style
import HandS.TupAny
import HandS.Lambda
import HandS.EndOwn
import HandS.ExcIs
import HandS.More
import HandS.Gcd
import HandS.CallLocal
import HandS.ListItems
import HandS.SortRule
import HandS.SortInts
import HandS.DictComp
import HandS.Zip
import HandS.Small
import HandS.RaiseMore
import HandS.FStr
import HandS.Walk
import HandS.ExcInit
import HandS.Nested
import KE.KExcSuper
import HandS.ExcField
import KE.KDictList
import HandS.IterVal
import HandS.StrMore
import PySem.Challenge.RW_restfold_k01_whole_all_of_a_wall_meet
set_option Elab.async false
set_option linter.all false
set_option maxRecDepth 100000
set_option maxHeartbeats 8000000
/-! Own layer: data as plain terms. A store of data, what an expression gives over it, what a block leaves, without the heap. -/
namespace Dn
open PySem PySem.Spec PyProof.Rows L2

/-- an exception's object, behind its flight -/
def ExV (cls : Value) (d : Option Addr) (a : Addr) : HO := .ext fun h => ∃ (oe : Obj) (vs : Array Value), h.get? a = some oe ∧ Zc cls d oe ∧ oe.data = .fields vs

/-- data -/
inductive Dt where
  | raw (v : V)
  | lst (l : List Dt)
  | tup (l : List Dt)
  | dct (l : List (Key × Dt))
  | exc (C : Addr) (fs : List (Str × V))
  | scr (K : PySem.W.Frag) (ns : List Int)
abbrev dI (i : Int) : Dt := .raw (.int i)
abbrev dB (b : Bool) : Dt := .raw (.bl b)
abbrev dS (s : Str) : Dt := .raw (.str s)
abbrev dN : Dt := .raw .non

/-- a heap, and the addresses of what may be changed: data never stand there -/
structure Hv where
  H : Hp
  A : Addr → Prop
  f : ∀ a, A a → H a ≠ none
namespace Hv
open Classical in
/-- what never changes of it -/
noncomputable def G (V : Hv) : Hp := fun a => if V.A a then none else V.H a
theorem sub {V : Hv} {a : Addr} {o : HO} (h : V.G a = some o) : V.H a = some o := by
  unfold G at h
  split at h
  · cases h
  · exact h
theorem off {V : Hv} {a : Addr} {o : HO} (h : V.G a = some o) : ¬ V.A a := fun z => by
  unfold G at h
  rw [if_pos z] at h
  cases h
theorem gOf {V : Hv} {a : Addr} {o : HO} (h : V.H a = some o) (n : ¬ V.A a) : V.G a = some o := by
  unfold G
  rw [if_neg n]
  exact h
/-- a heap that holds all of this one -/
def upTo (V : Hv) (H' : Hp) (e : Evl.Ex V.H H') : Hv := ⟨H', V.A, fun a h => by
  cases q : V.H a with
  | none => exact absurd q (V.f a h)
  | some o => rw [e a o q]; exact fun z => nomatch z⟩
/-- one new thing -/
def nw (V : Hv) (p : Addr) (o : HO) (hp : V.H p = none) : Hv := V.upTo (upd V.H p o) (Evl.Ex.new hp)
theorem nw_at {V : Hv} {p : Addr} {o : HO} {hp : V.H p = none} : (V.nw p o hp).G p = some o := gOf upd_same fun z => V.f p z hp
end Hv
/-- nothing that stood is changed -/
structure Up (V W : Hv) : Prop where
  e : Evl.Ex V.H W.H
  a : W.A = V.A
theorem Up.refl (V : Hv) : Up V V := ⟨Evl.Ex.refl _, rfl⟩
theorem Up.trans {U V W : Hv} (h : Up U V) (k : Up V W) : Up U W := ⟨h.e.trans k.e, k.a.trans h.a⟩
theorem Up.new {V : Hv} {p : Addr} {o : HO} (hp : V.H p = none) : Up V (V.nw p o hp) := ⟨Evl.Ex.new hp, rfl⟩
theorem Up.g {V W : Hv} (h : Up V W) : Evl.Ex V.G W.G := fun a o q => Hv.gOf (h.e a o (Hv.sub q)) (by rw [h.a]; exact Hv.off q)
theorem Up.to {V : Hv} {H' : Hp} (e : Evl.Ex V.H H') : Up V (V.upTo H' e) := ⟨e, rfl⟩

mutual
inductive Den (H : Hv) : V → Dt → Prop where
  | raw (v : V) : Den H v (.raw v)
  | lst {a : Addr} {xs : List V} {ds : List Dt} (h : H.G a = some (.lst xs)) (l : DenL H xs ds) : Den H (.ref a) (.lst ds)
  | tup {a : Addr} {xs : List V} {ds : List Dt} (h : H.G a = some (.tup xs)) (l : DenL H xs ds) : Den H (.ref a) (.tup ds)
  | dct {a : Addr} {kvs : List (Key × V)} {ds : List (Key × Dt)} (h : H.G a = some (.dK kvs)) (l : DenK H kvs ds) : Den H (.ref a) (.dct ds)
  | exc0 {a C : Addr} (h : H.G a = some (ExV (.ref C) none a)) : Den H (.ref a) (.exc C [])
  | excD {a C d : Addr} {fs : List (Str × V)} (h : H.G a = some (ExV (.ref C) (some d) a)) (hd : H.G d = some (.xd fs)) (hf : fs ≠ []) : Den H (.ref a) (.exc C fs)
  | scr {a : Addr} {K : PySem.W.Frag} {ns : List Int} (h : SqL K H.G a (ns.map V.int)) : Den H (.ref a) (.scr K ns)
inductive DenL (H : Hv) : List V → List Dt → Prop where
  | nil : DenL H [] []
  | cons {v : V} {vs : List V} {d : Dt} {ds : List Dt} (h : Den H v d) (t : DenL H vs ds) : DenL H (v :: vs) (d :: ds)
inductive DenK (H : Hv) : List (Key × V) → List (Key × Dt) → Prop where
  | nil : DenK H [] []
  | cons {k : Key} {v : V} {vs : List (Key × V)} {d : Dt} {ds : List (Key × Dt)} (h : Den H v d) (t : DenK H vs ds) : DenK H ((k, v) :: vs) ((k, d) :: ds)
end

mutual
theorem Den.mono {H H' : Hv} (e : Up H H') {v : V} {d : Dt} : Den H v d → Den H' v d
  | .raw v => .raw v
  | .lst h l => .lst (e.g _ _ h) (l.mono e)
  | .tup h l => .tup (e.g _ _ h) (l.mono e)
  | .dct h l => .dct (e.g _ _ h) (l.mono e)
  | .exc0 h => .exc0 (e.g _ _ h)
  | .excD h hd hf => .excD (e.g _ _ h) (e.g _ _ hd) hf
  | .scr h => .scr (Evl.ex_l e.g h)
theorem DenL.mono {H H' : Hv} (e : Up H H') {vs : List V} {ds : List Dt} : DenL H vs ds → DenL H' vs ds
  | .nil => .nil
  | .cons h t => .cons (h.mono e) (t.mono e)
theorem DenK.mono {H H' : Hv} (e : Up H H') {vs : List (Key × V)} {ds : List (Key × Dt)} : DenK H vs ds → DenK H' vs ds
  | .nil => .nil
  | .cons h t => .cons (h.mono e) (t.mono e)
end

section
variable {H H' : Hv} {v : V} {d : Dt} {vs xs : List V} {ds : List Dt} {a : Addr}
theorem Den.rawI {w : V} (h : Den H v (.raw w)) : v = w := by cases h; rfl
theorem Den.lstI (h : Den H v (.lst ds)) : ∃ a xs, v = .ref a ∧ H.H a = some (.lst xs) ∧ DenL H xs ds := by
  cases h with | lst h l => exact ⟨_, _, rfl, Hv.sub h, l⟩
theorem Den.tupI (h : Den H v (.tup ds)) : ∃ a xs, v = .ref a ∧ H.H a = some (.tup xs) ∧ DenL H xs ds := by
  cases h with | tup h l => exact ⟨_, _, rfl, Hv.sub h, l⟩
theorem Den.dctI {ks : List (Key × Dt)} (h : Den H v (.dct ks)) : ∃ a kvs, v = .ref a ∧ H.H a = some (.dK kvs) ∧ DenK H kvs ks := by
  cases h with | dct h l => exact ⟨_, _, rfl, Hv.sub h, l⟩
theorem DenL.len (h : DenL H vs ds) : vs.length = ds.length := by
  induction vs generalizing ds with
  | nil => cases h; rfl
  | cons v vs ih => cases h with | cons h t => rw [List.length_cons, List.length_cons, ih t]
theorem DenL.nilI (h : DenL H vs []) : vs = [] := by cases h; rfl
theorem DenL.consI (h : DenL H vs (d :: ds)) : ∃ v r, vs = v :: r ∧ Den H v d ∧ DenL H r ds := by
  cases h with | cons h t => exact ⟨_, _, rfl, h, t⟩
theorem DenL.get (h : DenL H vs ds) : ∀ {i : Nat}, ds[i]? = some d → ∃ v, vs[i]? = some v ∧ Den H v d := by
  induction vs generalizing ds with
  | nil => cases h; intro i e; simp at e
  | cons w vs ih =>
    cases h with
    | cons h t =>
      intro i e
      cases i with
      | zero =>
        have e' : some _ = some d := e
        cases e'
        exact ⟨w, rfl, h⟩
      | succ i => exact ih t (i := i) (by simpa using e)
theorem DenL.getV (h : DenL H vs ds) : ∀ {i : Nat}, vs[i]? = some v → ∃ d, ds[i]? = some d ∧ Den H v d := by
  induction vs generalizing ds with
  | nil => cases h; intro i e; simp at e
  | cons w vs ih =>
    cases h with
    | cons h t =>
      intro i e
      cases i with
      | zero =>
        have e' : some w = some v := e
        cases e'
        exact ⟨_, rfl, h⟩
      | succ i => exact ih t (i := i) (by simpa using e)
theorem DenL.app {ws : List V} {es : List Dt} (h : DenL H vs ds) (g : DenL H ws es) : DenL H (vs ++ ws) (ds ++ es) := by
  induction vs generalizing ds with
  | nil => cases h; exact g
  | cons v vs ih => cases h with | cons h t => exact .cons h (ih t)
theorem DenL.take (h : DenL H vs ds) (n : Nat) : DenL H (vs.take n) (ds.take n) := by
  induction vs generalizing ds n with
  | nil => cases h; simpa using DenL.nil
  | cons v vs ih =>
    cases h with
    | cons h t =>
      cases n with
      | zero => simpa using DenL.nil
      | succ n => simpa using DenL.cons h (ih t n)
theorem DenL.drop (h : DenL H vs ds) (n : Nat) : DenL H (vs.drop n) (ds.drop n) := by
  induction vs generalizing ds n with
  | nil => cases h; simpa using DenL.nil
  | cons v vs ih =>
    cases n with
    | zero => simpa using h
    | succ n => cases h with | cons h t => simpa using ih t n
theorem DenL.ints {ns : List Int} (h : DenL H vs (ns.map dI)) : vs = ns.map V.int := by
  induction ns generalizing vs with
  | nil => exact h.nilI
  | cons n ns ih =>
    obtain ⟨v, r, rfl, h1, h2⟩ := h.consI
    rw [h1.rawI, ih h2] <;> rfl
theorem DenL.ofInts {ns : List Int} : DenL H (ns.map V.int) (ns.map dI) := by
  induction ns with
  | nil => exact .nil
  | cons n ns ih => exact .cons (.raw _) ih
theorem DenL.raws {ws : List V} : DenL H ws (ws.map .raw) := by
  induction ws with
  | nil => exact .nil
  | cons n ns ih => exact .cons (.raw _) ih
end

/-! ### stores of data -/
abbrev Sto := List (Option Dt)
structure DenS (H : Hv) (σ : L2.St) (δ : Sto) : Prop where
  len : σ.length = δ.length
  at_ : ∀ (i : Nat) (d : Dt), δ[i]? = some (some d) → ∃ v : V, σ[i]? = some (some v) ∧ Den H v d
theorem DenS.mono {H H' : Hv} {σ : L2.St} {δ : Sto} (e : Up H H') (S : DenS H σ δ) : DenS H' σ δ := ⟨S.len, fun i d h => by
  obtain ⟨v, h1, h2⟩ := S.at_ i d h
  exact ⟨v, h1, h2.mono e⟩⟩
theorem DenS.set {H : Hv} {σ : L2.St} {δ : Sto} {i : Nat} {v : V} {d : Dt} (S : DenS H σ δ) (h : Den H v d) : DenS H (σ.set i (some v)) (δ.set i (some d)) := by
  refine ⟨by rw [List.length_set, List.length_set, S.len], fun j e hj => ?_⟩
  by_cases hij : i = j
  · subst hij
    by_cases hl : i < δ.length
    · rw [List.getElem?_set_self hl] at hj
      cases hj
      exact ⟨v, by rw [List.getElem?_set_self (by rw [S.len]; exact hl)], h⟩
    · rw [List.getElem?_eq_none (by rw [List.length_set]; omega)] at hj
      cases hj
  · rw [List.getElem?_set_ne hij] at hj
    rw [List.getElem?_set_ne hij]
    exact S.at_ j e hj
theorem DenS.drop1 {H : Hv} {σ : L2.St} {δ : Sto} (i : Nat) (S : DenS H σ δ) : DenS H σ (δ.set i none) := by
  refine ⟨by rw [List.length_set, S.len], fun j e hj => ?_⟩
  by_cases hij : i = j
  · subst hij
    by_cases hl : i < δ.length
    · rw [List.getElem?_set_self hl] at hj
      cases hj
    · rw [List.getElem?_eq_none (by rw [List.length_set]; omega)] at hj
      cases hj
  · rw [List.getElem?_set_ne hij] at hj
    exact S.at_ j e hj
def startD (N : List Str) (ds : List Dt) : Sto := ds.map some ++ List.replicate (N.length - ds.length) none
theorem DenS.start {H : Hv} {N : List Str} {vs : List V} {ds : List Dt} (h : DenL H vs ds) : DenS H (L2.start N vs) (startD N ds) := by
  have hl := h.len
  refine ⟨?_, fun i d e => ?_⟩
  · unfold L2.start startD
    simp [hl]
  · unfold startD at e
    unfold L2.start
    by_cases hi : i < ds.length
    · rw [List.getElem?_append_left (by simpa using hi), List.getElem?_map] at e
      cases q : ds[i]? with
      | none => rw [q] at e; cases e
      | some d' =>
        rw [q] at e
        cases e
        obtain ⟨v, h1, h2⟩ := h.get q
        refine ⟨v, ?_, h2⟩
        rw [List.getElem?_append_left (by simp [hl]; exact hi), List.getElem?_map, h1]
        rfl
    · rw [List.getElem?_append_right (by simpa using hi)] at e
      rw [List.getElem?_replicate] at e
      split at e <;> cases e

/-! ### what an expression gives -/
def EvS (te : TE) (δ : Sto) (d : Dt) : Prop := ∀ (σ : L2.St) (H : Hv) (Q : VK), DenS H σ δ → (∀ v H', Up H H' → Den H' v d → Q v H'.H) → te σ H.H Q
def EtS (tt : TT) (δ : Sto) (b : Bool) : Prop := ∀ (σ : L2.St) (H : Hv) (Q : Bool → Hp → Prop), DenS H σ δ → (∀ H', Up H H' → Q b H'.H) → tt σ H.H Q
def EaS (ta : TA) (δ : Sto) (ds : List Dt) : Prop := ∀ (σ : L2.St) (H : Hv) (Q : List V → Hp → Prop), DenS H σ δ → (∀ vs H', Up H H' → DenL H' vs ds → Q vs H'.H) → ta σ H.H Q
def EoS (to : TO) (δ : Sto) (o : Option Int) : Prop := ∀ (σ : L2.St) (H : Hv) (Q : Option Int → Hp → Prop), DenS H σ δ → (∀ H', Up H H' → Q o H'.H) → to σ H.H Q
/-- operations on data -/
def OpD (r : R2) (x y z : Dt) : Prop := ∀ (v w : V) (H : Hv) (Q : VK), Den H v x → Den H w y → (∀ u H', Up H H' → Den H' u z → Q u H'.H) → r v w H.H Q
def UnD (r : V → Hp → VK → Prop) (x z : Dt) : Prop := ∀ (v : V) (H : Hv) (Q : VK), Den H v x → (∀ u H', Up H H' → Den H' u z → Q u H'.H) → r v H.H Q
def CaD (r : List V → Hp → VK → Prop) (ds : List Dt) (z : Dt) : Prop := ∀ (vs : List V) (H : Hv) (Q : VK), DenL H vs ds → (∀ u H', Up H H' → Den H' u z → Q u H'.H) → r vs H.H Q
def SpD (sp : Sp) (ds : List Dt) (z : Dt) : Prop := ∀ (vs : List V) (H : Hv) (Q : VK) (E : XK), DenL H vs ds → (∀ u H', Up H H' → Den H' u z → Q u H'.H) → sp vs H.H Q E

section
variable {K : PySem.W.Frag} {δ : Sto} {ta tb tc te : TE} {t u : TT} {x y z d e : Dt} {r r' : R2} {ds : List Dt}
theorem ev_var {i : Nat} (h : δ[i]? = some (some d)) : EvS (tVar i) δ d := fun σ H Q S q => by
  obtain ⟨v, h1, h2⟩ := S.at_ i d h
  exact ⟨v, h1, q v H (Up.refl H) h2⟩
theorem ev_c {v : V} : EvS (tC v) δ (.raw v) := fun σ H Q S q => q v H (Up.refl H) (.raw v)
theorem ev_op (ha : EvS ta δ x) (hb : EvS tb δ y) (hr : OpD r x y z) : EvS (tOp r ta tb) δ z := fun σ H Q S q =>
  ha σ H _ S fun v H1 e1 d1 => hb σ H1 _ (S.mono e1) fun w H2 e2 d2 => hr v w H2 Q (d1.mono e2) d2 fun u H3 e3 d3 => q u H3 ((e1.trans e2).trans e3) d3
theorem ev_un {r : V → Hp → VK → Prop} (ha : EvS ta δ x) (hr : UnD r x z) : EvS (tUn r ta) δ z := fun σ H Q S q =>
  ha σ H _ S fun v H1 e1 d1 => hr v H1 Q d1 fun u H2 e2 d2 => q u H2 (e1.trans e2) d2
theorem ev_eq (h : EvS te δ d) (e' : d = e) : EvS te δ e := e' ▸ h
theorem et_eq {b c : Bool} (h : EtS t δ b) (e' : b = c) : EtS t δ c := e' ▸ h
theorem ea_nil : EaS tNil δ [] := fun σ H Q S q => q [] H (Up.refl H) .nil
theorem ea_cons {tr : TA} (h : EvS ta δ d) (hr : EaS tr δ ds) : EaS (tCons ta tr) δ (d :: ds) := fun σ H Q S q =>
  h σ H _ S fun v H1 e1 d1 => hr σ H1 _ (S.mono e1) fun vs H2 e2 d2 => q (v :: vs) H2 (e1.trans e2) (.cons (d1.mono e2) d2)
theorem ev_tup {ta : TA} (h : EaS ta δ ds) (hl : ds.length ≤ 100000) : EvS (tTup ta) δ (.tup ds) := fun σ H Q S q =>
  h σ H _ S fun vs H1 e1 d1 => ⟨by rw [d1.len]; exact Evl.sz_of hl, fun p hp => q _ (H1.nw p _ hp) (e1.trans (Up.new hp)) (.tup Hv.nw_at (d1.mono (Up.new hp)))⟩
theorem ev_lst {ta : TA} (h : EaS ta δ ds) (hl : ds.length ≤ 100000) : EvS (tLst ta) δ (.lst ds) := fun σ H Q S q =>
  h σ H _ S fun vs H1 e1 d1 => ⟨by rw [d1.len]; exact Evl.sz_of hl, fun p hp => q _ (H1.nw p _ hp) (e1.trans (Up.new hp)) (.lst Hv.nw_at (d1.mono (Up.new hp)))⟩
theorem eo_none : EoS tNoPart δ none := fun σ H Q S q => q H (Up.refl H)
theorem eo_some {i : Int} (h : EvS te δ (dI i)) : EoS (tPart te) δ (some i) := fun σ H Q S q =>
  h σ H _ S fun v H1 e1 d1 => ⟨i, d1.rawI, q H1 e1⟩
theorem ev_cb {r : List V → Hp → VK → Prop} {ta : TA} (h : EaS ta δ ds) (hr : CaD r ds z) : EvS (tCB r ta) δ z := fun σ H Q S q =>
  h σ H _ S fun vs H1 e1 d1 => hr vs H1 Q d1 fun u H2 e2 d2 => q u H2 (e1.trans e2) d2
theorem ev_call {sp : Sp} {E : XK} {ta : TA} (h : EaS ta δ ds) (hs : SpD sp ds z) : EvS (tCall sp [] E ta) δ z := fun σ H Q S q =>
  h σ H _ S fun vs H1 e1 d1 => by
    show sp (vs ++ []) H1.H Q E
    rw [List.append_nil]
    exact hs vs H1 Q E d1 fun u H2 e2 d2 => q u H2 (e1.trans e2) d2
theorem ev_call0 {sp : Sp} {E : XK} (hs : SpD sp [] z) : EvS (tCall sp [] E tNil) δ z := ev_call ea_nil hs
theorem ev_if {b : Bool} (h : EtS t δ b) (h1 : b = true → EvS ta δ d) (h2 : b = false → EvS tb δ d) : EvS (tIf t ta tb) δ d := fun σ H Q S q => h σ H _ S fun H1 e1 => by
  cases b with
  | true =>
    show ta σ H1.H Q
    exact h1 rfl σ H1 Q (S.mono e1) fun v H2 e2 d2 => q v H2 (e1.trans e2) d2
  | false =>
    show tb σ H1.H Q
    exact h2 rfl σ H1 Q (S.mono e1) fun v H2 e2 d2 => q v H2 (e1.trans e2) d2
theorem ev_chain {a b : Bool} (ha : EvS ta δ x) (hb : EvS tb δ y) (hr : OpD r x y (dB a)) (hc : a = true → EvS tc δ z) (hr' : a = true → OpD r' y z (dB b)) : EvS (tChain r r' ta tb tc) δ (dB (a && b)) := fun σ H Q S q =>
  ha σ H _ S fun v H1 e1 d1 => hb σ H1 _ (S.mono e1) fun w H2 e2 d2 => hr v w H2 _ (d1.mono e2) d2 fun u H3 e3 d3 => ⟨a, d3.rawI, by
    cases a with
    | true =>
      show tc σ H3.H fun w' H4 => r' w w' H4 Q
      exact hc rfl σ H3 _ (S.mono ((e1.trans e2).trans e3)) fun w' H4 e4 d4 => hr' rfl w w' H4 Q (d2.mono (e3.trans e4)) d4 fun u' H5 e5 d5 => q u' H5 ((((e1.trans e2).trans e3).trans e4).trans e5) d5
    | false =>
      show Q (.bl false) H3.H
      exact q _ H3 ((e1.trans e2).trans e3) (.raw _)⟩
theorem ev_andV {a b : Bool} (h1 : EvS ta δ (dB a)) (h2 : a = true → EvS tb δ (dB b)) : EvS (tAndV ta tb) δ (dB (a && b)) := fun σ H Q S q => h1 σ H _ S fun v H1 e1 d1 => ⟨a, d1.rawI, by
  cases a with
  | true =>
    show tb σ H1.H Q
    exact h2 rfl σ H1 Q (S.mono e1) fun v H2 e2 d2 => q v H2 (e1.trans e2) d2
  | false =>
    show Q (.bl false) H1.H
    exact q _ H1 e1 (.raw _)⟩
theorem ev_orV {a b : Bool} (h1 : EvS ta δ (dB a)) (h2 : a = false → EvS tb δ (dB b)) : EvS (tOrV ta tb) δ (dB (a || b)) := fun σ H Q S q => h1 σ H _ S fun v H1 e1 d1 => ⟨a, d1.rawI, by
  cases a with
  | true =>
    show Q (.bl true) H1.H
    exact q _ H1 e1 (.raw _)
  | false =>
    show tb σ H1.H Q
    exact h2 rfl σ H1 Q (S.mono e1) fun v H2 e2 d2 => q v H2 (e1.trans e2) d2⟩
theorem ev_notV {a : Bool} (h1 : EvS ta δ (dB a)) : EvS (tNotV ta) δ (dB (!a)) := fun σ H Q S q => h1 σ H _ S fun v H1 e1 d1 => ⟨a, d1.rawI, q _ H1 e1 (.raw _)⟩
/-! tests -/
theorem et_test {b : Bool} (h : EvS te δ (dB b)) : EtS (tTest te) δ b := fun σ H Q S q => h σ H _ S fun v H1 e1 d1 => ⟨b, d1.rawI, q H1 e1⟩
theorem et_B {b : Bool} (h : EvS te δ (dB b)) : EtS (tB te) δ b := fun σ H Q S q => h σ H _ S fun v H1 e1 d1 => ⟨b, d1.rawI, q H1 e1⟩
theorem et_and {a b : Bool} (h1 : EtS t δ a) (h2 : a = true → EtS u δ b) : EtS (tAnd t u) δ (a && b) := fun σ H Q S q => h1 σ H _ S fun H1 e1 => by
  cases a with
  | true =>
    show u σ H1.H Q
    exact h2 rfl σ H1 Q (S.mono e1) fun H2 e2 => q H2 (e1.trans e2)
  | false =>
    show Q false H1.H
    exact q H1 e1
theorem et_or {a b : Bool} (h1 : EtS t δ a) (h2 : a = false → EtS u δ b) : EtS (tOr t u) δ (a || b) := fun σ H Q S q => h1 σ H _ S fun H1 e1 => by
  cases a with
  | true =>
    show Q true H1.H
    exact q H1 e1
  | false =>
    show u σ H1.H Q
    exact h2 rfl σ H1 Q (S.mono e1) fun H2 e2 => q H2 (e1.trans e2)
theorem et_not {a : Bool} (h1 : EtS t δ a) : EtS (tNot t) δ (!a) := fun σ H Q S q => h1 σ H _ S fun H1 e1 => q H1 e1
theorem et_yes : EtS tYes δ true := fun σ H Q S q => q H (Up.refl H)
/-! operations -/
theorem od_I0 {g : Int → Int → V} {i j : Int} : OpD (rI0 g) (dI i) (dI j) (.raw (g i j)) := fun v w H Q h1 h2 q => ⟨i, j, h1.rawI, h2.rawI, q _ H (Up.refl H) (.raw _)⟩
theorem od_I {C : Int → Int → Prop} {g : Int → Int → V} {i j : Int} (hc : C i j) : OpD (rI C g) (dI i) (dI j) (.raw (g i j)) := fun v w H Q h1 h2 q => ⟨i, j, h1.rawI, h2.rawI, hc, q _ H (Up.refl H) (.raw _)⟩
theorem ud_U {g : Int → V} {i : Int} : UnD (rU g) (dI i) (.raw (g i)) := fun v H Q h q => ⟨i, h.rawI, q _ H (Up.refl H) (.raw _)⟩
theorem od_eq {v w : V} (hs : scal v w = true) : OpD rEq (.raw v) (.raw w) (dB (decide (v = w))) := fun a b H Q h1 h2 q => by
  rw [h1.rawI, h2.rawI]
  exact ⟨hs, q _ H (Up.refl H) (.raw _)⟩
theorem od_ne {v w : V} (hs : scal v w = true) : OpD rNe (.raw v) (.raw w) (dB (!decide (v = w))) := fun a b H Q h1 h2 q => by
  rw [h1.rawI, h2.rawI]
  exact ⟨hs, q _ H (Up.refl H) (.raw _)⟩
theorem od_eqI {i j : Int} : OpD rEq (dI i) (dI j) (dB (decide (i = j))) := fun a b H Q h1 h2 q => by
  rw [h1.rawI, h2.rawI]
  refine ⟨rfl, q _ H (Up.refl H) ?_⟩
  rw [dec_int, show decide (i = j) = (i == j) from by by_cases e : i = j <;> simp [e]]
  exact .raw _
theorem od_neI {i j : Int} : OpD rNe (dI i) (dI j) (dB (!decide (i = j))) := fun a b H Q h1 h2 q => by
  rw [h1.rawI, h2.rawI]
  refine ⟨rfl, q _ H (Up.refl H) ?_⟩
  rw [dec_int, show decide (i = j) = (i == j) from by by_cases e : i = j <;> simp [e]]
  exact .raw _
theorem od_eqB {i j : Bool} : OpD rEq (dB i) (dB j) (dB (i == j)) := fun a b H Q h1 h2 q => by
  rw [h1.rawI, h2.rawI]
  refine ⟨rfl, q _ H (Up.refl H) ?_⟩
  rw [dec_bl]
  exact .raw _
theorem od_isB {i j : Bool} : OpD rIsB (dB i) (dB j) (dB (decide (i = j))) := fun a b H Q h1 h2 q => ⟨i, j, h1.rawI, h2.rawI, q _ H (Up.refl H) (.raw _)⟩
theorem od_notB {i j : Bool} : OpD rNotB (dB i) (dB j) (dB (!decide (i = j))) := fun a b H Q h1 h2 q => ⟨i, j, h1.rawI, h2.rawI, q _ H (Up.refl H) (.raw _)⟩
theorem at_get {α : Type} {l : List α} {i : Int} {x : α} (h0 : 0 ≤ i) (h : l[i.toNat]? = some x) : atI l i = some x := by
  have e : i = ((i.toNat : Nat) : Int) := by omega
  rw [e]
  exact atI_nat h
theorem od_ixL {i : Int} (h0 : 0 ≤ i) (h : ds[i.toNat]? = some z) : OpD (rIxL K) (.lst ds) (dI i) z := fun v w H Q h1 h2 q => by
  obtain ⟨a, xs, rfl, ha, hl⟩ := h1.lstI
  obtain ⟨v, e1, e2⟩ := hl.get h
  exact ⟨a, xs, i, v, rfl, h2.rawI, SqL.of ha, at_get h0 e1, q _ H (Up.refl H) e2⟩
theorem od_ixT {i : Int} (h0 : 0 ≤ i) (h : ds[i.toNat]? = some z) : OpD (rIxT K) (.tup ds) (dI i) z := fun v w H Q h1 h2 q => by
  obtain ⟨a, xs, rfl, ha, hl⟩ := h1.tupI
  obtain ⟨v, e1, e2⟩ := hl.get h
  exact ⟨a, xs, i, v, rfl, h2.rawI, SqT.of ha, at_get h0 e1, q _ H (Up.refl H) e2⟩
theorem od_ixSeqT {i : Int} (h0 : 0 ≤ i) (h : ds[i.toNat]? = some z) : OpD (rIx K) (.tup ds) (dI i) z := fun v w H Q h1 h2 q => .inr (.inl (od_ixT h0 h v w H Q h1 h2 q))
theorem od_ixSeqL {i : Int} (h0 : 0 ≤ i) (h : ds[i.toNat]? = some z) : OpD (rIx K) (.lst ds) (dI i) z := fun v w H Q h1 h2 q => .inl (od_ixL h0 h v w H Q h1 h2 q)
theorem od_cat {es : List Dt} (hl : ds.length + es.length ≤ 100000) : OpD rCat (.lst ds) (.lst es) (.lst (ds ++ es)) := fun v w H Q h1 h2 q => by
  obtain ⟨a, xs, rfl, ha, la⟩ := h1.lstI
  obtain ⟨b, ys, rfl, hb, lb⟩ := h2.lstI
  exact ⟨a, b, xs, ys, rfl, rfl, ha, hb, by rw [la.len, lb.len]; exact Evl.sz_of hl, fun p hp => q _ (H.nw p _ hp) (Up.new hp) (.lst Hv.nw_at ((la.app lb).mono (Up.new hp)))⟩
theorem od_catT {es : List Dt} (hn : ds ≠ []) (hm : es ≠ []) (hl : ds.length + es.length ≤ 100000) : OpD (rCatT K) (.tup ds) (.tup es) (.tup (ds ++ es)) := fun v w H Q h1 h2 q => by
  obtain ⟨a, xs, rfl, ha, la⟩ := h1.tupI
  obtain ⟨b, ys, rfl, hb, lb⟩ := h2.tupI
  have nx : xs ≠ [] := fun z => hn (by cases ds with | nil => rfl | cons _ _ => rw [z] at la; cases la)
  have ny : ys ≠ [] := fun z => hm (by cases es with | nil => rfl | cons _ _ => rw [z] at lb; cases lb)
  exact ⟨a, b, xs, ys, rfl, rfl, SqT.of ha, SqT.of hb, nx, by rw [la.len, lb.len]; exact Evl.sz_of hl, fun z => absurd z ny, fun _ p hp => q _ (H.nw p _ hp) (Up.new hp) (.tup Hv.nw_at ((la.app lb).mono (Up.new hp)))⟩
end

/-! ### what a block leaves -/
/-- from the store δ: N of the store behind, R of what is handed back, B at a break, C at a continue -/
def Hs (t : TS) (δ : Sto) (N : Sto → Prop) (R : Dt → Prop) (B : Sto → Prop) (C : Sto → Prop) : Prop :=
  ∀ (σ : L2.St) (H : Hv) (D : Ends), DenS H σ δ → (∀ σ' H' δ', Up H H' → DenS H' σ' δ' → N δ' → D.nx σ' H'.H) → (∀ v H' d, Up H H' → Den H' v d → R d → D.rt v H'.H) →
    (∀ σ' H' δ', Up H H' → DenS H' σ' δ' → B δ' → D.bk σ' H'.H) → (∀ σ' H' δ', Up H H' → DenS H' σ' δ' → C δ' → D.ct σ' H'.H) → t D σ H.H
abbrev noS : Sto → Prop := fun _ => False
abbrev noD : Dt → Prop := fun _ => False
section
variable {K : PySem.W.Frag} {δ δ' : Sto} {te : TE} {tc : TT} {t u w : TS} {d : Dt} {N N' B C : Sto → Prop} {R : Dt → Prop}
theorem hs_asg {i : Nat} (h : EvS te δ d) (n : N (δ.set i (some d))) : Hs (tAsg te (gName i)) δ N R B C := fun σ H D S hn _ _ _ =>
  h σ H _ S fun v H1 e1 d1 => hn _ H1 _ e1 ((S.mono e1).set d1) n
theorem hs_seq (h : Hs t δ N' R B C) (k : ∀ δ', N' δ' → Hs u δ' N R B C) : Hs (tSeq t u) δ N R B C := fun σ H D S hn hr hb hc =>
  h σ H { D with nx := u D } S (fun σ' H' δ' e1 S1 n => k δ' n σ' H' D S1 (fun σ2 H2 δ2 e2 S2 n2 => hn σ2 H2 δ2 (e1.trans e2) S2 n2) (fun v H2 d e2 d2 r => hr v H2 d (e1.trans e2) d2 r)
    (fun σ2 H2 δ2 e2 S2 n2 => hb σ2 H2 δ2 (e1.trans e2) S2 n2) (fun σ2 H2 δ2 e2 S2 n2 => hc σ2 H2 δ2 (e1.trans e2) S2 n2)) hr hb hc
/-- x = e, then the rest -/
theorem hq_asg {i : Nat} (h : EvS te δ d) (k : Hs u (δ.set i (some d)) N R B C) : Hs (tSeq (tAsg te (gName i)) u) δ N R B C := hs_seq (N' := fun δ' => δ' = δ.set i (some d)) (hs_asg h rfl) fun _ e => by rw [e]; exact k
theorem hs_ret (h : EvS te δ d) (r : R d) : Hs (tRet te) δ N R B C := fun σ H D S _ hr _ _ => h σ H _ S fun v H1 e1 d1 => hr v H1 d e1 d1 r
theorem hs_retN (r : R dN) : Hs tRetN δ N R B C := fun σ H D S _ hr _ _ => hr .non H dN (Up.refl H) (.raw _) r
theorem hs_next (n : N δ) : Hs tNext δ N R B C := fun σ H D S hn _ _ _ => hn σ H δ (Up.refl H) S n
theorem hs_break (n : B δ) : Hs tBreak δ N R B C := fun σ H D S _ _ hb _ => hb σ H δ (Up.refl H) S n
theorem hs_cont (n : C δ) : Hs tCont δ N R B C := fun σ H D S _ _ _ hc => hc σ H δ (Up.refl H) S n
theorem hs_drop (h : EvS te δ d) (n : N δ) : Hs (tDrop te) δ N R B C := fun σ H D S hn _ _ _ => h σ H _ S fun v H1 e1 d1 => hn σ H1 δ e1 (S.mono e1) n
theorem hq_drop (h : EvS te δ d) (k : Hs u δ N R B C) : Hs (tSeq (tDrop te) u) δ N R B C := hs_seq (N' := fun δ' => δ' = δ) (hs_drop h rfl) fun _ e => by rw [e]; exact k
theorem hs_if {b : Bool} (h : EtS tc δ b) (h1 : b = true → Hs t δ N R B C) (h2 : b = false → Hs u δ N R B C) : Hs (tIfS tc t u) δ N R B C := fun σ H D S hn hr hb hc => h σ H _ S fun H1 e1 => by
  have up : ∀ {P : L2.St → Hp → Prop} {M : Sto → Prop}, (∀ σ' H' δ', Up H H' → DenS H' σ' δ' → M δ' → P σ' H'.H) → ∀ σ' H' δ', Up H1 H' → DenS H' σ' δ' → M δ' → P σ' H'.H := fun f σ' H' δ' e S' m => f σ' H' δ' (e1.trans e) S' m
  cases b with
  | true =>
    show t D σ H1.H
    exact h1 rfl σ H1 D (S.mono e1) (up hn) (fun v H2 d e2 d2 r => hr v H2 d (e1.trans e2) d2 r) (up hb) (up hc)
  | false =>
    show u D σ H1.H
    exact h2 rfl σ H1 D (S.mono e1) (up hn) (fun v H2 d e2 d2 r => hr v H2 d (e1.trans e2) d2 r) (up hb) (up hc)
/-- if c: t (and no else), then the rest; t leaves -/
theorem hq_when {b : Bool} (h : EtS tc δ b) (h1 : b = true → Hs t δ noS R B C) (h2 : b = false → Hs u δ N R B C) : Hs (tSeq (tIfS tc t tNext) u) δ N R B C := hs_seq (N' := fun δ' => b = false ∧ δ' = δ)
  (hs_if h (fun e => fun σ H D S _ hr hb hc => h1 e σ H D S (fun _ _ _ _ _ z => z.elim) hr hb hc) fun e => hs_next ⟨e, rfl⟩) fun _ ⟨e, e'⟩ => by rw [e']; exact h2 e
theorem hs_imp {R' : Dt → Prop} {B' C' : Sto → Prop} (h : Hs t δ N' R' B' C') (n : ∀ x, N' x → N x) (r : ∀ x, R' x → R x) (b : ∀ x, B' x → B x) (c : ∀ x, C' x → C x) : Hs t δ N R B C := fun σ H D S hn hr hb hc =>
  h σ H D S (fun σ' H' δ' e S' m => hn σ' H' δ' e S' (n _ m)) (fun v H' d e d' m => hr v H' d e d' (r _ m)) (fun σ' H' δ' e S' m => hb σ' H' δ' e S' (b _ m)) (fun σ' H' δ' e S' m => hc σ' H' δ' e S' (c _ m))
/-- a, b = c, d -/
theorem hs_par {i j : Nat} {ta : TA} {x y : Dt} (h : EaS ta δ [x, y]) (n : N ((δ.set i (some x)).set j (some y))) : Hs (tPar i j ta) δ N R B C := fun σ H D S hn _ _ _ =>
  h σ H _ S fun vs H1 e1 d1 => by
    obtain ⟨v, r, rfl, dv, dr⟩ := d1.consI
    obtain ⟨w', r', rfl, dw, dr'⟩ := dr.consI
    obtain rfl := dr'.nilI
    exact ⟨v, w', rfl, hn _ H1 _ e1 (((S.mono e1).set dv).set dw) n⟩
theorem hq_par {i j : Nat} {ta : TA} {x y : Dt} (h : EaS ta δ [x, y]) (k : Hs u ((δ.set i (some x)).set j (some y)) N R B C) : Hs (tSeq (tPar i j ta) u) δ N R B C :=
  hs_seq (N' := fun δ' => δ' = (δ.set i (some x)).set j (some y)) (hs_par h rfl) fun _ e => by rw [e]; exact k
/-- a, b = t -/
theorem hs_un2 {i j : Nat} {x y : Dt} (h : EvS te δ (.tup [x, y])) (n : N ((δ.set i (some x)).set j (some y))) : Hs (tAsg te (gTup K 2 (gCons (gName i) (gCons (gName j) gNil)))) δ N R B C := fun σ H D S hn _ _ _ =>
  h σ H _ S fun v H1 e1 d1 => by
    obtain ⟨a, xs, rfl, ha, hl⟩ := d1.tupI
    have hle := hl.len
    obtain ⟨v1, r, rfl, dv, dr⟩ := hl.consI
    obtain ⟨v2, r', rfl, dw, dr'⟩ := dr.consI
    obtain rfl := dr'.nilI
    exact ⟨a, _, rfl, SqT.of ha, rfl, v1, _, rfl, v2, _, rfl, rfl, hn _ H1 _ e1 (((S.mono e1).set dv).set dw) n⟩
theorem hq_un2 {i j : Nat} {x y : Dt} (h : EvS te δ (.tup [x, y])) (k : Hs u ((δ.set i (some x)).set j (some y)) N R B C) : Hs (tSeq (tAsg te (gTup K 2 (gCons (gName i) (gCons (gName j) gNil)))) u) δ N R B C :=
  hs_seq (N' := fun δ' => δ' = (δ.set i (some x)).set j (some y)) (hs_un2 h rfl) fun _ e => by rw [e]; exact k
/-- if c: t else: u, then the rest, the two ways told by one word -/
theorem hq_if {b : Bool} (h : EtS tc δ b) (h1 : b = true → Hs t δ N' R B C) (h2 : b = false → Hs u δ N' R B C) (k : ∀ δ', N' δ' → Hs w δ' N R B C) : Hs (tSeq (tIfS tc t u) w) δ N R B C := hs_seq (hs_if h h1 h2) k
/-- while -/
theorem hs_while (I : Nat → Sto → Prop) (m : Nat) (h0 : I m δ) (hs : ∀ m δ', I m δ' → ∃ b, EtS tc δ' b ∧ (b = true → Hs t δ' (fun x => ∃ k, k < m ∧ I k x) R N (fun x => ∃ k, k < m ∧ I k x)) ∧ (b = false → N δ')) : Hs (tWhile tc t) δ N R B C := fun σ H D S hn hr hb hc => by
  refine Evl.s_while (fun m σ' h' => ∃ H' : Hv, H'.H = h' ∧ Up H H' ∧ ∃ δ', DenS H' σ' δ' ∧ I m δ') m ⟨H, rfl, Up.refl H, δ, S, h0⟩ fun m σ' _ ⟨H', w', e1, δ', S1, i1⟩ => ?_
  subst w'
  obtain ⟨b, hb1, h1, h2⟩ := hs m δ' i1
  refine ⟨b, fun h2 e2 Q q => ?_, fun eb h1' e2 => ?_, fun eb h1' e2 => hn σ' (H'.upTo h1' e2) δ' (e1.trans (Up.to e2)) (S1.mono (Up.to e2)) (h2 eb)⟩
  · exact hb1 σ' (H'.upTo h2 e2) Q (S1.mono (Up.to e2)) fun W x => q W.H x.e
  refine ⟨fun σ2 h2 => ∃ k, k < m ∧ ∃ H2 : Hv, H2.H = h2 ∧ Up H H2 ∧ ∃ δ2, DenS H2 σ2 δ2 ∧ I k δ2, fun σ2 h2 x => x, ?_⟩
  have e1' := e1.trans (Up.to e2)
  refine h1 eb σ' (H'.upTo h1' e2) _ (S1.mono (Up.to e2)) (fun σ2 H2 δ2 e3 S2 ⟨k, hk, i2⟩ => ⟨k, hk, H2, rfl, e1'.trans e3, δ2, S2, i2⟩) (fun v H2 d e3 d2 r => hr v H2 d (e1'.trans e3) d2 r)
    (fun σ2 H2 δ2 e3 S2 n => hn σ2 H2 δ2 (e1'.trans e3) S2 n) (fun σ2 H2 δ2 e3 S2 ⟨k, hk, i2⟩ => ⟨k, hk, H2, rfl, e1'.trans e3, δ2, S2, i2⟩)
end
/-- a def's promise over data: from arguments ds, where P holds, it hands back f ds -/
def spD (n : Nat) (P : List Dt → Prop) (f : List Dt → Dt) : Sp := fun vs h Q _ => ∃ (H : Hv) (ds : List Dt), H.H = h ∧ DenL H vs ds ∧ ds.length = n ∧ P ds ∧ ∀ v H', Up H H' → Den H' v (f ds) → Q v H'.H
theorem spD_of {n : Nat} {P : List Dt → Prop} {f : List Dt → Dt} {ds : List Dt} (hn : ds.length = n) (hp : P ds) : SpD (spD n P f) ds (f ds) := fun vs H Q E d q => ⟨H, ds, rfl, d, hn, hp, q⟩
section
variable {P : Program} {w : World} {K : PySem.W.Frag} {mg : Str → Option Value} {base : Heap}
/-- a def proved over data -/
theorem Fun.okD {x qual : Str} {st : Stmt} {f : Addr} {fd : FuncData} {N ps : List Str} {k n : Nat} {Pr : List Dt → Prop} {g : List Dt → Dt} (F : L2.Fun K x qual st f fd) (S : FnScope N ps (defScope st)) (hn : n = ps.length)
    (hbody : ∀ (cdv : Value) (A : Around) (outer : List Env) (s : Shared) (H : Hp) (Q : VK) (E : XK), Room k (A.deeper (envOfC qual (defScope st) s.heap.objs.size f cdv)) →
      ∃ t, PSs (cxOf L2.CX0 P w K mg base N qual (defScope st) f cdv A outer s H E).nox (defBody st) t ∧ ∀ ds, ds.length = n → Pr ds → Hs t (startD N ds) (fun _ => g ds = dN) (fun d => d = g ds) noS noS) : FnOk P w K mg base L2.CX0 (k + 1) f fd ps (spD n Pr g) := by
  refine L2.Fun.ok F S (fun vs H Q E h => ?_) (fun cdv A outer s H vs Q E hr h => ?_)
  · obtain ⟨_, ds, _, hd, hl, _⟩ := h
    rw [hd.len, hl, hn]
  · obtain ⟨V, ds, rfl, hd, hl, hp, q⟩ := h
    obtain ⟨t, ht, hh⟩ := hbody cdv A outer s V.H Q E hr
    refine ⟨t, ht, hh ds hl hp (L2.start N vs) V _ (DenS.start hd) (fun σ' H' δ' e _ z => ?_) (fun v H' d e d' z => ?_) (fun _ _ _ _ _ z => z.elim) (fun _ _ _ _ _ z => z.elim)⟩
    · exact q .non H' e (by rw [z]; exact .raw _)
    · exact q v H' e (by rw [← z]; exact d')
end
end Dn
/-! Own layer, second part: operators of several kinds, built-ins, calls, what raises. -/
namespace Dn
open PySem PySem.Spec PyProof.Rows L2
theorem exR {H : Hv} : Up H H := Up.refl H

/-! ### operators of several kinds -/
def rAddU (K : PySem.W.Frag) : R2 := fun x y H Q => rI0 (fun i j => V.int (i + j)) x y H Q ∨ rCat x y H Q ∨ rCatT K x y H Q ∨ ∃ i j, x = V.str i ∧ y = V.str j ∧ i.length + j.length ≤ sizeLine ∧ Q (.str (i ++ j)) H
def rMulU : R2 := fun x y H Q => rI CMulW (fun i j => V.int (i * j)) x y H Q ∨ rRep x y H Q
def rEqU (K : PySem.W.Frag) : R2 := fun x y H Q => rEq x y H Q ∨ rEqD K x y H Q
def rNeU (K : PySem.W.Frag) : R2 := fun x y H Q => rNe x y H Q ∨ rNeD K x y H Q
section
variable {X : Cx}
theorem op_addU : OpR X (binaryOp .Add) (rAddU X.K) := op_add.or (op_cat.or (op_catT.or op_add_str))
theorem op_mulU : OpR X (binaryOp .Mult) rMulU := op_mulW.or op_rep
theorem op_eqU (hu : X.A.units + 64 < cLine) : OpR X (compareOp .Eq) (rEqU X.K) := op_eq.or (op_eqD hu)
theorem op_neU (hu : X.A.units + 64 < cLine) : OpR X (compareOp .NotEq) (rNeU X.K) := op_ne.or (op_neD hu)
end
section
variable {K : PySem.W.Frag} {ds es : List Dt} {i j : Int}
theorem od_addI : OpD (rAddU K) (dI i) (dI j) (dI (i + j)) := fun v w H Q h1 h2 q => .inl (od_I0 (g := fun i j => V.int (i + j)) v w H Q h1 h2 q)
theorem od_addL (hl : ds.length + es.length ≤ 100000) : OpD (rAddU K) (.lst ds) (.lst es) (.lst (ds ++ es)) := fun v w H Q h1 h2 q => .inr (.inl (od_cat hl v w H Q h1 h2 q))
theorem od_addT (hn : ds ≠ []) (hm : es ≠ []) (hl : ds.length + es.length ≤ 100000) : OpD (rAddU K) (.tup ds) (.tup es) (.tup (ds ++ es)) := fun v w H Q h1 h2 q => .inr (.inr (.inl (od_catT hn hm hl v w H Q h1 h2 q)))
theorem od_mulI (h : CMulW i j) : OpD rMulU (dI i) (dI j) (dI (i * j)) := fun v w H Q h1 h2 q => .inl (od_I (g := fun i j => V.int (i * j)) h v w H Q h1 h2 q)
theorem od_eqUI : OpD (rEqU K) (dI i) (dI j) (dB (decide (i = j))) := fun v w H Q h1 h2 q => .inl (od_eqI v w H Q h1 h2 q)
theorem od_neUI : OpD (rNeU K) (dI i) (dI j) (dB (!decide (i = j))) := fun v w H Q h1 h2 q => .inl (od_neI v w H Q h1 h2 q)
theorem od_eqUB {a b : Bool} : OpD (rEqU K) (dB a) (dB b) (dB (a == b)) := fun v w H Q h1 h2 q => .inl (od_eqB v w H Q h1 h2 q)
theorem od_neUB {a b : Bool} : OpD (rNeU K) (dB a) (dB b) (dB (!(a == b))) := fun v w H Q h1 h2 q => .inl (by
  rw [h1.rawI, h2.rawI]
  refine ⟨rfl, q _ H exR ?_⟩
  rw [dec_bl]
  exact .raw _)
end
/-! ### == of data -/
def pyV : V → Option PyData
  | .non => some .none
  | .bl b => some (.bool b)
  | .int i => some (.int i)
  | .str s => some (.str s)
  | _ => none
mutual
def py : Dt → Option PyData
  | .raw v => pyV v
  | .lst l => (pyL l).map .list
  | .tup l => (pyL l).map .tuple
  | .dct _ => none
  | .exc _ _ => none
  | .scr _ _ => none
def pyL : List Dt → Option (List PyData)
  | [] => some []
  | d :: l => (py d).bind fun p => (pyL l).map fun r => p :: r
end
mutual
theorem Den.dp {K : PySem.W.Frag} {H : Hv} {v : V} : ∀ {d : Dt} {p : PyData}, Den H v d → py d = some p → Dp K H.H v p
  | .raw w, p, h, e => by
    rw [h.rawI]
    unfold py at e
    cases w <;> simp only [pyV] at e <;> cases e
    · exact .non
    · exact .bl _
    · exact .int _
    · exact .str _
  | .lst l, p, h, e => by
    unfold py at e
    obtain ⟨ps, e1, e2⟩ := Option.map_eq_some_iff.mp e
    subst e2
    cases h with | lst ha hl => exact .lst (SqL.of (Hv.sub ha)) (hl.dp e1)
  | .tup l, p, h, e => by
    unfold py at e
    obtain ⟨ps, e1, e2⟩ := Option.map_eq_some_iff.mp e
    subst e2
    cases h with | tup ha hl => exact .tup (SqT.of (Hv.sub ha)) (hl.dp e1)
  | .dct _, p, h, e => by unfold py at e; cases e
  | .exc _ _, p, h, e => by unfold py at e; cases e
  | .scr _ _, p, h, e => by unfold py at e; cases e
theorem DenL.dp {K : PySem.W.Frag} {H : Hv} : ∀ {l : List Dt} {vs : List V} {ps : List PyData}, DenL H vs l → pyL l = some ps → DpAll K H.H vs ps
  | [], vs, ps, h, e => by
    unfold pyL at e
    cases e
    rw [h.nilI]
    exact .nil
  | d :: l, vs, ps, h, e => by
    unfold pyL at e
    obtain ⟨p, e1, e2⟩ := Option.bind_eq_some_iff.mp e
    obtain ⟨r, e3, e4⟩ := Option.map_eq_some_iff.mp e2
    subst e4
    cases h with | cons h t => exact .cons (h.dp e1) (t.dp e3)
end
section
variable {K : PySem.W.Frag} {x y : Dt} {p q : PyData}
theorem od_eqUD (h1 : py x = some p) (h2 : py y = some q) (s1 : SeqAt.shaped p = true) (s2 : SeqAt.shaped q = true) : OpD (rEqU K) x y (dB (PyData.eqv p q)) := fun v w H Q d1 d2 k =>
  .inr ⟨p, q, d1.dp h1, d2.dp h2, s1, s2, k _ H exR (.raw _)⟩
theorem od_neUD (h1 : py x = some p) (h2 : py y = some q) (s1 : SeqAt.shaped p = true) (s2 : SeqAt.shaped q = true) : OpD (rNeU K) x y (dB (!PyData.eqv p q)) := fun v w H Q d1 d2 k =>
  .inr ⟨p, q, d1.dp h1, d2.dp h2, s1, s2, k _ H exR (.raw _)⟩
end
/-! ### type(x), is of types, len, list, isinstance -/
def tyD : Dt → Option String
  | .raw .non => some "NoneType"
  | .raw (.bl _) => some "bool"
  | .raw (.int _) => some "int"
  | .raw (.str _) => some "str"
  | .lst _ => some "list"
  | .tup _ => some "tuple"
  | .dct _ => some "dict"
  | _ => none
theorem tyB_of {K : PySem.W.Frag} {H : Hv} {v : V} : ∀ {d : Dt} {T : String}, Den H v d → tyD d = some T → TyB K H.H v T
  | .raw w, T, h, e => by
    rw [h.rawI]
    cases w <;> simp only [tyD] at e <;> cases e
    · exact .non
    · exact .bl _
    · exact .int _
    · exact .str _
  | .lst l, T, h, e => by
    simp only [tyD] at e
    cases e
    cases h with | lst ha _ => exact .lst (SqL.of (Hv.sub ha))
  | .tup l, T, h, e => by
    simp only [tyD] at e
    cases e
    cases h with | tup ha _ => exact .tup (SqT.of (Hv.sub ha))
  | .dct l, T, h, e => by
    simp only [tyD] at e
    cases e
    cases h with | dct ha _ => exact .dK (Hv.sub ha)
  | .exc _ _, T, h, e => by simp only [tyD] at e; cases e
  | .scr _ _, T, h, e => by simp only [tyD] at e; cases e
theorem tyX_of {K : PySem.W.Frag} {H : Hv} {v : V} : ∀ {d : Dt} {T : String}, Den H v d → tyD d = some T → TyX K H.H v (.type T)
  | .raw w, T, h, e => by
    rw [h.rawI]
    cases w <;> simp only [tyD] at e <;> cases e
    · exact .base .non
    · exact .base (.bl _)
    · exact .base (.int _)
    · exact .base (.str _)
  | .lst l, T, h, e => by
    simp only [tyD] at e
    cases e
    cases h with | lst ha _ => exact .base (.lst (Hv.sub ha))
  | .tup l, T, h, e => by
    simp only [tyD] at e
    cases e
    cases h with | tup ha _ => exact .base (.tup (Hv.sub ha))
  | .dct l, T, h, e => by
    simp only [tyD] at e
    cases e
    cases h with | dct ha _ => exact .base (.dK (Hv.sub ha))
  | .exc _ _, T, h, e => by simp only [tyD] at e; cases e
  | .scr _ _, T, h, e => by simp only [tyD] at e; cases e
def rIsT : R2 := fun x y H Q => ∃ a b, x = .ty a ∧ y = .ty b ∧ Q (.bl (decide (a = b))) H
def rNoT : R2 := fun x y H Q => ∃ a b, x = .ty a ∧ y = .ty b ∧ Q (.bl (!decide (a = b))) H
def rIsNo : R2 := fun x y H Q => y = .non ∧ Q (.bl (decide (x = .non))) H
def rNoNo : R2 := fun x y H Q => y = .non ∧ Q (.bl (!decide (x = .non))) H
section
variable {X : Cx}
theorem op_isT : OpR X (compareOp .Is) rIsT := op_isTyB
theorem op_noT : OpR X (compareOp .IsNot) rNoT := op_notTyB
theorem op_isNo : OpR X (compareOp .Is) rIsNo := op_isN
theorem op_noNo : OpR X (compareOp .IsNot) rNoNo := op_notN
end
/-- None, of data -/
def noneD : Dt → Bool
  | .raw .non => true
  | _ => false
section
variable {K : PySem.W.Frag} {d : Dt} {ds : List Dt} {a b T U : String}
theorem ca_type (h : tyD d = some T) : CaD (rTyp K) [d] (.raw (.ty T)) := fun vs H Q h1 q => by
  obtain ⟨v, r, rfl, hd, hn⟩ := h1.consI
  obtain rfl := hn.nilI
  exact ⟨v, T, rfl, tyB_of hd h, q _ H exR (.raw _)⟩
theorem od_isT : OpD rIsT (.raw (.ty a)) (.raw (.ty b)) (dB (decide (a = b))) := fun v w H Q h1 h2 q => ⟨a, b, h1.rawI, h2.rawI, q _ H exR (.raw _)⟩
theorem od_noT : OpD rNoT (.raw (.ty a)) (.raw (.ty b)) (dB (!decide (a = b))) := fun v w H Q h1 h2 q => ⟨a, b, h1.rawI, h2.rawI, q _ H exR (.raw _)⟩
theorem den_none {H : Hv} {v : V} (h : Den H v d) : decide (v = .non) = noneD d := by
  cases h with
  | raw v => cases v <;> rfl
  | _ => rfl
theorem od_isNo : OpD rIsNo d dN (dB (noneD d)) := fun v w H Q h1 h2 q => ⟨h2.rawI, by rw [den_none h1]; exact q _ H exR (.raw _)⟩
theorem od_noNo : OpD rNoNo d dN (dB (!noneD d)) := fun v w H Q h1 h2 q => ⟨h2.rawI, by rw [den_none h1]; exact q _ H exR (.raw _)⟩
def rLenS (K : PySem.W.Frag) : List V → Hp → VK → Prop := fun xs H Q => ∃ p ys, xs = [.ref p] ∧ (SqL K H p ys ∨ SqT K H p ys) ∧ Q (.int ys.length) H
def rLenD : List V → Hp → VK → Prop := fun xs H Q => ∃ a kvs, xs = [V.ref a] ∧ H a = some (.dK kvs) ∧ Q (.int kvs.length) H
def rLenStr : List V → Hp → VK → Prop := fun xs H Q => ∃ z, xs = [V.str z] ∧ z.length ≤ sizeLine ∧ Q (.int z.length) H
def rListS (K : PySem.W.Frag) : List V → Hp → VK → Prop := fun xs H Q => ∃ p ys, xs = [.ref p] ∧ (SqL K H p ys ∨ SqT K H p ys) ∧ ∀ l, H l = none → Q (.ref l) (upd H l (.lst ys))
theorem ca_lenL : CaD (rLenS K) [.lst ds] (dI ds.length) := fun vs H Q h1 q => by
  obtain ⟨v, r, rfl, hd, hn⟩ := h1.consI
  obtain rfl := hn.nilI
  obtain ⟨a, xs, rfl, ha, hl⟩ := hd.lstI
  exact ⟨a, xs, rfl, .inl (SqL.of ha), by rw [hl.len]; exact q _ H exR (.raw _)⟩
theorem ca_lenT : CaD (rLenS K) [.tup ds] (dI ds.length) := fun vs H Q h1 q => by
  obtain ⟨v, r, rfl, hd, hn⟩ := h1.consI
  obtain rfl := hn.nilI
  obtain ⟨a, xs, rfl, ha, hl⟩ := hd.tupI
  exact ⟨a, xs, rfl, .inr (SqT.of ha), by rw [hl.len]; exact q _ H exR (.raw _)⟩
theorem ca_listL : CaD (rListS K) [.lst ds] (.lst ds) := fun vs H Q h1 q => by
  obtain ⟨v, r, rfl, hd, hn⟩ := h1.consI
  obtain rfl := hn.nilI
  obtain ⟨a, xs, rfl, ha, hl⟩ := hd.lstI
  exact ⟨a, xs, rfl, .inl (SqL.of ha), fun l hl' => q _ (H.nw l _ hl') (Up.new hl') (.lst Hv.nw_at (hl.mono (Up.new hl')))⟩
theorem ca_listT : CaD (rListS K) [.tup ds] (.lst ds) := fun vs H Q h1 q => by
  obtain ⟨v, r, rfl, hd, hn⟩ := h1.consI
  obtain rfl := hn.nilI
  obtain ⟨a, xs, rfl, ha, hl⟩ := hd.tupI
  exact ⟨a, xs, rfl, .inr (SqT.of ha), fun l hl' => q _ (H.nw l _ hl') (Up.new hl') (.lst Hv.nw_at (hl.mono (Up.new hl')))⟩
theorem ca_isi {b : Bool} (h : tyD d = some T) (hk : kitB T U = some b) : CaD (rIsi K) [d, .raw (.ty U)] (dB b) := fun vs H Q h1 q => by
  obtain ⟨v, r, rfl, hd, hn⟩ := h1.consI
  obtain ⟨v2, r2, rfl, hd2, hn2⟩ := hn.consI
  obtain rfl := hn2.nilI
  rw [hd2.rawI]
  exact ⟨v, .ty U, .type T, .type U, b, rfl, .ty U, tyX_of hd h, kit_ty hk, q _ H exR (.raw _)⟩
theorem ev_dnewK {δ : Sto} : EvS tDNewK δ (.dct []) := fun σ H Q S q => fun d hd => q _ (H.nw d _ hd) (Up.new hd) (.dct Hv.nw_at .nil)
end
/-! ### calls -/
/-- the def that the module's name x holds keeps the promise sp, by at most k levels -/
structure Cl (P : Program) (w : World) (K : PySem.W.Frag) (mg : Str → Option Value) (base : Heap) (CX : CXT) (k : Nat) (x : Str) (sp : Sp) : Prop where
  ex : ∃ (f : Addr) (fd : FuncData) (ps : List Str), FnOk P w K mg base CX k f fd ps sp ∧ mg x = some (.ref f) ∧ PySem.W.keepIn K (.ref f) = true ∧ Binds K fd ps []
section
variable {X : Cx} {CX : CXT} {k j : Nat} {x : Str} {sp : Sp} {E : XK} {p pos : Pos} {e : Expr} {es : List Expr} {t : TA}
theorem pe_cl (C : Cl X.prog X.w X.K X.mg X.base CX k x sp) (hr : Room j X.A) (hk : k ≤ j) (hx : Passes CX X E) (hg : Gl X x) (ha : PA X (e :: es) t) (hdb : (x == ("__debug__" : Str)) = false := by decide)
    (he : starEach (e :: es) X.env = (false, eval e X.env) :: starEach es X.env := by rfl) (hpl : (backTo pos (starEach es X.env)).any (·.1) = false := by rfl) : PE X (.Call (.Name x p) (e :: es) [] pos) (tCall sp [] E t) := by
  obtain ⟨f, fd, ps, F, m, kp, b⟩ := C.ex
  exact pe_call F (hr.mono hk) hg m kp b .nil hx ha (hdb := hdb) (he := he) (hpl := hpl)
theorem pe_cl0 (C : Cl X.prog X.w X.K X.mg X.base CX k x sp) (hr : Room j X.A) (hk : k ≤ j) (hx : Passes CX X E) (hg : Gl X x) (hdb : (x == ("__debug__" : Str)) = false := by decide) : PE X (.Call (.Name x p) [] [] pos) (tCall sp [] E tNil) := by
  obtain ⟨f, fd, ps, F, m, kp, b⟩ := C.ex
  exact pe_call0 F (hr.mono hk) hg m kp b .nil hx (hdb := hdb)
end
/-! ### what raises -/
abbrev Rs := Except Addr Dt
/-- the promise of a def that may raise -/
def spX (n : Nat) (P : List Dt → Prop) (f : List Dt → Rs) : Sp := fun vs h Q E => ∃ (H : Hv) (ds : List Dt), H.H = h ∧ DenL H vs ds ∧ ds.length = n ∧ P ds ∧ (∀ d, f ds = .ok d → ∀ v H', Up H H' → Den H' v d → Q v H'.H) ∧ ∀ C, f ds = .error C → ∀ H', Up H H' → E (.ref C) none H'.H
def EvX (E : XK) (te : TE) (δ : Sto) (r : Rs) : Prop := ∀ (σ : L2.St) (H : Hv) (Q : VK), DenS H σ δ → (∀ d, r = .ok d → ∀ v H', Up H H' → Den H' v d → Q v H'.H) → (∀ C, r = .error C → ∀ H', Up H H' → E (.ref C) none H'.H) → te σ H.H Q
def HsE (E : XK) (t : TS) (δ : Sto) (N : Sto → Prop) (R : Dt → Prop) (W : Addr → Prop) : Prop :=
  ∀ (σ : L2.St) (H : Hv) (D : Ends), DenS H σ δ → (∀ σ' H' δ', Up H H' → DenS H' σ' δ' → N δ' → D.nx σ' H'.H) → (∀ v H' d, Up H H' → Den H' v d → R d → D.rt v H'.H) → (∀ C H', Up H H' → W C → E (.ref C) none H'.H) → t D σ H.H
section
variable {K : PySem.W.Frag} {E : XK} {δ : Sto} {te ta tb : TE} {tc : TT} {t u : TS} {ds : List Dt} {r : Rs} {N N' : Sto → Prop} {R : Dt → Prop} {W : Addr → Prop} {x y z d : Dt}
theorem evx_call {n : Nat} {P : List Dt → Prop} {f : List Dt → Rs} {ta : TA} (h : EaS ta δ ds) (hn : ds.length = n) (hp : P ds) : EvX E (tCall (spX n P f) [] E ta) δ (f ds) := fun σ H Q S q qe =>
  h σ H _ S fun vs H1 e1 d1 => by
    show spX n P f (vs ++ []) H1.H Q E
    rw [List.append_nil]
    exact ⟨H1, ds, rfl, d1, hn, hp, fun d e v H2 e2 d2 => q d e v H2 (e1.trans e2) d2, fun C e H2 e2 => qe C e H2 (e1.trans e2)⟩
theorem evx_of (h : EvS te δ d) : EvX E te δ (.ok d) := fun σ H Q S q _ => h σ H Q S fun v H1 e1 d1 => q d rfl v H1 e1 d1
theorem evx_op1 {rr : R2} {g : Dt → Dt} (h : EvX E ta δ r) (hb : ∀ x, r = .ok x → ∃ y, EvS tb δ y ∧ OpD rr x y (g x)) : EvX E (tOp rr ta tb) δ (r.map g) := fun σ H Q S q qe =>
  h σ H _ S (fun x e v H1 e1 d1 => by
    obtain ⟨y, h2, h3⟩ := hb x e
    exact h2 σ H1 _ (S.mono e1) fun w H2 e2 d2 => h3 v w H2 Q (d1.mono e2) d2 fun u H3 e3 d3 => q (g x) (by rw [e]; rfl) u H3 ((e1.trans e2).trans e3) d3) fun C e H1 e1 => qe C (by rw [e]; rfl) H1 e1
theorem he_seq (h : HsE E t δ N' R W) (k : ∀ δ', N' δ' → HsE E u δ' N R W) : HsE E (tSeq t u) δ N R W := fun σ H D S hn hr hw =>
  h σ H { D with nx := u D } S (fun σ' H' δ' e1 S1 n => k δ' n σ' H' D S1 (fun σ2 H2 δ2 e2 S2 n2 => hn σ2 H2 δ2 (e1.trans e2) S2 n2) (fun v H2 d e2 d2 r => hr v H2 d (e1.trans e2) d2 r) (fun C H2 e2 w => hw C H2 (e1.trans e2) w)) hr hw
theorem he_of (h : Hs t δ N R noS noS) : HsE E t δ N R W := fun σ H D S hn hr _ => h σ H D S hn hr (fun _ _ _ _ _ z => z.elim) (fun _ _ _ _ _ z => z.elim)
theorem he_drop (h : EvX E te δ r) (n : ∀ d, r = .ok d → N δ) (w : ∀ C, r = .error C → W C) : HsE E (tDrop te) δ N R W := fun σ H D S hn _ hw =>
  h σ H _ S (fun d e v H1 e1 _ => hn σ H1 δ e1 (S.mono e1) (n d e)) fun C e H1 e1 => hw C H1 e1 (w C e)
theorem he_ret (h : EvX E te δ r) (n : ∀ d, r = .ok d → R d) (w : ∀ C, r = .error C → W C) : HsE E (tRet te) δ N R W := fun σ H D S _ hr hw =>
  h σ H _ S (fun d e v H1 e1 d1 => hr v H1 d e1 d1 (n d e)) fun C e H1 e1 => hw C H1 e1 (w C e)
theorem he_asg {i : Nat} (h : EvX E te δ r) (n : ∀ d, r = .ok d → N (δ.set i (some d))) (w : ∀ C, r = .error C → W C) : HsE E (tAsg te (gName i)) δ N R W := fun σ H D S hn _ hw =>
  h σ H _ S (fun d e v H1 e1 d1 => hn _ H1 _ e1 ((S.mono e1).set d1) (n d e)) fun C e H1 e1 => hw C H1 e1 (w C e)
theorem he_if {b : Bool} (h : EtS tc δ b) (h1 : b = true → HsE E t δ N R W) (h2 : b = false → HsE E u δ N R W) : HsE E (tIfS tc t u) δ N R W := fun σ H D S hn hr hw => h σ H _ S fun H1 e1 => by
  cases b with
  | true =>
    show t D σ H1.H
    exact h1 rfl σ H1 D (S.mono e1) (fun σ' H' δ' e S' m => hn σ' H' δ' (e1.trans e) S' m) (fun v H2 d e2 d2 r => hr v H2 d (e1.trans e2) d2 r) (fun C H2 e2 w => hw C H2 (e1.trans e2) w)
  | false =>
    show u D σ H1.H
    exact h2 rfl σ H1 D (S.mono e1) (fun σ' H' δ' e S' m => hn σ' H' δ' (e1.trans e) S' m) (fun v H2 d e2 d2 r => hr v H2 d (e1.trans e2) d2 r) (fun C H2 e2 w => hw C H2 (e1.trans e2) w)
theorem he_next (n : N δ) : HsE E tNext δ N R W := fun σ H D S hn _ _ => hn σ H δ exR S n
/-- raise C(..) -/
theorem he_raise {C : Addr} (w : W C) : HsE E (fun _ _ H => E (.ref C) none H) δ N R W := fun σ H D _ _ _ hw => hw C H exR w
/-- a, b, c = t -/
theorem he_un3 {i j l : Nat} {f : Dt → Dt × Dt × Dt} (h : EvX E te δ r) (hf : ∀ d, r = .ok d → ∃ x y z, d = .tup [x, y, z] ∧ N (((δ.set i (some x)).set j (some y)).set l (some z))) (w : ∀ C, r = .error C → W C) :
    HsE E (tAsg te (gTup K 3 (gCons (gName i) (gCons (gName j) (gCons (gName l) gNil))))) δ N R W := fun σ H D S hn _ hw =>
  h σ H _ S (fun d e v H1 e1 d1 => by
    obtain ⟨x, y, z, rfl, n⟩ := hf d e
    obtain ⟨a, xs, rfl, ha, hl⟩ := d1.tupI
    obtain ⟨v1, r, rfl, dv, dr⟩ := hl.consI
    obtain ⟨v2, r', rfl, dw, dr'⟩ := dr.consI
    obtain ⟨v3, r3, rfl, dz, dr3⟩ := dr'.consI
    obtain rfl := dr3.nilI
    exact ⟨a, _, rfl, SqT.of ha, rfl, v1, _, rfl, v2, _, rfl, v3, _, rfl, rfl, hn _ H1 _ e1 ((((S.mono e1).set dv).set dw).set dz) n⟩) fun C e H1 e1 => hw C H1 e1 (w C e)
end
section
variable {P : Program} {w : World} {K : PySem.W.Frag} {mg : Str → Option Value} {base : Heap}
theorem Fun.okE {x qual : Str} {st : Stmt} {f : Addr} {fd : FuncData} {N ps : List Str} {k n : Nat} {Pr : List Dt → Prop} {g : List Dt → Rs} (F : L2.Fun K x qual st f fd) (S : FnScope N ps (defScope st)) (hn : n = ps.length)
    (hbody : ∀ (cdv : Value) (A : Around) (outer : List Env) (s : Shared) (H : Hp) (Q : VK) (E : XK), Room k (A.deeper (envOfC qual (defScope st) s.heap.objs.size f cdv)) →
      ∃ t, PSs (cxOf (L2.CX P w) P w K mg base N qual (defScope st) f cdv A outer s H E) (defBody st) t ∧ ∀ ds, ds.length = n → Pr ds → HsE E t (startD N ds) (fun _ => g ds = .ok dN) (fun d => g ds = .ok d) (fun C => g ds = .error C)) : FnOk P w K mg base (L2.CX P w) (k + 1) f fd ps (spX n Pr g) := by
  refine L2.Fun.okX F S (fun vs H Q E h => ?_) (fun cdv A outer s H vs Q E hr h => ?_)
  · obtain ⟨_, ds, _, hd, hl, _⟩ := h
    rw [hd.len, hl, hn]
  · obtain ⟨V, ds, rfl, hd, hl, hp, q, qe⟩ := h
    obtain ⟨t, ht, hh⟩ := hbody cdv A outer s V.H Q E hr
    refine ⟨t, ht, hh ds hl hp (L2.start N vs) V _ (DenS.start hd) (fun σ' H' δ' e _ z => ?_) (fun v H' d e d' z => ?_) (fun C H' e z => ?_)⟩
    · exact q dN z .non H' e (.raw _)
    · exact q d z v H' e d'
    · exact qe C z H' e
end
end Dn
namespace Dn
open PySem PySem.Spec PyProof.Rows L2
theorem CallR.or {X : Cx} {f : Value} {r r' : List V → Hp → VK → Prop} (h : CallR X f r) (h' : CallR X f r') : CallR X f (fun xs H Q => r xs H Q ∨ r' xs H Q) := by
  intro pins s σ H xs us Q I rv q
  rcases q with q | q
  · exact h pins s σ H xs us Q I rv q
  · exact h' pins s σ H xs us Q I rv q
def rLenU (K : PySem.W.Frag) : List V → Hp → VK → Prop := fun xs H Q => rLenS K xs H Q ∨ rLenD xs H Q ∨ rLenStr xs H Q
theorem call_lenU {X : Cx} : CallR X (.builtin "len") (rLenU X.K) := CallR.or call_len_seq (CallR.or call_lenD call_len_str)
/-- isinstance of an exception's object that stands in H -/
def rIsX (K : PySem.W.Frag) : List V → Hp → VK → Prop := fun xs H Q => ∃ (a D : Addr) (d : Option Addr) (c : V) (cv : Value) (b : Bool), xs = [.ref a, c] ∧ H a = some (ExV (.ref D) d a) ∧ (∀ dd, d = some dd → ∃ fs, H dd = some (.xd fs)) ∧ ClsV c cv ∧ ExcC K D ∧ PySem.W.kitOne K (.ref D) cv = some b ∧ Q (.bl b) H
theorem inst_exc {X : Cx} {pins : List (Addr × Obj)} {σ : L2.St} {H : Hp} {s : Shared} {a D : Addr} {d : Option Addr} (I : Inv X pins σ H s) (ha : H a = some (ExV (.ref D) d a)) (hd : ∀ dd, d = some dd → ∃ fs, H dd = some (.xd fs)) : ∃ (oe : Obj) (od : Option Obj), PySem.W.InstAt s.heap a oe D od := by
  obtain ⟨⟨oe, vs, hget, hz, hv⟩, _, _⟩ := I.hok a _ ha
  cases d with
  | none =>
    refine ⟨oe, none, ?_⟩
    obtain ⟨oc, od, oda, osl⟩ := oe
    obtain ⟨z1, z2⟩ := hz
    dsimp only at z1 z2 hv
    rw [z1, z2, hv] at hget ⊢
    exact ⟨hget, rfl, rfl, trivial⟩
  | some dd =>
    obtain ⟨fs, ed⟩ := hd dd rfl
    have hx : ObjOk X.prog X.w H s.heap dd (.xd fs) := I.hok dd _ ed
    obtain ⟨mA, hns, hr⟩ := hx
    obtain ⟨od, ho, hl⟩ := lookIn_ns hns
    refine ⟨oe, some od, ?_⟩
    obtain ⟨oc, od', oda, osl⟩ := oe
    obtain ⟨z1, z2⟩ := hz
    dsimp only at z1 z2 hv
    rw [z1, z2, hv] at hget ⊢
    exact ⟨hget, rfl, rfl, ho⟩
theorem kin_any {prog : Program} {w : World} {A : Around} {E : Value → Shared → Prop} {s : Shared} {x D : Addr} {ox : Obj} {od : Option Obj} {K : PySem.W.Frag} {Q : Option Value → Shared → Prop} (C : ExcC K D) (X : K.In s.heap) (I : PySem.W.InstAt s.heap x ox D od) (h : Q (some (.ref D)) { s with toks := s.toks + 1 }) : wpAny (model prog w) A (getAttr? (.ref x) "__class__") Q E s := by
  have hf : PySem.W.findObj K D od "__class__" = some (.bind (.builtin "getset_descriptor.__get__") (.builtin "object.__class__")) := by
    obtain ⟨cd, hc, _⟩ := PySem.W.any_some C.hd
    unfold PySem.W.findObj
    rw [hc, Option.bind_some, C.ha, Option.bind_some]; simp [C.hn, C.ht]
  obtain ⟨hp, g, d, t, os⟩ := s
  have L0 := I.type (M := model prog w); have L3 := PySem.W.looks_find (M := model prog w) X I hf
  have L1 := PySem.W.looks_findIn (M := model prog w) X C.hg; have L2 := PySem.W.looks_findIn (M := model prog w) X C.hk
  have sub : PySem.W.Looks (model prog w) hp (isInstance (.ref x) (.type "BaseException")) true := L0.andThen (PySem.W.looks_subIn X C.hs)
  have hx2 : (Value.builtin "BaseException.__getattribute__" == Value.builtin "object.__getattribute__") = false := by decide +kernel
  have hx1 : (onTheHeap (Value.ref D) && Value.builtin "BaseException.__getattribute__" == Value.builtin "object.__getattribute__") = false := by rw [hx2]; rfl
  unfold getAttr? getAttrBy? getAttrBy
  refine wpAny_bind (wpAny_mkText (wpAny_bind (wpAny_attempt (wpAny_holding (wpAny_bind (L0.at (wpAny_bind (L1.at (?_ : wpAny _ _ (if (onTheHeap (Value.ref D) && Value.builtin "BaseException.__getattribute__" == Value.builtin "object.__getattribute__") = true then _ else _) _ _ _)))))))))
  rw [hx1, if_neg Bool.false_ne_true]; unfold getAttrByItsOwn hookBefore
  refine wpAny_bind ?_
  rw [if_pos (show onTheHeap (Value.ref D) = true from rfl)]
  refine L2.at (wpAny_bind (wpAny_attempt (wpAny_holding ?_)))
  unfold callGetattribute
  rw [show (false && onTheHeap (Value.builtin "BaseException.__getattribute__")) = false from rfl, if_neg Bool.false_ne_true]; unfold boundAndCalled
  rw [PySem.F.excAttr_ValueError.ga.bind (.ref x)]
  refine wpAny_bind (wpAny_pure (?_ : wpAny _ _ (call (.builtin "BaseException.__getattribute__") [.ref x, .str "__class__" t]) _ _ _))
  refine wpAny_call (codeAny_call_builtin PySem.F.excAttr_ValueError.ga.plain PySem.F.entry_bexc_ga (@PySem.W.check_slot (model prog w) _ _ ⟨hp, g, d, t + 1, os⟩ "BaseException.__getattribute__" "BaseException" "__getattribute__" (.ref x) [.str "__class__" t] [] _ (by decide +kernel) (by decide +kernel) sub (PySem.F.args_bexc_ga (.ref x) (.str "__class__" t)) ?_))
  unfold Builtin.«object.__getattribute__»
  refine wpAny_bind (wpAny_of_eq (a := ((Value.ref x : Value), [Value.str "__class__" t])) (by first | rfl | (simp only [Builtin.slotArgs]; rfl)) (wpAny_bind (wpAny_pure (wpAny_bind (L0.at (wpAny_bind (L3.at ?_)))))))
  show wpAny _ _ (holding [Value.builtin "object.__class__"] (call (.builtin "getset_descriptor.__get__") [.builtin "object.__class__", .ref x, .ref D]) >>= PySem.ret) _ _ _
  refine wpAny_bind (wpAny_holding (wpAny_call (PySem.W.class_get (s := ⟨hp, g, d, t + 1, os⟩) (ox := ox) (od := od) X I C.hm (wpAny_pure (?_ : wpAny _ _ (handedOut (.ref D)) _ _ _)))))
  rw [PySem.W.handedOut_of (v := .ref D) rfl]
  first | exact wpAny_pure (wpAny_pure h) | exact wpAny_pure h | exact wpAny_pure (wpAny_bind (wpAny_pure (wpAny_pure h)))
theorem kitx_any {K : PySem.W.Frag} {x D : Addr} {ox : Obj} {od : Option Obj} (C : ExcC K D) : PySem.W.KitX K (.ref x) (.ref D) (fun h => PySem.W.InstAt h x ox D od) := by
  have Z := PySem.W.handS_kitx_exc (x := x) (ox := ox) C.hg C.hk C.hs C.hd C.ha C.hn C.ht C.hm
  have it : ∀ {M : Model} {h : Heap}, K.In h → PySem.W.Looks M h (isType (.ref D)) true := fun {M h} X => by
    obtain ⟨cd, hc, _⟩ := PySem.W.any_some C.hd
    unfold PySem.W.clsIn at hc
    split at hc
    · rename_i c' d' cd' sl' ho
      intro A' Q' E' s' k q
      unfold isType loadHead
      exact wpAny_bind (wpAny_loadPart (k _ _ (X _ _ ho)) (wpAny_pure q))
    · cases hc
  exact { ty := fun _ _ _ I => I.type, it := fun _ _ X _ => it X, ne := Z.ne, ca := fun X I k => kin_any C X I k }
theorem call_isX {X : Cx} : CallR X (.builtin "isinstance") (rIsX X.K) := by
  intro pins s σ H xs us Q I r h
  obtain ⟨a, D, d, c, cv, b, rfl, ha, hd, hc, C, e, q⟩ := h
  obtain ⟨u1, u2, rfl, r1, r2⟩ := vals2 r
  cases (show u1 = Value.ref a from r1)
  have e2 := hc.eq r2
  subst e2
  obtain ⟨oe, od, J⟩ := inst_exc I ha hd
  exact PySem.W.kia_one (kitx_any C) I.kIn J e (fun z => nomatch z) fun tk => ⟨.bl b, H, I.tok tk, rfl, q⟩
def rIsU (K : PySem.W.Frag) : List V → Hp → VK → Prop := fun xs H Q => rIsi K xs H Q ∨ rIsX K xs H Q
theorem call_isU {X : Cx} : CallR X (.builtin "isinstance") (rIsU X.K) := CallR.or call_isi call_isX
theorem ca_isU {K : PySem.W.Frag} {d : Dt} {T U : String} {b : Bool} (h : tyD d = some T) (hk : kitB T U = some b) : CaD (rIsU K) [d, .raw (.ty U)] (dB b) := fun vs H Q h1 q => .inl (ca_isi h hk vs H Q h1 q)
/-- an own exception's object and a class c -/
theorem ca_isE {K : PySem.W.Frag} {D : Addr} {c : V} {cv : Value} {b : Bool} (hc : ClsV c cv) (C : ExcC K D) (hk : PySem.W.kitOne K (.ref D) cv = some b) {H : Hp} {a : Addr} {Q : VK} (ha : H a = some (ExV (.ref D) none a)) (q : Q (.bl b) H) : rIsU K [.ref a, c] H Q :=
  .inr ⟨a, D, none, c, cv, b, rfl, ha, (fun _ z => nomatch z), hc, C, hk, q⟩

/-! ### an exception that is caught and kept -/
section
variable {X : Cx} {pins : List (Addr × Obj)} {σ : L2.St} {H : Hp} {s : Shared}
/-- a pinned exception's object is followed from now on -/
theorem Inv.follow {a : Addr} {oe : Obj} {vs : Array Value} {cls : Value} {d : Option Addr} (I : Inv X ((a, oe) :: pins) σ H s) (hz : Zc cls d oe) (hd : oe.data = .fields vs) (hnew : X.s_0.heap.get? a = none)
    (hp : ∀ p ∈ X.pn ++ pins, p.1 ≠ a) : Inv X pins σ (upd H a (ExV cls d a)) s := by
  obtain ⟨g1, g2, g3, g4, g5⟩ := I.pin (a, oe) (List.mem_append_right _ List.mem_cons_self)
  have old : ∀ b u, H b = some u → b ≠ a := fun b u e z => by
    rw [z, g2] at e
    cases e
  have oldE : ∀ b u, X.s_0.heap.get? b = some u → b ≠ a := fun b u e z => by
    rw [z, hnew] at e
    cases e
  refine ⟨I.ok, I.os, I.bare, ⟨I.base.keep, I.base.slot, fun b o e n hx => ?_, I.base.there, fun b xs e => ?_, fun b o u e => ?_, fun b ps e => ?_⟩, I.loc, I.cell, ?_, fun x c e => ?_, fun p hq => ?_, fun b u e => ?_, I.len⟩
  · rw [upd_ne (oldE b o e)]
    exact I.base.free b o e n hx
  · have z := I.base.tups b xs e
    rw [upd_ne (old b _ z)]
    exact z
  · have z := I.base.frzs b o u e
    rw [upd_ne (old b _ z)]
    exact z
  · obtain ⟨more, z⟩ := I.base.tbls b ps e
    exact ⟨more, by rw [upd_ne (old b _ z)]; exact z⟩
  · rw [upd_ne (Ne.symm g3)]
    exact I.free
  · have nc : c ≠ a := fun z => by
      obtain ⟨v, o, ho, hc⟩ := I.cell x c e
      rw [z, g1] at ho
      cases ho
      rw [hd] at hc
      cases hc
    rw [upd_ne nc]
    exact I.freeC x c e
  · have np := hp p hq
    have hm : p ∈ X.pn ++ ((a, oe) :: pins) := (List.mem_append.mp hq).elim (fun z => List.mem_append_left _ z) fun z => List.mem_append_right _ (List.mem_cons_of_mem _ z)
    obtain ⟨q1, q2, q3, q4, q5⟩ := I.pin p hm
    exact ⟨q1, by rw [upd_ne np]; exact q2, q3, q4, q5⟩
  · by_cases hb : b = a
    · subst hb
      rw [upd_same] at e
      cases e
      exact ⟨⟨oe, vs, g1, hz, hd⟩, ⟨oe, g1⟩, fun h1 h2 ⟨o, v, x1, x2⟩ k => ⟨o, v, k o x1, x2⟩⟩
    · rw [upd_ne hb] at e
      refine (I.hok b u e).stay (fun c v _ q => q) (fun c q => ?_) fun c xs q => ?_
      · rw [upd_ne (old c _ q)]
        exact q
      · rw [upd_ne (old c _ q)]
        exact q
end
/-- what «except x as n: m = n» wishes: slot i is n's, slot j is m's; the exception's object is followed behind it -/
def wKept (K : PySem.W.Frag) (c : Value) (i j : Nat) (Wout : WX) (D : Ends) : WX := fun cls d σ H =>
  ∃ b, PySem.W.exmOne K cls c = some b ∧ (b = true → ∀ a, H a = none → D.nx (((σ.set i (some (.ref a))).set j (some (.ref a))).set i none) (upd H a (ExV cls d a))) ∧ (b = false → Wout cls d σ H)
section
variable {X : Cx} {x n m : Str} {c : Value} {i j : Nat} {body : List Stmt} {np p1 p2 p3 pos pos' : Pos} {tb : WX → TS} {Wout : WX}
theorem ps_try_kept (hs : X.stack = X.env :: X.outer) (hf : X.env.frame = some X.env.locals) (hN : X.N.Nodup) (hi : X.N[i]? = some n) (hln : X.env.kindOf n = some .local) (hj : X.N[j]? = some m) (hlm : X.env.kindOf m = some .local) (hex : X.ex = []) (hc : Names X x c) (tk : Takes X Wout)
    (hdn : (n == ("__debug__" : Str)) = false) (hcn : (n == ("__classdict__" : Str)) = false) (hsw : swapsWith (.Name n p2) (some (.Name m p1)) p3.line X.env = pure false) (hil : i < X.N.length)
    (hb : ∀ (W : WX) (pn : List (Addr × Obj)) (xe : Value → Shared → Prop), Takes (X.tr pn xe) W → PassesOwn (model X.prog X.w) X.A X.env xe → PSs (X.tr pn xe) body (tb W)) :
    PS X (.Try body [.ExceptHandler (some (.Name x np)) (some n) [.Assign [.Name m p1] (.Name n p2) p3] pos'] [] [] pos) (fun D σ H => tb (wKept X.K c i j Wout D) D σ H) := by
  refine ⟨fun pins s σ H D I0 h => ?_⟩
  have ok0 := I0.ok
  have frm : X.A.frames = some (X.env :: X.outer) := by rw [ok0.frames, hs]
  refine wpAny_Try_except ?_
  refine wpAny_mono ((hb (wKept X.K c i j Wout D) (X.pn ++ pins) (fun e s₁ => wpAny (model X.prog X.w) X.A (noteFrame e X.env) (fun _ s₂ => wpAny (model X.prog X.w) X.A (setFlight e none) (fun _ s₃ =>
      wpAny (model X.prog X.w) X.A (handleBy e X.env [.ExceptHandler (some (.Name x np)) (some n) [.Assign [.Name m p1] (.Name n p2) p3] pos']) (SP X pins D) X.xe s₃) X.xe s₂) X.xe s₁)
    (fun u s' air => ?_) PassesOwn.looking).run [] s σ H D (I0.toTry _) h) (fun fl s1 sp => ?_) (fun e s1 he => he)
  · obtain ⟨a, B, sI, pinsB, σB, HB, cls, d, rfl, JB, nb, up, sky, na, os, ag, b, hb1, yes, no⟩ := air
    have J : Inv X pins σB HB sI := JB.ofTry ok0
    have sky0 : Sky B (X.env :: X.outer) a (Zc cls d) X.env.locals s'.heap := by rw [← hs]; exact sky
    show wpAny (model X.prog X.w) X.A (noteFrame (.ref a) X.env) _ _ _
    refine Sky.land Zc.steady frm hf sky0 fun hA fA uA => ?_
    have JA : Inv X pins σB HB { s' with heap := hA } := J.landed nb fA.1 (up.trans uA) os ag
    obtain ⟨oA, vA, eA, zA, dA⟩ := fA.there
    have offFrames : a ∉ frs (X.env :: X.outer) := fun hm => by
      obtain ⟨_, o', e', hnf⟩ := fA.2.2.1.mem hm
      rw [eA] at e'
      cases e'
      exact hnf _ dA
    have nL : a ≠ X.env.locals := fun z => offFrames (List.mem_filterMap.mpr ⟨X.env, List.mem_cons_self, by rw [hf, z]⟩)
    have nF : a ∉ X.fs := fun hm => by
      obtain ⟨e, he, q⟩ := List.mem_filterMap.mp hm
      exact offFrames (List.mem_filterMap.mpr ⟨e, List.mem_cons_of_mem _ he, q⟩)
    -- new: not in the state ahead of the flight, so not at the entry
    have newI : sI.heap.get? a = none := by
      cases q : sI.heap.get? a with
      | none => rfl
      | some o =>
        have z := nb a o q (by rw [hs]; exact offFrames)
        rw [fA.2.1] at z
        cases z
    have newE : X.s_0.heap.get? a = none := by
      cases q : X.s_0.heap.get? a with
      | none => rfl
      | some o =>
        obtain ⟨o', z⟩ := J.base.there a o q (by rw [hex]; exact List.not_mem_nil)
        rw [newI] at z
        cases z
    have apart : ∀ p ∈ X.pn ++ pins, p.1 ≠ a := fun p hp z => by
      have q := (J.pin p hp).1
      rw [z, newI] at q
      cases q
    have SA := JA.suite eA dA na nL nF
    refine wpAny_handleBy_cons (codeAny_handlers_test ?_) (by intro q; cases q)
    have LT : PySem.W.Looks (model X.prog X.w) hA (typeOf (.ref a)) cls := fun A Q E s k q => wpAny_typeOf_ref (k _ _ eA) (by rw [zA.1]; exact q)
    have LM := PySem.W.exm_one (M := model X.prog X.w) (JA.kIn) LT hb1
    have test : ∀ {Q : Value → Shared → Prop} {E : Value → Shared → Prop}, Q c { s' with heap := hA } → wpAny (model X.prog X.w) (X.A.mark (some (.ref a))) (eval (.Name x np) X.env) Q E { s' with heap := hA } := fun {Q E} q => by
      obtain ⟨hg, hdbg, hm | ⟨hm, hv, hnn⟩⟩ := hc
      · exact ld_glob (X := X.suite a ((a, oA) :: (X.pn ++ pins))) SA hg hm q hdbg
      · exact ld_blt (X := X.suite a ((a, oA) :: (X.pn ++ pins))) SA hg hm hv q hnn hdbg
    refine test (LM.here ?_)
    cases b with
    | true =>
      refine codeAny_handlers_suite_as ?_
      refine HandSPX.lands_againZ fA fun hC fC uC => ?_
      have JC : Inv X pins σB HB { s' with heap := hC } := J.landed nb fC.1 ((up.trans uA).trans uC) os ag
      obtain ⟨oC, vC, eC, zC, dC⟩ := fC.there
      have SC := JC.suite eC dC na nL nF
      have st : PSs (X.suite a ((a, oC) :: (X.pn ++ pins))) [.Assign [.Name m p1] (.Name n p2) p3] (tAsg (tVar i) (gName j)) :=
        pss_one (ps_set (X := X.suite a ((a, oC) :: (X.pn ++ pins))) (i := j) hN hj (.inl hlm) (pe_var (X := X.suite a ((a, oC) :: (X.pn ++ pins))) (i := i) hi (.inl hln) hdn hcn) hsw (.inr hlm))
      refine store_ok (X := X.suite a ((a, oC) :: (X.pn ++ pins))) (v := .ref a) SC hN hi (.inl hln) rfl (fun s5 S5 => ?_) (.inr hln)
      have hiB : i < σB.length := by rw [J.len]; exact hil
      refine wpAny_mono (st.run [] s5 _ HB { nx := fun σ' H' => σ' = (σB.set i (some (.ref a))).set j (some (.ref a)) ∧ H' = HB, rt := fun _ _ => False } S5 ⟨.ref a, by rw [List.getElem?_set_self hiB], rfl, rfl⟩) (fun fl s6 hsp => ?_) (fun _ _ z => False.elim z)
      cases fl with
      | next =>
        obtain ⟨σ6, H6, S6, e6, e7⟩ := hsp
        subst e6
        subst e7
        have J6 : Inv X pins _ H6 s6 := S6.unsuite ok0
        have P6 : Inv X ((a, oC) :: pins) _ H6 s6 := J6.pins_of fun p hp => by
          rcases List.mem_cons.mp hp with e | hp
          · rw [e]
            exact S6.pin (a, oC) (List.mem_append_left _ List.mem_cons_self)
          · exact J6.pin p (List.mem_append_right _ hp)
        exact gone_ok P6 hN hi hln fun s7 P7 => ⟨_, _, Inv.follow P7 zC dC newE apart, yes rfl a na⟩
      | brk =>
        obtain ⟨_, _, _, q6⟩ := hsp
        exact q6.elim
      | cont =>
        obtain ⟨_, _, _, q6⟩ := hsp
        exact q6.elim
      | ret u =>
        obtain ⟨_, _, _, _, _, q6⟩ := hsp
        exact q6.elim
    | false =>
      show wpAny _ X.A (handleBy (.ref a) X.env []) _ _ _
      refine wpAny_handleBy_nil ?_
      obtain ⟨k1, k2, k3, oe, vs, T, oT, ts', he, hz, hd, h1, hr⟩ := id fA
      unfold PySem.passOn
      refine wpAny_bind (wpAny_field he hd h1 ?_)
      rw [if_neg (show ¬ ((Value.ref T == Value.none) = true) from by simp)]
      have out : wpAny (model X.prog X.w) X.A (setFlight (.ref a) X.env.frame) (fun _ s4 => wpAny (model X.prog X.w) X.A (throw (.ref a) : Sem Flow) (SP X pins D) X.xe s4) X.xe { s' with heap := hA } := by
        rw [hf]
        refine HandSPX.setFlight_upZ fA fun hE hh uE => wpAny_throw (tk _ _ ?_)
        exact ⟨a, B, sI, pins, σB, HB, cls, d, rfl, J, nb, (up.trans uA).trans uE, .inr (.inr (by rw [hs]; exact hh)), na, os, ag, no rfl⟩
      first
        | exact wpAny_bind (wpAny_pure (wpAny_bind out))
        | exact wpAny_bind out
  · cases fl with
    | next =>
      obtain ⟨σE, HE, JE, q⟩ := sp
      exact wpAny_execs_nil ⟨σE, HE, JE.ofTry ok0, q⟩
    | brk =>
      obtain ⟨σE, HE, JE, q⟩ := sp
      exact ⟨σE, HE, JE.ofTry ok0, q⟩
    | cont =>
      obtain ⟨σE, HE, JE, q⟩ := sp
      exact ⟨σE, HE, JE.ofTry ok0, q⟩
    | ret u =>
      obtain ⟨v, σE, HE, JE, r, q⟩ := sp
      exact ⟨v, σE, HE, JE.ofTry ok0, r, q⟩
end
end Dn
/-! Own layer: comprehensions over data; what a change of a list leaves. -/
namespace Dn
open PySem PySem.Spec PyProof.Rows L2
namespace Hv
/-- another thing at an address that is there -/
def pt (V : Hv) (p : Addr) (o : HO) {u : HO} (hp : V.H p = some u) : Hv := ⟨upd V.H p o, V.A, fun a h => by
  by_cases e : a = p
  · rw [e, upd_same]; exact fun z => nomatch z
  · rw [upd_ne e]; exact V.f a h⟩
theorem pt_ne {V : Hv} {p a : Addr} {o u w : HO} {hp : V.H p = some u} (h : V.G a = some w) (n : a ≠ p) : (V.pt p o hp).G a = some w := gOf (by show upd V.H p o a = _; rw [upd_ne n]; exact sub h) (off (V := V) h)
theorem pt_at {V : Hv} {p : Addr} {o u : HO} {hp : V.H p = some u} (h : ¬ V.A p) : (V.pt p o hp).G p = some o := gOf upd_same h
end Hv
mutual
/-- no list in it -/
def noLst : Dt → Bool
  | .raw _ => true
  | .lst _ => false
  | .tup l => noLstL l
  | .dct l => noLstK l
  | .exc _ _ => true
  | .scr _ _ => false
def noLstL : List Dt → Bool
  | [] => true
  | d :: l => noLst d && noLstL l
def noLstK : List (Key × Dt) → Bool
  | [] => true
  | (_, d) :: l => noLst d && noLstK l
end
theorem extv_ne {cls : Value} {d : Option Addr} {a : Addr} {xs : List V} : ExV cls d a ≠ .lst xs := fun z => by
  unfold ExV at z
  cases z
mutual
theorem Den.updL {H : Hv} {D : Addr} {acc ys : List V} (hD : H.G D = some (.lst acc)) {v : V} : ∀ {d : Dt}, Den H v d → noLst d = true → Den (H.pt D (.lst ys) (Hv.sub hD)) v d
  | .raw w, h, _ => by
    rw [h.rawI]
    exact .raw _
  | .lst l, h, n => by
    unfold noLst at n
    cases n
  | .tup l, h, n => by
    unfold noLst at n
    cases h with | tup ha hl => exact .tup (Hv.pt_ne ha (ne_of ha hD (by intro z; cases z))) (hl.updL hD n)
  | .dct l, h, n => by
    unfold noLst at n
    cases h with | dct ha hl => exact .dct (Hv.pt_ne ha (ne_of ha hD (by intro z; cases z))) (hl.updL hD n)
  | .exc _ _, h, n => by
    cases h with
    | exc0 h => exact .exc0 (Hv.pt_ne h (ne_of h hD extv_ne))
    | excD h hd hf => exact .excD (Hv.pt_ne h (ne_of h hD extv_ne)) (Hv.pt_ne hd (ne_of hd hD (by intro z; cases z))) hf
  | .scr _ _, h, n => by
    unfold noLst at n
    cases n
theorem DenL.updL {H : Hv} {D : Addr} {acc ys : List V} (hD : H.G D = some (.lst acc)) : ∀ {l : List Dt} {vs : List V}, DenL H vs l → noLstL l = true → DenL (H.pt D (.lst ys) (Hv.sub hD)) vs l
  | [], vs, h, _ => by
    rw [h.nilI]
    exact .nil
  | d :: l, vs, h, n => by
    unfold noLstL at n
    have n' := Bool.and_eq_true_iff.mp n
    cases h with | cons h t => exact .cons (h.updL hD n'.1) (t.updL hD n'.2)
theorem DenK.updL {H : Hv} {D : Addr} {acc ys : List V} (hD : H.G D = some (.lst acc)) : ∀ {l : List (Key × Dt)} {vs : List (Key × V)}, DenK H vs l → noLstK l = true → DenK (H.pt D (.lst ys) (Hv.sub hD)) vs l
  | [], vs, h, _ => by
    cases h
    exact .nil
  | (k, d) :: l, vs, h, n => by
    unfold noLstK at n
    have n' := Bool.and_eq_true_iff.mp n
    cases h with | cons h t => exact .cons (h.updL hD n'.1) (t.updL hD n'.2)
end
theorem noLstL_app {l m : List Dt} (h1 : noLstL l = true) (h2 : noLstL m = true) : noLstL (l ++ m) = true := by
  induction l with
  | nil => exact h2
  | cons d l ih =>
    unfold noLstL at h1
    have h1' := Bool.and_eq_true_iff.mp h1
    show noLstL (d :: (l ++ m)) = true
    unfold noLstL
    rw [h1'.1, ih h1'.2] <;> rfl
/-! ### the comprehension's own slots -/
theorem wipe_get (σ : L2.St) : ∀ (vs : List Nat) (k : Nat), (wipe σ vs)[k]? = if k ∈ vs then (if k < σ.length then some none else none) else σ[k]?
  | [], k => by simp [wipe]
  | v :: vs, k => by
    have ih := wipe_get σ vs k
    show ((wipe σ vs).set v none)[k]? = _
    by_cases e : v = k
    · subst e
      by_cases hl : v < σ.length
      · rw [List.getElem?_set_self (by rw [wipe_length]; exact hl), if_pos List.mem_cons_self, if_pos hl]
      · rw [List.getElem?_eq_none (by rw [List.length_set, wipe_length]; omega), if_pos List.mem_cons_self, if_neg hl]
    · rw [List.getElem?_set_ne e, ih]
      by_cases h : k ∈ vs
      · rw [if_pos h, if_pos (List.mem_cons_of_mem _ h)]
      · rw [if_neg h, if_neg (fun z => (List.mem_cons.mp z).elim (fun q => e q.symm) h)]
theorem wipe_set {σ : L2.St} {vs : List Nat} {i : Nat} {x : Option V} (h : i ∈ vs) : wipe (σ.set i x) vs = wipe σ vs := by
  apply List.ext_getElem?
  intro k
  rw [wipe_get, wipe_get, List.length_set]
  by_cases hk : k ∈ vs
  · rw [if_pos hk, if_pos hk]
  · rw [if_neg hk, if_neg hk, List.getElem?_set_ne (fun (z : i = k) => hk (by rw [← z]; exact h))]
theorem wipe_wipe (σ : L2.St) (vs : List Nat) : wipe (wipe σ vs) vs = wipe σ vs := by
  apply List.ext_getElem?
  intro k
  rw [wipe_get, wipe_get, wipe_length]
  by_cases hk : k ∈ vs
  · rw [if_pos hk, if_pos hk]
  · rw [if_neg hk]
def wipeD (δ : Sto) : List Nat → Sto
  | [] => δ
  | v :: vs => (wipeD δ vs).set v none
theorem DenS.setN {H : Hv} {σ : L2.St} {δ : Sto} {i : Nat} (S : DenS H σ δ) : DenS H (σ.set i none) (δ.set i none) := by
  refine ⟨by rw [List.length_set, List.length_set, S.len], fun j e hj => ?_⟩
  by_cases hij : i = j
  · subst hij
    by_cases hl : i < δ.length
    · rw [List.getElem?_set_self hl] at hj
      cases hj
    · rw [List.getElem?_eq_none (by rw [List.length_set]; omega)] at hj
      cases hj
  · rw [List.getElem?_set_ne hij] at hj
    rw [List.getElem?_set_ne hij]
    exact S.at_ j e hj
theorem DenS.wiped {H : Hv} {σ : L2.St} {δ : Sto} (S : DenS H σ δ) : ∀ vs : List Nat, DenS H (wipe σ vs) (wipeD δ vs)
  | [] => S
  | _ :: vs => (S.wiped vs).setN
theorem DenS.bare {H : Hv} {σ : L2.St} {n : Nat} (h : σ.length = n) : DenS H σ (List.replicate n none) := ⟨by rw [h, List.length_replicate], fun i d e => by
  rw [List.getElem?_replicate] at e
  split at e <;> cases e⟩
/-- the target takes d: the store δ turns into δ' -/
def GdS (g : TG) (vs : List Nat) (d : Dt) (δ δ' : Sto) : Prop := ∀ (v : V) (σ : L2.St) (H : Hv) (k : L2.St → Hp → Prop), DenS H (wipe σ vs) δ → Den H v d → (∀ σ2, wipe σ2 vs = wipe σ vs → DenS H σ2 δ' → k σ2 H.H) → g v (wipe σ vs) H.H k
section
variable {K : PySem.W.Frag} {δ : Sto} {vs : List Nat} {d x y : Dt} {i j : Nat}
theorem gds_name (h : j ∈ vs) : GdS (gName j) vs d δ (δ.set j (some d)) := fun v σ H k S h1 q => q _ (by rw [wipe_set h, wipe_wipe]) (S.set h1)
theorem gds_two (h : i ∈ vs) (h' : j ∈ vs) : GdS (gTup K 2 (gCons (gName i) (gCons (gName j) gNil))) vs (.tup [x, y]) δ ((δ.set i (some x)).set j (some y)) := fun v σ H k S h1 q => by
  obtain ⟨a, xs, rfl, ha, hl⟩ := h1.tupI
  obtain ⟨v1, r, rfl, dv, dr⟩ := hl.consI
  obtain ⟨v2, r', rfl, dw, dr'⟩ := dr.consI
  obtain rfl := dr'.nilI
  exact ⟨a, _, rfl, SqT.of ha, rfl, v1, _, rfl, v2, _, rfl, rfl, q _ (by rw [wipe_set h', wipe_set h, wipe_wipe]) ((S.set dv).set dw)⟩
theorem ev_lc {tl te : TE} {tt : TT} {g : TG} {ds : List Dt} (f : Dt → Option Dt) (h : EvS tl δ (.lst ds)) (hz : ds.length ≤ 40000) (hn : noLstL (ds.filterMap f) = true)
    (hb : ∀ d, d ∈ ds → ∃ δ' b, GdS g vs d (wipeD δ vs) δ' ∧ EtS tt δ' b ∧ (b = true → ∃ e, EvS te δ' e ∧ f d = some e) ∧ (b = false → f d = none)) : EvS (tLc (iList K tl) g tt te vs) δ (.lst (ds.filterMap f)) := by
  intro σ H Q S q
  refine h σ H _ S fun v H1 e1 d1 => ?_
  obtain ⟨a, xs, rfl, ha, hl⟩ := d1.lstI
  refine ⟨a, rfl, ⟨xs, SqL.of ha⟩, fun D hD => ?_⟩
  have sub : ∀ i, noLstL ((ds.take i).filterMap f) = true := fun i => by
    have e : ds.filterMap f = (ds.take i).filterMap f ++ (ds.drop i).filterMap f := by rw [← List.filterMap_append, List.take_append_drop]
    rw [e] at hn
    clear e
    revert hn
    generalize (ds.take i).filterMap f = l
    intro hn
    induction l with
    | nil => rfl
    | cons d l ih =>
      have hn' : noLstL (d :: (l ++ (ds.drop i).filterMap f)) = true := hn
      unfold noLstL at hn' ⊢
      have h2 := Bool.and_eq_true_iff.mp hn'
      rw [h2.1, ih h2.2] <;> rfl
  refine lc_list (xs := xs) (fun i h' => ∃ H' : Hv, H'.H = h' ∧ Up H1 H' ∧ ∃ acc, H'.G D = some (.lst acc) ∧ DenL H' acc ((ds.take i).filterMap f) ∧ acc.length ≤ i) ⟨H1.nw D _ hD, rfl, Up.new hD, [], Hv.nw_at, by simpa using DenL.nil, Nat.le_refl _⟩ (fun i h' _ p => by obtain ⟨H', rfl, p, _⟩ := p; exact SqL.of (p.e _ _ ha)) (fun i x h' hx p => ?_) fun h' p => ?_
  · obtain ⟨H', rfl, e2, acc, hacc, dacc, lacc⟩ := p
    obtain ⟨d, hd, dx⟩ := hl.getV hx
    obtain ⟨δ', b, hg, ht, hy, hno⟩ := hb d (List.mem_of_getElem? hd)
    have S1 : DenS H' (wipe σ vs) (wipeD δ vs) := (S.mono (e1.trans e2)).wiped vs
    have hil : i < ds.length := (List.getElem?_eq_some_iff.mp hd).1
    have tk : ds.take (i + 1) = ds.take i ++ [d] := by rw [List.take_succ, hd] <;> rfl
    refine hg x σ H' _ S1 (dx.mono e2) fun σ2 w2 S2 => ⟨w2, ht σ2 H' _ S2 fun H3 e3 => ?_⟩
    cases b with
    | true =>
      show te σ2 H3.H _
      obtain ⟨e, he, hf⟩ := hy rfl
      have ft : (ds.take (i + 1)).filterMap f = (ds.take i).filterMap f ++ [e] := by rw [tk, List.filterMap_append, List.filterMap_cons_some hf, List.filterMap_nil]
      refine he σ2 H3 _ (S2.mono e3) fun y H4 e4 dy => ?_
      have h4 := e4.g _ _ (e3.g _ _ hacc)
      refine ⟨acc, Hv.sub h4, Evl.sz_lt (by omega), H4.pt D _ (Hv.sub h4), rfl, ⟨Evl.Ex.mut ((e2.trans e3).trans e4).e hD, ((e2.trans e3).trans e4).a⟩, acc ++ [y], Hv.pt_at (Hv.off h4), ?_, by rw [List.length_append]; exact Nat.add_le_add_right lacc 1⟩
      rw [ft]
      have dall : DenL H4 (acc ++ [y]) ((ds.take i).filterMap f ++ [e]) := (dacc.mono (e3.trans e4)).app (.cons dy .nil)
      refine dall.updL (acc := acc) h4 ?_
      rw [← ft]
      exact sub (i + 1)
    | false =>
      have ft : (ds.take (i + 1)).filterMap f = (ds.take i).filterMap f := by rw [tk, List.filterMap_append, List.filterMap_cons_none (hno rfl), List.filterMap_nil, List.append_nil]
      refine ⟨H3, rfl, e2.trans e3, acc, e3.g _ _ hacc, ?_, Nat.le_succ_of_le lacc⟩
      rw [ft]
      exact dacc.mono e3
  · obtain ⟨H', rfl, e2, acc, hacc, dacc, _⟩ := p
    refine q (.ref D) H' (e1.trans e2) (.lst hacc ?_)
    have e : ds.take xs.length = ds := by rw [hl.len, List.take_length]
    rw [e] at dacc
    exact dacc
theorem ev_lcT {tl te : TE} {tt : TT} {g : TG} {ds : List Dt} (f : Dt → Option Dt) (h : EvS tl δ (.tup ds)) (hz : ds.length ≤ 40000) (hn : noLstL (ds.filterMap f) = true)
    (hb : ∀ d, d ∈ ds → ∃ δ' b, GdS g vs d (wipeD δ vs) δ' ∧ EtS tt δ' b ∧ (b = true → ∃ e, EvS te δ' e ∧ f d = some e) ∧ (b = false → f d = none)) : EvS (tLc (iTup K tl) g tt te vs) δ (.lst (ds.filterMap f)) := by
  intro σ H Q S q
  refine h σ H _ S fun v H1 e1 d1 => ?_
  obtain ⟨a, xs, rfl, ha, hl⟩ := d1.tupI
  refine ⟨a, rfl, ⟨xs, SqT.of ha⟩, fun D hD => ?_⟩
  have sub : ∀ i, noLstL ((ds.take i).filterMap f) = true := fun i => by
    have e : ds.filterMap f = (ds.take i).filterMap f ++ (ds.drop i).filterMap f := by rw [← List.filterMap_append, List.take_append_drop]
    rw [e] at hn
    clear e
    revert hn
    generalize (ds.take i).filterMap f = l
    intro hn
    induction l with
    | nil => rfl
    | cons d l ih =>
      have hn' : noLstL (d :: (l ++ (ds.drop i).filterMap f)) = true := hn
      unfold noLstL at hn' ⊢
      have h2 := Bool.and_eq_true_iff.mp hn'
      rw [h2.1, ih h2.2] <;> rfl
  refine lc_tup (xs := xs) (fun i h' => ∃ H' : Hv, H'.H = h' ∧ Up H1 H' ∧ ∃ acc, H'.G D = some (.lst acc) ∧ DenL H' acc ((ds.take i).filterMap f) ∧ acc.length ≤ i) ⟨H1.nw D _ hD, rfl, Up.new hD, [], Hv.nw_at, by simpa using DenL.nil, Nat.le_refl _⟩ (fun i h' _ p => by obtain ⟨H', rfl, p, _⟩ := p; exact SqT.of (p.e _ _ ha)) (fun i x h' hx p => ?_) fun h' p => ?_
  · obtain ⟨H', rfl, e2, acc, hacc, dacc, lacc⟩ := p
    obtain ⟨d, hd, dx⟩ := hl.getV hx
    obtain ⟨δ', b, hg, ht, hy, hno⟩ := hb d (List.mem_of_getElem? hd)
    have S1 : DenS H' (wipe σ vs) (wipeD δ vs) := (S.mono (e1.trans e2)).wiped vs
    have hil : i < ds.length := (List.getElem?_eq_some_iff.mp hd).1
    have tk : ds.take (i + 1) = ds.take i ++ [d] := by rw [List.take_succ, hd] <;> rfl
    refine hg x σ H' _ S1 (dx.mono e2) fun σ2 w2 S2 => ⟨w2, ht σ2 H' _ S2 fun H3 e3 => ?_⟩
    cases b with
    | true =>
      show te σ2 H3.H _
      obtain ⟨e, he, hf⟩ := hy rfl
      have ft : (ds.take (i + 1)).filterMap f = (ds.take i).filterMap f ++ [e] := by rw [tk, List.filterMap_append, List.filterMap_cons_some hf, List.filterMap_nil]
      refine he σ2 H3 _ (S2.mono e3) fun y H4 e4 dy => ?_
      have h4 := e4.g _ _ (e3.g _ _ hacc)
      refine ⟨acc, Hv.sub h4, Evl.sz_lt (by omega), H4.pt D _ (Hv.sub h4), rfl, ⟨Evl.Ex.mut ((e2.trans e3).trans e4).e hD, ((e2.trans e3).trans e4).a⟩, acc ++ [y], Hv.pt_at (Hv.off h4), ?_, by rw [List.length_append]; exact Nat.add_le_add_right lacc 1⟩
      rw [ft]
      have dall : DenL H4 (acc ++ [y]) ((ds.take i).filterMap f ++ [e]) := (dacc.mono (e3.trans e4)).app (.cons dy .nil)
      refine dall.updL (acc := acc) h4 ?_
      rw [← ft]
      exact sub (i + 1)
    | false =>
      have ft : (ds.take (i + 1)).filterMap f = (ds.take i).filterMap f := by rw [tk, List.filterMap_append, List.filterMap_cons_none (hno rfl), List.filterMap_nil, List.append_nil]
      refine ⟨H3, rfl, e2.trans e3, acc, e3.g _ _ hacc, ?_, Nat.le_succ_of_le lacc⟩
      rw [ft]
      exact dacc.mono e3
  · obtain ⟨H', rfl, e2, acc, hacc, dacc, _⟩ := p
    refine q (.ref D) H' (e1.trans e2) (.lst hacc ?_)
    have e : ds.take xs.length = ds := by rw [hl.len, List.take_length]
    rw [e] at dacc
    exact dacc
end
end Dn
/-! Own layer: what the laws' small defs reckon, as plain functions of ints. -/
namespace Dn
open PySem PySem.Spec PyProof.Rows L2
def mixed (c k : Int) : Int := ((c % 1000000007 + 7919 * k + 11) % 1000003) * ((c % 1000000007 + 7919 * k + 11) % 1000003) % 1000003 * ((c % 1000000007 + 7919 * k + 11) % 1000003) % 1000003
theorem mixed_lo (c k : Int) : 0 ≤ mixed c k := by unfold mixed; omega
theorem mixed_hi (c k : Int) : mixed c k < 1000003 := by unfold mixed; omega
def wide (c k : Int) : Int := c % 10 ^ 40 * 1000003 ^ 2 + mixed c k * 1000003 + mixed c (k + 50)
theorem wide_lo (c k : Int) : 0 ≤ wide c k := by
  have h1 := mixed_lo c k
  have h2 := mixed_lo c (k + 50)
  have h3 : 0 ≤ c % 10 ^ 40 := Int.emod_nonneg _ (by decide)
  unfold wide
  omega
theorem wide_hi (c k : Int) : wide c k < 2 ^ 180 := by
  have h1 := mixed_hi c k
  have h2 := mixed_hi c (k + 50)
  have h3 : c % 10 ^ 40 < 10 ^ 40 := Int.emod_lt_of_pos _ (by decide)
  unfold wide
  omega
theorem nat2 {i : Int} {a : Nat} (h0 : -(2 ^ a : Int) < i) (h1 : i < 2 ^ a) : i.natAbs < 2 ^ a := by
  have e : ((2 ^ a : Nat) : Int) = (2 : Int) ^ a := by simp
  omega
theorem cmw {i j : Int} (a b : Nat) (hi : -(2 ^ a : Int) < i ∧ i < 2 ^ a) (hj : -(2 ^ b : Int) < j ∧ j < 2 ^ b) (h0 : 0 < a := by decide) (h1 : 0 < b := by decide) (h : a + b ≤ 1000000 := by decide) : CMulW i j :=
  wide_mul (nat2 hi.1 hi.2) (nat2 hj.1 hj.2) h0 h1 h
theorem cm64 {i j : Int} (hi : -18446744073709551616 < i ∧ i < 18446744073709551616) (hj : -18446744073709551616 < j ∧ j < 18446744073709551616) : CMulW i j :=
  cmw 64 64 ⟨by omega, by omega⟩ ⟨by omega, by omega⟩
theorem cdw {i j : Int} (b : Nat) (h : 0 < j) (hb : j < 2 ^ b) (h0 : 0 < b := by decide) (h9 : b ≤ 9000 := by decide) : CDivW i j := wide_div (i := i) h (nat2 (by have : (0 : Int) ≤ 2 ^ b := Int.le_of_lt (Int.pow_pos (by decide)); omega) hb) h0 h9
def few (n : Int) : Int := 1 + n / 9 % 12
def smooth (n : Int) : Int := ([2, 3, 4, 5, 6, 7, 9, 10] : List Int).getD (n / 9 % 8).toNat 0 * ([2, 3, 5, 6, 8, 9, 11, 12] : List Int).getD (n / 100 % 8).toNat 0
def hoursL (c k n : Int) : List Int := [few n, few n, smooth n, smooth n * ([10, 49, 72, 1000] : List Int).getD (n / 1000 % 4).toNat 0, 1 + wide c (k + 1) % 10 ^ 30, 1 + wide c (k + 1) % 10 ^ 30, 10 ^ 30, few n, 1]
def hours (c k : Int) : Int := (hoursL c k (mixed c k)).getD (mixed c k % 9).toNat 0
theorem getD_all {P : Int → Prop} {l : List Int} (h : ∀ x ∈ l, P x) {i : Nat} (hi : i < l.length) : P (l.getD i 0) := by
  rw [List.getD_eq_getElem?_getD, List.getElem?_eq_getElem hi]
  exact h _ (List.getElem_mem hi)
theorem smooth_in (n : Int) : 4 ≤ smooth n ∧ smooth n ≤ 120 := by
  have h1 : 2 ≤ ([2, 3, 4, 5, 6, 7, 9, 10] : List Int).getD (n / 9 % 8).toNat 0 ∧ ([2, 3, 4, 5, 6, 7, 9, 10] : List Int).getD (n / 9 % 8).toNat 0 ≤ 10 :=
    getD_all (P := fun x => 2 ≤ x ∧ x ≤ 10) (by decide) (by show _ < 8; omega)
  have h2 : 2 ≤ ([2, 3, 5, 6, 8, 9, 11, 12] : List Int).getD (n / 100 % 8).toNat 0 ∧ ([2, 3, 5, 6, 8, 9, 11, 12] : List Int).getD (n / 100 % 8).toNat 0 ≤ 12 :=
    getD_all (P := fun x => 2 ≤ x ∧ x ≤ 12) (by decide) (by show _ < 8; omega)
  unfold smooth
  generalize ([2, 3, 4, 5, 6, 7, 9, 10] : List Int).getD (n / 9 % 8).toNat 0 = a at *
  generalize ([2, 3, 5, 6, 8, 9, 11, 12] : List Int).getD (n / 100 % 8).toNat 0 = b at *
  refine ⟨Int.mul_le_mul h1.1 h2.1 (by decide) (by omega), Int.mul_le_mul h1.2 h2.2 (by omega) (by decide)⟩
theorem more_in (n : Int) : 10 ≤ ([10, 49, 72, 1000] : List Int).getD (n / 1000 % 4).toNat 0 ∧ ([10, 49, 72, 1000] : List Int).getD (n / 1000 % 4).toNat 0 ≤ 1000 :=
  getD_all (P := fun x => 10 ≤ x ∧ x ≤ 1000) (by decide) (by show _ < 4; omega)
theorem smore_in (n : Int) : 40 ≤ smooth n * ([10, 49, 72, 1000] : List Int).getD (n / 1000 % 4).toNat 0 ∧ smooth n * ([10, 49, 72, 1000] : List Int).getD (n / 1000 % 4).toNat 0 ≤ 120000 := by
  have h1 := smooth_in n
  have h2 := more_in n
  exact ⟨Int.mul_le_mul h1.1 h2.1 (by decide) (by omega), Int.mul_le_mul h1.2 h2.2 (by omega) (by decide)⟩
theorem hoursL_in (c k n : Int) : ∀ x ∈ hoursL c k n, 1 ≤ x ∧ x ≤ 1000000000000000000000000000000 := by
  have h1 := smooth_in n
  have h2 := smore_in n
  have e : (10 : Int) ^ 30 = 1000000000000000000000000000000 := by decide +kernel
  have hf : 1 ≤ few n ∧ few n ≤ 12 := by unfold few; omega
  intro x hx
  unfold hoursL at hx
  simp only [List.mem_cons, List.not_mem_nil, or_false] at hx
  rw [e] at hx
  rcases hx with h | h | h | h | h | h | h | h | h <;> rw [h] <;> omega
theorem hours_in (c k : Int) : 1 ≤ hours c k ∧ hours c k ≤ 1000000000000000000000000000000 := by
  have h1 := mixed_lo c k
  exact getD_all (P := fun x => 1 ≤ x ∧ x ≤ 1000000000000000000000000000000) (hoursL_in c k _) (by show _ < 9; omega)
def turnL (c k n : Int) : List Int := [n / 6 % 50, -1 - n / 6 % 50, wide c (k + 3), 0 - wide c (k + 3), 0, wide c (k + 3) * wide c (k + 3)]
def turn (c k : Int) : Int := (turnL c k (mixed c k)).getD (mixed c k % 6).toNat 0
def clockH (c k : Int) : Int := ([0, hours c k - 1, wide c (k + 4) % hours c k] : List Int).getD (mixed c (k + 2) % 3).toNat 0
theorem clockH_in (c k : Int) : 0 ≤ clockH c k ∧ clockH c k < hours c k := by
  have h := hours_in c k
  have m := mixed_lo c (k + 2)
  refine getD_all (P := fun x => 0 ≤ x ∧ x < hours c k) (fun x hx => ?_) (by show _ < 3; omega)
  have h3 : 0 ≤ wide c (k + 4) % hours c k := Int.emod_nonneg _ (by omega)
  have h4 : wide c (k + 4) % hours c k < hours c k := Int.emod_lt_of_pos _ (by omega)
  simp only [List.mem_cons, List.not_mem_nil, or_false] at hx
  rcases hx with e | e | e <;> rw [e] <;> omega
theorem turn_in (c k : Int) : -(2 ^ 400 : Int) < turn c k ∧ turn c k < 2 ^ 400 := by
  have m := mixed_lo c k
  have w0 := wide_lo c (k + 3)
  have w1 := wide_hi c (k + 3)
  have w2 : wide c (k + 3) * wide c (k + 3) ≤ 2 ^ 180 * 2 ^ 180 := Int.mul_le_mul (Int.le_of_lt w1) (Int.le_of_lt w1) w0 (by decide +kernel)
  have w3 : 0 ≤ wide c (k + 3) * wide c (k + 3) := Int.mul_nonneg w0 w0
  refine getD_all (P := fun x => -(2 ^ 400 : Int) < x ∧ x < 2 ^ 400) (fun x hx => ?_) (by show _ < 6; omega)
  unfold turnL at hx
  simp only [List.mem_cons, List.not_mem_nil, or_false] at hx
  generalize wide c (k + 3) * wide c (k + 3) = ww at *
  generalize wide c (k + 3) = ww1 at *
  rcases hx with e | e | e | e | e | e <;> rw [e] <;> omega
/-- an item of a written list of ints -/
theorem od_ixI {K : PySem.W.Frag} {l : List Int} {i : Int} (h0 : 0 ≤ i) (h1 : i < (l.length : Int)) : OpD (rIx K) (.lst (l.map dI)) (dI i) (dI (l.getD i.toNat 0)) := by
  refine od_ixSeqL h0 ?_
  have hi : i.toNat < l.length := by omega
  rw [List.getElem?_map, List.getD_eq_getElem?_getD, List.getElem?_eq_getElem hi]
  rfl
end Dn
namespace Dn
open PySem PySem.Spec PyProof.Rows L2
section
variable {K : PySem.W.Frag} {d : Dt} {ds : List Dt} {δ : Sto} {E : XK}
theorem ca_lenUL : CaD (rLenU K) [.lst ds] (dI ds.length) := fun vs H Q h1 q => .inl (ca_lenL vs H Q h1 q)
theorem ca_lenUT : CaD (rLenU K) [.tup ds] (dI ds.length) := fun vs H Q h1 q => .inl (ca_lenT vs H Q h1 q)
theorem ev_callX {n : Nat} {P : List Dt → Prop} {f : List Dt → Rs} {ta : TA} (h : EaS ta δ ds) (hn : ds.length = n) (hp : P ds) (hf : f ds = .ok d) : EvS (tCall (spX n P f) [] E ta) δ d := fun σ H Q S q =>
  evx_call (E := E) h hn hp σ H Q S (fun d' e v H' e1 d1 => by
    rw [hf] at e
    cases e
    exact q v H' e1 d1) fun C e => by
    rw [hf] at e
    cases e
end
def kk (m : Int) : List Dt → Prop := fun ds => ∃ c k : Int, ds = [dI c, dI k] ∧ 0 ≤ k ∧ k ≤ m
def ii (f : Int → Int → Int) : List Dt → Dt
  | [.raw (.int c), .raw (.int k)] => dI (f c k)
  | _ => dN
abbrev spMixed : Sp := spD 2 (kk 100000) (ii mixed)
abbrev spWide : Sp := spD 2 (kk 99000) (ii wide)
abbrev spHours : Sp := spD 2 (kk 98000) (ii hours)
abbrev spTurn : Sp := spD 2 (kk 98000) (ii turn)
def clockD (ds : List Dt) : Dt := match ds with
  | [.raw (.int c), .raw (.int k)] => .tup [dI (hours c k), dI (clockH c k)]
  | _ => dN
abbrev spClock : Sp := spD 2 (kk 97000) clockD
abbrev spWhole : Sp := spD 1 (fun ds => ∃ i : Int, ds = [dI i]) (fun _ => dB true)
def isNum (d : Dt) : Bool := tyD d == some "int"
def isNumD (ds : List Dt) : Dt := match ds with | [d] => dB (isNum d) | _ => dN
def one (p : Dt → Prop) : List Dt → Prop := fun ds => ∃ d, ds = [d] ∧ p d
abbrev spNum : Sp := spD 1 (one fun d => ∃ T, tyD d = some T) isNumD
theorem isNum_of {d : Dt} {T : String} (h : tyD d = some T) : isNum d = decide (T = "int") := by
  unfold isNum
  rw [h]
  by_cases e : T = "int"
  · subst e
    rfl
  · rw [decide_eq_false e]
    simpa using e
theorem isNum_int {d : Dt} (h : isNum d = true) : ∃ i, d = dI i := by
  unfold isNum at h
  cases d with
  | raw v => cases v <;> simp [tyD] at h <;> exact ⟨_, rfl⟩
  | _ => simp [tyD] at h
def isClock : Dt → Bool
  | .tup [.raw (.int h), .raw (.int x)] => decide (1 ≤ h) && decide (h ≤ 1000000000000000000000000000000) && (decide (0 ≤ x) && decide (x < h))
  | _ => false
/-- what is_clock is asked of: its type is known, of a pair the types of its two -/
def okTh (d : Dt) : Prop := (∃ T, tyD d = some T) ∧ ∀ a b, d = .tup [a, b] → (∃ T, tyD a = some T) ∧ ∃ T, tyD b = some T
theorem isClock_not {d : Dt} {T : String} (h : tyD d = some T) (hT : T ≠ "tuple") : isClock d = false := by
  cases d with
  | tup l =>
    have e : some "tuple" = some T := h
    cases e
    exact absurd rfl hT
  | _ => rfl
theorem isClock_len {l : List Dt} (h : l.length ≠ 2) : isClock (.tup l) = false := by
  unfold isClock
  split
  · rename_i q
    cases q
    exact absurd rfl h
  · rfl
theorem isClock_num {a b : Dt} (h : isNum a = false ∨ isNum b = false) : isClock (.tup [a, b]) = false := by
  unfold isClock
  split
  · rename_i q
    cases q
    rcases h with h | h <;> cases h
  · rfl
abbrev spIsClock : Sp := spD 1 (one okTh) (fun ds => match ds with | [d] => dB (isClock d) | _ => dN)
abbrev spNeedClock (CB : Addr) : Sp := spX 1 (one okTh) (fun ds => match ds with | [d] => if isClock d = true then .ok dN else .error CB | _ => .ok dN)
abbrev spNeedTurn (CT : Addr) : Sp := spX 1 (one fun d => ∃ T, tyD d = some T) (fun ds => match ds with | [d] => if isNum d = true then .ok dN else .error CT | _ => .ok dN)
def showsD : Dt → Dt → Dt
  | .tup [.raw (.int h), _], .raw (.int t) => dI (t % h)
  | _, _ => dN
def rightD : Dt → Dt → Dt
  | .tup [.raw (.int h), .raw (.int x)], .raw (.int t) => dB (decide (t % h = x))
  | _, _ => dN
def ckTurn (CB CT : Addr) (f : Dt → Dt → Dt) (ds : List Dt) : Rs := match ds with
  | [c, t] => if isClock c = true then (if isNum t = true then .ok (f c t) else .error CT) else .error CB
  | _ => .ok dN
def pTurn (ds : List Dt) : Prop := ∃ c t, ds = [c, t] ∧ okTh c ∧ ∃ T, tyD t = some T
abbrev spShows (CB CT : Addr) : Sp := spX 2 pTurn (ckTurn CB CT showsD)
abbrev spRight (CB CT : Addr) : Sp := spX 2 pTurn (ckTurn CB CT rightD)
theorem isClock_inv {d : Dt} (h : isClock d = true) : ∃ n x : Int, d = .tup [dI n, dI x] ∧ 1 ≤ n ∧ n ≤ 1000000000000000000000000000000 ∧ 0 ≤ x ∧ x < n := by
  unfold isClock at h
  split at h
  · simp only [Bool.and_eq_true, decide_eq_true_eq] at h
    exact ⟨_, _, rfl, h.1.1, h.1.2, h.2.1, h.2.2⟩
  · cases h
theorem okTh_clock (h x : Int) : okTh (.tup [dI h, dI x]) := ⟨⟨_, rfl⟩, fun a b e => by cases e; exact ⟨⟨_, rfl⟩, ⟨_, rfl⟩⟩⟩
theorem isClock_good {h x : Int} (h1 : 1 ≤ h) (h2 : h ≤ 1000000000000000000000000000000) (x0 : 0 ≤ x) (x1 : x < h) : isClock (.tup [dI h, dI x]) = true := by
  unfold isClock
  simp [h1, h2, x0, x1]
/-! what is no clock, no turn -/
def odd11 (h x : Int) : List Dt := [dN, dI 5, dS "12", .lst [dI h, dI x], .tup [dI h], .tup [dI h, dI x, dI 0], .tup [dI 0, dI 0], .tup [dI (-1), dI 0], .tup [dI h, dI h], .tup [dI h, dI (-1)], .dct []]
def odd7 (h n : Int) : List Dt := [.tup [dI h, dN], .tup [dS "1", dI 0], .tup [dB true, dI 0], .tup [dI h, dB false], .tup [dI (10 ^ 30 + 1 + n), dI 0], .tup [.lst [dI h], dI 0], .tup []]
def oddClock (h x n : Int) : Dt := (odd11 h x ++ odd7 h n).getD (n % 18).toNat dN
theorem getDD_all {P : Dt → Prop} {l : List Dt} (h : ∀ x ∈ l, P x) {i : Nat} (hi : i < l.length) : P (l.getD i dN) := by
  rw [List.getD_eq_getElem?_getD, List.getElem?_eq_getElem hi]
  exact h _ (List.getElem_mem hi)
theorem oddClock_is {h x n : Int} (hn : 0 ≤ n) (h1 : 1 ≤ h) : okTh (oddClock h x n) ∧ isClock (oddClock h x n) = false := by
  refine getDD_all (P := fun d => okTh d ∧ isClock d = false) (fun d hd => ?_) (by show _ < 18; omega)
  have e : (10 : Int) ^ 30 = 1000000000000000000000000000000 := by decide +kernel
  rcases List.mem_append.mp hd with hd | hd
  · unfold odd11 at hd
    simp only [List.mem_cons, List.not_mem_nil, or_false] at hd
    rcases hd with q | q | q | q | q | q | q | q | q | q | q <;> subst q <;> refine ⟨⟨⟨_, rfl⟩, fun a b z => ?_⟩, ?_⟩ <;> first | rfl | (cases z; exact ⟨⟨_, rfl⟩, ⟨_, rfl⟩⟩) | (cases z; done) | (unfold isClock; simp)
  · unfold odd7 at hd
    simp only [List.mem_cons, List.not_mem_nil, or_false] at hd
    rw [e] at hd
    rcases hd with q | q | q | q | q | q | q <;> subst q <;> refine ⟨⟨⟨_, rfl⟩, fun a b z => ?_⟩, ?_⟩ <;> first | rfl | (cases z; exact ⟨⟨_, rfl⟩, ⟨_, rfl⟩⟩) | (cases z; done) | (unfold isClock; simp; omega)
def odd8 : List Dt := [dN, dB true, dS "1", .lst [dI 1], .tup [dI 1], .dct [], dB false, dS ""]
def oddTurn (n : Int) : Dt := odd8.getD (n % 8).toNat dN
theorem oddTurn_is {n : Int} : okTh (oddTurn n) ∧ isClock (oddTurn n) = false ∧ isNum (oddTurn n) = false := by
  refine getDD_all (P := fun d => okTh d ∧ isClock d = false ∧ isNum d = false) (fun d hd => ?_) (by show _ < 8; omega)
  unfold odd8 at hd
  simp only [List.mem_cons, List.not_mem_nil, or_false] at hd
  rcases hd with q | q | q | q | q | q | q | q <;> subst q <;> refine ⟨⟨⟨_, rfl⟩, fun a b z => ?_⟩, rfl, rfl⟩ <;> cases z
theorem od_ixD {K : PySem.W.Frag} {l : List Dt} {i : Int} (h0 : 0 ≤ i) (h1 : i < (l.length : Int)) : OpD (rIx K) (.lst l) (dI i) (l.getD i.toNat dN) := by
  refine od_ixSeqL h0 ?_
  have hi : i.toNat < l.length := by omega
  rw [List.getD_eq_getElem?_getD, List.getElem?_eq_getElem hi]
  rfl
abbrev spOddClock : Sp := spD 2 (fun ds => ∃ h x n : Int, ds = [.tup [dI h, dI x], dI n] ∧ 0 ≤ n) (fun ds => match ds with | [.tup [.raw (.int h), .raw (.int x)], .raw (.int n)] => oddClock h x n | _ => dN)
abbrev spOddTurn : Sp := spD 1 (fun ds => ∃ n : Int, ds = [dI n]) (fun ds => match ds with | [.raw (.int n)] => oddTurn n | _ => dN)
def pGood (ds : List Dt) : Prop := ∃ h x t : Int, ds = [.tup [dI h, dI x], dI t] ∧ 1 ≤ h ∧ h ≤ 1000000000000000000000000000000 ∧ 0 ≤ x ∧ x < h
abbrev spGood : Sp := spD 2 pGood (fun _ => dB true)
end Dn
/-! Own layer: the words of a refusal. -/
namespace Dn
open PySem PySem.Spec PyProof.Rows L2
/-- whether the class D is under C -/
def under (K : PySem.W.Frag) (D C : Addr) : Bool := PySem.W.kitOne K (.ref D) (.ref C) == some true
/-- a refusal without fields: each of the classes answers -/
structure WordOf (K : PySem.W.Frag) (CB CT CN CM CW CV CX D : Addr) : Prop where
  ec : ExcC K D
  q1 : PySem.W.kitOne K (.ref D) (.ref CB) = some (under K D CB)
  q2 : PySem.W.kitOne K (.ref D) (.ref CT) = some (under K D CT)
  q3 : PySem.W.kitOne K (.ref D) (.ref CN) = some (under K D CN)
  q4 : PySem.W.kitOne K (.ref D) (.ref CM) = some (under K D CM)
  q5 : PySem.W.kitOne K (.ref D) (.ref CW) = some (under K D CW)
  q6 : PySem.W.kitOne K (.ref D) (.ref CV) = some false
  q7 : PySem.W.kitOne K (.ref D) (.ref CX) = some false
  q8 : PySem.W.kitOne K (.ref D) (.type "ValueError") = some true
def wordP (K : PySem.W.Frag) (D : Addr) (s : Str) (C : Addr) : Dt := .tup [dS s, dB (under K D C)]
def wordF : Dt → Option Dt
  | .tup [x, .raw (.bl true)] => some x
  | _ => none
def wordsOf (K : PySem.W.Frag) (CB CT CN CM CW D : Addr) : List Dt := [wordP K D "clock" CB, wordP K D "turn" CT, wordP K D "none" CN, wordP K D "many" CM, wordP K D "wall" CW].filterMap wordF
theorem wordF_tup {x : Dt} {b : Bool} : wordF (.tup [x, dB b]) = if b = true then some x else none := by cases b <;> rfl
theorem noLst_words {K : PySem.W.Frag} {CB CT CN CM CW D : Addr} : noLstL (wordsOf K CB CT CN CM CW D) = true := by
  unfold wordsOf wordP
  cases under K D CB <;> cases under K D CT <;> cases under K D CN <;> cases under K D CM <;> cases under K D CW <;> rfl
def pWord (K : PySem.W.Frag) (CB CT CN CM CW CV CX : Addr) (ds : List Dt) : Prop := ∃ D, ds = [.exc D []] ∧ WordOf K CB CT CN CM CW CV CX D
def wordD (K : PySem.W.Frag) (CB CT CN CM CW : Addr) (ds : List Dt) : Dt := match ds with | [.exc D []] => .lst (wordsOf K CB CT CN CM CW D) | _ => dN
abbrev spWord (K : PySem.W.Frag) (CB CT CN CM CW CV CX : Addr) : Sp := spD 1 (pWord K CB CT CN CM CW CV CX) (wordD K CB CT CN CM CW)
theorem ca_isEx {K : PySem.W.Frag} {D C : Addr} {b : Bool} (E : ExcC K D) (h : PySem.W.kitOne K (.ref D) (.ref C) = some b) : CaD (rIsU K) [.exc D [], .raw (.ref C)] (dB b) := fun vs H Q h1 q => by
  obtain ⟨v, r, rfl, hd, hn⟩ := h1.consI
  obtain ⟨v2, r2, rfl, hd2, hn2⟩ := hn.consI
  obtain rfl := hn2.nilI
  obtain rfl := hd2.rawI
  cases hd with
  | exc0 ha => exact ca_isE (.own C) E h (Hv.sub ha) (q _ H exR (.raw _))
  | excD ha hd hf => exact absurd rfl hf
theorem ca_isExT {K : PySem.W.Frag} {D : Addr} {T : String} {b : Bool} (E : ExcC K D) (h : PySem.W.kitOne K (.ref D) (.type T) = some b) : CaD (rIsU K) [.exc D [], .raw (.ty T)] (dB b) := fun vs H Q h1 q => by
  obtain ⟨v, r, rfl, hd, hn⟩ := h1.consI
  obtain ⟨v2, r2, rfl, hd2, hn2⟩ := hn.consI
  obtain rfl := hn2.nilI
  obtain rfl := hd2.rawI
  cases hd with
  | exc0 ha => exact ca_isE (.ty T) E h (Hv.sub ha) (q _ H exR (.raw _))
  | excD ha hd hf => exact absurd rfl hf
end Dn
namespace Dn
open PySem PySem.Spec PyProof.Rows L2
theorem under_of {K : PySem.W.Frag} {D C : Addr} {b : Bool} (h : PySem.W.kitOne K (.ref D) (.ref C) = some b) : under K D C = b := by
  unfold under
  rw [h]
  cases b <;> rfl
theorem kit_under {K : PySem.W.Frag} {D C : Addr} {b : Bool} (h : PySem.W.kitOne K (.ref D) (.ref C) = some b) : PySem.W.kitOne K (.ref D) (.ref C) = some (under K D C) := by rw [under_of h]; exact h
theorem excC_mk {K : PySem.W.Frag} {D : Addr} (h1 : PySem.W.findIn K (.ref D) "__getattribute__" = some (some (.builtin "BaseException.__getattribute__"))) (h2 : PySem.W.findIn K (.ref D) "__getattr__" = some none) (h3 : PySem.W.subIn K (.ref D) (.type "BaseException") = some true) (h4 : PySem.W.hasDictIn K D = true)
    (h5 : PySem.W.findIn K (.ref D) "__class__" = some (some (.builtin "object.__class__"))) (h6 : PySem.W.specialIn K (.builtin "object.__class__") "__get__" = some (some (.builtin "getset_descriptor.__get__"))) (h7 : PySem.W.takesIn K (.builtin "object.__class__") = some true) (h8 : PySem.W.mroIn K D (.type "object") = some true) : ExcC K D := ⟨h1, h2, h3, h4, h5, h6, h7, h8⟩
theorem wordOf_mk {K : PySem.W.Frag} {CB CT CN CM CW CV CX D : Addr} {b1 b2 b3 b4 b5 : Bool} (ec : ExcC K D) (q1 : PySem.W.kitOne K (.ref D) (.ref CB) = some b1) (q2 : PySem.W.kitOne K (.ref D) (.ref CT) = some b2) (q3 : PySem.W.kitOne K (.ref D) (.ref CN) = some b3) (q4 : PySem.W.kitOne K (.ref D) (.ref CM) = some b4) (q5 : PySem.W.kitOne K (.ref D) (.ref CW) = some b5)
    (q6 : PySem.W.kitOne K (.ref D) (.ref CV) = some false) (q7 : PySem.W.kitOne K (.ref D) (.ref CX) = some false) (q8 : PySem.W.kitOne K (.ref D) (.type "ValueError") = some true) : WordOf K CB CT CN CM CW CV CX D :=
  ⟨ec, kit_under q1, kit_under q2, kit_under q3, kit_under q4, kit_under q5, q6, q7, q8⟩
theorem words_mk {K : PySem.W.Frag} {CB CT CN CM CW D : Addr} {b1 b2 b3 b4 b5 : Bool} (q1 : PySem.W.kitOne K (.ref D) (.ref CB) = some b1) (q2 : PySem.W.kitOne K (.ref D) (.ref CT) = some b2) (q3 : PySem.W.kitOne K (.ref D) (.ref CN) = some b3) (q4 : PySem.W.kitOne K (.ref D) (.ref CM) = some b4) (q5 : PySem.W.kitOne K (.ref D) (.ref CW) = some b5) :
    wordsOf K CB CT CN CM CW D = ([.tup [dS "clock", dB b1], .tup [dS "turn", dB b2], .tup [dS "none", dB b3], .tup [dS "many", dB b4], .tup [dS "wall", dB b5]] : List Dt).filterMap wordF := by
  unfold wordsOf wordP
  rw [under_of q1, under_of q2, under_of q3, under_of q4, under_of q5]
end Dn
/-! Own layer: the fold of two clocks, as plain functions of ints. -/
namespace Dn
/-- the steps of Euclid, with a factor -/
def euc (r nr f nf : Int) : Int := if h : 0 < nr then euc nr (r - r / nr * nr) nf (f - r / nr * nf) else f
termination_by nr.toNat
decreasing_by
  have h1 : r - r / nr * nr = r % nr := by
    have := Int.emod_add_mul_ediv r nr
    have e : r / nr * nr = nr * (r / nr) := Int.mul_comm _ _
    omega
  have h2 := Int.emod_lt_of_pos r h
  have h3 := Int.emod_nonneg r (show nr ≠ 0 by omega)
  omega
def invm (a m : Int) : Int := euc a m 1 0
theorem sub_mod (r nr : Int) : r - r / nr * nr = r % nr := by
  have := Int.emod_add_mul_ediv r nr
  have e : r / nr * nr = nr * (r / nr) := Int.mul_comm _ _
  omega
/-- what holds between two steps -/
structure Euc (a m r nr f nf : Int) : Prop where
  r1 : 1 ≤ r
  n0 : 0 ≤ nr
  cap : nf.natAbs * r.natAbs + f.natAbs * nr.natAbs ≤ m.natAbs
  fm : f.natAbs ≤ m.natAbs
  g : Int.gcd r nr = Int.gcd a m
  dr : m ∣ r - a * f
  dn : m ∣ nr - a * nf
  rm : r ≤ a ∨ r ≤ m
  nm : nr ≤ m
theorem Euc.nfm {a m r nr f nf : Int} (h : Euc a m r nr f nf) : nf.natAbs ≤ m.natAbs := by
  have h1 := h.cap
  have h2 := h.r1
  have h3 : nf.natAbs * 1 ≤ nf.natAbs * r.natAbs := Nat.mul_le_mul_left _ (by omega)
  omega
theorem Euc.start {a m : Int} (ha : 1 ≤ a) (hm : 1 ≤ m) : Euc a m a m 1 0 := by
  refine ⟨ha, by omega, ?_, ?_, rfl, ?_, ?_, .inl (Int.le_refl _), Int.le_refl _⟩
  · show 0 * _ + 1 * _ ≤ _
    omega
  · show 1 ≤ _
    omega
  · exact ⟨0, by omega⟩
  · exact ⟨1, by omega⟩
theorem Euc.step {a m r nr f nf : Int} (h : Euc a m r nr f nf) (hn : 0 < nr) : Euc a m nr (r - r / nr * nr) nf (f - r / nr * nf) := by
  have e := sub_mod r nr
  have h0 := Int.emod_nonneg r (show nr ≠ 0 by omega)
  have h1 := Int.emod_lt_of_pos r hn
  have q0 : 0 ≤ r / nr := Int.ediv_nonneg (by have := h.r1; omega) (by omega)
  refine ⟨by omega, by omega, ?_, h.nfm, ?_, h.dn, ?_, .inr h.nm, ?_⟩
  · rw [e]
    have hr : r.natAbs = nr.natAbs * (r / nr).natAbs + (r % nr).natAbs := by
      have e1 := Int.emod_add_mul_ediv r nr
      have e2 : (nr * (r / nr)).natAbs = nr.natAbs * (r / nr).natAbs := Int.natAbs_mul _ _
      have e3 : 0 ≤ nr * (r / nr) := Int.mul_nonneg (by omega) q0
      omega
    have hf : (f - r / nr * nf).natAbs ≤ f.natAbs + (r / nr).natAbs * nf.natAbs := by
      have e2 : (r / nr * nf).natAbs = (r / nr).natAbs * nf.natAbs := Int.natAbs_mul _ _
      omega
    have h2 := h.cap
    rw [hr] at h2
    have h3 : (f - r / nr * nf).natAbs * nr.natAbs ≤ (f.natAbs + (r / nr).natAbs * nf.natAbs) * nr.natAbs := Nat.mul_le_mul_right _ hf
    generalize (f - r / nr * nf).natAbs = x at *
    generalize (r / nr).natAbs = q at *
    generalize (r % nr).natAbs = s at *
    generalize nf.natAbs = u at *
    generalize f.natAbs = v at *
    generalize nr.natAbs = t at *
    have e5 : u * (t * q + s) = q * u * t + u * s := by
      rw [Nat.mul_add]
      congr 1
      rw [Nat.mul_comm q u, Nat.mul_assoc, Nat.mul_comm q t]
    have e6 : (v + q * u) * t = v * t + q * u * t := Nat.add_mul _ _ _
    omega
  · rw [e, ← h.g, Int.gcd_comm nr]
    rw [Int.gcd_comm r nr]
    have z := Int.emod_add_mul_ediv r nr
    conv => rhs; rw [← z]
    rw [Int.gcd_comm nr, Int.mul_comm nr, Int.gcd_add_mul_right_left]
  · obtain ⟨k, hk⟩ := h.dr
    obtain ⟨l, hl⟩ := h.dn
    refine ⟨k - r / nr * l, ?_⟩
    generalize r / nr = q at *
    have e1 : r - q * nr - a * (f - q * nf) = (r - a * f) - q * (nr - a * nf) := by
      rw [Int.mul_sub, Int.mul_sub, ← Int.mul_assoc, ← Int.mul_assoc, Int.mul_comm a q]
      omega
    rw [e1, hk, hl, Int.mul_sub, ← Int.mul_assoc, ← Int.mul_assoc, Int.mul_comm q m]
  · have := h.nm
    omega
theorem euc_end {a m : Int} : ∀ (n : Nat) (r nr f nf : Int), nr.toNat ≤ n → Euc a m r nr f nf → m ∣ (Int.gcd a m : Int) - a * euc r nr f nf ∧ (euc r nr f nf).natAbs ≤ m.natAbs
  | n, r, nr, f, nf, hn, h => by
    unfold euc
    by_cases hp : 0 < nr
    · rw [dif_pos hp]
      have e := sub_mod r nr
      have h1 := Int.emod_lt_of_pos r hp
      have h0 := Int.emod_nonneg r (show nr ≠ 0 by omega)
      match n, hn with
      | 0, hn => omega
      | n + 1, hn => exact euc_end n nr _ nf _ (by omega) (h.step hp)
    · rw [dif_neg hp]
      have z : nr = 0 := by have := h.n0; omega
      refine ⟨?_, h.fm⟩
      have g := h.g
      rw [z, Int.gcd_zero_right] at g
      have e : ((r.natAbs : Nat) : Int) = r := by have := h.r1; omega
      rw [← g, e]
      exact h.dr
theorem invm_ok {a m : Int} (ha : 1 ≤ a) (hm : 1 ≤ m) (hg : Int.gcd a m = 1) : m ∣ 1 - a * invm a m ∧ (invm a m).natAbs ≤ m.natAbs := by
  have h := euc_end (a := a) (m := m) _ a m 1 0 (Nat.le_refl _) (Euc.start ha hm)
  rw [hg] at h
  exact h
/-- the fold of two, where they agree: the round, the first -/
def foldR (W h : Int) : Int := W * (h / (Int.gcd W h : Int))
def foldT (W f h x : Int) : Int := (x - f) / (Int.gcd W h : Int) * invm (W / (Int.gcd W h : Int)) (h / (Int.gcd W h : Int)) % (h / (Int.gcd W h : Int))
def foldF (W f h x : Int) : Int := f + W * foldT W f h x
theorem gcd_pos {W h : Int} (hW : 1 ≤ W) : (1 : Int) ≤ (Int.gcd W h : Int) := by
  have : 0 < Int.gcd W h := Int.gcd_pos_of_ne_zero_left _ (by omega)
  omega
theorem fold_parts {W h : Int} (hW : 1 ≤ W) (hh : 1 ≤ h) : ∃ a m : Int, W = (Int.gcd W h : Int) * a ∧ h = (Int.gcd W h : Int) * m ∧ 1 ≤ a ∧ 1 ≤ m ∧ W / (Int.gcd W h : Int) = a ∧ h / (Int.gcd W h : Int) = m ∧ Int.gcd a m = 1 := by
  have hg := gcd_pos (W := W) (h := h) hW
  obtain ⟨a, ha⟩ := Int.gcd_dvd_left W h
  obtain ⟨m, hm⟩ := Int.gcd_dvd_right W h
  have e1 : W / (Int.gcd W h : Int) = a := Int.ediv_eq_of_eq_mul_right (by omega) ha
  have e2 : h / (Int.gcd W h : Int) = m := Int.ediv_eq_of_eq_mul_right (by omega) hm
  have p1 : 1 ≤ a := by
    rcases Int.lt_or_le a 1 with z | z
    · have q : (Int.gcd W h : Int) * a ≤ (Int.gcd W h : Int) * 0 := Int.mul_le_mul_of_nonneg_left (by omega) (by omega)
      rw [Int.mul_zero] at q
      omega
    · exact z
  have p2 : 1 ≤ m := by
    rcases Int.lt_or_le m 1 with z | z
    · have q : (Int.gcd W h : Int) * m ≤ (Int.gcd W h : Int) * 0 := Int.mul_le_mul_of_nonneg_left (by omega) (by omega)
      rw [Int.mul_zero] at q
      omega
    · exact z
  refine ⟨a, m, ha, hm, p1, p2, e1, e2, ?_⟩
  have z : Int.gcd W h = Int.gcd W h * Int.gcd a m := by
    have z1 : Int.gcd ((Int.gcd W h : Int) * a) ((Int.gcd W h : Int) * m) = (Int.gcd W h : Int).natAbs * Int.gcd a m := Int.gcd_mul_left _ _ _
    rw [← ha, ← hm] at z1
    simpa using z1
  have hg' : 0 < Int.gcd W h := by omega
  exact (Nat.eq_of_mul_eq_mul_left hg' (by rw [Nat.mul_one]; exact z)).symm
theorem fold_ok {W f h x : Int} (hW : 1 ≤ W) (hh : 1 ≤ h) (f0 : 0 ≤ f) (f1 : f < W) (x0 : 0 ≤ x) (x1 : x < h) (hd : (x - f) % (Int.gcd W h : Int) = 0) :
    0 ≤ foldF W f h x ∧ foldF W f h x < foldR W h ∧ foldF W f h x % W = f ∧ foldF W f h x % h = x := by
  obtain ⟨a, m, ha, hm, p1, p2, e1, e2, hg⟩ := fold_parts (W := W) (h := h) hW hh
  have gp := gcd_pos (W := W) (h := h) hW
  unfold foldF foldR foldT
  rw [e1, e2]
  obtain ⟨p, hp⟩ := Int.dvd_of_emod_eq_zero hd
  have e3 : (x - f) / (Int.gcd W h : Int) = p := by
    rw [hp]
    exact Int.mul_ediv_cancel_left _ (by omega)
  rw [e3]
  obtain ⟨⟨k, hk⟩, _⟩ := invm_ok p1 p2 hg
  have t0 : 0 ≤ p * invm a m % m := Int.emod_nonneg _ (by omega)
  have t1 : p * invm a m % m < m := Int.emod_lt_of_pos _ (by omega)
  have tq := Int.emod_add_mul_ediv (p * invm a m) m
  generalize hgg : (Int.gcd W h : Int) = g at *
  generalize p * invm a m % m = t at *
  generalize p * invm a m / m = q at *
  generalize hi : invm a m = i at *
  have w0 : 0 ≤ W * t := Int.mul_nonneg (by omega) t0
  have w1 : W * t ≤ W * (m - 1) := Int.mul_le_mul_of_nonneg_left (by omega) (by omega)
  have w2 : W * (m - 1) = W * m - W := by rw [Int.mul_sub, Int.mul_one]
  refine ⟨by omega, by omega, ?_, ?_⟩
  · rw [Int.add_mul_emod_self_left]
    exact Int.emod_eq_of_lt f0 f1
  · -- f + W t - x = g (a t - p), and m goes into a t - p
    have d : h ∣ (f + W * t) - x := by
      refine ⟨-(p * k) - a * q, ?_⟩
      have z1 : W * t = g * (a * t) := by rw [ha, Int.mul_assoc]
      have z2 : a * t = a * (p * i) - a * (m * q) := by
        rw [← Int.mul_sub]
        congr 1
        omega
      have z3 : a * (p * i) = p * (a * i) := by rw [← Int.mul_assoc, ← Int.mul_assoc, Int.mul_comm a p]
      have z4 : a * i = 1 - m * k := by omega
      have z5 : h * (-(p * k) - a * q) = g * (m * (-(p * k) - a * q)) := by rw [hm, Int.mul_assoc]
      have z6 : m * (-(p * k) - a * q) = -(p * (m * k)) - a * (m * q) := by
        rw [Int.mul_sub, Int.mul_neg, ← Int.mul_assoc, ← Int.mul_assoc, ← Int.mul_assoc, ← Int.mul_assoc, Int.mul_comm m p, Int.mul_comm m a]
      have z7 : p * (1 - m * k) = p - p * (m * k) := by rw [Int.mul_sub, Int.mul_one]
      have z8 : a * t - p = -(p * (m * k)) - a * (m * q) := by
        rw [z2, z3, z4, z7]
        omega
      rw [z5, z6, ← z8, Int.mul_sub, ← z1, ← hp]
      omega
    obtain ⟨c, hc⟩ := d
    have e : f + W * t = x + h * c := by omega
    rw [e, Int.add_mul_emod_self_left]
    exact Int.emod_eq_of_lt x0 x1
theorem foldR_other {W h : Int} (hW : 1 ≤ W) (hh : 1 ≤ h) : foldR W h = W / (Int.gcd W h : Int) * h := by
  obtain ⟨a, m, ha, hm, p1, p2, e1, e2, hg⟩ := fold_parts (W := W) (h := h) hW hh
  unfold foldR
  rw [e1, e2]
  generalize (Int.gcd W h : Int) = g at *
  rw [ha, hm, ← Int.mul_assoc, Int.mul_comm a g]
/-- alike rests, just where the difference has none -/
theorem rests_iff {x y g : Int} (hg : 1 ≤ g) : (x % g = y % g) ↔ (x - y) % g = 0 := by
  constructor
  · intro e
    exact Int.emod_eq_zero_of_dvd (Int.dvd_of_emod_eq_zero (by
      have := Int.emod_emod_of_dvd x (Int.dvd_refl g)
      rw [Int.sub_emod, e, Int.sub_self]
      rfl))
  · intro e
    obtain ⟨k, hk⟩ := Int.dvd_of_emod_eq_zero e
    have z : x = y + g * k := by omega
    rw [z, Int.add_mul_emod_self_left]
end Dn

namespace Dn
open PySem PySem.Spec PyProof.Rows L2
theorem gcd_step {x y : Int} : Int.gcd y (x % y) = Int.gcd x y := by
  have z := Int.emod_add_mul_ediv x y
  conv => rhs; rw [← z]
  rw [Int.mul_comm y, Int.gcd_comm, Int.gcd_add_mul_right_left]
def pCommon (ds : List Dt) : Prop := ∃ a b : Int, ds = [dI a, dI b] ∧ 0 ≤ a ∧ 0 ≤ b
abbrev spCommon : Sp := spD 2 pCommon (ii fun a b => (Int.gcd a b : Int))
def meantX (c k t : Int) : Int := if mixed c (k + 5) % 8 = 0 then wide c (k + 6) % hours c k else t % hours c k
theorem meantX_in (c k t : Int) : 0 ≤ meantX c k t ∧ meantX c k t < hours c k := by
  have h := hours_in c k
  unfold meantX
  split
  · exact ⟨Int.emod_nonneg _ (by omega), Int.emod_lt_of_pos _ (by omega)⟩
  · exact ⟨Int.emod_nonneg _ (by omega), Int.emod_lt_of_pos _ (by omega)⟩
def pMeant (ds : List Dt) : Prop := ∃ c k t : Int, ds = [dI c, dI k, dI t] ∧ 0 ≤ k ∧ k ≤ 97000
def meantD (ds : List Dt) : Dt := match ds with
  | [.raw (.int c), .raw (.int k), .raw (.int t)] => .tup [dI (hours c k), dI (meantX c k t)]
  | _ => dN
abbrev spMeant : Sp := spD 3 pMeant meantD
/-! a pair of clocks -/
def isCk (h x : Int) : Prop := 1 ≤ h ∧ h ≤ 1000000000000000000000000000000 ∧ 0 ≤ x ∧ x < h
def pairT (c k : Int) : Int := turn c (k + 1)
def othH (c k : Int) : Int := if mixed c k % 4 = 2 then hours c (k + 60) else if mixed c k % 4 = 1 then (if hours c (k + 2) * (1 + mixed c k / 4 % 9) ≤ 1000000000000000000000000000000 then hours c (k + 2) * (1 + mixed c k / 4 % 9) else hours c (k + 2)) else hours c (k + 30)
def othX (c k : Int) : Int := if mixed c k % 4 = 2 then clockH c (k + 60) else if mixed c k % 4 = 1 then (if hours c (k + 2) * (1 + mixed c k / 4 % 9) ≤ 1000000000000000000000000000000 then pairT c k % (hours c (k + 2) * (1 + mixed c k / 4 % 9)) else pairT c k % hours c (k + 2)) else meantX c (k + 30) (pairT c k)
theorem more_pos (c k : Int) : 1 ≤ hours c (k + 2) * (1 + mixed c k / 4 % 9) := by
  have h := hours_in c (k + 2)
  have m := mixed_lo c k
  have z : hours c (k + 2) * 1 ≤ hours c (k + 2) * (1 + mixed c k / 4 % 9) := Int.mul_le_mul_of_nonneg_left (by omega) (by omega)
  omega
theorem oth_is (c k : Int) : isCk (othH c k) (othX c k) := by
  have h2 := hours_in c (k + 2)
  have mp := more_pos c k
  unfold othH othX
  split
  · have h := hours_in c (k + 60)
    have x := clockH_in c (k + 60)
    exact ⟨h.1, h.2, x.1, x.2⟩
  · split
    · split
      · exact ⟨mp, by assumption, Int.emod_nonneg _ (by omega), Int.emod_lt_of_pos _ (by omega)⟩
      · exact ⟨h2.1, h2.2, Int.emod_nonneg _ (by omega), Int.emod_lt_of_pos _ (by omega)⟩
    · have h := hours_in c (k + 30)
      have x := meantX_in c (k + 30) (pairT c k)
      exact ⟨h.1, h.2, x.1, x.2⟩
def pairD (ds : List Dt) : Dt := match ds with
  | [.raw (.int c), .raw (.int k)] => .tup [.tup [dI (hours c (k + 2)), dI (meantX c (k + 2) (pairT c k))], .tup [dI (othH c k), dI (othX c k)]]
  | _ => dN
abbrev spPair : Sp := spD 2 (kk 96000) pairD
def pRight (ds : List Dt) : Prop := ∃ h x k y : Int, ds = [.tup [dI h, dI x], .tup [dI k, dI y]] ∧ isCk h x ∧ isCk k y
abbrev spRightTwo : Sp := spD 2 pRight (fun _ => dB true)
end Dn
/-! Own layer: what may be changed. A state: a heap, and beside the data the cells that this run owns. -/
namespace Dn
open PySem PySem.Spec PyProof.Rows L2 LamX
/-- a list, a dict, an object that may be changed -/
inductive MO where
  | lst (ds : List Dt)
  | dct (kvs : List (Key × Dt))
  | ins (C : Addr) (fs : List (Str × Dt))
  | fzd (od : Obj) (ks : List (Key × V)) (kvs : List (Key × Dt))
abbrev Mu := Addr → Option MO
inductive DenF (H : Hv) : List (Str × V) → List (Str × Dt) → Prop where
  | nil : DenF H [] []
  | cons {k : Str} {v : V} {vs : List (Str × V)} {d : Dt} {ds : List (Str × Dt)} (h : Den H v d) (t : DenF H vs ds) : DenF H ((k, v) :: vs) ((k, d) :: ds)
/-- the cell at a is o -/
def MOk (H : Hv) (a : Addr) : MO → Prop
  | .lst ds => ∃ xs, H.H a = some (.lst xs) ∧ DenL H xs ds
  | .dct kvs => ∃ ks, H.H a = some (.dK ks) ∧ DenK H ks kvs
  | .ins C fs => ∃ dx vs, H.H a = some (.ins C dx vs) ∧ DenF H vs fs
  | .fzd od ks kvs => H.H a = some (.frz od (.dK ks)) ∧ DenK H ks kvs
structure Own (μ : Mu) (H : Hv) : Prop where
  off : ∀ a o, μ a = some o → H.A a
  at_ : ∀ a o, μ a = some o → MOk H a o
structure MH (T : List (Addr × Str)) where
  H : Hv
  μ : Mu
  own : Own μ H
  tabs : Tabs T H.H
  nt : ∀ a ps, H.A a → H.H a ≠ some (.tbl ps)
/-- nothing but, perhaps, a table -/
def Void (H : Hp) (a : Addr) : Prop := ∀ o, H a = some o → ∃ ps, o = .tbl ps
theorem Void.of {H : Hp} {a : Addr} (h : H a = none) : Void H a := fun o e => by
  rw [h] at e
  cases e
/-- what a run leaves: all but the cells stands as it stood -/
structure Le {T : List (Addr × Str)} (s t : MH T) : Prop where
  e : ∀ a o, s.H.H a = some o → s.μ a = none → (∀ ps, o ≠ .tbl ps) → t.H.H a = some o
  n : ∀ a, t.H.A a → s.H.A a ∨ Void s.H.H a
  d : ∀ a, t.μ a ≠ none → s.μ a ≠ none ∨ Void s.H.H a
variable {T : List (Addr × Str)}
theorem Le.refl (s : MH T) : Le s s := ⟨fun _ _ h _ _ => h, fun _ h => .inl h, fun _ h => .inl h⟩
theorem Le.void {s t : MH T} (h : Le s t) {a : Addr} (v : Void t.H.H a) : s.μ a ≠ none ∨ Void s.H.H a := by
  cases m : s.μ a with
  | some w => exact .inl fun z => nomatch z
  | none =>
    refine .inr fun o e => ?_
    by_cases q : ∀ ps, o ≠ .tbl ps
    · exact v o (h.e a o e m q)
    · exact Classical.byContradiction fun z => q fun ps x => z ⟨ps, x⟩
theorem MH.has {s : MH T} {a : Addr} (h : s.μ a ≠ none) : s.H.A a := by
  cases q : s.μ a with
  | none => exact absurd q h
  | some o => exact s.own.off a o q
theorem Le.trans {s t u : MH T} (h : Le s t) (k : Le t u) : Le s u := by
  refine ⟨fun a o x y z => ?_, fun a x => ?_, fun a x => ?_⟩
  · refine k.e a o (h.e a o x y z) ?_ z
    cases q : t.μ a with
    | none => rfl
    | some w =>
      rcases h.d a (by rw [q]; exact fun z => nomatch z) with p | p
      · exact absurd y p
      · obtain ⟨ps, r⟩ := p o x
        exact absurd r (z ps)
  · rcases k.n a x with p | p
    · exact h.n a p
    · exact (h.void p).imp MH.has id
  · rcases k.d a x with p | p
    · exact h.d a p
    · exact h.void p
theorem Le.g {s t : MH T} (h : Le s t) {a : Addr} {o : HO} (e : s.H.G a = some o) (n : ∀ ps, o ≠ .tbl ps) : t.H.G a = some o := by
  have m : s.μ a = none := by
    cases q : s.μ a with
    | none => rfl
    | some w => exact absurd (s.own.off a w q) (Hv.off e)
  refine Hv.gOf (h.e a o (Hv.sub e) m n) fun z => ?_
  rcases h.n a z with p | p
  · exact Hv.off e p
  · obtain ⟨ps, r⟩ := p o (Hv.sub e)
    exact n ps r
theorem extv_tb {cls : Value} {d : Option Addr} {a : Addr} (ps : Array Value) : ExV cls d a ≠ .tbl ps := fun z => by
  unfold ExV at z
  cases z
/-- data stand on where the view keeps all but tables -/
def UpG (H H' : Hv) : Prop := ∀ a o, H.G a = some o → (∀ ps, o ≠ .tbl ps) → H'.G a = some o
theorem Le.ug {s t : MH T} (h : Le s t) : UpG s.H t.H := fun _ _ e n => h.g e n
theorem Up.ug {H H' : Hv} (h : Up H H') : UpG H H' := fun _ _ e _ => h.g _ _ e
mutual
theorem Den.monoG {H H' : Hv} (e : UpG H H') {v : V} {d : Dt} : Den H v d → Den H' v d
  | .raw v => .raw v
  | .lst h l => .lst (e _ _ h fun _ z => by cases z) (l.monoG e)
  | .tup h l => .tup (e _ _ h fun _ z => by cases z) (l.monoG e)
  | .dct h l => .dct (e _ _ h fun _ z => by cases z) (l.monoG e)
  | .exc0 h => .exc0 (e _ _ h extv_tb)
  | .excD h hd hf => .excD (e _ _ h extv_tb) (e _ _ hd fun _ z => by cases z) hf
  | .scr h => .scr (h.imp (fun h => h.imp (fun h => e _ _ h fun _ z => by cases z) fun ⟨o, h⟩ => ⟨o, e _ _ h fun _ z => by cases z⟩) id)
theorem DenL.monoG {H H' : Hv} (e : UpG H H') {vs : List V} {ds : List Dt} : DenL H vs ds → DenL H' vs ds
  | .nil => .nil
  | .cons h t => .cons (h.monoG e) (t.monoG e)
theorem DenK.monoG {H H' : Hv} (e : UpG H H') {vs : List (Key × V)} {ds : List (Key × Dt)} : DenK H vs ds → DenK H' vs ds
  | .nil => .nil
  | .cons h t => .cons (h.monoG e) (t.monoG e)
end
theorem DenK.monoK {H H' : Hv} {vs : List (Key × V)} {ds : List (Key × Dt)} (h : DenK H vs ds) (e : UpG H H') : DenK H' vs ds := h.monoG e
theorem DenF.monoG {H H' : Hv} (e : UpG H H') {vs : List (Str × V)} {ds : List (Str × Dt)} (h : DenF H vs ds) : DenF H' vs ds := by
  induction h with
  | nil => exact .nil
  | cons h t ih => exact .cons (h.monoG e) ih
theorem DenS.monoG {H H' : Hv} {σ : L2.St} {δ : Sto} (e : UpG H H') (S : DenS H σ δ) : DenS H' σ δ := ⟨S.len, fun i d h => by
  obtain ⟨v, h1, h2⟩ := S.at_ i d h
  exact ⟨v, h1, h2.monoG e⟩⟩
theorem MOk.keep {H H' : Hv} (e : UpG H H') {a : Addr} {o : MO} (ha : H'.H a = H.H a) (h : MOk H a o) : MOk H' a o := by
  cases o with
  | lst ds =>
    obtain ⟨xs, h1, h2⟩ := h
    exact ⟨xs, by rw [ha]; exact h1, h2.monoG e⟩
  | dct ds =>
    obtain ⟨xs, h1, h2⟩ := h
    exact ⟨xs, by rw [ha]; exact h1, h2.monoG e⟩
  | ins C fs =>
    obtain ⟨dx, xs, h1, h2⟩ := h
    exact ⟨dx, xs, by rw [ha]; exact h1, h2.monoG e⟩
  | fzd od ks kvs => exact ⟨by rw [ha]; exact h.1, h.2.monoG e⟩
theorem MOk.there {H : Hv} {a : Addr} {o : MO} (h : MOk H a o) : ∃ u, H.H a = some u ∧ ∀ ps, u ≠ .tbl ps := by
  cases o with
  | lst ds =>
    obtain ⟨xs, h1, _⟩ := h
    exact ⟨_, h1, fun _ z => by cases z⟩
  | dct ds =>
    obtain ⟨xs, h1, _⟩ := h
    exact ⟨_, h1, fun _ z => by cases z⟩
  | ins C fs =>
    obtain ⟨dx, xs, h1, _⟩ := h
    exact ⟨_, h1, fun _ z => by cases z⟩
  | fzd od ks kvs => exact ⟨_, h.1, fun _ z => by cases z⟩
theorem Own.up {μ : Mu} {H H' : Hv} (O : Own μ H) (u : Up H H') : Own μ H' := ⟨fun a o h => by rw [u.a]; exact O.off a o h, fun a o h => by
  have m := O.at_ a o h
  obtain ⟨w, hw, _⟩ := m.there
  exact m.keep u.ug (by rw [hw]; exact u.e _ _ hw)⟩
/-- behind what changes nothing -/
def MH.up (s : MH T) (H' : Hv) (u : Up s.H H') : MH T := ⟨H', s.μ, s.own.up u, s.tabs.ext u.e, fun a ps h e => by
  rw [u.a] at h
  cases q : s.H.H a with
  | none => exact s.H.f a h q
  | some o =>
    have := u.e _ _ q
    rw [e] at this
    cases this
    exact s.nt a ps h q⟩
theorem MH.le_up (s : MH T) {H' : Hv} (u : Up s.H H') : Le s (s.up H' u) := by
  refine ⟨fun a o h _ _ => u.e a o h, fun a h => ?_, fun a h => .inl h⟩
  · have h : H'.A a := h
    rw [u.a] at h
    exact .inl h
/-- behind a lambda's making: the tables alone have changed -/
theorem MH.lam (s : MH T) {h1 : Hp} (e : ExtN s.H.H h1) (t1 : Tabs T h1) : ∃ t : MH T, t.H.H = h1 ∧ t.μ = s.μ ∧ Le s t := by
  have f : ∀ a, s.H.A a → ∃ o, s.H.H a = some o ∧ h1 a = some o ∧ ∀ ps, o ≠ .tbl ps := fun a ha => by
    cases q : s.H.H a with
    | none => exact absurd q (s.H.f a ha)
    | some o =>
      have n : ∀ ps, o ≠ .tbl ps := fun ps z => s.nt a ps ha (by rw [q, z])
      exact ⟨o, rfl, e a o q n, n⟩
  let V : Hv := ⟨h1, s.H.A, fun a ha => by
    obtain ⟨o, _, h, _⟩ := f a ha
    rw [h]
    exact fun z => nomatch z⟩
  have ug : UpG s.H V := fun a o q n => Hv.gOf (V := V) (e a o (Hv.sub q) n) (Hv.off (V := s.H) q)
  refine ⟨⟨V, s.μ, ⟨s.own.off, fun a o h => ?_⟩, t1, fun a ps ha z => ?_⟩, rfl, rfl, ⟨fun a o h _ n => e a o h n, fun a h => .inl h, fun a h => .inl h⟩⟩
  · obtain ⟨w, h2, h3, _⟩ := f a (s.own.off a o h)
    exact (s.own.at_ a o h).keep ug (h3.trans h2.symm)
  · obtain ⟨o, _, h3, n⟩ := f a ha
    have z : h1 a = some (.tbl ps) := z
    rw [h3] at z
    cases z
    exact n ps rfl
/-- how an error leaves -/
def EOut (E : XK) (C : Addr) (fs : List (Str × V)) (H : Hv) : Prop := (fs = [] → E (.ref C) none H.H) ∧ (fs ≠ [] → ∀ d, H.G d = some (.xd fs) → E (.ref C) (some d) H.H)
abbrev WM := Addr → List (Str × V) → Mu → Prop
abbrev noW : WM := fun _ _ _ => False
/-- an expression, from the data δ and the cells μ: N of what it gives and the cells behind, or W of what it raises -/
def EvM (T : List (Addr × Str)) (E : XK) (te : TE) (δ : Sto) (μ : Mu) (N : Dt → Mu → Prop) (W : WM) : Prop := ∀ (σ : L2.St) (s : MH T) (Q : VK), s.μ = μ → DenS s.H σ δ →
  (∀ v (t : MH T) d, Le s t → Den t.H v d → N d t.μ → Q v t.H.H) → (∀ C fs (t : MH T), Le s t → W C fs t.μ → EOut E C fs t.H) → te σ s.H.H Q
def EaM (T : List (Addr × Str)) (E : XK) (ta : TA) (δ : Sto) (μ : Mu) (N : List Dt → Mu → Prop) (W : WM) : Prop := ∀ (σ : L2.St) (s : MH T) (Q : List V → Hp → Prop), s.μ = μ → DenS s.H σ δ →
  (∀ vs (t : MH T) ds, Le s t → DenL t.H vs ds → N ds t.μ → Q vs t.H.H) → (∀ C fs (t : MH T), Le s t → W C fs t.μ → EOut E C fs t.H) → ta σ s.H.H Q
def EtM (T : List (Addr × Str)) (E : XK) (tt : TT) (δ : Sto) (μ : Mu) (N : Bool → Mu → Prop) (W : WM) : Prop := ∀ (σ : L2.St) (s : MH T) (Q : Bool → Hp → Prop), s.μ = μ → DenS s.H σ δ →
  (∀ b (t : MH T), Le s t → N b t.μ → Q b t.H.H) → (∀ C fs (t : MH T), Le s t → W C fs t.μ → EOut E C fs t.H) → tt σ s.H.H Q
/-- a block -/
def HsM (T : List (Addr × Str)) (E : XK) (t : TS) (δ : Sto) (μ : Mu) (N : Sto → Mu → Prop) (R : Dt → Mu → Prop) (B C : Sto → Mu → Prop) (W : WM) : Prop := ∀ (σ : L2.St) (s : MH T) (D : Ends), s.μ = μ → DenS s.H σ δ →
  (∀ σ' (u : MH T) δ', Le s u → DenS u.H σ' δ' → N δ' u.μ → D.nx σ' u.H.H) → (∀ v (u : MH T) d, Le s u → Den u.H v d → R d u.μ → D.rt v u.H.H) → (∀ σ' (u : MH T) δ', Le s u → DenS u.H σ' δ' → B δ' u.μ → D.bk σ' u.H.H) →
  (∀ σ' (u : MH T) δ', Le s u → DenS u.H σ' δ' → C δ' u.μ → D.ct σ' u.H.H) → (∀ X fs (u : MH T), Le s u → W X fs u.μ → EOut E X fs u.H) → t D σ s.H.H
abbrev noM : Sto → Mu → Prop := fun _ _ => False
abbrev noR : Dt → Mu → Prop := fun _ _ => False
section
variable {K : PySem.W.Frag} {E : XK} {δ : Sto} {μ : Mu} {te ta tb : TE} {tas : TA} {tt tu : TT} {t u : TS} {d : Dt} {ds : List Dt} {b : Bool} {N N' : Dt → Mu → Prop} {M M' B C : Sto → Mu → Prop} {R : Dt → Mu → Prop} {W : WM}
theorem evm_of (h : EvS te δ d) (n : N d μ) : EvM T E te δ μ N W := fun σ s Q m S q _ => h σ s.H Q S fun v H' u dv => q v (s.up H' u) d (s.le_up u) dv (by show N d s.μ; rw [m]; exact n)
theorem eam_of {N : List Dt → Mu → Prop} (h : EaS tas δ ds) (n : N ds μ) : EaM T E tas δ μ N W := fun σ s Q m S q _ => h σ s.H Q S fun v H' u dv => q v (s.up H' u) ds (s.le_up u) dv (by show N ds s.μ; rw [m]; exact n)
theorem etm_of {N : Bool → Mu → Prop} (h : EtS tt δ b) (n : N b μ) : EtM T E tt δ μ N W := fun σ s Q m S q _ => h σ s.H Q S fun H' u => q b (s.up H' u) (s.le_up u) (by show N b s.μ; rw [m]; exact n)
theorem evm_imp {W' : WM} (h : EvM T E te δ μ N' W') (n : ∀ d m, N' d m → N d m) (w : ∀ C fs m, W' C fs m → W C fs m) : EvM T E te δ μ N W := fun σ s Q m S q qe => h σ s Q m S (fun v t d l dv x => q v t d l dv (n _ _ x)) fun C fs t l x => qe C fs t l (w _ _ _ x)
theorem eam_nil {N : List Dt → Mu → Prop} (n : N [] μ) : EaM T E tNil δ μ N W := eam_of ea_nil n
theorem eam_cons {N : List Dt → Mu → Prop} {tr : TA} (h : EvM T E ta δ μ N' W) (k : ∀ d m, N' d m → EaM T E tr δ m (fun ds m' => N (d :: ds) m') W) : EaM T E (tCons ta tr) δ μ N W := fun σ s Q m S q qe =>
  h σ s _ m S (fun v t d l dv n => k d t.μ n σ t _ rfl (S.monoG l.ug) (fun vs u ds l2 dvs n2 => q (v :: vs) u (d :: ds) (l.trans l2) (.cons (dv.monoG l2.ug) dvs) n2) fun C fs u l2 w => qe C fs u (l.trans l2) w) qe
/-- an operator: both sides, then pure -/
theorem evm_op {r : R2} {z : Dt → Dt → Dt} {N1 N2 : Dt → Mu → Prop} (h : EvM T E ta δ μ N1 W) (k : ∀ x m, N1 x m → EvM T E tb δ m (fun y m' => OpD r x y (z x y) ∧ N (z x y) m') W) : EvM T E (tOp r ta tb) δ μ N W := fun σ s Q m S q qe =>
  h σ s _ m S (fun v t x l dx n => k x t.μ n σ t _ rfl (S.monoG l.ug) (fun w u y l2 dy n2 => n2.1 v w u.H Q (dx.monoG l2.ug) dy fun v' H' up dv => q v' (u.up H' up) _ ((l.trans l2).trans (u.le_up up)) dv n2.2) fun C fs u l2 w => qe C fs u (l.trans l2) w) qe
theorem etm_test {N : Bool → Mu → Prop} (h : EvM T E te δ μ (fun d m => ∃ b, d = dB b ∧ N b m) W) : EtM T E (tTest te) δ μ N W := fun σ s Q m S q qe => h σ s _ m S (fun v t d l dv ⟨b, e, n⟩ => ⟨b, by subst e; exact dv.rawI, q b t l n⟩) qe
theorem etm_B {N : Bool → Mu → Prop} (h : EvM T E te δ μ (fun d m => ∃ b, d = dB b ∧ N b m) W) : EtM T E (tB te) δ μ N W := fun σ s Q m S q qe => h σ s _ m S (fun v t d l dv ⟨b, e, n⟩ => ⟨b, by subst e; exact dv.rawI, q b t l n⟩) qe
/-! blocks -/
theorem hm_asg {i : Nat} (h : EvM T E te δ μ (fun d m => M (δ.set i (some d)) m) W) : HsM T E (tAsg te (gName i)) δ μ M R B C W := fun σ s D m S hn _ _ _ hw => h σ s _ m S (fun v t d l dv n => hn _ t _ l ((S.monoG l.ug).set dv) n) hw
theorem hm_seq (h : HsM T E t δ μ M' R B C W) (k : ∀ δ' m, M' δ' m → HsM T E u δ' m M R B C W) : HsM T E (tSeq t u) δ μ M R B C W := fun σ s D m S hn hr hb hc hw =>
  h σ s { D with nx := u D } m S (fun σ' x δ' l S' n => k δ' x.μ n σ' x D rfl S' (fun σ2 y δ2 l2 S2 n2 => hn σ2 y δ2 (l.trans l2) S2 n2) (fun v y d l2 d2 r => hr v y d (l.trans l2) d2 r) (fun σ2 y δ2 l2 S2 n2 => hb σ2 y δ2 (l.trans l2) S2 n2)
    (fun σ2 y δ2 l2 S2 n2 => hc σ2 y δ2 (l.trans l2) S2 n2) fun X fs y l2 w => hw X fs y (l.trans l2) w) hr hb hc hw
theorem hm_of (h : Hs t δ (fun x => M x μ) (fun d => R d μ) (fun x => B x μ) (fun x => C x μ)) : HsM T E t δ μ M R B C W := fun σ s D m S hn hr hb hc _ => h σ s.H D S (fun σ' H' δ' up S' n => hn σ' (s.up H' up) δ' (s.le_up up) S' (by show M δ' s.μ; rw [m]; exact n))
  (fun v H' d up dv r => hr v (s.up H' up) d (s.le_up up) dv (by show R d s.μ; rw [m]; exact r)) (fun σ' H' δ' up S' n => hb σ' (s.up H' up) δ' (s.le_up up) S' (by show B δ' s.μ; rw [m]; exact n)) (fun σ' H' δ' up S' n => hc σ' (s.up H' up) δ' (s.le_up up) S' (by show C δ' s.μ; rw [m]; exact n))
theorem hm_ret (h : EvM T E te δ μ R W) : HsM T E (tRet te) δ μ M R B C W := fun σ s D m S _ hr _ _ hw => h σ s _ m S (fun v t d l dv n => hr v t d l dv n) hw
theorem hm_drop (h : EvM T E te δ μ (fun _ m => M δ m) W) : HsM T E (tDrop te) δ μ M R B C W := fun σ s D m S hn _ _ _ hw => h σ s _ m S (fun v t d l dv n => hn σ t δ l (S.monoG l.ug) n) hw
theorem hm_next (n : M δ μ) : HsM T E tNext δ μ M R B C W := hm_of (hs_next n)
theorem hm_if (h : EtM T E tt δ μ (fun b m => (b = true → HsM T E t δ m M R B C W) ∧ (b = false → HsM T E u δ m M R B C W)) W) : HsM T E (tIfS tt t u) δ μ M R B C W := fun σ s D m S hn hr hb hc hw => h σ s _ m S (fun b x l n => by
  have k : ∀ {w : TS}, HsM T E w δ x.μ M R B C W → w D σ x.H.H := fun k => k σ x D rfl (S.monoG l.ug) (fun σ' y δ' l2 S2 n2 => hn σ' y δ' (l.trans l2) S2 n2) (fun v y d l2 d2 r => hr v y d (l.trans l2) d2 r) (fun σ2 y δ2 l2 S2 n2 => hb σ2 y δ2 (l.trans l2) S2 n2)
    (fun σ2 y δ2 l2 S2 n2 => hc σ2 y δ2 (l.trans l2) S2 n2) fun X fs y l2 w => hw X fs y (l.trans l2) w
  cases b with
  | true =>
    show t D σ x.H.H
    exact k (n.1 rfl)
  | false =>
    show u D σ x.H.H
    exact k (n.2 rfl)) hw
theorem hm_imp {R' : Dt → Mu → Prop} {B' C' : Sto → Mu → Prop} {W' : WM} (h : HsM T E t δ μ M' R' B' C' W') (n : ∀ x m, M' x m → M x m) (r : ∀ x m, R' x m → R x m) (b : ∀ x m, B' x m → B x m) (c : ∀ x m, C' x m → C x m) (w : ∀ X fs m, W' X fs m → W X fs m) : HsM T E t δ μ M R B C W := fun σ s D m S hn hr hb hc hw =>
  h σ s D m S (fun σ' y δ' l S' x => hn σ' y δ' l S' (n _ _ x)) (fun v y d l d' x => hr v y d l d' (r _ _ x)) (fun σ' y δ' l S' x => hb σ' y δ' l S' (b _ _ x)) (fun σ' y δ' l S' x => hc σ' y δ' l S' (c _ _ x)) fun X fs y l x => hw X fs y l (w _ _ _ x)
end
end Dn
/-! Own layer: what changes a cell, what makes one. -/
namespace Dn
open PySem PySem.Spec PyProof.Rows L2 LamX
def putM (μ : Mu) (a : Addr) (o : MO) : Mu := fun b => if b = a then some o else μ b
theorem putM_same {μ : Mu} {a : Addr} {o : MO} : putM μ a o a = some o := if_pos rfl
theorem putM_ne {μ : Mu} {a b : Addr} {o : MO} (h : b ≠ a) : putM μ a o b = μ b := if_neg h
theorem putM_put {μ : Mu} {a : Addr} {o p : MO} : putM (putM μ a o) a p = putM μ a p := by
  funext b
  unfold putM
  split <;> rfl
theorem putM_self {μ : Mu} {a : Addr} {o : MO} (h : μ a = some o) : putM μ a o = μ := by
  funext b
  unfold putM
  split
  · rename_i e
    rw [e, h]
  · rfl
variable {T : List (Addr × Str)}
theorem Tabs.put {H : Hp} {a : Addr} {u w : HO} (t : Tabs T H) (ha : H a = some u) (n : ∀ ps, u ≠ .tbl ps) (m : ∀ c q, u ≠ CodeO c q) : Tabs T (upd H a w) := fun p hp => by
  obtain ⟨ps, h1, h2, h3⟩ := t p hp
  refine ⟨ps, by rw [upd_ne (ne_of h1 ha fun z => n _ z.symm)]; exact h1, h2, fun pos cv hc => ?_⟩
  obtain ⟨c, e1, e2⟩ := h3 pos cv hc
  exact ⟨c, e1, by rw [upd_ne (ne_of e2 ha fun z => m _ _ z.symm)]; exact e2⟩
theorem Hv.pt_g {V : Hv} {a : Addr} {o u : HO} {hp : V.H a = some u} (ha : V.A a) : UpG V (V.pt a o hp) := fun b w e _ => Hv.pt_ne e fun z => Hv.off e (z ▸ ha)
/-- the kinds of a cell -/
def MOk.plain {H : Hv} {a : Addr} {o : MO} (h : MOk H a o) : ∃ u, H.H a = some u ∧ (∀ ps, u ≠ .tbl ps) ∧ ∀ c q, u ≠ CodeO c q := by
  have ne : ∀ {c q} {u : HO}, (∀ φ, u ≠ .ext φ) → u ≠ CodeO c q := fun h z => by
    unfold CodeO at z
    exact h _ z
  cases o with
  | lst ds =>
    obtain ⟨xs, h1, _⟩ := h
    exact ⟨_, h1, (fun _ z => by cases z), fun c q => ne fun _ z => by cases z⟩
  | dct ds =>
    obtain ⟨xs, h1, _⟩ := h
    exact ⟨_, h1, (fun _ z => by cases z), fun c q => ne fun _ z => by cases z⟩
  | ins C fs =>
    obtain ⟨dx, xs, h1, _⟩ := h
    exact ⟨_, h1, (fun _ z => by cases z), fun c q => ne fun _ z => by cases z⟩
  | fzd od ks kvs => exact ⟨_, h.1, (fun _ z => by cases z), fun c q => ne fun _ z => by cases z⟩
/-- a cell is changed -/
theorem MH.put_ex (s : MH T) {a : Addr} {o o' : MO} (u : HO) (h : s.μ a = some o) (hok : ∀ V : Hv, V.H = upd s.H.H a u → UpG s.H V → MOk V a o') : ∃ t : MH T, t.H.H = upd s.H.H a u ∧ t.μ = putM s.μ a o' ∧ Le s t := by
  obtain ⟨w, hw, n, m⟩ := (s.own.at_ a o h).plain
  have hA := s.own.off a o h
  have ug : UpG s.H (s.H.pt a u hw) := Hv.pt_g hA
  have nu : ∀ ps, upd s.H.H a u a ≠ some (.tbl ps) := fun ps z => by
    obtain ⟨w', h1, h2⟩ := (hok (s.H.pt a u hw) rfl ug).there
    have h1 : upd s.H.H a u a = some w' := h1
    rw [h1] at z
    cases z
    exact h2 ps rfl
  refine ⟨⟨s.H.pt a u hw, putM s.μ a o', ⟨fun b p hb => ?_, fun b p hb => ?_⟩, Tabs.put s.tabs hw n m, fun b ps hb z => ?_⟩, rfl, rfl, ⟨fun b p e k _ => ?_, fun b k => .inl k, fun b k => ?_⟩⟩
  · by_cases e : b = a
    · subst e
      exact hA
    · rw [putM_ne e] at hb
      exact s.own.off b p hb
  · by_cases e : b = a
    · subst e
      rw [putM_same] at hb
      cases hb
      exact hok _ rfl ug
    · rw [putM_ne e] at hb
      exact (s.own.at_ b p hb).keep ug (upd_ne e)
  · by_cases e : b = a
    · subst e
      exact nu ps z
    · have z : upd s.H.H a u b = some (.tbl ps) := z
      rw [upd_ne e] at z
      exact s.nt b ps hb z
  · have ne : b ≠ a := fun z => by
      subst z
      rw [h] at k
      cases k
    show upd s.H.H a u b = some p
    rw [upd_ne ne]
    exact e
  · by_cases e : b = a
    · subst e
      exact .inl (by rw [h]; exact fun z => nomatch z)
    · have k : putM s.μ a o' b ≠ none := k
      rw [putM_ne e] at k
      exact .inl k
/-- a cell is made -/
theorem MH.new_ex (s : MH T) {a : Addr} {o' : MO} (u : HO) (h : s.H.H a = none) (hok : ∀ V : Hv, V.H = upd s.H.H a u → UpG s.H V → MOk V a o') : s.μ a = none ∧ ∃ t : MH T, t.H.H = upd s.H.H a u ∧ t.μ = putM s.μ a o' ∧ Le s t := by
  have hA : ¬ s.H.A a := fun z => s.H.f a z h
  have hm : s.μ a = none := by
    cases q : s.μ a with
    | none => rfl
    | some o => exact absurd (s.own.off a o q) hA
  let V : Hv := ⟨upd s.H.H a u, fun b => b = a ∨ s.H.A b, fun b k => by
    by_cases e : b = a
    · subst e
      rw [upd_same]
      exact fun z => nomatch z
    · rw [upd_ne e]
      exact s.H.f b (k.resolve_left e)⟩
  have ug : UpG s.H V := fun b w e _ => by
    have ne : b ≠ a := fun z => by
      subst z
      rw [Hv.sub e] at h
      cases h
    exact Hv.gOf (V := V) (by show upd s.H.H a u b = some w; rw [upd_ne ne]; exact Hv.sub e) fun z => z.elim ne (Hv.off e)
  have nu : ∀ ps, upd s.H.H a u a ≠ some (.tbl ps) := fun ps z => by
    obtain ⟨w', h1, h2⟩ := (hok V rfl ug).there
    have h1 : upd s.H.H a u a = some w' := h1
    rw [h1] at z
    cases z
    exact h2 ps rfl
  refine ⟨hm, ⟨V, putM s.μ a o', ⟨fun b p hb => ?_, fun b p hb => ?_⟩, s.tabs.ext (Evl.Ex.new h), fun b ps hb z => ?_⟩, rfl, rfl, ⟨fun b p e k _ => ?_, fun b k => ?_, fun b k => ?_⟩⟩
  · by_cases e : b = a
    · exact .inl e
    · rw [putM_ne e] at hb
      exact .inr (s.own.off b p hb)
  · by_cases e : b = a
    · subst e
      rw [putM_same] at hb
      cases hb
      exact hok _ rfl ug
    · rw [putM_ne e] at hb
      exact (s.own.at_ b p hb).keep ug (upd_ne e)
  · by_cases e : b = a
    · subst e
      exact nu ps z
    · have z : upd s.H.H a u b = some (.tbl ps) := z
      rw [upd_ne e] at z
      exact s.nt b ps ((show b = a ∨ s.H.A b from hb).resolve_left e) z
  · exact Evl.Ex.new h _ _ e
  · rcases (show b = a ∨ s.H.A b from k) with e | e
    · subst e
      exact .inr (.of h)
    · exact .inl e
  · by_cases e : b = a
    · subst e
      exact .inr (.of h)
    · have k : putM s.μ a o' b ≠ none := k
      rw [putM_ne e] at k
      exact .inl k
/-! ### dicts -/
section
variable {H : Hv}
def valD (kvs : List (Key × Dt)) (k : Key) : Option Dt := (kvs.find? fun kv => decide (kv.1 = k)).map (·.2)
def putD (kvs : List (Key × Dt)) (k : Key) (v : Dt) : List (Key × Dt) :=
  if (kvs.any fun kv => decide (kv.1 = k)) = true then kvs.map (fun kv => if kv.1 = k then (kv.1, v) else kv) else kvs ++ [(k, v)]
def dropD (kvs : List (Key × Dt)) (k : Key) : List (Key × Dt) := kvs.filter fun kv => decide (kv.1 ≠ k)
theorem DenK.keys {ks : List (Key × V)} {kvs : List (Key × Dt)} (h : DenK H ks kvs) : ks.map (·.1) = kvs.map (·.1) := by
  induction ks generalizing kvs with
  | nil => cases h; rfl
  | cons k ks ih => cases h with | cons h t => rw [List.map_cons, List.map_cons, ih t]
theorem DenK.len {ks : List (Key × V)} {kvs : List (Key × Dt)} (h : DenK H ks kvs) : ks.length = kvs.length := by
  have := congrArg List.length h.keys
  rw [List.length_map, List.length_map] at this
  exact this
theorem DenK.get {ks : List (Key × V)} {kvs : List (Key × Dt)} (h : DenK H ks kvs) (k : Key) : (valV ks k = none ∧ valD kvs k = none) ∨ ∃ v d, valV ks k = some v ∧ valD kvs k = some d ∧ Den H v d := by
  induction ks generalizing kvs with
  | nil => cases h; exact .inl ⟨rfl, rfl⟩
  | cons kv ks ih =>
    cases h with
    | @cons k' v vs d ds h t =>
      by_cases e : k' = k
      · subst e
        exact .inr ⟨v, d, by unfold valV; rw [List.find?_cons_of_pos (by exact decide_eq_true rfl)]; rfl, by unfold valD; rw [List.find?_cons_of_pos (by exact decide_eq_true rfl)]; rfl, h⟩
      · have e1 : valV ((k', v) :: ks) k = valV ks k := by
          unfold valV
          rw [List.find?_cons_of_neg (by simpa using e)]
        have e2 : valD ((k', d) :: ds) k = valD ds k := by
          unfold valD
          rw [List.find?_cons_of_neg (by simpa using e)]
        rw [e1, e2]
        exact ih t
theorem DenK.app {ks ls : List (Key × V)} {kvs lvs : List (Key × Dt)} (h : DenK H ks kvs) (g : DenK H ls lvs) : DenK H (ks ++ ls) (kvs ++ lvs) := by
  induction ks generalizing kvs with
  | nil => cases h; exact g
  | cons v vs ih => cases h with | cons h t => exact .cons h (ih t)
theorem DenK.put {ks : List (Key × V)} {kvs : List (Key × Dt)} (h : DenK H ks kvs) {k : Key} {v : V} {d : Dt} (hv : Den H v d) : DenK H (putK ks k v) (putD kvs k d) := by
  have e : (ks.any fun kv => decide (kv.1 = k)) = (kvs.any fun kv => decide (kv.1 = k)) := by
    have h1 : ∀ l : List (Key × V), (l.any fun kv => decide (kv.1 = k)) = (l.map (·.1)).any fun x => decide (x = k) := fun l => by rw [List.any_map]; rfl
    have h2 : ∀ l : List (Key × Dt), (l.any fun kv => decide (kv.1 = k)) = (l.map (·.1)).any fun x => decide (x = k) := fun l => by rw [List.any_map]; rfl
    rw [h1, h2, h.keys]
  unfold putK putD
  rw [e]
  split
  · clear e
    rename_i z
    clear z
    induction ks generalizing kvs with
    | nil => cases h; exact .nil
    | cons w vs ih =>
      cases h with
      | @cons k' w vs d' ds h t =>
        rw [List.map_cons, List.map_cons]
        by_cases e : k' = k
        · rw [if_pos e, if_pos e]
          exact .cons hv (ih t)
        · rw [if_neg e, if_neg e]
          exact .cons h (ih t)
  · exact h.app (.cons hv .nil)
theorem DenK.drop {ks : List (Key × V)} {kvs : List (Key × Dt)} (h : DenK H ks kvs) (k : Key) : DenK H (dropK ks k) (dropD kvs k) := by
  unfold dropK dropD
  induction ks generalizing kvs with
  | nil => cases h; exact .nil
  | cons w vs ih =>
    cases h with
    | @cons k' w vs d' ds h t =>
      by_cases e : k' = k
      · rw [List.filter_cons_of_neg (by simpa using e), List.filter_cons_of_neg (by simpa using e)]
        exact ih t
      · rw [List.filter_cons_of_pos (by simpa using e), List.filter_cons_of_pos (by simpa using e)]
        exact .cons h (ih t)
end
end Dn
/-! Own layer: expressions and statements over cells. -/
namespace Dn
open PySem PySem.Spec PyProof.Rows L2 LamX
variable {T : List (Addr × Str)}
def putFD (f : Str) (v : Dt) : List (Str × Dt) → List (Str × Dt)
  | [] => [(f, v)]
  | (g, x) :: r => if g = f then (g, v) :: r else (g, x) :: putFD f v r
section
variable {H : Hv}
theorem DenF.look {vs : List (Str × V)} {ds : List (Str × Dt)} (h : DenF H vs ds) (f : Str) : (vs.lookup f = none ∧ ds.lookup f = none) ∨ ∃ v d, vs.lookup f = some v ∧ ds.lookup f = some d ∧ Den H v d := by
  induction h with
  | nil => exact .inl ⟨rfl, rfl⟩
  | @cons k v vs d ds h t ih =>
    cases e : f == k with
    | true => exact .inr ⟨v, d, by simp [List.lookup, e], by simp [List.lookup, e], h⟩
    | false =>
      rcases ih with ⟨a, b⟩ | ⟨v, d, a, b, c⟩
      · exact .inl ⟨by simpa [List.lookup, e] using a, by simpa [List.lookup, e] using b⟩
      · exact .inr ⟨v, d, by simpa [List.lookup, e] using a, by simpa [List.lookup, e] using b, c⟩
theorem DenF.put {vs : List (Str × V)} {ds : List (Str × Dt)} (h : DenF H vs ds) {f : Str} {v : V} {d : Dt} (hv : Den H v d) : DenF H (putF f v vs) (putFD f d ds) := by
  induction h with
  | nil => exact .cons hv .nil
  | @cons k v vs d ds h t ih =>
    unfold putF putFD
    split
    · exact .cons hv t
    · exact .cons h ih
theorem DenF.len {vs : List (Str × V)} {ds : List (Str × Dt)} (h : DenF H vs ds) : vs.length = ds.length := by
  induction h with
  | nil => rfl
  | cons h t ih => rw [List.length_cons, List.length_cons, ih]
end
theorem MH.cell {s : MH T} {a : Addr} {o : MO} (h : s.μ a = some o) : MOk s.H a o := s.own.at_ a o h
section
variable {K : PySem.W.Frag} {E : XK} {δ : Sto} {μ : Mu} {te ta tb td tv ty tx : TE} {tas : TA} {tt tu : TT} {t u : TS} {d : Dt} {ds : List Dt} {b : Bool} {N N' : Dt → Mu → Prop} {M M' B C : Sto → Mu → Prop} {R : Dt → Mu → Prop} {W : WM} {f : Str}
/-! attributes -/
theorem evm_fld (h : EvM T E ta δ μ (fun x m => ∃ a C fs d, x = .raw (.ref a) ∧ m a = some (.ins C fs) ∧ Cls K C ∧ NoAttr K C f ∧ fs.lookup f = some d ∧ N d m) W) : EvM T E (tFld K ta f) δ μ N W := fun σ s Q m S q qe =>
  h σ s _ m S (fun v t x l dv ⟨a, C, fs, d, e, ha, c, n, lk, nn⟩ => by
    subst e
    obtain ⟨dx, vs, h1, h2⟩ := MH.cell ha
    rcases h2.look f with ⟨_, z⟩ | ⟨y, d', p1, p2, p3⟩
    · rw [lk] at z
      cases z
    · rw [lk] at p2
      cases p2
      exact ⟨a, C, dx, vs, y, dv.rawI, h1, c, n, p1, q y t d l p3 nn⟩) qe
theorem hm_fld (h : EvM T E tv δ μ (fun y m => EvM T E ta δ m (fun x m2 => ∃ a C fs, x = .raw (.ref a) ∧ m2 a = some (.ins C fs) ∧ Cls K C ∧ NoAttr K C f ∧ fs.length < 1000 ∧ M δ (putM m2 a (.ins C (putFD f y fs)))) W) W) : HsM T E (sFld K ta tv f) δ μ M R B C W := fun σ s D m S hn _ _ _ hw =>
  h σ s _ m S (fun v t y l dv k => k σ t _ rfl (S.monoG l.ug) (fun w u x l2 dx ⟨a, C, fs, e, ha, c, n, z, nn⟩ => by
    subst e
    obtain ⟨dx', vs, h1, h2⟩ := MH.cell ha
    have dy := dv.monoG l2.ug
    refine ⟨a, C, dx', vs, dx.rawI, h1, c, n, by rw [h2.len]; exact z, ?_⟩
    obtain ⟨r, e1, e2, l3⟩ := u.put_ex (o' := .ins C (putFD f y fs)) (.ins C dx' (putF f v vs)) ha fun V e ug => ⟨dx', _, by rw [e]; exact upd_same, (h2.put dy).monoG ug⟩
    rw [← e1]
    exact hn σ r δ ((l.trans l2).trans l3) ((S.monoG l.ug).monoG (l2.trans l3).ug) (by rw [e2]; exact nn)) fun C fs u l2 w => hw C fs u (l.trans l2) w) hw
/-! dicts -/
theorem evm_dnew (n : ∀ p, μ p = none → N (.raw (.ref p)) (putM μ p (.dct []))) : EvM T E tDNewK δ μ N W := fun σ s Q m S q _ => fun p hp => by
  subst m
  obtain ⟨h1, r, e1, e2, l⟩ := s.new_ex (o' := .dct []) (.dK []) hp fun V e _ => ⟨[], by rw [e]; exact upd_same, .nil⟩
  rw [← e1]
  exact q _ r _ l (.raw _) (by rw [e2]; exact n p h1)
theorem evm_dget (h : EvM T E td δ μ (fun x m => EvM T E ty δ m (fun y m2 => ∃ a kvs key d, x = .raw (.ref a) ∧ m2 a = some (.dct kvs) ∧ y = .raw (kV key) ∧ valD kvs key = some d ∧ N d m2) W) W) : EvM T E (tDGet td ty) δ μ N W := fun σ s Q m S q qe =>
  h σ s _ m S (fun v t x l dv k => k σ t _ rfl (S.monoG l.ug) (fun w u y l2 dy ⟨a, kvs, key, d, e, ha, e2, lk, nn⟩ => by
    subst e
    subst e2
    obtain ⟨ks, h1, h2⟩ := MH.cell ha
    rcases h2.get key with ⟨_, z⟩ | ⟨y', d', p1, p2, p3⟩
    · rw [lk] at z
      cases z
    · rw [lk] at p2
      cases p2
      rw [dy.rawI]
      refine ⟨a, y', dv.rawI, ?_, q y' u d (l.trans l2) p3 nn⟩
      rw [← p1]
      exact DGet.k h1) fun C fs u l2 w => qe C fs u (l.trans l2) w) qe
theorem evm_din (h : EvM T E ty δ μ (fun y m => EvM T E td δ m (fun x m2 => ∃ a kvs key, x = .raw (.ref a) ∧ m2 a = some (.dct kvs) ∧ y = .raw (kV key) ∧ N (dB (valD kvs key).isSome) m2) W) W) : EvM T E (tDIn ty td) δ μ N W := fun σ s Q m S q qe =>
  h σ s _ m S (fun v t y l dy k => k σ t _ rfl (S.monoG l.ug) (fun w u x l2 dv ⟨a, kvs, key, e, ha, e2, nn⟩ => by
    subst e
    subst e2
    obtain ⟨ks, h1, h2⟩ := MH.cell ha
    rw [dy.rawI]
    refine ⟨a, _, dv.rawI, DGet.k h1, ?_⟩
    rcases h2.get key with ⟨p1, p2⟩ | ⟨y', d', p1, p2, p3⟩ <;> (rw [p1]; rw [p2] at nn; exact q _ u _ (l.trans l2) (.raw _) nn)) fun C fs u l2 w => qe C fs u (l.trans l2) w) qe
theorem evm_dnotin (h : EvM T E ty δ μ (fun y m => EvM T E td δ m (fun x m2 => ∃ a kvs key, x = .raw (.ref a) ∧ m2 a = some (.dct kvs) ∧ y = .raw (kV key) ∧ N (dB (!(valD kvs key).isSome)) m2) W) W) : EvM T E (tDNotIn ty td) δ μ N W := fun σ s Q m S q qe =>
  h σ s _ m S (fun v t y l dy k => k σ t _ rfl (S.monoG l.ug) (fun w u x l2 dv ⟨a, kvs, key, e, ha, e2, nn⟩ => by
    subst e
    subst e2
    obtain ⟨ks, h1, h2⟩ := MH.cell ha
    rw [dy.rawI]
    refine ⟨a, _, dv.rawI, DGet.k h1, ?_⟩
    rcases h2.get key with ⟨p1, p2⟩ | ⟨y', d', p1, p2, p3⟩ <;> (rw [p1]; rw [p2] at nn; exact q _ u _ (l.trans l2) (.raw _) nn)) fun C fs u l2 w => qe C fs u (l.trans l2) w) qe
theorem hm_dput (h : EvM T E tv δ μ (fun z m => EvM T E td δ m (fun x m1 => EvM T E ty δ m1 (fun y m2 => ∃ a kvs key, x = .raw (.ref a) ∧ m2 a = some (.dct kvs) ∧ y = .raw (kV key) ∧ kvs.length < 100000 ∧ M δ (putM m2 a (.dct (putD kvs key z)))) W) W) W) : HsM T E (sDPut td ty tv) δ μ M R B C W := fun σ s D m S hn _ _ _ hw =>
  h σ s _ m S (fun v t z l dz k => k σ t _ rfl (S.monoG l.ug) (fun w u x l2 dx k2 => k2 σ u _ rfl (S.monoG (l.trans l2).ug) (fun w' r y l3 dy ⟨a, kvs, key, e, ha, e2, hz, nn⟩ => by
    subst e
    subst e2
    obtain ⟨ks, h1, h2⟩ := MH.cell ha
    have dz' := dz.monoG (l2.trans l3).ug
    rw [dy.rawI]
    obtain ⟨s4, e4, e5, l4⟩ := r.put_ex (o' := .dct (putD kvs key z)) (.dK (putK ks key v)) ha fun V e ug => ⟨_, by rw [e]; exact upd_same, (h2.put dz').monoK ug⟩
    have hsz : ks.length < sizeLine := by rw [h2.len]; exact Evl.sz_lt hz
    refine ⟨a, _, dx.rawI, DPut.k h1 hsz, ?_⟩
    rw [← e4]
    exact hn σ s4 δ (((l.trans l2).trans l3).trans l4) (S.monoG (((l.trans l2).trans l3).trans l4).ug) (by rw [e5]; exact nn)) fun C fs u l3 w => hw C fs u ((l.trans l2).trans l3) w) fun C fs u l2 w => hw C fs u (l.trans l2) w) hw
theorem evm_dpop (h : EvM T E td δ μ (fun x m => ∃ a kvs0, x = .raw (.ref a) ∧ m a = some (.dct kvs0) ∧ EvM T E ty δ m (fun y m2 => ∃ kvs key d, m2 a = some (.dct kvs) ∧ y = .raw (kV key) ∧ valD kvs key = some d ∧ N d (putM m2 a (.dct (dropD kvs key)))) W) W) : EvM T E (tDPop1 td ty) δ μ N W := fun σ s Q m S q qe =>
  h σ s _ m S (fun v t x l dx ⟨a, kvs0, e, ha0, k⟩ => by
    subst e
    obtain ⟨ks0, h0, _⟩ := MH.cell ha0
    refine ⟨a, dx.rawI, .inl ⟨ks0, .inl h0⟩, k σ t _ rfl (S.monoG l.ug) (fun w u y l2 dy ⟨kvs, key, d, ha, e2, lk, nn⟩ => ?_) fun C fs u l2 w => qe C fs u (l.trans l2) w⟩
    subst e2
    obtain ⟨ks, h1, h2⟩ := MH.cell ha
    rw [dy.rawI]
    rcases h2.get key with ⟨_, z⟩ | ⟨y', d', p1, p2, p3⟩
    · rw [lk] at z
      cases z
    · rw [lk] at p2
      cases p2
      obtain ⟨s4, e4, e5, l4⟩ := u.put_ex (o' := .dct (dropD kvs key)) (.dK (dropK ks key)) ha fun V e ug => ⟨_, by rw [e]; exact upd_same, (h2.drop key).monoK ug⟩
      refine ⟨ks, key, y', h1, rfl, p1, ?_⟩
      rw [← e4]
      exact q y' s4 d ((l.trans l2).trans l4) (p3.monoG l4.ug) (by rw [e5]; exact nn)) qe
/-! lists that may be changed -/
theorem evm_lst {P : List Dt → Mu → Prop} (h : EaM T E tas δ μ (fun ds m => ds.length ≤ 100000 ∧ ∀ p, m p = none → N (.raw (.ref p)) (putM m p (.lst ds))) W) : EvM T E (tLst tas) δ μ N W := fun σ s Q m S q qe =>
  h σ s _ m S (fun vs t ds l dl ⟨hl, n⟩ => ⟨by rw [dl.len]; exact Evl.sz_of hl, fun p hp => by
    obtain ⟨h1, r, e1, e2, l2⟩ := t.new_ex (o' := .lst ds) (.lst vs) hp fun V e ug => ⟨_, by rw [e]; exact upd_same, dl.monoG ug⟩
    rw [← e1]
    exact q _ r _ (l.trans l2) (.raw _) (by rw [e2]; exact n p h1)⟩) qe
theorem evm_append (h : EvM T E td δ μ (fun x m => ∃ a ds0, x = .raw (.ref a) ∧ m a = some (.lst ds0) ∧ EvM T E ty δ m (fun y m2 => ∃ ds, m2 a = some (.lst ds) ∧ ds.length < 100000 ∧ N dN (putM m2 a (.lst (ds ++ [y])))) W) W) : EvM T E (tBM K "list" rAppend td (tCons ty tNil)) δ μ N W := fun σ s Q m S q qe =>
  h σ s _ m S (fun v t x l dx ⟨a, ds0, e, ha0, k⟩ => by
    subst e
    obtain ⟨xs0, h0, _⟩ := MH.cell ha0
    rw [dx.rawI]
    refine ⟨.inl ⟨rfl, xs0, SqL.of h0⟩, k σ t _ rfl (S.monoG l.ug) (fun w u y l2 dy ⟨ds, ha, hl, nn⟩ => ?_) fun C fs u l2 w => qe C fs u (l.trans l2) w⟩
    obtain ⟨xs, h1, h2⟩ := MH.cell ha
    obtain ⟨s4, e4, e5, l4⟩ := u.put_ex (o' := .lst (ds ++ [y])) (.lst (xs ++ [w])) ha fun V e ug => ⟨_, by rw [e]; exact upd_same, (h2.app (.cons dy .nil)).monoG ug⟩
    refine ⟨a, xs, w, rfl, rfl, h1, by rw [h2.len]; exact Evl.sz_lt (by omega), ?_⟩
    rw [← e4]
    exact q .non s4 dN ((l.trans l2).trans l4) (.raw _) (by rw [e5]; exact nn)) qe
/-- xs[i], xs a cell -/
theorem evm_ix {r : R2} (hr : r = rIx K) (h : EvM T E td δ μ (fun x m => EvM T E ty δ m (fun y m2 => ∃ a ds i d, x = .raw (.ref a) ∧ m2 a = some (.lst ds) ∧ y = dI i ∧ 0 ≤ i ∧ ds[i.toNat]? = some d ∧ N d m2) W) W) : EvM T E (tOp r td ty) δ μ N W := fun σ s Q m S q qe => by
  subst hr
  exact h σ s _ m S (fun v t x l dx k => k σ t _ rfl (S.monoG l.ug) (fun w u y l2 dy ⟨a, ds, i, d, e, ha, e2, h0, hi, nn⟩ => by
    subst e
    subst e2
    obtain ⟨xs, h1, h2⟩ := MH.cell ha
    obtain ⟨z, p1, p2⟩ := h2.get hi
    exact .inl ⟨a, xs, i, z, dx.rawI, dy.rawI, SqL.of h1, at_get h0 p1, q z u d (l.trans l2) p2 nn⟩) fun C fs u l2 w => qe C fs u (l.trans l2) w) qe
end
end Dn
/-! Own layer: calls of what changes cells; promises over cells. -/
namespace Dn
open PySem PySem.Spec PyProof.Rows L2 LamX
/-- the promise of a def that reads and changes cells: from arguments ds and cells μ, where P holds, N of what it hands back and the cells behind, or W of what it raises -/
def spM (n : Nat) (P : List Dt → Mu → Prop) (N : List Dt → Mu → Dt → Mu → Prop) (W : List Dt → Mu → WM) : Sp := fun vs h Q E => ∃ (T : List (Addr × Str)) (s : MH T) (ds : List Dt), s.H.H = h ∧ DenL s.H vs ds ∧ ds.length = n ∧ P ds s.μ ∧
  (∀ v (t : MH T) d, Le s t → Den t.H v d → N ds s.μ d t.μ → Q v t.H.H) ∧ ∀ C fs (t : MH T), Le s t → W ds s.μ C fs t.μ → EOut E C fs t.H
variable {T : List (Addr × Str)}
section
variable {K : PySem.W.Frag} {E : XK} {δ : Sto} {μ : Mu} {te ta tb : TE} {tas : TA} {d : Dt} {ds : List Dt} {N N' : Dt → Mu → Prop} {W : WM} {n : Nat} {P : List Dt → Mu → Prop} {F : List Dt → Mu → Dt → Mu → Prop} {G : List Dt → Mu → WM}
/-- the call of such a def -/
theorem evm_call (h : EaM T E tas δ μ (fun ds m => ds.length = n ∧ P ds m ∧ (∀ d m', F ds m d m' → N d m') ∧ ∀ C fs m', G ds m C fs m' → W C fs m') W) : EvM T E (tCall (spM n P F G) [] E tas) δ μ N W := fun σ s Q m S q qe =>
  h σ s _ m S (fun vs t ds l dl ⟨hn, hp, nn, ww⟩ => by
    show spM n P F G (vs ++ []) t.H.H Q E
    rw [List.append_nil]
    exact ⟨T, t, ds, rfl, dl, hn, hp, fun v u d l2 dv f => q v u d (l.trans l2) dv (nn d u.μ f), fun C fs u l2 g => qe C fs u (l.trans l2) (ww C fs u.μ g)⟩) qe
/-- o.m(..) -/
theorem evm_meth {C : Addr} {m : Str} (h : EvM T E ta δ μ (fun x m0 => ∃ a fs0, x = .raw (.ref a) ∧ m0 a = some (.ins C fs0) ∧ fs0.lookup m = none ∧ EaM T E tas δ m0 (fun ds m1 => (x :: ds).length = n ∧ P (x :: ds) m1 ∧ (∀ d m', F (x :: ds) m1 d m' → N d m') ∧ ∀ C fs m', G (x :: ds) m1 C fs m' → W C fs m') W) W) :
    EvM T E (tMeth C m (spM n P F G) [] E ta tas) δ μ N W := fun σ s Q m S q qe =>
  h σ s _ m S (fun v t x l dx ⟨a, fs0, e, ha, lk, k⟩ => by
    subst e
    obtain ⟨dx', vs0, h1, h2⟩ := MH.cell ha
    rw [dx.rawI]
    refine ⟨a, dx', vs0, rfl, h1, ?_, k σ t _ rfl (S.monoG l.ug) (fun vs u ds l2 dl ⟨hn, hp, nn, ww⟩ => ?_) fun C fs u l2 w => qe C fs u (l.trans l2) w⟩
    · rcases h2.look _ with ⟨z, _⟩ | ⟨y, d', p1, p2, p3⟩
      · exact z
      · rw [lk] at p2
        cases p2
    · show spM n P F G (V.ref a :: (vs ++ [])) u.H.H Q E
      rw [List.append_nil]
      exact ⟨T, u, _ :: ds, rfl, .cons (.raw _) dl, hn, hp, fun v r d l3 dv f => q v r d ((l.trans l2).trans l3) dv (nn d r.μ f), fun C fs r l3 g => qe C fs r ((l.trans l2).trans l3) (ww C fs r.μ g)⟩) qe
/-- C(): a new object, then its __init__ -/
theorem evm_make0 {C : Addr} (h : ∀ p, μ p = none → (1 = n ∧ P [.raw (.ref p)] (putM μ p (.ins C [])) ∧ (∀ d m', F [.raw (.ref p)] (putM μ p (.ins C [])) d m' → d = dN ∧ N (.raw (.ref p)) m') ∧ ∀ D fs m', G [.raw (.ref p)] (putM μ p (.ins C [])) D fs m' → W D fs m')) :
    EvM T E (tMake C (spM n P F G) [] E tNil) δ μ N W := fun σ s Q m S q qe => fun x dx hx hdx ne => by
  subst m
  have u1 : Up s.H (s.H.nw dx (.own x) hdx) := Up.new hdx
  have hx1 : (s.up _ u1).H.H x = none := by
    show upd s.H.H dx (.own x) x = none
    rw [upd_ne ne.symm]
    exact hx
  obtain ⟨h1, t, e1, e2, l⟩ := (s.up _ u1).new_ex (o' := .ins C []) (.ins C dx []) hx1 fun V e _ => ⟨dx, [], by rw [e]; exact upd_same, .nil⟩
  obtain ⟨hn, hp, nn, ww⟩ := h x h1
  have l' := (s.le_up u1).trans l
  refine ⟨T, t, [.raw (.ref x)], e1, .cons (.raw _) .nil, hn, by rw [e2]; exact hp, fun v u d l2 dv f => ?_, fun D fs u l2 g => ?_⟩
  · rw [e2] at f
    obtain ⟨z, n2⟩ := nn d u.μ f
    subst z
    exact ⟨dv.rawI, q _ u _ (l'.trans l2) (.raw _) n2⟩
  · rw [e2] at g
    exact qe D fs u (l'.trans l2) (ww D fs u.μ g)
end
section
variable {P : Program} {w : World} {K : PySem.W.Frag} {mg : Str → Option Value} {base : Heap}
/-- a def proved over cells -/
theorem Fun.okM_old {x qual : Str} {st : Stmt} {f : Addr} {fd : FuncData} {N ps : List Str} {k n : Nat} {Pr : List Dt → Mu → Prop} {F : List Dt → Mu → Dt → Mu → Prop} {G : List Dt → Mu → WM} (U : L2.Fun K x qual st f fd) (S : FnScope N ps (defScope st)) (hn : n = ps.length)
    (hbody : ∀ (cdv : Value) (A : Around) (outer : List Env) (s : Shared) (H : Hp) (Q : VK) (E : XK), Room k (A.deeper (envOfC qual (defScope st) s.heap.objs.size f cdv)) →
      ∃ t, PSs (cxOf (L2.CX P w) P w K mg base N qual (defScope st) f cdv A outer s H E) (defBody st) t ∧ ∀ (T : List (Addr × Str)) ds μ, ds.length = n → Pr ds μ → HsM T E t (startD N ds) μ (fun _ m => F ds μ dN m) (fun d m => F ds μ d m) noM noM (G ds μ)) : FnOk P w K mg base (L2.CX P w) (k + 1) f fd ps (spM n Pr F G) := by
  refine L2.Fun.okX U S (fun vs H Q E h => ?_) (fun cdv A outer s H vs Q E hr h => ?_)
  · obtain ⟨_, _, ds, _, hd, hl, _⟩ := h
    rw [hd.len, hl, hn]
  · obtain ⟨T, s0, ds, rfl, hd, hl, hp, q, qe⟩ := h
    obtain ⟨t, ht, hh⟩ := hbody cdv A outer s s0.H.H Q E hr
    exact ⟨t, ht, hh T ds s0.μ hl hp (L2.start N vs) s0 _ rfl (DenS.start hd) (fun σ' u δ' l _ z => q .non u dN l (.raw _) z) (fun v u d l dv z => q v u d l dv z) (fun _ _ _ _ _ z => z.elim) (fun _ _ _ _ _ z => z.elim) fun C fs u l z => qe C fs u l z⟩
/-- the same, of a def that raises nothing -/
theorem Fun.okM0_old {x qual : Str} {st : Stmt} {f : Addr} {fd : FuncData} {N ps : List Str} {k n : Nat} {Pr : List Dt → Mu → Prop} {F : List Dt → Mu → Dt → Mu → Prop} (U : L2.Fun K x qual st f fd) (S : FnScope N ps (defScope st)) (hn : n = ps.length)
    (hbody : ∀ (cdv : Value) (A : Around) (outer : List Env) (s : Shared) (H : Hp) (Q : VK) (E : XK), Room k (A.deeper (envOfC qual (defScope st) s.heap.objs.size f cdv)) →
      ∃ t, PSs (cxOf L2.CX0 P w K mg base N qual (defScope st) f cdv A outer s H E).nox (defBody st) t ∧ ∀ (T : List (Addr × Str)) ds μ, ds.length = n → Pr ds μ → HsM T E t (startD N ds) μ (fun _ m => F ds μ dN m) (fun d m => F ds μ d m) noM noM noW) : FnOk P w K mg base L2.CX0 (k + 1) f fd ps (spM n Pr F fun _ _ => noW) := by
  refine L2.Fun.ok U S (fun vs H Q E h => ?_) (fun cdv A outer s H vs Q E hr h => ?_)
  · obtain ⟨_, _, ds, _, hd, hl, _⟩ := h
    rw [hd.len, hl, hn]
  · obtain ⟨T, s0, ds, rfl, hd, hl, hp, q, qe⟩ := h
    obtain ⟨t, ht, hh⟩ := hbody cdv A outer s s0.H.H Q E hr
    exact ⟨t, ht, hh T ds s0.μ hl hp (L2.start N vs) s0 _ rfl (DenS.start hd) (fun σ' u δ' l _ z => q .non u dN l (.raw _) z) (fun v u d l dv z => q v u d l dv z) (fun _ _ _ _ _ z => z.elim) (fun _ _ _ _ _ z => z.elim) fun C fs u l z => z.elim⟩
end
end Dn
/-! Own layer: sorted of numbered things: tuples (number, thing), no two things by one number. -/
namespace SrtN
open PySem PySem.W PySem.Calls PyProof.Rows Srt SrtO L2
section
variable {prog : Program} {w : World} {A : Around} {E : Value → Shared → Prop} {s : Shared}
/-- v is a tuple of a number x and a thing -/
def IsNum (hp : Heap) (v : Value) (x : Int) : Prop := ∃ (a : Addr) (o : Obj) (t : Tok) (r : Value) (m : Nat), v = .ref a ∧ hp.get? a = some o ∧ o.cls = .type "tuple" ∧ o.data = .seq #[.int x t, r] m
theorem IsNum.on {h1 h2 : Heap} {v : Value} {x : Int} (p : IsNum h1 v x) (k : ∀ b o, h1.get? b = some o → o.cls = .type "tuple" → h2.get? b = some o) : IsNum h2 v x := by
  obtain ⟨a, o, t, r, m, e1, e2, e3, e4⟩ := p
  exact ⟨a, o, t, r, m, e1, k a o e2 e3, e3, e4⟩
def ltN (k : Value → Int) : Value → Value → Bool := fun v u => decide (k v < k u)
theorem ltN_swo (k : Value → Int) : Swo (ltN k) := ⟨fun x y z => decide_eq_false (by have := of_decide_eq_true z; omega), fun x y z p q => decide_eq_false (by have := of_decide_eq_false p; have := of_decide_eq_false q; omega)⟩
theorem num_cmp {vs : List Value} {k : Value → Int} (all : ∀ v ∈ vs, IsNum s.heap v (k v)) (one : ∀ v ∈ vs, ∀ u ∈ vs, k v = k u → v = u) : Cmp prog w A s (tuples' true) (fun p => p.1 ∈ vs) (lt2 (ltN k)) := by
  intro p q m1 m2
  have i1 := all _ m1
  have i2 := all _ m2
  show wpAny (model prog w) A (keyLt' (tuples' true) p.1 q.1) (fun b z => z = s ∧ b = decide (k p.1 < k q.1)) (fun _ _ => False) s
  by_cases c : k p.1 = k q.1
  · have e := one _ m1 _ m2 c
    rw [← e]
    generalize p.1 = v at i1 ⊢
    generalize k v = x at i1 ⊢
    obtain ⟨a, o, t, r, n, rfl, g1, g2, g3⟩ := i1
    have no : decide (x < x) = false := decide_eq_false (Int.lt_irrefl x)
    refine PySem.W.kat_lt g1 g3 g1 g3 ?_
    show PySem.W.KatLex prog w A true (decide (2 < 2)) _ [(.int x t, .int x t), (r, r)] 0 s
    refine PySem.W.kat_cons (SeqAt.EqAt.same (.int x t) prog w _ _ ?_)
    refine PySem.W.kat_go (fun _ => PySem.W.kat_yes (PySem.W.kat_cons (SeqAt.EqAt.same r prog w _ _ ?_))) fun z => nomatch z
    exact PySem.W.kat_go (fun _ => PySem.W.kat_yes (PySem.W.kat_nil ⟨rfl, no.symm⟩)) fun z => nomatch z
  · generalize k p.1 = x at i1 c ⊢
    generalize k q.1 = y at i2 c ⊢
    obtain ⟨a, o, t, r, n, f0, g1, g2, g3⟩ := i1
    obtain ⟨b, o2, t2, r2, n2, f1, j1, j2, j3⟩ := i2
    rw [f0, f1]
    refine PySem.W.kat_lt g1 g3 j1 j3 ?_
    show PySem.W.KatLex prog w A true (decide (2 < 2)) _ [(.int x t, .int y t2), (r, r2)] 0 s
    refine PySem.W.kat_cons (SeqAt.EqAt.int_int x t y t2 prog w _ _ ?_)
    exact PySem.W.kat_go (fun z => absurd (by simpa using z) c) fun _ => PySem.W.kat_no (oneLt_int ⟨rfl, rfl⟩)
theorem heads {hp : Heap} {k : Value → Int} : ∀ {vs : List Value}, (∀ v ∈ vs, IsNum hp v (k v)) → ∃ fs : List Value, PySem.W.KatTups hp vs fs ∧ fs.length = vs.length ∧ ∀ f ∈ fs, ∃ x t, f = Value.int x t
  | [], _ => ⟨[], .nil, rfl, fun f z => by cases z⟩
  | v :: vs, all => by
    obtain ⟨fs, q1, q2, q3⟩ := heads (vs := vs) fun u z => all u (List.mem_cons_of_mem _ z)
    obtain ⟨a, o, t, r, n, e, g1, g2, g3⟩ := all v List.mem_cons_self
    rw [e]
    refine ⟨.int (k v) t :: fs, .cons g1 g2 g3 rfl q1, by simp [q2], fun f z => ?_⟩
    rcases List.mem_cons.mp z with z | z
    · exact ⟨k v, t, z⟩
    · exact q3 f z
theorem num_sortable {a : Addr} {vs : List Value} {k : Value → Int} (pos : 0 < vs.length) (all : ∀ v ∈ vs, IsNum s.heap v (k v)) (one : ∀ v ∈ vs, ∀ u ∈ vs, k v = k u → v = u) (na : ∀ o, s.heap.get? a = some o → o.cls ≠ .type "tuple") : SortableO prog w A s a vs (ltN k) := by
  intro h2 kp
  have all2 : ∀ v ∈ vs, IsNum h2 v (k v) := fun v z => (all v z).on fun b o e c => kp b o (fun q => na o (q ▸ e) c) e
  obtain ⟨fs, q1, q2, q3⟩ := heads all2
  refine ⟨tuples' true, fun Q E hq => PySem.W.kat_kind (T := .type "int") q1 (by omega) (fun f z => ?_) rfl ?_, num_cmp all2 one⟩
  · obtain ⟨x, t, rfl⟩ := q3 f z
    exact PySem.W.Looks.now
  · rw [show (Value.type "int" != Value.type "tuple") = true from by decide +kernel]
    exact hq
theorem sorted_nums {l : Addr} {vs : List Value} {k : Value → Int} {Q : Value → Shared → Prop} (hl : s.heap.IsList l vs.toArray) (hz : vs.length ≤ sizeLine) (all : ∀ v ∈ vs, IsNum s.heap v (k v)) (one : ∀ v ∈ vs, ∀ u ∈ vs, k v = k u → v = u)
    (fin : ∀ (h2 : Heap) (d : Addr) (out : List Value), Srtd (ltN k) out → Stb (ltN k) out vs → (∀ b o, s.heap.get? b = some o → h2.get? b = some o) → s.heap.objs.size ≤ d → (∃ n, h2.get? d = some (seqObj "list" out.toArray n)) → Q (.ref d) { s with heap := h2 }) :
    wpAny (model prog w) A (call (.builtin "sorted") [.ref l]) Q E s := by
  refine sorted_ord (ltN_swo k) hl hz (fun two h1 a at1 kp => ?_) fun out o1 o2 => fin _ _ out o1 o2 (fun b o e => sortedAll_old e) (Nat.le_succ _) (sortedAll_at s.heap vs out.toArray)
  refine num_sortable (s := { s with heap := h1 }) (by omega) (fun v z => (all v z).on fun b o e _ => (kp b o e).2) one fun o e c => ?_
  have e2 := e.symm.trans at1
  cases e2
  exact absurd (Value.type.inj c) (by decide)
end
end SrtN
namespace Dn
open PySem PySem.Spec PyProof.Rows L2
/-- sorted(xs), xs a list of tuples (number, thing), no two by one number -/
def rSortedN (K : PySem.W.Frag) : List V → Hp → VK → Prop := fun vs H Q => ∃ (a : Addr) (xs : List V) (k : V → Int), vs = [V.ref a] ∧ SqL K H a xs ∧ (∀ x ∈ xs, ∃ t y, x = V.ref t ∧ H t = some (.tup [.int (k x), y])) ∧ (∀ x ∈ xs, ∀ y ∈ xs, k x = k y → x = y) ∧
  ∀ ys p, ys.Perm xs → ys.Pairwise (fun x y => k x ≤ k y) → H p = none → Q (.ref p) (upd H p (.lst ys))
theorem cr_sortedN {X : Cx} : CallR X (.builtin "sorted") (rSortedN X.K) := by
  intro pins s σ H vs us Q I r h
  obtain ⟨a, xs, k, rfl, hs, hx, one, q⟩ := h
  obtain ⟨its, rv, hl, hz⟩ := I.list hs
  obtain ⟨u, rfl, ru⟩ := vals1 r
  obtain rfl : u = Value.ref a := ru
  obtain ⟨e1, e2⟩ := refs_back rv fun x z => by
    obtain ⟨t, _, e, _⟩ := hx x z
    exact ⟨t, e⟩
  refine SrtN.sorted_nums (k := fun u => k (backV u)) hl.isList (by rw [← rv.length]; exact hz) (fun v hv => ?_) (fun v hv u hu e => ?_) fun h2 d out o1 o2 kp hd hn => ?_
  · obtain ⟨t, rfl⟩ := e2 v hv
    have mem : V.ref t ∈ xs := e1 ▸ List.mem_map_of_mem (f := backV) hv
    obtain ⟨t', y, e, ht⟩ := hx _ mem
    cases e
    obtain ⟨_, its2, r2, o, ho, hc, n, hd⟩ := I.hok _ _ ht
    obtain ⟨u1, u2, rfl, ri, _⟩ := vals2 r2
    obtain ⟨t1, rfl⟩ := ri
    exact ⟨t, o, t1, u2, n, rfl, ho, hc, hd⟩
  · obtain ⟨t, rfl⟩ := e2 v hv
    obtain ⟨t2, rfl⟩ := e2 u hu
    have m1 : V.ref t ∈ xs := e1 ▸ List.mem_map_of_mem (f := backV) hv
    have m2 : V.ref t2 ∈ xs := e1 ▸ List.mem_map_of_mem (f := backV) hu
    cases one _ m1 _ m2 e
    rfl
  · have refs : ∀ u ∈ out, ∃ a, u = Value.ref a := fun u hu => e2 u (o2.perm.mem_iff.mp hu)
    obtain ⟨n, hn⟩ := hn
    have pm : (out.map backV).Perm xs := by
      rw [e1]
      exact o2.perm.map backV
    have pw : (out.map backV).Pairwise (fun x y => k x ≤ k y) := by
      refine List.pairwise_map.mpr (List.Pairwise.imp (fun {x y} z => ?_) o1)
      have z : decide (k (backV y) < k (backV x)) = false := z
      have := of_decide_eq_false z
      omega
    refine ⟨.ref d, upd H d (.lst (out.map backV)), I.laid (t' := s.toks) kp hd ⟨?_, out, n, vals_back refs, hn⟩, rfl, q _ d pm pw (I.hok.fresh hd)⟩
    rw [pm.length_eq]
    exact hz
end Dn
/-! Own layer: sorted of data. -/
namespace Dn
open PySem PySem.Spec PyProof.Rows L2
theorem srt_uniq {α : Type} (key : α → Int) : ∀ {l m : List α}, l.Perm m → l.Pairwise (fun x y => key x ≤ key y) → m.Pairwise (fun x y => key x ≤ key y) → (∀ x ∈ l, ∀ y ∈ l, key x = key y → x = y) → l = m
  | [], m, p, _, _, _ => (List.Perm.nil_eq p)
  | x :: l, [], p, _, _, _ => by cases p.length_eq
  | x :: l, y :: m, p, a, b, inj => by
    have e : x = y := by
      have hx : x ∈ y :: m := p.mem_iff.mp List.mem_cons_self
      have hy : y ∈ x :: l := p.mem_iff.mpr List.mem_cons_self
      refine inj x List.mem_cons_self y hy ?_
      have h1 : key y ≤ key x := by
        rcases List.mem_cons.mp hx with z | z
        · rw [z]
          exact Int.le_refl _
        · exact (List.pairwise_cons.mp b).1 x z
      have h2 : key x ≤ key y := by
        rcases List.mem_cons.mp hy with z | z
        · rw [z]
          exact Int.le_refl _
        · exact (List.pairwise_cons.mp a).1 y z
      omega
    subst e
    rw [srt_uniq key (List.Perm.cons_inv p) (List.pairwise_cons.mp a).2 (List.pairwise_cons.mp b).2 fun u hu v hv => inj u (List.mem_cons_of_mem _ hu) v (List.mem_cons_of_mem _ hv)]
theorem DenL.perm {H : Hv} {xs ys : List V} (p : ys.Perm xs) : ∀ {ds : List Dt}, DenL H xs ds → ∃ es, es.Perm ds ∧ DenL H ys es := by
  induction p with
  | nil =>
    intro ds h
    exact ⟨ds, .refl _, h⟩
  | cons x p ih =>
    intro ds h
    cases h with
    | cons h t =>
      obtain ⟨es, q, k⟩ := ih t
      exact ⟨_ :: es, q.cons _, .cons h k⟩
  | swap x y l =>
    intro ds h
    cases h with
    | cons h t =>
      cases t with
      | cons h2 t => exact ⟨_ :: _ :: _, List.Perm.swap _ _ _, .cons h2 (.cons h t)⟩
  | trans p1 p2 ih1 ih2 =>
    intro ds h
    obtain ⟨es, q, k⟩ := ih2 h
    obtain ⟨fs, q2, k2⟩ := ih1 k
    exact ⟨fs, q2.trans q, k2⟩
/-- the number of a numbered thing -/
def keyD : Dt → Int
  | .tup (.raw (.int n) :: _) => n
  | .raw (.int n) => n
  | _ => 0
def numD : Dt → Bool
  | .tup [.raw (.int _), _] => true
  | _ => false
theorem numD_inv {d : Dt} (h : numD d = true) : ∃ n e, d = .tup [dI n, e] := by
  unfold numD at h
  split at h
  · exact ⟨_, _, rfl⟩
  · cases h
def keyV (H : Hv) (v : V) : Int := match v with
  | .ref t => match H.H t with
    | some (.tup (.int n :: _)) => n
    | _ => 0
  | _ => 0
theorem keyV_of {H : Hv} {v : V} {d : Dt} (h : Den H v d) (n : numD d = true) : keyV H v = keyD d ∧ ∃ t y, v = .ref t ∧ H.H t = some (.tup [.int (keyD d), y]) := by
  obtain ⟨k, e, rfl⟩ := numD_inv n
  obtain ⟨a, xs, rfl, ha, hl⟩ := h.tupI
  obtain ⟨v1, r, rfl, dv, dr⟩ := hl.consI
  obtain ⟨v2, r', rfl, dw, dr'⟩ := dr.consI
  obtain rfl := dr'.nilI
  obtain rfl := dv.rawI
  refine ⟨?_, a, v2, rfl, ha⟩
  unfold keyV
  simp only [ha]
  rfl
theorem DenL.pair {H : Hv} {xs : List V} {ds : List Dt} (h : DenL H xs ds) {x : V} (hx : x ∈ xs) : ∃ d ∈ ds, Den H x d := by
  obtain ⟨i, hi⟩ := List.getElem?_of_mem hx
  obtain ⟨d, q, dd⟩ := h.getV hi
  exact ⟨d, List.mem_of_getElem? q, dd⟩
theorem keys_pw {H : Hv} : ∀ {ys : List V} {es : List Dt}, DenL H ys es → (∀ d ∈ es, numD d = true) → ys.Pairwise (fun x y => keyV H x ≤ keyV H y) → es.Pairwise (fun x y => keyD x ≤ keyD y)
  | [], es, h, _, _ => by
    cases h
    exact .nil
  | y :: ys, es, h, n, p => by
    cases h with
    | @cons _ _ d ds h t =>
      refine List.pairwise_cons.mpr ⟨fun e he => ?_, keys_pw t (fun u hu => n u (List.mem_cons_of_mem _ hu)) (List.pairwise_cons.mp p).2⟩
      obtain ⟨i, hi⟩ := List.getElem?_of_mem he
      obtain ⟨v, q, dv⟩ := t.get hi
      have := (List.pairwise_cons.mp p).1 v (List.mem_of_getElem? q)
      rw [(keyV_of h (n d List.mem_cons_self)).1, (keyV_of dv (n e (List.mem_cons_of_mem _ he))).1] at this
      exact this
section
variable {K : PySem.W.Frag} {ds es : List Dt}
/-- sorted of numbered things, no two by one number -/
theorem ca_sortedN (hn : ∀ d ∈ ds, numD d = true) (nd : (ds.map keyD).Nodup) (pm : es.Perm ds) (pw : es.Pairwise (fun x y => keyD x ≤ keyD y)) : CaD (rSortedN K) [.lst ds] (.lst es) := fun vs H Q h1 q => by
  obtain ⟨v, r, rfl, hd, hr⟩ := h1.consI
  obtain rfl := hr.nilI
  obtain ⟨a, xs, rfl, ha, hl⟩ := hd.lstI
  have inj : ∀ x ∈ ds, ∀ y ∈ ds, keyD x = keyD y → x = y := by
    clear hl hd h1 pm ha
    induction ds with
    | nil => intro x hx; cases hx
    | cons d ds ih =>
      have nd' := List.nodup_cons.mp (show (keyD d :: ds.map keyD).Nodup from nd)
      intro x hx y hy e
      rcases List.mem_cons.mp hx with z1 | z1 <;> rcases List.mem_cons.mp hy with z2 | z2
      · rw [z1, z2]
      · exact absurd (List.mem_map.mpr ⟨y, z2, by rw [← e, z1]⟩) nd'.1
      · exact absurd (List.mem_map.mpr ⟨x, z1, by rw [e, z2]⟩) nd'.1
      · exact ih (fun d hd => hn d (List.mem_cons_of_mem _ hd)) nd'.2 x z1 y z2 e
  refine ⟨a, xs, keyV H, rfl, SqL.of ha, fun x hx => ?_, fun x hx y hy e => ?_, fun ys p p1 p2 hp => ?_⟩
  · obtain ⟨d, hd', dx⟩ := hl.pair hx
    obtain ⟨e, t, y, e1, e2⟩ := keyV_of dx (hn d hd')
    exact ⟨t, y, e1, by rw [e]; exact e2⟩
  · obtain ⟨i, hi⟩ := List.getElem?_of_mem hx
    obtain ⟨j, hj⟩ := List.getElem?_of_mem hy
    obtain ⟨d, q1, d1⟩ := hl.getV hi
    obtain ⟨d', q2, d2⟩ := hl.getV hj
    have m1 := List.mem_of_getElem? q1
    have m2 := List.mem_of_getElem? q2
    rw [(keyV_of d1 (hn d m1)).1, (keyV_of d2 (hn d' m2)).1] at e
    have ei : i = j := by
      have l1 := (List.getElem?_eq_some_iff.mp q1).1
      have l2 := (List.getElem?_eq_some_iff.mp q2).1
      have h3 : (ds.map keyD)[i]? = (ds.map keyD)[j]? := by rw [List.getElem?_map, List.getElem?_map, q1, q2]; exact congrArg some e
      exact (List.getElem?_inj (by rw [List.length_map]; exact l1) nd).mp h3
    subst ei
    rw [hi] at hj
    exact Option.some.inj hj
  · obtain ⟨fs, f1, f2⟩ := hl.perm p1
    have f3 := keys_pw f2 (fun d hd => hn d (f1.mem_iff.mp hd)) p2
    have e : fs = es := srt_uniq keyD (f1.trans pm.symm) f3 pw fun x hx y hy => inj x (f1.mem_iff.mp hx) y (f1.mem_iff.mp hy)
    subst e
    exact q _ (H.nw p _ hp) (Up.new hp) (.lst Hv.nw_at (f2.mono (Up.new hp)))
/-- sorted of ints -/
theorem ca_sortedI {ns ms : List Int} (pm : ms.Perm ns) (pw : ms.Pairwise (· ≤ ·)) : CaD (rSortedI K) [.lst (ns.map dI)] (.lst (ms.map dI)) := fun vs H Q h1 q => by
  obtain ⟨v, r, rfl, hd, hr⟩ := h1.consI
  obtain rfl := hr.nilI
  obtain ⟨a, xs, rfl, ha, hl⟩ := hd.lstI
  obtain rfl := hl.ints
  refine ⟨a, ns, rfl, SqL.of ha, fun ks p p1 p2 hp => ?_⟩
  have e : ks = ms := srt_uniq (fun x => x) (p1.trans pm.symm) p2 pw fun x _ y _ e => e
  subst e
  exact q _ (H.nw p _ hp) (Up.new hp) (.lst Hv.nw_at (DenL.ofInts))
/-- sorted(d), d a dict by ints -/
def rSortedDI : List V → Hp → VK → Prop := fun xs H Q => ∃ (a : Addr) (kvs : List (Key × V)) (ks : List Int), xs = [.ref a] ∧ Rd H a (.dK kvs) ∧ kvs.map (·.1) = ks.map Sum.inl ∧ ks.length < 64 ∧ ∀ (ys : List Int) (p : Addr), ys.Perm ks → ys.Pairwise (· ≤ ·) → H p = none → Q (.ref p) (upd H p (.lst (ys.map V.int)))
theorem cr_sortedDI {X : Cx} (c : X.calm = true) : CallR X (.builtin "sorted") rSortedDI := call_sortedDI c
theorem ca_sortedD {kvs : List (Key × Dt)} {ns ms : List Int} (hk : kvs.map (·.1) = ns.map Sum.inl) (hl : ns.length < 64) (pm : ms.Perm ns) (pw : ms.Pairwise (· ≤ ·)) : CaD rSortedDI [.dct kvs] (.lst (ms.map dI)) := fun vs H Q h1 q => by
  obtain ⟨v, r, rfl, hd, hr⟩ := h1.consI
  obtain rfl := hr.nilI
  obtain ⟨a, ks, rfl, ha, hkk⟩ := hd.dctI
  refine ⟨a, ks, ns, rfl, .inl ha, hkk.keys.trans hk, hl, fun ys p p1 p2 hp => ?_⟩
  have e : ys = ms := srt_uniq (fun x => x) (p1.trans pm.symm) p2 pw fun x _ y _ e => e
  subst e
  exact q _ (H.nw p _ hp) (Up.new hp) (.lst Hv.nw_at (DenL.ofInts))
end
end Dn
/-! Own layer: a look at cells as if they were data: what only reads them. -/
namespace Dn
open PySem PySem.Spec PyProof.Rows L2 LamX LiI
variable {T : List (Addr × Str)}
namespace Hv
/-- the cells of B may be looked at -/
def less (V : Hv) (B : Addr → Prop) : Hv := ⟨V.H, fun a => V.A a ∧ ¬ B a, fun a h => V.f a h.1⟩
theorem less_ug {V : Hv} {B : Addr → Prop} : UpG V (V.less B) := fun a o e _ => gOf (V := V.less B) (sub (V := V) e) fun z => off (V := V) e z.1
end Hv
/-- the cells of a kind -/
def kindD (μ : Mu) (a : Addr) : Prop := ∃ kvs, μ a = some (.dct kvs)
def kindL (μ : Mu) (a : Addr) : Prop := (∃ kvs, μ a = some (.dct kvs)) ∨ ∃ ds, μ a = some (.lst ds)
mutual
/-- no dict in it; no list if b -/
def solid (b : Bool) : Dt → Bool
  | .raw _ => true
  | .lst l => !b && solidL b l
  | .tup l => solidL b l
  | .dct _ => false
  | .exc _ _ => true
  | .scr _ _ => false
def solidL (b : Bool) : List Dt → Bool
  | [] => true
  | d :: l => solid b d && solidL b l
end
/-- B's cells are dicts, or lists if b -/
def Only (V : Hv) (B : Addr → Prop) (b : Bool) : Prop := ∀ a o, B a → V.H a = some o → (∃ kvs, o = .dK kvs) ∨ (b = true ∧ ∃ xs, o = .lst xs)
theorem only_g {V : Hv} {B : Addr → Prop} {b : Bool} (hB : Only V B b) {a : Addr} {o : HO} (e : (V.less B).G a = some o) (n1 : ∀ kvs, o ≠ .dK kvs) (n2 : b = true → ∀ xs, o ≠ .lst xs) : V.G a = some o := by
  have h := Hv.sub e
  refine Hv.gOf h fun z => ?_
  by_cases q : B a
  · rcases hB a o q h with ⟨k, x⟩ | ⟨x, k, y⟩
    · exact n1 k x
    · exact n2 x k y
  · exact Hv.off e ⟨z, q⟩
theorem extv_k {cls : Value} {d : Option Addr} {a : Addr} (kvs : List (Key × V)) : ExV cls d a ≠ .dK kvs := fun z => by
  unfold ExV at z
  cases z
mutual
theorem Den.back {V : Hv} {B : Addr → Prop} {b : Bool} (hB : Only V B b) {v : L2.V} : ∀ {d : Dt}, Den (V.less B) v d → solid b d = true → Den V v d
  | .raw w, h, _ => by
    rw [h.rawI]
    exact .raw _
  | .lst l, h, n => by
    unfold solid at n
    have n' := Bool.and_eq_true_iff.mp n
    cases h with | lst ha hl => exact .lst (only_g hB ha (fun _ z => by cases z) fun q => by rw [q] at n'; cases n'.1) (hl.back hB n'.2)
  | .tup l, h, n => by
    unfold solid at n
    cases h with | tup ha hl => exact .tup (only_g hB ha (fun _ z => by cases z) fun _ _ z => by cases z) (hl.back hB n)
  | .dct l, h, n => by
    unfold solid at n
    cases n
  | .exc _ _, h, n => by
    cases h with
    | exc0 h => exact .exc0 (only_g hB h extv_k fun _ _ => extv_ne)
    | excD h hd hf => exact .excD (only_g hB h extv_k fun _ _ => extv_ne) (only_g hB hd (fun _ z => by cases z) fun _ _ z => by cases z) hf
  | .scr _ _, h, n => by
    unfold solid at n
    cases n
theorem DenL.back {V : Hv} {B : Addr → Prop} {b : Bool} (hB : Only V B b) : ∀ {l : List Dt} {vs : List L2.V}, DenL (V.less B) vs l → solidL b l = true → DenL V vs l
  | [], vs, h, _ => by
    rw [h.nilI]
    exact .nil
  | d :: l, vs, h, n => by
    unfold solidL at n
    have n' := Bool.and_eq_true_iff.mp n
    cases h with | cons h t => exact .cons (h.back hB n'.1) (t.back hB n'.2)
end
mutual
/-- d with the cells of B seen through is d' -/
inductive Vw (μ : Mu) (B : Addr → Prop) : Dt → Dt → Prop where
  | refl (d : Dt) : Vw μ B d d
  | lst {a : Addr} {ds ds' : List Dt} (hb : B a) (h : μ a = some (.lst ds)) (l : VwL μ B ds ds') : Vw μ B (.raw (.ref a)) (.lst ds')
  | dct {a : Addr} {ks ks' : List (Key × Dt)} (hb : B a) (h : μ a = some (.dct ks)) (l : VwK μ B ks ks') : Vw μ B (.raw (.ref a)) (.dct ks')
inductive VwL (μ : Mu) (B : Addr → Prop) : List Dt → List Dt → Prop where
  | refl (ds : List Dt) : VwL μ B ds ds
  | nil : VwL μ B [] []
  | cons {d d' : Dt} {ds ds' : List Dt} (h : Vw μ B d d') (t : VwL μ B ds ds') : VwL μ B (d :: ds) (d' :: ds')
inductive VwK (μ : Mu) (B : Addr → Prop) : List (Key × Dt) → List (Key × Dt) → Prop where
  | refl (ds : List (Key × Dt)) : VwK μ B ds ds
  | nil : VwK μ B [] []
  | cons {k : Key} {d d' : Dt} {ds ds' : List (Key × Dt)} (h : Vw μ B d d') (t : VwK μ B ds ds') : VwK μ B ((k, d) :: ds) ((k, d') :: ds')
end
theorem less_at {V : Hv} {B : Addr → Prop} {a : Addr} {o : HO} (hb : B a) (h : V.H a = some o) : (V.less B).G a = some o := Hv.gOf (V := V.less B) h fun z => z.2 hb
mutual
theorem Vw.den {V : Hv} {μ : Mu} {B : Addr → Prop} (O : Own μ V) {v : L2.V} : ∀ {d d' : Dt}, Vw μ B d d' → Den V v d → Den (V.less B) v d'
  | _, _, .refl d, h => h.monoG Hv.less_ug
  | _, _, .lst hb hm l, h => by
    obtain rfl := h.rawI
    obtain ⟨xs, h1, h2⟩ := O.at_ _ _ hm
    exact .lst (less_at hb h1) (l.den O h2)
  | _, _, .dct hb hm l, h => by
    obtain rfl := h.rawI
    obtain ⟨xs, h1, h2⟩ := O.at_ _ _ hm
    exact .dct (less_at hb h1) (l.den O h2)
theorem VwL.den {V : Hv} {μ : Mu} {B : Addr → Prop} (O : Own μ V) : ∀ {l l' : List Dt} {vs : List L2.V}, VwL μ B l l' → DenL V vs l → DenL (V.less B) vs l'
  | _, _, _, .refl ds, h => h.monoG Hv.less_ug
  | _, _, _, .nil, h => h.monoG Hv.less_ug
  | _, _, _, .cons x t, h => by
    cases h with | cons h1 h2 => exact .cons (x.den O h1) (t.den O h2)
theorem VwK.den {V : Hv} {μ : Mu} {B : Addr → Prop} (O : Own μ V) : ∀ {l l' : List (Key × Dt)} {vs : List (Key × L2.V)}, VwK μ B l l' → DenK V vs l → DenK (V.less B) vs l'
  | _, _, _, .refl ds, h => h.monoG Hv.less_ug
  | _, _, _, .nil, h => h.monoG Hv.less_ug
  | _, _, _, .cons x t, h => by
    cases h with | cons h1 h2 => exact .cons (x.den O h1) (t.den O h2)
end
/-- a store with cells seen through -/
inductive VwS (μ : Mu) (B : Addr → Prop) : Sto → Sto → Prop where
  | nil : VwS μ B [] []
  | off {o : Option Dt} {δ δ' : Sto} (t : VwS μ B δ δ') : VwS μ B (o :: δ) (none :: δ')
  | cons {d d' : Dt} {δ δ' : Sto} (h : Vw μ B d d') (t : VwS μ B δ δ') : VwS μ B (some d :: δ) (some d' :: δ')
theorem VwS.same {μ : Mu} {B : Addr → Prop} : ∀ δ : Sto, VwS μ B δ δ
  | [] => .nil
  | none :: δ => .off (VwS.same δ)
  | some d :: δ => .cons (.refl d) (VwS.same δ)
theorem VwS.at_ {μ : Mu} {B : Addr → Prop} {δ δ' : Sto} (h : VwS μ B δ δ') : δ'.length = δ.length ∧ ∀ (i : Nat) d', δ'[i]? = some (some d') → ∃ d, δ[i]? = some (some d) ∧ Vw μ B d d' := by
  induction h with
  | nil => exact ⟨rfl, fun i d' e => by simp at e⟩
  | off t ih =>
    refine ⟨by simp [ih.1], fun i d' e => ?_⟩
    cases i with
    | zero => simp at e
    | succ i => simpa using ih.2 i d' (by simpa using e)
  | cons h t ih =>
    refine ⟨by simp [ih.1], fun i d' e => ?_⟩
    cases i with
    | zero =>
      simp at e
      subst e
      exact ⟨_, rfl, h⟩
    | succ i => simpa using ih.2 i d' (by simpa using e)
theorem VwS.den {V : Hv} {μ : Mu} {B : Addr → Prop} (O : Own μ V) {σ : L2.St} {δ δ' : Sto} (h : VwS μ B δ δ') (S : DenS V σ δ) : DenS (V.less B) σ δ' := ⟨by rw [h.at_.1]; exact S.len, fun i d' e => by
  obtain ⟨d, h1, h2⟩ := h.at_.2 i d' e
  obtain ⟨v, q1, q2⟩ := S.at_ i d h1
  exact ⟨v, q1, h2.den O q2⟩⟩
theorem only_kind {V : Hv} {μ : Mu} (O : Own μ V) (b : Bool) : Only V (if b = true then kindL μ else kindD μ) b := fun a o h e => by
  have kd : kindD μ a → ∃ kvs, o = .dK kvs := fun ⟨k, hk⟩ => by
    obtain ⟨ks, h1, _⟩ := O.at_ _ _ hk
    rw [h1] at e
    cases e
    exact ⟨_, rfl⟩
  cases b with
  | true =>
    rcases (show kindL μ a from h) with h | ⟨ds, hk⟩
    · exact .inl (kd h)
    · obtain ⟨xs, h1, _⟩ := O.at_ _ _ hk
      rw [h1] at e
      cases e
      exact .inr ⟨rfl, _, rfl⟩
  | false => exact .inl (kd h)
section
variable {K : PySem.W.Frag} {E : XK} {δ δ' : Sto} {μ : Mu} {te : TE} {tas : TA} {tt : TT} {d : Dt} {ds : List Dt} {N : Dt → Mu → Prop} {W : WM}
/-- what only reads: over the store where dicts (and lists if b) are seen through, with a result that has none of these -/
theorem evm_look (b : Bool) (V : VwS μ (if b = true then kindL μ else kindD μ) δ δ') (h : EvS te δ' d) (sd : solid b d = true) (n : N d μ) : EvM T E te δ μ N W := fun σ s Q m S q _ => by
  subst m
  refine h σ (s.H.less _) Q (V.den s.own S) fun v H' u dv => ?_
  have ue : Evl.Ex s.H.H H'.H := u.e
  have u' : Up s.H (s.H.upTo H'.H ue) := ⟨ue, rfl⟩
  have e : H' = (s.H.upTo H'.H ue).less (if b = true then kindL s.μ else kindD s.μ) := by
    obtain ⟨H1, A1, f1⟩ := H'
    have ea : A1 = _ := u.a
    subst ea
    rfl
  rw [e] at dv
  exact q v (s.up _ u') d (s.le_up u') (dv.back (only_kind (s.own.up u') b) sd) n
theorem eam_look {N : List Dt → Mu → Prop} (b : Bool) (V : VwS μ (if b = true then kindL μ else kindD μ) δ δ') (h : EaS tas δ' ds) (sd : solidL b ds = true) (n : N ds μ) : EaM T E tas δ μ N W := fun σ s Q m S q _ => by
  subst m
  refine h σ (s.H.less _) Q (V.den s.own S) fun v H' u dv => ?_
  have ue : Evl.Ex s.H.H H'.H := u.e
  have u' : Up s.H (s.H.upTo H'.H ue) := ⟨ue, rfl⟩
  have e : H' = (s.H.upTo H'.H ue).less (if b = true then kindL s.μ else kindD s.μ) := by
    obtain ⟨H1, A1, f1⟩ := H'
    have ea : A1 = _ := u.a
    subst ea
    rfl
  rw [e] at dv
  exact q v (s.up _ u') ds (s.le_up u') (dv.back (only_kind (s.own.up u') b) sd) n
theorem etm_look {N : Bool → Mu → Prop} {c : Bool} (b : Bool) (V : VwS μ (if b = true then kindL μ else kindD μ) δ δ') (h : EtS tt δ' c) (n : N c μ) : EtM T E tt δ μ N W := fun σ s Q m S q _ => by
  subst m
  refine h σ (s.H.less _) Q (V.den s.own S) fun H' u => ?_
  have ue : Evl.Ex s.H.H H'.H := u.e
  have u' : Up s.H (s.H.upTo H'.H ue) := ⟨ue, rfl⟩
  exact q c (s.up _ u') (s.le_up u') n
end
/-! ### dicts as data -/
section
variable {K : PySem.W.Frag} {δ : Sto} {td ty te : TE} {kvs : List (Key × Dt)} {key : Key} {d : Dt}
theorem ev_dget (h1 : EvS td δ (.dct kvs)) (h2 : EvS ty δ (.raw (kV key))) (hk : valD kvs key = some d) : EvS (tDGet td ty) δ d := fun σ H Q S q => h1 σ H _ S fun v H1 u1 d1 => h2 σ H1 _ (S.mono u1) fun w H2 u2 d2 => by
  obtain ⟨a, ks, rfl, ha, hl⟩ := (d1.mono u2).dctI
  rcases hl.get key with ⟨_, z⟩ | ⟨y, d', p1, p2, p3⟩
  · rw [hk] at z
    cases z
  · rw [hk] at p2
    cases p2
    rw [d2.rawI]
    refine ⟨a, y, rfl, ?_, q y H2 (u1.trans u2) p3⟩
    rw [← p1]
    exact DGet.k ha
theorem ev_din {b : Bool} (h2 : EvS ty δ (.raw (kV key))) (h1 : EvS td δ (.dct kvs)) (hb : (valD kvs key).isSome = b) : EvS (tDIn ty td) δ (dB b) := fun σ H Q S q => h2 σ H _ S fun w H1 u1 d1 => h1 σ H1 _ (S.mono u1) fun v H2 u2 d2 => by
  obtain ⟨a, ks, rfl, ha, hl⟩ := d2.dctI
  rw [d1.rawI]
  refine ⟨a, _, rfl, DGet.k ha, ?_⟩
  rcases hl.get key with ⟨p1, p2⟩ | ⟨y, d', p1, p2, p3⟩ <;> (rw [p1]; rw [p2] at hb; subst hb; exact q _ H2 (u1.trans u2) (.raw _))
theorem ev_dnotin {b : Bool} (h2 : EvS ty δ (.raw (kV key))) (h1 : EvS td δ (.dct kvs)) (hb : (!(valD kvs key).isSome) = b) : EvS (tDNotIn ty td) δ (dB b) := fun σ H Q S q => h2 σ H _ S fun w H1 u1 d1 => h1 σ H1 _ (S.mono u1) fun v H2 u2 d2 => by
  obtain ⟨a, ks, rfl, ha, hl⟩ := d2.dctI
  rw [d1.rawI]
  refine ⟨a, _, rfl, DGet.k ha, ?_⟩
  rcases hl.get key with ⟨p1, p2⟩ | ⟨y, d', p1, p2, p3⟩ <;> (rw [p1]; rw [p2] at hb; subst hb; exact q _ H2 (u1.trans u2) (.raw _))
theorem ca_lenD : CaD (rLenU K) [.dct kvs] (dI kvs.length) := fun vs H Q h1 q => by
  obtain ⟨v, r, rfl, hd, hr⟩ := h1.consI
  obtain rfl := hr.nilI
  obtain ⟨a, ks, rfl, ha, hl⟩ := hd.dctI
  exact .inr (.inl ⟨a, ks, rfl, ha, by rw [hl.len]; exact q _ H exR (.raw _)⟩)
/-- list(d.items()) -/
def itemD (p : Key × Dt) : Dt := .tup [.raw (kV p.1), p.2]
theorem paired_den {H H' : Hv} (e : Up H H') : ∀ {ts : List Addr} {ks : List (Key × V)} {kvs : List (Key × Dt)}, Paired (fun (t : Addr) (q : Key × V) => H'.H t = some (.tup [kV q.1, q.2])) ts ks → (∀ t ∈ ts, ¬ H'.A t) → DenK H ks kvs → DenL H' (ts.map V.ref) (kvs.map itemD)
  | [], [], _, _, _, h => by
    cases h
    exact .nil
  | t :: ts, (k, v) :: ks, _, p, f, h => by
    cases h with
    | cons h1 h2 =>
      cases p with
      | cons p1 p2 => exact .cons (.tup (Hv.gOf p1 (f t List.mem_cons_self)) (.cons (.raw _) (.cons (h1.mono e) .nil))) (paired_den e p2 (fun t z => f t (List.mem_cons_of_mem _ z)) h2)
theorem ev_items (h : EvS te δ (.dct kvs)) : EvS (tListItems te) δ (.lst (kvs.map itemD)) := fun σ H Q S q => h σ H _ S fun v H1 u1 d1 => by
  obtain ⟨a, ks, rfl, ha, hl⟩ := d1.dctI
  refine ⟨a, ks, rfl, ha, fun h2 p ts ex hp hts _ hpl pr => ?_⟩
  have u2 : Up H1 (H1.upTo h2 ex) := Up.to ex
  have off : ∀ b, H1.H b = none → ¬ (H1.upTo h2 ex).A b := fun b z k => H1.f b k z
  exact q _ (H1.upTo h2 ex) (u1.trans u2) (.lst (Hv.gOf hpl (off p hp)) (paired_den u2 pr (fun t z => off t (hts t z)) hl))
end
end Dn
/-! Own layer: the law's own def that keeps what is refused, over cells; calls of pure defs; loops over data. -/
namespace Dn
open PySem PySem.Spec PyProof.Rows L2 LamX
theorem takes_len {X : Cx} {W : WX} (tk : Takes X W) : Takes X (fun cls d σ H => σ.length = X.N.length → W cls d σ H) := fun u s' ⟨a, B, sI, pins, σ, H, cls, d, e, I, nb, up, sky, na, os, ag, w⟩ =>
  tk u s' ⟨a, B, sI, pins, σ, H, cls, d, e, I, nb, up, sky, na, os, ag, w I.len⟩
/-- the lambda done: None; refused: the exception's object, followed from now on -/
def TTkept (K : PySem.W.Frag) (CS : Addr) : (XK → Hp → VK → Prop) → Hp → VK → Prop := fun tl H Q =>
  tl (fun cls d H' => PySem.W.exmOne K cls (.ref CS) = some true ∧ ∀ a, H' a = none → Q (.ref a) (upd H' a (ExV cls d a))) H (fun _ H' => Q .non H')
def nKept : List Str := ["_law_deed", "_law_kept_here", "_law_e"]
def bKept (kk : Nat) (pa pb pc p1 p2 p3 p4 p5 p6 p7 p8 p9 p10 p11 : Pos) : List Stmt :=
  [.Assign [.Name "_law_kept_here" pa] (.Constant .none kk pb) pc,
   .Try [.Expr (.Call (.Name "_law_deed" p1) [] [] p2) p3] [.ExceptHandler (some (.Name "FoldError" p4)) (some "_law_e") [.Assign [.Name "_law_kept_here" p5] (.Name "_law_e" p6) p7] p8] [] [] p9,
   .Return (some (.Name "_law_kept_here" p10)) p11]
def sKept : Scope := { kind := .function, names := [(PySem.Str.ofString "_law_deed", .local), (PySem.Str.ofString "_law_kept_here", .local), (PySem.Str.ofString "_law_e", .local), (PySem.Str.ofString "FoldError", .globalImplicit)], isGenerator := false, isCoroutine := false, more := [] }
theorem kept_gives {X : Cx} {x q : Str} {g CS : Addr} {cdg : Value} {kk : Nat} {pa pb pc p1 p2 p3 p4 p5 p6 p7 p8 p9 p10 p11 : Pos} {sg : Scope} (hsg : sg = sKept) (hme : X.mg "FoldError" = some (.ref CS)) :
    GivesTo X nKept x sg g cdg (bKept kk pa pb pc p1 p2 p3 p4 p5 p6 p7 p8 p9 p10 p11) "_law_deed" q (TTkept X.K CS) := by
  subst hsg
  intro f c' s H Q tl act hc h
  have nd : nKept.Nodup := by decide +kernel
  refine ⟨_, pss_cons (ps_set (X := (cxOf C8.CX0 X.prog X.w X.K X.mg X.base nKept x sKept g cdg X.A X.stack s H C8.E0).nox) (i := 1) nd rfl (Or.inl rfl) pe_non)
    (pss_cons (ps_try_kept (X := (cxOf C8.CX0 X.prog X.w X.K X.mg X.base nKept x sKept g cdg X.A X.stack s H C8.E0).nox) (i := 2) (j := 1) (c := .ref CS)
      (tb := fun W D σ H => ∃ Ech : XK, (∀ cls d σ' H', Ech cls d H' → σ'.length = 3 → W cls d σ' H') ∧ σ[0]? = some (some (.ref f)) ∧ H c' = some (CodeO c' q) ∧ tl Ech H (fun _ H' => D.nx σ H'))
      rfl rfl nd rfl rfl rfl rfl rfl ⟨by rfl, by decide +kernel, .inl hme⟩ L2.takes0 (by decide +kernel) (by decide +kernel) (by rfl) (show 2 < 3 by decide) (fun W pn xe tk _ => ?_))
    (pss_one (ps_ret (pv 1)))), ?_⟩
  · refine ⟨fun pins s' σ H' D I h' => ?_⟩
    obtain ⟨Ech, hW, h1, h2, h3⟩ := h'
    have hp := act (fun cls d σ' H' => σ'.length = 3 → W cls d σ' H') pn xe Ech p1 p2 (takes_len tk) hW
    have hq := pss_one (ps_expr (pos := p3) hp)
    exact hq.run pins s' σ H' D I ⟨h1, h2, h3⟩
  · refine ⟨fun cls d H' => PySem.W.exmOne X.K cls (.ref CS) = some true ∧ ∀ a, H' a = none → Q (.ref a) (upd H' a (ExV cls d a)), fun cls d σ' H' ⟨e1, e2⟩ hl => ⟨true, e1, fun _ a na => ?_, fun z => nomatch z⟩, rfl, hc, ?_⟩
    · match σ', hl with
      | [u, v, z], _ => exact ⟨.ref a, rfl, e2 a na⟩
    · have e : (fun (_ : V) (H' : Hp) => Q .non H') = fun (_ : V) (H' : Hp) => tRet (tVar 1) { nx := fun _ H' => Q .non H', rt := Q } ((L2.start nKept [V.ref f]).set 1 (some .non)) H' := by
        funext _ H'
        refine propext ⟨fun z => ⟨.non, rfl, z⟩, fun ⟨v, e, z⟩ => ?_⟩
        cases (show some (some V.non) = some (some v) from e)
        exact z
      show tl _ H (fun (_ : V) (H' : Hp) => tRet (tVar 1) { nx := fun _ H' => Q .non H', rt := Q } ((L2.start nKept [V.ref f]).set 1 (some .non)) H')
      rw [← e]
      exact h
/-- kept(lambda: body) -/
theorem pe_keep {X : Cx} {T : List (Addr × Str)} {stK : Stmt} {gk CF c P : Addr} {fdk : FuncData} {k : Nat} {params : Arguments} {body : Expr} {scope : Scope} {t : XK → TE} {p lpos pos : Pos} {kk : Nat} {pa pb pc p1 p2 p3 p4 p5 p6 p7 p8 p9 p10 p11 : Pos}
    (Fk : L2.Fun X.K "_law_kept" "_law_kept" stK gk fdk) (hsc : defScope stK = sKept) (hbd : defBody stK = bKept kk pa pb pc p1 p2 p3 p4 p5 p6 p7 p8 p9 p10 p11) (bk : L2.Binds X.K fdk ["_law_deed"] []) (hm : X.mg "_law_kept" = some (.ref gk)) (hF : X.mg "FoldError" = some (.ref CF)) (hg : Gl X "_law_kept")
    (TB : TabB X.base X.mg c P) (hcode : X.env.code = .ref c) (hmT : (P, X.env.qual ++ "<lambda>") ∈ T) (hu : ∀ p ∈ T, p.1 = P → p.2 = X.env.qual ++ "<lambda>") (hr : Room (k + 2) X.A) (L : LamS X.env.scope scope) (hdef : defaultsOf params X.env = ([], []))
    (hbind : ∀ (q : Str) (cl : List (Str × Addr)) (pm cv ctv : Value), bindArgs (PySem.W.kla_fn "<lambda>" q params body scope cl pm cv ctv) ⟨[], []⟩ = pure [])
    (hbody : ∀ (A : Around) (outer : List Env) (s : Shared) (H : Hp) (E : XK) (f c' : Addr), Room k (A.deeper (lamEnv X scope s.heap.objs.size f c')) → PE (lamCx X A outer s H E scope f c') body (t E)) :
    PE X (.Call (.Name "_law_kept" p) [.Lambda params body scope lpos] [] pos) (tLam T (TTkept X.K CF) t) := by
  obtain ⟨oc, od, kV, doc, pm, an, cdv, ct, osl, rfl, lk, hcd⟩ := Fk.ex
  have nd : nKept.Nodup := by decide +kernel
  have Sg : FnScope nKept ["_law_deed"] (defScope stK) := by
    rw [hsc]
    exact ⟨rfl, rfl, rfl, nd, rfl, by decide +kernel, by decide +kernel⟩
  exact pe_lamcall (Ng := nKept) hg hm Fk.kp lk hcd bk Sg rfl (by rw [hsc]; exact Or.inl rfl) (by rw [hbd]; exact kept_gives hsc hF) TB hcode hmT hu hr L hdef hbind hbody (by decide +kernel) (by decide +kernel) (by decide +kernel)
/-- a def's body, the def's code object known -/
theorem Fun.okC {P : Program} {w : World} {K : PySem.W.Frag} {mg : Str → Option Value} {base : Heap} {x qual : Str} {st : Stmt} {f c : Addr} {fd : FuncData} {N ps : List Str} {k : Nat} {sp : Sp} (F : L2.Fun K x qual st f fd) (hfc : fd.code = .ref c) (S : FnScope N ps (defScope st)) (len : ∀ vs H Q E, sp vs H Q E → vs.length = ps.length)
    (hbody : ∀ (A : Around) (outer : List Env) (s : Shared) (H : Hp) (vs : List V) (Q : VK) (E : XK), Room k (A.deeper (envOfC qual (defScope st) s.heap.objs.size f (.ref c))) → sp vs H Q E →
      ∃ t, PSs (cxOf L2.CX0 P w K mg base N qual (defScope st) f (.ref c) A outer s H E).nox (defBody st) t ∧ t { nx := fun _ H' => Q .non H', rt := Q } (L2.start N vs) H) : FnOk P w K mg base L2.CX0 (k + 1) f fd ps sp := by
  obtain ⟨oc, od, kV, doc, pm, an, cdv, ct, osl, e, lk, hcd⟩ := F.ex
  have e2 : cdv = .ref c := by
    rw [e] at hfc
    exact hfc
  subst e2
  subst e
  refine fn_of lk hcd S len fun A outer s H vs Q E hr hsp => ?_
  obtain ⟨t, h, q⟩ := hbody A outer s H vs Q E hr hsp
  exact ⟨t, h.nox, q⟩
/-- a call of what slot i holds: one of several defs -/
def tCallS (i : Nat) (S : Addr → Option Sp) (E : XK) (t : TA) : TE := fun σ H Q => ∃ f sp, σ[i]? = some (some (.ref f)) ∧ S f = some sp ∧ t σ H fun vs H1 => sp vs H1 Q E
section
variable {X : Cx} {CX : CXT} {k j i : Nat} {S : Addr → Option Sp} {E : XK} {x : Str} {p pos : Pos} {e : Expr} {es : List Expr} {t : TA}
theorem pe_callS (A : ∀ f sp, S f = some sp → ∃ (fd : FuncData) (ps : List Str), FnOk X.prog X.w X.K X.mg X.base CX k f fd ps sp ∧ PySem.W.keepIn X.K (.ref f) = true ∧ Binds X.K fd ps []) (hr : Room j X.A) (hk : k ≤ j) (hx : Passes CX X E) (hN : X.N[i]? = some x) (hv : Vis X.env.scope x) (ha : PA X (e :: es) t)
    (hdb : (x == ("__debug__" : Str)) = false := by decide) (hcd : (x == ("__classdict__" : Str)) = false := by decide)
    (he : starEach (e :: es) X.env = (false, eval e X.env) :: starEach es X.env := by rfl) (hpl : (backTo pos (starEach es X.env)).any (·.1) = false := by rfl) : PE X (.Call (.Name x p) (e :: es) [] pos) (tCallS i S E t) := by
  refine ⟨fun pins s σ H Q I h => ?_⟩
  obtain ⟨f, sp, hs, hS, ht⟩ := h
  obtain ⟨fd, ps, F, kp, b⟩ := A f sp hS
  refine (pe_callL (i := i) (f := f) (sp := sp) (dvs := []) (E := E) F (hr.mono hk) hN hv kp b .nil hx ha hdb hcd he hpl).run pins s σ H Q I ⟨hs, ?_⟩
  have e0 : (fun (vs : List V) (H1 : Hp) => sp (vs ++ []) H1 Q E) = fun vs H1 => sp vs H1 Q E := by
    funext vs H1
    rw [List.append_nil]
  rw [e0]
  exact ht
end
end Dn
namespace Dn
open PySem PySem.Spec PyProof.Rows L2 LamX
variable {T : List (Addr × Str)}
section
variable {K : PySem.W.Frag} {E E0 : XK} {δ : Sto} {μ : Mu} {te ta tb tl : TE} {tas : TA} {tt : TT} {t u : TS} {d : Dt} {ds : List Dt} {N N' : Dt → Mu → Prop} {M M' B C : Sto → Mu → Prop} {R : Dt → Mu → Prop} {W W' : WM} {n : Nat} {P : List Dt → Prop}
/-- kept(lambda: body): None, or the refusal's object -/
theorem evm_kept {CF : Addr} {tl : XK → TE} (h : ∀ E, EvM T E (tl E) δ μ (fun _ m => N dN m) W') (w : ∀ C fs m, W' C fs m → PySem.W.exmOne K (.ref C) (.ref CF) = some true ∧ N (.exc C fs) m) : EvM T E0 (tLam T (TTkept K CF) tl) δ μ N W := fun σ s Q m S q _ =>
  ⟨s.tabs, fun h1 e1 T1 => by
    obtain ⟨s1, g1, g2, l1⟩ := s.lam e1 T1
    subst g1
    refine h _ σ s1 _ (g2.trans m) (S.monoG l1.ug) (fun v r d l dv nn => q .non r dN (l1.trans l) (.raw _) nn) fun C fs r l x => ?_
    obtain ⟨hm, nn⟩ := w C fs r.μ x
    refine ⟨fun hf => ⟨hm, fun a na => ?_⟩, fun hf d hd => ⟨hm, fun a na => ?_⟩⟩
    · subst hf
      have u1 : Up r.H (r.H.nw a (ExV (.ref C) none a) na) := Up.new na
      exact q (.ref a) (r.up _ u1) (.exc C []) ((l1.trans l).trans (r.le_up u1)) (.exc0 (Hv.nw_at (hp := na))) nn
    · have u1 : Up r.H (r.H.nw a (ExV (.ref C) (some d) a) na) := Up.new na
      exact q (.ref a) (r.up _ u1) (.exc C fs) ((l1.trans l).trans (r.le_up u1)) (.excD (Hv.nw_at (hp := na)) (u1.g _ _ hd) hf) nn⟩
/-- the call of a def over data -/
theorem evm_callD {f : List Dt → Dt} (h : EaM T E tas δ μ (fun ds m => ds.length = n ∧ P ds ∧ N (f ds) m) W) : EvM T E (tCall (spD n P f) [] E0 tas) δ μ N W := fun σ s Q m S q qe =>
  h σ s _ m S (fun vs t ds l dl ⟨hn, hp, nn⟩ => by
    show spD n P f (vs ++ []) t.H.H Q E0
    rw [List.append_nil]
    exact ⟨t.H, ds, rfl, dl, hn, hp, fun v H' u dv => q v (t.up H' u) _ (l.trans (t.le_up u)) dv nn⟩) qe
/-- the call of a def over data that may raise -/
theorem evm_callX {f : List Dt → Rs} (h : EaM T E tas δ μ (fun ds m => ds.length = n ∧ P ds ∧ (∀ d, f ds = .ok d → N d m) ∧ ∀ C, f ds = .error C → W C [] m) W) : EvM T E (tCall (spX n P f) [] E tas) δ μ N W := fun σ s Q m S q qe =>
  h σ s _ m S (fun vs t ds l dl ⟨hn, hp, nn, ww⟩ => by
    show spX n P f (vs ++ []) t.H.H Q E
    rw [List.append_nil]
    exact ⟨t.H, ds, rfl, dl, hn, hp, fun d e v H' u dv => q v (t.up H' u) _ (l.trans (t.le_up u)) dv (nn d e), fun C e H' u => (qe C [] (t.up H' u) (l.trans (t.le_up u)) (ww C e)).1 rfl⟩) qe
/-- an expression over data that may raise -/
theorem evm_X {r : Rs} (h : EvX E te δ r) (n : ∀ d, r = .ok d → N d μ) (w : ∀ C, r = .error C → W C [] μ) : EvM T E te δ μ N W := fun σ s Q m S q qe => by
  subst m
  exact h σ s.H Q S (fun d e v H' u dv => q v (s.up H' u) d (s.le_up u) dv (n d e)) fun C e H' u => (qe C [] (s.up H' u) (s.le_up u) (w C e)).1 rfl
/-- raise C(..), an own class without fields -/
theorem hm_raise {X : Addr} (w : W X [] μ) : HsM T E (fun _ _ H => E (.ref X) none H) δ μ M R B C W := fun σ s D m _ _ _ _ _ hw => (hw X [] s (.refl s) (by rw [m]; exact w)).1 rfl
/-- a place takes d -/
def GdM (g : TG) (d : Dt) (δ δ' : Sto) : Prop := ∀ (v : V) (σ : L2.St) (H : Hv) (k : L2.St → Hp → Prop), DenS H σ δ → Den H v d → (∀ σ2, DenS H σ2 δ' → k σ2 H.H) → g v σ H.H k
theorem gdm_name {j : Nat} : GdM (gName j) d δ (δ.set j (some d)) := fun v σ H k S h1 q => q _ (S.set h1)
theorem gdm_two {i j : Nat} {x y : Dt} : GdM (gTup K 2 (gCons (gName i) (gCons (gName j) gNil))) (.tup [x, y]) δ ((δ.set i (some x)).set j (some y)) := fun v σ H k S h1 q => by
  obtain ⟨a, xs, rfl, ha, hl⟩ := h1.tupI
  obtain ⟨v1, r, rfl, dv, dr⟩ := hl.consI
  obtain ⟨v2, r', rfl, dw, dr'⟩ := dr.consI
  obtain rfl := dr'.nilI
  exact ⟨a, _, rfl, SqT.of ha, rfl, v1, _, rfl, v2, _, rfl, rfl, q _ ((S.set dv).set dw)⟩
/-- x = e, a, b = e -/
theorem hm_put {g : TG} (h : EvM T E te δ μ (fun d m => ∃ δ', GdM g d δ δ' ∧ M δ' m) W) : HsM T E (tAsg te g) δ μ M R B C W := fun σ s D m S hn _ _ _ hw => h σ s _ m S (fun v t d l dv ⟨δ', hg, n⟩ => hg v σ t.H _ (S.monoG l.ug) dv fun σ2 S2 => hn σ2 t δ' l S2 n) hw
/-- for .. in a list of data -/
theorem hm_forL {g : TG} (h : EvM T E tl δ μ (fun d m => ∃ ds, d = .lst ds ∧ ∃ I : Nat → Sto → Mu → Prop, I 0 δ m ∧ (∀ i δ' m' x, I i δ' m' → ds[i]? = some x → ∃ δ2, GdM g x δ' δ2 ∧ HsM T E t δ2 m' (I (i + 1)) R M (I (i + 1)) W) ∧ ∀ δ' m', I ds.length δ' m' → M δ' m') W) :
    HsM T E (tFor (iList K tl) g t) δ μ M R B C W := fun σ s D m S hn hr hb hc hw =>
  h σ s _ m S (fun v s1 d l1 dv ⟨ds, e, I, h0, hs, hd⟩ => by
    subst e
    obtain ⟨a, xs, rfl, ha, hl⟩ := dv.lstI
    have hg : s1.H.G a = some (.lst xs) := by
      cases dv with | lst h1 _ => rw [Hv.sub h1] at ha; cases ha; exact h1
    refine ⟨a, rfl, ⟨xs, SqL.of ha⟩, for_list (xs := xs) (fun i σ' h' => ∃ s2 : MH T, s2.H.H = h' ∧ Le s1 s2 ∧ ∃ δ', DenS s2.H σ' δ' ∧ I i δ' s2.μ) ⟨s1, rfl, .refl s1, δ, S.monoG l1.ug, h0⟩ (fun i σ' h' _ p => ?_) (fun i x σ' h' hx p => ?_) fun σ' h' p => ?_⟩
    · obtain ⟨s2, rfl, l2, _⟩ := p
      exact SqL.of (Hv.sub (l2.g hg fun _ z => by cases z))
    · obtain ⟨s2, rfl, l2, δ', S2, i2⟩ := p
      obtain ⟨d, hd', dx⟩ := hl.getV hx
      obtain ⟨δ2, hgd, hb2⟩ := hs i δ' s2.μ d i2 hd'
      refine hgd x σ' s2.H _ S2 (dx.monoG l2.ug) fun σ3 S3 => ?_
      exact hb2 σ3 s2 _ rfl S3 (fun σ4 s4 δ4 l4 S4 n4 => ⟨s4, rfl, l2.trans l4, δ4, S4, n4⟩) (fun v s4 d l4 d4 r => hr v s4 d ((l1.trans l2).trans l4) d4 r) (fun σ4 s4 δ4 l4 S4 n4 => hn σ4 s4 δ4 ((l1.trans l2).trans l4) S4 n4)
        (fun σ4 s4 δ4 l4 S4 n4 => ⟨s4, rfl, l2.trans l4, δ4, S4, n4⟩) fun X fs s4 l4 w => hw X fs s4 ((l1.trans l2).trans l4) w
    · obtain ⟨s2, rfl, l2, δ', S2, i2⟩ := p
      rw [hl.len] at i2
      exact hn σ' s2 δ' (l1.trans l2) S2 (hd δ' s2.μ i2)) hw
/-- for .. in a tuple of data -/
theorem hm_forT {g : TG} (h : EvM T E tl δ μ (fun d m => ∃ ds, d = .tup ds ∧ ∃ I : Nat → Sto → Mu → Prop, I 0 δ m ∧ (∀ i δ' m' x, I i δ' m' → ds[i]? = some x → ∃ δ2, GdM g x δ' δ2 ∧ HsM T E t δ2 m' (I (i + 1)) R M (I (i + 1)) W) ∧ ∀ δ' m', I ds.length δ' m' → M δ' m') W) :
    HsM T E (tFor (iTup K tl) g t) δ μ M R B C W := fun σ s D m S hn hr hb hc hw =>
  h σ s _ m S (fun v s1 d l1 dv ⟨ds, e, I, h0, hs, hd⟩ => by
    subst e
    obtain ⟨a, xs, rfl, ha, hl⟩ := dv.tupI
    have hg : s1.H.G a = some (.tup xs) := by
      cases dv with | tup h1 _ => rw [Hv.sub h1] at ha; cases ha; exact h1
    refine ⟨a, rfl, ⟨xs, SqT.of ha⟩, for_tup (xs := xs) (fun i σ' h' => ∃ s2 : MH T, s2.H.H = h' ∧ Le s1 s2 ∧ ∃ δ', DenS s2.H σ' δ' ∧ I i δ' s2.μ) ⟨s1, rfl, .refl s1, δ, S.monoG l1.ug, h0⟩ (fun i σ' h' _ p => ?_) (fun i x σ' h' hx p => ?_) fun σ' h' p => ?_⟩
    · obtain ⟨s2, rfl, l2, _⟩ := p
      exact SqT.of (Hv.sub (l2.g hg fun _ z => by cases z))
    · obtain ⟨s2, rfl, l2, δ', S2, i2⟩ := p
      obtain ⟨d, hd', dx⟩ := hl.getV hx
      obtain ⟨δ2, hgd, hb2⟩ := hs i δ' s2.μ d i2 hd'
      refine hgd x σ' s2.H _ S2 (dx.monoG l2.ug) fun σ3 S3 => ?_
      exact hb2 σ3 s2 _ rfl S3 (fun σ4 s4 δ4 l4 S4 n4 => ⟨s4, rfl, l2.trans l4, δ4, S4, n4⟩) (fun v s4 d l4 d4 r => hr v s4 d ((l1.trans l2).trans l4) d4 r) (fun σ4 s4 δ4 l4 S4 n4 => hn σ4 s4 δ4 ((l1.trans l2).trans l4) S4 n4)
        (fun σ4 s4 δ4 l4 S4 n4 => ⟨s4, rfl, l2.trans l4, δ4, S4, n4⟩) fun X fs s4 l4 w => hw X fs s4 ((l1.trans l2).trans l4) w
    · obtain ⟨s2, rfl, l2, δ', S2, i2⟩ := p
      rw [hl.len] at i2
      exact hn σ' s2 δ' (l1.trans l2) S2 (hd δ' s2.μ i2)) hw
/-- while, over cells -/
theorem hm_while (I : Nat → Sto → Mu → Prop) (k : Nat) (h0 : I k δ μ) (hs : ∀ k δ' m, I k δ' m → EtM T E tt δ' m (fun b m' => (b = true → HsM T E t δ' m' (fun x y => ∃ j, j < k ∧ I j x y) R M (fun x y => ∃ j, j < k ∧ I j x y) W) ∧ (b = false → M δ' m')) W) : HsM T E (tWhile tt t) δ μ M R B C W := fun σ s D m S hn hr hb hc hw => by
  refine ⟨fun k σ' h' => ∃ s2 : MH T, s2.H.H = h' ∧ Le s s2 ∧ ∃ δ', DenS s2.H σ' δ' ∧ I k δ' s2.μ, ⟨k, s, rfl, .refl s, δ, S, by rw [m]; exact h0⟩, fun k σ' h' p => ?_⟩
  obtain ⟨s2, rfl, l2, δ', S2, i2⟩ := p
  refine hs k δ' s2.μ i2 σ' s2 _ rfl S2 (fun b s3 l3 n => ?_) fun X fs u l3 w => hw X fs u (l2.trans l3) w
  have l23 := l2.trans l3
  cases b with
  | true =>
    refine (if_pos rfl).mpr ⟨fun σ4 h4 => ∃ j, j < k ∧ ∃ s4 : MH T, s4.H.H = h4 ∧ Le s s4 ∧ ∃ δ4, DenS s4.H σ4 δ4 ∧ I j δ4 s4.μ, fun _ _ z => z, ?_⟩
    exact n.1 rfl σ' s3 _ rfl (S2.monoG l3.ug) (fun σ4 s4 δ4 l4 S4 ⟨j, hj, i4⟩ => ⟨j, hj, s4, rfl, l23.trans l4, δ4, S4, i4⟩) (fun v s4 d l4 d4 r => hr v s4 d (l23.trans l4) d4 r) (fun σ4 s4 δ4 l4 S4 n4 => hn σ4 s4 δ4 (l23.trans l4) S4 n4)
      (fun σ4 s4 δ4 l4 S4 ⟨j, hj, i4⟩ => ⟨j, hj, s4, rfl, l23.trans l4, δ4, S4, i4⟩) fun X fs s4 l4 w => hw X fs s4 (l23.trans l4) w
  | false => exact (if_neg (fun z => nomatch z)).mpr (hn σ' s3 δ' l23 (S2.monoG l3.ug) (n.2 rfl))
end
end Dn
/-! Own layer: many clocks, in plain mathematics. -/
namespace Dn
theorem nat_cover {m F c : Nat} (h : m ∣ Nat.lcm F c) : m ∣ Nat.lcm (Nat.gcd m F) (Nat.gcd m c) := by
  by_cases m0 : m = 0
  · subst m0
    rw [Nat.gcd_zero_left, Nat.gcd_zero_left]
    exact h
  have hp : Nat.gcd (Nat.gcd m F) (Nat.gcd m c) ∣ Nat.gcd m F := Nat.gcd_dvd_left _ _
  have hq : Nat.gcd (Nat.gcd m F) (Nat.gcd m c) ∣ Nat.gcd m c := Nat.gcd_dvd_right _ _
  have pos : 0 < Nat.gcd (Nat.gcd m F) (Nat.gcd m c) := Nat.gcd_pos_of_pos_left _ (Nat.gcd_pos_of_pos_left _ (by omega))
  have hl : Nat.gcd (Nat.gcd m F) (Nat.gcd m c) * Nat.lcm (Nat.gcd m F) (Nat.gcd m c) = Nat.gcd m F * Nat.gcd m c := Nat.gcd_mul_lcm _ _
  refine Nat.dvd_of_mul_dvd_mul_left pos ?_
  rw [hl]
  generalize Nat.gcd (Nat.gcd m F) (Nat.gcd m c) = g at *
  have g1 : g ∣ m := Nat.dvd_trans hp (Nat.gcd_dvd_left _ _)
  have g2 : g ∣ F := Nat.dvd_trans hp (Nat.gcd_dvd_right _ _)
  have g3 : g ∣ c := Nat.dvd_trans hq (Nat.gcd_dvd_right _ _)
  rw [show Nat.gcd m F * Nat.gcd m c = Nat.gcd (Nat.gcd (m * m) (m * c)) (Nat.gcd (F * m) (F * c)) from by rw [Nat.gcd_mul_left, Nat.gcd_mul_left, Nat.gcd_mul_right]]
  refine Nat.dvd_gcd (Nat.dvd_gcd (Nat.mul_dvd_mul g1 (Nat.dvd_refl m)) ?_) (Nat.dvd_gcd (Nat.mul_dvd_mul g2 (Nat.dvd_refl m)) ?_)
  · rw [Nat.mul_comm m c]
    exact Nat.mul_dvd_mul g3 (Nat.dvd_refl m)
  · rw [← Nat.gcd_mul_lcm F c]
    exact Nat.mul_dvd_mul (Nat.dvd_gcd g2 g3) h
/-- what each of two goes by, their least common multiple goes by -/
theorem gcd_cover {F c d G z : Int} (hG : ∀ n : Int, F ∣ n → c ∣ n → G ∣ n) (h1 : (Int.gcd F d : Int) ∣ z) (h2 : (Int.gcd c d : Int) ∣ z) : (Int.gcd G d : Int) ∣ z := by
  have a1 : F ∣ (Nat.lcm F.natAbs c.natAbs : Int) := Int.natAbs_dvd.mp (Int.ofNat_dvd.mpr (Nat.dvd_lcm_left _ _))
  have a2 : c ∣ (Nat.lcm F.natAbs c.natAbs : Int) := Int.natAbs_dvd.mp (Int.ofNat_dvd.mpr (Nat.dvd_lcm_right _ _))
  have a3 : G.natAbs ∣ Nat.lcm F.natAbs c.natAbs := by
    have := Int.natAbs_dvd_natAbs.mpr (hG _ a1 a2)
    simpa using this
  have a4 : Nat.gcd G.natAbs d.natAbs ∣ Nat.lcm F.natAbs c.natAbs := Nat.dvd_trans (Nat.gcd_dvd_left _ _) a3
  have a5 := nat_cover a4
  have up : ∀ x : Int, (Int.gcd x d : Int) ∣ z → Nat.gcd (Nat.gcd G.natAbs d.natAbs) x.natAbs ∣ z.natAbs := fun x h => by
    have h' : Nat.gcd x.natAbs d.natAbs ∣ z.natAbs := by
      have := Int.natAbs_dvd_natAbs.mpr h
      simpa [Int.gcd] using this
    refine Nat.dvd_trans (Nat.dvd_gcd (Nat.gcd_dvd_right _ _) (Nat.dvd_trans (Nat.gcd_dvd_left _ _) (Nat.gcd_dvd_right _ _))) h'
  have a6 : Nat.gcd G.natAbs d.natAbs ∣ z.natAbs := Nat.dvd_trans a5 (Nat.lcm_dvd (up F h1) (up c h2))
  exact Int.ofNat_dvd_left.mpr a6
abbrev Ck := Int × Int
def okCk (c : Ck) : Prop := 1 ≤ c.1 ∧ 0 ≤ c.2 ∧ c.2 < c.1
def agr (c d : Ck) : Bool := decide ((d.2 - c.2) % (Int.gcd c.1 d.1 : Int) = 0)
/-- a fold and one clock more -/
def fold1 (F c : Ck) : Option Ck := if agr F c = true then some (foldR F.1 c.1, foldF F.1 F.2 c.1 c.2) else none
def foldAll : Ck → List Ck → Option Ck
  | F, [] => some F
  | F, c :: cs => (fold1 F c).bind fun G => foldAll G cs
def meets (cs : List Ck) (t : Int) : Prop := ∀ c ∈ cs, t % c.1 = c.2
theorem mod_iff {h x t : Int} (x0 : 0 ≤ x) (x1 : x < h) : t % h = x ↔ h ∣ t - x := by
  refine ⟨fun e => ?_, fun e => ?_⟩
  · rw [← e]
    exact Int.dvd_self_sub_emod
  · have h1 := (Int.emod_emod_of_dvd t (Int.dvd_refl h))
    have h2 : (t - x) % h = 0 := Int.emod_eq_zero_of_dvd e
    have h3 := Int.emod_eq_emod_iff_emod_sub_eq_zero.mpr h2
    rw [h3]
    exact Int.emod_eq_of_lt x0 x1
theorem agr_iff {c d : Ck} : agr c d = true ↔ (Int.gcd c.1 d.1 : Int) ∣ d.2 - c.2 := by
  unfold agr
  rw [decide_eq_true_iff]
  exact ⟨Int.dvd_of_emod_eq_zero, Int.emod_eq_zero_of_dvd⟩
/-- clocks that are right at one turn agree -/
theorem agr_of {c d : Ck} {t : Int} (hc : okCk c) (hd : okCk d) (h1 : t % c.1 = c.2) (h2 : t % d.1 = d.2) : agr c d = true := by
  refine agr_iff.mpr ?_
  have e1 := (mod_iff hc.2.1 hc.2.2).mp h1
  have e2 := (mod_iff hd.2.1 hd.2.2).mp h2
  have g1 : (Int.gcd c.1 d.1 : Int) ∣ t - c.2 := Int.dvd_trans (Int.gcd_dvd_left ..) e1
  have g2 : (Int.gcd c.1 d.1 : Int) ∣ t - d.2 := Int.dvd_trans (Int.gcd_dvd_right ..) e2
  have := Int.dvd_sub g1 g2
  rwa [show t - c.2 - (t - d.2) = d.2 - c.2 from by omega] at this
theorem foldR_lcm {W h : Int} (hW : 1 ≤ W) (hh : 1 ≤ h) : W ∣ foldR W h ∧ h ∣ foldR W h ∧ 1 ≤ foldR W h ∧ ∀ n : Int, W ∣ n → h ∣ n → foldR W h ∣ n := by
  obtain ⟨a, m, e1, e2, a1, m1, q1, q2, cop⟩ := fold_parts hW hh
  have g1 := gcd_pos (h := h) hW
  have er : foldR W h = W * m := by unfold foldR; rw [q2]
  refine ⟨⟨m, er⟩, ⟨a, ?_⟩, ?_, fun n hn hm => ?_⟩
  · rw [er]
    generalize (Int.gcd W h : Int) = g at *
    rw [e1, e2, Int.mul_assoc, Int.mul_assoc, Int.mul_comm a m]
  · rw [er]
    have := Int.mul_pos (show 0 < W by omega) (show 0 < m by omega)
    omega
  · rw [er]
    obtain ⟨k, rfl⟩ := hn
    refine Int.mul_dvd_mul_left W ?_
    have : (Int.gcd W h : Int) * m ∣ (Int.gcd W h : Int) * (a * k) := by
      rw [← Int.mul_assoc, ← e1, ← e2]
      exact hm
    have h3 : m ∣ a * k := Int.dvd_of_mul_dvd_mul_left (by omega) this
    have h4 : m.natAbs ∣ a.natAbs * k.natAbs := by
      rw [← Int.natAbs_mul]
      exact Int.natAbs_dvd_natAbs.mpr h3
    have h5 : Nat.Coprime m.natAbs a.natAbs := by
      show Nat.gcd m.natAbs a.natAbs = 1
      rw [Nat.gcd_comm]
      exact cop
    exact Int.natAbs_dvd_natAbs.mp (h5.dvd_of_dvd_mul_left h4)
theorem fold1_some {F c G : Ck} (hF : okCk F) (hc : okCk c) (h : fold1 F c = some G) : okCk G ∧ (∀ n : Int, G.1 ∣ n ↔ F.1 ∣ n ∧ c.1 ∣ n) ∧ ∀ t : Int, t % G.1 = G.2 ↔ t % F.1 = F.2 ∧ t % c.1 = c.2 := by
  unfold fold1 at h
  split at h
  · rename_i ha
    cases h
    have hd : (c.2 - F.2) % (Int.gcd F.1 c.1 : Int) = 0 := by
      unfold agr at ha
      exact of_decide_eq_true ha
    obtain ⟨r1, r2, r3, r4⟩ := fold_ok hF.1 hc.1 hF.2.1 hF.2.2 hc.2.1 hc.2.2 hd
    obtain ⟨l1, l2, l3, l4⟩ := foldR_lcm hF.1 hc.1
    refine ⟨⟨l3, r1, r2⟩, fun n => ⟨fun z => ⟨Int.dvd_trans l1 z, Int.dvd_trans l2 z⟩, fun z => l4 n z.1 z.2⟩, fun t => ?_⟩
    show t % foldR F.1 c.1 = foldF F.1 F.2 c.1 c.2 ↔ _
    refine ⟨fun z => ?_, fun z => ?_⟩
    · have e := (mod_iff r1 r2).mp z
      have e1 := Int.dvd_trans l1 e
      have e2 := Int.dvd_trans l2 e
      exact ⟨(Int.emod_eq_emod_iff_emod_sub_eq_zero.mpr (Int.emod_eq_zero_of_dvd e1)).trans r3, (Int.emod_eq_emod_iff_emod_sub_eq_zero.mpr (Int.emod_eq_zero_of_dvd e2)).trans r4⟩
    · refine (mod_iff r1 r2).mpr (l4 _ ?_ ?_)
      · exact Int.dvd_of_emod_eq_zero (Int.emod_eq_emod_iff_emod_sub_eq_zero.mp (z.1.trans r3.symm))
      · exact Int.dvd_of_emod_eq_zero (Int.emod_eq_emod_iff_emod_sub_eq_zero.mp (z.2.trans r4.symm))
  · cases h
theorem foldAll_some : ∀ {cs : List Ck} {F G : Ck}, okCk F → (∀ c ∈ cs, okCk c) → foldAll F cs = some G → okCk G ∧ (∀ n : Int, G.1 ∣ n ↔ F.1 ∣ n ∧ ∀ c ∈ cs, c.1 ∣ n) ∧ ∀ t : Int, t % G.1 = G.2 ↔ t % F.1 = F.2 ∧ meets cs t
  | [], F, G, hF, _, h => by
    cases h
    exact ⟨hF, fun n => ⟨fun z => ⟨z, fun c hc => by cases hc⟩, fun z => z.1⟩, fun t => ⟨fun z => ⟨z, fun c hc => by cases hc⟩, fun z => z.1⟩⟩
  | c :: cs, F, G, hF, hcs, h => by
    obtain ⟨M, h1, h2⟩ := Option.bind_eq_some_iff.mp h
    obtain ⟨m1, m2, m3⟩ := fold1_some hF (hcs c List.mem_cons_self) h1
    obtain ⟨g1, g2, g3⟩ := foldAll_some m1 (fun d hd => hcs d (List.mem_cons_of_mem _ hd)) h2
    refine ⟨g1, fun n => ?_, fun t => ?_⟩
    · rw [g2, m2]
      refine ⟨fun z => ⟨z.1.1, fun d hd => ?_⟩, fun z => ⟨⟨z.1, z.2 c List.mem_cons_self⟩, fun d hd => z.2 d (List.mem_cons_of_mem _ hd)⟩⟩
      rcases List.mem_cons.mp hd with e | e
      · rw [e]
        exact z.1.2
      · exact z.2 d e
    · rw [g3, m3]
      refine ⟨fun z => ⟨z.1.1, fun d hd => ?_⟩, fun z => ⟨⟨z.1, z.2 c List.mem_cons_self⟩, fun d hd => z.2 d (List.mem_cons_of_mem _ hd)⟩⟩
      rcases List.mem_cons.mp hd with e | e
      · rw [e]
        exact z.1.2
      · exact z.2 d e
/-- where each two agree, there is a fold -/
theorem foldAll_agree : ∀ {cs : List Ck} {F : Ck}, okCk F → (∀ c ∈ cs, okCk c) → (∀ c ∈ cs, agr F c = true) → cs.Pairwise (fun c d => agr c d = true) → ∃ G, foldAll F cs = some G
  | [], F, _, _, _, _ => ⟨F, rfl⟩
  | c :: cs, F, hF, hcs, h1, h2 => by
    have hc := hcs c List.mem_cons_self
    have e : fold1 F c = some (foldR F.1 c.1, foldF F.1 F.2 c.1 c.2) := by
      unfold fold1
      rw [if_pos (h1 c List.mem_cons_self)]
    obtain ⟨m1, m2, m3⟩ := fold1_some hF hc e
    generalize (foldR F.1 c.1, foldF F.1 F.2 c.1 c.2) = M at *
    obtain ⟨hp, hr⟩ := List.pairwise_cons.mp h2
    have rt := (m3 M.2).mp (Int.emod_eq_of_lt m1.2.1 m1.2.2)
    have f1 := (mod_iff hF.2.1 hF.2.2).mp rt.1
    have f2 := (mod_iff hc.2.1 hc.2.2).mp rt.2
    have ag : ∀ d ∈ cs, agr M d = true := fun d hd => by
      refine agr_iff.mpr (gcd_cover (F := F.1) (c := c.1) (fun n a b => (m2 n).mpr ⟨a, b⟩) ?_ ?_)
      · have := Int.dvd_sub (agr_iff.mp (h1 d (List.mem_cons_of_mem _ hd))) (Int.dvd_trans (Int.gcd_dvd_left ..) f1)
        rwa [show d.2 - F.2 - (M.2 - F.2) = d.2 - M.2 from by omega] at this
      · have := Int.dvd_sub (agr_iff.mp (hp d hd)) (Int.dvd_trans (Int.gcd_dvd_left ..) f2)
        rwa [show d.2 - c.2 - (M.2 - c.2) = d.2 - M.2 from by omega] at this
    obtain ⟨G, hG⟩ := foldAll_agree (F := M) m1 (fun d hd => hcs d (List.mem_cons_of_mem _ hd)) ag hr
    exact ⟨G, by show (fold1 F c).bind _ = _; rw [e]; exact hG⟩
/-- no turn, no fold -/
theorem foldAll_none {cs : List Ck} {F : Ck} (hF : okCk F) (hcs : ∀ c ∈ cs, okCk c) {t : Int} (h1 : t % F.1 = F.2) (h2 : meets cs t) : ∃ G, foldAll F cs = some G := by
  refine foldAll_agree hF hcs (fun c hc => agr_of hF (hcs c hc) h1 (h2 c hc)) ?_
  refine List.pairwise_iff_getElem.mpr fun i j hi hj _ => ?_
  exact agr_of (hcs _ (List.getElem_mem hi)) (hcs _ (List.getElem_mem hj)) (h2 _ (List.getElem_mem hi)) (h2 _ (List.getElem_mem hj))
end Dn
/-! Own layer: a dict of clocks by their numbers, as it stands in a wall and in a law. -/
namespace Dn
open PySem PySem.Spec PyProof.Rows L2
abbrev Cks := List (Int × Ck)
def ckD (c : Ck) : Dt := .tup [dI c.1, dI c.2]
def dctD (cs : Cks) : List (Key × Dt) := cs.map fun p => (.inl p.1, ckD p.2)
def putC (cs : Cks) (n : Int) (c : Ck) : Cks := if (cs.any fun p => decide (p.1 = n)) = true then cs.map (fun p => if p.1 = n then (p.1, c) else p) else cs ++ [(n, c)]
def dropC (cs : Cks) (n : Int) : Cks := cs.filter fun p => decide (p.1 ≠ n)
def valC (cs : Cks) (n : Int) : Option Ck := (cs.find? fun p => decide (p.1 = n)).map (·.2)
theorem key_eq {n m : Int} : ((Sum.inl n : Key) = Sum.inl m) ↔ n = m := ⟨fun h => Sum.inl.inj h, fun h => by rw [h]⟩
theorem dec_key {n m : Int} : decide ((Sum.inl n : Key) = Sum.inl m) = decide (n = m) := by
  by_cases h : n = m <;> simp [h]
theorem any_dct (cs : Cks) (n : Int) : ((dctD cs).any fun kv => decide (kv.1 = Sum.inl n)) = cs.any fun p => decide (p.1 = n) := by
  unfold dctD
  rw [List.any_map]
  congr 1
  funext p
  exact dec_key
theorem putD_dct {cs : Cks} {n : Int} {c : Ck} : putD (dctD cs) (.inl n) (ckD c) = dctD (putC cs n c) := by
  unfold putD putC
  rw [any_dct]
  split
  · unfold dctD
    rw [List.map_map, List.map_map]
    refine List.map_congr_left fun p _ => ?_
    show (if (Sum.inl p.1 : Key) = Sum.inl n then _ else _) = _
    by_cases h : p.1 = n
    · rw [if_pos (key_eq.mpr h)]
      simp [h]
    · rw [if_neg fun z => h (key_eq.mp z)]
      simp [h]
  · unfold dctD
    rw [List.map_append]
    rfl
theorem dropD_dct {cs : Cks} {n : Int} : dropD (dctD cs) (.inl n) = dctD (dropC cs n) := by
  unfold dropD dropC dctD
  rw [List.filter_map]
  congr 1
  refine List.filter_congr fun p _ => ?_
  show decide ((Sum.inl p.1 : Key) ≠ Sum.inl n) = decide (p.1 ≠ n)
  by_cases h : p.1 = n <;> simp [h]
theorem valD_dct {cs : Cks} {n : Int} : valD (dctD cs) (.inl n) = (valC cs n).map ckD := by
  unfold valD valC dctD
  rw [List.find?_map]
  have e : ((fun kv : Key × Dt => decide (kv.1 = Sum.inl n)) ∘ fun p : Int × Ck => ((.inl p.1 : Key), ckD p.2)) = fun p => decide (p.1 = n) := by
    funext p
    exact dec_key
  rw [e]
  cases cs.find? fun p => decide (p.1 = n) <;> rfl
theorem keys_dct {cs : Cks} : (dctD cs).map (·.1) = (cs.map (·.1)).map Sum.inl := by
  unfold dctD
  rw [List.map_map, List.map_map]
  rfl
theorem len_dct {cs : Cks} : (dctD cs).length = cs.length := List.length_map ..
/-- clocks by rising numbers, none beyond the greatest that was given -/
structure Good (g : Int) (cs : Cks) : Prop where
  up : (cs.map (·.1)).Pairwise (· < ·)
  lo : ∀ p ∈ cs, 1 ≤ p.1 ∧ p.1 ≤ g
  ok : ∀ p ∈ cs, okCk p.2 ∧ p.2.1 ≤ 1000000000000000000000000000000
  g0 : 0 ≤ g
  le : cs.length ≤ 60
theorem Good.nil : Good 0 [] := ⟨.nil, (fun p h => nomatch h), (fun p h => nomatch h), Int.le_refl 0, Nat.zero_le _⟩
theorem Good.sorted {g : Int} {cs : Cks} (h : Good g cs) : (cs.map (·.1)).Pairwise (· ≤ ·) := h.up.imp fun z => Int.le_of_lt z
theorem Good.nodup {g : Int} {cs : Cks} (h : Good g cs) : (cs.map (·.1)).Nodup := h.up.imp fun z => Int.ne_of_lt z
theorem Good.new {g : Int} {cs : Cks} (h : Good g cs) : putC cs (g + 1) c = cs ++ [(g + 1, c)] := by
  unfold putC
  rw [if_neg]
  intro z
  obtain ⟨p, hp, e⟩ := List.any_eq_true.mp z
  have := (h.lo p hp).2
  have := of_decide_eq_true e
  omega
theorem Good.put {g : Int} {cs : Cks} {c : Ck} (h : Good g cs) (hl : cs.length < 60) (hc : okCk c ∧ c.1 ≤ 1000000000000000000000000000000) : Good (g + 1) (putC cs (g + 1) c) := by
  rw [h.new]
  refine ⟨?_, fun p hp => ?_, fun p hp => ?_, by have := h.g0; omega, by rw [List.length_append]; exact hl⟩
  · rw [List.map_append]
    refine List.pairwise_append.mpr ⟨h.up, List.pairwise_singleton _ _, fun a ha b hb => ?_⟩
    obtain ⟨p, hp, rfl⟩ := List.mem_map.mp ha
    have := (h.lo p hp).2
    rcases List.mem_singleton.mp hb with rfl
    show p.1 < g + 1
    omega
  · rcases List.mem_append.mp hp with q | q
    · have := h.lo p q
      exact ⟨this.1, by omega⟩
    · rcases List.mem_singleton.mp q with rfl
      have := h.g0
      exact ⟨by show 1 ≤ g + 1; omega, Int.le_refl _⟩
  · rcases List.mem_append.mp hp with q | q
    · exact h.ok p q
    · rcases List.mem_singleton.mp q with rfl
      exact hc
theorem Good.drop {g : Int} {cs : Cks} {n : Int} (h : Good g cs) : Good g (dropC cs n) := by
  refine ⟨?_, fun p hp => h.lo p (List.mem_filter.mp hp).1, fun p hp => h.ok p (List.mem_filter.mp hp).1, h.g0, Nat.le_trans (List.length_filter_le ..) h.le⟩
  exact h.up.sublist ((List.filter_sublist (p := fun p : Int × Ck => decide (p.1 ≠ n)) (l := cs)).map _)
theorem putC_keys {cs : Cks} {n : Int} {c : Ck} (h : (cs.any fun p => decide (p.1 = n)) = true) : (putC cs n c).map (·.1) = cs.map (·.1) := by
  unfold putC
  rw [if_pos h, List.map_map]
  refine List.map_congr_left fun p _ => ?_
  show (if p.1 = n then (p.1, c) else p).1 = p.1
  split <;> rfl
theorem any_val {cs : Cks} {n : Int} {c : Ck} (h : valC cs n = some c) : (cs.any fun p => decide (p.1 = n)) = true ∧ (n, c) ∈ cs := by
  unfold valC at h
  obtain ⟨p, h1, h2⟩ := Option.map_eq_some_iff.mp h
  have h3 := List.find?_some h1
  have h4 := List.mem_of_find?_eq_some h1
  refine ⟨List.any_eq_true.mpr ⟨p, h4, h3⟩, ?_⟩
  have h5 : p.1 = n := of_decide_eq_true h3
  obtain ⟨a, b⟩ := p
  cases h5
  cases h2
  exact h4
theorem Good.turn {g : Int} {cs : Cks} {n : Int} {c d : Ck} (h : Good g cs) (hv : valC cs n = some d) (hc : okCk c ∧ c.1 ≤ 1000000000000000000000000000000) : Good g (putC cs n c) ∧ (putC cs n c).length = cs.length := by
  have ha := (any_val hv).1
  have hk := putC_keys (c := c) ha
  have hlen : (putC cs n c).length = cs.length := by
    unfold putC
    rw [if_pos ha, List.length_map]
  refine ⟨⟨by rw [hk]; exact h.up, fun p hp => ?_, fun p hp => ?_, h.g0, by rw [hlen]; exact h.le⟩, hlen⟩
  · have : p.1 ∈ cs.map (·.1) := by rw [← hk]; exact List.mem_map_of_mem hp
    obtain ⟨q, hq, e⟩ := List.mem_map.mp this
    rw [← e]
    exact h.lo q hq
  · unfold putC at hp
    rw [if_pos ha] at hp
    obtain ⟨q, hq, e⟩ := List.mem_map.mp hp
    split at e
    · rw [← e]
      exact hc
    · rw [← e]
      exact h.ok q hq
/-- the numbers' list -/
def numsC (cs : Cks) : List Int := cs.map (·.1)
theorem val_at {cs : Cks} {i : Nat} {p : Int × Ck} (nd : (cs.map (·.1)).Nodup) (h : cs[i]? = some p) : valC cs p.1 = some p.2 := by
  induction cs generalizing i with
  | nil => simp at h
  | cons q cs ih =>
    have nd' := List.nodup_cons.mp (show (q.1 :: cs.map (·.1)).Nodup from nd)
    unfold valC
    cases i with
    | zero =>
      simp at h
      subst h
      rw [List.find?_cons_of_pos (by simp)]
      rfl
    | succ i =>
      have h : cs[i]? = some p := by simpa using h
      have ne : q.1 ≠ p.1 := fun z => nd'.1 (by rw [z]; exact List.mem_map_of_mem (List.mem_of_getElem? h))
      rw [List.find?_cons_of_neg (by simpa using ne)]
      exact ih nd'.2 h
/-- items of the dict, rising -/
theorem items_dct {cs : Cks} : (dctD cs).map itemD = cs.map fun p => .tup [dI p.1, ckD p.2] := by
  unfold dctD
  rw [List.map_map]
  rfl
end Dn
/-! Own layer: dicts compared, lists of cells changed by place, walks over two lists, sums. -/
namespace Dn
open PySem PySem.Spec PyProof.Rows L2 LamX RZ
/-- two dicts of unlike sizes -/
def rEqDL : R2 := fun x y H Q => ∃ a b ks ls, x = V.ref a ∧ y = V.ref b ∧ H a = some (.dK ks) ∧ H b = some (.dK ls) ∧ ks.length ≠ ls.length ∧ Q (.bl false) H
theorem op_eq_dlen {X : Cx} (hu : X.A.units < cLine) : OpR X (compareOp .Eq) rEqDL := by
  intro pins s σ H x y v u Q I rx ry h
  obtain ⟨a, b, ks, ls, rfl, rfl, ea, eb, ne, q⟩ := h
  obtain rfl : v = Value.ref a := rx
  obtain rfl : u = Value.ref b := ry
  obtain ⟨_, za, va, ra, da⟩ := (show ObjOk X.prog X.w H s.heap a (.dK ks) from I.hok a _ ea)
  obtain ⟨_, zb, vb, rb, db⟩ := (show ObjOk X.prog X.w H s.heap b (.dK ls) from I.hok b _ eb)
  have no : va.length ≠ vb.length := by rw [← ra.length, ← rb.length]; exact ne
  exact PySem.W.keq_eq (knd := mixKind X.prog X.w) (r := true) za zb da db hu (fun z => absurd z no) (fin_bl I q (by simp [no]))
/-- a dict and {} -/
def rEqDE : R2 := fun x y H Q => rEqDA x y H Q ∨ rEqDL x y H Q
theorem op_eq_dempty {X : Cx} (hu : X.A.units < cLine) : OpR X (compareOp .Eq) rEqDE := (op_eq_dictA hu).or (op_eq_dlen hu)
theorem od_eqDE {kvs : List (Key × Dt)} : OpD rEqDE (.dct kvs) (.dct []) (dB (decide (kvs = []))) := fun v w H Q h1 h2 q => by
  obtain ⟨a, ks, rfl, ha, hk⟩ := h1.dctI
  obtain ⟨b, ls, rfl, hb, hl⟩ := h2.dctI
  cases hl
  cases hk with
  | nil => exact .inl ⟨a, b, [], [], rfl, rfl, ha, hb, rfl, (fun p z => nomatch z), q _ H exR (.raw _)⟩
  | cons h t => exact .inr ⟨a, b, _, [], rfl, rfl, ha, hb, (fun z => nomatch z), q _ H exR (.raw _)⟩
/-- sum of ints, all of bools -/
theorem ca_sum {K : PySem.W.Frag} {ns : List Int} : CaD (rSum K) [.lst (ns.map dI)] (dI ns.sum) := fun vs H Q h1 q => by
  obtain ⟨v, r, rfl, hd, hr⟩ := h1.consI
  obtain rfl := hr.nilI
  obtain ⟨a, xs, rfl, ha, hl⟩ := hd.lstI
  obtain rfl := hl.ints
  exact ⟨a, ns, rfl, SqL.of ha, q _ H exR (.raw _)⟩
theorem DenL.bools {H : Hv} {xs : List V} {bs : List Bool} (h : DenL H xs (bs.map dB)) : xs = bs.map V.bl := by
  induction bs generalizing xs with
  | nil => exact h.nilI
  | cons n ns ih =>
    obtain ⟨v, r, rfl, h1, h2⟩ := h.consI
    rw [h1.rawI, ih h2] <;> rfl
theorem ca_all {K : PySem.W.Frag} {bs : List Bool} : CaD (rAll K) [.lst (bs.map dB)] (dB (bs.all id)) := fun vs H Q h1 q => by
  obtain ⟨v, r, rfl, hd, hr⟩ := h1.consI
  obtain rfl := hr.nilI
  obtain ⟨a, xs, rfl, ha, hl⟩ := hd.lstI
  obtain rfl := hl.bools
  exact ⟨a, bs, rfl, SqL.of ha, q _ H exR (.raw _)⟩
variable {T : List (Addr × Str)}
section
variable {K : PySem.W.Frag} {E : XK} {δ : Sto} {μ : Mu} {te td ty tv : TE} {tas : TA} {t : TS} {d : Dt} {N : Dt → Mu → Prop} {M B C : Sto → Mu → Prop} {R : Dt → Mu → Prop} {W : WM}
/-- dict(d), d a cell: a new one alike -/
def rDictD : List V → Hp → VK → Prop := fun xs H Q => ∃ (a : Addr) (kvs : List (Key × V)), xs = [.ref a] ∧ Rd H a (.dK kvs) ∧ ∀ p, H p = none → Q (.ref p) (upd H p (.dK kvs))
theorem evm_dict (h : EvM T E te δ μ (fun x m => ∃ a kvs, x = .raw (.ref a) ∧ m a = some (.dct kvs) ∧ ∀ p, m p = none → N (.raw (.ref p)) (putM m p (.dct kvs))) W) : EvM T E (tCB rDictD (tCons te tNil)) δ μ N W := fun σ s Q m S q qe =>
  h σ s _ m S (fun v t x l dx ⟨a, kvs, e, ha, n⟩ => by
    subst e
    obtain ⟨ks, h1, h2⟩ := MH.cell ha
    refine ⟨a, ks, by rw [dx.rawI], .inl h1, fun p hp => ?_⟩
    obtain ⟨h3, r, e1, e2, l2⟩ := t.new_ex (o' := .dct kvs) (.dK ks) hp fun V e ug => ⟨_, by rw [e]; exact upd_same, h2.monoK ug⟩
    rw [← e1]
    exact q _ r _ (l.trans l2) (.raw _) (by rw [e2]; exact n p h3)) qe
/-- xs[i] = e, xs a cell -/
theorem hm_setL (h : EvM T E te δ μ (fun z m => EvM T E td δ m (fun x m1 => EvM T E ty δ m1 (fun y m2 => ∃ a ds i, x = .raw (.ref a) ∧ m2 a = some (.lst ds) ∧ y = dI i ∧ 0 ≤ i ∧ i.toNat < ds.length ∧ M δ (putM m2 a (.lst (ds.set i.toNat z)))) W) W) W) : HsM T E (tAsg te (gSub td ty rSetL)) δ μ M R B C W := fun σ s D m S hn _ _ _ hw =>
  h σ s _ m S (fun v t z l dz k => k σ t _ rfl (S.monoG l.ug) (fun w u x l2 dx k2 => k2 σ u _ rfl (S.monoG (l.trans l2).ug) (fun w' r y l3 dy ⟨a, ds, i, e, ha, e2, i0, hi, nn⟩ => by
    subst e
    subst e2
    obtain ⟨xs, h1, h2⟩ := MH.cell ha
    have dz' := dz.monoG (l2.trans l3).ug
    have hl : i < (xs.length : Int) := by rw [h2.len]; omega
    have st : ∀ V : Hv, UpG r.H V → DenL V (xs.set i.toNat v) (ds.set i.toNat z) := fun V ug => by
      have h2' := h2.monoG ug
      have dz2 := dz'.monoG ug
      clear hl hi nn h1 ha k2 k
      generalize i.toNat = j
      clear h2
      induction j generalizing xs ds with
      | zero => cases h2' with
        | nil => exact .nil
        | cons h t => exact .cons dz2 t
      | succ j ih => cases h2' with
        | nil => exact .nil
        | cons h t => exact .cons h (ih _ _ t)
    obtain ⟨s4, e4, e5, l4⟩ := r.put_ex (o' := .lst (ds.set i.toNat z)) (.lst (xs.set i.toNat v)) ha fun V e ug => ⟨_, by rw [e]; exact upd_same, st V ug⟩
    refine ⟨a, xs, i, i.toNat, dx.rawI, dy.rawI, h1, ?_, ?_⟩
    · unfold ixN
      rw [if_pos i0, if_pos hl]
    · rw [← e4]
      exact hn σ s4 δ (((l.trans l2).trans l3).trans l4) (S.monoG (((l.trans l2).trans l3).trans l4).ug) (by rw [e5]; exact nn)) fun C fs u l3 w => hw C fs u ((l.trans l2).trans l3) w) fun C fs u l2 w => hw C fs u (l.trans l2) w) hw
/-- for x, y in zip(xs, ys): two cells that stand still -/
theorem hm_zip {i j : Nat} (a b : Addr) (ds es : List Dt) (hl : ds.length = es.length) (I : Nat → Sto → Mu → Prop) (h : EaM T E tas δ μ (fun vs m => vs = [.raw (.ref a), .raw (.ref b)] ∧ I 0 δ m) W) (st : ∀ k δ' m, I k δ' m → m a = some (.lst ds) ∧ m b = some (.lst es))
    (pl : ∀ d, d ∈ ds ++ es → ∃ v, d = .raw v) (hs : ∀ k δ' m x y, I k δ' m → ds[k]? = some x → es[k]? = some y → HsM T E t ((δ'.set i (some x)).set j (some y)) m (I (k + 1)) R M (I (k + 1)) W) (hd : ∀ δ' m, I ds.length δ' m → M δ' m) :
    HsM T E (tFor (iZip K tas) (gTup K 2 (gCons (gName i) (gCons (gName j) gNil))) t) δ μ M R B C W := fun σ s D m S hn hr hb hc hw =>
  h σ s _ m S (fun vs s1 l l1 dl ⟨e, h0⟩ => by
    subst e
    obtain ⟨v1, r, rfl, dv, dr⟩ := dl.consI
    obtain ⟨v2, r', rfl, dw, dr'⟩ := dr.consI
    obtain rfl := dr'.nilI
    obtain rfl := dv.rawI
    obtain rfl := dw.rawI
    have raws : ∀ {V : Hv} {xs : List L2.V} {l : List Dt}, (∀ d ∈ l, ∃ v, d = .raw v) → DenL V xs l → l = xs.map .raw := fun {V xs l} => by
      induction l generalizing xs with
      | nil => intro _ h; rw [h.nilI]; rfl
      | cons d l ih =>
        intro p h
        obtain ⟨v, e⟩ := p d List.mem_cons_self
        subst e
        cases h with
        | cons h t =>
          rw [ih (fun d hd => p d (List.mem_cons_of_mem _ hd)) t, h.rawI]
          rfl
    obtain ⟨ha, hb'⟩ := st 0 δ s1.μ h0
    obtain ⟨xs, h1, h2⟩ := MH.cell ha
    obtain ⟨ys, h3, h4⟩ := MH.cell hb'
    have e1 : ds = xs.map .raw := raws (fun d hd => pl d (List.mem_append_left _ hd)) h2
    have e2 : es = ys.map .raw := raws (fun d hd => pl d (List.mem_append_right _ hd)) h4
    subst e1
    subst e2
    rw [List.length_map, List.length_map] at hl
    have same : ∀ {s2 : MH T} {p : Addr} {zs : List L2.V}, s2.μ p = some (.lst (zs.map .raw)) → s2.H.H p = some (.lst zs) := fun {s2 p zs} hp => by
      obtain ⟨ws, q1, q2⟩ := MH.cell hp
      have := raws (fun d hd => by obtain ⟨v, _, e⟩ := List.mem_map.mp hd; exact ⟨v, e.symm⟩) q2
      have inj := (List.map_inj_right (f := Dt.raw) fun x y e => Dt.raw.inj e).mp this
      rw [inj]
      exact q1
    refine ⟨a, b, xs, ys, rfl, SqL.of h1, SqL.of h3, for_zipL hl (fun k σ' h' => ∃ s2 : MH T, s2.H.H = h' ∧ Le s1 s2 ∧ ∃ δ', DenS s2.H σ' δ' ∧ I k δ' s2.μ) ⟨s1, rfl, .refl s1, δ, S.monoG l1.ug, h0⟩ (fun k σ' h' p => ?_) (fun k x y P σ' h' hx hy p hP => ?_) fun σ' h' p => ?_⟩
    · obtain ⟨s2, rfl, l2, δ', S2, i2⟩ := p
      exact ⟨SqL.of (same (st k δ' s2.μ i2).1), SqL.of (same (st k δ' s2.μ i2).2)⟩
    · obtain ⟨s2, rfl, l2, δ', S2, i2⟩ := p
      have u3 : Up s2.H (s2.H.nw P (.tup [x, y]) hP) := Up.new hP
      have S3 := (S2.mono u3).set (i := i) (Den.raw x) |>.set (i := j) (Den.raw y)
      refine ⟨P, [x, y], rfl, SqT.of upd_same, rfl, x, _, rfl, y, _, rfl, rfl, ?_⟩
      have l3 := l2.trans (s2.le_up u3)
      exact hs k δ' s2.μ (.raw x) (.raw y) i2 (by rw [List.getElem?_map, hx]; rfl) (by rw [List.getElem?_map, hy]; rfl) _ (s2.up _ u3) _ rfl S3 (fun σ4 s4 δ4 l4 S4 n4 => ⟨s4, rfl, l3.trans l4, δ4, S4, n4⟩) (fun v s4 d l4 d4 r => hr v s4 d ((l1.trans l3).trans l4) d4 r) (fun σ4 s4 δ4 l4 S4 n4 => hn σ4 s4 δ4 ((l1.trans l3).trans l4) S4 n4)
        (fun σ4 s4 δ4 l4 S4 n4 => ⟨s4, rfl, l3.trans l4, δ4, S4, n4⟩) fun X fs s4 l4 w => hw X fs s4 ((l1.trans l3).trans l4) w
    · obtain ⟨s2, rfl, l2, δ', S2, i2⟩ := p
      exact hn σ' s2 δ' (l1.trans l2) S2 (hd δ' s2.μ (by rw [List.length_map]; exact i2))) hw
end
end Dn
/-! Own layer: methods and makers by their promises. -/
namespace Dn
open PySem PySem.Spec PyProof.Rows L2
/-- the method m of the class at C keeps the promise sp, by at most k levels -/
structure ClM (P : Program) (w : World) (K : PySem.W.Frag) (mg : Str → Option Value) (base : Heap) (CX : CXT) (k : Nat) (C : Addr) (m : Str) (sp : Sp) : Prop where
  ex : ∃ (f : Addr) (fd : FuncData) (ps : List Str), FnOk P w K mg base CX k f fd ps sp ∧ Meth K C m f ∧ Binds K fd ps []
  cl : Cls K C
/-- the class that the module's name x holds is made by an __init__ that keeps the promise sp -/
structure ClI (P : Program) (w : World) (K : PySem.W.Frag) (mg : Str → Option Value) (base : Heap) (CX : CXT) (k : Nat) (C : Addr) (x : Str) (sp : Sp) : Prop where
  ex : ∃ (f : Addr) (fd : FuncData) (ps : List Str), FnOk P w K mg base CX k f fd ps sp ∧ Mk K C f ∧ Binds K fd ps []
  mg : mg x = some (.ref C)
section
variable {X : Cx} {CX : CXT} {k j : Nat} {C : Addr} {m x : Str} {sp : Sp} {E : XK} {p pos apos : Pos} {o e : Expr} {es : List Expr} {ta : TE} {t : TA}
theorem pe_clm {pl : Sem Bool} (M : ClM X.prog X.w X.K X.mg X.base CX k C m sp) (hr : Room j X.A) (hk : k ≤ j) (hx : Passes CX X E) (ho : PE X o ta) (ha : PA X (e :: es) t)
    (he : starEach (e :: es) X.env = (false, eval e X.env) :: starEach es X.env := by rfl) (hpl : (backTo pos (starEach es X.env)).any (·.1) = false := by rfl)
    (ht : eval (.Call (.Attribute o m apos) (e :: es) [] pos) X.env = (do
      let ov ← eval o X.env
      standAt apos.atName
      let (f, first) ← holding [ov] (getMethod ov m pl)
      callWith pos f first (backTo pos (starEach (e :: es) X.env)) (backToKw pos (keywordEach [] X.env))) := by rfl) : PE X (.Call (.Attribute o m apos) (e :: es) [] pos) (tMeth C m sp [] E ta t) := by
  obtain ⟨f, fd, ps, F, me, b⟩ := M.ex
  exact pe_meth (pl := pl) ho M.cl me F (hr.mono hk) b .nil hx ha he hpl ht
theorem pe_clm0 {pl : Sem Bool} (M : ClM X.prog X.w X.K X.mg X.base CX k C m sp) (hr : Room j X.A) (hk : k ≤ j) (hx : Passes CX X E) (ho : PE X o ta)
    (ht : eval (.Call (.Attribute o m apos) [] [] pos) X.env = (do
      let ov ← eval o X.env
      standAt apos.atName
      let (f, first) ← holding [ov] (getMethod ov m pl)
      callWith pos f first (backTo pos (starEach [] X.env)) (backToKw pos (keywordEach [] X.env))) := by rfl) : PE X (.Call (.Attribute o m apos) [] [] pos) (tMeth C m sp [] E ta tNil) := by
  obtain ⟨f, fd, ps, F, me, b⟩ := M.ex
  exact pe_meth0 (pl := pl) ho M.cl me F (hr.mono hk) b .nil hx ht
theorem pe_cli0 (M : ClI X.prog X.w X.K X.mg X.base CX k C x sp) (hr : Room j X.A) (hk : k + 1 ≤ j) (hx : Passes CX X E) (hg : Gl X x) (hdb : (x == ("__debug__" : Str)) = false := by decide) : PE X (.Call (.Name x p) [] [] pos) (tMake C sp [] E tNil) := by
  obtain ⟨f, fd, ps, F, mk, b⟩ := M.ex
  exact pe_make0 mk F (hr.mono hk) hg M.mg b .nil hx (hdb := hdb)
end
end Dn
/-! Own layer: more rules over cells. -/
namespace Dn
open PySem PySem.Spec PyProof.Rows L2 LamX LiI
variable {T : List (Addr × Str)}
theorem sl_U {X : Cx} : SlR X (rSlL X.K) := sl_list
def cutI (ns : List Int) (lo hi : Option Int) : List Int := (ns.drop (HT.sIx ns.length 0 lo)).take (HT.sIx ns.length ns.length hi - HT.sIx ns.length 0 lo)
def cutD (ds : List Dt) (lo hi : Option Int) : List Dt := (ds.drop (HT.sIx ds.length 0 lo)).take (HT.sIx ds.length ds.length hi - HT.sIx ds.length 0 lo)
section
variable {K : PySem.W.Frag} {E : XK} {δ : Sto} {μ : Mu} {te td ty tv ta : TE} {tl th : TO} {tas : TA} {t : TS} {d : Dt} {ds : List Dt} {N : Dt → Mu → Prop} {M B C : Sto → Mu → Prop} {R : Dt → Mu → Prop} {W : WM} {lo hi : Option Int}
/-- a slice of the script -/
theorem ev_slScr {ns : List Int} (h : EvS te δ (.scr K ns)) (h1 : EoS tl δ lo) (h2 : EoS th δ hi) : EvS (tSl (rSlL K) te tl th) δ (.lst ((cutI ns lo hi).map dI)) := fun σ H Q S q =>
  h σ H _ S fun v H1 u1 d1 => h1 σ H1 _ (S.mono u1) fun H2 u2 => h2 σ H2 _ (S.mono (u1.trans u2)) fun H3 u3 => by
    have d3 := d1.mono (u2.trans u3)
    cases d3 with
    | scr hs =>
      have hs' : SqL K H3.H _ (ns.map V.int) := hs.imp (fun h => h.imp (fun h => Hv.sub h) fun ⟨o, h⟩ => ⟨o, Hv.sub h⟩) id
      refine ⟨_, _, rfl, hs', fun p hp => q _ (H3.nw p _ hp) (((u1.trans u2).trans u3).trans (Up.new hp)) (.lst Hv.nw_at ?_)⟩
      have e : cutV (ns.map V.int) lo hi = (cutI ns lo hi).map V.int := by
        unfold cutV cutI
        rw [List.length_map, ← List.map_drop, ← List.map_take]
      rw [e]
      exact DenL.ofInts
/-- a slice of a list -/
theorem ev_slL (h : EvS te δ (.lst ds)) (h1 : EoS tl δ lo) (h2 : EoS th δ hi) : EvS (tSl (rSlL K) te tl th) δ (.lst (cutD ds lo hi)) := fun σ H Q S q =>
  h σ H _ S fun v H1 u1 d1 => h1 σ H1 _ (S.mono u1) fun H2 u2 => h2 σ H2 _ (S.mono (u1.trans u2)) fun H3 u3 => by
    obtain ⟨a, xs, rfl, ha, hl⟩ := (d1.mono (u2.trans u3)).lstI
    refine ⟨_, _, rfl, SqL.of ha, fun p hp => q _ (H3.nw p _ hp) (((u1.trans u2).trans u3).trans (Up.new hp)) (.lst Hv.nw_at ?_)⟩
    have e : DenL H3 (cutV xs lo hi) (cutD ds lo hi) := by
      unfold cutV cutD
      rw [hl.len]
      exact (hl.drop _).take _
    exact e.mono (Up.new hp)
/-! attributes changed by +=, entries gone -/
theorem hm_fldaug {f : Str} (h : EvM T E ta δ μ (fun x m => ∃ a C fs i, x = .raw (.ref a) ∧ m a = some (.ins C fs) ∧ Cls K C ∧ NoAttr K C f ∧ fs.lookup f = some (dI i) ∧ EvM T E tv δ m (fun y m2 => ∃ j fs', y = dI j ∧ m2 a = some (.ins C fs') ∧ fs'.length < 1000 ∧ M δ (putM m2 a (.ins C (putFD f (dI (i + j)) fs')))) W) W) :
    HsM T E (sFldAug K ta tv rAdd f) δ μ M R B C W := fun σ s D m S hn _ _ _ hw =>
  h σ s _ m S (fun v t x l dx ⟨a, C, fs, i, e, ha, c, n, lk, k⟩ => by
    subst e
    obtain ⟨dx', vs, h1, h2⟩ := MH.cell ha
    rcases h2.look f with ⟨_, z⟩ | ⟨y, d', p1, p2, p3⟩
    · rw [lk] at z
      cases z
    · rw [lk] at p2
      cases p2
      refine ⟨a, C, dx', vs, y, dx.rawI, h1, c, n, p1, k σ t _ rfl (S.monoG l.ug) (fun w u z l2 dz ⟨j, fs', e, hb, hz, nn⟩ => ?_) fun C fs u l2 w => hw C fs u (l.trans l2) w⟩
      subst e
      obtain ⟨dx2, vs2, g1, g2⟩ := MH.cell hb
      obtain ⟨r, e1, e2, l3⟩ := u.put_ex (o' := .ins C (putFD f (dI (i + j)) fs')) (.ins C dx2 (putF f (.int (i + j)) vs2)) hb fun V e ug => ⟨dx2, _, by rw [e]; exact upd_same, (g2.put (.raw _)).monoG ug⟩
      refine ⟨i, j, p3.rawI, dz.rawI, dx2, vs2, g1, by rw [g2.len]; exact hz, ?_⟩
      rw [← e1]
      exact hn σ r δ ((l.trans l2).trans l3) (S.monoG ((l.trans l2).trans l3).ug) (by rw [e2]; exact nn)) hw
theorem hm_ddel (h : EvM T E td δ μ (fun x m => EvM T E ty δ m (fun y m2 => ∃ a kvs key, x = .raw (.ref a) ∧ m2 a = some (.dct kvs) ∧ y = .raw (kV key) ∧ (valD kvs key).isSome = true ∧ M δ (putM m2 a (.dct (dropD kvs key)))) W) W) : HsM T E (sDDel td ty) δ μ M R B C W := fun σ s D m S hn _ _ _ hw =>
  h σ s _ m S (fun v t x l dx k => k σ t _ rfl (S.monoG l.ug) (fun w u y l2 dy ⟨a, kvs, key, e, ha, e2, hk, nn⟩ => by
    subst e
    subst e2
    obtain ⟨ks, h1, h2⟩ := MH.cell ha
    rw [dy.rawI]
    obtain ⟨s4, e4, e5, l4⟩ := u.put_ex (o' := .dct (dropD kvs key)) (.dK (dropK ks key)) ha fun V e ug => ⟨_, by rw [e]; exact upd_same, (h2.drop key).monoK ug⟩
    refine ⟨a, ks, key, dx.rawI, h1, rfl, ?_, ?_⟩
    · rcases h2.get key with ⟨_, z⟩ | ⟨y', d', p1, p2, p3⟩
      · rw [z] at hk
        cases hk
      · rw [p1]
        rfl
    · rw [← e4]
      exact hn σ s4 δ ((l.trans l2).trans l4) (S.monoG ((l.trans l2).trans l4).ug) (by rw [e5]; exact nn)) fun C fs u l2 w => hw C fs u (l.trans l2) w) hw
/-! a cell that is a list becomes data -/
def delM (μ : Mu) (a : Addr) : Mu := fun b => if b = a then none else μ b
theorem delM_ne {μ : Mu} {a b : Addr} (h : b ≠ a) : delM μ a b = μ b := if_neg h
theorem delM_same {μ : Mu} {a : Addr} : delM μ a a = none := if_pos rfl
theorem MH.freeze (s : MH T) (a : Addr) {ds : List Dt} (h : s.μ a = some (.lst ds)) : ∃ t : MH T, t.H.H = s.H.H ∧ t.μ = delM s.μ a ∧ Le s t ∧ Den t.H (.ref a) (.lst ds) := by
  let V : Hv := ⟨s.H.H, fun b => s.H.A b ∧ b ≠ a, fun b k => s.H.f b k.1⟩
  have ug : UpG s.H V := fun b w e _ => Hv.gOf (V := V) (Hv.sub (V := s.H) e) fun z => Hv.off (V := s.H) e z.1
  have own : Own (delM s.μ a) V := ⟨fun b o e => by
      by_cases z : b = a
      · rw [z, delM_same] at e
        cases e
      · rw [delM_ne z] at e
        exact ⟨s.own.off b o e, z⟩, fun b o e => by
      by_cases z : b = a
      · rw [z, delM_same] at e
        cases e
      · rw [delM_ne z] at e
        exact (s.own.at_ b o e).keep ug rfl⟩
  refine ⟨⟨V, delM s.μ a, own, s.tabs, fun b ps k => s.nt b ps k.1⟩, rfl, rfl, ⟨fun b o e _ _ => e, fun b k => .inl k.1, fun b k => .inl ?_⟩, ?_⟩
  · have k : delM s.μ a b ≠ none := k
    by_cases z : b = a
    · rw [z, delM_same] at k
      exact absurd rfl k
    · rw [delM_ne z] at k
      exact k
  · obtain ⟨xs, h1, h2⟩ := s.own.at_ a _ h
    exact .lst (Hv.gOf (V := V) h1 fun z => z.2 rfl) (h2.monoG ug)
theorem evm_freeze (h : EvM T E te δ μ (fun d m => ∃ a ds, d = .raw (.ref a) ∧ m a = some (.lst ds) ∧ N (.lst ds) (delM m a)) W) : EvM T E te δ μ N W := fun σ s Q m S q qe =>
  h σ s _ m S (fun v t d l dv ⟨a, ds, e, ha, n⟩ => by
    subst e
    obtain ⟨r, e1, e2, l2, dn⟩ := t.freeze a ha
    rw [dv.rawI, ← e1]
    exact q _ r _ (l.trans l2) dn (by rw [e2]; exact n)) qe
/-! an error made with some text -/
theorem hm_raise1 {X : Addr} (h : EvM T E ta δ μ (fun _ m => W X [] m) W) : HsM T E (fun _ σ H => ta σ H fun _ H1 => E (.ref X) none H1) δ μ M R B C W := fun σ s D m S _ _ _ _ hw =>
  h σ s _ m S (fun v t d l dv n => (hw X [] t l n).1 rfl) hw
/-! f-strings -/
def JsS (ts : List TE) (δ : Sto) (acc out : Str) : Prop := ∀ (σ : L2.St) (H : Hv) (Q : Str → Hp → Prop), DenS H σ δ → (∀ H', Up H H' → Q out H'.H) → tJs ts acc σ H.H Q
theorem js_nil {acc : Str} : JsS [] δ acc acc := fun σ H Q S q => q H exR
theorem js_cons {t : TE} {ts : List TE} {acc out z : Str} (h : EvS t δ (dS z)) (hl : (acc ++ z).length ≤ sizeLine) (r : JsS ts δ (acc ++ z) out) : JsS (t :: ts) δ acc out := fun σ H Q S q =>
  h σ H _ S fun v H1 u1 d1 => ⟨z, d1.rawI, hl, r σ H1 Q (S.mono u1) fun H2 u2 => q H2 (u1.trans u2)⟩
theorem ev_js {ts : List TE} {out : Str} (h : JsS ts δ Str.empty out) : EvS (fun σ H Q => tJs ts Str.empty σ H fun o H1 => Q (.str o) H1) δ (dS out) := fun σ H Q S q => h σ H _ S fun H1 u1 => q _ H1 u1 (.raw _)
theorem ev_fmtI {i : Int} (h : EvS te δ (dI i)) (hl : i.natAbs.log2 < 1920) : EvS (tFmt te) δ (dS (toString i)) := fun σ H Q S q =>
  h σ H _ S fun v H1 u1 d1 => .inr ⟨i, d1.rawI, hl, q _ H1 u1 (.raw _)⟩
end
end Dn
/-! Own layer: list(d.items()), also while d is walked; dict(pairs). -/
namespace Dn
open PySem PySem.Spec PyProof.Rows L2 LamX LiI
def rItU : V → Hp → VK → Prop := fun x H Q => ∃ (d : Addr) (kvs : List (Key × V)), x = .ref d ∧ Rd H d (.dK kvs) ∧
  ∀ (H' : Hp) (p : Addr) (ts : List Addr), (∀ b o, H b = some o → H' b = some o) → H p = none → (∀ t ∈ ts, H t = none) → p ∉ ts → H' p = some (.lst (ts.map V.ref)) → Paired (fun (t : Addr) (z : Key × V) => H' t = some (.tup [kV z.1, z.2])) ts kvs → Q (.ref p) H'
def tItU (te : TE) : TE := fun σ H Q => te σ H fun x H1 => rItU x H1 Q
/-- list(e.items()), e perhaps locked -/
theorem pe_items {X : Cx} {e : Expr} {te : TE} {p apos cpos pos : Pos} (hc : X.calm = true) (he : PE X e te) (hg : Gl X "list") (hm : X.mg "list" = none) (hv : bootBuiltins "list" = some (.type "list"))
    (hbase : attributeBase e "items" X.env (eval e X.env) = eval e X.env := by rfl) (hline : (apos.endLine == cpos.line) = true := by rfl)
    (hs : starEach [.Call (.Attribute e "items" apos) [] [] cpos] X.env = (false, eval (.Call (.Attribute e "items" apos) [] [] cpos) X.env) :: starEach [] X.env := by rfl) : PE X (.Call (.Name "list" p) [.Call (.Attribute e "items" apos) [] [] cpos] [] pos) (tItU te) := by
  refine ⟨fun pins s σ H Q I hq => wpAny_Call_Name_kw (ld_blt I hg hm hv (PyProof.Rows.callWith_type1 ?_ hs rfl))⟩
  rw [hs]
  show wpAny _ _ (spliced ((false, eval (.Call (.Attribute e "items" apos) [] [] cpos) X.env) :: backTo pos (starEach [] X.env))) _ _ s
  refine Calls.spliced_cons (wpAny_Call_method (T := "dict") (id := "dict.items") hbase rfl hline F.plainAttrs_dict F.slot_dict_items F.type_dict_items (thn (he.run pins s σ H _ I hq) fun u s1 ⟨x, H1, I1, rx, d, kvs, ex, hd, q⟩ => ?_))
  subst ex; obtain rfl : u = Value.ref d := rx
  obtain ⟨hz, hs0, vs, kv, hdo⟩ := hd.ok I1.hok; obtain ⟨ep, hat⟩ := hdo.dictAt
  have lk : kvs.length = vs.length := Paired.length kv
  have I2 : Inv X pins σ H1 { s1 with heap := s1.heap.push { cls := .type "dict_items", data := .fields #[.ref d] } } := I1.kept (t' := s1.toks) fun b ob z => Heap.get?_push_of_some _ z
  refine ⟨hdo.typeIs, hdo.mapOf.noDict, (?_ : wpAny _ _ (callWith cpos (.builtin "dict.items") [.ref d] [] []) _ X.xe s1)⟩
  refine method_meetsIn F.slot_dict_items F.entry_dict_items rfl (PySem.evalArgs_none ⟨rfl, hdo.typeIs, F.args_dict_items_1 _, _, meets_dict_items (mixKind X.prog X.w) d hs0, ⟨vs, hdo⟩, Calls.spliced_nil ?_⟩)
  exact PySem.W.kdx_call (knd := mixKind X.prog X.w) (kvs := vs) (ep := ep) (I1.ok.hd hc) ⟨_, Heap.get?_push_size _ rfl, rfl, rfl⟩ (hat.push _) (by omega) fun h' tk acc c as hk hS hl hG hacc => by
    obtain ⟨H', k1, k2, k3, k4, k5, k6, J⟩ := items_laid (tk := tk) I2 hz kv hk hS hl hG hacc
    exact ⟨.ref _, H', J, rfl, q H' _ as k1 k2 k3 k4 k5 k6⟩
variable {T : List (Addr × Str)}
/-- a dict stands there, perhaps locked -/
def DctAt (m : Mu) (a : Addr) (kvs : List (Key × Dt)) : Prop := m a = some (.dct kvs) ∨ ∃ od ks, m a = some (.fzd od ks kvs)
theorem DctAt.rd {s : MH T} {a : Addr} {kvs : List (Key × Dt)} (h : DctAt s.μ a kvs) : ∃ ks, Rd s.H.H a (.dK ks) ∧ DenK s.H ks kvs := by
  rcases h with h | ⟨od, ks, h⟩
  · obtain ⟨ks, h1, h2⟩ := MH.cell h
    exact ⟨ks, .inl h1, h2⟩
  · obtain ⟨h1, h2⟩ := MH.cell h
    exact ⟨ks, .inr ⟨od, h1⟩, h2⟩
/-- new things, one of them a cell -/
theorem MH.new_at (s : MH T) {H' : Hp} {p : Addr} {u : HO} {o' : MO} (ex : Evl.Ex s.H.H H') (hp : s.H.H p = none) (hu : H' p = some u) (nt : ∀ ps, u ≠ .tbl ps) (hok : ∀ V : Hv, V.H = H' → UpG s.H V → (∀ b, b ≠ p → s.H.H b = none → ¬ V.A b) → MOk V p o') :
    s.μ p = none ∧ ∃ t : MH T, t.H.H = H' ∧ t.μ = putM s.μ p o' ∧ Le s t := by
  have hA : ¬ s.H.A p := fun z => s.H.f p z hp
  have hm : s.μ p = none := by
    cases q : s.μ p with
    | none => rfl
    | some o => exact absurd (s.own.off p o q) hA
  let V : Hv := ⟨H', fun b => b = p ∨ s.H.A b, fun b k => by
    rcases k with rfl | k
    · rw [hu]
      exact fun z => nomatch z
    · cases q2 : s.H.H b with
      | none => exact absurd q2 (s.H.f b k)
      | some o => rw [ex _ _ q2]; exact fun z => nomatch z⟩
  have ug : UpG s.H V := fun b w e _ => by
    have ne : b ≠ p := fun z => by
      subst z
      rw [Hv.sub e] at hp
      cases hp
    exact Hv.gOf (V := V) (ex _ _ (Hv.sub e)) fun z => z.elim ne (Hv.off e)
  refine ⟨hm, ⟨V, putM s.μ p o', ⟨fun b o hb => ?_, fun b o hb => ?_⟩, s.tabs.ext ex, fun b ps hb z => ?_⟩, rfl, rfl, ⟨fun b o e k _ => ex _ _ e, fun b k => ?_, fun b k => ?_⟩⟩
  · by_cases e : b = p
    · exact .inl e
    · rw [putM_ne e] at hb
      exact .inr (s.own.off b o hb)
  · by_cases e : b = p
    · subst e
      rw [putM_same] at hb
      cases hb
      exact hok V rfl ug fun c n h k => k.elim n fun z => s.H.f c z h
    · rw [putM_ne e] at hb
      have m := s.own.at_ b o hb
      obtain ⟨w, hw, _⟩ := m.there
      exact m.keep ug (by rw [hw]; exact ex _ _ hw)
  · rcases (show b = p ∨ s.H.A b from hb) with e | e
    · subst e
      have z : H' b = some (.tbl ps) := z
      rw [hu] at z
      cases z
      exact nt ps rfl
    · cases q2 : s.H.H b with
      | none => exact absurd q2 (s.H.f b e)
      | some o =>
        have z : H' b = some (.tbl ps) := z
        rw [ex _ _ q2] at z
        cases z
        exact s.nt b ps e q2
  · rcases (show b = p ∨ s.H.A b from k) with e | e
    · subst e
      exact .inr (.of hp)
    · exact .inl e
  · by_cases e : b = p
    · subst e
      exact .inr (.of hp)
    · have k : putM s.μ p o' b ≠ none := k
      rw [putM_ne e] at k
      exact .inl k
section
variable {K : PySem.W.Frag} {E : XK} {δ : Sto} {μ : Mu} {te : TE} {N : Dt → Mu → Prop} {W : WM}
theorem evm_items (h : EvM T E te δ μ (fun x m => ∃ a kvs, x = .raw (.ref a) ∧ DctAt m a kvs ∧ ∀ p, m p = none → N (.raw (.ref p)) (putM m p (.lst (kvs.map itemD)))) W) : EvM T E (tItU te) δ μ N W := fun σ s Q m S q qe =>
  h σ s _ m S (fun v t x l dx ⟨a, kvs, e, ha, n⟩ => by
    subst e
    obtain ⟨ks, rd, dk⟩ := ha.rd
    refine ⟨a, ks, dx.rawI, rd, fun h2 p ts ex hp hts np hpl pr => ?_⟩
    have key : ∀ V : Hv, V.H = h2 → UpG t.H V → (∀ b, b ≠ p → t.H.H b = none → ¬ V.A b) → DenL V (ts.map L2.V.ref) (kvs.map itemD) := fun V e ug off => by
      have g : ∀ b ∈ ts, V.G b = V.H b := fun b hb => by
        have na := off b (fun z => np (z ▸ hb)) (hts b hb)
        unfold Hv.G
        rw [if_neg na]
      rw [← e] at pr
      have pr' : Paired (fun (t : Addr) (z : Key × L2.V) => V.G t = some (.tup [kV z.1, z.2])) ts ks := by
        clear hpl np hts rd off dk
        induction pr with
        | nil => exact .nil
        | cons h1 h2 ih => exact .cons (by rw [g _ List.mem_cons_self]; exact h1) (ih fun b hb => g b (List.mem_cons_of_mem _ hb))
      have dk' : DenK V ks kvs := dk.monoG ug
      clear pr g hts np hpl rd n ha dk off
      induction pr' generalizing kvs with
      | nil => cases dk'; exact .nil
      | cons h1 h2 ih =>
        cases dk' with | cons dv' dt' => exact .cons (.tup h1 (.cons (.raw _) (.cons dv' .nil))) (ih _ dt')
    obtain ⟨h1, r, e1, e2, l2⟩ := t.new_at (o' := .lst (kvs.map itemD)) ex hp hpl (fun _ z => by cases z) fun V e ug off => ⟨_, by rw [e]; exact hpl, key V e ug off⟩
    rw [← e1]
    exact q _ r _ (l.trans l2) (.raw _) (by rw [e2]; exact n p h1)) qe
/-- dict(pairs), a list of pairs of unlike keys -/
abbrev rDictP (K : PySem.W.Frag) : List V → Hp → VK → Prop := fun xs H Q => ∃ (a : Addr) (ps : List Addr) (kvs : List (Key × V)), xs = [.ref a] ∧ SqL K H a (ps.map V.ref) ∧ Paired (fun p kv => SqT K H p [kV kv.1, kv.2]) ps kvs ∧ ∀ p, H p = none → Q (.ref p) (upd H p (.dK (mergeK [] kvs)))
theorem items_back {H : Hv} : ∀ {kvs : List (Key × Dt)} {xs : List V}, DenL H xs (kvs.map itemD) → ∃ (ps : List Addr) (ks : List (Key × V)), xs = ps.map V.ref ∧ Paired (fun p kv => SqT K H.H p [kV kv.1, kv.2]) ps ks ∧ DenK H ks kvs
  | [], xs, h => ⟨[], [], h.nilI, .nil, .nil⟩
  | (k, d) :: kvs, xs, h => by
    cases h with
    | cons h1 h2 =>
      obtain ⟨ps, ks, rfl, p1, d1⟩ := items_back h2
      cases h1 with
      | @tup a vs _ ha hl =>
        obtain ⟨v1, r, rfl, dv, dr⟩ := hl.consI
        obtain ⟨v2, r', rfl, dw, dr'⟩ := dr.consI
        obtain rfl := dr'.nilI
        obtain rfl := dv.rawI
        exact ⟨a :: ps, (k, v2) :: ks, rfl, .cons (SqT.of (Hv.sub ha)) p1, .cons dw d1⟩
theorem merge_nodup {α : Type} : ∀ {kvs acc : List (Key × V)}, ((acc ++ kvs).map (·.1)).Nodup → mergeK acc kvs = acc ++ kvs
  | [], acc, _ => by
    rw [List.append_nil]
    rfl
  | kv :: kvs, acc, h => by
    have e : putK acc kv.1 kv.2 = acc ++ [kv] := by
      unfold putK
      rw [if_neg]
      intro z
      obtain ⟨x, hx, e⟩ := List.any_eq_true.mp z
      rw [List.map_append] at h
      have := (List.nodup_append.mp h).2.2 x.1 (List.mem_map_of_mem hx) kv.1 (List.mem_map_of_mem List.mem_cons_self)
      exact this (of_decide_eq_true e)
    show mergeK (putK acc kv.1 kv.2) kvs = _
    rw [e, merge_nodup (α := α) (by rw [List.append_assoc]; exact h), List.append_assoc]
    rfl
theorem evm_dictP (h : EvM T E te δ μ (fun x m => ∃ kvs : List (Key × Dt), (x = .lst (kvs.map itemD) ∨ ∃ a, x = .raw (.ref a) ∧ m a = some (.lst (kvs.map itemD))) ∧ (kvs.map (·.1)).Nodup ∧ ∀ p, m p = none → N (.raw (.ref p)) (putM m p (.dct kvs))) W) : EvM T E (tCB (rDictP K) (tCons te tNil)) δ μ N W := fun σ s Q m S q qe =>
  h σ s _ m S (fun v t x l dx ⟨kvs, hx, nd, n⟩ => by
    obtain ⟨a, xs, rfl, ha, hl⟩ : ∃ a xs, v = .ref a ∧ t.H.H a = some (.lst xs) ∧ DenL t.H xs (kvs.map itemD) := by
      rcases hx with rfl | ⟨a, rfl, hm⟩
      · exact dx.lstI
      · obtain ⟨xs, h1, h2⟩ := MH.cell hm
        exact ⟨a, xs, dx.rawI, h1, h2⟩
    obtain ⟨ps, ks, rfl, pr, dk⟩ := items_back (K := K) hl
    have hk : (ks.map (·.1)).Nodup := by
      rw [dk.keys]
      exact nd
    refine ⟨a, ps, ks, rfl, SqL.of ha, pr, fun p hp => ?_⟩
    rw [merge_nodup (α := Unit) (acc := []) (by simpa using hk), List.nil_append]
    obtain ⟨h1, r, e1, e2, l2⟩ := t.new_ex (o' := .dct kvs) (.dK ks) hp fun V e ug => ⟨_, by rw [e]; exact upd_same, dk.monoG ug⟩
    rw [← e1]
    exact q _ r _ (l.trans l2) (.raw _) (by rw [e2]; exact n p h1)) qe
end
end Dn
/-! Own layer: promises over cells, with something told besides (x : α). -/
namespace Dn
open PySem PySem.Spec PyProof.Rows L2 LamX
def spG {α : Type} (n : Nat) (P : α → List Dt → Mu → Prop) (N : α → List Dt → Mu → Dt → Mu → Prop) (W : α → List Dt → Mu → WM) : Sp := fun vs h Q E => ∃ (x : α) (T : List (Addr × Str)) (s : MH T) (ds : List Dt), s.H.H = h ∧ DenL s.H vs ds ∧ ds.length = n ∧ P x ds s.μ ∧
  (∀ v (t : MH T) d, Le s t → Den t.H v d → N x ds s.μ d t.μ → Q v t.H.H) ∧ ∀ C fs (t : MH T), Le s t → W x ds s.μ C fs t.μ → EOut E C fs t.H
/-- what raises nothing -/
abbrev noG {α : Type} : α → List Dt → Mu → WM := fun _ _ _ => noW
variable {T : List (Addr × Str)} {α : Type}
section
variable {K : PySem.W.Frag} {E E0 : XK} {δ : Sto} {μ : Mu} {te ta tb : TE} {tas : TA} {d : Dt} {ds : List Dt} {N N' : Dt → Mu → Prop} {W : WM} {n : Nat} {P : α → List Dt → Mu → Prop} {F : α → List Dt → Mu → Dt → Mu → Prop} {G : α → List Dt → Mu → WM}
theorem evm_callG (h : EaM T E tas δ μ (fun ds m => ∃ x, ds.length = n ∧ P x ds m ∧ (∀ d m', F x ds m d m' → N d m') ∧ ∀ C fs m', G x ds m C fs m' → W C fs m') W) : EvM T E (tCall (spG n P F G) [] E tas) δ μ N W := fun σ s Q m S q qe =>
  h σ s _ m S (fun vs t ds l dl ⟨x, hn, hp, nn, ww⟩ => by
    show spG n P F G (vs ++ []) t.H.H Q E
    rw [List.append_nil]
    exact ⟨x, T, t, ds, rfl, dl, hn, hp, fun v u d l2 dv f => q v u d (l.trans l2) dv (nn d u.μ f), fun C fs u l2 g => qe C fs u (l.trans l2) (ww C fs u.μ g)⟩) qe
theorem evm_methG {C : Addr} {m : Str} (h : EvM T E ta δ μ (fun z m0 => ∃ a fs0, z = .raw (.ref a) ∧ m0 a = some (.ins C fs0) ∧ fs0.lookup m = none ∧ EaM T E tas δ m0 (fun ds m1 => ∃ x, (z :: ds).length = n ∧ P x (z :: ds) m1 ∧ (∀ d m', F x (z :: ds) m1 d m' → N d m') ∧ ∀ C fs m', G x (z :: ds) m1 C fs m' → W C fs m') W) W) :
    EvM T E (tMeth C m (spG n P F G) [] E ta tas) δ μ N W := fun σ s Q m S q qe =>
  h σ s _ m S (fun v t z l dx ⟨a, fs0, e, ha, lk, k⟩ => by
    subst e
    obtain ⟨dx', vs0, h1, h2⟩ := MH.cell ha
    rw [dx.rawI]
    refine ⟨a, dx', vs0, rfl, h1, ?_, k σ t _ rfl (S.monoG l.ug) (fun vs u ds l2 dl ⟨x, hn, hp, nn, ww⟩ => ?_) fun C fs u l2 w => qe C fs u (l.trans l2) w⟩
    · rcases h2.look _ with ⟨z, _⟩ | ⟨y, d', p1, p2, p3⟩
      · exact z
      · rw [lk] at p2
        cases p2
    · show spG n P F G (V.ref a :: (vs ++ [])) u.H.H Q E
      rw [List.append_nil]
      exact ⟨x, T, u, _ :: ds, rfl, .cons (.raw _) dl, hn, hp, fun v r d l3 dv f => q v r d ((l.trans l2).trans l3) dv (nn d r.μ f), fun C fs r l3 g => qe C fs r ((l.trans l2).trans l3) (ww C fs r.μ g)⟩) qe
/-- the same where nothing leaves (E0 is what the place lets out) -/
theorem evm_callGN (h : EaM T E tas δ μ (fun ds m => ∃ x, ds.length = n ∧ P x ds m ∧ (∀ d m', F x ds m d m' → N d m') ∧ ∀ C fs m', ¬ G x ds m C fs m') W) : EvM T E (tCall (spG n P F G) [] E0 tas) δ μ N W := fun σ s Q m S q qe =>
  h σ s _ m S (fun vs t ds l dl ⟨x, hn, hp, nn, ww⟩ => by
    show spG n P F G (vs ++ []) t.H.H Q E0
    rw [List.append_nil]
    exact ⟨x, T, t, ds, rfl, dl, hn, hp, fun v u d l2 dv f => q v u d (l.trans l2) dv (nn d u.μ f), fun C fs u l2 g => (ww C fs u.μ g).elim⟩) qe
theorem evm_methGN {C : Addr} {m : Str} (h : EvM T E ta δ μ (fun z m0 => ∃ a fs0, z = .raw (.ref a) ∧ m0 a = some (.ins C fs0) ∧ fs0.lookup m = none ∧ EaM T E tas δ m0 (fun ds m1 => ∃ x, (z :: ds).length = n ∧ P x (z :: ds) m1 ∧ (∀ d m', F x (z :: ds) m1 d m' → N d m') ∧ ∀ C fs m', ¬ G x (z :: ds) m1 C fs m') W) W) :
    EvM T E (tMeth C m (spG n P F G) [] E0 ta tas) δ μ N W := fun σ s Q m S q qe =>
  h σ s _ m S (fun v t z l dx ⟨a, fs0, e, ha, lk, k⟩ => by
    subst e
    obtain ⟨dx', vs0, h1, h2⟩ := MH.cell ha
    rw [dx.rawI]
    refine ⟨a, dx', vs0, rfl, h1, ?_, k σ t _ rfl (S.monoG l.ug) (fun vs u ds l2 dl ⟨x, hn, hp, nn, ww⟩ => ?_) fun C fs u l2 w => qe C fs u (l.trans l2) w⟩
    · rcases h2.look _ with ⟨z, _⟩ | ⟨y, d', p1, p2, p3⟩
      · exact z
      · rw [lk] at p2
        cases p2
    · show spG n P F G (V.ref a :: (vs ++ [])) u.H.H Q E0
      rw [List.append_nil]
      exact ⟨x, T, u, _ :: ds, rfl, .cons (.raw _) dl, hn, hp, fun v r d l3 dv f => q v r d ((l.trans l2).trans l3) dv (nn d r.μ f), fun C fs r l3 g => (ww C fs r.μ g).elim⟩) qe
theorem evm_makeGN {C : Addr} (h : ∀ p, μ p = none → ∃ x, (1 = n ∧ P x [.raw (.ref p)] (putM μ p (.ins C [])) ∧ (∀ d m', F x [.raw (.ref p)] (putM μ p (.ins C [])) d m' → d = dN ∧ N (.raw (.ref p)) m') ∧ ∀ D fs m', ¬ G x [.raw (.ref p)] (putM μ p (.ins C [])) D fs m')) :
    EvM T E (tMake C (spG n P F G) [] E0 tNil) δ μ N W := fun σ s Q m S q qe => fun x dx hx hdx ne => by
  subst m
  have u1 : Up s.H (s.H.nw dx (.own x) hdx) := Up.new hdx
  have hx1 : (s.up _ u1).H.H x = none := by
    show upd s.H.H dx (.own x) x = none
    rw [upd_ne ne.symm]
    exact hx
  obtain ⟨h1, t, e1, e2, l⟩ := (s.up _ u1).new_ex (o' := .ins C []) (.ins C dx []) hx1 fun V e _ => ⟨dx, [], by rw [e]; exact upd_same, .nil⟩
  obtain ⟨y, hn, hp, nn, ww⟩ := h x h1
  have l' := (s.le_up u1).trans l
  refine ⟨y, T, t, [.raw (.ref x)], e1, .cons (.raw _) .nil, hn, by rw [e2]; exact hp, fun v u d l2 dv f => ?_, fun D fs u l2 g => ?_⟩
  · rw [e2] at f
    obtain ⟨z, n2⟩ := nn d u.μ f
    subst z
    exact ⟨dv.rawI, q _ u _ (l'.trans l2) (.raw _) n2⟩
  · rw [e2] at g
    exact (ww D fs u.μ g).elim
end
section
variable {P : Program} {w : World} {K : PySem.W.Frag} {mg : Str → Option Value} {base : Heap}
theorem Fun.okM {x qual : Str} {st : Stmt} {f : Addr} {fd : FuncData} {N ps : List Str} {k n : Nat} {Pr : α → List Dt → Mu → Prop} {F : α → List Dt → Mu → Dt → Mu → Prop} {G : α → List Dt → Mu → WM} (U : L2.Fun K x qual st f fd) (S : FnScope N ps (defScope st)) (hn : n = ps.length)
    (hbody : ∀ (cdv : Value) (A : Around) (outer : List Env) (s : Shared) (H : Hp) (Q : VK) (E : XK), Room k (A.deeper (envOfC qual (defScope st) s.heap.objs.size f cdv)) →
      ∃ t, PSs (cxOf (L2.CX P w) P w K mg base N qual (defScope st) f cdv A outer s H E) (defBody st) t ∧ ∀ (T : List (Addr × Str)) x ds μ, ds.length = n → Pr x ds μ → HsM T E t (startD N ds) μ (fun _ m => F x ds μ dN m) (fun d m => F x ds μ d m) noM noM (G x ds μ)) : FnOk P w K mg base (L2.CX P w) (k + 1) f fd ps (spG n Pr F G) := by
  refine L2.Fun.okX U S (fun vs H Q E h => ?_) (fun cdv A outer s H vs Q E hr h => ?_)
  · obtain ⟨_, _, _, ds, _, hd, hl, _⟩ := h
    rw [hd.len, hl, hn]
  · obtain ⟨x, T, s0, ds, rfl, hd, hl, hp, q, qe⟩ := h
    obtain ⟨t, ht, hh⟩ := hbody cdv A outer s s0.H.H Q E hr
    exact ⟨t, ht, hh T x ds s0.μ hl hp (L2.start N vs) s0 _ rfl (DenS.start hd) (fun σ' u δ' l _ z => q .non u dN l (.raw _) z) (fun v u d l dv z => q v u d l dv z) (fun _ _ _ _ _ z => z.elim) (fun _ _ _ _ _ z => z.elim) fun C fs u l z => qe C fs u l z⟩
theorem Fun.okM0 {x qual : Str} {st : Stmt} {f : Addr} {fd : FuncData} {N ps : List Str} {k n : Nat} {Pr : α → List Dt → Mu → Prop} {F : α → List Dt → Mu → Dt → Mu → Prop} (U : L2.Fun K x qual st f fd) (S : FnScope N ps (defScope st)) (hn : n = ps.length)
    (hbody : ∀ (cdv : Value) (A : Around) (outer : List Env) (s : Shared) (H : Hp) (Q : VK) (E : XK), Room k (A.deeper (envOfC qual (defScope st) s.heap.objs.size f cdv)) →
      ∃ t, PSs (cxOf L2.CX0 P w K mg base N qual (defScope st) f cdv A outer s H E).nox (defBody st) t ∧ ∀ (T : List (Addr × Str)) x ds μ, ds.length = n → Pr x ds μ → HsM T E t (startD N ds) μ (fun _ m => F x ds μ dN m) (fun d m => F x ds μ d m) noM noM noW) : FnOk P w K mg base L2.CX0 (k + 1) f fd ps (spG n Pr F noG) := by
  refine L2.Fun.ok U S (fun vs H Q E h => ?_) (fun cdv A outer s H vs Q E hr h => ?_)
  · obtain ⟨_, _, _, ds, _, hd, hl, _⟩ := h
    rw [hd.len, hl, hn]
  · obtain ⟨x, T, s0, ds, rfl, hd, hl, hp, q, qe⟩ := h
    obtain ⟨t, ht, hh⟩ := hbody cdv A outer s s0.H.H Q E hr
    exact ⟨t, ht, hh T x ds s0.μ hl hp (L2.start N vs) s0 _ rfl (DenS.start hd) (fun σ' u δ' l _ z => q .non u dN l (.raw _) z) (fun v u d l dv z => q v u d l dv z) (fun _ _ _ _ _ z => z.elim) (fun _ _ _ _ _ z => z.elim) fun C fs u l z => z.elim⟩
end
end Dn
/-! Own layer: promises of the clocks' defs over data. -/
namespace Dn
open PySem PySem.Spec PyProof.Rows L2
theorem cmB {i j : Int} (hi : i.natAbs < 2 ^ 8000) (hj : j.natAbs < 2 ^ 8000) : CMulW i j := wide_mul hi hj (by decide) (by decide) (by decide)
theorem cdB {i j : Int} (h : 0 < j) (hj : j.natAbs < 2 ^ 8000) : CDivW i j := wide_div (i := i) h hj (by decide) (by decide)
theorem ca_gcd {a b : Int} : CaD rGcd [dI a, dI b] (dI (Int.gcd a b : Int)) := fun vs H Q h1 q => by
  obtain ⟨v, r, rfl, hd, hn⟩ := h1.consI
  obtain ⟨v2, r2, rfl, hd2, hn2⟩ := hn.consI
  obtain rfl := hn2.nilI
  rw [hd.rawI, hd2.rawI]
  exact ⟨a, b, rfl, q _ H exR (.raw _)⟩
def pInv (ds : List Dt) : Prop := ∃ a m : Int, ds = [dI a, dI m] ∧ 1 ≤ a ∧ 1 ≤ m ∧ a.natAbs < 2 ^ 8000 ∧ m.natAbs < 2 ^ 8000
abbrev spInverse : Sp := spD 2 pInv (ii invm)
theorem euc_step {r nr f nf : Int} (h : 0 < nr) : euc r nr f nf = euc nr (r - r / nr * nr) nf (f - r / nr * nf) := by
  rw [euc, dif_pos h]
theorem euc_stop {r nr f nf : Int} (h : ¬ 0 < nr) : euc r nr f nf = f := by
  rw [euc, dif_neg h]
def joinD (W f h x : Int) : Dt := if (x - f) % (Int.gcd W h : Int) = 0 then .tup [dI (foldR W h), dI (foldF W f h x)] else dN
def pJoin (ds : List Dt) : Prop := ∃ W f h x : Int, ds = [.tup [dI W, dI f], .tup [dI h, dI x]] ∧ 1 ≤ W ∧ 1 ≤ h ∧ W.natAbs < 2 ^ 8000 ∧ h.natAbs < 2 ^ 8000 ∧ 0 ≤ f ∧ f < W ∧ 0 ≤ x ∧ x < h
def joinF (ds : List Dt) : Dt := match ds with | [.tup [.raw (.int W), .raw (.int f)], .tup [.raw (.int h), .raw (.int x)]] => joinD W f h x | _ => dN
abbrev spJoined : Sp := spD 2 pJoin joinF
def pTwo (ds : List Dt) : Prop := ∃ c d, ds = [c, d] ∧ okTh c ∧ okTh d
def ckTwo (CB : Addr) (f : Dt → Dt → Dt) (ds : List Dt) : Rs := match ds with
  | [c, d] => if isClock c = true then (if isClock d = true then .ok (f c d) else .error CB) else .error CB
  | _ => .ok dN
def witD : Dt → Dt → Dt
  | .tup [.raw (.int h), .raw (.int x)], .tup [.raw (.int k), .raw (.int y)] => .tup [dI (Int.gcd h k : Int), dI (x % (Int.gcd h k : Int)), dI (y % (Int.gcd h k : Int))]
  | _, _ => dN
def agrD : Dt → Dt → Dt
  | .tup [.raw (.int h), .raw (.int x)], .tup [.raw (.int k), .raw (.int y)] => dB (decide (x % (Int.gcd h k : Int) = y % (Int.gcd h k : Int)))
  | _, _ => dN
def bothD : Dt → Dt → Dt
  | .tup [.raw (.int h), .raw (.int x)], .tup [.raw (.int k), .raw (.int y)] => joinD h x k y
  | _, _ => dN
abbrev spTwo (CB : Addr) (f : Dt → Dt → Dt) : Sp := spX 2 pTwo (ckTwo CB f)
theorem ckTwo_l {CB : Addr} {g : Dt → Dt → Dt} {c d : Dt} (h : isClock c = false) : ckTwo CB g [c, d] = .error CB := by
  show (if isClock c = true then (if isClock d = true then (Except.ok (g c d) : Rs) else .error CB) else .error CB) = _
  rw [if_neg (by rw [h]; exact Bool.false_ne_true)]
theorem ckTwo_r {CB : Addr} {g : Dt → Dt → Dt} {c d : Dt} (h : isClock d = false) : ckTwo CB g [c, d] = .error CB := by
  show (if isClock c = true then (if isClock d = true then (Except.ok (g c d) : Rs) else .error CB) else .error CB) = _
  rw [if_neg (c := isClock d = true) (by rw [h]; exact Bool.false_ne_true)]
  split <;> rfl
theorem ckTwo_ok {CB : Addr} {g : Dt → Dt → Dt} {c d : Dt} (h : isClock c = true) (h' : isClock d = true) : ckTwo CB g [c, d] = .ok (g c d) := by
  show (if isClock c = true then (if isClock d = true then (Except.ok (g c d) : Rs) else .error CB) else .error CB) = _
  rw [if_pos h, if_pos h']
theorem ck_need {CB C : Addr} {c : Dt} (e : (if isClock c = true then (Except.ok dN : Rs) else .error CB) = .error C) : isClock c = false ∧ CB = C := by
  cases q : isClock c with
  | true => simp [q] at e
  | false => simpa [q] using e
theorem ck_need' {CB : Addr} {c d : Dt} (e : (if isClock c = true then (Except.ok dN : Rs) else .error CB) = .ok d) : isClock c = true := by
  cases q : isClock c with
  | true => rfl
  | false => simp [q] at e
end Dn
/-! Own layer: walls as cells, and what their methods promise. -/
namespace Dn
open PySem PySem.Spec PyProof.Rows L2
/-- the addresses that a text's classes and its keeping def have, and some marks of constants -/
structure Ads where
  (CF CB CT CN CM CW CV CX WL fk : Addr)
  (t0 t1 t2 t3 t4 t5 : Tok)
theorem hung_ne : ¬ (("hung" : Str) = "given") := by decide +kernel
def wallFs (h : Addr) (g : Int) : List (Str × Dt) := [("hung", .raw (.ref h)), ("given", dI g)]
theorem fs_hung {h : Addr} {g : Int} : (wallFs h g).lookup ("hung" : Str) = some (.raw (.ref h)) := by
  unfold wallFs
  rw [List.lookup, beq_self_eq_true]
theorem fs_given {h : Addr} {g : Int} : (wallFs h g).lookup ("given" : Str) = some (dI g) := by
  unfold wallFs
  rw [List.lookup, show (("given" : Str) == "hung") = false from by decide +kernel, List.lookup, beq_self_eq_true]
theorem fs_no {h : Addr} {g : Int} {m : Str} (h1 : (m == "hung") = false) (h2 : (m == "given") = false) : (wallFs h g).lookup m = none := by
  unfold wallFs
  rw [List.lookup, h1, List.lookup, h2]
  rfl
theorem put_given {h : Addr} {g j : Int} : putFD "given" (dI j) (wallFs h g) = wallFs h j := by
  unfold wallFs putFD
  rw [if_neg hung_ne]
  unfold putFD
  rw [if_pos rfl]
theorem put_hung {h h' : Addr} {g : Int} : putFD "hung" (.raw (.ref h')) (wallFs h g) = wallFs h' g := by
  unfold wallFs putFD
  rw [if_pos rfl]
theorem put_both {h : Addr} {g : Int} : putFD "given" (dI g) (putFD "hung" (.raw (.ref h)) []) = wallFs h g := by
  unfold wallFs
  show (if ("hung" : Str) = "given" then _ else _) = _
  rw [if_neg hung_ne]
  rfl
theorem fs_len {h : Addr} {g : Int} : (wallFs h g).length < 1000 := by
  show 2 < 1000
  decide
/-- a wall stands at a, its clocks in the dict at h -/
structure IsW (WL : Addr) (m : Mu) (a h : Addr) (g : Int) (cs : Cks) : Prop where
  ob : m a = some (.ins WL (wallFs h g))
  dc : m h = some (.dct (dctD cs))
/-- .. its dict perhaps locked -/
structure IsR (WL : Addr) (m : Mu) (a h : Addr) (g : Int) (cs : Cks) : Prop where
  ob : m a = some (.ins WL (wallFs h g))
  dc : DctAt m h (dctD cs)
theorem IsW.r {WL : Addr} {m : Mu} {a h : Addr} {g : Int} {cs : Cks} (w : IsW WL m a h g cs) : IsR WL m a h g cs := ⟨w.ob, .inl w.dc⟩
theorem IsW.ne {WL : Addr} {m : Mu} {a h : Addr} {g : Int} {cs : Cks} (w : IsW WL m a h g cs) : a ≠ h := fun z => by
  have h1 := w.ob
  rw [z, w.dc] at h1
  cases h1
theorem IsW.put {WL : Addr} {m : Mu} {a h b : Addr} {g : Int} {cs : Cks} {o : MO} (w : IsW WL m a h g cs) (h1 : a ≠ b) (h2 : h ≠ b) : IsW WL (putM m b o) a h g cs := ⟨(putM_ne h1).trans w.ob, (putM_ne h2).trans w.dc⟩
theorem IsW.del {WL : Addr} {m : Mu} {a h b : Addr} {g : Int} {cs : Cks} (w : IsW WL m a h g cs) (h1 : a ≠ b) (h2 : h ≠ b) : IsW WL (delM m b) a h g cs := ⟨(delM_ne h1).trans w.ob, (delM_ne h2).trans w.dc⟩
/-- the wall behind: its cells changed -/
def setW (WL : Addr) (m : Mu) (a h : Addr) (g : Int) (cs : Cks) : Mu := putM (putM m h (.dct (dctD cs))) a (.ins WL (wallFs h g))
theorem setW_is {WL : Addr} {m : Mu} {a h : Addr} {g : Int} {cs : Cks} (n : a ≠ h) : IsW WL (setW WL m a h g cs) a h g cs := ⟨putM_same, by unfold setW; rw [putM_ne n.symm]; exact putM_same⟩
theorem setW_off {WL : Addr} {m : Mu} {a h b : Addr} {g : Int} {cs : Cks} (h1 : b ≠ a) (h2 : b ≠ h) : setW WL m a h g cs b = m b := by
  unfold setW
  rw [putM_ne h1, putM_ne h2]
theorem putM_comm {μ : Mu} {a b : Addr} {o p : MO} (n : a ≠ b) : putM (putM μ a o) b p = putM (putM μ b p) a o := by
  funext c
  unfold putM
  by_cases h1 : c = b
  · rw [if_pos h1]
    by_cases h2 : c = a
    · exact absurd (h2.symm.trans h1) n
    · rw [if_neg h2, if_pos h1]
  · rw [if_neg h1]
    by_cases h2 : c = a
    · rw [if_pos h2, if_pos h2]
    · rw [if_neg h2, if_neg h2, if_neg h1]
/-- only the dict was changed -/
theorem setW_dct {WL : Addr} {m : Mu} {a h : Addr} {g : Int} {cs ds : Cks} (w : IsW WL m a h g cs) : putM m h (.dct (dctD ds)) = setW WL m a h g ds := by
  unfold setW
  rw [putM_self (a := a) (o := .ins WL (wallFs h g)) ((putM_ne w.ne).trans w.ob)]
/-- cells that stood stand on -/
def Grow (m m' : Mu) : Prop := ∀ b o, m b = some o → m' b = some o
theorem Grow.refl (m : Mu) : Grow m m := fun _ _ h => h
theorem Grow.trans {m n o : Mu} (h : Grow m n) (k : Grow n o) : Grow m o := fun b x e => k b x (h b x e)
theorem Grow.put {m : Mu} {a : Addr} {o : MO} (h : m a = none) : Grow m (putM m a o) := fun b x e => by
  rw [putM_ne fun z => by rw [z, h] at e; cases e]
  exact e
theorem IsW.grow {WL : Addr} {m m' : Mu} {a h : Addr} {g : Int} {cs : Cks} (w : IsW WL m a h g cs) (k : Grow m m') : IsW WL m' a h g cs := ⟨k _ _ w.ob, k _ _ w.dc⟩
/-- what a thing names on a wall -/
def look (cs : Cks) : Dt → Option (Int × Ck)
  | .raw (.int n) => (valC cs n).map fun c => (n, c)
  | _ => none
theorem look_some {cs : Cks} {d : Dt} {n : Int} {c : Ck} (h : look cs d = some (n, c)) : d = dI n ∧ valC cs n = some c := by
  unfold look at h
  split at h
  · rename_i i
    cases q : valC cs i with
    | none =>
      rw [q] at h
      cases h
    | some c' =>
      rw [q] at h
      cases h
      exact ⟨rfl, q⟩
  · cases h
theorem look_int {cs : Cks} {n : Int} : look cs (dI n) = (valC cs n).map fun c => (n, c) := rfl
theorem look_no {cs : Cks} {d : Dt} (h : isNum d = false) : look cs d = none := by
  unfold look
  split
  · rename_i i
    cases h
  · rfl
/-- a wall, its dict, the greatest number given, its clocks -/
structure Wg where
  (a h : Addr)
  g : Int
  cs : Cks
section
variable (A : Ads)
abbrev spWallInit : Sp := spG (α := Addr) 1 (fun p ds m => ds = [.raw (.ref p)] ∧ m p = some (.ins A.WL [])) (fun p _ m d m' => d = dN ∧ ∃ h, h ≠ p ∧ m h = none ∧ m' = setW A.WL m p h 0 []) noG
def only (A : Addr) (m : Mu) : WM := fun C fs m' => C = A ∧ fs = [] ∧ m' = m
abbrev spClockOf : Sp := spG (α := Wg × Dt) 2 (fun x ds m => ds = [.raw (.ref x.1.a), x.2] ∧ IsW A.WL m x.1.a x.1.h x.1.g x.1.cs ∧ ∃ T, tyD x.2 = some T)
  (fun x _ m d m' => ∃ n c, look x.1.cs x.2 = some (n, c) ∧ d = ckD c ∧ m' = m) (fun x _ m C fs m' => look x.1.cs x.2 = none ∧ only A.CN m C fs m')
abbrev spRoom : Sp := spG (α := Wg × Int) 2 (fun x ds m => ds = [.raw (.ref x.1.a), dI x.2] ∧ IsW A.WL m x.1.a x.1.h x.1.g x.1.cs)
  (fun x _ m d m' => (x.1.cs.length : Int) + x.2 ≤ 60 ∧ d = dN ∧ m' = m) (fun x _ m C fs m' => 60 < (x.1.cs.length : Int) + x.2 ∧ only A.CM m C fs m')
def isClk (d : Dt) (c : Ck) : Prop := d = ckD c ∧ okCk c ∧ c.1 ≤ 1000000000000000000000000000000
abbrev spPut : Sp := spG (α := Wg × Dt) 2 (fun x ds m => ds = [.raw (.ref x.1.a), x.2] ∧ IsW A.WL m x.1.a x.1.h x.1.g x.1.cs ∧ Good x.1.g x.1.cs ∧ okTh x.2)
  (fun x _ m d m' => ∃ c, isClk x.2 c ∧ x.1.cs.length < 60 ∧ d = dI (x.1.g + 1) ∧ m' = setW A.WL m x.1.a x.1.h (x.1.g + 1) (x.1.cs ++ [(x.1.g + 1, c)]))
  (fun x _ m C fs m' => (isClock x.2 = false ∧ only A.CB m C fs m') ∨ (isClock x.2 = true ∧ 60 ≤ x.1.cs.length ∧ only A.CM m C fs m'))
abbrev spTake : Sp := spG (α := Wg × Dt) 2 (fun x ds m => ds = [.raw (.ref x.1.a), x.2] ∧ IsW A.WL m x.1.a x.1.h x.1.g x.1.cs ∧ ∃ T, tyD x.2 = some T)
  (fun x _ m d m' => ∃ n c, look x.1.cs x.2 = some (n, c) ∧ d = ckD c ∧ m' = setW A.WL m x.1.a x.1.h x.1.g (dropC x.1.cs n)) (fun x _ m C fs m' => look x.1.cs x.2 = none ∧ only A.CN m C fs m')
abbrev spTurnTo : Sp := spG (α := Wg × Dt × Dt) 3 (fun x ds m => ds = [.raw (.ref x.1.a), x.2.1, x.2.2] ∧ IsW A.WL m x.1.a x.1.h x.1.g x.1.cs ∧ Good x.1.g x.1.cs ∧ (∃ T, tyD x.2.1 = some T) ∧ ∃ T, tyD x.2.2 = some T)
  (fun x _ m d m' => ∃ n c i, look x.1.cs x.2.1 = some (n, c) ∧ x.2.2 = dI i ∧ 0 ≤ i ∧ i < c.1 ∧ d = dN ∧ m' = setW A.WL m x.1.a x.1.h x.1.g (putC x.1.cs n (c.1, i)))
  (fun x _ m C fs m' => (look x.1.cs x.2.1 = none ∧ only A.CN m C fs m') ∨ ∃ n c, look x.1.cs x.2.1 = some (n, c) ∧ isClock (.tup [dI c.1, x.2.2]) = false ∧ only A.CB m C fs m')
abbrev spClocks : Sp := spG (α := Wg) 1 (fun x ds m => ds = [.raw (.ref x.a)] ∧ IsR A.WL m x.a x.h x.g x.cs) (fun x _ m d m' => ∃ p, m p = none ∧ d = .raw (.ref p) ∧ m' = putM m p (.lst ((dctD x.cs).map itemD))) noG
abbrev spWShows : Sp := spG (α := Wg × Dt × Dt) 3 (fun x ds m => ds = [.raw (.ref x.1.a), x.2.1, x.2.2] ∧ IsW A.WL m x.1.a x.1.h x.1.g x.1.cs ∧ Good x.1.g x.1.cs ∧ (∃ T, tyD x.2.1 = some T) ∧ ∃ T, tyD x.2.2 = some T)
  (fun x _ m d m' => ∃ n c t, look x.1.cs x.2.1 = some (n, c) ∧ x.2.2 = dI t ∧ d = dI (t % c.1) ∧ m' = m)
  (fun x _ m C fs m' => (look x.1.cs x.2.1 = none ∧ only A.CN m C fs m') ∨ ∃ n c, look x.1.cs x.2.1 = some (n, c) ∧ isNum x.2.2 = false ∧ only A.CT m C fs m')
/-- a wall that is new -/
def NewW (WL : Addr) (m : Mu) (p h : Addr) (g : Int) (cs : Cks) (m' : Mu) : Prop := p ≠ h ∧ m p = none ∧ m h = none ∧ IsW WL m' p h g cs ∧ Grow m m'
theorem newW_mk {WL : Addr} {μ : Mu} {p h : Addr} (hp : μ p = none) (ne : h ≠ p) (hh : putM μ p (.ins WL []) h = none) : NewW WL μ p h 0 [] (setW WL (putM μ p (.ins WL [])) p h 0 []) := by
  have hh' : μ h = none := by rw [putM_ne ne] at hh; exact hh
  refine ⟨ne.symm, hp, hh', setW_is ne.symm, fun b o e => ?_⟩
  have b1 : b ≠ p := by
    rintro rfl
    rw [hp] at e
    cases e
  have b2 : b ≠ h := by
    rintro rfl
    rw [hh'] at e
    cases e
  rw [setW_off b1 b2, putM_ne b1]
  exact e
abbrev spWith : Sp := spG (α := Cks × Int × Dt) 2 (fun x ds m => ds = [x.2.2, dI x.2.1] ∧ (x.1.map (·.1)).Nodup ∧ (x.2.2 = .lst ((dctD x.1).map itemD) ∨ ∃ a, x.2.2 = .raw (.ref a) ∧ m a = some (.lst ((dctD x.1).map itemD))))
  (fun x _ m d m' => ∃ p h, d = .raw (.ref p) ∧ NewW A.WL m p h x.2.1 x.1 m') noG
abbrev spCopied : Sp := spG (α := Wg) 1 (fun x ds m => ds = [.raw (.ref x.a)] ∧ IsR A.WL m x.a x.h x.g x.cs ∧ (x.cs.map (·.1)).Nodup) (fun x _ m d m' => ∃ p h, d = .raw (.ref p) ∧ NewW A.WL m p h x.g x.cs m') noG
end
/-- the call of a wall's method, the wall's own cell told -/
theorem evm_wall {T : List (Addr × Str)} {E : XK} {δ : Sto} {μ : Mu} {ta : TE} {tas : TA} {N : Dt → Mu → Prop} {W : WM} {α : Type} {n : Nat} {P : α → List Dt → Mu → Prop} {F : α → List Dt → Mu → Dt → Mu → Prop} {G : α → List Dt → Mu → WM} {WL : Addr} {m : Str} (a : Addr) {h : Addr} {g : Int}
    (ht : EvS ta δ (.raw (.ref a))) (hw : μ a = some (.ins WL (wallFs h g))) (n1 : (m == "hung") = false) (n2 : (m == "given") = false)
    (k : EaM T E tas δ μ (fun ds m1 => ∃ x, (.raw (.ref a) :: ds).length = n ∧ P x (.raw (.ref a) :: ds) m1 ∧ (∀ d m', F x (.raw (.ref a) :: ds) m1 d m' → N d m') ∧ ∀ C fs m', G x (.raw (.ref a) :: ds) m1 C fs m' → W C fs m') W) : EvM T E (tMeth WL m (spG n P F G) [] E ta tas) δ μ N W :=
  evm_methG (evm_of ht ⟨a, _, rfl, hw, fs_no n1 n2, k⟩)
theorem evm_wallN {T : List (Addr × Str)} {E E0 : XK} {δ : Sto} {μ : Mu} {ta : TE} {tas : TA} {N : Dt → Mu → Prop} {W : WM} {α : Type} {n : Nat} {P : α → List Dt → Mu → Prop} {F : α → List Dt → Mu → Dt → Mu → Prop} {G : α → List Dt → Mu → WM} {WL : Addr} {m : Str} (a : Addr) {h : Addr} {g : Int}
    (ht : EvS ta δ (.raw (.ref a))) (hw : μ a = some (.ins WL (wallFs h g))) (n1 : (m == "hung") = false) (n2 : (m == "given") = false)
    (k : EaM T E tas δ μ (fun ds m1 => ∃ x, (.raw (.ref a) :: ds).length = n ∧ P x (.raw (.ref a) :: ds) m1 ∧ (∀ d m', F x (.raw (.ref a) :: ds) m1 d m' → N d m') ∧ ∀ C fs m', ¬ G x (.raw (.ref a) :: ds) m1 C fs m') W) : EvM T E (tMeth WL m (spG n P F G) [] E0 ta tas) δ μ N W :=
  evm_methGN (evm_of ht ⟨a, _, rfl, hw, fs_no n1 n2, k⟩)
end Dn
/-! Own layer: tests over cells, operators, lengths; one statement and the rest. -/
namespace Dn
open PySem PySem.Spec PyProof.Rows L2 LamX
variable {T : List (Addr × Str)}
section
variable {K : PySem.W.Frag} {E : XK} {δ : Sto} {μ : Mu} {te ta tb tv : TE} {tas : TA} {tt tu : TT} {t u : TS} {d : Dt} {N : Dt → Mu → Prop} {M B C : Sto → Mu → Prop} {R : Dt → Mu → Prop} {W : WM} {i : Nat}
theorem hm_then (h : HsM T E t δ μ (fun δ' m => HsM T E u δ' m M R B C W) R B C W) : HsM T E (tSeq t u) δ μ M R B C W := hm_seq h fun _ _ h => h
theorem evm_o {r : R2} (h : EvM T E ta δ μ (fun x m => EvM T E tb δ m (fun y m' => ∃ z, OpD r x y z ∧ N z m') W) W) : EvM T E (tOp r ta tb) δ μ N W := fun σ s Q m S q qe =>
  h σ s _ m S (fun v t x l dx k => k σ t _ rfl (S.monoG l.ug) (fun w u y l2 dy ⟨z, n1, n2⟩ => n1 v w u.H Q (dx.monoG l2.ug) dy fun v' H' up dv => q v' (u.up H' up) _ ((l.trans l2).trans (u.le_up up)) dv n2) fun C fs u l2 w => qe C fs u (l.trans l2) w) qe
theorem etm_not {N : Bool → Mu → Prop} (h : EtM T E tt δ μ (fun b m => N (!b) m) W) : EtM T E (tNot tt) δ μ N W := fun σ s Q m S q qe => h σ s _ m S (fun b t l n => q (!b) t l n) qe
theorem etm_or {N : Bool → Mu → Prop} (h : EtM T E tt δ μ (fun b m => (b = true → N true m) ∧ (b = false → EtM T E tu δ m N W)) W) : EtM T E (tOr tt tu) δ μ N W := fun σ s Q m S q qe => h σ s _ m S (fun b t l n => by
  cases b with
  | true =>
    show Q true t.H.H
    exact q true t l (n.1 rfl)
  | false =>
    show tu σ t.H.H Q
    exact n.2 rfl σ t Q rfl (S.monoG l.ug) (fun b u l2 n2 => q b u (l.trans l2) n2) fun C fs u l2 w => qe C fs u (l.trans l2) w) qe
theorem etm_and {N : Bool → Mu → Prop} (h : EtM T E tt δ μ (fun b m => (b = false → N false m) ∧ (b = true → EtM T E tu δ m N W)) W) : EtM T E (tAnd tt tu) δ μ N W := fun σ s Q m S q qe => h σ s _ m S (fun b t l n => by
  cases b with
  | false =>
    show Q false t.H.H
    exact q false t l (n.1 rfl)
  | true =>
    show tu σ t.H.H Q
    exact n.2 rfl σ t Q rfl (S.monoG l.ug) (fun b u l2 n2 => q b u (l.trans l2) n2) fun C fs u l2 w => qe C fs u (l.trans l2) w) qe
theorem etm_imp {N N' : Bool → Mu → Prop} (h : EtM T E tt δ μ N' W) (n : ∀ b m, N' b m → N b m) : EtM T E tt δ μ N W := fun σ s Q m S q qe => h σ s Q m S (fun b t l x => q b t l (n _ _ x)) qe
/-- x and y, x or y, not x, as values -/
theorem evm_andV (h : EvM T E ta δ μ (fun d m => ∃ b, d = dB b ∧ (b = false → N (dB false) m) ∧ (b = true → EvM T E tb δ m N W)) W) : EvM T E (tAndV ta tb) δ μ N W := fun σ s Q m S q qe => h σ s _ m S (fun v t d l dv ⟨b, e, n⟩ => ⟨b, by subst e; exact dv.rawI, by
  cases b with
  | false =>
    show Q (.bl false) t.H.H
    exact q _ t _ l (.raw _) (n.1 rfl)
  | true =>
    show tb σ t.H.H Q
    exact n.2 rfl σ t Q rfl (S.monoG l.ug) (fun v u d l2 dv n2 => q v u d (l.trans l2) dv n2) fun C fs u l2 w => qe C fs u (l.trans l2) w⟩) qe
theorem evm_orV (h : EvM T E ta δ μ (fun d m => ∃ b, d = dB b ∧ (b = true → N (dB true) m) ∧ (b = false → EvM T E tb δ m N W)) W) : EvM T E (tOrV ta tb) δ μ N W := fun σ s Q m S q qe => h σ s _ m S (fun v t d l dv ⟨b, e, n⟩ => ⟨b, by subst e; exact dv.rawI, by
  cases b with
  | true =>
    show Q (.bl true) t.H.H
    exact q _ t _ l (.raw _) (n.1 rfl)
  | false =>
    show tb σ t.H.H Q
    exact n.2 rfl σ t Q rfl (S.monoG l.ug) (fun v u d l2 dv n2 => q v u d (l.trans l2) dv n2) fun C fs u l2 w => qe C fs u (l.trans l2) w⟩) qe
theorem evm_if (h : EtM T E tt δ μ (fun b m => (b = true → EvM T E ta δ m N W) ∧ (b = false → EvM T E tb δ m N W)) W) : EvM T E (tIf tt ta tb) δ μ N W := fun σ s Q m S q qe => h σ s _ m S (fun b t l n => by
  cases b with
  | true =>
    show ta σ t.H.H Q
    exact n.1 rfl σ t Q rfl (S.monoG l.ug) (fun v u d l2 dv n2 => q v u d (l.trans l2) dv n2) fun C fs u l2 w => qe C fs u (l.trans l2) w
  | false =>
    show tb σ t.H.H Q
    exact n.2 rfl σ t Q rfl (S.monoG l.ug) (fun v u d l2 dv n2 => q v u d (l.trans l2) dv n2) fun C fs u l2 w => qe C fs u (l.trans l2) w) qe
/-- len of a cell -/
theorem evm_lenD (h : EvM T E te δ μ (fun x m => ∃ a kvs, x = .raw (.ref a) ∧ m a = some (.dct kvs) ∧ N (dI kvs.length) m) W) : EvM T E (tCB (rLenU K) (tCons te tNil)) δ μ N W := fun σ s Q m S q qe =>
  h σ s _ m S (fun v t x l dx ⟨a, kvs, e, ha, n⟩ => by
    subst e
    obtain ⟨ks, h1, h2⟩ := MH.cell ha
    refine .inr (.inl ⟨a, ks, by rw [dx.rawI], h1, ?_⟩)
    rw [h2.len]
    exact q _ t _ l (.raw _) n) qe
theorem evm_lenL (h : EvM T E te δ μ (fun x m => ∃ a ds, x = .raw (.ref a) ∧ m a = some (.lst ds) ∧ N (dI ds.length) m) W) : EvM T E (tCB (rLenU K) (tCons te tNil)) δ μ N W := fun σ s Q m S q qe =>
  h σ s _ m S (fun v t x l dx ⟨a, ds, e, ha, n⟩ => by
    subst e
    obtain ⟨xs, h1, h2⟩ := MH.cell ha
    refine .inl ⟨a, xs, by rw [dx.rawI], .inl (SqL.of h1), ?_⟩
    rw [h2.len]
    exact q _ t _ l (.raw _) n) qe
theorem evm_call0 {sp : Sp} {E0 : XK} (h : EvM T E (tCall sp [] E0 tNil) δ μ N W) : EvM T E (tCall sp [] E0 tNil) δ μ N W := h
/-- a def over data whose answer is known not to be a refusal -/
theorem evm_seq_of {tc : TE} (h : EvS tc δ d) (n : N d μ) : EvM T E tc δ μ N W := evm_of h n
/-- a call over data that may raise: it stays with what it says -/
theorem evm_X' {r : Rs} (h : EvX E te δ r) (n : ∀ d, r = .ok d → N d μ) (w : ∀ C, r = .error C → W C [] μ) : EvM T E te δ μ N W := evm_X h n w
end
theorem solid_ints {b : Bool} : ∀ {l : List Int}, solidL b (l.map dI) = true
  | [] => rfl
  | _ :: l => by
    show (true && solidL b (l.map dI)) = true
    rw [solid_ints]
    rfl
/-- a wall and a law's own dict of its clocks: a deed is done with both -/
structure Ow where
  w : Wg
  (o : Addr)
  (c k t : Int)
abbrev spDone (A : Ads) : Sp := spG (α := Ow) 6 (fun x ds m => ds = [.raw (.ref x.w.a), .raw (.ref x.o), dI x.w.g, dI x.c, dI x.k, dI x.t] ∧ IsW A.WL m x.w.a x.w.h x.w.g x.w.cs ∧ m x.o = some (.dct (dctD x.w.cs)) ∧ x.o ≠ x.w.h ∧ Good x.w.g x.w.cs ∧ 0 ≤ x.k ∧ x.k ≤ 90000)
  (fun x _ m d m' => ∃ g cs, d = dI g ∧ Good g cs ∧ x.w.g ≤ g ∧ g ≤ x.w.g + 1 ∧ m' = putM (setW A.WL m x.w.a x.w.h g cs) x.o (.dct (dctD cs))) noG
theorem ck_py {c : Ck} : py (ckD c) = some (.tuple [.int c.1, .int c.2]) := rfl
theorem ck_eqv {c : Ck} : PyData.eqv (.tuple [.int c.1, .int c.2]) (.tuple [.int c.1, .int c.2]) = true := SeqAt.eqv_refl _ (by rfl)
theorem od_eqCk {K : PySem.W.Frag} {c : Ck} : OpD (rEqU K) (ckD c) (ckD c) (dB true) := by
  have := od_eqUD (K := K) (x := ckD c) (y := ckD c) ck_py ck_py rfl rfl
  rw [ck_eqv] at this
  exact this
theorem putC_same {cs : Cks} {n : Int} {c d : Ck} (h : valC cs n = some c) : (putC cs n d).length = cs.length := by
  unfold putC
  rw [if_pos (any_val h).1, List.length_map]
/-- list(d.items()) of data -/
theorem ev_itU {δ : Sto} {te : TE} {kvs : List (Key × Dt)} (h : EvS te δ (.dct kvs)) : EvS (tItU te) δ (.lst (kvs.map itemD)) := fun σ H Q S q => h σ H _ S fun v H1 u1 d1 => by
  obtain ⟨a, ks, rfl, ha, hl⟩ := d1.dctI
  refine ⟨a, ks, rfl, .inl ha, fun h2 p ts ex hp hts _ hpl pr => ?_⟩
  have u2 : Up H1 (H1.upTo h2 ex) := Up.to ex
  have off : ∀ b, H1.H b = none → ¬ (H1.upTo h2 ex).A b := fun b z k => H1.f b k z
  exact q _ (H1.upTo h2 ex) (u1.trans u2) (.lst (Hv.gOf hpl (off p hp)) (paired_den u2 pr (fun t z => off t (hts t z)) hl))
abbrev itsD (cs : Cks) : List Dt := (dctD cs).map itemD
def pyIt (p : Int × Ck) : PyData := .tuple [.int p.1, .tuple [.int p.2.1, .int p.2.2]]
theorem py_its : ∀ cs : Cks, pyL (itsD cs) = some (cs.map pyIt)
  | [] => rfl
  | p :: cs => by
    show (py (itemD (.inl p.1, ckD p.2))).bind (fun q => (pyL (itsD cs)).map fun r => q :: r) = _
    rw [py_its cs]
    rfl
theorem py_itsL (cs : Cks) : py (.lst (itsD cs)) = some (.list (cs.map pyIt)) := by
  show (pyL (itsD cs)).map PyData.list = _
  rw [py_its]
  rfl
theorem lay_its : ∀ cs : Cks, PyData.canLayAll0 (cs.map pyIt) = true
  | [] => rfl
  | p :: cs => by
    show (PyData.canLay0 (pyIt p) && PyData.canLayAll0 (cs.map pyIt)) = true
    rw [lay_its cs]
    rfl
theorem eqv_its (cs : Cks) : PyData.eqv (.list (cs.map pyIt)) (.list (cs.map pyIt)) = true := SeqAt.eqv_refl _ (lay_its cs)
theorem depth_its : ∀ cs : Cks, PyData.depthAll (cs.map pyIt) ≤ 3
  | [] => by simp [PyData.depthAll]
  | p :: cs => by
    have := depth_its cs
    simp only [List.map_cons, PyData.depthAll, pyIt, PyData.depth]
    omega
theorem shaped_its (cs : Cks) : SeqAt.shaped (.list (cs.map pyIt)) = true := by
  unfold SeqAt.shaped
  rw [show PyData.canLay0 (.list (cs.map pyIt)) = true from lay_its cs]
  have := depth_its cs
  simp only [PyData.depth, Bool.true_and, decide_eq_true_eq]
  exact decide_eq_true (by omega)
theorem od_neIts {K : PySem.W.Frag} {cs : Cks} : OpD (rNeU K) (.lst (itsD cs)) (.lst (itsD cs)) (dB false) := by
  have := od_neUD (K := K) (py_itsL cs) (py_itsL cs) (shaped_its cs) (shaped_its cs)
  rw [eqv_its] at this
  exact this
theorem od_eqIts {K : PySem.W.Frag} {cs : Cks} : OpD (rEqU K) (.lst (itsD cs)) (.lst (itsD cs)) (dB true) := by
  have := od_eqUD (K := K) (py_itsL cs) (py_itsL cs) (shaped_its cs) (shaped_its cs)
  rw [eqv_its] at this
  exact this
/-- sorted(list(d.items())) of clocks by rising numbers -/
theorem ca_sortedIts {K : PySem.W.Frag} {g : Int} {cs : Cks} (hg : Good g cs) : CaD (rSortedN K) [.lst (itsD cs)] (.lst (itsD cs)) := by
  have hk : (itsD cs).map keyD = cs.map (·.1) := by
    show ((dctD cs).map itemD).map keyD = _
    rw [items_dct, List.map_map]
    rfl
  refine ca_sortedN (fun d hd => ?_) (by rw [hk]; exact hg.nodup) (.refl _) ?_
  · rw [show itsD cs = cs.map fun p => .tup [dI p.1, ckD p.2] from items_dct] at hd
    obtain ⟨p, _, rfl⟩ := List.mem_map.mp hd
    rfl
  · have := hg.sorted
    rw [← hk] at this
    exact List.pairwise_map.mp this
abbrev spRight4 (A : Ads) : Sp := spG (α := Ow) 4 (fun x ds m => ds = [.raw (.ref x.w.a), .raw (.ref x.o), dI x.c, dI x.k] ∧ IsW A.WL m x.w.a x.w.h x.w.g x.w.cs ∧ m x.o = some (.dct (dctD x.w.cs)) ∧ x.o ≠ x.w.h ∧ Good x.w.g x.w.cs ∧ 0 ≤ x.k ∧ x.k ≤ 90000)
  (fun _ _ m d m' => d = dB true ∧ Grow m m') noG
theorem noLst_trues {ds : List Dt} : noLstL (ds.filterMap fun _ => some (dB true)) = true := by
  induction ds with
  | nil => rfl
  | cons d ds ih => exact ih
theorem ca_allT {K : PySem.W.Frag} (ds : List Dt) : CaD (rAll K) [.lst (ds.filterMap fun _ => some (dB true))] (dB true) := by
  have e : (ds.filterMap fun _ => some (dB true)) = (ds.map fun _ => true).map dB := by
    induction ds with
    | nil => rfl
    | cons d ds ih =>
      show dB true :: _ = dB true :: _
      rw [ih]
  have a : (ds.map fun _ => true).all id = true := by
    induction ds with
    | nil => rfl
    | cons d ds ih => simp
  have r := ca_all (K := K) (bs := ds.map fun _ => true)
  rw [a] at r
  rw [e]
  exact r
/-! rules with the text's own facts named, for the inside of a comprehension -/
section
variable {X : Cx} {K : PySem.W.Frag}
theorem ix_seqK (h : X.K = K) : IxR X (rIx K) := h ▸ ix_seq
theorem call_isK (h : X.K = K) : CallR X (.builtin "isinstance") (rIsU K) := h ▸ call_isU
theorem call_lenK (h : X.K = K) : CallR X (.builtin "len") (rLenU K) := h ▸ call_lenU
theorem op_eqK (h : X.K = K) (hu : X.A.units + 64 < cLine) : OpR X (compareOp .Eq) (rEqU K) := h ▸ op_eqU hu
theorem op_neK (h : X.K = K) (hu : X.A.units + 64 < cLine) : OpR X (compareOp .NotEq) (rNeU K) := h ▸ op_neU hu
theorem op_addK (h : X.K = K) : OpR X (binaryOp .Add) (rAddU K) := h ▸ op_addU
theorem sl_K (h : X.K = K) : SlR X (rSlL K) := h ▸ sl_U
end
def hourF (ds : List Dt) : Dt := match ds with | [.tup (.raw (.int h) :: _), .raw (.int n)] => dI (n % h) | _ => dN
abbrev spHourAt : Sp := spD 2 (fun ds => ∃ h x n : Int, ds = [.tup [dI h, dI x], dI n] ∧ 0 < h) hourF
end Dn
/-! Own layer: loops of all kinds over cells; the law's own call. -/
namespace Dn
open PySem PySem.Spec PyProof.Rows L2 LamX
variable {T : List (Addr × Str)}
section
variable {K : PySem.W.Frag} {E : XK} {δ : Sto} {μ : Mu} {te td tl : TE} {tas : TA} {t : TS} {d : Dt} {M B C : Sto → Mu → Prop} {R : Dt → Mu → Prop} {W : WM}
/-- a walk whose turns give data, from the state s1 on -/
theorem hm_it {J : It} {n : Nat} {G : Hp → Prop} {Y : Nat → Hp → V → Hp → Prop} (w : Walk J n G Y) {g : TG} {σ : L2.St} {s1 : MH T} {D : Ends} (I : Nat → Sto → Mu → Prop) (Yd : Nat → Dt → Prop)
    (st : ∀ i δ' (s2 : MH T), Le s1 s2 → I i δ' s2.μ → G s2.H.H)
    (yd : ∀ i x H' δ' (s2 : MH T), i < n → Le s1 s2 → I i δ' s2.μ → Y i s2.H.H x H' → ∃ (s3 : MH T) (d : Dt), s3.H.H = H' ∧ Le s2 s3 ∧ s3.μ = s2.μ ∧ Den s3.H x d ∧ Yd i d)
    (hs : ∀ i δ' m' d, i < n → I i δ' m' → Yd i d → ∃ δ2, GdM g d δ' δ2 ∧ HsM T E t δ2 m' (I (i + 1)) R M (I (i + 1)) W) (hd : ∀ δ' m', I n δ' m' → M δ' m')
    (S : DenS s1.H σ δ) (h0 : I 0 δ s1.μ) (hn : ∀ σ' (u : MH T) δ', Le s1 u → DenS u.H σ' δ' → M δ' u.μ → D.nx σ' u.H.H) (hr : ∀ v (u : MH T) d, Le s1 u → Den u.H v d → R d u.μ → D.rt v u.H.H) (hw : ∀ X fs (u : MH T), Le s1 u → W X fs u.μ → EOut E X fs u.H) :
    ∃ W : Nat → Nat → L2.St → Hp → Prop, (∃ m, W 0 m σ s1.H.H) ∧ ∀ i m σ H, W i m σ H → (J.stop i H ∧ D.nx σ H) ∨ (J.go i H ∧ ∃ N : L2.St → Hp → Prop, (∀ σ' H', N σ' H' → ∃ m', m' < m ∧ W (i + 1) m' σ' H') ∧ ∀ x H', J.yld i H x H' → g x σ H' fun σ2 H2 => t { D with nx := N, ct := N, bk := D.nx } σ2 H2) := by
  refine for_it w (fun i σ' h' => ∃ s2 : MH T, s2.H.H = h' ∧ Le s1 s2 ∧ ∃ δ', DenS s2.H σ' δ' ∧ I i δ' s2.μ) ⟨s1, rfl, .refl s1, δ, S, h0⟩ (fun i σ' h' _ p => ?_) (fun i x σ' h' H' hi p y => ?_) fun σ' h' p => ?_
  · obtain ⟨s2, rfl, l2, δ', S2, i2⟩ := p
    exact st i δ' s2 l2 i2
  · obtain ⟨s2, rfl, l2, δ', S2, i2⟩ := p
    obtain ⟨s3, d, rfl, l3, e3, dx, y3⟩ := yd i x H' δ' s2 hi l2 i2 y
    obtain ⟨δ2, hgd, hb2⟩ := hs i δ' s2.μ d hi i2 y3
    have l := l2.trans l3
    exact hgd x σ' s3.H _ (S2.monoG l3.ug) dx fun σ3 S3 => hb2 σ3 s3 _ e3 S3 (fun σ4 s4 δ4 l4 S4 n4 => ⟨s4, rfl, l.trans l4, δ4, S4, n4⟩) (fun v s4 d l4 d4 r => hr v s4 d (l.trans l4) d4 r) (fun σ4 s4 δ4 l4 S4 n4 => hn σ4 s4 δ4 (l.trans l4) S4 n4)
      (fun σ4 s4 δ4 l4 S4 n4 => ⟨s4, rfl, l.trans l4, δ4, S4, n4⟩) fun X fs s4 l4 w => hw X fs s4 (l.trans l4) w
  · obtain ⟨s2, rfl, l2, δ', S2, i2⟩ := p
    exact hn σ' s2 δ' l2 S2 (hd δ' s2.μ i2)
/-- for i, x in enumerate(a list of data) -/
theorem hm_enum {g : TG} (h : EaM T E tas δ μ (fun vs m => ∃ ds, vs = [.lst ds] ∧ ∃ I : Nat → Sto → Mu → Prop, I 0 δ m ∧ (∀ i δ' m' x, I i δ' m' → ds[i]? = some x → ∃ δ2, GdM g (.tup [dI (i : Int), x]) δ' δ2 ∧ HsM T E t δ2 m' (I (i + 1)) R M (I (i + 1)) W) ∧ ∀ δ' m', I ds.length δ' m' → M δ' m') W) :
    HsM T E (tFor (iEnum K tas) g t) δ μ M R B C W := fun σ s D m S hn hr _ _ hw =>
  h σ s _ m S (fun vs s1 l l1 dl ⟨ds, e, I, h0, hs, hd⟩ => by
    subst e
    obtain ⟨v1, r, rfl, dv, dr⟩ := dl.consI
    obtain rfl := dr.nilI
    obtain ⟨a, xs, rfl, ha, hl⟩ := dv.lstI
    have hg : s1.H.G a = some (.lst xs) := by
      cases dv with | lst h1 _ => rw [Hv.sub h1] at ha; cases ha; exact h1
    refine ⟨a, xs, rfl, SqL.of ha, hm_it (walk_enum (xs := xs)) I (fun i d => ∃ x, ds[i]? = some x ∧ d = .tup [dI (i : Int), x]) (fun i δ' s2 l2 _ => SqL.of (Hv.sub (l2.g hg fun _ z => by cases z))) (fun i x H' δ' s2 hi l2 i2 y => ?_) (fun i δ' m' d hi i2 ⟨x, y1, y2⟩ => y2 ▸ hs i δ' m' x i2 y1) (fun δ' m' z => hd δ' m' (by rw [← hl.len]; exact z)) (S.monoG l1.ug) h0 (fun σ' u δ' l => hn σ' u δ' (l1.trans l)) (fun v u d l => hr v u d (l1.trans l)) fun X fs u l => hw X fs u (l1.trans l)⟩
    obtain ⟨P, x1, x2, rfl, hP, rfl, e1, e2⟩ := y
    cases e1
    obtain ⟨d, hd', dx⟩ := hl.getV e2
    have u3 : Up s2.H (s2.H.nw P (.tup [.int (i : Nat), x2]) hP) := Up.new hP
    exact ⟨s2.up _ u3, .tup [dI (i : Int), d], rfl, s2.le_up u3, rfl, .tup (Hv.nw_at (hp := hP)) (.cons (.raw _) (.cons ((dx.monoG l2.ug).mono u3) .nil)), d, hd', rfl⟩) hw
/-- for i in range(..): n turns from lo by 1 -/
theorem hm_rangeI {lo : Int} {n : Nat} {g : TG} {σ : L2.St} {s1 : MH T} {D : Ends} (I : Nat → Sto → Mu → Prop) (hs : ∀ i δ' m', i < n → I i δ' m' → ∃ δ2, GdM g (dI (lo + i)) δ' δ2 ∧ HsM T E t δ2 m' (I (i + 1)) R M (I (i + 1)) W) (hd : ∀ δ' m', I n δ' m' → M δ' m')
    (S : DenS s1.H σ δ) (h0 : I 0 δ s1.μ) (hn : ∀ σ' (u : MH T) δ', Le s1 u → DenS u.H σ' δ' → M δ' u.μ → D.nx σ' u.H.H) (hr : ∀ v (u : MH T) d, Le s1 u → Den u.H v d → R d u.μ → D.rt v u.H.H) (hw : ∀ X fs (u : MH T), Le s1 u → W X fs u.μ → EOut E X fs u.H) :
    ∃ W : Nat → Nat → L2.St → Hp → Prop, (∃ m, W 0 m σ s1.H.H) ∧ ∀ i m σ H, W i m σ H → ((Itr lo n).stop i H ∧ D.nx σ H) ∨ ((Itr lo n).go i H ∧ ∃ N : L2.St → Hp → Prop, (∀ σ' H', N σ' H' → ∃ m', m' < m ∧ W (i + 1) m' σ' H') ∧ ∀ x H', (Itr lo n).yld i H x H' → g x σ H' fun σ2 H2 => t { D with nx := N, ct := N, bk := D.nx } σ2 H2) :=
  hm_it walk_range I (fun i d => d = dI (lo + i)) (fun _ _ _ _ _ => trivial) (fun i x H' δ' s2 _ _ _ y => ⟨s2, dI (lo + i), y.1.symm, .refl _, rfl, by rw [y.2]; exact .raw _, rfl⟩) (fun i δ' m' d hi i2 e => e ▸ hs i δ' m' hi i2) hd S h0 hn hr hw
end
/-! ### the law's own call -/
def spLawS (K : PySem.W.Frag) (T : List (Addr × Str)) : Sp := fun vs H Q _ => ∃ (a : Addr) (ns : List Int), vs = [.ref a] ∧ SqL K H a (ns.map V.int) ∧ ns.length ≤ 63 ∧ Tabs T H ∧ ∀ H', Q (.bl true) H'
/-- the state at the start: no cell yet -/
def MH.start (H : Hp) (t : Tabs T H) : MH T := ⟨⟨H, fun _ => False, fun _ z => z.elim⟩, fun _ => none, ⟨(fun _ _ z => nomatch z), fun _ _ z => nomatch z⟩, t, fun _ _ z => z.elim⟩
theorem MH.start_g {H : Hp} {t : Tabs T H} : (MH.start H t).H.G = H := by
  funext a
  exact if_neg fun z => z
theorem law_go {K : PySem.W.Frag} {E : XK} {N : List Str} {t : TS} {vs : List V} {H : Hp} {Q : VK} (hh : ∀ ns : List Int, ns.length ≤ 63 → HsM T E t (startD N [.scr K ns]) (fun _ => none) noM (fun d _ => d = dB true) noM noM noW)
    (h : ∃ (a : Addr) (ns : List Int), vs = [.ref a] ∧ SqL K H a (ns.map V.int) ∧ ns.length ≤ 63 ∧ Tabs T H ∧ ∀ H', Q (.bl true) H') : t { nx := fun _ H' => Q .non H', rt := Q } (L2.start N vs) H := by
  obtain ⟨a, ns, rfl, hS, hl, tb, q⟩ := h
  refine hh ns hl (L2.start N [.ref a]) (MH.start H tb) _ rfl (DenS.start (.cons (.scr ?_) .nil)) (fun _ _ _ _ _ z => z.elim) (fun v u d _ dv z => ?_) (fun _ _ _ _ _ z => z.elim) (fun _ _ _ _ _ z => z.elim) fun _ _ _ _ z => z.elim
  · rw [MH.start_g]
    exact hS
  · subst z
    rw [dv.rawI]
    exact q _
theorem Fun.okLaw {P : Program} {w : World} {K : PySem.W.Frag} {mg : Str → Option Value} {base : Heap} {x qual p : Str} {st : Stmt} {f : Addr} {fd : FuncData} {N : List Str} {k : Nat} (F : L2.Fun K x qual st f fd) (S : FnScope N [p] (defScope st))
    (hbody : ∀ (cdv : Value) (A : Around) (outer : List Env) (s : Shared) (H : Hp) (Q : VK) (E : XK), Room k (A.deeper (envOfC qual (defScope st) s.heap.objs.size f cdv)) →
      ∃ t, PSs (cxOf L2.CX0 P w K mg base N qual (defScope st) f cdv A outer s H E).nox (defBody st) t ∧ ∀ ns : List Int, ns.length ≤ 63 → HsM T E t (startD N [.scr K ns]) (fun _ => none) noM (fun d _ => d = dB true) noM noM noW) : FnOk P w K mg base L2.CX0 (k + 1) f fd [p] (spLawS K T) := by
  refine L2.Fun.ok F S (fun vs H Q E h => ?_) (fun cdv A outer s H vs Q E hr h => ?_)
  · obtain ⟨_, _, rfl, _⟩ := h
    rfl
  · obtain ⟨t, ht, hh⟩ := hbody cdv A outer s H Q E hr
    exact ⟨t, ht, law_go hh h⟩
theorem Fun.okLawC {P : Program} {w : World} {K : PySem.W.Frag} {mg : Str → Option Value} {base : Heap} {x qual p : Str} {st : Stmt} {f c : Addr} {fd : FuncData} {N : List Str} {k : Nat} (F : L2.Fun K x qual st f fd) (hfc : fd.code = .ref c) (S : FnScope N [p] (defScope st))
    (hbody : ∀ (A : Around) (outer : List Env) (s : Shared) (H : Hp) (Q : VK) (E : XK), Room k (A.deeper (envOfC qual (defScope st) s.heap.objs.size f (.ref c))) →
      ∃ t, PSs (cxOf L2.CX0 P w K mg base N qual (defScope st) f (.ref c) A outer s H E).nox (defBody st) t ∧ ∀ ns : List Int, ns.length ≤ 63 → HsM T E t (startD N [.scr K ns]) (fun _ => none) noM (fun d _ => d = dB true) noM noM noW) : FnOk P w K mg base L2.CX0 (k + 1) f fd [p] (spLawS K T) := by
  refine Fun.okC F hfc S (fun vs H Q E h => ?_) (fun A outer s H vs Q E hr h => ?_)
  · obtain ⟨_, _, rfl, _⟩ := h
    rfl
  · obtain ⟨t, ht, hh⟩ := hbody A outer s H Q E hr
    exact ⟨t, ht, law_go hh h⟩
end Dn
/-! Own layer: two walls in lists, with the law's own dicts and the numbers given. -/
namespace Dn
open PySem PySem.Spec PyProof.Rows L2 LamX
def lst2 (f : Bool → Dt) : List Dt := [f false, f true]
def ixb (b : Bool) : Int := if b = true then 1 else 0
theorem ixb_in (b : Bool) : 0 ≤ ixb b ∧ ixb b < 2 := by cases b <;> decide
theorem lst2_at (f : Bool → Dt) (b : Bool) : (lst2 f)[(ixb b).toNat]? = some (f b) := by cases b <;> rfl
def set2 {α : Type} (f : Bool → α) (b : Bool) (x : α) : Bool → α := fun c => if c = b then x else f c
theorem set2_same {α : Type} {f : Bool → α} {b : Bool} {x : α} : set2 f b x b = x := if_pos rfl
theorem set2_not {α : Type} {f : Bool → α} {b : Bool} {x : α} : set2 f b x (!b) = f (!b) := if_neg (by cases b <;> decide)
theorem lst2_set {f : Bool → Dt} {b : Bool} {y : Dt} : (lst2 f).set (ixb b).toNat y = lst2 (set2 f b y) := by cases b <;> rfl
theorem set2_map {α : Type} {f : Bool → α} {b : Bool} {x : α} {g : α → Dt} : set2 (fun c => g (f c)) b (g x) = fun c => g (set2 f b x c) := by
  funext c
  unfold set2
  split <;> rfl
theorem mod2 (n : Int) : n % 2 = ixb (decide (n % 2 = 1)) := by
  unfold ixb
  split
  · rename_i h
    exact of_decide_eq_true h
  · rename_i h
    have : ¬ n % 2 = 1 := fun z => h (decide_eq_true z)
    omega
theorem ixb_not (b : Bool) : 1 - ixb b = ixb (!b) := by cases b <;> rfl
theorem ne_kind {m : Mu} {x y : Addr} {o p : MO} (h1 : m x = some o) (h2 : m y = some p) (n : o ≠ p) : x ≠ y := fun z => by
  rw [z, h2] at h1
  cases h1
  exact n rfl
theorem ne_new {m : Mu} {x y : Addr} {o : MO} (h1 : m x = some o) (h2 : m y = none) : x ≠ y := fun z => by
  rw [z, h2] at h1
  cases h1
structure Two (WL : Addr) (m : Mu) (sa oa ga : Addr) (fw : Bool → Wg) (fo : Bool → Addr × Cks) (fg : Bool → Int) : Prop where
  sl : m sa = some (.lst (lst2 fun b => .raw (.ref (fw b).a)))
  ol : m oa = some (.lst (lst2 fun b => .raw (.ref (fo b).1)))
  gl : m ga = some (.lst (lst2 fun b => dI (fg b)))
  wl : ∀ b, IsW WL m (fw b).a (fw b).h (fw b).g (fw b).cs
  dl : ∀ b, m (fo b).1 = some (.dct (dctD (fo b).2))
  aa : ∀ b, (fw b).a ≠ (fw (!b)).a
  hh : ∀ b, (fw b).h ≠ (fw (!b)).h
  oo : ∀ b, (fo b).1 ≠ (fo (!b)).1
  ho : ∀ b c, (fw b).h ≠ (fo c).1
  l1 : sa ≠ oa
  l2 : sa ≠ ga
  l3 : oa ≠ ga
theorem Two.grow {WL : Addr} {m m' : Mu} {sa oa ga : Addr} {fw : Bool → Wg} {fo : Bool → Addr × Cks} {fg : Bool → Int} (t : Two WL m sa oa ga fw fo fg) (k : Grow m m') : Two WL m' sa oa ga fw fo fg :=
  ⟨k _ _ t.sl, k _ _ t.ol, k _ _ t.gl, fun b => (t.wl b).grow k, fun b => k _ _ (t.dl b), t.aa, t.hh, t.oo, t.ho, t.l1, t.l2, t.l3⟩
section
variable {WL : Addr} {m : Mu} {sa oa ga : Addr} {fw : Bool → Wg} {fo : Bool → Addr × Cks} {fg : Bool → Int}
theorem bool2 {P : Bool → Prop} (b : Bool) (h1 : P b) (h2 : P (!b)) : ∀ c, P c := fun c => by cases b <;> cases c <;> assumption
theorem Two.setG (t : Two WL m sa oa ga fw fo fg) (b : Bool) (x : Int) : Two WL (putM m ga (.lst (lst2 fun c => dI (set2 fg b x c)))) sa oa ga fw fo (set2 fg b x) :=
  ⟨(putM_ne t.l2).trans t.sl, (putM_ne t.l3).trans t.ol, putM_same, fun c => (t.wl c).put (ne_kind (t.wl c).ob t.gl fun z => nomatch z) (ne_kind (t.wl c).dc t.gl fun z => nomatch z), fun c => (putM_ne (ne_kind (t.dl c) t.gl fun z => nomatch z)).trans (t.dl c), t.aa, t.hh, t.oo, t.ho, t.l1, t.l2, t.l3⟩
/-- another dict takes a place -/
theorem Two.setO (t : Two WL m sa oa ga fw fo fg) (b : Bool) {q : Addr} {cs : Cks} (hq : m q = some (.dct (dctD cs))) (n1 : ∀ c, (fw c).h ≠ q) (n2 : q ≠ (fo (!b)).1) : Two WL (putM m oa (.lst (lst2 fun c => .raw (.ref (set2 fo b (q, cs) c).1)))) sa oa ga fw (set2 fo b (q, cs)) fg := by
  refine ⟨(putM_ne t.l1).trans t.sl, putM_same, (putM_ne t.l3.symm).trans t.gl, fun c => (t.wl c).put (ne_kind (t.wl c).ob t.ol fun z => nomatch z) (ne_kind (t.wl c).dc t.ol fun z => nomatch z), bool2 b ?_ ?_, t.aa, t.hh, bool2 b ?_ ?_, fun c => bool2 b ?_ ?_, t.l1, t.l2, t.l3⟩
  · rw [set2_same]
    exact (putM_ne (ne_kind hq t.ol fun z => nomatch z)).trans hq
  · rw [set2_not]
    exact (putM_ne (ne_kind (t.dl _) t.ol fun z => nomatch z)).trans (t.dl _)
  · rw [set2_same, set2_not]
    exact n2
  · rw [Bool.not_not, set2_same, set2_not]
    exact n2.symm
  · rw [set2_same]
    exact n1 c
  · rw [set2_not]
    exact t.ho c _
/-- another wall takes a place -/
theorem Two.setS (t : Two WL m sa oa ga fw fo fg) (b : Bool) {w : Wg} (hw : IsW WL m w.a w.h w.g w.cs) (n1 : w.a ≠ (fw (!b)).a) (n2 : w.h ≠ (fw (!b)).h) (n3 : ∀ c, w.h ≠ (fo c).1) : Two WL (putM m sa (.lst (lst2 fun c => .raw (.ref (set2 fw b w c).a)))) sa oa ga (set2 fw b w) fo fg := by
  refine ⟨putM_same, (putM_ne t.l1.symm).trans t.ol, (putM_ne t.l2.symm).trans t.gl, bool2 b ?_ ?_, fun c => (putM_ne (ne_kind (t.dl c) t.sl fun z => nomatch z)).trans (t.dl c), bool2 b ?_ ?_, bool2 b ?_ ?_, t.oo, fun c d => bool2 b (P := fun c => (set2 fw b w c).h ≠ (fo d).1) ?_ ?_ c, t.l1, t.l2, t.l3⟩
  · rw [set2_same]
    exact hw.put (ne_kind hw.ob t.sl fun z => nomatch z) (ne_kind hw.dc t.sl fun z => nomatch z)
  · rw [set2_not]
    exact (t.wl _).put (ne_kind (t.wl _).ob t.sl fun z => nomatch z) (ne_kind (t.wl _).dc t.sl fun z => nomatch z)
  · rw [set2_same, set2_not]
    exact n1
  · rw [Bool.not_not, set2_same, set2_not]
    exact n1.symm
  · rw [set2_same, set2_not]
    exact n2
  · rw [Bool.not_not, set2_same, set2_not]
    exact n2.symm
  · rw [set2_same]
    exact n3 d
  · rw [set2_not]
    exact t.ho _ d
/-- a wall's cells changed -/
theorem Two.wall (t : Two WL m sa oa ga fw fo fg) (b : Bool) (g : Int) (cs : Cks) : Two WL (setW WL m (fw b).a (fw b).h g cs) sa oa ga (set2 fw b ⟨(fw b).a, (fw b).h, g, cs⟩) fo fg := by
  have off : ∀ {x : Addr} {o : MO}, m x = some o → x ≠ (fw b).a → x ≠ (fw b).h → setW WL m (fw b).a (fw b).h g cs x = some o := fun h h1 h2 => (setW_off h1 h2).trans h
  refine ⟨?_, off t.ol (ne_kind t.ol (t.wl b).ob fun z => nomatch z) (ne_kind t.ol (t.wl b).dc fun z => nomatch z), off t.gl (ne_kind t.gl (t.wl b).ob fun z => nomatch z) (ne_kind t.gl (t.wl b).dc fun z => nomatch z), bool2 b ?_ ?_, fun c => off (t.dl c) (ne_kind (t.dl c) (t.wl b).ob fun z => nomatch z) (t.ho b c).symm, bool2 b ?_ ?_, bool2 b ?_ ?_, t.oo, fun c d => bool2 b (P := fun c => (set2 fw b ⟨(fw b).a, (fw b).h, g, cs⟩ c).h ≠ (fo d).1) ?_ ?_ c, t.l1, t.l2, t.l3⟩
  · have e : (fun c => Dt.raw (.ref (set2 fw b ⟨(fw b).a, (fw b).h, g, cs⟩ c).a)) = fun c => .raw (.ref (fw c).a) := by
      funext c
      unfold set2
      split
      · rename_i h
        rw [h]
      · rfl
    rw [e]
    exact off t.sl (ne_kind t.sl (t.wl b).ob fun z => nomatch z) (ne_kind t.sl (t.wl b).dc fun z => nomatch z)
  · rw [set2_same]
    exact setW_is (t.wl b).ne
  · rw [set2_not]
    exact ⟨off (t.wl _).ob (t.aa b).symm (ne_kind (t.wl _).ob (t.wl b).dc fun z => nomatch z), off (t.wl _).dc (ne_kind (t.wl _).dc (t.wl b).ob fun z => nomatch z) (t.hh b).symm⟩
  · rw [set2_same, set2_not]
    exact t.aa b
  · rw [Bool.not_not, set2_same, set2_not]
    exact (t.aa b).symm
  · rw [set2_same, set2_not]
    exact t.hh b
  · rw [Bool.not_not, set2_same, set2_not]
    exact (t.hh b).symm
  · rw [set2_same]
    exact t.ho b d
  · rw [set2_not]
    exact t.ho _ d
/-- a law's own dict changed -/
theorem Two.dict (t : Two WL m sa oa ga fw fo fg) (b : Bool) (cs : Cks) : Two WL (putM m (fo b).1 (.dct (dctD cs))) sa oa ga fw (set2 fo b ((fo b).1, cs)) fg := by
  refine ⟨(putM_ne (ne_kind t.sl (t.dl b) fun z => nomatch z)).trans t.sl, ?_, (putM_ne (ne_kind t.gl (t.dl b) fun z => nomatch z)).trans t.gl, fun c => (t.wl c).put (ne_kind (t.wl c).ob (t.dl b) fun z => nomatch z) (t.ho c b), bool2 b ?_ ?_, t.aa, t.hh, bool2 b ?_ ?_, fun c => bool2 b ?_ ?_, t.l1, t.l2, t.l3⟩
  · have e : (fun c => Dt.raw (.ref (set2 fo b ((fo b).1, cs) c).1)) = fun c => .raw (.ref (fo c).1) := by
      funext c
      unfold set2
      split
      · rename_i h
        rw [h]
      · rfl
    rw [e]
    exact (putM_ne (ne_kind t.ol (t.dl b) fun z => nomatch z)).trans t.ol
  · rw [set2_same]
    exact putM_same
  · rw [set2_not]
    exact (putM_ne (t.oo b).symm).trans (t.dl _)
  · rw [set2_same, set2_not]
    exact t.oo b
  · rw [Bool.not_not, set2_same, set2_not]
    exact (t.oo b).symm
  · rw [set2_same]
    exact t.ho c b
  · rw [set2_not]
    exact t.ho c _
theorem Two.deed (t : Two WL m sa oa ga fw fo fg) (b : Bool) (g : Int) (cs : Cks) : Two WL (putM (setW WL m (fw b).a (fw b).h g cs) (fo b).1 (.dct (dctD cs))) sa oa ga (set2 fw b ⟨(fw b).a, (fw b).h, g, cs⟩) (set2 fo b ((fo b).1, cs)) fg := (t.wall b g cs).dict b cs
end
/-- both stand for the same clocks -/
def Same2 (fw : Bool → Wg) (fo : Bool → Addr × Cks) (fg : Bool → Int) : Prop := ∀ b, fg b = (fw b).g ∧ (fo b).2 = (fw b).cs ∧ Good (fw b).g (fw b).cs
section
variable {T : List (Addr × Str)} {K : PySem.W.Frag} {E : XK} {δ : Sto} {μ : Mu} {N : Dt → Mu → Prop} {W : WM}
theorem evm_at2 {ti tj : TE} {la : Addr} {f : Bool → Dt} (b : Bool) (h1 : EvS ti δ (.raw (.ref la))) (h2 : μ la = some (.lst (lst2 f))) (h3 : EvS tj δ (dI (ixb b))) (n : N (f b) μ) : EvM T E (tOp (rIx K) ti tj) δ μ N W :=
  evm_ix rfl (evm_of h1 (evm_of h3 ⟨la, _, _, _, rfl, h2, rfl, (ixb_in b).1, lst2_at f b, n⟩))
theorem hm_set2 {M B C : Sto → Mu → Prop} {R : Dt → Mu → Prop} {te ti tj : TE} {la : Addr} (b : Bool) (h : EvM T E te δ μ (fun z m => ∃ f, EvS ti δ (.raw (.ref la)) ∧ m la = some (.lst (lst2 f)) ∧ EvS tj δ (dI (ixb b)) ∧ M δ (putM m la (.lst (lst2 (set2 f b z))))) W) : HsM T E (tAsg te (gSub ti tj rSetL)) δ μ M R B C W := by
  refine hm_setL (evm_imp h (fun z m ⟨f, h1, h2, h3, n⟩ => evm_of h1 (evm_of h3 ⟨la, _, _, rfl, h2, rfl, (ixb_in b).1, ?_, ?_⟩)) fun _ _ _ w => w)
  · show (ixb b).toNat < 2
    cases b <;> decide
  · rw [lst2_set]
    exact n
end
theorem cutI_len (ns : List Int) (lo hi : Option Int) : (cutI ns lo hi).length ≤ ns.length := by
  unfold cutI
  rw [List.length_take, List.length_drop]
  omega
def mixF (k : Int) : Dt → Option Dt
  | .raw (.int c) => some (dI (mixed c k))
  | _ => none
theorem mixF_all (k : Int) : ∀ ns : List Int, (ns.map dI).filterMap (mixF k) = (ns.map fun c => mixed c k).map dI
  | [] => rfl
  | n :: ns => by
    show (dI n :: ns.map dI).filterMap (mixF k) = dI (mixed n k) :: (ns.map fun c => mixed c k).map dI
    rw [List.filterMap_cons, mixF_all k ns]
    rfl
theorem noLst_ints : ∀ ns : List Int, noLstL (ns.map dI) = true
  | [] => rfl
  | _ :: ns => by
    show (true && noLstL (ns.map dI)) = true
    rw [noLst_ints ns]
    rfl
/-- an item of a slice of the script -/
theorem cut_item {ns : List Int} {lo hi : Option Int} {i : Nat} {x : Dt} (hl : ns.length ≤ 63) (h : ((cutI ns lo hi).map dI)[i]? = some x) : i < 63 ∧ ∃ c : Int, x = dI c := by
  have h1 := (List.getElem?_eq_some_iff.mp h).1
  rw [List.length_map] at h1
  have h2 := cutI_len ns lo hi
  rw [List.getElem?_map] at h
  cases q : (cutI ns lo hi)[i]? with
  | none =>
    rw [q] at h
    cases h
  | some c =>
    rw [q] at h
    cases h
    exact ⟨by omega, c, rfl⟩
theorem two_start {WL : Addr} {m0 m1 m2 : Mu} {w1 h1 w2 h2 sa o1 o2 oa ga : Addr} (n1 : NewW WL m0 w1 h1 0 [] m1) (n2 : NewW WL m1 w2 h2 0 [] m2) {m3 m4 m5 m6 m7 : Mu} (e3 : m3 = putM m2 sa (.lst [.raw (.ref w1), .raw (.ref w2)])) (e4 : m4 = putM m3 o1 (.dct [])) (e5 : m5 = putM m4 o2 (.dct []))
    (e6 : m6 = putM m5 oa (.lst [.raw (.ref o1), .raw (.ref o2)])) (e7 : m7 = putM m6 ga (.lst [dI 0, dI 0])) (s3 : m2 sa = none) (s4 : m3 o1 = none) (s5 : m4 o2 = none) (s6 : m5 oa = none) (s7 : m6 ga = none) :
    Two WL m7 sa oa ga (fun b => cond b ⟨w2, h2, 0, []⟩ ⟨w1, h1, 0, []⟩) (fun b => cond b (o2, []) (o1, [])) (fun _ => 0) := by
  have k2 : Grow m1 m2 := n2.2.2.2.2
  have k3 : Grow m2 m3 := e3 ▸ Grow.put s3
  have k4 : Grow m3 m4 := e4 ▸ Grow.put s4
  have k5 : Grow m4 m5 := e5 ▸ Grow.put s5
  have k6 : Grow m5 m6 := e6 ▸ Grow.put s6
  have k7 : Grow m6 m7 := e7 ▸ Grow.put s7
  have v1 := n1.2.2.2.1
  have v2 := n2.2.2.2.1
  have v1' := v1.grow k2
  have q3 : m3 sa = some (.lst [.raw (.ref w1), .raw (.ref w2)]) := e3 ▸ putM_same
  have q4 : m4 o1 = some (.dct []) := e4 ▸ putM_same
  have q5 : m5 o2 = some (.dct []) := e5 ▸ putM_same
  have q6 : m6 oa = some (.lst [.raw (.ref o1), .raw (.ref o2)]) := e6 ▸ putM_same
  have q7 : m7 ga = some (.lst [dI 0, dI 0]) := e7 ▸ putM_same
  have k37 : Grow m3 m7 := ((k4.trans k5).trans k6).trans k7
  have a12 : w1 ≠ w2 := ne_new v1.ob n2.2.1
  have h12 : h1 ≠ h2 := ne_new v1.dc n2.2.2.1
  have o12 : o1 ≠ o2 := ne_new q4 s5
  have p1 : h1 ≠ o1 := ne_new (v1'.grow k3).dc s4
  have p2 : h1 ≠ o2 := ne_new (v1'.grow (k3.trans k4)).dc s5
  have p3 : h2 ≠ o1 := ne_new (v2.grow k3).dc s4
  have p4 : h2 ≠ o2 := ne_new (v2.grow (k3.trans k4)).dc s5
  refine ⟨k37 _ _ q3, k7 _ _ q6, q7, fun b => ?_, fun b => ?_, fun b => ?_, fun b => ?_, fun b => ?_, fun b c => ?_, ne_new (k5 _ _ (k4 _ _ q3)) s6, ne_new (k6 _ _ (k5 _ _ (k4 _ _ q3))) s7, ne_new q6 s7⟩
  · cases b
    · exact v1'.grow (k3.trans k37)
    · exact v2.grow (k3.trans k37)
  · cases b
    · exact (k5.trans (k6.trans k7)) _ _ q4
    · exact (k6.trans k7) _ _ q5
  · cases b
    · exact a12
    · exact a12.symm
  · cases b
    · exact h12
    · exact h12.symm
  · cases b
    · exact o12
    · exact o12.symm
  · cases b <;> cases c <;> assumption
theorem lst2_item {f g : Bool → Dt} {k : Nat} {x y : Dt} (h1 : (lst2 f)[k]? = some x) (h2 : (lst2 g)[k]? = some y) : ∃ b, x = f b ∧ y = g b := by
  match k with
  | 0 =>
    cases h1
    cases h2
    exact ⟨false, rfl, rfl⟩
  | 1 =>
    cases h1
    cases h2
    exact ⟨true, rfl, rfl⟩
  | k + 2 =>
    have h1 : (none : Option Dt) = some x := h1
    cases h1
theorem lst2_raw {f g : Bool → Dt} (hf : ∀ b, ∃ v, f b = .raw v) (hg : ∀ b, ∃ v, g b = .raw v) : ∀ d, d ∈ lst2 f ++ lst2 g → ∃ v, d = .raw v := by
  intro d hd
  have hd : d ∈ [f false, f true, g false, g true] := hd
  simp only [List.mem_cons, List.not_mem_nil, or_false] at hd
  rcases hd with rfl | rfl | rfl | rfl
  · exact hf false
  · exact hf true
  · exact hg false
  · exact hg true
end Dn
/-! Own layer: an own error over an own error over ValueError, whose __init__ begins with super().__init__(text). -/
namespace Dn
open PySem PySem.Spec PySem.Calls PySem.W PyProof.Rows L2 NdefX
/-- what the written part says of such an __init__ -/
structure SupC (P : Program) (K : PySem.W.Frag) (C f cc cda : Addr) (name qual : Str) (st : Stmt) : Prop where
  ex : ∃ (oc : Value) (od : Option Addr) (dV kV doc pm ct : Value) (an : Option Addr) (osl : Array (Option Value)), K.lookup f = some ⟨oc, od, .func (PySem.W.fnX name qual (defArgs st) (defBody st) (defScope st) [("__class__", cc)] dV kV doc pm an (.ref cda) ct), osl⟩
  code : PySem.W.codeIn K (.ref cda) qual = true
  file : ∃ (ccl : Value) (cdd : Option Addr) (vs : Array Value) (ccs : Array (Option Value)) (fl : Str) (tf : Tok), K.lookup cda = some ⟨ccl, cdd, .fields vs, ccs⟩ ∧ vs[2]? = some (.str fl tf) ∧ ((P.main.file : Str) == fl) = true
  cell : ∃ (cl : Value) (cld : Option Addr) (csl : Array (Option Value)), K.lookup cc = some ⟨cl, cld, .cell (some (.ref C)), csl⟩
  self : PySem.W.mroIn K C (.ref C) = some true
  sup : PySem.W.ks_superIn K C C "__init__" = some (some (.builtin "ValueError.__init__"))
  val : PySem.W.subIn K (.ref C) (.type "ValueError") = some true
  lib : PySem.W.nsIn K cStatics "thirdparty.any" = some none
  top : (P.main.scope.names.lookup ("super" : Str)).isSome = false
theorem alongOf {K : PySem.W.Frag} {C : Addr} (h : PySem.W.ks_superIn K C C "__init__" = some (some (.builtin "ValueError.__init__"))) : ∃ cd, PySem.W.clsIn K C = some cd ∧ PySem.W.alongIn K "__init__" ((cd.mro.dropWhile (· != .ref C)).drop 1) = some (some (.builtin "ValueError.__init__")) := by
  unfold PySem.W.ks_superIn at h
  cases hc : PySem.W.clsIn K C with
  | none =>
    rw [hc] at h
    cases h
  | some cd =>
    rw [hc] at h
    exact ⟨cd, rfl, h⟩
section
variable {X : Cx} {pins : List (Addr × Obj)} {σ : L2.St} {H : Hp} {s : Shared} {a C u : Addr}
/-- the wrapper that is held by nobody but the call -/
theorem Inv.hold {h' : Heap} {t' : Nat} {o : Obj} (I : Inv X pins σ H s) (hu : u = s.heap.objs.size) (k : ∀ b v, s.heap.get? b = some v → h'.get? b = some v) (ho : h'.get? u = some o) (nc : ∀ v, o.data ≠ .cell v) : Inv X ((u, o) :: pins) σ H { s with heap := h', toks := t' } := by
  subst hu
  have J : Inv X pins σ H { s with heap := h', toks := t' } := I.kept k
  refine J.pins_of fun p hp => ?_
  rcases List.mem_cons.mp hp with rfl | hp
  · refine ⟨ho, I.hok.fresh (Nat.le_refl _), fun z => ?_, fun z => ?_, nc⟩
    · obtain ⟨m, hn, _⟩ := I.loc
      obtain ⟨oL, es, ep, hL, _⟩ := hn
      have := Heap.lt_size hL
      rw [← z] at this
      exact Nat.lt_irrefl _ this
    · obtain ⟨_, o', e', _⟩ := I.funs.mem z
      exact Nat.lt_irrefl _ (Heap.lt_size e')
  · exact J.pin p (List.mem_append_right _ hp)

/-- the wrapper called: nothing of the error is told but that it is one -/
theorem super_called {us : List Value} {Q : Value → Shared → Prop} {E : Value → Shared → Prop} {A : Around} (T : OexC X.K C) (I : Inv X ((u, kxs_mw "ValueError.__init__" a) :: pins) σ H s) (e : H a = some (exo a C none)) (hl : us.length ≤ sizeLine) (h : ∀ s', Inv X pins σ H s' → Q .none s') : wpAny (model X.prog X.w) A (call (.ref u) us) Q E s := by
  obtain ⟨nm, q, N, bs, bm, sn, sub, ab, col, dd, k0, k1, k2, k3, k5, hC, hbm⟩ := T.cls
  obtain ⟨t1, ho⟩ := exo_at I.hok e
  have hu := (I.pin (u, kxs_mw "ValueError.__init__" a) (List.mem_append_right _ List.mem_cons_self)).1
  have fin : ∀ (h' : Heap) (t2 : Addr), (∀ b v, b ≠ a → s.heap.get? b = some v → h'.get? b = some v) → h'.get? a = some ({ cls := .ref C, dict := none, data := .fields #[.ref t2, .none, .none, .none, .bool false, .none] } : Obj) → Q .none { s with heap := h' } := fun h' t2 k hx => by
    have J := I.write (t' := s.toks) (x := a) (e := a) (o := exo a C none) (by rw [e]; exact True.intro) (.inl rfl) k ⟨_, hx⟩ (exo_ok hx)
    have eu : upd H a (exo a C none) = H := by
      funext b
      by_cases hb : b = a
      · rw [hb, upd_same, e]
      · rw [upd_ne hb]
    rw [eu] at J
    exact h _ (J.pins_of fun p hp => J.pin p (by
      rcases List.mem_append.mp (List.mem_append_right X.pn hp) with z | z
      · exact List.mem_append_left _ z
      · exact List.mem_append_right _ (List.mem_cons_of_mem _ z)))
  obtain ⟨hh, g, d, tk, os⟩ := s
  refine wpAny_call (codeAny_of_tree (?_ : wpAny _ A.in1 (callAny (.ref u) ⟨us, []⟩) _ _ _))
  simp only [callAny]
  refine wpAny_bind (wpAny_load hu ?_)
  simp only [kxs_mw, show (Value.type "method-wrapper" == Value.type "method" || Value.type "method-wrapper" == Value.type "builtin_function_or_method" || Value.type "method-wrapper" == Value.type "method-wrapper") = true by decide, if_true]
  refine PySem.W.KFB.if_so (by decide) (wpAny_bind (check_bound_init F.excBase_ValueError.toExcCallFacts (I.kIn _ _ hC) ho rfl ?_))
  refine wpAny_bind (wpAny_pure (wpAny_pure ⟨plainId_quiet F.excBase_ValueError.init.plain _, codeAny_builtin F.excBase_ValueError.initEntry ?_⟩))
  exact exc_init_tree (cls := .ref C) (t0 := t1) (dv := none) (c2 := .none) (c3 := .none) (b4 := .bool false) ho hl fun h' k e' _ => fin h' _ k e'

theorem super_stmt {body : List Stmt} {f cc cda : Addr} {name qual : Str} {st : Stmt} {e : Expr} {es : List Expr} {ta : TA} {p0 p1 apos pos epos : Pos} {ar : Arg} {pl : Sem Bool} {Q : Hp → Prop} (T : OexC X.K C) (S : SupC X.prog X.K C f cc cda name qual st)
    (har : ((defArgs st).posonlyargs ++ (defArgs st).args).head? = some ar) (hfu : X.env.func = some f) (hco : X.env.code = .ref cda) (hcell : X.env.cells.lookup ("__class__" : Str) = some cc) (hks : X.env.kindOf "super" = some .globalImplicit) (hkc : X.env.kindOf "__class__" = some .free) (hka : X.env.kindOf ar.arg = some .local)
    (hm : X.mg "super" = none) (hN : X.N[0]? = some ar.arg) (ha : PA X (e :: es) ta) (I : Inv X pins σ H s) (h0 : σ[0]? = some (some (.ref a))) (hex : H a = some (exo a C none)) (hta : ta σ H fun vs H1 => vs.length ≤ 1000 ∧ H1 a = some (exo a C none) ∧ Q H1)
    (hev : eval (.Call (.Attribute (.Call (.Name "super" p0) [] [] p1) "__init__" apos) (e :: es) [] pos) X.env = (do
      let ov ← attributeBase (.Call (.Name "super" p0) [] [] p1) "__init__" X.env (eval (.Call (.Name "super" p0) [] [] p1) X.env)
      standAt apos.atName
      let (f, first) ← holding [ov] (getMethod ov "__init__" pl)
      callWith pos f first (backTo pos (starEach (e :: es) X.env)) []))
    (hi : interactive X.env = false) (hsw : swapsWith (.Call (.Attribute (.Call (.Name "super" p0) [] [] p1) "__init__" apos) (e :: es) [] pos) none epos.line X.env = pure false)
    (hse : starEach (e :: es) X.env = (false, eval e X.env) :: starEach es X.env) (hpl : (backTo pos (starEach es X.env)).any (·.1) = false) :
    _root_.PySem.wpAt (model X.prog X.w) X.A (.func body X.env) (exec (.Expr (.Call (.Attribute (.Call (.Name "super" p0) [] [] p1) "__init__" apos) (e :: es) [] pos) epos) X.env) (fun fl s' => fl = .next ∧ ∃ H', Inv X pins σ H' s' ∧ Q H') X.xe s := by
  obtain ⟨oc, od, dV, kV, doc, pm, ct, an, osl, lk⟩ := S.ex
  obtain ⟨ccl, cdd, vs, ccs, fl, tf, lkc, hvs, hfile⟩ := S.file
  obtain ⟨cl, cld, csl, lkx⟩ := S.cell
  obtain ⟨cd, hcd, hal⟩ := alongOf S.sup
  have KX := I.kIn
  obtain ⟨oD, hD1, hD2⟩ : ∃ oD, s.heap.get? C = some oD ∧ oD.data = .cls cd := by
    unfold PySem.W.clsIn at hcd
    split at hcd
    · rename_i c d cd' sl ho
      cases hcd
      exact ⟨_, KX _ _ ho, rfl⟩
    · cases hcd
  obtain ⟨t1, ho⟩ := exo_at I.hok hex
  obtain ⟨m, hns, hl⟩ := I.loc
  obtain ⟨mb, b1, b2⟩ := I.mod.blt
  obtain ⟨w, rw_, lw⟩ := hl 0 ar.arg (.ref a) hN h0 (.inl hka)
  obtain rfl : w = Value.ref a := rw_
  have hma : m ar.arg = some (Value.ref a) := by
    rcases lw with ⟨_, z⟩ | ⟨z, _⟩
    · exact z
    · rw [hka] at z
      rcases z with z | z <;> cases z
  have axC : a ≠ C := fun z => by
    rw [z, hD1] at ho
    cases ho
    cases hD2
  refine ks_wpAt_Expr_any (ks_wpAt_MethodCall ?_ hev) hi hsw
  refine ks_wpAt_super_base hks hkc (by decide) hfu (KX _ _ lk) rfl har hco (KX _ _ lkc) rfl hvs hfile S.top ?_
  refine ks_loadName_global I.ok.kind hks (Calls.loadGlobal_builtin (by rw [I.ok.glob]; exact I.mod.glob.keeps I.bk) hm (by rw [I.ok.blt]; exact b1.keeps I.bk) ((b2 "super" (by decide)).trans (by decide +kernel)) ⟨rfl, ?_⟩)
  refine wpAny_loadName_free I.ok.kind hkc hcell ⟨_, KX _ _ lkx, rfl⟩ ?_
  refine wpAny_loadName_local I.ok.kind hka hns hma ?_
  obtain ⟨hh, g, d, t, os⟩ := s
  refine ks_wpAny_isType_cls hD1 hD2 ⟨rfl, ?_⟩
  refine ks_wpAny_call_super hD1 hD2 ho rfl (fun c z => by cases z) (looks_mroIn KX S.self) (fun h' e1 k1 => ?_)
  have I1 : Inv X pins σ H ⟨h', g, d, t, os⟩ := I.kept (t' := t) k1
  have KX1 := I1.kIn
  have ho1 := k1 _ _ ho
  have ty : ∀ {M : Model}, Looks M h' (typeOf (.ref a)) (.ref C) := fun {M} A Q E s k q => wpAny_typeOf_ref (k _ _ ho1) q
  have hI : Looks (model X.prog X.w) h' (isInstance (.ref a) (.type "ValueError")) true := ty.andThen (looks_subIn KX1 S.val)
  refine kxs_getMethod kxs_ValueError e1 (looks_opaque KX1 S.lib) (l₀ := cd.mro) (fun A Q E s k q => wpAny_bind ((looks_clsIn KX1 hcd) A _ E s k (wpAny_pure q))) rfl KX1 hal hI axC (by decide) ?_
  have I2 : Inv X ((h'.objs.size, kxs_mw "ValueError.__init__" a) :: pins) σ H ⟨h'.push (kxs_mw "ValueError.__init__" a), g, d, t + 1, os⟩ := Inv.hold (t' := t + 1) I1 rfl (fun b v z => Heap.get?_push_of_some _ z) (Heap.get?_push_at rfl rfl) fun v z => by cases z
  show wpAny _ _ (callWith pos (Value.ref h'.objs.size) [] (backTo pos (starEach (e :: es) X.env)) []) _ _ _
  have run := ha.run pos _ _ σ H _ I2 hta
  rw [hse] at run ⊢
  refine kxs_callWith (i := "ValueError.__init__") (x := a) (by show (false || (backTo pos (starEach es X.env)).any (·.1)) = false; rw [hpl]; rfl) (evalArgs_plain ?_)
  refine wpAny_mono run (fun us s1 ⟨ws, H1, J, rv, hz, hx, q⟩ => ?_) fun _ _ z => z
  refine ⟨(J.pin _ (List.mem_append_right _ List.mem_cons_self)).1, ?_⟩
  refine super_called T J hx (by show us.length ≤ sizeLine; rw [← Paired.length rv, sizeLine_eq]; omega) fun s' J' => ⟨rfl, H1, J', q⟩
end
def nfOf (name qual : Str) (st : Stmt) (cc cda : Addr) : NF := ⟨name, qual, defArgs st, defBody st, defScope st, [("__class__", cc)], cda⟩
section
variable {CX : CXT} {P : Program} {w : World} {K : PySem.W.Frag} {mg : Str → Option Value} {base : Heap} {N ps : List Str} {C f cc cda : Addr} {name qual : Str} {st : Stmt} {k : Nat} {sp : Sp}
/-- such an __init__ keeps its promise -/
theorem fnOk_super {e : Expr} {es : List Expr} {rest : List Stmt} {p0 p1 apos pos epos : Pos} {ar : Arg} {fd : FuncData} (hfd : ∃ (oc : Value) (od : Option Addr) (osl : Array (Option Value)), K.lookup f = some ⟨oc, od, .func fd, osl⟩) (T : OexC K C) (S : SupC P K C f cc cda name qual st) (NS : NScope N ps ["__class__"] (defScope st))
    (hbd : defBody st = .Expr (.Call (.Attribute (.Call (.Name "super" p0) [] [] p1) "__init__" apos) (e :: es) [] pos) epos :: rest) (har : ((defArgs st).posonlyargs ++ (defArgs st).args).head? = some ar) (hps : ps[0]? = some ar.arg) (hks : (defScope st).names.lookup ("super" : Str) = some .globalImplicit) (hm : mg "super" = none)
    (len : ∀ vs H Q E, sp vs H Q E → vs.length = ps.length)
    (hev : ∀ env : Env, ∃ pl : Sem Bool, eval (.Call (.Attribute (.Call (.Name "super" p0) [] [] p1) "__init__" apos) (e :: es) [] pos) env = (do
      let ov ← attributeBase (.Call (.Name "super" p0) [] [] p1) "__init__" env (eval (.Call (.Name "super" p0) [] [] p1) env)
      standAt apos.atName
      let (f, first) ← holding [ov] (getMethod ov "__init__" pl)
      callWith pos f first (backTo pos (starEach (e :: es) env)) []))
    (hsw : ∀ env : Env, swapsWith (.Call (.Attribute (.Call (.Name "super" p0) [] [] p1) "__init__" apos) (e :: es) [] pos) none epos.line env = pure false)
    (hse : ∀ env : Env, starEach (e :: es) env = (false, eval e env) :: starEach es env) (hpl : ∀ env : Env, (backTo pos (starEach es env)).any (·.1) = false)
    (hbody : ∀ (A : Around) (outer : List Env) (s : Shared) (H : Hp) (vs : List V) (Q : VK) (E : XK), Room k (A.deeper (envF (nfOf name qual st cc cda) f s.heap.objs.size)) → sp vs H Q E →
      ∃ (ta : TA) (t : TS) (a : Addr), PA (ncx CX P w K mg base N (nfOf name qual st cc cda) f A outer s H E) (e :: es) ta ∧ PSs (ncx CX P w K mg base N (nfOf name qual st cc cda) f A outer s H E) rest t ∧ vs[0]? = some (.ref a) ∧ H a = some (exo a C none) ∧
        ta (startF N vs [none]) H fun ws H1 => ws.length ≤ 1000 ∧ H1 a = some (exo a C none) ∧ t { nx := fun _ H' => Q .non H', rt := Q } (startF N vs [none]) H1) :
    FnOk P w K mg base CX (k + 1) f fd ps sp := by
  refine ⟨len, fun A outer s H args us vs Q E hr e0 hb r hsp => ?_⟩
  obtain ⟨oc, od, dV, kV, doc, pm, ct, an, osl, lk⟩ := S.ex
  obtain ⟨oc', od', osl', lk'⟩ := hfd
  rw [lk] at lk'
  cases lk'
  have hl := len _ _ _ _ hsp
  have KB : K.In base := e0.mod.kin
  have KX : K.In s.heap := KB.keeps fun b o e => (e0.bs b o e).1
  have lim : s.heap.NoLimit := e0.mod.nolimit.keeps fun b o e => (e0.bs b o e).1
  refine codeAny_call_function hr.depth (KX _ _ lk) rfl NS.co NS.gen rfl (PySem.W.codeRec_of KX S.code) (hb _ _ _ _ ?_)
  refine wpAny_newFunctionEnv NS.nocell (fun ⟨n, _⟩ hy => NS.par n (List.of_mem_zip hy).1) (fun h₁ hns hsb => ⟨lim.fresh _ hsb, ?_⟩) NS.kind
  have kp : ∀ b o, s.heap.get? b = some o → h₁.get? b = some o := fun b o e => hsb.extBut b o (Nat.ne_of_lt (Heap.lt_size e)) (Heap.get?_push_of_some _ e)
  obtain ⟨ta, t, a, ha, ht, hv0, hex, hta⟩ := hbody A outer s H vs Q E (hr.deeper _) hsp
  obtain ⟨cl, cld, csl, lkx⟩ := S.cell
  have hcc : H cc = none := (e0.bs _ _ (KB _ _ lkx)).2
  have look1 : ∀ {y : Str} {c : Addr}, ([("__class__", cc)] : List (Str × Addr)).lookup y = some c → y = "__class__" ∧ c = cc := fun {y c} e => by
    rw [List.lookup] at e
    cases q : y == ("__class__" : Str) with
    | true =>
      rw [q] at e
      exact ⟨by simpa using q, (Option.some.inj e).symm⟩
    | false =>
      rw [q] at e
      cases e
  have CA : CellsAt (nfOf name qual st cc cda).cl ["__class__"] [none] s.heap H := ⟨rfl, fun y c e => by
      obtain ⟨_, rfl⟩ := look1 e
      exact ⟨hcc, _, _, KX _ _ lkx, rfl⟩, fun x y c e1 e2 => (look1 e1).1.trans (look1 e2).1.symm, fun i y hy => by
      cases i with
      | zero =>
        cases hy
        exact ⟨cc, by show ([("__class__", cc)] : List (Str × Addr)).lookup _ = _; simp [List.lookup], fun v z => by cases z⟩
      | succ i => cases hy⟩
  have I : Inv (ncx CX P w K mg base N (nfOf name qual st cc cda) f A outer s H E) [] (startF N vs [none]) H { s with heap := h₁, toks := s.toks + (ps.zip us).length } := inv_startN (F := nfOf name qual st cc cda) NS hr.hd e0 hl r CA hns kp
  show codeAny _ _ (.func (defBody st) (envF (nfOf name qual st cc cda) f s.heap.objs.size)) _ _
  refine ks_codeAny_funcAt ?_
  have hN : N[0]? = some ar.arg := by
    have q := congrArg (fun l => l[0]?) NS.pre
    have hp0 : 0 < ps.length := (List.getElem?_eq_some_iff.mp hps).1
    simp only [List.getElem?_take, List.getElem?_append_left hp0, hps] at q
    rw [if_pos (by omega)] at q
    exact q
  have h0 : (startF N vs [none])[0]? = some (some (.ref a)) := by
    cases vs with
    | nil => cases hv0
    | cons v vs =>
      cases hv0
      rfl
  have hka : (defScope st).names.lookup ar.arg = some .local := NS.par _ (by
    cases ps with
    | nil => cases hps
    | cons p ps =>
      cases hps
      exact List.mem_cons_self)
  rw [hbd]
  obtain ⟨pl, hev'⟩ := hev (envF (nfOf name qual st cc cda) f s.heap.objs.size)
  refine ks_wpAt_execs_cons (ks_wpAt_mono (super_stmt (X := ncx CX P w K mg base N (nfOf name qual st cc cda) f A outer s H E) (Q := fun H1 => t { nx := fun _ H' => Q .non H', rt := Q } (startF N vs [none]) H1) T S har rfl rfl (by show ([("__class__", cc)] : List (Str × Addr)).lookup _ = _; simp [List.lookup]) hks (NS.frk _ List.mem_cons_self) hka hm hN ha I h0 hex hta hev' (by unfold interactive; rw [show (ncx CX P w K mg base N (nfOf name qual st cc cda) f A outer s H E).env.scope.kind = .function from NS.kind]; rfl) (hsw _) (hse _) (hpl _)) (fun fl s' hs => ?_) fun _ _ z => z)
  obtain ⟨rfl, H', J, hq⟩ := hs
  refine wpAt_of_wpAny (wpAny_mono (ht.run [] s' _ H' _ J hq) (fun fl s2 hs => ?_) fun e s' hs => hs)
  have fin : ∀ {σ' : L2.St} {H' : Hp} {v : V} {u : Value}, Inv (ncx CX P w K mg base N (nfOf name qual st cc cda) f A outer s H E) [] σ' H' s2 → RelV v u → Q v H' → CE outer P w H s Q u s2 := fun {σ' H' v u} J rv q => ⟨v, H', J.os, J.bare, J.base, J.hok, rv, q⟩
  cases fl with
  | ret u =>
    obtain ⟨v, σ', H', J, rv, q⟩ := hs
    exact fin J rv q
  | next =>
    obtain ⟨σ', H', J, q⟩ := hs
    exact fin (v := V.non) (u := Value.none) J rfl q
  | brk =>
    obtain ⟨_, _, _, q⟩ := hs
    exact q.elim
  | cont =>
    obtain ⟨_, _, _, q⟩ := hs
    exact q.elim
end
end Dn
/-! Own layer: errors with fields raised; dicts walked (locked), errors out of such a walk. -/
namespace Dn
open PySem PySem.Spec PyProof.Rows L2 LamX
/-- what is raised while a dict is locked leaves with the dict as it was -/
theorem takes_unlock {X : Cx} {W : WX} (tk : Takes X W) : Takes X (fun cls d σ H => ∃ (dd : Addr) (od : Obj) (v : HO), H dd = some (.frz od v) ∧ (∀ o' u', X.H_0 dd ≠ some (.frz o' u')) ∧ W cls d σ (upd H dd v)) := fun u s' ⟨a, B, sI, pins, σ, H, cls, d, e, I, nb, up, sky, na, os, ag, dd, od, v, h1, h2, w⟩ =>
  tk u s' ⟨a, B, sI, pins, σ, upd H dd v, cls, d, e, I.unlock h1 h2, nb, up, sky, by rw [upd_ne (fun z => by rw [z, h1] at na; cases na)]; exact na, os, ag, w⟩
/-! ### errors with fields -/
def numF (i : Int) : Prop := 0 ≤ i ∧ i < 10 ^ 10
def spErr2 (C : Addr) (f1 f2 : Str) : Sp := fun vs H Q _ => ∃ (a : Addr) (i j : Int), vs = [.ref a, .int i, .int j] ∧ numF i ∧ numF j ∧ H a = some (exo a C none) ∧ ∀ d, H d = none → d ≠ a → Q .non (upd (upd (upd H d (exd d [(f1, .int i)])) a (exo a C (some d))) d (exd d [(f2, .int j), (f1, .int i)]))
def spErr1 (C : Addr) (f1 : Str) : Sp := fun vs H Q _ => ∃ (a : Addr) (i : Int), vs = [.ref a, .int i] ∧ numF i ∧ H a = some (exo a C none) ∧ ∀ d, H d = none → d ≠ a → Q .non (upd (upd H d (exd d [(f1, .int i)])) a (exo a C (some d)))
/-- the class that the module's name x holds is made by such an __init__ -/
structure ClE (P : Program) (w : World) (K : PySem.W.Frag) (mg : Str → Option Value) (base : Heap) (CX : CXT) (k : Nat) (C : Addr) (x : Str) (sp : Sp) : Prop where
  ex : ∃ (f : Addr) (fd : FuncData) (ps : List Str), FnOk P w K mg base CX k f fd ps sp ∧ PySem.W.findIn K (.ref C) "__init__" = some (some (.ref f)) ∧ PySem.W.typeIn K (.ref f) = some (.type "function") ∧ Binds K fd ps []
  mg : mg x = some (.ref C)
  T : OexC K C
theorem pmk_cle {X : Cx} {k j : Nat} {C : Addr} {x : Str} {sp : Sp} {e : Expr} {es : List Expr} {ta : TA} {p pos : Pos} (M : ClE X.prog X.w X.K X.mg X.base L2.CX0 k C x sp) (hr : Room j X.A) (hk : k + 1 ≤ j) (hg : Gl X x) (ha : PA X (e :: es) ta)
    (hdb : (x == ("__debug__" : Str)) = false := by decide) (he : starEach (e :: es) X.env = (false, eval e X.env) :: starEach es X.env := by rfl) (hpl : (backTo pos (starEach es X.env)).any (·.1) = false := by rfl) : PMk X (.Call (.Name x p) (e :: es) [] pos) (tMkO C sp [] ta) := by
  obtain ⟨f, fd, ps, F, iC, tI, b⟩ := M.ex
  exact pmk_oex M.T iC tI F (hr.mono hk) b .nil pass0 hg M.mg ha hdb he hpl
variable {T : List (Addr × Str)}
section
variable {K : PySem.W.Frag} {E : XK} {δ : Sto} {μ : Mu} {te td tl : TE} {tas : TA} {t : TS} {d : Dt} {M B C : Sto → Mu → Prop} {R : Dt → Mu → Prop} {W : WM}
theorem made_err {H : Hp} {a d : Addr} {C : Addr} {fs gs : List (Str × V)} (ha : H a = none) (hd : H d = none) (n : d ≠ a) : upd (del (upd (upd (upd (upd H a (exo a C none)) d (exd d gs)) a (exo a C (some d))) d (exd d fs)) a) d (.xd fs) = upd H d (.xd fs) := by
  funext b
  by_cases h1 : b = d
  · rw [h1, upd_same, upd_same]
  · rw [upd_ne h1, upd_ne h1]
    by_cases h2 : b = a
    · rw [h2, del_same, ha]
    · rw [del_ne h2, upd_ne h1, upd_ne h2, upd_ne h1, upd_ne h2]
theorem made_err1 {H : Hp} {a d : Addr} {C : Addr} {fs : List (Str × V)} (ha : H a = none) (hd : H d = none) (n : d ≠ a) : upd (del (upd (upd (upd H a (exo a C none)) d (exd d fs)) a (exo a C (some d))) a) d (.xd fs) = upd H d (.xd fs) := by
  funext b
  by_cases h1 : b = d
  · rw [h1, upd_same, upd_same]
  · rw [upd_ne h1, upd_ne h1]
    by_cases h2 : b = a
    · rw [h2, del_same, ha]
    · rw [del_ne h2, upd_ne h2, upd_ne h1, upd_ne h2]
/-- raise C(e1, e2): two numbers -/
theorem hm_err2 {X : Addr} {f1 f2 : Str} (h : EaM T E tas δ μ (fun ds m => ∃ i j : Int, ds = [dI i, dI j] ∧ numF i ∧ numF j ∧ W X [(f2, .int j), (f1, .int i)] m) W) : HsM T E (fun _ σ H => tMkO X (spErr2 X f1 f2) [] tas σ H fun cls d H' => E cls d H') δ μ M R B C W := fun σ s D m S _ _ _ _ hw =>
  h σ s _ m S (fun vs t ds l dl ⟨i, j, e, n1, n2, w⟩ => by
    subst e
    obtain ⟨v1, r, rfl, dv, dr⟩ := dl.consI
    obtain ⟨v2, r', rfl, dw, dr'⟩ := dr.consI
    obtain rfl := dr'.nilI
    obtain rfl := dv.rawI
    obtain rfl := dw.rawI
    refine ⟨by show 2 ≤ 1000; decide, fun a ha => ⟨a, i, j, rfl, n1, n2, upd_same, fun d hd nd => ⟨rfl, d, [(f2, .int j), (f1, .int i)], ?_, upd_same, ?_, ?_⟩⟩⟩
    · rw [upd_ne (fun z => nd z.symm), upd_same]
    · rw [upd_ne nd] at hd
      exact hd
    · rw [upd_ne nd] at hd
      rw [made_err ha hd nd]
      have u1 : Up t.H (t.H.nw d (.xd [(f2, .int j), (f1, .int i)]) hd) := Up.new hd
      exact (hw X _ (t.up _ u1) (l.trans (t.le_up u1)) w).2 (fun z => nomatch z) d (Hv.nw_at (hp := hd))) hw
theorem hm_err1 {X : Addr} {f1 : Str} (h : EaM T E tas δ μ (fun ds m => ∃ i : Int, ds = [dI i] ∧ numF i ∧ W X [(f1, .int i)] m) W) : HsM T E (fun _ σ H => tMkO X (spErr1 X f1) [] tas σ H fun cls d H' => E cls d H') δ μ M R B C W := fun σ s D m S _ _ _ _ hw =>
  h σ s _ m S (fun vs t ds l dl ⟨i, e, n1, w⟩ => by
    subst e
    obtain ⟨v1, r, rfl, dv, dr⟩ := dl.consI
    obtain rfl := dr.nilI
    obtain rfl := dv.rawI
    refine ⟨by show 1 ≤ 1000; decide, fun a ha => ⟨a, i, rfl, n1, upd_same, fun d hd nd => ⟨rfl, d, [(f1, .int i)], upd_same, ?_, ?_, ?_⟩⟩⟩
    · rw [upd_ne nd, upd_same]
    · rw [upd_ne nd] at hd
      exact hd
    · rw [upd_ne nd] at hd
      rw [made_err1 ha hd nd]
      have u1 : Up t.H (t.H.nw d (.xd [(f1, .int i)]) hd) := Up.new hd
      exact (hw X _ (t.up _ u1) (l.trans (t.le_up u1)) w).2 (fun z => nomatch z) d (Hv.nw_at (hp := hd))) hw
end
end Dn
/-! Own layer: dicts walked: locked meanwhile. -/
namespace Dn
open PySem PySem.Spec PyProof.Rows L2 LamX
variable {T : List (Addr × Str)}
theorem DenK.getV {H : Hv} {ks : List (Key × V)} {kvs : List (Key × Dt)} (h : DenK H ks kvs) : ∀ {i : Nat} {k : Key} {v : V}, ks[i]? = some (k, v) → ∃ d, kvs[i]? = some (k, d) ∧ Den H v d := by
  induction ks generalizing kvs with
  | nil => intro i k v e; simp at e
  | cons w ks ih =>
    cases h with
    | @cons k' v' vs d' ds h t =>
      intro i k v e
      cases i with
      | zero =>
        have e' : some (k', v') = some (k, v) := e
        cases e'
        exact ⟨d', rfl, h⟩
      | succ i => exact ih t (i := i) (by simpa using e)
/-- a dict locked, let go -/
theorem MH.lock (s : MH T) {d : Addr} {kvs : List (Key × Dt)} (h : s.μ d = some (.dct kvs)) : ∃ ks, s.H.H d = some (.dK ks) ∧ ∀ od, ∃ t : MH T, t.H.H = upd s.H.H d (.frz od (.dK ks)) ∧ t.μ = putM s.μ d (.fzd od ks kvs) ∧ Le s t := by
  obtain ⟨ks, h1, h2⟩ := MH.cell h
  exact ⟨ks, h1, fun od => s.put_ex (o' := .fzd od ks kvs) (.frz od (.dK ks)) h fun V e ug => ⟨by rw [e]; exact upd_same, h2.monoK ug⟩⟩
theorem MH.unlock (s : MH T) {d : Addr} {od : Obj} {ks : List (Key × V)} {kvs : List (Key × Dt)} (h : s.μ d = some (.fzd od ks kvs)) : s.H.H d = some (.frz od (.dK ks)) ∧ ∃ t : MH T, t.H.H = upd s.H.H d (.dK ks) ∧ t.μ = putM s.μ d (.dct kvs) ∧ Le s t := by
  obtain ⟨h1, h2⟩ := MH.cell h
  exact ⟨h1, s.put_ex (o' := .dct kvs) (.dK ks) h fun V e ug => ⟨ks, by rw [e]; exact upd_same, h2.monoK ug⟩⟩
section
variable {K : PySem.W.Frag} {E : XK} {δ : Sto} {μ : Mu} {te td tl : TE} {tt : TT} {tas : TA} {t : TS} {d : Addr} {kvs : List (Key × Dt)} {N : Dt → Mu → Prop} {M B C : Sto → Mu → Prop} {R : Dt → Mu → Prop} {W : WM}
theorem hm_lock (h : μ d = some (.dct kvs)) (body : ∀ od ks, HsM T E t δ (putM μ d (.fzd od ks kvs)) (fun δ' m => m d = some (.fzd od ks kvs) ∧ M δ' (putM m d (.dct kvs))) (fun r m => m d = some (.fzd od ks kvs) ∧ R r (putM m d (.dct kvs))) (fun δ' m => m d = some (.fzd od ks kvs) ∧ B δ' (putM m d (.dct kvs)))
    (fun δ' m => m d = some (.fzd od ks kvs) ∧ C δ' (putM m d (.dct kvs))) W) : HsM T E (tLock t) δ μ M R B C W := fun σ s D m S hn hr hb hc hw => by
  subst m
  obtain ⟨ks, h1, lk⟩ := s.lock h
  refine ⟨d, _, h1, trivial, fun od => ?_⟩
  obtain ⟨s1, e1, e2, l1⟩ := lk od
  rw [← e1]
  have fin : ∀ {P : L2.St → Hp → Prop} {L : Sto → Mu → Prop}, (∀ σ' (u : MH T) δ', Le s u → DenS u.H σ' δ' → L δ' u.μ → P σ' u.H.H) → ∀ σ' (u : MH T) δ', Le s1 u → DenS u.H σ' δ' → (u.μ d = some (.fzd od ks kvs) ∧ L δ' (putM u.μ d (.dct kvs))) → u.H.H d = some (.frz od (.dK ks)) ∧ P σ' (upd u.H.H d (.dK ks)) := fun f σ' u δ' l S' ⟨hd, n⟩ => by
    obtain ⟨g1, r, g2, g3, l3⟩ := u.unlock hd
    refine ⟨g1, ?_⟩
    rw [← g2]
    exact f σ' r δ' ((l1.trans l).trans l3) (S'.monoG l3.ug) (by rw [g3]; exact n)
  refine body od ks σ s1 _ e2 (S.monoG l1.ug) (fin hn) (fun v u r l dv ⟨hd, n⟩ => ?_) (fin hb) (fin hc) fun X fs u l w => hw X fs u (l1.trans l) w
  obtain ⟨g1, r', g2, g3, l3⟩ := u.unlock hd
  refine ⟨g1, ?_⟩
  rw [← g2]
  exact hr v r' r ((l1.trans l).trans l3) (dv.monoG l3.ug) (by rw [g3]; exact n)
/-- for x in d.values() -/
theorem hm_vals {g : TG} (h : EvM T E td δ μ (fun x m => ∃ d od ks kvs, x = .raw (.ref d) ∧ m d = some (.fzd od ks kvs) ∧ ∃ I : Nat → Sto → Mu → Prop, I 0 δ m ∧ (∀ i δ' m', I i δ' m' → m' d = some (.fzd od ks kvs)) ∧
    (∀ i δ' m' k x, I i δ' m' → kvs[i]? = some (k, x) → ∃ δ2, GdM g x δ' δ2 ∧ HsM T E t δ2 m' (I (i + 1)) R M (I (i + 1)) W) ∧ ∀ δ' m', I kvs.length δ' m' → M δ' m') W) : HsM T E (tFor (iVals td) g t) δ μ M R B C W := fun σ s D m S hn hr _ _ hw =>
  h σ s _ m S (fun v s1 x l1 dx ⟨d, od, ks, kvs, e, hd, I, h0, st, hs, he⟩ => by
    subst e
    obtain ⟨g1, g2⟩ := MH.cell hd
    refine ⟨d, od, ks, dx.rawI, g1, hm_it (walk_values (d := d) (o := od) (kvs := ks)) I (fun i x => ∃ k, kvs[i]? = some (k, x)) (fun i δ' s2 l2 i2 => (MH.cell (st i δ' _ i2)).1) (fun i x H' δ' s2 hi l2 i2 y => ?_) (fun i δ' m' x hi i2 ⟨k, y⟩ => hs i δ' m' k x i2 y) (fun δ' m' z => he δ' m' (by rw [← g2.len]; exact z)) (S.monoG l1.ug) h0 (fun σ' u δ' l => hn σ' u δ' (l1.trans l)) (fun v u d l => hr v u d (l1.trans l)) fun X fs u l => hw X fs u (l1.trans l)⟩
    obtain ⟨rfl, k, hk⟩ := y
    obtain ⟨d', hd', dx'⟩ := (MH.cell (st i δ' _ i2)).2.getV hk
    exact ⟨s2, d', rfl, .refl _, rfl, dx', k, hd'⟩) hw
/-- for k in d -/
theorem hm_keys {g : TG} (h : EvM T E td δ μ (fun x m => ∃ d od ks kvs, x = .raw (.ref d) ∧ m d = some (.fzd od ks kvs) ∧ ∃ I : Nat → Sto → Mu → Prop, I 0 δ m ∧ (∀ i δ' m', I i δ' m' → m' d = some (.fzd od ks kvs)) ∧
    (∀ i δ' m' k x, I i δ' m' → kvs[i]? = some (k, x) → ∃ δ2, GdM g (.raw (kV k)) δ' δ2 ∧ HsM T E t δ2 m' (I (i + 1)) R M (I (i + 1)) W) ∧ ∀ δ' m', I kvs.length δ' m' → M δ' m') W) : HsM T E (tFor (iKeys td) g t) δ μ M R B C W := fun σ s D m S hn hr _ _ hw =>
  h σ s _ m S (fun v s1 x l1 dx ⟨d, od, ks, kvs, e, hd, I, h0, st, hs, he⟩ => by
    subst e
    obtain ⟨g1, g2⟩ := MH.cell hd
    refine ⟨d, od, dx.rawI, .inl ⟨ks, g1, hm_it (walk_keys (d := d) (o := od) (kvs := ks)) I (fun i x => ∃ k y, kvs[i]? = some (k, y) ∧ x = .raw (kV k)) (fun i δ' s2 l2 i2 => (MH.cell (st i δ' _ i2)).1) (fun i x H' δ' s2 hi l2 i2 y => ?_) (fun i δ' m' x hi i2 ⟨k, y, e1, e2⟩ => e2 ▸ hs i δ' m' k y i2 e1) (fun δ' m' z => he δ' m' (by rw [← g2.len]; exact z)) (S.monoG l1.ug) h0 (fun σ' u δ' l => hn σ' u δ' (l1.trans l)) (fun v u d l => hr v u d (l1.trans l)) fun X fs u l => hw X fs u (l1.trans l)⟩⟩
    obtain ⟨rfl, k, v, hk, rfl⟩ := y
    obtain ⟨d', hd', dx'⟩ := (MH.cell (st i δ' _ i2)).2.getV hk
    exact ⟨s2, _, rfl, .refl _, rfl, .raw _, k, d', hd', rfl⟩) hw
/-- [e for x in d.values() if t] -/
theorem evm_lockLc {g : TG} {vs : List Nat} (h : μ d = some (.dct kvs)) (hd : ∀ od ks, EvM T E td δ (putM μ d (.fzd od ks kvs)) (fun x m => x = .raw (.ref d) ∧ m = putM μ d (.fzd od ks kvs)) noW) (f : Dt → Option Dt) (hz : kvs.length ≤ 40000) (hn : noLstL ((kvs.map (·.2)).filterMap f) = true)
    (hb : ∀ k x, (k, x) ∈ kvs → ∃ δ' b, GdS g vs x (wipeD δ vs) δ' ∧ EtS tt δ' b ∧ (b = true → ∃ e, EvS te δ' e ∧ f x = some e) ∧ (b = false → f x = none)) (n : N (.lst ((kvs.map (·.2)).filterMap f)) μ) : EvM T E (tLockE (tLc (iVals td) g tt te vs)) δ μ N W := fun σ s Q m S q qe => by
  subst m
  obtain ⟨ks, h1, lk⟩ := s.lock h
  refine ⟨d, _, h1, trivial, fun od => ?_⟩
  obtain ⟨s0, e1, e2, l0⟩ := lk od
  rw [← e1]
  refine hd od ks σ s0 _ e2 (S.monoG l0.ug) (fun v s1 x l1 dx ⟨ex, em⟩ => ?_) fun _ _ _ _ z => z.elim
  subst ex
  have hm1 : s1.μ d = some (.fzd od ks kvs) := by rw [em]; exact putM_same
  obtain ⟨g1, g2⟩ := MH.cell hm1
  refine ⟨d, od, ks, dx.rawI, g1, fun D hD => ?_⟩
  have sub : ∀ i, noLstL (((kvs.map (·.2)).take i).filterMap f) = true := fun i => by
    have e : (kvs.map (·.2)).filterMap f = ((kvs.map (·.2)).take i).filterMap f ++ ((kvs.map (·.2)).drop i).filterMap f := by rw [← List.filterMap_append, List.take_append_drop]
    rw [e] at hn
    clear e
    revert hn
    generalize ((kvs.map (·.2)).take i).filterMap f = l
    intro hn
    induction l with
    | nil => rfl
    | cons d l ih =>
      have h2 := Bool.and_eq_true_iff.mp (show (noLst d && noLstL (l ++ ((kvs.map (·.2)).drop i).filterMap f)) = true from hn)
      show (noLst d && noLstL l) = true
      rw [h2.1, ih h2.2] <;> rfl
  have S1 := S.monoG (l0.trans l1).ug
  have hdA : s1.H.A d := s1.own.off d _ hm1
  refine lc_it (walk_values (d := d) (o := od) (kvs := ks)) (fun i h' => ∃ V : Hv, V.H = h' ∧ Up s1.H V ∧ ∃ acc, V.G D = some (.lst acc) ∧ DenL V acc (((kvs.map (·.2)).take i).filterMap f) ∧ acc.length ≤ i) ⟨s1.H.nw D _ hD, rfl, Up.new hD, [], Hv.nw_at, by simpa using DenL.nil, Nat.le_refl _⟩ (fun i h' _ p => by obtain ⟨V, rfl, p, _⟩ := p; exact p.e _ _ g1) (fun i x h' H2 hi p y => ?_) fun h' p => ?_
  · obtain ⟨V, rfl, u2, acc, hacc, dacc, lacc⟩ := p
    obtain ⟨rfl, k, hk⟩ := y
    obtain ⟨x', hx', dx'⟩ := (g2.monoG u2.ug).getV hk
    obtain ⟨δ', b, hg, ht, hy, hno⟩ := hb k x' (List.mem_of_getElem? hx')
    have hv : (kvs.map (·.2))[i]? = some x' := by rw [List.getElem?_map, hx']; rfl
    have tk : (kvs.map (·.2)).take (i + 1) = (kvs.map (·.2)).take i ++ [x'] := by rw [List.take_succ, hv] <;> rfl
    have hil : i < kvs.length := (List.getElem?_eq_some_iff.mp hx').1
    refine hg x σ V _ ((S1.mono u2).wiped vs) dx' fun σ2 w2 S2 => ⟨w2, ht σ2 V _ S2 fun V3 u3 => ?_⟩
    cases b with
    | true =>
      show te σ2 V3.H _
      obtain ⟨e, he, hf⟩ := hy rfl
      have ft : ((kvs.map (·.2)).take (i + 1)).filterMap f = ((kvs.map (·.2)).take i).filterMap f ++ [e] := by rw [tk, List.filterMap_append, List.filterMap_cons_some hf, List.filterMap_nil]
      refine he σ2 V3 _ (S2.mono u3) fun y V4 u4 dy => ?_
      have h4 := u4.g _ _ (u3.g _ _ hacc)
      refine ⟨acc, Hv.sub h4, Evl.sz_lt (by omega), V4.pt D _ (Hv.sub h4), rfl, ⟨Evl.Ex.mut ((u2.trans u3).trans u4).e hD, ((u2.trans u3).trans u4).a⟩, acc ++ [y], Hv.pt_at (Hv.off h4), ?_, by rw [List.length_append]; exact Nat.add_le_add_right lacc 1⟩
      rw [ft]
      refine DenL.updL (acc := acc) h4 ((dacc.mono (u3.trans u4)).app (.cons dy .nil)) ?_
      rw [← ft]
      exact sub (i + 1)
    | false =>
      have ft : ((kvs.map (·.2)).take (i + 1)).filterMap f = ((kvs.map (·.2)).take i).filterMap f := by rw [tk, List.filterMap_append, List.filterMap_cons_none (hno rfl), List.filterMap_nil, List.append_nil]
      refine ⟨V3, rfl, u2.trans u3, acc, u3.g _ _ hacc, ?_, Nat.le_succ_of_le lacc⟩
      rw [ft]
      exact dacc.mono u3
  · obtain ⟨V, rfl, u2, acc, hacc, dacc, _⟩ := p
    have e : (kvs.map (·.2)).take ks.length = kvs.map (·.2) := by rw [g2.len, ← List.length_map (f := fun x : Key × Dt => x.2), List.take_length]
    rw [e] at dacc
    obtain ⟨g3, r, e3, e4, l3⟩ := (s1.up V u2).unlock (show (s1.up V u2).μ d = _ from hm1)
    refine ⟨g3, ?_⟩
    show Q (.ref D) (upd (s1.up V u2).H.H d _)
    rw [← e3]
    have l2 := s1.le_up u2
    refine q (.ref D) r _ (((l0.trans l1).trans l2).trans l3) ((Den.lst (H := V) hacc dacc).monoG l3.ug) ?_
    have e5 : r.μ = s.μ := by
      rw [e4]
      show putM s1.μ d _ = s.μ
      rw [em, putM_put, putM_self h]
    rw [e5]
    exact n
/-- an error with two numbers out of a walk over a dict -/
theorem hm_err2L {X : Addr} {f1 f2 : Str} {H0 : Hp} (h : EaM T E tas δ μ (fun ds m => ∃ i j : Int, ds = [dI i, dI j] ∧ numF i ∧ numF j ∧ ∃ dd od ks kvs, m dd = some (.fzd od ks kvs) ∧ (∀ o' u', H0 dd ≠ some (.frz o' u')) ∧ W X [(f2, .int j), (f1, .int i)] (putM m dd (.dct kvs))) W) :
    HsM T E (fun _ σ H => tMkO X (spErr2 X f1 f2) [] tas σ H fun cls d H' => ∃ (dd : Addr) (od : Obj) (v : HO), H' dd = some (.frz od v) ∧ (∀ o' u', H0 dd ≠ some (.frz o' u')) ∧ E cls d (upd H' dd v)) δ μ M R B C W := fun σ s D m S _ _ _ _ hw =>
  h σ s _ m S (fun vs t ds l dl ⟨i, j, e, n1, n2, dd, od, ks, kvs, hm, hf, w⟩ => by
    subst e
    obtain ⟨v1, r, rfl, dv, dr⟩ := dl.consI
    obtain ⟨v2, r', rfl, dw, dr'⟩ := dr.consI
    obtain rfl := dr'.nilI
    obtain rfl := dv.rawI
    obtain rfl := dw.rawI
    refine ⟨by show 2 ≤ 1000; decide, fun a ha => ⟨a, i, j, rfl, n1, n2, upd_same, fun d hd nd => ⟨rfl, d, [(f2, .int j), (f1, .int i)], ?_, upd_same, ?_, ?_⟩⟩⟩
    · rw [upd_ne (fun z => nd z.symm), upd_same]
    · rw [upd_ne nd] at hd
      exact hd
    · rw [upd_ne nd] at hd
      rw [made_err ha hd nd]
      have u1 : Up t.H (t.H.nw d (.xd [(f2, .int j), (f1, .int i)]) hd) := Up.new hd
      obtain ⟨g1, r, e1, e2, l3⟩ := (t.up _ u1).unlock (show (t.up _ u1).μ dd = _ from hm)
      refine ⟨dd, od, _, g1, hf, ?_⟩
      show E _ _ (upd (t.up _ u1).H.H dd _)
      rw [← e1]
      exact (hw X [(f2, .int j), (f1, .int i)] r ((l.trans (t.le_up u1)).trans l3) (by rw [e2]; exact w)).2 (fun z => nomatch z) d (l3.g (Hv.nw_at (hp := hd)) fun _ z => by cases z)) hw
end
section
variable {α : Type} {P : Program} {w : World} {K : PySem.W.Frag} {mg : Str → Option Value} {base : Heap}
/-- as Fun.okM, the state at the entry told -/
theorem Fun.okMX {x qual : Str} {st : Stmt} {f : Addr} {fd : FuncData} {N ps : List Str} {k n : Nat} {Pr : α → List Dt → Mu → Prop} {F : α → List Dt → Mu → Dt → Mu → Prop} {G : α → List Dt → Mu → WM} (U : L2.Fun K x qual st f fd) (S : FnScope N ps (defScope st)) (hn : n = ps.length)
    (hbody : ∀ (cdv : Value) (A : Around) (outer : List Env) (s : Shared) (H : Hp) (Q : VK) (E : XK), Room k (A.deeper (envOfC qual (defScope st) s.heap.objs.size f cdv)) →
      ∃ t, PSs (cxOf (L2.CX P w) P w K mg base N qual (defScope st) f cdv A outer s H E) (defBody st) t ∧ ∀ (T : List (Addr × Str)) x ds (s0 : MH T), s0.H.H = H → ds.length = n → Pr x ds s0.μ → HsM T E t (startD N ds) s0.μ (fun _ m => F x ds s0.μ dN m) (fun d m => F x ds s0.μ d m) noM noM (G x ds s0.μ)) : FnOk P w K mg base (L2.CX P w) (k + 1) f fd ps (spG n Pr F G) := by
  refine L2.Fun.okX U S (fun vs H Q E h => ?_) (fun cdv A outer s H vs Q E hr h => ?_)
  · obtain ⟨_, _, _, ds, _, hd, hl, _⟩ := h
    rw [hd.len, hl, hn]
  · obtain ⟨x, T, s0, ds, rfl, hd, hl, hp, q, qe⟩ := h
    obtain ⟨t, ht, hh⟩ := hbody cdv A outer s s0.H.H Q E hr
    exact ⟨t, ht, hh T x ds s0 rfl hl hp (L2.start N vs) s0 _ rfl (DenS.start hd) (fun σ' u δ' l _ z => q .non u dN l (.raw _) z) (fun v u d l dv z => q v u d l dv z) (fun _ _ _ _ _ z => z.elim) (fun _ _ _ _ _ z => z.elim) fun C fs u l z => qe C fs u l z⟩
end
end Dn
/-! Own layer: what a kept error holds; its words. -/
namespace Dn
open PySem PySem.Spec PyProof.Rows L2 LamX
/-- e.f, e a kept error -/
def tXv (K : PySem.W.Frag) (f : Str) (te : TE) : TE := fun σ H Q => te σ H fun x H1 => ∃ (a D dd : Addr) (fs : List (Str × V)) (v : V), x = .ref a ∧ H1 a = some (ExV (.ref D) (some dd) a) ∧ XfC K D ∧ PySem.W.findIn K (.ref D) f = some none ∧ H1 dd = some (.xd fs) ∧ fs.lookup f = some v ∧ Q v H1
theorem pe_xfv {X : Cx} {e : Expr} {te : TE} {pos : Pos} {n : Str} (he : PE X e te) (hb : attributeBase e n X.env (eval e X.env) = eval e X.env := by rfl) : PE X (.Attribute e n pos) (tXv X.K n te) := by
  refine ⟨fun pins s σ H Q I h => attr_of hb (thn (he.run pins s σ H _ I h) fun u s1 hh => ?_)⟩
  obtain ⟨x, H1, I1, rx, a, D, dd, fs, v, ex, ea, T, hno, ed, l, q⟩ := hh
  subst ex; obtain rfl : u = Value.ref a := rx
  obtain ⟨⟨oe, vs, hget, hz, hv⟩, _, _⟩ := I1.hok a _ ea
  have hx : ObjOk X.prog X.w H1 s1.heap dd (.xd fs) := I1.hok dd _ ed
  obtain ⟨mA, hns, hr⟩ := hx; obtain ⟨od, ho, hl⟩ := lookIn_ns hns
  obtain ⟨u, hu, ru⟩ := RelO.some_of (v := v) (o := mA n) (by have := hr n; rw [l] at this; exact this)
  have J : PySem.W.InstAt s1.heap a oe D (some od) := ⟨hget, hz.1, (by unfold PySem.W.notCls; rw [hv] <;> rfl), (by rw [hz.2]; exact ho)⟩
  exact HandSPX.exc_get I1.kIn J T.ga T.gg T.exC (PySem.W.findObj_own T.hdC hno rfl (by rw [hl, hu])) (handed_of ru) ⟨v, H1, I1.tok _, ru, q⟩
theorem ev_xv {K : PySem.W.Frag} {δ : Sto} {te : TE} {D : Addr} {f : Str} {fs : List (Str × V)} {v : V} (h : EvS te δ (.exc D fs)) (C : ExcC K D) (hno : PySem.W.findIn K (.ref D) f = some none) (hl : fs.lookup f = some v) : EvS (tXv K f te) δ (.raw v) := fun σ H Q S q => h σ H _ S fun x H1 u1 d1 => by
  cases d1 with
  | exc0 _ => cases hl
  | excD h1 h2 _ => exact ⟨_, D, _, fs, v, rfl, Hv.sub h1, ⟨C.hg, C.hk, C.hs, C.hd⟩, hno, Hv.sub h2, hl, q _ H1 u1 (.raw _)⟩
/-- isinstance of a kept error -/
theorem ca_isW {K : PySem.W.Frag} {D C : Addr} {fs : List (Str × V)} {b : Bool} (E : ExcC K D) (h : PySem.W.kitOne K (.ref D) (.ref C) = some b) : CaD (rIsU K) [.exc D fs, .raw (.ref C)] (dB b) := fun vs H Q h1 q => by
  obtain ⟨v, r, rfl, hd, hr⟩ := h1.consI
  obtain ⟨v2, r2, rfl, hd2, hr2⟩ := hr.consI
  obtain rfl := hr2.nilI
  obtain rfl := hd2.rawI
  cases hd with
  | exc0 h0 => exact .inr ⟨_, D, none, _, _, b, rfl, Hv.sub h0, (fun _ z => nomatch z), .own C, E, h, q _ H exR (.raw _)⟩
  | excD h0 h2 _ => exact .inr ⟨_, D, _, _, _, b, rfl, Hv.sub h0, (fun dd z => by cases z; exact ⟨fs, Hv.sub h2⟩), .own C, E, h, q _ H exR (.raw _)⟩
theorem ca_isWT {K : PySem.W.Frag} {D : Addr} {T : String} {fs : List (Str × V)} {b : Bool} (E : ExcC K D) (h : PySem.W.kitOne K (.ref D) (.type T) = some b) : CaD (rIsU K) [.exc D fs, .raw (.ty T)] (dB b) := fun vs H Q h1 q => by
  obtain ⟨v, r, rfl, hd, hr⟩ := h1.consI
  obtain ⟨v2, r2, rfl, hd2, hr2⟩ := hr.consI
  obtain rfl := hr2.nilI
  obtain rfl := hd2.rawI
  cases hd with
  | exc0 h0 => exact .inr ⟨_, D, none, _, _, b, rfl, Hv.sub h0, (fun _ z => nomatch z), .ty T, E, h, q _ H exR (.raw _)⟩
  | excD h0 h2 _ => exact .inr ⟨_, D, _, _, _, b, rfl, Hv.sub h0, (fun dd z => by cases z; exact ⟨fs, Hv.sub h2⟩), .ty T, E, h, q _ H exR (.raw _)⟩
/-! ### the words of a kept error -/
structure WordAt (K : PySem.W.Frag) (A : Ads) (D : Addr) : Prop where
  ec : ExcC K D
  q1 : PySem.W.kitOne K (.ref D) (.ref A.CB) = some (under K D A.CB)
  q2 : PySem.W.kitOne K (.ref D) (.ref A.CT) = some (under K D A.CT)
  q3 : PySem.W.kitOne K (.ref D) (.ref A.CN) = some (under K D A.CN)
  q4 : PySem.W.kitOne K (.ref D) (.ref A.CM) = some (under K D A.CM)
  q5 : PySem.W.kitOne K (.ref D) (.ref A.CW) = some (under K D A.CW)
  q6 : PySem.W.kitOne K (.ref D) (.ref A.CV) = some (under K D A.CV)
  q7 : PySem.W.kitOne K (.ref D) (.ref A.CX) = some (under K D A.CX)
  q8 : PySem.W.kitOne K (.ref D) (.type "ValueError") = some true
def undersOf (K : PySem.W.Frag) (A : Ads) (D : Addr) : List Bool := [under K D A.CB, under K D A.CT, under K D A.CN, under K D A.CM, under K D A.CW, under K D A.CV, under K D A.CX]
theorem wordAt_mk {K : PySem.W.Frag} {A : Ads} {D : Addr} {b1 b2 b3 b4 b5 b6 b7 : Bool} (ec : ExcC K D) (q1 : PySem.W.kitOne K (.ref D) (.ref A.CB) = some b1) (q2 : PySem.W.kitOne K (.ref D) (.ref A.CT) = some b2) (q3 : PySem.W.kitOne K (.ref D) (.ref A.CN) = some b3) (q4 : PySem.W.kitOne K (.ref D) (.ref A.CM) = some b4) (q5 : PySem.W.kitOne K (.ref D) (.ref A.CW) = some b5)
    (q6 : PySem.W.kitOne K (.ref D) (.ref A.CV) = some b6) (q7 : PySem.W.kitOne K (.ref D) (.ref A.CX) = some b7) (q8 : PySem.W.kitOne K (.ref D) (.type "ValueError") = some true) : WordAt K A D ∧ undersOf K A D = [b1, b2, b3, b4, b5, b6, b7] := by
  refine ⟨⟨ec, kit_under q1, kit_under q2, kit_under q3, kit_under q4, kit_under q5, kit_under q6, kit_under q7, q8⟩, ?_⟩
  unfold undersOf
  rw [under_of q1, under_of q2, under_of q3, under_of q4, under_of q5, under_of q6, under_of q7]
abbrev nevF (i j : Int) : List (Str × V) := [("other", .int j), ("one", .int i)]
abbrev rowF (r : Int) : List (Str × V) := [("row", .int r)]
def fldV (fs : List (Str × V)) (f : Str) : Dt := match fs.lookup f with | some v => .raw v | none => dN
def plainW (b1 b2 b3 b4 b5 : Bool) : List Dt := (if b1 = true then [dS "clock"] else []) ++ ((if b2 = true then [dS "turn"] else []) ++ ((if b3 = true then [dS "none"] else []) ++ ((if b4 = true then [dS "many"] else []) ++ (if b5 = true then [dS "wall"] else []))))
def wordU (us : List Bool) (fs : List (Str × V)) : List Dt := match us with
  | [b1, b2, b3, b4, b5, b6, b7] => (plainW b1 b2 b3 b4 b5 ++ (if b6 = true then [dS "never", fldV fs "one", fldV fs "other"] else [])) ++ (if b7 = true then [dS "text", fldV fs "row"] else [])
  | _ => []
def wordF2 (K : PySem.W.Frag) (A : Ads) (ds : List Dt) : Dt := match ds with
  | [.exc D fs] => .lst (wordU (undersOf K A D) fs)
  | _ => .lst [dS "done"]
def pWord2 (K : PySem.W.Frag) (A : Ads) (ds : List Dt) : Prop := ds = [dN] ∨ ∃ D fs, ds = [.exc D fs] ∧ WordAt K A D ∧ (under K D A.CV = true → D = A.CV ∧ ∃ i j : Int, fs = nevF i j) ∧ (under K D A.CX = true → D = A.CX ∧ ∃ r : Int, fs = rowF r)
abbrev spWord2 (K : PySem.W.Frag) (A : Ads) : Sp := spD 1 (pWord2 K A) (wordF2 K A)
theorem plainW_noLst (b1 b2 b3 b4 b5 : Bool) : noLstL (plainW b1 b2 b3 b4 b5) = true := by cases b1 <;> cases b2 <;> cases b3 <;> cases b4 <;> cases b5 <;> rfl
theorem plainW_len (b1 b2 b3 b4 b5 : Bool) : (plainW b1 b2 b3 b4 b5).length ≤ 5 := by cases b1 <;> cases b2 <;> cases b3 <;> cases b4 <;> cases b5 <;> decide
theorem plainW_is {K : PySem.W.Frag} {A : Ads} {D : Addr} : [wordP K D "clock" A.CB, wordP K D "turn" A.CT, wordP K D "none" A.CN, wordP K D "many" A.CM, wordP K D "wall" A.CW].filterMap wordF = plainW (under K D A.CB) (under K D A.CT) (under K D A.CN) (under K D A.CM) (under K D A.CW) := by
  unfold wordP
  cases under K D A.CB <;> cases under K D A.CT <;> cases under K D A.CN <;> cases under K D A.CM <;> cases under K D A.CW <;> rfl
theorem numF_log {i : Int} (h : numF i) : i.natAbs.log2 < 1920 := by
  by_cases z : i.natAbs = 0
  · rw [z]
    decide
  · refine (Nat.log2_lt z).mpr ?_
    have h1 : i.natAbs < 10 ^ 10 := by have := h.1; have := h.2; omega
    exact Nat.lt_trans h1 (Nat.lt_of_lt_of_le (show 10 ^ 10 < 2 ^ 40 by decide) (Nat.pow_le_pow_right (by decide) (by decide)))
theorem len_app (a b : Str) : (a ++ b).length = a.length + b.length := by
  show (a.cps ++ b.cps).size = _
  rw [Array.size_append]
  rfl
theorem fits_of {a : Str} {n : Nat} (h : a.length ≤ n) (hn : n ≤ 100000 := by decide) : a.length ≤ sizeLine := Evl.sz_of (Nat.le_trans h hn)
theorem str_fits {a b : Str} (h : b.length ≤ 10) (ha : a.length ≤ 1000) : (a ++ b).length ≤ sizeLine := fits_of (n := 1010) (by rw [len_app]; omega)
theorem str_fits3 {a b c : Str} (h : b.length ≤ 10) (ha : a.length ≤ 1000) (hc : c.length ≤ 1000) : (a ++ b ++ c).length ≤ sizeLine := fits_of (n := 2010) (by rw [len_app, len_app]; omega)
theorem str_fits4 {a b c d : Str} (h : b.length ≤ 10) (h2 : d.length ≤ 10) (ha : a.length ≤ 1000) (hc : c.length ≤ 1000) : (a ++ b ++ c ++ d).length ≤ sizeLine := fits_of (n := 2020) (by rw [len_app, len_app, len_app]; omega)
theorem str_fits5 {a b c d e : Str} (h : b.length ≤ 10) (h2 : d.length ≤ 10) (ha : a.length ≤ 1000) (hc : c.length ≤ 1000) (he : e.length ≤ 1000) : (a ++ b ++ c ++ d ++ e).length ≤ sizeLine := fits_of (n := 3020) (by rw [len_app, len_app, len_app, len_app]; omega)
theorem nev_one {i j : Int} : (nevF i j).lookup ("one" : Str) = some (.int i) := by
  unfold nevF
  rw [List.lookup, show (("one" : Str) == "other") = false from by decide +kernel, List.lookup, beq_self_eq_true]
theorem nev_other {i j : Int} : (nevF i j).lookup ("other" : Str) = some (.int j) := by
  unfold nevF
  rw [List.lookup, beq_self_eq_true]
theorem row_row {i : Int} : (rowF i).lookup ("row" : Str) = some (.int i) := by
  unfold rowF
  rw [List.lookup, beq_self_eq_true]
theorem words_never {i j : Int} : wordU [false, false, false, false, false, true, false] (nevF i j) = [dS "never", dI i, dI j] := by
  show [dS "never", fldV (nevF i j) "one", fldV (nevF i j) "other"] ++ [] = _
  unfold fldV
  rw [nev_one, nev_other]
  rfl
theorem words_text {i : Int} : wordU [false, false, false, false, false, false, true] (rowF i) = [dS "text", dI i] := by
  show [] ++ [dS "text", fldV (rowF i) "row"] = _
  unfold fldV
  rw [row_row]
  rfl
end Dn
/-! Own layer: the first two clocks that don't agree; the fold of a wall. -/
namespace Dn
open PySem PySem.Spec PyProof.Rows L2 LamX
def clashRow (n : Int) (c : Ck) : Cks → Option (Int × Int)
  | [] => none
  | p :: r => if agr c p.2 = true then clashRow n c r else some (n, p.1)
def clashC : Cks → Option (Int × Int)
  | [] => none
  | p :: r => match clashRow p.1 p.2 r with | some q => some q | none => clashC r
def cpairD (o : Option (Int × Int)) : Dt := match o with | some p => .tup [dI p.1, dI p.2] | none => dN
theorem clashRow_none {n : Int} {c : Ck} : ∀ {r : Cks}, clashRow n c r = none → ∀ p ∈ r, agr c p.2 = true
  | [], _, p, hp => by cases hp
  | q :: r, h, p, hp => by
    unfold clashRow at h
    split at h
    · rename_i e
      rcases List.mem_cons.mp hp with rfl | hp
      · exact e
      · exact clashRow_none h p hp
    · cases h
theorem clashRow_some {n : Int} {c : Ck} : ∀ {r : Cks} {q : Int × Int}, clashRow n c r = some q → q.1 = n ∧ ∃ d, (q.2, d) ∈ r ∧ agr c d = false
  | [], _, h => by cases h
  | p :: r, q, h => by
    unfold clashRow at h
    split at h
    · obtain ⟨h1, d, h2, h3⟩ := clashRow_some h
      exact ⟨h1, d, List.mem_cons_of_mem _ h2, h3⟩
    · rename_i e
      cases h
      exact ⟨rfl, p.2, List.mem_cons_self, by simpa using e⟩
theorem clashC_none : ∀ {cs : Cks}, clashC cs = none → (cs.map (·.2)).Pairwise fun c d => agr c d = true
  | [], _ => .nil
  | p :: r, h => by
    unfold clashC at h
    split at h
    · cases h
    · rename_i e
      refine List.Pairwise.cons (fun d hd => ?_) (clashC_none h)
      obtain ⟨q, hq, rfl⟩ := List.mem_map.mp hd
      exact clashRow_none e q hq
theorem clashC_some : ∀ {cs : Cks} {q : Int × Int}, clashC cs = some q → ∃ c d, (q.1, c) ∈ cs ∧ (q.2, d) ∈ cs ∧ agr c d = false
  | [], _, h => by cases h
  | p :: r, q, h => by
    unfold clashC at h
    split at h
    · rename_i q' e
      cases h
      obtain ⟨h1, d, h2, h3⟩ := clashRow_some e
      exact ⟨p.2, d, by rw [h1]; exact List.mem_cons_self, List.mem_cons_of_mem _ h2, h3⟩
    · obtain ⟨c, d, h1, h2, h3⟩ := clashC_some h
      exact ⟨c, d, List.mem_cons_of_mem _ h1, List.mem_cons_of_mem _ h2, h3⟩
theorem agr_comm {c d : Ck} : agr c d = agr d c := by
  have e : (Int.gcd c.1 d.1 : Int) = Int.gcd d.1 c.1 := by rw [Int.gcd_comm]
  have : agr c d = true ↔ agr d c = true := by
    rw [agr_iff, agr_iff, e]
    constructor <;> intro h
    · have := Int.dvd_neg.mpr h
      rwa [Int.neg_sub] at this
    · have := Int.dvd_neg.mpr h
      rwa [Int.neg_sub] at this
  cases h1 : agr c d <;> cases h2 : agr d c <;> simp_all
theorem agr_one {c : Ck} : agr (1, 0) c = true := by
  refine agr_iff.mpr ?_
  rw [show (Int.gcd (1, (0 : Int)).1 c.1 : Int) = 1 from by simp]
  exact Int.one_dvd _
theorem okCk_one : okCk (1, 0) := ⟨by decide, by decide, by decide⟩
/-- by the rests -/
theorem agr_rests {c d : Ck} : decide (c.2 % (Int.gcd c.1 d.1 : Int) = d.2 % (Int.gcd c.1 d.1 : Int)) = agr c d := by
  unfold agr
  refine decide_eq_decide.mpr ?_
  rw [eq_comm]
  exact Int.emod_eq_emod_iff_emod_sub_eq_zero
theorem agr_back {c d : Ck} : decide ((c.2 - d.2) % (Int.gcd c.1 d.1 : Int) = 0) = agr c d := by
  have e : decide ((c.2 - d.2) % (Int.gcd c.1 d.1 : Int) = 0) = agr d c := by
    unfold agr
    rw [Int.gcd_comm]
  rw [e, agr_comm]
theorem agrD_ck {c d : Ck} : agrD (ckD c) (ckD d) = dB (agr c d) := by
  rw [← agr_rests]
  rfl
theorem joinF_ck {F c : Ck} : joinF [ckD F, ckD c] = match fold1 F c with | some G => ckD G | none => dN := by
  show joinD F.1 F.2 c.1 c.2 = _
  unfold joinD fold1 agr
  by_cases h : (c.2 - F.2) % (Int.gcd F.1 c.1 : Int) = 0
  · rw [if_pos h, if_pos (decide_eq_true h)]
    rfl
  · rw [if_neg h, if_neg (by simpa using h)]
theorem foldAll_snoc : ∀ (l : List Ck) (F c : Ck), foldAll F (l ++ [c]) = (foldAll F l).bind fun G => fold1 G c
  | [], F, c => by
    show (fold1 F c).bind (fun G => some G) = fold1 F c
    cases fold1 F c <;> rfl
  | d :: l, F, c => by
    show (fold1 F d).bind (fun G => foldAll G (l ++ [c])) = ((fold1 F d).bind fun G => foldAll G l).bind fun G => fold1 G c
    cases fold1 F d with
    | none => rfl
    | some G => exact foldAll_snoc l G c
theorem foldAll_app : ∀ (l m : List Ck) (F : Ck), foldAll F (l ++ m) = (foldAll F l).bind fun G => foldAll G m
  | [], m, F => rfl
  | d :: l, m, F => by
    show (fold1 F d).bind (fun G => foldAll G (l ++ m)) = ((fold1 F d).bind fun G => foldAll G l).bind fun G => foldAll G m
    cases fold1 F d with
    | none => rfl
    | some G => exact foldAll_app l m G
theorem foldR_le {W h : Int} (hW : 1 ≤ W) (hh : 1 ≤ h) : foldR W h ≤ W * h := by
  unfold foldR
  have g1 := gcd_pos (h := h) hW
  exact Int.mul_le_mul_of_nonneg_left (Int.ediv_le_self _ (by omega)) (by omega)
theorem foldAll_bound : ∀ {l : List Ck} {F G : Ck}, okCk F → (∀ c ∈ l, okCk c ∧ c.1 ≤ 1000000000000000000000000000000) → foldAll F l = some G → G.1.toNat ≤ F.1.toNat * (2 ^ 100) ^ l.length
  | [], F, G, _, _, h => by
    cases h
    simp
  | c :: l, F, G, hF, hl, h => by
    obtain ⟨M, h1, h2⟩ := Option.bind_eq_some_iff.mp (show (fold1 F c).bind (fun G => foldAll G l) = some G from h)
    have hc := hl c List.mem_cons_self
    obtain ⟨m1, m2, m3⟩ := fold1_some hF hc.1 h1
    have b := foldAll_bound m1 (fun d hd => hl d (List.mem_cons_of_mem _ hd)) h2
    have e : M.1 = foldR F.1 c.1 := by
      unfold fold1 at h1
      split at h1
      · cases h1
        rfl
      · cases h1
    have b2 := foldR_le hF.1 hc.1.1
    have h0 := hF.1
    have h3 := hc.1.1
    have b3 : M.1.toNat ≤ F.1.toNat * c.1.toNat := by
      rw [← Int.toNat_mul (by omega) (by omega)]
      exact Int.toNat_le_toNat (by omega)
    have b4 : c.1.toNat ≤ 2 ^ 100 := Nat.le_trans (show c.1.toNat ≤ 1000000000000000000000000000000 by have := hc.2; omega) (by decide)
    have b5 : M.1.toNat ≤ F.1.toNat * 2 ^ 100 := Nat.le_trans b3 (Nat.mul_le_mul_left _ b4)
    rw [List.length_cons, Nat.pow_succ, Nat.mul_comm ((2 ^ 100) ^ l.length), ← Nat.mul_assoc]
    exact Nat.le_trans b (Nat.mul_le_mul_right _ b5)
theorem foldAll_small {l : List Ck} {G : Ck} (hl : ∀ c ∈ l, okCk c ∧ c.1 ≤ 1000000000000000000000000000000) (hz : l.length ≤ 60) (h : foldAll (1, 0) l = some G) : G.1.natAbs < 2 ^ 8000 := by
  have b := foldAll_bound okCk_one hl h
  have g1 := (foldAll_some okCk_one (fun c hc => (hl c hc).1) h).1.1
  have e : G.1.natAbs = G.1.toNat := by omega
  rw [e]
  refine Nat.lt_of_le_of_lt b ?_
  rw [show ((1 : Int), (0 : Int)).1.toNat = 1 from rfl, Nat.one_mul, ← Nat.pow_mul]
  exact Nat.pow_lt_pow_right (by decide) (by omega)
/-- all agree, or there is no fold -/
theorem fold_of_clash {cs : Cks} (hcs : ∀ p ∈ cs, okCk p.2) (h : clashC cs = none) : ∃ G, foldAll (1, 0) (cs.map (·.2)) = some G :=
  foldAll_agree okCk_one (fun c hc => by obtain ⟨p, hp, rfl⟩ := List.mem_map.mp hc; exact hcs p hp) (fun _ _ => agr_one) (clashC_none h)
theorem no_fold_of_clash {cs : Cks} (hcs : ∀ p ∈ cs, okCk p.2) {q : Int × Int} (h : clashC cs = some q) : foldAll (1, 0) (cs.map (·.2)) = none := by
  cases hf : foldAll (1, 0) (cs.map (·.2)) with
  | none => rfl
  | some G =>
    obtain ⟨c, d, h1, h2, h3⟩ := clashC_some h
    obtain ⟨g1, g2, g3⟩ := foldAll_some okCk_one (fun c hc => by obtain ⟨p, hp, rfl⟩ := List.mem_map.mp hc; exact hcs p hp) hf
    have m := ((g3 G.2).mp (Int.emod_eq_of_lt g1.2.1 g1.2.2)).2
    have := agr_of (hcs _ h1) (hcs _ h2) (m c (List.mem_map.mpr ⟨_, h1, rfl⟩)) (m d (List.mem_map.mpr ⟨_, h2, rfl⟩))
    rw [this] at h3
    cases h3
theorem clash_iff {cs : Cks} (hcs : ∀ p ∈ cs, okCk p.2) : (clashC cs = none ∧ ∃ G, foldAll (1, 0) (cs.map (·.2)) = some G) ∨ ∃ q, clashC cs = some q ∧ foldAll (1, 0) (cs.map (·.2)) = none := by
  cases h : clashC cs with
  | none => exact .inl ⟨rfl, fold_of_clash hcs h⟩
  | some q => exact .inr ⟨q, rfl, no_fold_of_clash hcs h⟩
abbrev spClash (A : Ads) : Sp := spG (α := Wg) 1 (fun x ds m => ds = [.raw (.ref x.a)] ∧ IsR A.WL m x.a x.h x.g x.cs ∧ Good x.g x.cs) (fun x _ m d m' => d = cpairD (clashC x.cs) ∧ m' = m) noG
abbrev spFold (A : Ads) : Sp := spG (α := Wg) 1 (fun x ds m => ds = [.raw (.ref x.a)] ∧ IsW A.WL m x.a x.h x.g x.cs ∧ Good x.g x.cs ∧ x.g < 10 ^ 10) (fun x _ m d m' => ∃ G, foldAll (1, 0) (x.cs.map (·.2)) = some G ∧ d = ckD G ∧ m' = m)
  (fun x _ m C fs m' => ∃ i j, clashC x.cs = some (i, j) ∧ C = A.CV ∧ fs = nevF i j ∧ m' = m)
theorem delM_put {m : Mu} {p : Addr} {o : MO} (h : m p = none) : delM (putM m p o) p = m := by
  funext b
  unfold delM putM
  by_cases e : b = p
  · rw [if_pos e, e, h]
  · rw [if_neg e, if_neg e]
theorem cutD_drop {ds : List Dt} {k : Nat} : cutD ds (some (k : Int)) none = ds.drop k := by
  unfold cutD
  rw [HT.sIx_nat, HT.sIx_none]
  by_cases h : k ≤ ds.length
  · rw [Nat.min_eq_left h]
    exact List.take_of_length_le (by rw [List.length_drop]; omega)
  · rw [Nat.min_eq_right (by omega), List.drop_length, List.drop_eq_nil_of_le (by omega), List.take_nil]
theorem itsD_map (cs : Cks) : itsD cs = cs.map fun p => .tup [dI p.1, ckD p.2] := items_dct
/-- a, (b, c) = t -/
theorem gdm_nest {K : PySem.W.Frag} {δ : Sto} {i j k : Nat} {x y z : Dt} : GdM (gTup K 2 (gCons (gName i) (gCons (gTup K 2 (gCons (gName j) (gCons (gName k) gNil))) gNil))) (.tup [x, .tup [y, z]]) δ (((δ.set i (some x)).set j (some y)).set k (some z)) := fun v σ H q S h1 h => by
  obtain ⟨a, xs, rfl, ha, hl⟩ := h1.tupI
  obtain ⟨v1, r, rfl, dv, dr⟩ := hl.consI
  obtain ⟨v2, r', rfl, dw, dr'⟩ := dr.consI
  obtain rfl := dr'.nilI
  obtain ⟨b, ys, rfl, hb, hm⟩ := dw.tupI
  obtain ⟨v3, r3, rfl, d3, dr3⟩ := hm.consI
  obtain ⟨v4, r4, rfl, d4, dr4⟩ := dr3.consI
  obtain rfl := dr4.nilI
  exact ⟨a, _, rfl, SqT.of ha, rfl, v1, _, rfl, _, _, rfl, b, _, rfl, SqT.of hb, rfl, v3, _, rfl, v4, _, rfl, rfl, rfl, h _ (((S.set dv).set d3).set d4)⟩
end Dn
/-! Own layer: what laws of folds need; defs that make lambdas. -/
namespace Dn
open PySem PySem.Spec PyProof.Rows L2 LamX
section
variable {T : List (Addr × Str)} {E : XK} {δ : Sto} {μ : Mu} {td ty : TE} {N : Dt → Mu → Prop} {W : WM}
theorem evm_dgetR (h : EvM T E td δ μ (fun x m => EvM T E ty δ m (fun y m2 => ∃ a kvs key d, x = .raw (.ref a) ∧ DctAt m2 a kvs ∧ y = .raw (kV key) ∧ valD kvs key = some d ∧ N d m2) W) W) : EvM T E (tDGet td ty) δ μ N W := fun σ s Q m S q qe =>
  h σ s _ m S (fun v t x l dv k => k σ t _ rfl (S.monoG l.ug) (fun w u y l2 dy ⟨a, kvs, key, d, e, ha, e2, lk, nn⟩ => by
    subst e
    subst e2
    obtain ⟨ks, h1, h2⟩ := ha.rd
    rcases h2.get key with ⟨_, z⟩ | ⟨y', d', p1, p2, p3⟩
    · rw [lk] at z
      cases z
    · rw [lk] at p2
      cases p2
      rw [dy.rawI]
      refine ⟨a, y', dv.rawI, .inl ⟨ks, key, h1, rfl, p1.symm⟩, q y' u d (l.trans l2) p3 nn⟩) fun C fs u l2 w => qe C fs u (l.trans l2) w) qe
end
theorem evm_cb {T : List (Addr × Str)} {E : XK} {δ : Sto} {μ : Mu} {tas : TA} {N : Dt → Mu → Prop} {W : WM} {r : List V → Hp → VK → Prop} (h : EaM T E tas δ μ (fun ds m => ∃ z, CaD r ds z ∧ N z m) W) : EvM T E (tCB r tas) δ μ N W := fun σ s Q m S q qe =>
  h σ s _ m S (fun vs t ds l dl ⟨z, n1, n2⟩ => n1 vs t.H Q dl fun v' H' up dv => q v' (t.up H' up) z (l.trans (t.le_up up)) dv n2) qe
theorem hm_range1 {T : List (Addr × Str)} {E : XK} {δ : Sto} {μ : Mu} {tas : TA} {t : TS} {g : TG} {M B C : Sto → Mu → Prop} {R : Dt → Mu → Prop} {W : WM} (h : EaM T E tas δ μ (fun ds m => ∃ n : Nat, ds = [dI (n : Int)] ∧ n ≤ 1000000 ∧ ∃ I : Nat → Sto → Mu → Prop, I 0 δ m ∧ (∀ i δ' m', i < n → I i δ' m' → ∃ δ2, GdM g (dI (i : Int)) δ' δ2 ∧ HsM T E t δ2 m' (I (i + 1)) R M (I (i + 1)) W) ∧ ∀ δ' m', I n δ' m' → M δ' m') W) : HsM T E (tFor (iRng1 tas) g t) δ μ M R B C W := fun σ s D m S hn hr _ _ hw =>
  h σ s _ m S (fun vs s1 ds l1 dl ⟨n, e, hz, I, h0, hs, hd⟩ => by
    subst e
    obtain ⟨v1, r, rfl, dv, dr⟩ := dl.consI
    obtain rfl := dr.nilI
    obtain rfl := dv.rawI
    refine ⟨(n : Int), rfl, ?_, ?_, ?_⟩
    · omega
    · omega
    · rw [show ((n : Int)).toNat = n from rfl]
      exact hm_rangeI (lo := 0) (n := n) I (fun i δ' m' hi i2 => by rw [show ((0 : Int) + (i : Int)) = (i : Int) from Int.zero_add _]; exact hs i δ' m' hi i2) hd (S.monoG l1.ug) h0 (fun σ' u δ' l => hn σ' u δ' (l1.trans l)) (fun v u d l => hr v u d (l1.trans l)) fun X fs u l => hw X fs u (l1.trans l)) hw
/-! ### defs that make lambdas: their table is one of a fixed list -/
def spGT {α : Type} (T : List (Addr × Str)) (n : Nat) (P : α → List Dt → Mu → Prop) (N : α → List Dt → Mu → Dt → Mu → Prop) : Sp := fun vs h Q _ => ∃ (x : α) (s : MH T) (ds : List Dt), s.H.H = h ∧ DenL s.H vs ds ∧ ds.length = n ∧ P x ds s.μ ∧ ∀ v (t : MH T) d, Le s t → Den t.H v d → N x ds s.μ d t.μ → Q v t.H.H
section
variable {α : Type} {T : List (Addr × Str)} {E E0 : XK} {δ : Sto} {μ : Mu} {tas : TA} {N : Dt → Mu → Prop} {W : WM} {n : Nat} {P : α → List Dt → Mu → Prop} {F : α → List Dt → Mu → Dt → Mu → Prop}
theorem evm_callGT (h : EaM T E tas δ μ (fun ds m => ∃ x, ds.length = n ∧ P x ds m ∧ ∀ d m', F x ds m d m' → N d m') W) : EvM T E (tCall (spGT T n P F) [] E0 tas) δ μ N W := fun σ s Q m S q qe =>
  h σ s _ m S (fun vs t ds l dl ⟨x, hn, hp, nn⟩ => by
    show spGT T n P F (vs ++ []) t.H.H Q E0
    rw [List.append_nil]
    exact ⟨x, t, ds, rfl, dl, hn, hp, fun v u d l2 dv f => q v u d (l.trans l2) dv (nn d u.μ f)⟩) qe
end
theorem Fun.okGT {α : Type} {T : List (Addr × Str)} {P : Program} {w : World} {K : PySem.W.Frag} {mg : Str → Option Value} {base : Heap} {x qual : Str} {st : Stmt} {f c : Addr} {fd : FuncData} {N ps : List Str} {k n : Nat} {Pr : α → List Dt → Mu → Prop} {F : α → List Dt → Mu → Dt → Mu → Prop} (U : L2.Fun K x qual st f fd) (hfc : fd.code = .ref c) (S : FnScope N ps (defScope st)) (hn : n = ps.length)
    (hbody : ∀ (A : Around) (outer : List Env) (s : Shared) (H : Hp) (Q : VK) (E : XK), Room k (A.deeper (envOfC qual (defScope st) s.heap.objs.size f (.ref c))) →
      ∃ t, PSs (cxOf L2.CX0 P w K mg base N qual (defScope st) f (.ref c) A outer s H E).nox (defBody st) t ∧ ∀ x ds μ, ds.length = n → Pr x ds μ → HsM T E t (startD N ds) μ (fun _ m => F x ds μ dN m) (fun d m => F x ds μ d m) noM noM noW) : FnOk P w K mg base L2.CX0 (k + 1) f fd ps (spGT T n Pr F) := by
  refine Fun.okC U hfc S (fun vs H Q E h => ?_) (fun A outer s H vs Q E hr h => ?_)
  · obtain ⟨_, _, ds, _, hd, hl, _⟩ := h
    rw [hd.len, hl, hn]
  · obtain ⟨x, s0, ds, rfl, hd, hl, hp, q⟩ := h
    obtain ⟨t, ht, hh⟩ := hbody A outer s s0.H.H Q E hr
    exact ⟨t, ht, hh x ds s0.μ hl hp (L2.start N vs) s0 _ rfl (DenS.start hd) (fun σ' u δ' l _ z => q .non u dN l (.raw _) z) (fun v u d l dv z => q v u d l dv z) (fun _ _ _ _ _ z => z.elim) (fun _ _ _ _ _ z => z.elim) fun C fs u l z => z.elim⟩
/-! ### the least number that all hours go into -/
def roundC : Int → List Ck → Int
  | r, [] => r
  | r, c :: l => roundC (r / (Int.gcd r c.1 : Int) * c.1) l
theorem round_step {r h : Int} (hr : 1 ≤ r) (hh : 1 ≤ h) : r / (Int.gcd r h : Int) * h = foldR r h := by
  obtain ⟨a, m, ha, hm, a1, m1, e1, e2, hg⟩ := fold_parts (W := r) (h := h) hr hh
  unfold foldR
  rw [e1, e2]
  generalize (Int.gcd r h : Int) = g at *
  rw [ha, hm, ← Int.mul_assoc, Int.mul_comm a g]
theorem roundC_ok : ∀ {l : List Ck} {r : Int}, 1 ≤ r → (∀ c ∈ l, 1 ≤ c.1) → 1 ≤ roundC r l
  | [], r, h, _ => h
  | c :: l, r, h, hl => by
    have hc := hl c List.mem_cons_self
    show 1 ≤ roundC (r / (Int.gcd r c.1 : Int) * c.1) l
    rw [round_step h hc]
    exact roundC_ok (foldR_lcm h hc).2.2.1 fun d hd => hl d (List.mem_cons_of_mem _ hd)
theorem roundC_snoc : ∀ (l : List Ck) (r : Int) (c : Ck), roundC r (l ++ [c]) = roundC r l / (Int.gcd (roundC r l) c.1 : Int) * c.1
  | [], r, c => rfl
  | d :: l, r, c => roundC_snoc l _ c
theorem roundC_small : ∀ {l : List Ck} {r : Int}, 1 ≤ r → (∀ c ∈ l, okCk c ∧ c.1 ≤ 1000000000000000000000000000000) → (roundC r l).toNat ≤ r.toNat * (2 ^ 100) ^ l.length
  | [], r, _, _ => by simp [roundC]
  | c :: l, r, h, hl => by
    have hc := hl c List.mem_cons_self
    have h3 := hc.1.1
    show (roundC (r / (Int.gcd r c.1 : Int) * c.1) l).toNat ≤ _
    rw [round_step h h3]
    have b := roundC_small (l := l) (foldR_lcm h h3).2.2.1 fun d hd => hl d (List.mem_cons_of_mem _ hd)
    have b2 := foldR_le h h3
    have b3 : (foldR r c.1).toNat ≤ r.toNat * c.1.toNat := by
      rw [← Int.toNat_mul (by omega) (by omega)]
      exact Int.toNat_le_toNat (by omega)
    have b4 : c.1.toNat ≤ 2 ^ 100 := Nat.le_trans (show c.1.toNat ≤ 1000000000000000000000000000000 by have := hc.2; omega) (by decide)
    have b5 : (foldR r c.1).toNat ≤ r.toNat * 2 ^ 100 := Nat.le_trans b3 (Nat.mul_le_mul_left _ b4)
    rw [List.length_cons, Nat.pow_succ, Nat.mul_comm ((2 ^ 100) ^ l.length), ← Nat.mul_assoc]
    exact Nat.le_trans b (Nat.mul_le_mul_right _ b5)
theorem roundC_fits {l : List Ck} (hl : ∀ c ∈ l, okCk c ∧ c.1 ≤ 1000000000000000000000000000000) (hz : l.length ≤ 60) : (roundC 1 l).natAbs < 2 ^ 8000 := by
  have b := roundC_small (r := 1) (by decide) hl
  have g1 := roundC_ok (r := 1) (by decide) fun c hc => (hl c hc).1.1
  have e : (roundC 1 l).natAbs = (roundC 1 l).toNat := by omega
  rw [e]
  refine Nat.lt_of_le_of_lt b ?_
  rw [show (1 : Int).toNat = 1 from rfl, Nat.one_mul, ← Nat.pow_mul]
  exact Nat.pow_lt_pow_right (by decide) (by omega)
theorem fold_round : ∀ {l : List Ck} {F G : Ck}, okCk F → (∀ c ∈ l, okCk c) → foldAll F l = some G → G.1 = roundC F.1 l
  | [], F, G, _, _, h => by
    cases h
    rfl
  | c :: l, F, G, hF, hl, h => by
    obtain ⟨M, h1, h2⟩ := Option.bind_eq_some_iff.mp (show (fold1 F c).bind (fun G => foldAll G l) = some G from h)
    have hc := hl c List.mem_cons_self
    obtain ⟨m1, m2, m3⟩ := fold1_some hF hc h1
    have e : M.1 = foldR F.1 c.1 := by
      unfold fold1 at h1
      split at h1
      · cases h1
        rfl
      · cases h1
    show G.1 = roundC (F.1 / (Int.gcd F.1 c.1 : Int) * c.1) l
    rw [round_step hF.1 hc.1, ← e]
    exact fold_round m1 (fun d hd => hl d (List.mem_cons_of_mem _ hd)) h2
/-- a dict of clocks that a law has -/
structure Od where
  (o : Addr)
  cs : Cks
  g : Int
abbrev spLawClash : Sp := spG (α := Od) 1 (fun x ds m => ds = [.raw (.ref x.o)] ∧ m x.o = some (.dct (dctD x.cs)) ∧ Good x.g x.cs) (fun x _ m d m' => d = cpairD (clashC x.cs) ∧ m' = m) noG
abbrev spLawRound : Sp := spG (α := Od) 1 (fun x ds m => ds = [.raw (.ref x.o)] ∧ m x.o = some (.dct (dctD x.cs)) ∧ Good x.g x.cs) (fun x _ m d m' => d = dI (roundC 1 (x.cs.map (·.2))) ∧ m' = m) noG
abbrev spLawIsFold : Sp := spG (α := Od × Ck) 2 (fun x ds m => ds = [ckD x.2, .raw (.ref x.1.o)] ∧ m x.1.o = some (.dct (dctD x.1.cs)) ∧ Good x.1.g x.1.cs ∧ foldAll (1, 0) (x.1.cs.map (·.2)) = some x.2) (fun x _ m d m' => d = dB true ∧ m' = m) noG
structure Oa where
  w : Wg
  (o : Addr)
  n : Int
def askP (A : Ads) (x : Oa) (ds : List Dt) (m : Mu) : Prop := ds = [.raw (.ref x.w.a), .raw (.ref x.o), dI x.n] ∧ IsW A.WL m x.w.a x.w.h x.w.g x.w.cs ∧ m x.o = some (.dct (dctD x.w.cs)) ∧ Good x.w.g x.w.cs ∧ x.w.g < 10 ^ 10
def trueN {α : Type} (_ : α) (_ : List Dt) (m : Mu) (d : Dt) (m' : Mu) : Prop := d = dB true ∧ m' = m
theorem od_neSame {K : PySem.W.Frag} {x : Dt} {p : PyData} (h : py x = some p) (s : SeqAt.shaped p = true) : OpD (rNeU K) x x (dB false) := by
  have := od_neUD (K := K) h h s s
  rw [SeqAt.eqv_refl _ (SeqAt.canLay_of_shaped s)] at this
  exact this
theorem od_eqSame {K : PySem.W.Frag} {x : Dt} {p : PyData} (h : py x = some p) (s : SeqAt.shaped p = true) : OpD (rEqU K) x x (dB true) := by
  have := od_eqUD (K := K) h h s s
  rw [SeqAt.eqv_refl _ (SeqAt.canLay_of_shaped s)] at this
  exact this
theorem u_at {K : PySem.W.Frag} {A : Ads} {D : Addr} {b1 b2 b3 b4 b5 b6 b7 : Bool} (h : undersOf K A D = [b1, b2, b3, b4, b5, b6, b7]) : under K D A.CV = b6 ∧ under K D A.CX = b7 := by
  unfold undersOf at h
  injection h with _ h
  injection h with _ h
  injection h with _ h
  injection h with _ h
  injection h with _ h
  injection h with h6 h
  injection h with h7 _
  exact ⟨h6, h7⟩
end Dn
open PySem PySem.Spec
namespace Dn
theorem canLay_ints : ∀ l : List Int, PyData.canLayAll0 (l.map .int) = true
  | [] => rfl
  | _ :: l => canLay_ints l
theorem depth_ints : ∀ l : List Int, PyData.depthAll (l.map .int) ≤ 1
  | [] => by simp [PyData.depthAll]
  | _ :: l => by
    have := depth_ints l
    simp only [List.map_cons, PyData.depthAll, PyData.depth]
    omega
theorem shaped_word {p : PyData} {s : Str} (l : List Int) (hs : PyData.strOk s = true) (h : p = .list (.str s :: l.map .int)) : SeqAt.shaped p = true := by
  rw [h]
  unfold SeqAt.shaped
  rw [show PyData.canLay0 (.list (.str s :: l.map .int)) = true from by
    show (PyData.strOk s && PyData.canLayAll0 (l.map .int)) = true
    rw [hs, canLay_ints l]
    rfl]
  have := depth_ints l
  simp only [PyData.depth, PyData.depthAll, Bool.true_and]
  exact decide_eq_true (by omega)
end Dn
/-! Own layer: what the law of next and last turns needs. -/
namespace Dn
open PySem PySem.Spec PyProof.Rows L2 LamX
theorem hm_par {T : List (Addr × Str)} {E : XK} {δ : Sto} {μ : Mu} {M B C : Sto → Mu → Prop} {R : Dt → Mu → Prop} {W : WM} {i j : Nat} {ta : TA} (h : EaM T E ta δ μ (fun ds m => ∃ x y, ds = [x, y] ∧ M ((δ.set i (some x)).set j (some y)) m) W) : HsM T E (tPar i j ta) δ μ M R B C W := fun σ s D m S hn _ _ _ hw =>
  h σ s _ m S (fun vs t ds l dl ⟨x, y, e, n⟩ => by
    subst e
    obtain ⟨v, r, rfl, dv, dr⟩ := dl.consI
    obtain ⟨w, r2, rfl, dw, dn⟩ := dr.consI
    obtain rfl := dn.nilI
    exact ⟨v, w, rfl, hn _ t _ l (((S.monoG l.ug).set dv).set dw) n⟩) hw
theorem DenL.rep {H : Hv} {vs : List V} {ds : List Dt} (h : DenL H vs ds) : ∀ n : Nat, DenL H (List.replicate n vs).flatten (List.replicate n ds).flatten
  | 0 => .nil
  | n + 1 => by
    rw [List.replicate_succ, List.replicate_succ, List.flatten_cons, List.flatten_cons]
    exact h.app (DenL.rep h n)
theorem od_rep {ds : List Dt} {n : Nat} (h1 : n ≤ 100) (h2 : ds.length ≤ 1000) : OpD rMulU (.lst ds) (dI (n : Int)) (.lst (List.replicate n ds).flatten) := fun v w H Q d1 d2 q => .inr (by
  obtain ⟨a, xs, rfl, ha, la⟩ := d1.lstI
  obtain rfl := d2.rawI
  refine ⟨a, (n : Int), xs, rfl, rfl, ha, by omega, by omega, ?_, fun p hp => q _ (H.nw p _ hp) (Up.new hp) (.lst Hv.nw_at ((la.rep n).mono (Up.new hp)))⟩
  rw [la.len, show ((n : Int)).toNat = n from rfl]
  have := Nat.mul_le_mul h2 h1
  exact Evl.sz_of (by omega))
/-- every clock shows its hour at this turn -/
def metC (cs : Cks) (t : Int) : Bool := cs.all fun p => decide (t % p.2.1 = p.2.2)
theorem metC_iff {cs : Cks} {t : Int} : metC cs t = true ↔ ∀ c ∈ cs.map (·.2), t % c.1 = c.2 := by
  unfold metC
  rw [List.all_eq_true]
  constructor
  · intro h c hc
    obtain ⟨p, hp, rfl⟩ := List.mem_map.mp hc
    simpa using h p hp
  · intro h p hp
    simpa using h p.2 (List.mem_map_of_mem hp)
abbrev spIsMet (A : Ads) : Sp := spG (α := Wg × Dt) 2 (fun x ds m => ds = [.raw (.ref x.1.a), x.2] ∧ IsW A.WL m x.1.a x.1.h x.1.g x.1.cs ∧ Good x.1.g x.1.cs ∧ ∃ T, tyD x.2 = some T)
  (fun x _ m d m' => ∃ t, x.2 = dI t ∧ d = dB (metC x.1.cs t) ∧ m' = m) (fun x _ m C fs m' => isNum x.2 = false ∧ C = A.CT ∧ fs = [] ∧ m' = m)
abbrev spNear (A : Ads) (f : Ck → Int → Int) : Sp := spG (α := Wg × Dt) 2 (fun x ds m => ds = [.raw (.ref x.1.a), x.2] ∧ IsW A.WL m x.1.a x.1.h x.1.g x.1.cs ∧ Good x.1.g x.1.cs ∧ x.1.g < 10 ^ 10 ∧ ∃ T, tyD x.2 = some T)
  (fun x _ m d m' => ∃ t G, x.2 = dI t ∧ foldAll (1, 0) (x.1.cs.map (·.2)) = some G ∧ d = dI (f G t) ∧ m' = m)
  (fun x _ m C fs m' => (isNum x.2 = false ∧ C = A.CT ∧ fs = [] ∧ m' = m) ∨ ∃ i j, isNum x.2 = true ∧ clashC x.1.cs = some (i, j) ∧ C = A.CV ∧ fs = nevF i j ∧ m' = m)
def nextF (G : Ck) (t : Int) : Int := t + (G.2 - t) % G.1
def lastF (G : Ck) (t : Int) : Int := t - (t - G.2) % G.1
theorem nextF_in {G : Ck} (h : okCk G) (t : Int) : 0 ≤ nextF G t - t ∧ nextF G t - t < G.1 ∧ nextF G t % G.1 = G.2 := by
  obtain ⟨h1, h2, h3⟩ := h
  have p : (0 : Int) < G.1 := by omega
  have a := Int.emod_nonneg (G.2 - t) (show G.1 ≠ 0 by omega)
  have b := Int.emod_lt_of_pos (G.2 - t) p
  refine ⟨by unfold nextF; omega, by unfold nextF; omega, ?_⟩
  unfold nextF
  rw [Int.add_emod_emod, show t + (G.2 - t) = G.2 by omega]
  exact Int.emod_eq_of_lt h2 h3
theorem lastF_in {G : Ck} (h : okCk G) (t : Int) : 0 ≤ t - lastF G t ∧ t - lastF G t < G.1 ∧ lastF G t % G.1 = G.2 := by
  obtain ⟨h1, h2, h3⟩ := h
  have p : (0 : Int) < G.1 := by omega
  have a := Int.emod_nonneg (t - G.2) (show G.1 ≠ 0 by omega)
  have b := Int.emod_lt_of_pos (t - G.2) p
  refine ⟨by unfold lastF; omega, by unfold lastF; omega, ?_⟩
  unfold lastF
  rw [Int.sub_emod_emod, show t - (t - G.2) = G.2 by omega]
  exact Int.emod_eq_of_lt h2 h3
theorem met_near {cs : Cks} {G : Ck} {t : Int} (hcs : ∀ p ∈ cs, okCk p.2) (hf : foldAll (1, 0) (cs.map (·.2)) = some G) (h : t % G.1 = G.2) : metC cs t = true := by
  obtain ⟨g1, g2, g3⟩ := foldAll_some okCk_one (fun c hc => by obtain ⟨p, hp, rfl⟩ := List.mem_map.mp hc; exact hcs p hp) hf
  exact metC_iff.mpr ((g3 t).mp h).2
structure Om where
  o : Addr
  cs : Cks
  g : Int
  t : Int
abbrev spLawMet : Sp := spG (α := Om) 2 (fun x ds m => ds = [.raw (.ref x.o), dI x.t] ∧ m x.o = some (.dct (dctD x.cs)) ∧ Good x.g x.cs) (fun x _ m d m' => d = dB (metC x.cs x.t) ∧ m' = m) noG
structure Ol where
  w : Wg
  o : Addr
  G : Ck
  t : Int
abbrev spLawGood (A : Ads) : Sp := spG (α := Ol) 4 (fun x ds m => ds = [.raw (.ref x.w.a), .raw (.ref x.o), dI x.G.1, dI x.t] ∧ IsW A.WL m x.w.a x.w.h x.w.g x.w.cs ∧ m x.o = some (.dct (dctD x.w.cs)) ∧ Good x.w.g x.w.cs ∧ x.w.g < 10 ^ 10 ∧ foldAll (1, 0) (x.w.cs.map (·.2)) = some x.G) (fun x _ m d m' => d = dB true ∧ m' = m) noG
/-- the clocks that don't show their hour -/
def offF (t : Int) : Dt → Option Dt
  | .tup [.raw (.int h), .raw (.int x)] => if t % h = x then none else some (.tup [dI h, dI x])
  | _ => none
def offC (t : Int) (cs : Cks) : List Ck := (cs.map (·.2)).filter fun c => !decide (t % c.1 = c.2)
theorem offF_all (t : Int) : ∀ cs : Cks, ((dctD cs).map (·.2)).filterMap (offF t) = (offC t cs).map ckD
  | [] => rfl
  | p :: cs => by
    show (ckD p.2 :: (dctD cs).map (·.2)).filterMap (offF t) = _
    unfold offC
    rw [List.map_cons, List.filter_cons]
    by_cases e : t % p.2.1 = p.2.2
    · rw [List.filterMap_cons_none (show offF t (ckD p.2) = none from if_pos e), offF_all t cs, decide_eq_true e]
      rfl
    · rw [List.filterMap_cons_some (show offF t (ckD p.2) = some (ckD p.2) from if_neg e), offF_all t cs, decide_eq_false e]
      rfl
theorem offC_nil {t : Int} {cs : Cks} : (offC t cs).isEmpty = metC cs t := by
  unfold offC metC
  induction cs with
  | nil => rfl
  | cons p cs ih =>
    rw [List.map_cons, List.filter_cons, List.all_cons]
    by_cases e : t % p.2.1 = p.2.2
    · rw [decide_eq_true e]
      exact ih
    · rw [decide_eq_false e]
      rfl
def rightF (t : Int) : Dt → Option Dt
  | .tup [.raw (.int h), .raw (.int x)] => some (dB (decide (t % h = x)))
  | _ => none
theorem rightF_all (t : Int) : ∀ cs : Cks, ((dctD cs).map (·.2)).filterMap (rightF t) = (cs.map fun p => decide (t % p.2.1 = p.2.2)).map dB
  | [] => rfl
  | p :: cs => by
    show (ckD p.2 :: (dctD cs).map (·.2)).filterMap (rightF t) = _
    rw [List.filterMap_cons_some (show rightF t (ckD p.2) = some (dB (decide (t % p.2.1 = p.2.2))) from rfl), rightF_all t cs]
    rfl
theorem rightF_met {t : Int} {cs : Cks} : (cs.map fun p => decide (t % p.2.1 = p.2.2)).all id = metC cs t := by
  unfold metC
  rw [List.all_map]
  rfl
theorem noLst_bools : ∀ l : List Bool, noLstL (l.map dB) = true
  | [] => rfl
  | _ :: l => noLst_bools l
theorem noLst_cks : ∀ l : List Ck, noLstL (l.map ckD) = true
  | [] => rfl
  | _ :: l => noLst_cks l
def pyCk (c : Ck) : PyData := .tuple [.int c.1, .int c.2]
theorem py_cks : ∀ l : List Ck, pyL (l.map ckD) = some (l.map pyCk)
  | [] => rfl
  | c :: l => by
    show (py (ckD c)).bind (fun q => (pyL (l.map ckD)).map fun r => q :: r) = _
    rw [py_cks l]
    rfl
theorem lay_cks : ∀ l : List Ck, PyData.canLayAll0 (l.map pyCk) = true
  | [] => rfl
  | c :: l => by
    show (PyData.canLay0 (pyCk c) && PyData.canLayAll0 (l.map pyCk)) = true
    rw [lay_cks l]
    rfl
theorem depth_cks : ∀ l : List Ck, PyData.depthAll (l.map pyCk) ≤ 2
  | [] => by simp [PyData.depthAll]
  | c :: l => by
    have := depth_cks l
    simp only [List.map_cons, PyData.depthAll, pyCk, PyData.depth]
    omega
theorem shaped_cks (l : List Ck) : SeqAt.shaped (.list (l.map pyCk)) = true := by
  unfold SeqAt.shaped
  rw [show PyData.canLay0 (.list (l.map pyCk)) = true from lay_cks l]
  have := depth_cks l
  simp only [PyData.depth, Bool.true_and]
  exact decide_eq_true (by omega)
theorem od_eqCks0 {K : PySem.W.Frag} {l : List Ck} : OpD (rEqU K) (.lst (l.map ckD)) (.lst []) (dB l.isEmpty) := by
  have := od_eqUD (K := K) (x := .lst (l.map ckD)) (y := .lst []) (p := .list (l.map pyCk)) (q := .list []) (by show (pyL (l.map ckD)).map PyData.list = _; rw [py_cks]; rfl) rfl (shaped_cks l) (by rfl)
  cases l with
  | nil => exact this
  | cons c l => exact this
/-- rows of a word and numbers -/
theorem shaped_words {n : Nat} {p : PyData} {s : Str} (l : List Int) (hs : PyData.strOk s = true) (h : p = .list (List.replicate n (.list (.str s :: l.map .int)))) : SeqAt.shaped p = true := by
  have a : ∀ n : Nat, PyData.canLayAll0 (List.replicate n (.list (.str s :: l.map .int))) = true := fun n => by
    induction n with
    | zero => rfl
    | succ n ih =>
      rw [List.replicate_succ]
      show ((PyData.strOk s && PyData.canLayAll0 (l.map .int)) && PyData.canLayAll0 (List.replicate n _)) = true
      rw [hs, canLay_ints, ih]
      rfl
  have b : ∀ n : Nat, PyData.depthAll (List.replicate n (.list (.str s :: l.map .int))) ≤ 2 := fun n => by
    induction n with
    | zero => simp [PyData.depthAll]
    | succ n ih =>
      have := depth_ints l
      simp only [List.replicate_succ, PyData.depthAll, PyData.depth]
      omega
  rw [h]
  unfold SeqAt.shaped
  rw [show PyData.canLay0 (.list (List.replicate n (.list (.str s :: l.map .int)))) = true from a n]
  have := b n
  simp only [PyData.depth, Bool.true_and]
  exact decide_eq_true (by omega)
theorem need_err {d : Dt} {C CT : Addr} (r : (if isNum d = true then (Except.ok dN : Rs) else .error CT) = .error C) : isNum d = false ∧ C = CT := by
  cases e : isNum d with
  | true =>
    rw [if_pos e] at r
    cases r
  | false =>
    rw [if_neg (by rw [e]; exact Bool.false_ne_true)] at r
    cases r
    exact ⟨rfl, rfl⟩
theorem need_ok {d z : Dt} {CT : Addr} (r : (if isNum d = true then (Except.ok dN : Rs) else .error CT) = .ok z) : isNum d = true := by
  cases e : isNum d with
  | true => rfl
  | false =>
    rw [if_neg (by rw [e]; exact Bool.false_ne_true)] at r
    cases r
theorem int_item {l : List Int} {i : Nat} {x : Dt} (h : (l.map dI)[i]? = some x) : i < l.length ∧ ∃ c : Int, x = dI c := by
  rw [List.getElem?_map] at h
  cases q : l[i]? with
  | none =>
    rw [q] at h
    cases h
  | some c =>
    rw [q] at h
    cases h
    exact ⟨(List.getElem?_eq_some_iff.mp q).1, c, rfl⟩
/-- one place on, whatever stands there -/
theorem VwS.on {μ : Mu} {B : Addr → Prop} {o : Option Dt} {δ δ' : Sto} (t : VwS μ B δ δ') : VwS μ B (o :: δ) (o :: δ') := match o with
  | none => .off t
  | some d => .cons (.refl d) t
end Dn
/-! Own layer: ranges in comprehensions, ranges with a step, min of two, try .. except without a name. -/
namespace Dn
open PySem PySem.Spec PyProof.Rows L2 LamX
def rgD (lo : Int) (n : Nat) : List Dt := (List.range n).map fun i : Nat => dI (lo + (i : Int))
theorem rgD_at {lo : Int} {n i : Nat} (h : i < n) : (rgD lo n)[i]? = some (dI (lo + (i : Int))) := by
  unfold rgD
  rw [List.getElem?_map, List.getElem?_range h]
  rfl
theorem rgD_len {lo : Int} {n : Nat} : (rgD lo n).length = n := by
  unfold rgD
  rw [List.length_map, List.length_range]
theorem noLst_take {l : List Dt} (h : noLstL l = true) : ∀ {a b : List Dt}, l = a ++ b → noLstL a = true := fun {a b} e => by
  rw [e] at h
  clear e
  revert h
  induction a with
  | nil => exact fun _ => rfl
  | cons d l ih =>
    intro hn
    have hn' : noLstL (d :: (l ++ b)) = true := hn
    unfold noLstL at hn' ⊢
    have h2 := Bool.and_eq_true_iff.mp hn'
    rw [h2.1, ih h2.2] <;> rfl
section
variable {K : PySem.W.Frag} {δ : Sto} {vs : List Nat} {te : TE} {tt : TT} {g : TG} {tas : TA}
theorem lc_rng {lo : Int} {n : Nat} {σ : L2.St} {H1 : Hv} {Q : VK} (f : Dt → Option Dt) (hz : n ≤ 40000) (hn : noLstL ((rgD lo n).filterMap f) = true) (S : DenS H1 σ δ)
    (hb : ∀ i : Nat, i < n → ∃ δ' b, GdS g vs (dI (lo + (i : Int))) (wipeD δ vs) δ' ∧ EtS tt δ' b ∧ (b = true → ∃ e, EvS te δ' e ∧ f (dI (lo + (i : Int))) = some e) ∧ (b = false → f (dI (lo + (i : Int))) = none))
    (q : ∀ v H', Up H1 H' → Den H' v (.lst ((rgD lo n).filterMap f)) → Q v H'.H) : ∀ D, H1.H D = none → ∃ W : Nat → Nat → Hp → Prop, (∃ m, W 0 m (upd H1.H D (.lst []))) ∧ ∀ i m H, W i m H →
      ((Itr lo n).stop i H ∧ Q (.ref D) H) ∨ ((Itr lo n).go i H ∧ ∃ Nx : Hp → Prop, (∀ H', Nx H' → ∃ m', m' < m ∧ W (i + 1) m' H') ∧ ∀ x H', (Itr lo n).yld i H x H' → g x (wipe σ vs) H' fun σ2 H2 => wipe σ2 vs = wipe σ vs ∧ tt σ2 H2 fun b H3 =>
        if b = true then te σ2 H3 fun y H4 => ∃ acc, H4 D = some (.lst acc) ∧ acc.length < sizeLine ∧ Nx (upd H4 D (.lst (acc ++ [y]))) else Nx H3) := fun D hD => by
  have sub : ∀ i, noLstL (((rgD lo n).take i).filterMap f) = true := fun i => noLst_take hn (b := ((rgD lo n).drop i).filterMap f) (by rw [← List.filterMap_append, List.take_append_drop])
  refine lc_range (fun i h' => ∃ H' : Hv, H'.H = h' ∧ Up H1 H' ∧ ∃ acc, H'.G D = some (.lst acc) ∧ DenL H' acc (((rgD lo n).take i).filterMap f) ∧ acc.length ≤ i) ⟨H1.nw D _ hD, rfl, Up.new hD, [], Hv.nw_at, by simpa using DenL.nil, Nat.le_refl _⟩ (fun i h' hil p => ?_) fun h' p => ?_
  · obtain ⟨H', rfl, e2, acc, hacc, dacc, lacc⟩ := p
    obtain ⟨δ', b, hg, ht, hy, hno⟩ := hb i hil
    have S1 : DenS H' (wipe σ vs) (wipeD δ vs) := (S.mono e2).wiped vs
    have tk : (rgD lo n).take (i + 1) = (rgD lo n).take i ++ [dI (lo + (i : Int))] := by rw [List.take_succ, rgD_at hil] <;> rfl
    refine hg _ σ H' _ S1 (.raw _) fun σ2 w2 S2 => ⟨w2, ht σ2 H' _ S2 fun H3 e3 => ?_⟩
    cases b with
    | true =>
      show te σ2 H3.H _
      obtain ⟨e, he, hf⟩ := hy rfl
      have ft : ((rgD lo n).take (i + 1)).filterMap f = ((rgD lo n).take i).filterMap f ++ [e] := by rw [tk, List.filterMap_append, List.filterMap_cons_some hf, List.filterMap_nil]
      refine he σ2 H3 _ (S2.mono e3) fun y H4 e4 dy => ?_
      have h4 := e4.g _ _ (e3.g _ _ hacc)
      refine ⟨acc, Hv.sub h4, Evl.sz_lt (by omega), H4.pt D _ (Hv.sub h4), rfl, ⟨Evl.Ex.mut ((e2.trans e3).trans e4).e hD, ((e2.trans e3).trans e4).a⟩, acc ++ [y], Hv.pt_at (Hv.off h4), ?_, by rw [List.length_append]; exact Nat.add_le_add_right lacc 1⟩
      rw [ft]
      have dall : DenL H4 (acc ++ [y]) (((rgD lo n).take i).filterMap f ++ [e]) := (dacc.mono (e3.trans e4)).app (.cons dy .nil)
      refine dall.updL (acc := acc) h4 ?_
      rw [← ft]
      exact sub (i + 1)
    | false =>
      have ft : ((rgD lo n).take (i + 1)).filterMap f = ((rgD lo n).take i).filterMap f := by rw [tk, List.filterMap_append, List.filterMap_cons_none (hno rfl), List.filterMap_nil, List.append_nil]
      refine ⟨H3, rfl, e2.trans e3, acc, e3.g _ _ hacc, ?_, Nat.le_succ_of_le lacc⟩
      rw [ft]
      exact dacc.mono e3
  · obtain ⟨H', rfl, e2, acc, hacc, dacc, _⟩ := p
    refine q (.ref D) H' e2 (.lst hacc ?_)
    rw [List.take_of_length_le (by rw [rgD_len]; exact Nat.le_refl _)] at dacc
    exact dacc
/-- [e for x in range(j) if ..] -/
theorem ev_lcR1 {n : Nat} (f : Dt → Option Dt) (h : EaS tas δ [dI (n : Int)]) (hz : n ≤ 40000) (hn : noLstL ((rgD 0 n).filterMap f) = true)
    (hb : ∀ i : Nat, i < n → ∃ δ' b, GdS g vs (dI (0 + (i : Int))) (wipeD δ vs) δ' ∧ EtS tt δ' b ∧ (b = true → ∃ e, EvS te δ' e ∧ f (dI (0 + (i : Int))) = some e) ∧ (b = false → f (dI (0 + (i : Int))) = none)) : EvS (tLc (iRng1 tas) g tt te vs) δ (.lst ((rgD 0 n).filterMap f)) := by
  intro σ H Q S q
  refine h σ H _ S fun ws H1 e1 d1 => ?_
  obtain ⟨v1, r, rfl, dv, dr⟩ := d1.consI
  obtain rfl := dr.nilI
  obtain rfl := dv.rawI
  refine ⟨(n : Int), rfl, by omega, by omega, ?_⟩
  rw [show ((n : Int)).toNat = n from rfl]
  exact lc_rng f hz hn (S.mono e1) hb fun v H' u d => q v H' (e1.trans u) d
/-- [e for x in range(i, j) if ..] -/
theorem ev_lcR2 {lo hi : Int} {n : Nat} (f : Dt → Option Dt) (h : EaS tas δ [dI lo, dI hi]) (e : (hi - lo).toNat = n) (h1 : -1000000 ≤ lo ∧ lo ≤ 1000000 ∧ -1000000 ≤ hi ∧ hi ≤ 1000000) (hz : n ≤ 40000) (hn : noLstL ((rgD lo n).filterMap f) = true)
    (hb : ∀ i : Nat, i < n → ∃ δ' b, GdS g vs (dI (lo + (i : Int))) (wipeD δ vs) δ' ∧ EtS tt δ' b ∧ (b = true → ∃ e, EvS te δ' e ∧ f (dI (lo + (i : Int))) = some e) ∧ (b = false → f (dI (lo + (i : Int))) = none)) : EvS (tLc (iRng2 tas) g tt te vs) δ (.lst ((rgD lo n).filterMap f)) := by
  intro σ H Q S q
  refine h σ H _ S fun ws H1 e1 d1 => ?_
  obtain ⟨v1, r, rfl, dv, dr⟩ := d1.consI
  obtain ⟨v2, r2, rfl, dv2, dr2⟩ := dr.consI
  obtain rfl := dr2.nilI
  obtain rfl := dv.rawI
  obtain rfl := dv2.rawI
  refine ⟨lo, hi, rfl, ⟨by omega, by omega, by omega, by omega⟩, ?_⟩
  rw [e]
  exact lc_rng f hz hn (S.mono e1) hb fun v H' u d => q v H' (e1.trans u) d
end
theorem walk_rangeC {lo c : Int} {n : Nat} : Walk (Itc lo c n) n (fun _ => True) (fun i H x H' => H' = H ∧ x = .int (lo + (i : Nat) * c)) := ⟨fun i H hi _ => hi, fun H _ => Nat.le_refl n, fun i H x H' _ _ y => y⟩
section
variable {T : List (Addr × Str)} {E : XK} {δ : Sto} {μ : Mu} {tas : TA} {t : TS} {g : TG} {M B C : Sto → Mu → Prop} {R : Dt → Mu → Prop} {W : WM}
theorem hm_range3 (h : EaM T E tas δ μ (fun ds m => ∃ (lo hi c : Int) (n : Nat), ds = [dI lo, dI hi, dI c] ∧ RgC lo hi c n ∧ ∃ I : Nat → Sto → Mu → Prop, I 0 δ m ∧ (∀ i δ' m', i < n → I i δ' m' → ∃ δ2, GdM g (dI (lo + (i : Nat) * c)) δ' δ2 ∧ HsM T E t δ2 m' (I (i + 1)) R M (I (i + 1)) W) ∧ ∀ δ' m', I n δ' m' → M δ' m') W) : HsM T E (tFor (iRng3 tas) g t) δ μ M R B C W := fun σ s D m S hn hr _ _ hw =>
  h σ s _ m S (fun vs s1 ds l1 dl ⟨lo, hi, c, n, e, hz, I, h0, hs, hd⟩ => by
    subst e
    obtain ⟨v1, r, rfl, dv, dr⟩ := dl.consI
    obtain ⟨v2, r2, rfl, dv2, dr2⟩ := dr.consI
    obtain ⟨v3, r3, rfl, dv3, dr3⟩ := dr2.consI
    obtain rfl := dr3.nilI
    obtain rfl := dv.rawI
    obtain rfl := dv2.rawI
    obtain rfl := dv3.rawI
    exact ⟨lo, hi, c, n, rfl, hz, hm_it walk_rangeC I (fun i d => d = dI (lo + (i : Nat) * c)) (fun _ _ _ _ _ => trivial) (fun i x H' δ' s2 _ _ _ y => ⟨s2, _, y.1.symm, .refl _, rfl, by rw [y.2]; exact .raw _, rfl⟩) (fun i δ' m' d hi i2 e => e ▸ hs i δ' m' hi i2) hd (S.monoG l1.ug) h0 (fun σ' u δ' l => hn σ' u δ' (l1.trans l)) (fun v u d l => hr v u d (l1.trans l)) fun X fs u l => hw X fs u (l1.trans l)⟩) hw
end
def rMin2 : List V → Hp → VK → Prop := fun xs H Q => ∃ i j, xs = [V.int i, V.int j] ∧ Q (.int (if j < i then j else i)) H
theorem call_min2' {X : Cx} (hc : X.calm = true) : CallR X (.builtin "min") rMin2 := call_min2 hc
theorem ca_min2 {i j : Int} : CaD rMin2 [dI i, dI j] (dI (if j < i then j else i)) := fun vs H Q h1 q => by
  obtain ⟨v, r, rfl, hd, hr⟩ := h1.consI
  obtain ⟨w, r2, rfl, hd2, hr2⟩ := hr.consI
  obtain rfl := hr2.nilI
  obtain rfl := hd.rawI
  obtain rfl := hd2.rawI
  exact ⟨i, j, rfl, q _ H exR (.raw _)⟩
/-! try: m = e, except x: m = None -/
def tTryN (K : PySem.W.Frag) (c : Value) (L i : Nat) (tl : XK → TE) : TS := fun D σ H => ∃ E : XK, (∀ cls d H', E cls d H' → PySem.W.exmOne K cls c = some true ∧ ∀ σ' : L2.St, σ'.length = L → D.nx (σ'.set i (some .non)) H') ∧ tAsg (tl E) (gName i) D σ H
theorem ps_tryN {X : Cx} {x m : Str} {c : Value} {i L : Nat} {e : Expr} {kk : Nat} {np p1 p2 p3 p4 p5 pos pos' : Pos} {tl : XK → TE} (hs : X.stack = X.env :: X.outer) (hf : X.env.frame = some X.env.locals) (hc : Names X x c) (hN : X.N.Nodup) (hL : X.N.length = L) (hi : X.N[i]? = some m) (hv : Loc X.env.scope m) (hv2 : X.env.scope.names.lookup m = some .local)
    (he : ∀ (W : WX) (pn : List (Addr × Obj)) (xe : Value → Shared → Prop) (E : XK), Takes (X.tr pn xe) W → (∀ cls d σ H, E cls d H → W cls d σ H) → PE (X.tr pn xe) e (tl E))
    (hsw : swapsWith e (some (.Name m p1)) p2.line X.env = pure false := by rfl) :
    PS X (.Try [.Assign [.Name m p1] e p2] [.ExceptHandler (some (.Name x np)) none [.Assign [.Name m p3] (.Constant .none kk p4) p5] pos'] [] [] pos) (tTryN X.K c L i tl) := by
  refine ⟨fun pins s σ H D I h => ?_⟩
  obtain ⟨E, hE, h1⟩ := h
  refine (ps_try_only (X := X) (x := x) (c := c) (Wout := fun _ _ _ _ => False) (ts := fun _ _ _ => tAsg (tC .non) (gName i)) (tb := fun W D σ H => ∃ E : XK, (∀ cls d σ' H', E cls d H' → σ'.length = L → W cls d σ' H') ∧ tAsg (tl E) (gName i) D σ H) hs hf hc L2.takes0 (fun W pn xe tk _ => ?_) (fun a oe cls d pn _ _ => ?_)).run pins s σ H D I ?_
  · refine ⟨fun pins s' σ H' D I h' => ?_⟩
    obtain ⟨E, hW, h1⟩ := h'
    have hp := he (fun cls d σ' H' => σ'.length = L → W cls d σ' H') pn xe E (by rw [← hL]; exact takes_len tk) hW
    exact (pss_one (ps_set (X := X.tr pn xe) (i := i) hN hi hv hp hsw (.inr hv2))).run pins s' σ H' D I h1
  · exact pss_one (ps_set (X := X.suite a ((a, oe) :: pn)) (i := i) hN hi hv pe_non rfl (.inr hv2))
  · refine ⟨E, fun cls d σ' H' z hl => ?_, h1⟩
    obtain ⟨z1, z2⟩ := hE cls d H' z
    exact ⟨true, z1, fun _ a _ => z2 σ' hl, fun z => nomatch z⟩
theorem hm_tryN {T : List (Addr × Str)} {K : PySem.W.Frag} {E0 : XK} {δ : Sto} {μ : Mu} {M B C : Sto → Mu → Prop} {R : Dt → Mu → Prop} {W W' : WM} {c : Value} {L i : Nat} {tl : XK → TE} (h : ∀ E, EvM T E (tl E) δ μ (fun d m => M (δ.set i (some d)) m) W')
    (w : ∀ C fs m, W' C fs m → PySem.W.exmOne K (.ref C) c = some true ∧ M ((List.replicate L none).set i (some dN)) m) : HsM T E0 (tTryN K c L i tl) δ μ M R B C W := fun σ s D m S hn hr _ _ hw => by
  refine ⟨fun cls d H' => ∃ (C : Addr) (fs : List (Str × V)) (u : MH T), cls = .ref C ∧ Le s u ∧ W' C fs u.μ ∧ u.H.H = H', fun cls d H' z => ?_, ?_⟩
  · obtain ⟨C, fs, u, rfl, l, x, rfl⟩ := z
    obtain ⟨z1, z2⟩ := w C fs u.μ x
    refine ⟨z1, fun σ' hl => hn _ u _ l ?_ z2⟩
    have S0 : DenS u.H σ' (List.replicate L none) := ⟨by rw [List.length_replicate, hl], fun j d e => by
      rw [List.getElem?_replicate] at e
      split at e <;> cases e⟩
    exact S0.set (.raw _)
  · exact h _ σ s _ m S (fun v t d l dv n => hn _ t _ l ((S.monoG l.ug).set dv) n) fun C fs t l x => ⟨fun _ => ⟨C, fs, t, rfl, l, x, rfl⟩, fun _ d _ => ⟨C, fs, t, rfl, l, x, rfl⟩⟩
end Dn
/-! Own layer: small clocks, turn by turn. -/
namespace Dn
open PySem PySem.Spec PyProof.Rows L2 LamX
abbrev spLawClocks : Sp := spG (α := Int × Int) 2 (fun x ds m => ds = [dI x.1, dI x.2] ∧ 0 ≤ x.2 ∧ x.2 ≤ 1000) (fun x _ m d m' => ∃ l : List Ck, d = .lst (l.map ckD) ∧ l.length ≤ 6 ∧ (∀ c ∈ l, okCk c ∧ c.1 ≤ 8) ∧ m' = m) noG
def metL (l : List Ck) (t : Int) : Bool := l.all fun c => decide (t % c.1 = c.2)
theorem metL_cs {cs : Cks} {t : Int} : metL (cs.map (·.2)) t = metC cs t := by
  unfold metL metC
  rw [List.all_map]
  rfl
theorem metL_iff {l : List Ck} {t : Int} : metL l t = true ↔ meets l t := by
  unfold metL
  rw [List.all_eq_true]
  exact ⟨fun h c hc => by simpa using h c hc, fun h c hc => by simpa using h c hc⟩
theorem offL_all (t : Int) : ∀ l : List Ck, (l.map ckD).filterMap (offF t) = (l.filter fun c => !decide (t % c.1 = c.2)).map ckD
  | [] => rfl
  | c :: l => by
    rw [List.map_cons, List.filter_cons]
    by_cases e : t % c.1 = c.2
    · rw [List.filterMap_cons_none (show offF t (ckD c) = none from if_pos e), offL_all t l, decide_eq_true e]
      rfl
    · rw [List.filterMap_cons_some (show offF t (ckD c) = some (ckD c) from if_neg e), offL_all t l, decide_eq_false e]
      rfl
theorem offL_nil {t : Int} {l : List Ck} : (l.filter fun c => !decide (t % c.1 = c.2)).isEmpty = metL l t := by
  unfold metL
  induction l with
  | nil => rfl
  | cons c l ih =>
    rw [List.filter_cons, List.all_cons]
    by_cases e : t % c.1 = c.2
    · rw [decide_eq_true e]
      exact ih
    · rw [decide_eq_false e]
      rfl
def metF (ds : List Dt) : Dt := match ds with
  | [.lst xs, .raw (.int t)] => dB (xs.filterMap (offF t)).isEmpty
  | _ => dN
theorem metF_is {l : List Ck} {t : Int} : metF [.lst (l.map ckD), dI t] = dB (metL l t) := by
  show dB ((l.map ckD).filterMap (offF t)).isEmpty = _
  rw [offL_all, ← offL_nil]
  cases l.filter fun c => !decide (t % c.1 = c.2) <;> rfl
abbrev spMetL : Sp := spD 2 (fun ds => ∃ (l : List Ck) (t : Int), ds = [.lst (l.map ckD), dI t] ∧ l.length ≤ 100 ∧ ∀ c ∈ l, 1 ≤ c.1) metF
abbrev spLawFolded (A : Ads) : Sp := spG (α := Wg) 1 (fun x ds m => ds = [.raw (.ref x.a)] ∧ IsW A.WL m x.a x.h x.g x.cs ∧ Good x.g x.cs ∧ x.g < 10 ^ 10) (fun x _ m d m' => m' = m ∧ ((∃ G, foldAll (1, 0) (x.cs.map (·.2)) = some G ∧ d = ckD G) ∨ (foldAll (1, 0) (x.cs.map (·.2)) = none ∧ d = dN))) noG
abbrev spNearGood (A : Ads) : Sp := spG (α := Wg × Ck × Int) 3 (fun x ds m => ds = [.raw (.ref x.1.a), .lst ((x.1.cs.map (·.2)).map ckD), dI x.2.2] ∧ IsW A.WL m x.1.a x.1.h x.1.g x.1.cs ∧ Good x.1.g x.1.cs ∧ x.1.g < 10 ^ 10 ∧ foldAll (1, 0) (x.1.cs.map (·.2)) = some x.2.1) (fun x _ m d m' => d = dB true ∧ m' = m) noG
/-- the product of the hours -/
def prodL (l : List Ck) : Int := l.foldl (fun r c => r * c.1) 1
theorem prodL_snoc {l : List Ck} {c : Ck} : prodL (l ++ [c]) = prodL l * c.1 := by
  unfold prodL
  rw [List.foldl_append]
  rfl
theorem foldl_dvd : ∀ (l : List Ck) (r : Int), r ∣ l.foldl (fun r c => r * c.1) r ∧ ∀ c ∈ l, c.1 ∣ l.foldl (fun r c => r * c.1) r
  | [], r => ⟨Int.dvd_refl r, fun c hc => nomatch hc⟩
  | d :: l, r => by
    obtain ⟨h1, h2⟩ := foldl_dvd l (r * d.1)
    refine ⟨Int.dvd_trans (Int.dvd_mul_right r d.1) h1, fun c hc => ?_⟩
    rcases List.mem_cons.mp hc with rfl | hc
    · exact Int.dvd_trans (Int.dvd_mul_left r c.1) h1
    · exact h2 c hc
theorem foldl_in : ∀ (l : List Ck) (r : Int) (k : Nat), 1 ≤ r → r ≤ 8 ^ k → (∀ c ∈ l, 1 ≤ c.1 ∧ c.1 ≤ 8) → 1 ≤ l.foldl (fun r c => r * c.1) r ∧ l.foldl (fun r c => r * c.1) r ≤ 8 ^ (k + l.length)
  | [], r, k, h1, h2, _ => ⟨h1, h2⟩
  | d :: l, r, k, h1, h2, h => by
    obtain ⟨d1, d2⟩ := h d List.mem_cons_self
    have a : 1 * 1 ≤ r * d.1 := Int.mul_le_mul h1 d1 (by decide) (by omega)
    have b : r * d.1 ≤ 8 ^ k * 8 := Int.mul_le_mul h2 d2 (by omega) (by omega)
    have := foldl_in l (r * d.1) (k + 1) (by omega) (by rw [Int.pow_succ]; exact b) fun c hc => h c (List.mem_cons_of_mem _ hc)
    rw [List.length_cons, show k + (l.length + 1) = k + 1 + l.length by omega]
    exact this
theorem prodL_in {l : List Ck} (h : ∀ c ∈ l, 1 ≤ c.1 ∧ c.1 ≤ 8) (hl : l.length ≤ 6) : 1 ≤ prodL l ∧ prodL l ≤ 262144 := by
  obtain ⟨a, b⟩ := foldl_in l 1 0 (by decide) (by decide) h
  refine ⟨a, Int.le_trans b ?_⟩
  rw [Nat.zero_add]
  have : ∀ n : Nat, n ≤ 6 → (8 : Int) ^ n ≤ 262144 := by decide
  exact this _ hl
/-- the first that p holds of -/
theorem filt_first {p : Nat → Bool} : ∀ (k s n : Nat), k < n → p (s + k) = true → (∀ i, i < k → p (s + i) = false) → (List.range' s n).filter p = (s + k) :: (List.range' (s + k + 1) (n - k - 1)).filter p
  | k, s, 0, h, _, _ => absurd h (Nat.not_lt_zero _)
  | 0, s, n + 1, _, h1, _ => by
    rw [List.range'_succ, List.filter_cons_of_pos (by simpa using h1)]
    rfl
  | k + 1, s, n + 1, h, h1, h2 => by
    rw [List.range'_succ, List.filter_cons_of_neg (by have := h2 0 (by omega); simpa using this)]
    have := filt_first (p := p) k (s + 1) n (by omega) (by rw [show s + 1 + k = s + (k + 1) by omega]; exact h1) fun i hi => by rw [show s + 1 + i = s + (i + 1) by omega]; exact h2 (i + 1) (by omega)
    rw [this, show s + 1 + k = s + (k + 1) by omega, show n + 1 - (k + 1) - 1 = n - k - 1 by omega]
theorem filt_two {p : Nat → Bool} {a w n : Nat} (ha : a < w) (hw : 0 < w) (hn : a + w < n) (h : ∀ t, p t = decide (t % w = a)) : ∃ r, (List.range n).filter p = a :: (a + w) :: r := by
  rw [List.range_eq_range']
  have e1 : p (0 + a) = true := by rw [h, Nat.zero_add, Nat.mod_eq_of_lt ha]; exact decide_eq_true rfl
  have n1 : ∀ i, i < a → p (0 + i) = false := fun i hi => by
    rw [h, Nat.zero_add, Nat.mod_eq_of_lt (by omega)]
    exact decide_eq_false (by omega)
  rw [filt_first a 0 n (by omega) e1 n1, Nat.zero_add]
  have e2 : p (a + 1 + (w - 1)) = true := by
    rw [h, show a + 1 + (w - 1) = a + w by omega, Nat.add_mod_right, Nat.mod_eq_of_lt ha]
    exact decide_eq_true rfl
  have n2 : ∀ i, i < w - 1 → p (a + 1 + i) = false := fun i hi => by
    rw [h]
    refine decide_eq_false fun z => ?_
    by_cases q : a + 1 + i < w
    · rw [Nat.mod_eq_of_lt q] at z
      omega
    · rw [Nat.mod_eq_sub_mod (by omega), Nat.mod_eq_of_lt (by omega)] at z
      omega
  rw [filt_first (w - 1) (a + 1) (n - a - 1) (by omega) e2 n2, show a + 1 + (w - 1) = a + w by omega]
  exact ⟨_, rfl⟩
/-- the turns below n that all meet at -/
def hereL (l : List Ck) (n : Nat) : List Int := ((List.range n).filter fun t : Nat => metL l (t : Int)).map fun t : Nat => (t : Int)
def hereF (l : List Ck) : Dt → Option Dt
  | .raw (.int t) => if metL l t = true then some (dI t) else none
  | _ => none
theorem hereF_all (l : List Ck) (n : Nat) : (rgD 0 n).filterMap (hereF l) = (hereL l n).map dI := by
  unfold rgD hereL
  rw [List.filterMap_map, List.map_map]
  generalize List.range n = r
  induction r with
  | nil => rfl
  | cons t r ih =>
    have e : hereF l (dI (0 + (t : Int))) = if metL l (t : Int) = true then some (dI (t : Int)) else none := by
      rw [Int.zero_add]
      rfl
    by_cases h : metL l (t : Int) = true
    · rw [List.filterMap_cons_some (f := hereF l ∘ fun i : Nat => dI (0 + (i : Int))) (a := t) (b := dI (t : Int)) (show hereF l (dI (0 + (t : Int))) = _ by rw [e, if_pos h]), ih, List.filter_cons_of_pos (p := fun t : Nat => metL l (t : Int)) h]
      rfl
    · rw [List.filterMap_cons_none (f := hereF l ∘ fun i : Nat => dI (0 + (i : Int))) (a := t) (show hereF l (dI (0 + (t : Int))) = _ by rw [e, if_neg h]), ih, List.filter_cons_of_neg (p := fun t : Nat => metL l (t : Int)) h]
theorem hereL_len {l : List Ck} {n : Nat} : (hereL l n).length ≤ n := by
  unfold hereL
  rw [List.length_map]
  exact Nat.le_trans (List.length_filter_le ..) (by rw [List.length_range]; exact Nat.le_refl _)
theorem hereL_nil {l : List Ck} {n : Nat} (h : ∀ t, metL l t = false) : hereL l n = [] := by
  unfold hereL
  rw [List.filter_eq_nil_iff.mpr fun t _ => by rw [h]; exact Bool.false_ne_true]
  rfl
theorem met_fold {cs : Cks} {G : Ck} {t : Int} (hcs : ∀ p ∈ cs, okCk p.2) (hf : foldAll (1, 0) (cs.map (·.2)) = some G) : metL (cs.map (·.2)) t = true ↔ t % G.1 = G.2 := by
  obtain ⟨g1, g2, g3⟩ := foldAll_some okCk_one (fun c hc => by obtain ⟨p, hp, rfl⟩ := List.mem_map.mp hc; exact hcs p hp) hf
  rw [metL_iff]
  exact ⟨fun h => (g3 t).mpr ⟨Int.emod_one t, h⟩, fun h => ((g3 t).mp h).2⟩
theorem no_met {cs : Cks} (hcs : ∀ p ∈ cs, okCk p.2) (hf : foldAll (1, 0) (cs.map (·.2)) = none) (t : Int) : metL (cs.map (·.2)) t = false := by
  cases e : metL (cs.map (·.2)) t with
  | false => rfl
  | true =>
    have m := metL_iff.mp e
    rcases clash_iff hcs with ⟨_, G, hg⟩ | ⟨q, hc, _⟩
    · rw [hf] at hg
      cases hg
    · obtain ⟨c, d, h1, h2, h3⟩ := clashC_some hc
      have := agr_of (hcs _ h1) (hcs _ h2) (m c (List.mem_map.mpr ⟨_, h1, rfl⟩)) (m d (List.mem_map.mpr ⟨_, h2, rfl⟩))
      rw [this] at h3
      cases h3
theorem here_two {cs : Cks} {G : Ck} (hcs : ∀ p ∈ cs, okCk p.2 ∧ p.2.1 ≤ 8) (hf : foldAll (1, 0) (cs.map (·.2)) = some G) {P far : Int} (hP : P = prodL (cs.map (·.2))) (hfar : far = if 840 < P then 840 else P) (h1 : 1 ≤ P) : G.1 ≤ far ∧ ∃ r, hereL (cs.map (·.2)) (2 * far).toNat = G.2 :: (G.2 + G.1) :: r := by
  have hok : ∀ p ∈ cs, okCk p.2 := fun p hp => (hcs p hp).1
  obtain ⟨g1, g2, g3⟩ := foldAll_some okCk_one (fun c hc => by obtain ⟨p, hp, rfl⟩ := List.mem_map.mp hc; exact hok p hp) hf
  have d1 : G.1 ∣ 840 := (g2 840).mpr ⟨⟨840, by decide⟩, fun c hc => by
    obtain ⟨p, hp, rfl⟩ := List.mem_map.mp hc
    have a := (hok p hp).1
    have b := (hcs p hp).2
    have : ∀ n : Nat, n < 9 → 0 < n → (n : Int) ∣ 840 := by decide
    have := this p.2.1.toNat (by omega) (by omega)
    rwa [Int.toNat_of_nonneg (by omega)] at this⟩
  have d2 : G.1 ∣ P := (g2 P).mpr ⟨⟨P, (Int.one_mul P).symm⟩, fun c hc => hP ▸ (foldl_dvd _ 1).2 c hc⟩
  have l1 := Int.le_of_dvd (by decide) d1
  have l2 := Int.le_of_dvd (by omega) d2
  have le : G.1 ≤ far := by
    rw [hfar]
    split <;> omega
  refine ⟨le, ?_⟩
  obtain ⟨k1, k2, k3⟩ := g1
  obtain ⟨r, hr⟩ := filt_two (p := fun t : Nat => metL (cs.map (·.2)) (t : Int)) (a := G.2.toNat) (w := G.1.toNat) (n := (2 * far).toNat) (by omega) (by omega) (by omega) fun t => by
    have e := met_fold (t := (t : Int)) hok hf
    have key : ((t % G.1.toNat : Nat) : Int) = (t : Int) % G.1 := by rw [Int.natCast_emod, Int.toNat_of_nonneg (by omega)]
    cases q : metL (cs.map (·.2)) (t : Int) with
    | true =>
      have := e.mp q
      refine (decide_eq_true ?_).symm
      omega
    | false =>
      refine (decide_eq_false fun z => ?_).symm
      have : (t : Int) % G.1 = G.2 := by omega
      rw [e.mpr this] at q
      cases q
  refine ⟨r.map fun t : Nat => (t : Int), ?_⟩
  unfold hereL
  rw [hr, List.map_cons, List.map_cons, show ((G.2.toNat : Nat) : Int) = G.2 by omega, show ((G.2.toNat + G.1.toNat : Nat) : Int) = G.2 + G.1 by omega]
theorem py_ints : ∀ l : List Int, pyL (l.map dI) = some (l.map .int)
  | [] => rfl
  | i :: l => by
    show (py (dI i)).bind (fun q => (pyL (l.map dI)).map fun r => q :: r) = _
    rw [py_ints l]
    rfl
theorem shaped_ints (l : List Int) : SeqAt.shaped (.list (l.map .int)) = true := by
  unfold SeqAt.shaped
  rw [show PyData.canLay0 (.list (l.map .int)) = true from canLay_ints l]
  have := depth_ints l
  simp only [PyData.depth, Bool.true_and]
  exact decide_eq_true (by omega)
theorem od_eqInts0 {K : PySem.W.Frag} {l : List Int} : OpD (rEqU K) (.lst (l.map dI)) (.lst []) (dB l.isEmpty) := by
  have := od_eqUD (K := K) (x := .lst (l.map dI)) (y := .lst []) (p := .list (l.map .int)) (q := .list []) (by show (pyL (l.map dI)).map PyData.list = _; rw [py_ints]; rfl) rfl (shaped_ints l) (by rfl)
  cases l with
  | nil => exact this
  | cons c l => exact this
theorem rgC_far {f : Int} (h0 : 1 ≤ f) (h1 : f ≤ 840) : ∃ n, RgC 0 f (1 + f / 60) n := by
  have : ∀ k : Nat, k < 841 → (1 + (k : Int) / 60) ≠ 0 ∧ (1 + (k : Int) / 60).natAbs < 1073741824 ∧ Builtin.Range.small 0 (k : Int) (1 + (k : Int) / 60) = true := by decide +kernel
  have := this f.toNat (by omega)
  rw [Int.toNat_of_nonneg (by omega)] at this
  exact ⟨_, this.1, this.2.1, this.2.2, rangeSize_toNat _ _ _⟩
theorem same_mod {G : Ck} {a b : Int} (h : okCk G) (e1 : a % G.1 = G.2) (e2 : b % G.1 = G.2) (h1 : a ≤ b) (h2 : b - a < G.1) : a = b := by
  have : (b - a) % G.1 = 0 := by
    rw [Int.sub_emod, e1, e2, Int.sub_self]
    exact Int.zero_emod _
  rw [Int.emod_eq_of_lt (by omega) h2] at this
  omega
theorem ck_item {l : List Ck} {i : Nat} {x : Dt} (h : (l.map ckD)[i]? = some x) : ∃ c, l[i]? = some c ∧ x = ckD c := by
  rw [List.getElem?_map] at h
  cases q : l[i]? with
  | none =>
    rw [q] at h
    cases h
  | some c =>
    rw [q] at h
    cases h
    exact ⟨c, rfl, rfl⟩
theorem ckD_inj {c d : Ck} (h : ckD c = ckD d) : c = d := by
  obtain ⟨c1, c2⟩ := c
  obtain ⟨d1, d2⟩ := d
  cases h
  rfl
end Dn
/-! Own layer: list(d.values()), type(x) of data or an own thing, slices of tuples; what laws of laid walls need. -/
namespace Dn
open PySem PySem.Spec PySem.W PyProof.Rows L2 LamX LiI ItX
def tVals (te : TE) : TE := fun σ H Q => te σ H fun x H1 => ∃ (d : Addr) (kvs : List (Key × V)), x = .ref d ∧ Rd H1 d (.dK kvs) ∧ ∀ p, H1 p = none → Q (.ref p) (upd H1 p (.lst (kvs.map (·.2))))
theorem vlist_is {kvs : List (Key × V)} {vs : List (Key × Value)} {acc : Array Value} (kv : KV kvs vs) (h : ItemsOf (fun i v => ∃ k, vs[i]? = some (k, v)) acc vs.length) : Vals (kvs.map (·.2)) acc.toList := by
  have e : acc.toList = vs.map (·.2) := by
    refine List.ext_getElem? fun j => ?_
    rw [Array.getElem?_toList, List.getElem?_map]
    cases q : acc[j]? with
    | none =>
      have : vs.length ≤ j := by
        rw [← h.1]
        exact Array.getElem?_eq_none_iff.mp q
      rw [List.getElem?_eq_none this]
      rfl
    | some v =>
      obtain ⟨k, hk⟩ := h.2 j v q
      rw [hk]
      rfl
  rw [e]
  clear e h
  unfold KV at kv
  induction kv with
  | nil => exact .nil
  | cons h1 _ ih => exact .cons h1.2 ih
/-- list(e.values()), e perhaps locked -/
theorem pe_vlist {X : Cx} {e : Expr} {te : TE} {p apos cpos pos : Pos} (hc : X.calm = true) (he : PE X e te) (hg : Gl X "list") (hm : X.mg "list" = none) (hv : bootBuiltins "list" = some (.type "list"))
    (hbase : attributeBase e "values" X.env (eval e X.env) = eval e X.env := by rfl) (hline : (apos.endLine == cpos.line) = true := by rfl)
    (hs : starEach [.Call (.Attribute e "values" apos) [] [] cpos] X.env = (false, eval (.Call (.Attribute e "values" apos) [] [] cpos) X.env) :: starEach [] X.env := by rfl) : PE X (.Call (.Name "list" p) [.Call (.Attribute e "values" apos) [] [] cpos] [] pos) (tVals te) := by
  refine ⟨fun pins s σ H Q I hq => wpAny_Call_Name_kw (ld_blt I hg hm hv (PyProof.Rows.callWith_type1 ?_ hs rfl))⟩
  rw [hs]
  show wpAny _ _ (spliced ((false, eval (.Call (.Attribute e "values" apos) [] [] cpos) X.env) :: backTo pos (starEach [] X.env))) _ _ s
  refine Calls.spliced_cons (wpAny_Call_method (T := "dict") (id := "dict.values") hbase rfl hline F.plainAttrs_dict F.slot_dict_values F.type_dict_values (thn (he.run pins s σ H _ I hq) fun u s1 ⟨x, H1, I1, rx, d, kvs, ex, hd, q⟩ => ?_))
  subst ex
  obtain rfl : u = Value.ref d := rx
  obtain ⟨hz, hs0, vs, kv, hdo⟩ := hd.ok I1.hok
  obtain ⟨ep, hat⟩ := hdo.dictAt
  have lk : kvs.length = vs.length := KV.length kv
  refine ⟨hdo.typeIs, hdo.mapOf.noDict, (?_ : wpAny _ _ (callWith cpos (.builtin "dict.values") [.ref d] [] []) _ X.xe s1)⟩
  refine method_meetsIn F.slot_dict_values F.entry_dict_values rfl (PySem.evalArgs_none ⟨rfl, hdo.typeIs, F.args_dict_values_1 _, _, meets_dict_values (mixKind X.prog X.w) d hs0, ⟨vs, hdo⟩, Calls.spliced_nil ?_⟩)
  refine kdl_call (kdl_values (knd := mixKind X.prog X.w) (kvs := vs) (ep := ep)) (I1.ok.hd hc) ⟨⟨_, Heap.get?_push_size _ rfl, rfl, rfl⟩, hat.push _⟩ (by omega) fun h' tk acc c hk hS hacc => ?_
  have k2 : ∀ b u, s1.heap.get? b = some u → h'.get? b = some u := fun b u z => hk b u (Heap.get?_push_of_some _ z)
  refine ⟨.ref _, _, I1.laid (t' := tk) k2 (by rw [Heap.size_push]; omega) (show ObjOk X.prog X.w _ h' _ (.lst (kvs.map (·.2))) from ⟨by rw [List.length_map]; exact hz, acc.toList, c, vlist_is kv hacc, ?_⟩), rfl, q _ (I1.hok.fresh (by rw [Heap.size_push]; omega))⟩
  rw [hS]
section
variable {T : List (Addr × Str)} {K : PySem.W.Frag} {E : XK} {δ : Sto} {μ : Mu} {te ta : TE} {tl th : TO} {d : Dt} {ds : List Dt} {N : Dt → Mu → Prop} {W : WM} {lo hi : Option Int}
theorem denk_vals {H : Hv} : ∀ {kvs : List (Key × Dt)} {ks : List (Key × V)}, DenK H ks kvs → DenL H (ks.map (·.2)) (kvs.map (·.2))
  | [], _, h => by cases h; exact .nil
  | (k, d) :: kvs, _, h => by
    cases h with
    | cons h1 h2 => exact .cons h1 (denk_vals h2)
theorem evm_vlist (h : EvM T E te δ μ (fun x m => ∃ a kvs, x = .raw (.ref a) ∧ DctAt m a kvs ∧ ∀ p, m p = none → N (.raw (.ref p)) (putM m p (.lst (kvs.map (·.2))))) W) : EvM T E (tVals te) δ μ N W := fun σ s Q m S q qe =>
  h σ s _ m S (fun v t x l dx ⟨a, kvs, e, ha, n⟩ => by
    subst e
    obtain ⟨ks, rd, dk⟩ := ha.rd
    refine ⟨a, ks, dx.rawI, rd, fun p hp => ?_⟩
    obtain ⟨h1, r, e1, e2, l2⟩ := t.new_ex (o' := .lst (kvs.map (·.2))) (.lst (ks.map (·.2))) hp fun V e ug => ⟨_, by rw [e]; exact upd_same, denk_vals (dk.monoG ug)⟩
    rw [← e1]
    exact q _ r _ (l.trans l2) (.raw _) (by rw [e2]; exact n p h1)) qe
/-- a slice of a tuple, shorter than the whole -/
theorem ev_slT (h : EvS te δ (.tup ds)) (h1 : EoS tl δ lo) (h2 : EoS th δ hi) (hn : ¬ (HT.sIx ds.length 0 lo = 0 ∧ HT.sIx ds.length ds.length hi = ds.length)) : EvS (tSl (rSlT K) te tl th) δ (.tup (cutD ds lo hi)) := fun σ H Q S q =>
  h σ H _ S fun v H1 u1 d1 => h1 σ H1 _ (S.mono u1) fun H2 u2 => h2 σ H2 _ (S.mono (u1.trans u2)) fun H3 u3 => by
    obtain ⟨a, xs, rfl, ha, hl⟩ := (d1.mono (u2.trans u3)).tupI
    refine ⟨_, _, rfl, SqT.of ha, by rw [hl.len]; exact hn, fun p hp => q _ (H3.nw p _ hp) (((u1.trans u2).trans u3).trans (Up.new hp)) (.tup Hv.nw_at ?_)⟩
    have e : DenL H3 (cutV xs lo hi) (cutD ds lo hi) := by
      unfold cutV cutD
      rw [hl.len]
      exact (hl.drop _).take _
    exact e.mono (Up.new hp)
/-! type(x) is not C -/
def rTyU (K : PySem.W.Frag) : List V → Hp → VK → Prop := fun xs H Q => rTyp K xs H Q ∨ ∃ a C dx fs, xs = [V.ref a] ∧ H a = some (.ins C dx fs) ∧ Q (.ref C) H
theorem call_tyU {X : Cx} : CallR X (.type "type") (rTyU X.K) := CallR.or call_type1 cr_type
theorem ca_tyU {Ty : String} (h : tyD d = some Ty) : CaD (rTyU K) [d] (.raw (.ty Ty)) := fun vs H Q h1 q => .inl (ca_type h vs H Q h1 q)
theorem evm_typeO (h : EvM T E ta δ μ (fun x m => ∃ a C fs, x = .raw (.ref a) ∧ m a = some (.ins C fs) ∧ N (.raw (.ref C)) m) W) : EvM T E (tCB (rTyU K) (tCons ta tNil)) δ μ N W := fun σ s Q m S q qe =>
  h σ s _ m S (fun v t x l dx ⟨a, C, fs, e, ha, n⟩ => by
    subst e
    obtain ⟨dx', vs, h1, h2⟩ := MH.cell ha
    exact .inr ⟨a, C, dx', vs, by rw [dx.rawI], h1, q (.ref C) t _ l (.raw _) n⟩) qe
theorem op_noC {X : Cx} : OpR X (compareOp .IsNot) (rIsK X.K true) := op_isnotK
theorem od_noC {C : Addr} {Ty : String} (h : PySem.W.makesIn K C = true) : OpD (rIsK K true) (.raw (.ty Ty)) (.raw (.ref C)) (dB true) := fun v w H Q h1 h2 q => by
  obtain ⟨o, e, n⟩ := cls_there h
  exact ⟨C, o, h2.rawI, e, n, .inr ⟨by rw [h1.rawI]; exact trivial, q _ H exR (.raw _)⟩⟩
theorem od_isC {C : Addr} (h : PySem.W.makesIn K C = true) : OpD (rIsK K true) (.raw (.ref C)) (.raw (.ref C)) (dB false) := fun v w H Q h1 h2 q => by
  obtain ⟨o, e, n⟩ := cls_there h
  exact ⟨C, o, h2.rawI, e, n, .inl ⟨h1.rawI, q _ H exR (.raw _)⟩⟩
end
/-! what laid walls are -/
theorem setW_self {WL : Addr} {m : Mu} {a h : Addr} {g : Int} {cs : Cks} (w : IsW WL m a h g cs) : setW WL m a h g cs = m := by
  unfold setW
  rw [putM_self w.dc, putM_self w.ob]
theorem setW_setW {WL : Addr} {m : Mu} {a h : Addr} {g g' : Int} {cs cs' : Cks} (n : a ≠ h) : setW WL (setW WL m a h g cs) a h g' cs' = setW WL m a h g' cs' := by
  unfold setW
  rw [putM_comm (μ := putM m h _) (a := a) (b := h) n, putM_put, putM_put]
def layC : Int → Cks → List Ck → Cks
  | _, cs, [] => cs
  | g, cs, c :: l => layC (g + 1) (cs ++ [(g + 1, c)]) l
theorem layC_snoc : ∀ (l : List Ck) (g : Int) (cs : Cks) (c : Ck), layC g cs (l ++ [c]) = layC g cs l ++ [(g + (l.length : Int) + 1, c)]
  | [], g, cs, c => by
    show cs ++ [(g + 1, c)] = cs ++ [(g + 0 + 1, c)]
    rw [Int.add_zero]
  | d :: l, g, cs, c => by
    show layC (g + 1) (cs ++ [(g + 1, d)]) (l ++ [c]) = layC (g + 1) (cs ++ [(g + 1, d)]) l ++ [(g + ((l.length + 1 : Nat) : Int) + 1, c)]
    rw [layC_snoc l, show g + 1 + (l.length : Int) + 1 = g + ((l.length + 1 : Nat) : Int) + 1 by omega]
theorem layC_len : ∀ (l : List Ck) (g : Int) (cs : Cks), (layC g cs l).length = cs.length + l.length
  | [], g, cs => rfl
  | d :: l, g, cs => by
    show (layC (g + 1) (cs ++ [(g + 1, d)]) l).length = _
    rw [layC_len l, List.length_append]
    show cs.length + 1 + l.length = cs.length + (l.length + 1)
    omega
theorem layC_good : ∀ (l : List Ck) (g : Int) (cs : Cks), Good g cs → cs.length + l.length ≤ 60 → (∀ c ∈ l, okCk c ∧ c.1 ≤ 1000000000000000000000000000000) → Good (g + (l.length : Int)) (layC g cs l)
  | [], g, cs, h, _, _ => by
    show Good (g + 0) cs
    rw [Int.add_zero]
    exact h
  | d :: l, g, cs, h, hl, hc => by
    rw [List.length_cons] at hl
    have k := h.put (c := d) (by omega) (hc d List.mem_cons_self)
    rw [h.new] at k
    have := layC_good l (g + 1) (cs ++ [(g + 1, d)]) k (by rw [List.length_append]; show cs.length + 1 + l.length ≤ 60; omega) fun c h => hc c (List.mem_cons_of_mem _ h)
    rw [List.length_cons, show g + ((l.length + 1 : Nat) : Int) = g + 1 + (l.length : Int) by omega]
    exact this
abbrev spWallNeeded (A : Ads) : Sp := spG (α := Dt) 1 (fun x ds m => ds = [x] ∧ ((∃ Ty, tyD x = some Ty) ∨ ∃ a fs, x = .raw (.ref a) ∧ m a = some (.ins A.WL fs))) (fun x _ m d m' => (∃ a, x = .raw (.ref a)) ∧ m' = m) (fun x _ m C fs m' => (∃ Ty, tyD x = some Ty) ∧ only A.CW m C fs m')
inductive Laid where
  | data (d : Dt)
  | wall (w : Wg)
def Laid.dt : Laid → Dt
  | .data d => d
  | .wall w => .raw (.ref w.a)
def Laid.ok (WL : Addr) (m : Mu) : Laid → Prop
  | .data d => ∃ Ty, tyD d = some Ty
  | .wall w => IsW WL m w.a w.h w.g w.cs ∧ Good w.g w.cs
abbrev spLay (A : Ads) : Sp := spG (α := Wg × Laid) 2 (fun x ds m => ds = [.raw (.ref x.1.a), x.2.dt] ∧ IsW A.WL m x.1.a x.1.h x.1.g x.1.cs ∧ Good x.1.g x.1.cs ∧ x.2.ok A.WL m)
  (fun x _ m d m' => ∃ w, x.2 = .wall w ∧ x.1.cs.length + w.cs.length ≤ 60 ∧ d = dN ∧ m' = setW A.WL m x.1.a x.1.h (x.1.g + (w.cs.length : Int)) (layC x.1.g x.1.cs (w.cs.map (·.2))))
  (fun x _ m C fs m' => ((∃ d, x.2 = .data d) ∧ only A.CW m C fs m') ∨ ∃ w, x.2 = .wall w ∧ 60 < x.1.cs.length + w.cs.length ∧ only A.CM m C fs m')
abbrev spRight2 (A : Ads) : Sp := spG (α := Wg × Addr) 2 (fun x ds m => ds = [.raw (.ref x.1.a), .raw (.ref x.2)] ∧ IsW A.WL m x.1.a x.1.h x.1.g x.1.cs ∧ m x.2 = some (.dct (dctD x.1.cs)) ∧ Good x.1.g x.1.cs) (fun _ _ m d m' => d = dB true ∧ m' = m) noG
end Dn
/-! Own layer: what a wall refuses, said in words. -/
namespace Dn
open PySem PySem.Spec PyProof.Rows L2 LamX
section
variable {T : List (Addr × Str)} {K : PySem.W.Frag} {A : Ads} {E E0 : XK} {δ : Sto} {ν : Mu} {N : Dt → Mu → Prop} {W : WM} {X q : Addr} {wd : Str} {tl : XK → TE} {ws : List Dt} {i : Nat}
/-- what an error without fields is told as -/
def Told (K : PySem.W.Frag) (A : Ads) (X : Addr) (wd : Str) : Prop := PySem.W.exmOne K (.ref X) (.ref A.CF) = some true ∧ pWord2 K A [.exc X []] ∧ wordF2 K A [.exc X []] = .lst [dS wd]
theorem told_mk (h : PySem.W.exmOne K (.ref X) (.ref A.CF) = some true) (w : WordAt K A X) {us : List Bool} (u : undersOf K A X = us) {b1 b2 b3 b4 b5 : Bool} (e : us = [b1, b2, b3, b4, b5, false, false]) (f : Dt.lst (wordU us []) = .lst [dS wd]) : Told K A X wd := by
  subst e
  have uu := u_at u
  refine ⟨h, .inr ⟨_, _, rfl, w, (fun z => by rw [uu.1] at z; cases z), fun z => by rw [uu.2] at z; cases z⟩, ?_⟩
  show Dt.lst (wordU (undersOf K A X) []) = _
  rw [u]
  exact f
theorem evm_word (t : Told K A X wd) (h : ∀ E, EvM T E (tl E) δ ν (fun _ _ => False) (fun C fs m' => C = X ∧ fs = [] ∧ m' = ν)) (n : N (.lst [dS wd]) ν) : EvM T E (tCall (spWord2 K A) [] E0 (tCons (tLam T (TTkept K A.CF) tl) tNil)) δ ν N W :=
  evm_callD (eam_cons (evm_kept (W' := fun C fs m' => C = X ∧ fs = [] ∧ m' = ν) (fun E => evm_imp (h E) (fun _ _ z => z.elim) fun _ _ _ z => z) fun C fs m r => by
    obtain ⟨rfl, rfl, rfl⟩ := r
    exact ⟨t.1, eam_nil ⟨rfl, t.2.1, by rw [t.2.2]; exact n⟩⟩) fun d m r => r)
/-- told.append(word(kept(..))) -/
theorem evm_say (hi : δ[i]? = some (some (.raw (.ref q)))) (hq : ν q = some (.lst ws)) (hl : ws.length < 100000) (t : Told K A X wd) (h : ∀ E, EvM T E (tl E) δ ν (fun _ _ => False) (fun C fs m' => C = X ∧ fs = [] ∧ m' = ν)) (n : N dN (putM ν q (.lst (ws ++ [.lst [dS wd]])))) :
    EvM T E (tBM K "list" rAppend (tVar i) (tCons (tCall (spWord2 K A) [] E0 (tCons (tLam T (TTkept K A.CF) tl) tNil)) tNil)) δ ν N W :=
  evm_append (evm_of (ev_var hi) ⟨q, ws, rfl, hq, evm_word t h ⟨ws, hq, hl, n⟩⟩)
end
/-! things that are no clock, no number of the wall, no wall -/
def bad11 (h x : Int) : List Dt := [dN, dI 5, dS "12", .lst [dI h, dI x], .tup [dI h], .tup [dI h, dI x, dI 0], .tup [dI 0, dI 0], .tup [dI h, dI h], .tup [dB true, dI 0], .tup [dI 3, dS "1"], .dct []]
theorem bad11_is {h x : Int} (h1 : 1 ≤ h) : ∀ d ∈ bad11 h x, okTh d ∧ isClock d = false := fun d hd => by
  unfold bad11 at hd
  simp only [List.mem_cons, List.not_mem_nil, or_false] at hd
  rcases hd with q | q | q | q | q | q | q | q | q | q | q <;> subst q <;> refine ⟨⟨⟨_, rfl⟩, fun a b z => ?_⟩, ?_⟩ <;> first | rfl | (cases z; exact ⟨⟨_, rfl⟩, ⟨_, rfl⟩⟩) | (cases z; done) | (unfold isClock; simp)
theorem val_out {g : Int} {cs : Cks} {n : Int} (hg : Good g cs) (h : n < 1 ∨ g < n) : valC cs n = none := by
  cases e : valC cs n with
  | none => rfl
  | some c =>
    have := hg.lo _ (any_val e).2
    dsimp only at this
    omega
def far9 (g n : Int) : List Dt := [dI 0, dI (g + 1), dI (g + 2 + n / 11), dI (-1), dB true, dN, dS "1", .lst [dI 1], .tup [dI 1]]
theorem far9_is {g n : Int} {cs : Cks} (hg : Good g cs) (h0 : 0 ≤ n) : ∀ d ∈ far9 g n, (∃ Ty, tyD d = some Ty) ∧ look cs d = none := fun d hd => by
  have out : ∀ k : Int, k < 1 ∨ g < k → look cs (dI k) = none := fun k hk => by
    rw [look_int, val_out hg hk]
    rfl
  unfold far9 at hd
  simp only [List.mem_cons, List.not_mem_nil, or_false] at hd
  rcases hd with q | q | q | q | q | q | q | q | q <;> subst q <;> refine ⟨⟨_, rfl⟩, ?_⟩ <;> first | rfl | exact out _ (by omega)
def odd6 (n : Int) : List Dt := [dN, dB true, dS "0", .lst [dI 0], dI (-1), dI (-1 - n)]
theorem odd6_is {n : Int} (h0 : 0 ≤ n) : ∀ d ∈ odd6 n, (∃ Ty, tyD d = some Ty) ∧ ∀ h : Int, isClock (.tup [dI h, d]) = false := fun d hd => by
  unfold odd6 at hd
  simp only [List.mem_cons, List.not_mem_nil, or_false] at hd
  rcases hd with q | q | q | q | q | q <;> subst q <;> refine ⟨⟨_, rfl⟩, fun h => ?_⟩ <;> first | rfl | (unfold isClock; simp; done) | (unfold isClock; simp; omega)
theorem odd6_solid {n : Int} : ∀ d ∈ odd6 n, solid false d = true := fun d hd => by
  unfold odd6 at hd
  simp only [List.mem_cons, List.not_mem_nil, or_false] at hd
  rcases hd with q | q | q | q | q | q <;> subst q <;> rfl
theorem odd3_is {n h : Int} {d : Dt} (h0 : 0 ≤ n) (hd : (∃ Ty, tyD d = some Ty) ∧ ∀ h : Int, isClock (.tup [dI h, d]) = false) : ∀ e ∈ [d, dI h, dI (h + n)], (∃ Ty, tyD e = some Ty) ∧ isClock (.tup [dI h, e]) = false := fun e he => by
  simp only [List.mem_cons, List.not_mem_nil, or_false] at he
  rcases he with q | q | q <;> subst q
  · exact ⟨hd.1, hd.2 h⟩
  · exact ⟨⟨_, rfl⟩, by unfold isClock; simp⟩
  · refine ⟨⟨_, rfl⟩, ?_⟩
    unfold isClock
    simp
    omega
def lay7 (c : Ck) : List Dt := [dN, dI 5, .lst [], .dct [], dS "wall", ckD c, dB true]
theorem lay7_is {c : Ck} : ∀ d ∈ lay7 c, ∃ Ty, tyD d = some Ty := fun d hd => by
  unfold lay7 at hd
  simp only [List.mem_cons, List.not_mem_nil, or_false] at hd
  rcases hd with q | q | q | q | q | q | q <;> subst q <;> exact ⟨_, rfl⟩
def show4 : List Dt := [dN, dB true, dS "1", .lst [dI 1]]
theorem show4_is : ∀ d ∈ show4, (∃ Ty, tyD d = some Ty) ∧ isNum d = false := fun d hd => by
  unfold show4 at hd
  simp only [List.mem_cons, List.not_mem_nil, or_false] at hd
  rcases hd with q | q | q | q <;> subst q <;> exact ⟨⟨_, rfl⟩, rfl⟩
theorem od_neInts0 {K : PySem.W.Frag} {l : List Int} : OpD (rNeU K) (.lst (l.map dI)) (.lst []) (dB (!l.isEmpty)) := by
  have := od_neUD (K := K) (x := .lst (l.map dI)) (y := .lst []) (p := .list (l.map .int)) (q := .list []) (by show (pyL (l.map dI)).map PyData.list = _; rw [py_ints]; rfl) rfl (shaped_ints l) (by rfl)
  cases l with
  | nil => exact this
  | cons c l => exact this
/-- the numbers that are gone -/
def goneF (cs : Cks) : Dt → Option Dt
  | .raw (.int n) => if valC cs n = none then some (dI n) else none
  | _ => none
theorem gone_ints {cs : Cks} {lo : Int} {n : Nat} : ∃ l : List Int, (rgD lo n).filterMap (goneF cs) = l.map dI ∧ l.length ≤ n ∧ ∀ k ∈ l, valC cs k = none := by
  unfold rgD
  rw [List.filterMap_map]
  generalize hr : List.range n = r
  have hl : r.length = n := by rw [← hr, List.length_range]
  clear hr
  induction r generalizing n with
  | nil => exact ⟨[], rfl, Nat.zero_le _, fun k hk => nomatch hk⟩
  | cons t r ih =>
    obtain ⟨l, e, h1, h2⟩ := ih (n := r.length) rfl
    have hn : r.length + 1 = n := hl
    by_cases h : valC cs (lo + (t : Int)) = none
    · refine ⟨(lo + (t : Int)) :: l, ?_, by show l.length + 1 ≤ n; omega, fun k hk => ?_⟩
      · rw [List.filterMap_cons_some (f := goneF cs ∘ fun i : Nat => dI (lo + (i : Int))) (a := t) (b := dI (lo + (t : Int))) (show goneF cs (dI (lo + (t : Int))) = _ from if_pos h), e]
        rfl
      · rcases List.mem_cons.mp hk with rfl | hk
        · exact h
        · exact h2 k hk
    · refine ⟨l, ?_, by omega, h2⟩
      rw [List.filterMap_cons_none (f := goneF cs ∘ fun i : Nat => dI (lo + (i : Int))) (a := t) (show goneF cs (dI (lo + (t : Int))) = _ from if_neg h), e]
abbrev refP (A : Ads) (x : Wg × Addr × Int) (ds : List Dt) (m : Mu) : Prop := ds = [.raw (.ref x.1.a), .raw (.ref x.2.1), dI x.1.g, dI x.2.2] ∧ IsW A.WL m x.1.a x.1.h x.1.g x.1.cs ∧ m x.2.1 = some (.dct (dctD x.1.cs)) ∧ Good x.1.g x.1.cs ∧ x.1.g ≤ 10000 ∧ 0 ≤ x.2.2
def growN {α : Type} (_ : α) (_ : List Dt) (m : Mu) (d : Dt) (m' : Mu) : Prop := d = dB true ∧ Grow m m'
theorem lc_fresh {K : PySem.W.Frag} {δ : Sto} {vs : List Nat} {tl te : TE} {tt : TT} {g : TG} {ds : List Dt} (f : Dt → Option Dt) (h : EvS tl δ (.lst ds)) (hz : ds.length ≤ 40000) (hn : noLstL (ds.filterMap f) = true)
    (hb : ∀ d, d ∈ ds → ∃ δ' b, GdS g vs d (wipeD δ vs) δ' ∧ EtS tt δ' b ∧ (b = true → ∃ e, EvS te δ' e ∧ f d = some e) ∧ (b = false → f d = none)) : ∀ (σ : L2.St) (H : Hv) (Q : VK), DenS H σ δ → (∀ (D : Addr) (H' : Hv) (acc : List V), Up H H' → H.H D = none → H'.G D = some (.lst acc) → DenL H' acc (ds.filterMap f) → Q (.ref D) H'.H) → tLc (iList K tl) g tt te vs σ H.H Q := by
  intro σ H Q S q
  refine h σ H _ S fun v H1 e1 d1 => ?_
  obtain ⟨a, xs, rfl, ha, hl⟩ := d1.lstI
  refine ⟨a, rfl, ⟨xs, SqL.of ha⟩, fun D hD => ?_⟩
  have sub : ∀ i, noLstL ((ds.take i).filterMap f) = true := fun i => by
    have e : ds.filterMap f = (ds.take i).filterMap f ++ (ds.drop i).filterMap f := by rw [← List.filterMap_append, List.take_append_drop]
    rw [e] at hn
    clear e
    revert hn
    generalize (ds.take i).filterMap f = l
    intro hn
    induction l with
    | nil => rfl
    | cons d l ih =>
      have hn' : noLstL (d :: (l ++ (ds.drop i).filterMap f)) = true := hn
      unfold noLstL at hn' ⊢
      have h2 := Bool.and_eq_true_iff.mp hn'
      rw [h2.1, ih h2.2] <;> rfl
  refine lc_list (xs := xs) (fun i h' => ∃ H' : Hv, H'.H = h' ∧ Up H1 H' ∧ ∃ acc, H'.G D = some (.lst acc) ∧ DenL H' acc ((ds.take i).filterMap f) ∧ acc.length ≤ i) ⟨H1.nw D _ hD, rfl, Up.new hD, [], Hv.nw_at, by simpa using DenL.nil, Nat.le_refl _⟩ (fun i h' _ p => by obtain ⟨H', rfl, p, _⟩ := p; exact SqL.of (p.e _ _ ha)) (fun i x h' hx p => ?_) fun h' p => ?_
  · obtain ⟨H', rfl, e2, acc, hacc, dacc, lacc⟩ := p
    obtain ⟨d, hd, dx⟩ := hl.getV hx
    obtain ⟨δ', b, hg, ht, hy, hno⟩ := hb d (List.mem_of_getElem? hd)
    have S1 : DenS H' (wipe σ vs) (wipeD δ vs) := (S.mono (e1.trans e2)).wiped vs
    have hil : i < ds.length := (List.getElem?_eq_some_iff.mp hd).1
    have tk : ds.take (i + 1) = ds.take i ++ [d] := by rw [List.take_succ, hd] <;> rfl
    refine hg x σ H' _ S1 (dx.mono e2) fun σ2 w2 S2 => ⟨w2, ht σ2 H' _ S2 fun H3 e3 => ?_⟩
    cases b with
    | true =>
      show te σ2 H3.H _
      obtain ⟨e, he, hf⟩ := hy rfl
      have ft : (ds.take (i + 1)).filterMap f = (ds.take i).filterMap f ++ [e] := by rw [tk, List.filterMap_append, List.filterMap_cons_some hf, List.filterMap_nil]
      refine he σ2 H3 _ (S2.mono e3) fun y H4 e4 dy => ?_
      have h4 := e4.g _ _ (e3.g _ _ hacc)
      refine ⟨acc, Hv.sub h4, Evl.sz_lt (by omega), H4.pt D _ (Hv.sub h4), rfl, ⟨Evl.Ex.mut ((e2.trans e3).trans e4).e hD, ((e2.trans e3).trans e4).a⟩, acc ++ [y], Hv.pt_at (Hv.off h4), ?_, by rw [List.length_append]; exact Nat.add_le_add_right lacc 1⟩
      rw [ft]
      have dall : DenL H4 (acc ++ [y]) ((ds.take i).filterMap f ++ [e]) := (dacc.mono (e3.trans e4)).app (.cons dy .nil)
      refine dall.updL (acc := acc) h4 ?_
      rw [← ft]
      exact sub (i + 1)
    | false =>
      have ft : (ds.take (i + 1)).filterMap f = (ds.take i).filterMap f := by rw [tk, List.filterMap_append, List.filterMap_cons_none (hno rfl), List.filterMap_nil, List.append_nil]
      refine ⟨H3, rfl, e2.trans e3, acc, e3.g _ _ hacc, ?_, Nat.le_succ_of_le lacc⟩
      rw [ft]
      exact dacc.mono e3
  · obtain ⟨H', rfl, e2, acc, hacc, dacc, _⟩ := p
    have e : ds.take xs.length = ds := by rw [hl.len, List.take_length]
    rw [e] at dacc
    refine q D H' acc (e1.trans e2) ?_ hacc dacc
    cases z : H.H D with
    | none => rfl
    | some v =>
      rw [e1.e _ _ z] at hD
      cases hD

/-- a comprehension over cells seen through: the new list is data -/
theorem evm_lcV {T : List (Addr × Str)} {K : PySem.W.Frag} {E : XK} {δ δ' : Sto} {μ : Mu} {N : Dt → Mu → Prop} {W : WM} {vs : List Nat} {tl te : TE} {tt : TT} {g : TG} {ds : List Dt} (V : VwS μ (if true = true then kindL μ else kindD μ) δ δ') (f : Dt → Option Dt) (h : EvS tl δ' (.lst ds)) (hz : ds.length ≤ 40000) (hn : noLstL (ds.filterMap f) = true)
    (hb : ∀ d, d ∈ ds → ∃ δ2 b, GdS g vs d (wipeD δ' vs) δ2 ∧ EtS tt δ2 b ∧ (b = true → ∃ e, EvS te δ2 e ∧ f d = some e) ∧ (b = false → f d = none)) (sd : solidL true (ds.filterMap f) = true) (n : N (.lst (ds.filterMap f)) μ) : EvM T E (tLc (iList K tl) g tt te vs) δ μ N W := fun σ s Q m S q _ => by
  subst m
  refine lc_fresh f h hz hn hb σ (s.H.less _) Q (V.den s.own S) fun D H' acc u hD hacc dacc => ?_
  have ue : Evl.Ex s.H.H H'.H := u.e
  have u' : Up s.H (s.H.upTo H'.H ue) := ⟨ue, rfl⟩
  have e : H' = (s.H.upTo H'.H ue).less (if true = true then kindL s.μ else kindD s.μ) := by
    obtain ⟨H1, A1, f1⟩ := H'
    have ea : A1 = _ := u.a
    subst ea
    rfl
  rw [e] at hacc dacc
  exact q (.ref D) (s.up _ u') _ (s.le_up u') (.lst (Hv.gOf (V := s.H.upTo H'.H ue) (show (s.H.upTo H'.H ue).H D = some (.lst acc) from Hv.sub (V := (s.H.upTo H'.H ue).less (if true = true then kindL s.μ else kindD s.μ)) hacc) fun z => s.H.f D z hD) (dacc.back (only_kind (s.own.up u') true) sd)) n
/-- the clocks of a dict, by their numbers -/
def takeF (cs : Cks) : Dt → Option Dt
  | .raw (.int n) => (valC cs n).map ckD
  | _ => none
theorem takeF_all {cs : Cks} : ∀ l : Cks, (∀ p ∈ l, valC cs p.1 = some p.2) → ((l.map (·.1)).map dI).filterMap (takeF cs) = (l.map (·.2)).map ckD
  | [], _ => rfl
  | p :: l, h => by
    have e : takeF cs (dI p.1) = some (ckD p.2) := by
      show (valC cs p.1).map ckD = _
      rw [h p List.mem_cons_self]
      rfl
    rw [List.map_cons, List.map_cons, List.filterMap_cons_some e, takeF_all l fun q hq => h q (List.mem_cons_of_mem _ hq)]
    rfl
theorem val_mem {cs : Cks} {p : Int × Ck} (nd : (cs.map (·.1)).Nodup) (h : p ∈ cs) : valC cs p.1 = some p.2 := by
  obtain ⟨i, hi⟩ := List.mem_iff_getElem?.mp h
  exact val_at nd hi
theorem solid_cks {b : Bool} : ∀ l : List Ck, solidL b (l.map ckD) = true
  | [] => rfl
  | c :: l => by
    show (solid b (ckD c) && solidL b (l.map ckD)) = true
    rw [solid_cks l]
    rfl
structure Olb where
  fw : Bool → Wg
  fo : Bool → Addr × Cks
  fg : Bool → Int
  (sa oa ga : Addr)
  (b c : Bool)
def laidP (A : Ads) (x : Olb) (ds : List Dt) (m : Mu) : Prop := ds = [.raw (.ref x.sa), .raw (.ref x.oa), dI (x.fg x.b), dI (ixb x.b), dI (ixb x.c)] ∧ Two A.WL m x.sa x.oa x.ga x.fw x.fo x.fg ∧ Same2 x.fw x.fo x.fg
def laidN (A : Ads) (x : Olb) (_ : List Dt) (m : Mu) (d : Dt) (m' : Mu) : Prop := ∃ g cs, d = dI g ∧ Good g cs ∧ x.fg x.b ≤ g ∧ g ≤ x.fg x.b + 60 ∧ m' = putM (setW A.WL m (x.fw x.b).a (x.fw x.b).h g cs) (x.fo x.b).1 (.dct (dctD cs))
end Dn
/-! Own layer: texts, in plain mathematics: numerals, rows, what a text is read as. -/
namespace Dn
open PySem PySem.Spec PyProof.Rows L2 TL NumText
/-- a numeral: figures, no needless 0 ahead, 31 of them at most -/
def okN (l : List Nat) : Bool := decide (l.length ≤ 31) && decide (numL (digitsVal l) = l)
theorem okN_digs {l : List Nat} (h : okN l = true) : AllDigits l ∧ l ≠ [] ∧ l.length ≤ 31 := by
  obtain ⟨h1, h2⟩ := Bool.and_eq_true_iff.mp h
  have e := of_decide_eq_true h2
  exact ⟨by rw [← e]; exact numL_digits _, by rw [← e]; exact numL_ne _, of_decide_eq_true h1⟩
theorem numL_head : ∀ (k n : Nat), n ≤ k → 1 ≤ n → ∃ c r, numL n = c :: r ∧ 49 ≤ c
  | 0, n, h, h1 => by omega
  | k + 1, n, h, h1 => by
    by_cases z : n < 10
    · exact ⟨48 + n, [], numL_lt z, by omega⟩
    · obtain ⟨c, r, e, hc⟩ := numL_head k (n / 10) (by omega) (by omega)
      exact ⟨c, r ++ [48 + n % 10], by rw [numL_step (by omega), e]; rfl, hc⟩
theorem fig_back : ∀ c, c < 58 → (Char.ofNat c).toNat = c := by decide
theorem lead_ok {l : List Nat} (hd : AllDigits l) (hne : l ≠ []) (hz : l = [48] ∨ l.head? ≠ some 48) : numL (digitsVal l) = l := by
  by_cases z : l = [48]
  · subst z
    exact numL_lt (by decide)
  have hz : l.head? ≠ some 48 := hz.elim (fun e => absurd e z) id
  unfold numL
  match l, hne with
  | c :: r, _ =>
    have hc := hd.head
    have c9 : 49 ≤ c := by
      have : c ≠ 48 := fun e => hz (by rw [e]; rfl)
      omega
    rw [toDigits_digitsVal r.length (c :: r) rfl hd (.inr ⟨c, r, rfl, c9⟩), List.map_map]
    refine (List.map_congr_left fun x hx => ?_).trans (List.map_id _)
    exact fig_back x (by have := hd x hx; omega)
theorem lead_bad {l : List Nat} (h : numL (digitsVal l) = l) : l = [48] ∨ l.head? ≠ some 48 := by
  by_cases z : digitsVal l = 0
  · rw [z] at h
    exact .inl (h.symm.trans (numL_lt (by decide)))
  · obtain ⟨c, r, e, hc⟩ := numL_head _ (digitsVal l) (Nat.le_refl _) (by omega)
    rw [h] at e
    subst e
    refine .inr fun z => ?_
    have : c = 48 := Option.some.inj z
    omega
/-- as a program that looks at the first sign says it -/
theorem okN_iff {l : List Nat} (hd : AllDigits l) (hne : l ≠ []) (hl : l.length ≤ 31) : okN l = decide (l = [48] ∨ l.head? ≠ some 48) := by
  unfold okN
  rw [decide_eq_true hl, Bool.true_and]
  by_cases z : l = [48] ∨ l.head? ≠ some 48
  · rw [decide_eq_true z, decide_eq_true (lead_ok hd hne z)]
  · rw [decide_eq_false z, decide_eq_false fun e => z (lead_bad e)]
theorem okN_num {n : Nat} (h : n < 10 ^ 31) : okN (numL n) = true := by
  unfold okN
  rw [numL_val, decide_eq_true rfl, decide_eq_true (numL_len (by decide) h)]
  rfl
/-- the number that a word writes -/
def readN (w : Str) : Option Int := if okN (tl w) = true then some ((digitsVal (tl w) : Nat) : Int) else none
/-- the numeral of a number -/
def nS (i : Int) : Str := Str.ofString (toString i)
theorem tl_nS {i : Int} (h : 0 ≤ i) : tl (nS i) = numL i.toNat := by
  have e : i = ((i.toNat : Nat) : Int) := by omega
  unfold nS
  rw [e, tl_num]
  rfl
theorem readN_nS {i : Int} (h : 0 ≤ i) (h1 : i ≤ 1000000000000000000000000000000) : readN (nS i) = some i := by
  unfold readN
  rw [tl_nS h, okN_num (Nat.lt_of_le_of_lt (show i.toNat ≤ 1000000000000000000000000000000 by omega) (by decide)), if_pos rfl, numL_val]
  congr 1
  omega
theorem nS_len {i : Int} (h : 0 ≤ i) (h1 : i ≤ 1000000000000000000000000000000) : (nS i).length ≤ 31 := by
  rw [len_tl, tl_nS h]
  exact numL_len (by decide) (Nat.lt_of_le_of_lt (show i.toNat ≤ 1000000000000000000000000000000 by omega) (by decide))
theorem nS_free {i : Int} {s : Nat} (h : 0 ≤ i) (hs : s < 48 ∨ 57 < s) : s ∉ tl (nS i) := by
  rw [tl_nS h]
  exact numL_free hs
theorem readN_nonneg {w : Str} {n : Int} (h : readN w = some n) : 0 ≤ n ∧ nS n = w := by
  unfold readN at h
  split at h
  · rename_i e
    have h := Option.some.inj h
    subst h
    refine ⟨by omega, ext_tl ?_⟩
    rw [tl_nS (by omega)]
    exact of_decide_eq_true (Bool.and_eq_true_iff.mp e).2
  · cases h
abbrev bl : Str := " "
abbrev lf : Str := "\n"
theorem tl_bl : tl bl = [32] := by decide +kernel
theorem tl_lf : tl lf = [10] := by decide +kernel
theorem tl_clock : tl ("clock" : Str) = [99, 108, 111, 99, 107] := by decide +kernel
theorem tl_given : tl ("given" : Str) = [103, 105, 118, 101, 110] := by decide +kernel
/-! rows -/
def optN (o : Option Int) : Prop := True
def clockIn (n h x : Option Int) : Option (Int × Ck) := match n, h, x with
  | some n, some h, some x => if n ≤ 1000000000 ∧ 1 ≤ h ∧ h ≤ 1000000000000000000000000000000 ∧ x < h then some (n, (h, x)) else none
  | _, _, _ => none
def wordsC (ws : List Str) : Option (Int × Ck) := match ws with
  | [w, a, b, c] => if w = ("clock" : Str) then clockIn (readN a) (readN b) (readN c) else none
  | _ => none
def wordsG (ws : List Str) : Option Int := match ws with
  | [w, a] => if w = ("given" : Str) then (match readN a with | some n => if n ≤ 1000000000 then some n else none | none => none) else none
  | _ => none
def readC (r : Str) : Option (Int × Ck) := wordsC (Txt.split r bl)
def readG (r : Str) : Option Int := wordsG (Txt.split r bl)
def lastN (cs : Cks) : Int := match cs.getLast? with | some p => p.1 | none => 0
def leadC : Cks → List Str → Cks
  | acc, [] => acc
  | acc, r :: rs => match readC r with
    | some p => if p.1 ≤ lastN acc ∨ acc.length = 60 then acc else leadC (acc ++ [p]) rs
    | none => acc
/-- the clocks and the greatest number given, or the first row that can't stand -/
def tailW (rows : List Str) (cs : Cks) : Except Int (Cks × Int) :=
  match (rows[cs.length]?).bind readG with
  | none => .error ((cs.length : Int) + 1)
  | some g => if g < lastN cs then .error ((cs.length : Int) + 1) else if cs.length + 1 < rows.length then .error ((cs.length : Int) + 2) else .ok (cs, g)
def readW (rows : List Str) : Except Int (Cks × Int) := tailW rows (leadC [] rows)
def rowC (p : Int × Ck) : Str := Txt.join bl [("clock" : Str), nS p.1, nS p.2.1, nS p.2.2]
def rowG (g : Int) : Str := Txt.join bl [("given" : Str), nS g]
def rowsW (cs : Cks) (g : Int) : List Str := cs.map rowC ++ [rowG g]
def textW (cs : Cks) (g : Int) : Str := Txt.join lf (rowsW cs g)
theorem bl_kind : bl.cps.all (· < 256) = true := by decide +kernel
theorem lf_kind : lf.cps.all (· < 256) = true := by decide +kernel
theorem readC_row {p : Int × Ck} (h1 : 1 ≤ p.1) (h2 : p.1 ≤ 1000000000) (h : okCk p.2 ∧ p.2.1 ≤ 1000000000000000000000000000000) : readC (rowC p) = some p := by
  obtain ⟨n, hh, x⟩ := p
  obtain ⟨⟨k1, k2, k3⟩, k4⟩ := h
  dsimp only at h1 h2 k1 k2 k3 k4
  unfold readC rowC
  rw [split_join tl_bl bl_kind (by simp) fun q hq => ?_]
  · show (if ("clock" : Str) = ("clock" : Str) then clockIn (readN (nS n)) (readN (nS hh)) (readN (nS x)) else none) = _
    rw [if_pos rfl, readN_nS (by omega) (by omega), readN_nS (by omega) (by omega), readN_nS (by omega) (by omega)]
    exact if_pos ⟨h2, k1, k4, k3⟩
  · simp only [List.mem_cons, List.not_mem_nil, or_false] at hq
    rcases hq with rfl | rfl | rfl | rfl
    · rw [tl_clock]
      decide
    · exact nS_free (by omega) (.inl (by decide))
    · exact nS_free (by omega) (.inl (by decide))
    · exact nS_free (by omega) (.inl (by decide))
theorem split_rowG {g : Int} (h0 : 0 ≤ g) : Txt.split (rowG g) bl = [("given" : Str), nS g] := by
  unfold rowG
  refine split_join tl_bl bl_kind (by simp) fun q hq => ?_
  simp only [List.mem_cons, List.not_mem_nil, or_false] at hq
  rcases hq with rfl | rfl
  · rw [tl_given]
    decide
  · exact nS_free h0 (.inl (by decide))
theorem readC_given {g : Int} (h0 : 0 ≤ g) : readC (rowG g) = none := by
  unfold readC
  rw [split_rowG h0]
  rfl
theorem readG_given {g : Int} (h0 : 0 ≤ g) (h1 : g ≤ 1000000000) : readG (rowG g) = some g := by
  unfold readG
  rw [split_rowG h0]
  show (if ("given" : Str) = ("given" : Str) then (match readN (nS g) with | some n => if n ≤ 1000000000 then some n else none | none => none) else none) = _
  rw [if_pos rfl, readN_nS h0 (by omega)]
  exact if_pos h1
theorem lastN_snoc {cs : Cks} {p : Int × Ck} : lastN (cs ++ [p]) = p.1 := by
  unfold lastN
  rw [List.getLast?_concat]
theorem lead_rows {g : Int} : ∀ (cs acc : Cks), Good g (acc ++ cs) → g ≤ 1000000000 → leadC acc (cs.map rowC ++ [rowG g]) = acc ++ cs
  | [], acc, h, h1 => by
    show (match readC (rowG g) with | some p => if p.1 ≤ lastN acc ∨ acc.length = 60 then acc else leadC (acc ++ [p]) [] | none => acc) = _
    rw [readC_given h.g0, List.append_nil]
  | p :: cs, acc, h, h1 => by
    have hp : p ∈ acc ++ p :: cs := List.mem_append_right _ List.mem_cons_self
    have l := h.lo p hp
    show (match readC (rowC p) with | some p => if p.1 ≤ lastN acc ∨ acc.length = 60 then acc else leadC (acc ++ [p]) (cs.map rowC ++ [rowG g]) | none => acc) = _
    rw [readC_row l.1 (by omega) (h.ok p hp)]
    have n : ¬ (p.1 ≤ lastN acc ∨ acc.length = 60) := by
      rintro (z | z)
      · unfold lastN at z
        cases q : acc.getLast? with
        | none => rw [q] at z; dsimp only at z; omega
        | some r =>
          rw [q] at z
          dsimp only at z
          have hr : r ∈ acc := List.mem_of_getLast? q
          have u := h.up
          rw [List.map_append] at u
          have := (List.pairwise_append.mp u).2.2 r.1 (List.mem_map_of_mem hr) p.1 (by simp)
          omega
      · have := h.le
        rw [List.length_append, List.length_cons] at this
        omega
    show (if p.1 ≤ lastN acc ∨ acc.length = 60 then acc else leadC (acc ++ [p]) (cs.map rowC ++ [rowG g])) = _
    rw [if_neg n, lead_rows cs (acc ++ [p]) (by rw [List.append_assoc]; exact h) h1, List.append_assoc]
    rfl
theorem readW_rows {g : Int} {cs : Cks} (h : Good g cs) (h1 : g ≤ 1000000000) : readW (rowsW cs g) = .ok (cs, g) := by
  have e : leadC [] (rowsW cs g) = cs := lead_rows cs [] h h1
  unfold readW
  rw [e]
  unfold tailW
  have l : (rowsW cs g)[cs.length]? = some (rowG g) := by
    unfold rowsW
    rw [List.getElem?_append_right (by rw [List.length_map]; exact Nat.le_refl _), List.length_map, Nat.sub_self]
    rfl
  rw [l]
  show (match readG (rowG g) with | none => _ | some g => _) = _
  rw [readG_given h.g0 h1]
  dsimp only
  rw [if_neg, if_neg]
  · unfold rowsW
    rw [List.length_append, List.length_map]
    exact Nat.lt_irrefl _
  · unfold lastN
    cases q : cs.getLast? with
    | none => have := h.g0; dsimp only; omega
    | some r => have := (h.lo r (List.mem_of_getLast? q)).2; dsimp only; omega
theorem rowC_free {p : Int × Ck} (h1 : 1 ≤ p.1) (h : okCk p.2) : 10 ∉ tl (rowC p) := by
  obtain ⟨k1, k2, k3⟩ := h
  unfold rowC
  rw [join_eq, tl_join]
  show 10 ∉ tl ("clock" : Str) ++ (tl bl ++ (tl (nS p.1) ++ (tl bl ++ (tl (nS p.2.1) ++ (tl bl ++ tl (nS p.2.2))))))
  have a1 := nS_free (i := p.1) (s := 10) (by omega) (.inl (by decide))
  have a2 := nS_free (i := p.2.1) (s := 10) (by omega) (.inl (by decide))
  have a3 := nS_free (i := p.2.2) (s := 10) (by omega) (.inl (by decide))
  rw [tl_clock, tl_bl]
  simp only [List.mem_append, not_or]
  exact ⟨by decide, by decide, a1, by decide, a2, by decide, a3⟩
theorem rowG_free {g : Int} (h0 : 0 ≤ g) : 10 ∉ tl (rowG g) := by
  unfold rowG
  rw [join_eq, tl_join]
  show 10 ∉ tl ("given" : Str) ++ (tl bl ++ tl (nS g))
  rw [tl_given, tl_bl]
  simp only [List.mem_append, not_or]
  exact ⟨by decide, by decide, nS_free h0 (.inl (by decide))⟩
theorem split_text {g : Int} {cs : Cks} (h : Good g cs) : Txt.split (textW cs g) lf = rowsW cs g := by
  unfold textW
  refine split_join tl_lf lf_kind (by unfold rowsW; simp) fun q hq => ?_
  rcases List.mem_append.mp hq with hq | hq
  · obtain ⟨p, hp, rfl⟩ := List.mem_map.mp hq
    exact rowC_free (h.lo p hp).1 (h.ok p hp).1
  · rw [List.mem_singleton.mp hq]
    exact rowG_free h.g0
/-! what is read is good -/
theorem clockIn_inv {a b c : Option Int} {p : Int × Ck} (h : clockIn a b c = some p) : a = some p.1 ∧ b = some p.2.1 ∧ c = some p.2.2 ∧ p.1 ≤ 1000000000 ∧ 1 ≤ p.2.1 ∧ p.2.1 ≤ 1000000000000000000000000000000 ∧ p.2.2 < p.2.1 := by
  unfold clockIn at h
  split at h
  · split at h
    · rename_i q
      have h := Option.some.inj h
      subst h
      exact ⟨rfl, rfl, rfl, q⟩
    · cases h
  · cases h
theorem wordsC_inv {ws : List Str} {p : Int × Ck} (h : wordsC ws = some p) : ∃ a b c, ws = [("clock" : Str), a, b, c] ∧ readN a = some p.1 ∧ readN b = some p.2.1 ∧ readN c = some p.2.2 ∧ 0 ≤ p.1 ∧ p.1 ≤ 1000000000 ∧ okCk p.2 ∧ p.2.1 ≤ 1000000000000000000000000000000 := by
  unfold wordsC at h
  split at h
  · split at h
    · rename_i e
      obtain ⟨h1, h2, h3, h4, h5, h6, h7⟩ := clockIn_inv h
      exact ⟨_, _, _, by rw [e], h1, h2, h3, (readN_nonneg h1).1, h4, ⟨h5, (readN_nonneg h3).1, h7⟩, h6⟩
    · cases h
  · cases h
theorem Good.mono {g k : Int} {cs : Cks} (h : Good g cs) (hk : g ≤ k) : Good k cs := ⟨h.up, fun p hp => ⟨(h.lo p hp).1, Int.le_trans (h.lo p hp).2 hk⟩, h.ok, Int.le_trans h.g0 hk, h.le⟩
theorem Good.snoc {g : Int} {cs : Cks} {p : Int × Ck} (h : Good g cs) (h1 : g < p.1) (h2 : okCk p.2 ∧ p.2.1 ≤ 1000000000000000000000000000000) (hl : cs.length < 60) : Good p.1 (cs ++ [p]) := by
  have g0 := h.g0
  refine ⟨?_, fun q hq => ?_, fun q hq => ?_, by omega, by rw [List.length_append]; exact hl⟩
  · rw [List.map_append]
    refine List.pairwise_append.mpr ⟨h.up, List.pairwise_singleton _ _, fun a ha b hb => ?_⟩
    obtain ⟨q, hq, rfl⟩ := List.mem_map.mp ha
    have := (h.lo q hq).2
    rcases List.mem_singleton.mp hb with rfl
    show q.1 < p.1
    omega
  · rcases List.mem_append.mp hq with z | z
    · have := h.lo q z
      exact ⟨this.1, by omega⟩
    · rcases List.mem_singleton.mp z with rfl
      exact ⟨by omega, Int.le_refl _⟩
  · rcases List.mem_append.mp hq with z | z
    · exact h.ok q z
    · rcases List.mem_singleton.mp z with rfl
      exact h2
theorem lead_good : ∀ (rows : List Str) (acc : Cks), Good (lastN acc) acc → Good (lastN (leadC acc rows)) (leadC acc rows)
  | [], acc, h => h
  | r :: rs, acc, h => by
    unfold leadC
    cases q : readC r with
    | none => exact h
    | some p =>
      dsimp only
      obtain ⟨_, _, _, _, _, _, _, _, _, h3, h4⟩ := wordsC_inv q
      by_cases z : p.1 ≤ lastN acc ∨ acc.length = 60
      · rw [if_pos z]
        exact h
      · rw [if_neg z]
        refine lead_good rs _ ?_
        rw [lastN_snoc]
        exact h.snoc (by omega) ⟨h3, h4⟩ (by have := h.le; omega)
theorem good_nil : Good (lastN []) [] := ⟨.nil, (fun p h => nomatch h), (fun p h => nomatch h), Int.le_refl 0, Nat.zero_le _⟩
theorem lead_len : ∀ (rows : List Str) (acc : Cks), (leadC acc rows).length ≤ acc.length + rows.length
  | [], acc => Nat.le_refl _
  | r :: rs, acc => by
    unfold leadC
    cases q : readC r with
    | none => exact Nat.le_add_right _ _
    | some p =>
      dsimp only
      by_cases z : p.1 ≤ lastN acc ∨ acc.length = 60
      · rw [if_pos z]
        exact Nat.le_add_right _ _
      · rw [if_neg z]
        have := lead_len rs (acc ++ [p])
        rw [List.length_append, List.length_singleton] at this
        rw [List.length_cons]
        omega
theorem wordsG_inv {ws : List Str} {g : Int} (h : wordsG ws = some g) : ∃ a, ws = [("given" : Str), a] ∧ readN a = some g ∧ 0 ≤ g ∧ g ≤ 1000000000 := by
  unfold wordsG at h
  split at h
  · split at h
    · rename_i e
      split at h
      · split at h
        · rename_i n h1 h2
          have h := Option.some.inj h
          subst h
          exact ⟨_, by rw [e], h1, (readN_nonneg h1).1, h2⟩
        · cases h
      · cases h
    · cases h
  · cases h
theorem readW_good {rows : List Str} {cs : Cks} {g : Int} (h : readW rows = .ok (cs, g)) : Good g cs ∧ g ≤ 1000000000 := by
  have k := lead_good rows [] good_nil
  unfold readW tailW at h
  generalize leadC [] rows = ds at h k
  cases q : (rows[ds.length]?).bind readG with
  | none => rw [q] at h; cases h
  | some n =>
    rw [q] at h
    dsimp only at h
    split at h
    · cases h
    · split at h
      · cases h
      · cases h
        obtain ⟨r, hr, e⟩ := Option.bind_eq_some_iff.mp q
        obtain ⟨_, _, _, _, h4⟩ := wordsG_inv e
        exact ⟨k.mono (by omega), h4⟩
theorem readW_row {rows : List Str} {r : Int} (h : readW rows = .error r) : 1 ≤ r ∧ r ≤ (rows.length : Int) + 1 := by
  have k := lead_len rows []
  unfold readW tailW at h
  generalize leadC [] rows = ds at h k
  have k : ds.length ≤ 0 + rows.length := k
  split at h
  · cases h
    omega
  · split at h
    · cases h
      omega
    · split at h
      · cases h
        omega
      · cases h
/-! lengths -/
theorem join_len (y : Str) : ∀ l : List Str, (Txt.join y l).length ≤ (l.map (·.length)).sum + l.length * y.length := by
  intro l
  rw [join_eq]
  induction l with
  | nil => exact Nat.zero_le _
  | cons x r ih =>
    cases r with
    | nil =>
      show x.length ≤ (x.length + 0) + (0 + 1) * y.length
      omega
    | cons z r =>
      have e : (Str.join y (x :: z :: r)).length = x.length + y.length + (Str.join y (z :: r)).length := by
        show (x ++ y ++ Str.join y (z :: r)).length = _
        rw [len_tl, tl_append, tl_append, List.length_append, List.length_append, ← len_tl, ← len_tl, ← len_tl]
      rw [e, List.map_cons, List.sum_cons, List.length_cons, Nat.add_mul]
      omega
theorem sum_le {l : List Str} {k : Nat} (h : ∀ x ∈ l, x.length ≤ k) : (l.map (·.length)).sum ≤ l.length * k := by
  induction l with
  | nil => exact Nat.zero_le _
  | cons x r ih =>
    have h1 := h x List.mem_cons_self
    have h2 := ih fun y hy => h y (List.mem_cons_of_mem _ hy)
    rw [List.map_cons, List.sum_cons, List.length_cons, Nat.add_mul]
    omega
theorem bl_len : bl.length = 1 := by decide +kernel
theorem lf_len : lf.length = 1 := by decide +kernel
theorem clock_len : ("clock" : Str).length = 5 := by decide +kernel
theorem given_len : ("given" : Str).length = 5 := by decide +kernel
theorem rowC_len {p : Int × Ck} (h1 : 1 ≤ p.1) (h2 : p.1 ≤ 1000000000000000000000000000000) (h : okCk p.2 ∧ p.2.1 ≤ 1000000000000000000000000000000) : (rowC p).length ≤ 110 := by
  obtain ⟨⟨k1, k2, k3⟩, k4⟩ := h
  have := join_len bl [("clock" : Str), nS p.1, nS p.2.1, nS p.2.2]
  simp only [List.map_cons, List.map_nil, List.sum_cons, List.sum_nil, List.length_cons, List.length_nil, bl_len, clock_len] at this
  have a1 := nS_len (i := p.1) (by omega) h2
  have a2 := nS_len (i := p.2.1) (by omega) k4
  have a3 := nS_len (i := p.2.2) (by omega) (by omega)
  show (Txt.join bl _).length ≤ 110
  omega
theorem rowG_len {g : Int} (h0 : 0 ≤ g) (h1 : g ≤ 1000000000000000000000000000000) : (rowG g).length ≤ 110 := by
  have := join_len bl [("given" : Str), nS g]
  simp only [List.map_cons, List.map_nil, List.sum_cons, List.sum_nil, List.length_cons, List.length_nil, bl_len, given_len] at this
  have a1 := nS_len (i := g) h0 h1
  show (Txt.join bl _).length ≤ 110
  omega
theorem rowsW_len {g : Int} {cs : Cks} (h : Good g cs) (h1 : g ≤ 1000000000) : (rowsW cs g).length ≤ 61 ∧ ∀ x ∈ rowsW cs g, x.length ≤ 110 := by
  refine ⟨?_, fun x hx => ?_⟩
  · unfold rowsW
    rw [List.length_append, List.length_map]
    have := h.le
    show cs.length + 1 ≤ 61
    omega
  · rcases List.mem_append.mp hx with q | q
    · obtain ⟨p, hp, rfl⟩ := List.mem_map.mp q
      have := h.lo p hp
      exact rowC_len this.1 (by omega) (h.ok p hp)
    · rw [List.mem_singleton.mp q]
      exact rowG_len h.g0 (by omega)
theorem joins_fit {l : List Str} {k m : Nat} (h : ∀ x ∈ l, x.length ≤ k) (hm : l.length ≤ m) {y : Str} (hy : y.length = 1) (hb : m * k + m ≤ 16777216) : (l.map (·.length)).sum + l.length * y.length ≤ 16777216 ∧ (Txt.join y l).length ≤ m * k + m := by
  have a := sum_le h
  have b := join_len y l
  have c : l.length * k ≤ m * k := Nat.mul_le_mul_right _ hm
  rw [hy] at b ⊢
  omega
theorem textW_len {g : Int} {cs : Cks} (h : Good g cs) (h1 : g ≤ 1000000000) : (textW cs g).length ≤ 7000 := by
  obtain ⟨a, b⟩ := rowsW_len h h1
  exact Nat.le_trans (joins_fit b a lf_len (by decide)).2 (by decide)
/-! as the program and as a law write a row -/
theorem rowC_f {p : Int × Ck} : (Str.empty ++ ("clock " : Str) ++ nS p.1 ++ bl ++ nS p.2.1 ++ bl ++ nS p.2.2) = rowC p := by
  refine ext_tl ?_
  unfold rowC
  rw [join_eq, tl_join]
  simp only [tl_append]
  show _ = tl ("clock" : Str) ++ (tl bl ++ (tl (nS p.1) ++ (tl bl ++ (tl (nS p.2.1) ++ (tl bl ++ tl (nS p.2.2))))))
  rw [show tl ("clock " : Str) = tl ("clock" : Str) ++ tl bl from by decide +kernel, show tl Str.empty = [] from rfl]
  simp only [List.nil_append, List.append_assoc]
theorem rowG_f {g : Int} : (Str.empty ++ ("given " : Str) ++ nS g) = rowG g := by
  refine ext_tl ?_
  unfold rowG
  rw [join_eq, tl_join]
  simp only [tl_append]
  show _ = tl ("given" : Str) ++ (tl bl ++ tl (nS g))
  rw [show tl ("given " : Str) = tl ("given" : Str) ++ tl bl from by decide +kernel, show tl Str.empty = [] from rfl]
  simp only [List.nil_append, List.append_assoc]
end Dn
/-! Own layer: texts as data: cut, joined, looked at, made numbers of; lists taken apart. -/
namespace Dn
open PySem PySem.Spec PyProof.Rows L2 LamX TL NumText
section
variable {K : PySem.W.Frag} {δ : Sto} {to te ta : TE} {a b : Str} {ys : List Str} {ds : List Dt} {i : Int}
theorem den_strs {H : Hv} : ∀ {ys : List Str} {vs : List V}, DenL H vs (ys.map dS) → vs = ys.map V.str
  | [], vs, h => h.nilI
  | y :: ys, vs, h => by
    obtain ⟨v, r, rfl, h1, h2⟩ := h.consI
    rw [h1.rawI, den_strs h2]
    rfl
theorem strs_den {H : Hv} : ∀ {ys : List Str}, DenL H (ys.map V.str) (ys.map dS)
  | [] => .nil
  | _ :: _ => .cons (.raw _) strs_den
/-- a.split(b) -/
theorem ev_split (h1 : EvS to δ (dS a)) (h2 : EvS te δ (dS b)) (hb : (b.length == 0) = false) (hl : a.length ≤ 100000) :
    EvS (tM1 (fun x xs H Q => ∃ a b, x = .str a ∧ xs = [.str b] ∧ (b.length == 0) = false ∧ a.length + 2 ≤ sizeLine ∧ rNewStrs (Txt.split a b) H Q) to te) δ (.lst ((Txt.split a b).map dS)) := fun σ H Q S q =>
  h1 σ H _ S fun v H1 u1 d1 => ⟨⟨a, d1.rawI⟩, h2 σ H1 _ (S.mono u1) fun w H2 u2 d2 => ⟨a, b, d1.rawI, by rw [d2.rawI], hb, Nat.le_trans (Nat.add_le_add_right hl 2) (by decide), fun p hp =>
    q _ (H2.nw p _ hp) ((u1.trans u2).trans (Up.new hp)) (.lst Hv.nw_at strs_den)⟩⟩
/-- a.join(ys) -/
theorem ev_join (h1 : EvS to δ (dS a)) (h2 : EvS te δ (.lst (ys.map dS))) (hl : (ys.map (·.length)).sum + ys.length * a.length ≤ 16777216) :
    EvS (tM1 (fun x xs H Q => ∃ a p, ∃ ys : List Str, x = .str a ∧ xs = [.ref p] ∧ (SqL K H p (ys.map V.str) ∨ SqT K H p (ys.map V.str)) ∧ (ys.map (·.length)).sum + ys.length * a.length ≤ 16777216 ∧ Q (.str (Txt.join a ys)) H) to te) δ (dS (Txt.join a ys)) := fun σ H Q S q =>
  h1 σ H _ S fun v H1 u1 d1 => ⟨⟨a, d1.rawI⟩, h2 σ H1 _ (S.mono u1) fun w H2 u2 d2 => by
    obtain ⟨p, xs, rfl, hp, hx⟩ := d2.lstI
    have e := den_strs hx
    subst e
    exact ⟨a, p, ys, d1.rawI, rfl, .inl (SqL.of hp), hl, q _ H2 (u1.trans u2) (.raw _)⟩⟩
theorem ev_m0 {g : Str → Bool} (h : EvS to δ (dS a)) : EvS (tM0 (fun x xs H Q => ∃ a, x = .str a ∧ xs = [] ∧ True ∧ Q (.bl (g a)) H) to) δ (dB (g a)) := fun σ H Q S q =>
  h σ H _ S fun v H1 u1 d1 => ⟨⟨a, d1.rawI⟩, a, d1.rawI, rfl, trivial, q _ H1 u1 (.raw _)⟩
theorem ca_intS {n : Int} (h : PySem.intText? a = some n) (hl : a.length ≤ 640) : CaD (fun xs H Q => ∃ a n, xs = [V.str a] ∧ PySem.intText? a = some n ∧ a.length ≤ 640 ∧ Q (.int n) H) [dS a] (dI n) := fun vs H Q h1 q => by
  obtain ⟨v, r, rfl, d1, d2⟩ := h1.consI
  obtain rfl := d2.nilI
  exact ⟨a, n, by rw [d1.rawI], h, hl, q _ H exR (.raw _)⟩
theorem ca_strI (hl : i.natAbs.log2 < 1920) : CaD (fun xs H Q => ∃ i, xs = [V.int i] ∧ i.natAbs.log2 < 1920 ∧ Q (.str (toString i)) H) [dI i] (dS (nS i)) := fun vs H Q h1 q => by
  obtain ⟨v, r, rfl, d1, d2⟩ := h1.consI
  obtain rfl := d2.nilI
  exact ⟨i, by rw [d1.rawI], hl, q _ H exR (.raw _)⟩
theorem od_ixS {c : Nat} (h : atI (tl a) i = some c) (hl : a.length ≤ 100000) : OpD rIxS (dS a) (dI i) (dS ⟨#[c]⟩) := fun v w H Q h1 h2 q => ⟨a, i, c, h1.rawI, h2.rawI, Evl.sz_of hl, h, q _ H exR (.raw _)⟩
theorem od_eqUS : OpD (rEqU K) (dS a) (dS b) (dB (decide (a = b))) := fun v w H Q h1 h2 q => .inl (by
  refine od_eq (v := .str a) (w := .str b) rfl v w H Q h1 h2 fun u H' e d => ?_
  rw [show decide (V.str a = V.str b) = decide (a = b) from by by_cases z : a = b <;> simp [z]] at d
  exact q u H' e d)
theorem od_neUS : OpD (rNeU K) (dS a) (dS b) (dB (!decide (a = b))) := fun v w H Q h1 h2 q => .inl (by
  refine od_ne (v := .str a) (w := .str b) rfl v w H Q h1 h2 fun u H' e d => ?_
  rw [show decide (V.str a = V.str b) = decide (a = b) from by by_cases z : a = b <;> simp [z]] at d
  exact q u H' e d)
theorem od_addS (hl : a.length + b.length ≤ 100000) : OpD (rAddU K) (dS a) (dS b) (dS (a ++ b)) := fun v w H Q h1 h2 q => .inr (.inr (.inr ⟨a, b, h1.rawI, h2.rawI, Evl.sz_of hl, q _ H exR (.raw _)⟩))
theorem ca_lenUS (hl : a.length ≤ 100000) : CaD (rLenU K) [dS a] (dI a.length) := fun vs H Q h1 q => .inr (.inr (by
  obtain ⟨v, r, rfl, d1, d2⟩ := h1.consI
  obtain rfl := d2.nilI
  exact ⟨a, by rw [d1.rawI], Evl.sz_of hl, q _ H exR (.raw _)⟩))
/-- the last item -/
theorem od_ixLast {z : Dt} : OpD (rIx K) (.lst (ds ++ [z])) (dI (-1)) z := fun v w H Q h1 h2 q => .inl (by
  obtain ⟨p, xs, rfl, hp, hx⟩ := h1.lstI
  have hl := hx.len
  have e : ∃ ws u, xs = ws ++ [u] := by
    have n : xs ≠ [] := fun z => by rw [z, List.length_append] at hl; cases hl
    exact ⟨xs.dropLast, xs.getLast n, (List.dropLast_concat_getLast n).symm⟩
  obtain ⟨ws, u, rfl⟩ := e
  have l2 : ws.length = ds.length := by rw [List.length_append, List.length_append] at hl; exact Nat.add_right_cancel hl
  obtain ⟨u', e1, e2⟩ := hx.get (i := ds.length) (d := z) (by rw [List.getElem?_append_right (Nat.le_refl _), Nat.sub_self]; rfl)
  rw [← l2, List.getElem?_append_right (Nat.le_refl _), Nat.sub_self] at e1
  have e1 : some u = some u' := e1
  cases e1
  exact ⟨p, _, -1, u, rfl, h2.rawI, SqL.of hp, atI_last ws u, q _ H exR e2⟩)
/-- a, b, c = a list of three -/
theorem gdm_lst3 {i j k : Nat} {x y z : Dt} : GdM (gLst K 3 (gCons (gName i) (gCons (gName j) (gCons (gName k) gNil)))) (.lst [x, y, z]) δ (((δ.set i (some x)).set j (some y)).set k (some z)) := fun v σ H q S h1 h => by
  obtain ⟨a, xs, rfl, ha, hl⟩ := h1.lstI
  obtain ⟨v1, r, rfl, dv, dr⟩ := hl.consI
  obtain ⟨v2, r', rfl, dw, dr'⟩ := dr.consI
  obtain ⟨v3, r3, rfl, du, dr3⟩ := dr'.consI
  obtain rfl := dr3.nilI
  exact ⟨a, _, rfl, SqL.of ha, rfl, v1, _, rfl, v2, _, rfl, v3, _, rfl, rfl, h _ (((S.set dv).set dw).set du)⟩
theorem gds_nest {vs : List Nat} {i j k : Nat} {x y z : Dt} (hi : i ∈ vs) (hj : j ∈ vs) (hk : k ∈ vs) : GdS (gTup K 2 (gCons (gName i) (gCons (gTup K 2 (gCons (gName j) (gCons (gName k) gNil))) gNil))) vs (.tup [x, .tup [y, z]]) δ (((δ.set i (some x)).set j (some y)).set k (some z)) := fun v σ H q S h1 h => by
  obtain ⟨a, xs, rfl, ha, hl⟩ := h1.tupI
  obtain ⟨v1, r, rfl, dv, dr⟩ := hl.consI
  obtain ⟨v2, r', rfl, dw, dr'⟩ := dr.consI
  obtain rfl := dr'.nilI
  obtain ⟨b, zs, rfl, hb, hm⟩ := dw.tupI
  obtain ⟨v3, r3, rfl, d3, dr3⟩ := hm.consI
  obtain ⟨v4, r4, rfl, d4, dr4⟩ := dr3.consI
  obtain rfl := dr4.nilI
  exact ⟨a, _, rfl, SqT.of ha, rfl, v1, _, rfl, _, _, rfl, ⟨b, _, rfl, SqT.of hb, rfl, v3, _, rfl, v4, _, rfl, rfl, rfl, h _ (by rw [wipe_set hk, wipe_set hj, wipe_set hi, wipe_wipe]) (((S.set dv).set d3).set d4)⟩⟩
end
end Dn
/-! Own layer: a comprehension that makes a cell; texts over cells; isinstance of an own thing; what texts promise. -/
namespace Dn
open PySem PySem.Spec PyProof.Rows L2 LamX TL NumText
mutual
/-- data without lists don't lean on where lists stand -/
theorem Den.noL {H W : Hv} (e : ∀ a o, H.G a = some o → (∀ xs, o ≠ .lst xs) → (∀ ps, o ≠ .tbl ps) → W.G a = some o) {v : V} : ∀ {d : Dt}, Den H v d → noLst d = true → Den W v d
  | .raw w, h, _ => by
    rw [h.rawI]
    exact .raw _
  | .lst l, h, n => by
    unfold noLst at n
    cases n
  | .tup l, h, n => by
    unfold noLst at n
    cases h with | tup ha hl => exact .tup (e _ _ ha (fun _ z => by cases z) fun _ z => by cases z) (hl.noL e n)
  | .dct l, h, n => by
    unfold noLst at n
    cases h with | dct ha hl => exact .dct (e _ _ ha (fun _ z => by cases z) fun _ z => by cases z) (hl.noL e n)
  | .exc _ _, h, n => by
    cases h with
    | exc0 h => exact .exc0 (e _ _ h (fun _ => extv_ne) extv_tb)
    | excD h hd hf => exact .excD (e _ _ h (fun _ => extv_ne) extv_tb) (e _ _ hd (fun _ z => by cases z) fun _ z => by cases z) hf
  | .scr _ _, h, n => by
    unfold noLst at n
    cases n
theorem DenL.noL {H W : Hv} (e : ∀ a o, H.G a = some o → (∀ xs, o ≠ .lst xs) → (∀ ps, o ≠ .tbl ps) → W.G a = some o) : ∀ {l : List Dt} {vs : List V}, DenL H vs l → noLstL l = true → DenL W vs l
  | [], vs, h, _ => by
    rw [h.nilI]
    exact .nil
  | d :: l, vs, h, n => by
    unfold noLstL at n
    have n' := Bool.and_eq_true_iff.mp n
    cases h with | cons h t => exact .cons (h.noL e n'.1) (t.noL e n'.2)
theorem DenK.noL {H W : Hv} (e : ∀ a o, H.G a = some o → (∀ xs, o ≠ .lst xs) → (∀ ps, o ≠ .tbl ps) → W.G a = some o) : ∀ {l : List (Key × Dt)} {vs : List (Key × V)}, DenK H vs l → noLstK l = true → DenK W vs l
  | [], vs, h, _ => by
    cases h
    exact .nil
  | (k, d) :: l, vs, h, n => by
    unfold noLstK at n
    have n' := Bool.and_eq_true_iff.mp n
    cases h with | cons h t => exact .cons (h.noL e n'.1) (t.noL e n'.2)
end
theorem noLst_cut {f : Dt → Option Dt} {ds : List Dt} (hn : noLstL (ds.filterMap f) = true) (i : Nat) : noLstL ((ds.take i).filterMap f) = true := by
  have e : ds.filterMap f = (ds.take i).filterMap f ++ (ds.drop i).filterMap f := by rw [← List.filterMap_append, List.take_append_drop]
  rw [e] at hn
  clear e
  revert hn
  generalize (ds.take i).filterMap f = l
  intro hn
  induction l with
  | nil => rfl
  | cons d l ih =>
    have hn' : noLstL (d :: (l ++ (ds.drop i).filterMap f)) = true := hn
    unfold noLstL at hn' ⊢
    have h2 := Bool.and_eq_true_iff.mp hn'
    rw [h2.1, ih h2.2] <;> rfl
/-- a comprehension over any walk that gives data -/
theorem lcw {J : It} {n : Nat} {G : Hp → Prop} {Y : Nat → Hp → V → Hp → Prop} (w : Walk J n G Y) {δ : Sto} {vs : List Nat} {te : TE} {tt : TT} {g : TG} {ds : List Dt} {D : Addr} (f : Dt → Option Dt) {σ : L2.St} {H1 : Hv} (S : DenS H1 σ δ) (hl : ds.length = n)
    (hG : ∀ H' : Hv, Up H1 H' → G H'.H) (hy : ∀ i x (H' : Hv) h, Up H1 H' → i < n → Y i H'.H x h → h = H'.H ∧ ∃ d, ds[i]? = some d ∧ Den H' x d) (hD : H1.H D = none) (hz : n ≤ 40000) (hn : noLstL (ds.filterMap f) = true)
    (hb : ∀ d, d ∈ ds → ∃ δ' b, GdS g vs d (wipeD δ vs) δ' ∧ EtS tt δ' b ∧ (b = true → ∃ e, EvS te δ' e ∧ f d = some e) ∧ (b = false → f d = none)) {Qd : Hp → Prop} (q : ∀ (H' : Hv) (acc : List V), Up H1 H' → H'.G D = some (.lst acc) → DenL H' acc (ds.filterMap f) → Qd H'.H) :
    ∃ W : Nat → Nat → Hp → Prop, (∃ m, W 0 m (upd H1.H D (.lst []))) ∧ ∀ i m H, W i m H → (J.stop i H ∧ Qd H) ∨ (J.go i H ∧ ∃ Nx : Hp → Prop, (∀ H', Nx H' → ∃ m', m' < m ∧ W (i + 1) m' H') ∧ ∀ x H', J.yld i H x H' → g x (wipe σ vs) H' fun σ2 H2 => wipe σ2 vs = wipe σ vs ∧ tt σ2 H2 fun b H3 => if b = true then te σ2 H3 fun y H4 => ∃ acc, H4 D = some (.lst acc) ∧ acc.length < sizeLine ∧ Nx (upd H4 D (.lst (acc ++ [y]))) else Nx H3) := by
  refine lc_it w (fun i h' => ∃ H' : Hv, H'.H = h' ∧ Up H1 H' ∧ ∃ acc, H'.G D = some (.lst acc) ∧ DenL H' acc ((ds.take i).filterMap f) ∧ acc.length ≤ i) ⟨H1.nw D _ hD, rfl, Up.new hD, [], Hv.nw_at, by simpa using DenL.nil, Nat.le_refl _⟩ (fun i h' _ p => by obtain ⟨H', rfl, p, _⟩ := p; exact hG H' p) (fun i x h' hh hi p y => ?_) fun h' p => ?_
  · obtain ⟨H', rfl, e2, acc, hacc, dacc, lacc⟩ := p
    obtain ⟨rfl, d, hd, dx⟩ := hy i x H' hh e2 hi y
    obtain ⟨δ', b, hg, ht, hyes, hno⟩ := hb d (List.mem_of_getElem? hd)
    have S1 : DenS H' (wipe σ vs) (wipeD δ vs) := (S.mono e2).wiped vs
    have tk : ds.take (i + 1) = ds.take i ++ [d] := by rw [List.take_succ, hd] <;> rfl
    refine hg x σ H' _ S1 dx fun σ2 w2 S2 => ⟨w2, ht σ2 H' _ S2 fun H3 e3 => ?_⟩
    cases b with
    | true =>
      show te σ2 H3.H _
      obtain ⟨e, he, hf⟩ := hyes rfl
      have ft : (ds.take (i + 1)).filterMap f = (ds.take i).filterMap f ++ [e] := by rw [tk, List.filterMap_append, List.filterMap_cons_some hf, List.filterMap_nil]
      refine he σ2 H3 _ (S2.mono e3) fun y H4 e4 dy => ?_
      have h4 := e4.g _ _ (e3.g _ _ hacc)
      refine ⟨acc, Hv.sub h4, Evl.sz_lt (by omega), H4.pt D _ (Hv.sub h4), rfl, ⟨Evl.Ex.mut ((e2.trans e3).trans e4).e hD, ((e2.trans e3).trans e4).a⟩, acc ++ [y], Hv.pt_at (Hv.off h4), ?_, by rw [List.length_append]; exact Nat.add_le_add_right lacc 1⟩
      rw [ft]
      have dall : DenL H4 (acc ++ [y]) ((ds.take i).filterMap f ++ [e]) := (dacc.mono (e3.trans e4)).app (.cons dy .nil)
      refine dall.updL (acc := acc) h4 ?_
      rw [← ft]
      exact noLst_cut hn (i + 1)
    | false =>
      have ft : (ds.take (i + 1)).filterMap f = (ds.take i).filterMap f := by rw [tk, List.filterMap_append, List.filterMap_cons_none (hno rfl), List.filterMap_nil, List.append_nil]
      refine ⟨H3, rfl, e2.trans e3, acc, e3.g _ _ hacc, ?_, Nat.le_succ_of_le lacc⟩
      rw [ft]
      exact dacc.mono e3
  · obtain ⟨H', rfl, e2, acc, hacc, dacc, _⟩ := p
    rw [← hl, List.take_length] at dacc
    exact q H' acc e2 hacc dacc
/-- [e for c in a text if t] -/
theorem ev_lcS {δ : Sto} {vs : List Nat} {tl te : TE} {tt : TT} {g : TG} {z : Str} (f : Dt → Option Dt) (h : EvS tl δ (dS z)) (hz : z.length ≤ 40000) (hn : noLstL (((TL.tl z).map fun c => dS ⟨#[c]⟩).filterMap f) = true)
    (hb : ∀ c, c ∈ TL.tl z → ∃ δ' b, GdS g vs (dS ⟨#[c]⟩) (wipeD δ vs) δ' ∧ EtS tt δ' b ∧ (b = true → ∃ e, EvS te δ' e ∧ f (dS ⟨#[c]⟩) = some e) ∧ (b = false → f (dS ⟨#[c]⟩) = none)) : EvS (tLc (iStr tl) g tt te vs) δ (.lst (((TL.tl z).map fun c => dS ⟨#[c]⟩).filterMap f)) := fun σ H Q S q => by
  refine h σ H _ S fun v H1 e1 d1 => ?_
  refine ⟨z, d1.rawI, fun D hD => lcw walk_str f (S.mono e1) (by rw [List.length_map]; simp [TL.tl]) (fun _ _ => trivial) (fun i x H' h' u hi y => ?_) hD hz hn (fun d hd => ?_) fun H' acc u ha dl => q (.ref D) H' (e1.trans u) (.lst ha dl)⟩
  · obtain ⟨rfl, c, hc, rfl⟩ := y
    refine ⟨rfl, dS ⟨#[c]⟩, ?_, .raw _⟩
    rw [List.getElem?_map]
    show ((TL.tl z)[i]?).map _ = _
    rw [show (TL.tl z)[i]? = some c from by rw [← hc]; simp [TL.tl]]
    rfl
  · obtain ⟨c, hc, rfl⟩ := List.mem_map.mp hd
    exact hb c hc
variable {T : List (Addr × Str)}
/-- a comprehension over a list of data that is reckoned over cells; the new list is a cell -/
theorem evm_lcN {K : PySem.W.Frag} {E : XK} {δ : Sto} {μ : Mu} {N : Dt → Mu → Prop} {W : WM} {vs : List Nat} {tl te : TE} {tt : TT} {g : TG} (h : EvM T E tl δ μ (fun x m => ∃ (ds : List Dt) (f : Dt → Option Dt), x = .lst ds ∧ ds.length ≤ 40000 ∧ noLstL (ds.filterMap f) = true ∧
    (∀ d, d ∈ ds → ∃ δ' b, GdS g vs d (wipeD δ vs) δ' ∧ EtS tt δ' b ∧ (b = true → ∃ e, EvS te δ' e ∧ f d = some e) ∧ (b = false → f d = none)) ∧ ∀ p, m p = none → N (.raw (.ref p)) (putM m p (.lst (ds.filterMap f)))) W) : EvM T E (tLc (iList K tl) g tt te vs) δ μ N W := fun σ s Q m S q qe =>
  h σ s _ m S (fun v t x l dx ⟨ds, f, e, hz, hn, hb, nn⟩ => by
    subst e
    obtain ⟨a, xs, rfl, ha, hl⟩ := dx.lstI
    have hg : t.H.G a = some (.lst xs) := by
      cases dx with | lst h1 _ => rw [Hv.sub h1] at ha; cases ha; exact h1
    refine ⟨a, rfl, ⟨xs, SqL.of ha⟩, fun D hD => ?_⟩
    refine lcw walk_list f (S.monoG l.ug) hl.len.symm (fun H' u => SqL.of (u.e _ _ ha)) (fun i x H' h' u hi y => ?_) hD (by rw [hl.len]; exact hz) hn hb fun H' acc u hacc dacc => ?_
    · obtain ⟨rfl, hx⟩ := y
      obtain ⟨d, hd, dd⟩ := hl.getV hx
      exact ⟨rfl, d, hd, dd.mono u⟩
    · have key : ∀ W : Hv, W.H = H'.H → UpG t.H W → (∀ b, b ≠ D → t.H.H b = none → ¬ W.A b) → DenL W acc (ds.filterMap f) := fun W eW ug off => dacc.noL (fun b o hb nl nt => by
        have nD : b ≠ D := fun z => by
          rw [z, hacc] at hb
          cases hb
          exact nl _ rfl
        refine Hv.gOf (by rw [eW]; exact Hv.sub hb) fun k => ?_
        cases z : t.H.H b with
        | none => exact off b nD z k
        | some w =>
          have e3 := u.e _ _ z
          rw [Hv.sub hb] at e3
          cases e3
          exact Hv.off (ug b o (Hv.gOf z (by rw [← u.a]; exact Hv.off hb)) nt) k) hn
      obtain ⟨h1, r, e1, e2, l2⟩ := t.new_at (o' := .lst (ds.filterMap f)) u.e hD (Hv.sub hacc) (fun _ z => by cases z) fun W eW ug off => ⟨acc, by rw [eW]; exact Hv.sub hacc, key W eW ug off⟩
      rw [← e1]
      exact q _ r _ (l.trans l2) (.raw _) (by rw [e2]; exact nn D h1)) qe
/-! f-strings over cells -/
def JsM (T : List (Addr × Str)) (E : XK) (ts : List TE) (δ : Sto) (μ : Mu) (acc : Str) (N : Dt → Mu → Prop) (W : WM) : Prop := ∀ (σ : L2.St) (s : MH T) (Q : Str → Hp → Prop), s.μ = μ → DenS s.H σ δ → (∀ out (t : MH T), Le s t → N (dS out) t.μ → Q out t.H.H) → (∀ C fs (t : MH T), Le s t → W C fs t.μ → EOut E C fs t.H) → tJs ts acc σ s.H.H Q
section
variable {K : PySem.W.Frag} {E : XK} {δ : Sto} {μ : Mu} {te ta to : TE} {ts : List TE} {acc : Str} {N : Dt → Mu → Prop} {W : WM}
theorem jm_nil (n : N (dS acc) μ) : JsM T E [] δ μ acc N W := fun σ s Q m S q _ => q acc s (.refl s) (by rw [m]; exact n)
theorem jm_cons (h : EvM T E te δ μ (fun d m => ∃ z, d = dS z ∧ (acc ++ z).length ≤ 100000 ∧ JsM T E ts δ m (acc ++ z) N W) W) : JsM T E (te :: ts) δ μ acc N W := fun σ s Q m S q qe =>
  h σ s _ m S (fun v t d l dv ⟨z, e, hl, k⟩ => by
    subst e
    exact ⟨z, dv.rawI, Evl.sz_of hl, k σ t Q rfl (S.monoG l.ug) (fun o u l2 n => q o u (l.trans l2) n) fun C fs u l2 w => qe C fs u (l.trans l2) w⟩) qe
theorem evm_js (h : JsM T E ts δ μ Str.empty N W) : EvM T E (fun σ H Q => tJs ts Str.empty σ H fun o H1 => Q (.str o) H1) δ μ N W := fun σ s Q m S q qe => h σ s _ m S (fun o t l n => q (.str o) t (dS o) l (.raw _) n) qe
theorem evm_fmtI (h : EvM T E te δ μ (fun d m => ∃ i, d = dI i ∧ i.natAbs.log2 < 1920 ∧ N (dS (nS i)) m) W) : EvM T E (tFmt te) δ μ N W := fun σ s Q m S q qe =>
  h σ s _ m S (fun v t d l dv ⟨i, e, hl, n⟩ => by
    subst e
    exact .inr ⟨i, dv.rawI, hl, q (.str (nS i)) t _ l (.raw _) n⟩) qe
/-- a.join(xs), xs reckoned over cells -/
theorem evm_join {a : Str} (h1 : EvS to δ (dS a)) (h : EvM T E te δ μ (fun d m => ∃ ys : List Str, d = .lst (ys.map dS) ∧ (ys.map (·.length)).sum + ys.length * a.length ≤ 16777216 ∧ N (dS (Txt.join a ys)) m) W) :
    EvM T E (tM1 (fun x xs H Q => ∃ a p, ∃ ys : List Str, x = .str a ∧ xs = [.ref p] ∧ (SqL K H p (ys.map V.str) ∨ SqT K H p (ys.map V.str)) ∧ (ys.map (·.length)).sum + ys.length * a.length ≤ 16777216 ∧ Q (.str (Txt.join a ys)) H) to te) δ μ N W := fun σ s Q m S q qe =>
  h1 σ s.H _ S fun v H1 u1 d1 => ⟨⟨a, d1.rawI⟩, h σ (s.up H1 u1) _ m (S.mono u1) (fun w t d l dw ⟨ys, e, hl, n⟩ => by
    subst e
    obtain ⟨p, xs, rfl, hp, hx⟩ := dw.lstI
    have e := den_strs hx
    subst e
    exact ⟨a, p, ys, d1.rawI, rfl, .inl (SqL.of hp), hl, q _ t _ ((s.le_up u1).trans l) (.raw _) n⟩) fun C fs t l w => qe C fs t ((s.le_up u1).trans l) w⟩
/-- isinstance(x, C), x an own thing of the class C -/
structure IsiO (K : PySem.W.Frag) (C : Addr) : Prop where
  cl : Cls K C
  ha : PySem.W.findIn K (.ref C) "__class__" = some (some (.builtin "object.__class__"))
  hn : PySem.W.specialIn K (.builtin "object.__class__") "__get__" = some (some (.builtin "getset_descriptor.__get__"))
  ht : PySem.W.takesIn K (.builtin "object.__class__") = some true
  hm : PySem.W.mroIn K C (.type "object") = some true
  hk : PySem.W.kitOne K (.ref C) (.ref C) = some true
theorem evm_isO {C : Addr} (I : IsiO K C) (h : EvM T E ta δ μ (fun x m => ∃ a fs, x = .raw (.ref a) ∧ m a = some (.ins C fs) ∧ N (dB true) m) W) : EvM T E (tCB (rIsU K) (tCons ta (tCons (tC (.ref C)) tNil))) δ μ N W := fun σ s Q m S q qe =>
  h σ s _ m S (fun v t x l dx ⟨a, fs, e, ha, n⟩ => by
    subst e
    obtain ⟨dx', vs, h1, h2⟩ := MH.cell ha
    exact .inl ⟨v, .ref C, .ref C, .ref C, true, rfl, .own C, by rw [dx.rawI]; exact .base (.ins h1 I.cl I.ha I.hn I.ht I.hm), I.hk, q _ t _ l (.raw _) n⟩) qe
end
/-! ### parts of a split text -/
theorem spl_len {S : List Nat} : ∀ (l : List Nat) (k : Nat) (acc : List Nat), ∀ x ∈ spl S k acc l, x.length ≤ acc.length + l.length
  | [], k, acc, x, hx => by
    rw [spl_nil] at hx
    rw [List.mem_singleton.mp hx]
    exact Nat.le_add_right _ _
  | c :: r, 0, acc, x, hx => by
    unfold spl at hx
    split at hx
    · rcases List.mem_cons.mp hx with rfl | hx
      · exact Nat.le_add_right _ _
      · have := spl_len r _ _ x hx
        simp only [List.length_nil, List.length_cons] at this ⊢
        omega
    · have := spl_len r _ _ x hx
      simp only [List.length_append, List.length_nil, List.length_cons] at this ⊢
      omega
  | c :: r, k + 1, acc, x, hx => by
    unfold spl at hx
    have := spl_len r _ _ x hx
    simp only [List.length_cons] at this ⊢
    omega
theorem split_part {a b : Str} (hb : tl b ≠ []) (hk : b.cps.all (· < 256) = true) {r : Str} (h : r ∈ Txt.split a b) : r.length ≤ a.length := by
  have e := split_spl a b hb (kind_ok hk)
  have h2 : tl r ∈ (Txt.split a b).map tl := List.mem_map_of_mem h
  rw [e] at h2
  have := spl_len _ _ _ _ h2
  rw [len_tl, len_tl]
  simpa using this
theorem split_many {a b : Str} : (Txt.split a b).length ≤ a.length + 2 := PyProof.Rows.split_le a b
theorem bl_ne : tl bl ≠ [] := by rw [tl_bl]; simp
theorem lf_ne : tl lf ≠ [] := by rw [tl_lf]; simp
theorem split_ne {a b : Str} (hb : tl b ≠ []) (hk : b.cps.all (· < 256) = true) : Txt.split a b ≠ [] := fun z => by
  have e := split_spl a b hb (kind_ok hk)
  rw [z] at e
  have n : ∀ (l : List Nat) (k : Nat) (acc : List Nat), spl (tl b) k acc l ≠ [] := fun l => by
    induction l with
    | nil =>
      intro k acc
      rw [spl_nil]
      exact fun z => nomatch z
    | cons c r ih =>
      intro k acc
      cases k with
      | zero =>
        unfold spl
        split
        · exact fun z => nomatch z
        · exact ih _ _
      | succ k =>
        unfold spl
        exact ih _ _
  exact n _ _ _ e.symm
/-! ### what the defs of texts promise -/
def optI (o : Option Int) : Dt := match o with | some n => dI n | none => dN
def optC (o : Option (Int × Ck)) : Dt := match o with | some p => .tup [dI p.1, ckD p.2] | none => dN
def txtF (f : Str → Dt) (ds : List Dt) : Dt := match ds with | [.raw (.str s)] => f s | _ => dN
def oneS (ds : List Dt) : Prop := ∃ s : Str, ds = [dS s] ∧ s.length ≤ 90000
abbrev spReadN : Sp := spD 1 oneS (txtF fun s => optI (readN s))
abbrev spReadG : Sp := spD 1 oneS (txtF fun s => optI (readG s))
abbrev spReadC : Sp := spD 1 oneS (txtF fun s => optC (readC s))
def lastD (ds : List Dt) : Dt := match ds with
  | [.lst l] => (match l.getLast? with | some (.tup (x :: _)) => x | _ => dI 0)
  | _ => dN
abbrev spLast : Sp := spD 1 (fun ds => ∃ cs : Cks, ds = [.lst (itsD cs)]) lastD
theorem itsD_snoc {cs : Cks} {p : Int × Ck} : itsD (cs ++ [p]) = itsD cs ++ [.tup [dI p.1, ckD p.2]] := by
  rw [itsD_map, itsD_map, List.map_append]
  rfl
theorem lastD_its {cs : Cks} : lastD [.lst (itsD cs)] = dI (lastN cs) := by
  show (match (itsD cs).getLast? with | some (.tup (x :: _)) => x | _ => dI 0) = _
  rw [itsD_map, List.getLast?_map]
  unfold lastN
  cases cs.getLast? <;> rfl
abbrev spLeading : Sp := spG (α := List Str) 1 (fun rows ds m => ds = [.lst (rows.map dS)] ∧ rows.length ≤ 50000 ∧ ∀ r ∈ rows, r.length ≤ 90000) (fun rows _ m d m' => ∃ p, m p = none ∧ d = .raw (.ref p) ∧ m' = putM m p (.lst (itsD (leadC [] rows)))) noG
section
variable (A : Ads)
abbrev spWallText : Sp := spG (α := Laid) 1 (fun x ds m => ds = [x.dt] ∧ x.ok A.WL m ∧ ∀ w, x = .wall w → w.g ≤ 1000000000) (fun x _ m d m' => ∃ w, x = .wall w ∧ d = dS (textW w.cs w.g) ∧ m' = m) (fun x _ m C fs m' => (∃ d, x = .data d) ∧ only A.CW m C fs m')
abbrev spWallOf : Sp := spG (α := Dt) 1 (fun x ds m => ds = [x] ∧ (∃ Ty, tyD x = some Ty) ∧ ∀ s, x = dS s → s.length ≤ 40000) (fun x _ m d m' => ∃ s cs g p h, x = dS s ∧ readW (Txt.split s lf) = .ok (cs, g) ∧ d = .raw (.ref p) ∧ NewW A.WL m p h g cs m')
  (fun x _ m C fs m' => ∃ r, C = A.CX ∧ fs = rowF r ∧ m' = m ∧ ((∃ s, x = dS s ∧ readW (Txt.split s lf) = .error r) ∨ ((∀ s, x ≠ dS s) ∧ r = 0)))
end
end Dn
/-! Own layer: small facts for the defs of texts. -/
namespace Dn
open PySem PySem.Spec PyProof.Rows L2 LamX TL NumText
theorem hq_put {te : TE} {u : TS} {g : TG} {δ δ' : Sto} {d : Dt} {N B C : Sto → Prop} {R : Dt → Prop} (h : EvS te δ d) (hg : GdM g d δ δ') (k : Hs u δ' N R B C) : Hs (tSeq (tAsg te g) u) δ N R B C :=
  hs_seq (N' := fun x => x = δ') (fun σ H D S hn _ _ _ => h σ H _ S fun v H1 e1 d1 => hg v σ H1 _ (S.mono e1) d1 fun σ2 S2 => hn σ2 H1 δ' e1 S2 rfl) fun _ e => by rw [e]; exact k
theorem fig_dig : ∀ c, c < 128 → Unicode.isDigit c = (decide (48 ≤ c) && decide (c ≤ 57)) := by decide +kernel
theorem dig_yes {s : Str} (h : AllDigits (tl s)) (hn : tl s ≠ []) : Txt.isascii s = true ∧ Txt.isdigit s = true := by
  have hl : 0 < s.length := by
    rw [len_tl]
    exact List.length_pos_iff.mpr hn
  refine ⟨?_, ?_⟩
  · show s.cps.all (· < 128) = true
    rw [← Array.all_toList]
    refine List.all_eq_true.mpr fun c hc => decide_eq_true ?_
    have := h c hc
    omega
  · show (decide (s.length > 0) && s.cps.all Unicode.isDigit) = true
    rw [decide_eq_true hl, ← Array.all_toList]
    refine List.all_eq_true.mpr fun c hc => ?_
    have k := h c hc
    rw [fig_dig c (by omega), decide_eq_true k.1, decide_eq_true k.2]
    rfl
theorem dig_no {s : Str} (h1 : Txt.isascii s = true) (h2 : Txt.isdigit s = true) : AllDigits (tl s) ∧ tl s ≠ [] := by
  have h1 : s.cps.all (· < 128) = true := h1
  have h2 : (decide (s.length > 0) && s.cps.all Unicode.isDigit) = true := h2
  rw [← Array.all_toList] at h1 h2
  obtain ⟨a, b⟩ := Bool.and_eq_true_iff.mp h2
  refine ⟨fun c hc => ?_, fun z => ?_⟩
  · have k1 := of_decide_eq_true (List.all_eq_true.mp h1 c hc)
    have k2 := List.all_eq_true.mp b c hc
    rw [fig_dig c k1] at k2
    obtain ⟨k3, k4⟩ := Bool.and_eq_true_iff.mp k2
    exact ⟨of_decide_eq_true k3, of_decide_eq_true k4⟩
  · have := of_decide_eq_true a
    rw [len_tl, z] at this
    exact absurd this (Nat.lt_irrefl _)
theorem readN_bad {s : Str} (h : ¬ (AllDigits (tl s) ∧ tl s ≠ [] ∧ s.length ≤ 31)) : readN s = none := by
  unfold readN
  refine if_neg fun z => h ?_
  have := okN_digs z
  exact ⟨this.1, this.2.1, by rw [len_tl]; exact this.2.2⟩
theorem readN_lead {s : Str} (h : AllDigits (tl s)) (hn : tl s ≠ []) (hl : s.length ≤ 31) : readN s = if tl s = [48] ∨ (tl s).head? ≠ some 48 then some ((digitsVal (tl s) : Nat) : Int) else none := by
  unfold readN
  rw [okN_iff h hn (by rw [← len_tl]; exact hl)]
  by_cases z : tl s = [48] ∨ (tl s).head? ≠ some 48
  · rw [if_pos z, if_pos (decide_eq_true z)]
  · rw [if_neg z, if_neg (by rw [decide_eq_false z]; exact Bool.false_ne_true)]
theorem tl_zero : tl ("0" : Str) = [48] := by decide +kernel
theorem is_zero {s : Str} : (s = ("0" : Str)) ↔ tl s = [48] := ⟨fun e => by rw [e, tl_zero], fun e => ext_tl (by rw [e, tl_zero])⟩
theorem sign_zero {c : Nat} : ((⟨#[c]⟩ : Str) = ("0" : Str)) ↔ c = 48 := by
  rw [is_zero]
  show [c] = [48] ↔ c = 48
  exact ⟨fun e => by cases e; rfl, fun e => by rw [e]⟩
theorem ty_str {d : Dt} (h : tyD d = some "str") : ∃ s, d = dS s := by
  cases d with
  | raw v => cases v <;> simp [tyD] at h <;> exact ⟨_, rfl⟩
  | _ => simp [tyD] at h
theorem wordsG_len {ws : List Str} (h : ws.length ≠ 2) : wordsG ws = none := by
  unfold wordsG
  split
  · exact absurd rfl h
  · rfl
theorem wordsC_len {ws : List Str} (h : ws.length ≠ 4) : wordsC ws = none := by
  unfold wordsC
  split
  · exact absurd rfl h
  · rfl
theorem optI_ty (o : Option Int) : ∃ T, tyD (optI o) = some T := by cases o <;> exact ⟨_, rfl⟩
theorem okTh_opt (a b : Option Int) : okTh (.tup [optI a, optI b]) := ⟨⟨_, rfl⟩, fun p q e => by cases e; exact ⟨optI_ty a, optI_ty b⟩⟩
theorem isClock_opt {a b : Option Int} (h : ∀ n, a = some n → 0 ≤ n) (h2 : ∀ n, b = some n → 0 ≤ n) : isClock (.tup [optI a, optI b]) = (match a, b with | some h, some x => decide (1 ≤ h ∧ h ≤ 1000000000000000000000000000000 ∧ x < h) | _, _ => false) := by
  cases a with
  | none => cases b <;> rfl
  | some n =>
    cases b with
    | none => rfl
    | some m =>
      have m0 := h2 m rfl
      show (decide (1 ≤ n) && decide (n ≤ 1000000000000000000000000000000) && (decide (0 ≤ m) && decide (m < n))) = _
      dsimp only
      rw [decide_eq_true m0, Bool.true_and, ← Bool.decide_and, ← Bool.decide_and]
      exact decide_eq_decide.mpr ⟨fun ⟨⟨a, b⟩, c⟩ => ⟨a, b, c⟩, fun ⟨a, b, c⟩ => ⟨⟨a, b⟩, c⟩⟩
def numF1 : Dt → Option Dt
  | .raw (.str s) => some (optI (readN s))
  | _ => none
theorem log_small {i : Int} (h : i.natAbs < 2 ^ 1000) : i.natAbs.log2 < 1920 := by
  by_cases z : i.natAbs = 0
  · rw [z]
    decide
  · have := (Nat.log2_lt z).mpr h
    omega
theorem log30 {i : Int} (h : 0 ≤ i) (h1 : i ≤ 1000000000000000000000000000000) : i.natAbs.log2 < 1920 := log_small (Nat.lt_of_le_of_lt (show i.natAbs ≤ 1000000000000000000000000000000 by omega) (by decide +kernel))
def rowD : Dt → Option Dt
  | .tup [.raw (.int n), .tup [.raw (.int h), .raw (.int x)]] => some (dS (rowC (n, (h, x))))
  | _ => none
theorem rowD_all : ∀ cs : Cks, (itsD cs).filterMap rowD = (cs.map rowC).map dS
  | [] => rfl
  | p :: cs => by
    show (itemD (.inl p.1, ckD p.2) :: itsD cs).filterMap rowD = _
    rw [List.filterMap_cons_some (show rowD (itemD (.inl p.1, ckD p.2)) = some (dS (rowC p)) from rfl), rowD_all cs]
    rfl
theorem noLst_strs : ∀ ys : List Str, noLstL (ys.map dS) = true
  | [] => rfl
  | y :: ys => by
    show (true && noLstL (ys.map dS)) = true
    rw [noLst_strs]
    rfl
theorem len_add {a b : Str} {n m : Nat} (h : b.length ≤ n) (ha : a.length ≤ m) : (a ++ b).length ≤ m + n := by
  rw [len_app]
  omega
theorem bl_le : bl.length ≤ 1 := by decide +kernel
end Dn
/-! Own layer: what laws of texts need. -/
namespace Dn
open PySem PySem.Spec PyProof.Rows L2 LamX TL NumText
abbrev spLawText : Sp := spG (α := Od) 2 (fun x ds m => ds = [.raw (.ref x.o), dI x.g] ∧ m x.o = some (.dct (dctD x.cs)) ∧ Good x.g x.cs ∧ x.g ≤ 1000000000) (fun x _ m d m' => d = dS (textW x.cs x.g) ∧ m' = m) noG
def strF : Dt → Option Dt
  | .raw (.int i) => some (dS (nS i))
  | _ => none
theorem rowG_g {g : Int} : (("given " : Str) ++ nS g) = rowG g := by
  rw [← rowG_f]
  refine ext_tl ?_
  simp only [tl_append]
  rfl
theorem given_le : ("given " : Str).length ≤ 6 := by decide +kernel
def odd9 : List Dt := [dN, dI 5, .lst [], dS "given 0", .tup [dI 1, dI 0], dB true, .dct []]
theorem odd9_is : ∀ d ∈ odd9, ∃ Ty, tyD d = some Ty := fun d hd => by
  simp only [odd9, List.mem_cons, List.not_mem_nil, or_false] at hd
  rcases hd with rfl | rfl | rfl | rfl | rfl | rfl | rfl <;> exact ⟨_, rfl⟩
theorem good5 {g : Int} (h : 0 ≤ g) : Good g [] := Good.nil.mono h
theorem text0 : textW [] 0 = ("given 0" : Str) := by decide +kernel
theorem text5 : textW [] 5 = ("given 5" : Str) := by decide +kernel
theorem solid_itsL {b : Bool} : ∀ cs : Cks, solidL b (itsD cs) = true
  | [] => rfl
  | p :: cs => by
    show (true && solidL b (itsD cs)) = true
    rw [solid_itsL cs]
    rfl
theorem solid_its {cs : Cks} : solid false (.lst (itsD cs)) = true := by
  show (true && solidL false (itsD cs)) = true
  rw [solid_itsL cs]
  rfl
end Dn
/-! Own layer: what the law of refused texts needs: its own reading; texts bent. -/
namespace Dn
open PySem PySem.Spec PyProof.Rows L2 LamX TL NumText
variable {T : List (Addr × Str)}
theorem den_raws {H : Hv} : ∀ {ws vs : List V}, DenL H vs (ws.map Dt.raw) → vs = ws
  | [], vs, h => h.nilI
  | w :: ws, vs, h => by
    obtain ⟨v, r, rfl, h1, h2⟩ := h.consI
    rw [h1.rawI, den_raws h2]
def vO (o : Option Int) : V := match o with | some n => .int n | none => .non
theorem optI_raw (o : Option Int) : optI o = .raw (vO o) := by cases o <;> rfl
/-- None in a list of numbers, of None -/
theorem od_noneIn {K : PySem.W.Frag} {os : List (Option Int)} : OpD (rIn K false) dN (.lst (os.map optI)) (dB (os.any fun o => o.isNone)) := fun v w H Q h1 h2 q => by
  obtain ⟨a, xs, rfl, ha, hl⟩ := h2.lstI
  have e : os.map optI = (os.map vO).map Dt.raw := by
    rw [List.map_map]
    exact List.map_congr_left fun o _ => optI_raw o
  rw [e] at hl
  obtain rfl := den_raws hl
  refine ⟨a, _, rfl, .inl (SqL.of ha), by rw [h1.rawI]; rfl, ?_, ?_⟩
  · rw [List.all_map]
    exact List.all_eq_true.mpr fun o _ => by cases o <;> rfl
  · have e2 : inV v (os.map vO) = os.any fun o => o.isNone := by
      rw [h1.rawI]
      unfold inV
      rw [List.any_map]
      congr 1
      funext o
      cases o <;> rfl
    rw [e2]
    exact q _ H exR (.raw _)
theorem od_notInSign {c : Nat} {z : Str} : OpD (fun x y H Q => ∃ (c : Nat) (z : Str), x = .str ⟨#[c]⟩ ∧ y = .str z ∧ Q (.bl (!decide (c ∈ z.cps.toList))) H) (dS ⟨#[c]⟩) (dS z) (dB (!decide (c ∈ tl z))) := fun v w H Q h1 h2 q => ⟨c, z, h1.rawI, h2.rawI, q _ H exR (.raw _)⟩
theorem py_strs : ∀ l : List Str, pyL (l.map dS) = some (l.map .str)
  | [] => rfl
  | i :: l => by
    show (py (dS i)).bind (fun p => (pyL (l.map dS)).map fun r => p :: r) = _
    rw [py_strs l]
    rfl
theorem lay_strs : ∀ l : List Str, (∀ y ∈ l, ∀ c ∈ tl y, c < 128) → PyData.canLayAll0 (l.map .str) = true
  | [], _ => rfl
  | p :: l, h => by
    show (p.cps.all (· < 0x110000) && PyData.canLayAll0 (l.map .str)) = true
    rw [lay_strs l fun y hy => h y (List.mem_cons_of_mem _ hy), Bool.and_true, ← Array.all_toList]
    refine List.all_eq_true.mpr fun c hc => decide_eq_true ?_
    have := h p List.mem_cons_self c hc
    omega
theorem depth_strs : ∀ l : List Str, PyData.depthAll (l.map .str) ≤ 3
  | [] => by simp [PyData.depthAll]
  | p :: l => by
    have := depth_strs l
    simp only [List.map_cons, PyData.depthAll, PyData.depth]
    omega
theorem shaped_strs (l : List Str) (h : ∀ y ∈ l, ∀ c ∈ tl y, c < 128) : SeqAt.shaped (.list (l.map .str)) = true := by
  unfold SeqAt.shaped
  rw [show PyData.canLay0 (.list (l.map .str)) = true from lay_strs l h]
  have := depth_strs l
  simp only [PyData.depth, Bool.true_and, decide_eq_true_eq]
  exact decide_eq_true (by omega)
theorem od_neStrs0 {K : PySem.W.Frag} {l : List Str} (h : ∀ y ∈ l, ∀ c ∈ tl y, c < 128) : OpD (rNeU K) (.lst (l.map dS)) (.lst []) (dB (!l.isEmpty)) := by
  have := od_neUD (K := K) (x := .lst (l.map dS)) (y := .lst []) (p := .list (l.map .str)) (q := .list []) (by show (pyL (l.map dS)).map PyData.list = _; rw [py_strs]; rfl) rfl (shaped_strs l h) (by rfl)
  cases l with
  | nil => exact this
  | cons c l => exact this
theorem od_neIts0 {K : PySem.W.Frag} {cs : Cks} : OpD (rNeU K) (.lst (itsD cs)) (.lst []) (dB (!cs.isEmpty)) := by
  have := od_neUD (K := K) (x := .lst (itsD cs)) (y := .lst []) (p := .list (cs.map pyIt)) (q := .list []) (py_itsL cs) rfl (shaped_its cs) (by rfl)
  cases cs with
  | nil => exact this
  | cons c l => exact this
/-- a slice of a text -/
theorem ev_slS {δ : Sto} {te : TE} {tlo thi : TO} {z : Str} {lo hi : Option Int} (h : EvS te δ (dS z)) (h1 : EoS tlo δ lo) (h2 : EoS thi δ hi) (hl : z.length ≤ 100000) : EvS (tSl rSlS te tlo thi) δ (dS (cutS z lo hi)) := fun σ H Q S q =>
  h σ H _ S fun v H1 u1 d1 => h1 σ H1 _ (S.mono u1) fun H2 u2 => h2 σ H2 _ (S.mono (u1.trans u2)) fun H3 u3 => ⟨z, d1.rawI, Evl.sz_of hl, q _ H3 ((u1.trans u2).trans u3) (.raw _)⟩
/-- two lists to a new one, a cell -/
theorem evm_addC {K : PySem.W.Frag} {E : XK} {δ : Sto} {μ : Mu} {ta tb : TE} {N : Dt → Mu → Prop} {W : WM} (h : EvM T E ta δ μ (fun x m => ∃ ds, x = .lst ds ∧ EvM T E tb δ m (fun y m2 => ∃ es, y = .lst es ∧ ds.length + es.length ≤ 100000 ∧ ∀ p, m2 p = none → N (.raw (.ref p)) (putM m2 p (.lst (ds ++ es)))) W) W) : EvM T E (tOp (rAddU K) ta tb) δ μ N W := fun σ s Q m S q qe =>
  h σ s _ m S (fun v t x l dx ⟨ds, e, k⟩ => by
    subst e
    exact k σ t _ rfl (S.monoG l.ug) (fun w u y l2 dy ⟨es, e2, hl, n⟩ => by
      subst e2
      obtain ⟨a, xs, rfl, ha, hx⟩ := (dx.monoG l2.ug).lstI
      obtain ⟨b, zs, rfl, hb, hz⟩ := dy.lstI
      refine .inr (.inl ⟨a, b, xs, zs, rfl, rfl, ha, hb, by rw [hx.len, hz.len]; exact Evl.sz_of hl, fun p hp => ?_⟩)
      obtain ⟨h1, r, e3, e4, l3⟩ := u.new_ex (o' := .lst (ds ++ es)) (.lst (xs ++ zs)) hp fun V e ug => ⟨_, by rw [e]; exact upd_same, (hx.app hz).monoG ug⟩
      rw [← e3]
      exact q _ r _ ((l.trans l2).trans l3) (.raw _) (by rw [e4]; exact n p h1)) fun C fs u l2 w => qe C fs u (l.trans l2) w) qe
theorem evm_tup {E : XK} {δ : Sto} {μ : Mu} {tas : TA} {N : Dt → Mu → Prop} {W : WM} (h : EaM T E tas δ μ (fun ds m => ds.length ≤ 100000 ∧ N (.tup ds) m) W) : EvM T E (tTup tas) δ μ N W := fun σ s Q m S q qe =>
  h σ s _ m S (fun vs t ds l dl ⟨hl, n⟩ => ⟨by rw [dl.len]; exact Evl.sz_of hl, fun p hp => q _ (t.up _ (Up.new hp)) _ (l.trans (t.le_up _)) (.tup (Hv.nw_at (hp := hp)) (dl.mono (Up.new hp))) n⟩) qe
/-! ### the law's own reading -/
abbrev digits : Str := "0123456789"
theorem tl_digits : tl digits = [48, 49, 50, 51, 52, 53, 54, 55, 56, 57] := by decide +kernel
theorem in_digits {c : Nat} : c ∈ tl digits ↔ 48 ≤ c ∧ c ≤ 57 := by
  rw [tl_digits]
  simp only [List.mem_cons, List.not_mem_nil, or_false]
  omega
def signF : Dt → Option Dt
  | .raw (.str z) => if z.cps.toList.all (fun c => decide (c ∈ tl digits)) = true then none else some (dS z)
  | _ => none
theorem signF_one {c : Nat} : signF (dS ⟨#[c]⟩) = if c ∈ tl digits then none else some (dS ⟨#[c]⟩) := by
  show (if ([c] : List Nat).all (fun c => decide (c ∈ tl digits)) = true then none else some (dS ⟨#[c]⟩)) = _
  by_cases h : c ∈ tl digits
  · rw [if_pos h, if_pos]
    exact List.all_eq_true.mpr fun d hd => by rw [List.mem_singleton.mp hd]; exact decide_eq_true h
  · rw [if_neg h, if_neg]
    exact fun z => h (of_decide_eq_true (List.all_eq_true.mp z c (List.mem_singleton.mpr rfl)))
theorem signs_all : ∀ l : List Nat, (l.map fun c => dS ⟨#[c]⟩).filterMap signF = ((l.filter fun c => !decide (c ∈ tl digits)).map fun c => (⟨#[c]⟩ : Str)).map dS
  | [] => rfl
  | c :: l => by
    have e := signs_all l
    by_cases h : c ∈ tl digits
    · rw [List.map_cons, List.filterMap_cons_none (by rw [signF_one, if_pos h]), e, List.filter_cons_of_neg (by rw [decide_eq_true h]; exact Bool.false_ne_true)]
    · rw [List.map_cons, List.filterMap_cons_some (by rw [signF_one, if_neg h]), e, List.filter_cons_of_pos (by rw [decide_eq_false h]; rfl)]
      rfl
instance (l : List Nat) : Decidable (AllDigits l) := inferInstanceAs (Decidable (∀ c ∈ l, 48 ≤ c ∧ c ≤ 57))
theorem signs_none {l : List Nat} : ((l.filter fun c => !decide (c ∈ tl digits)).map fun c => (⟨#[c]⟩ : Str)).isEmpty = decide (AllDigits l) := by
  by_cases h : AllDigits l
  · rw [decide_eq_true h]
    have : l.filter (fun c => !decide (c ∈ tl digits)) = [] := List.filter_eq_nil_iff.mpr fun c hc => by
      rw [decide_eq_true (in_digits.mpr (h c hc))]
      exact Bool.false_ne_true
    rw [this]
    rfl
  · rw [decide_eq_false h]
    cases q : l.filter (fun c => !decide (c ∈ tl digits)) with
    | nil =>
      refine absurd (fun c hc => ?_) h
      have := List.filter_eq_nil_iff.mp q c hc
      exact in_digits.mp (by simpa using this)
    | cons c r => rfl
theorem nS_back {w : Str} : (nS ((digitsVal (tl w) : Nat) : Int) = w) ↔ numL (digitsVal (tl w)) = tl w := by
  have e : tl (nS ((digitsVal (tl w) : Nat) : Int)) = numL (digitsVal (tl w)) := tl_nS (by omega)
  exact ⟨fun h => by rw [← e, h], fun h => ext_tl (by rw [e, h])⟩
theorem readN_law {w : Str} (hl : w.length ≤ 31) : readN w = if nS ((digitsVal (tl w) : Nat) : Int) = w then some ((digitsVal (tl w) : Nat) : Int) else none := by
  unfold readN okN
  rw [decide_eq_true (show (tl w).length ≤ 31 by rw [← len_tl]; exact hl), Bool.true_and]
  by_cases h : numL (digitsVal (tl w)) = tl w
  · rw [decide_eq_true h, if_pos rfl, if_pos (nS_back.mpr h)]
  · rw [decide_eq_false h, if_neg Bool.false_ne_true, if_neg fun z => h (nS_back.mp z)]
def rowIn (r : Str) (last : Int) : Option (Int × Ck) := match readC r with
  | some p => if last < p.1 then some p else none
  | none => none
def rowInF (ds : List Dt) : Dt := match ds with | [.raw (.str s), .raw (.int n)] => optC (rowIn s n) | _ => dN
/-- a text of at most n plain signs -/
def Tx (n : Nat) (s : Str) : Prop := s.length ≤ n ∧ ∀ c ∈ tl s, c < 128
abbrev spLawNum : Sp := spD 1 (fun ds => ∃ s : Str, ds = [dS s] ∧ Tx 40000 s) (txtF fun s => optI (readN s))
abbrev spLawRow : Sp := spD 2 (fun ds => ∃ (s : Str) (n : Int), ds = [dS s, dI n] ∧ Tx 40000 s ∧ 0 ≤ n) rowInF
def dueD (r : Except Int (Cks × Int)) : Dt := match r with | .ok p => .tup [.lst (itsD p.1), dI p.2] | .error r => dI r
abbrev spLawRead : Sp := spG (α := Str) 1 (fun s ds m => ds = [dS s] ∧ Tx 40000 s) (fun s _ m d m' => d = dueD (readW (Txt.split s lf))) noG
structure Ob where
  (s : Str)
  n : Int
abbrev spLawBent : Sp := spG (α := Ob) 2 (fun x ds m => ds = [dS x.s, dI x.n] ∧ Tx 110 x.s ∧ 0 ≤ x.n) (fun x _ m d m' => ∃ z : Str, d = dS z ∧ Tx 230 z ∧ m' = m) noG
structure Os where
  cs : Cks
  (g n : Int)
abbrev spLawSpoilt : Sp := spG (α := Os) 2 (fun x ds m => ds = [dS (textW x.cs x.g), dI x.n] ∧ Good x.g x.cs ∧ x.g ≤ 1000000000 ∧ 0 ≤ x.n) (fun x _ m d m' => ∃ ys : List Str, d = .lst (ys.map dS) ∧ ys.length ≤ 130 ∧ (∀ y ∈ ys, Tx 230 y) ∧ m' = m) noG
theorem clockIn_no {a b c : Option Int} (h : ([a, b, c].any fun o => o.isNone) = true) : clockIn a b c = none := by
  cases a <;> cases b <;> cases c <;> first | rfl | exact Bool.noConfusion h
theorem wordsC_head {w : Str} {ws : List Str} (h : w ≠ ("clock" : Str)) : wordsC (w :: ws) = none := by
  unfold wordsC
  split
  · rename_i e
    cases e
    exact if_neg h
  · rfl
theorem wordsG_head {w : Str} {ws : List Str} (h : w ≠ ("given" : Str)) : wordsG (w :: ws) = none := by
  unfold wordsG
  split
  · rename_i e
    cases e
    exact if_neg h
  · rfl
/-! parts of lists of texts -/
theorem cut_strs (ys : List Str) (lo hi : Option Int) : ∃ zs : List Str, cutD (ys.map dS) lo hi = zs.map dS ∧ zs.length ≤ ys.length ∧ ∀ z ∈ zs, z ∈ ys := by
  unfold cutD
  refine ⟨(ys.drop (HT.sIx (ys.map dS).length 0 lo)).take (HT.sIx (ys.map dS).length (ys.map dS).length hi - HT.sIx (ys.map dS).length 0 lo), by rw [List.map_take, List.map_drop], ?_, fun z hz => List.mem_of_mem_drop (List.mem_of_mem_take hz)⟩
  rw [List.length_take, List.length_drop]
  omega
def odd18 : List Str := ["", "clock", "clock 1 1", "clock 1 1 0 0", "given", "given 0", "given 1000000000", "given 1000000001", "clock 1 0 0", "clock 0 5 1", "clock 01 5 1", "clock 70 5 5", "clock 71 5 4", "Clock 1 5 1", " given 0", "clock 1000000000 1 0", ("clock 72 " : Str) ++ nS (10 ^ 30) ++ (" 1" : Str), ("clock 73 " : Str) ++ nS (10 ^ 30 + 1) ++ (" 1" : Str)]
theorem odd18_tx : ∀ s ∈ odd18, Tx 230 s := by
  have : ∀ s ∈ odd18, s.length ≤ 230 ∧ (tl s).all (fun c => decide (c < 128)) = true := by decide +kernel
  exact fun s hs => ⟨(this s hs).1, fun c hc => of_decide_eq_true (List.all_eq_true.mp (this s hs).2 c hc)⟩
theorem Tx.mono {n m : Nat} {s : Str} (h : Tx n s) (k : n ≤ m) : Tx m s := ⟨Nat.le_trans h.1 k, h.2⟩
theorem spl_mem {S : List Nat} : ∀ (l : List Nat) (k : Nat) (acc : List Nat), ∀ x ∈ spl S k acc l, ∀ c ∈ x, c ∈ acc ∨ c ∈ l
  | [], k, acc, x, hx, c, hc => by
    rw [spl_nil] at hx
    rw [List.mem_singleton.mp hx] at hc
    exact .inl hc
  | b :: r, 0, acc, x, hx, c, hc => by
    unfold spl at hx
    split at hx
    · rcases List.mem_cons.mp hx with rfl | hx
      · exact .inl hc
      · rcases spl_mem r _ _ x hx c hc with z | z
        · cases z
        · exact .inr (List.mem_cons_of_mem _ z)
    · rcases spl_mem r _ _ x hx c hc with z | z
      · rcases List.mem_append.mp z with y | y
        · exact .inl y
        · exact .inr (by rw [List.mem_singleton.mp y]; exact List.mem_cons_self)
      · exact .inr (List.mem_cons_of_mem _ z)
  | b :: r, k + 1, acc, x, hx, c, hc => by
    unfold spl at hx
    exact (spl_mem r _ _ x hx c hc).imp id fun z => List.mem_cons_of_mem _ z
theorem Tx.part {n : Nat} {a b r : Str} (h : Tx n a) (hb : tl b ≠ []) (hk : b.cps.all (· < 256) = true) (hr : r ∈ Txt.split a b) : Tx n r := by
  refine ⟨Nat.le_trans (split_part hb hk hr) h.1, fun c hc => ?_⟩
  have e := split_spl a b hb (kind_ok hk)
  have h2 : tl r ∈ (Txt.split a b).map tl := List.mem_map_of_mem hr
  rw [e] at h2
  rcases spl_mem _ _ _ _ h2 c hc with z | z
  · cases z
  · exact h.2 c z
theorem Tx.app {n m : Nat} {a b : Str} (h : Tx n a) (k : Tx m b) : Tx (n + m) (a ++ b) := by
  refine ⟨len_add k.1 h.1, fun c hc => ?_⟩
  rw [tl_append] at hc
  exact (List.mem_append.mp hc).elim (h.2 c) (k.2 c)
theorem Tx.cut {n : Nat} {z : Str} (h : Tx n z) (lo hi : Option Int) : Tx n (cutS z lo hi) :=
  ⟨Nat.le_trans (cutS_length z lo hi) h.1, fun c hc => h.2 c (List.mem_of_mem_drop (List.mem_of_mem_take hc))⟩
theorem tx_nS {i : Int} (h : 0 ≤ i) (h1 : i ≤ 1000000000000000000000000000000) : Tx 31 (nS i) := by
  refine ⟨nS_len h h1, fun c hc => ?_⟩
  rw [tl_nS h] at hc
  have := numL_digits _ c hc
  omega
theorem joinL_mem {S : List Nat} : ∀ {ps : List (List Nat)} {c : Nat}, c ∈ joinL S ps → c ∈ S ∨ ∃ p ∈ ps, c ∈ p
  | [], c, h => by cases h
  | [p], c, h => .inr ⟨p, List.mem_singleton.mpr rfl, h⟩
  | p :: q :: r, c, h => by
    rcases List.mem_append.mp h with z | z
    · exact .inr ⟨p, List.mem_cons_self, z⟩
    · rcases List.mem_append.mp z with y | y
      · exact .inl y
      · rcases joinL_mem y with x | ⟨x, h1, h2⟩
        · exact .inl x
        · exact .inr ⟨x, List.mem_cons_of_mem _ h1, h2⟩
theorem tx_join {y : Str} {ys : List Str} {k m : Nat} (h : ∀ x ∈ ys, Tx k x) (hm : ys.length ≤ m) (hy : Tx 1 y) (h1 : y.length = 1) (hb : m * k + m ≤ 16777216) : (ys.map (·.length)).sum + ys.length * y.length ≤ 16777216 ∧ Tx (m * k + m) (Txt.join y ys) := by
  have f := joins_fit (fun x hx => (h x hx).1) hm h1 hb
  refine ⟨f.1, f.2, fun c hc => ?_⟩
  rw [join_eq, tl_join] at hc
  rcases joinL_mem hc with z | ⟨p, hp, z⟩
  · exact hy.2 c z
  · obtain ⟨x, hx, rfl⟩ := List.mem_map.mp hp
    exact (h x hx).2 c z
theorem tx_bl : Tx 1 bl := ⟨by rw [bl_len]; exact Nat.le_refl _, fun c hc => by rw [tl_bl] at hc; rw [List.mem_singleton.mp hc]; decide⟩
theorem tx_lf : Tx 1 lf := ⟨by rw [lf_len]; exact Nat.le_refl _, fun c hc => by rw [tl_lf] at hc; rw [List.mem_singleton.mp hc]; decide⟩
theorem tx_of {s : Str} {n : Nat} (h : s.length ≤ n) (h2 : (tl s).all (fun c => decide (c < 128)) = true) : Tx n s := ⟨h, fun c hc => of_decide_eq_true (List.all_eq_true.mp h2 c hc)⟩
theorem tx_rowC {p : Int × Ck} (h1 : 1 ≤ p.1) (h2 : p.1 ≤ 1000000000000000000000000000000) (h : okCk p.2 ∧ p.2.1 ≤ 1000000000000000000000000000000) : Tx 110 (rowC p) := by
  obtain ⟨⟨k1, k2, k3⟩, k4⟩ := h
  refine ⟨rowC_len h1 h2 ⟨⟨k1, k2, k3⟩, k4⟩, (tx_join (k := 31) (m := 4) (fun x hx => ?_) (Nat.le_refl _) tx_bl bl_len (by decide)).2.2⟩
  simp only [List.mem_cons, List.not_mem_nil, or_false] at hx
  rcases hx with rfl | rfl | rfl | rfl
  · exact tx_of (by decide +kernel) (by decide +kernel)
  · exact tx_nS (by omega) h2
  · exact tx_nS (by omega) k4
  · exact tx_nS k2 (by omega)
theorem tx_rowG {g : Int} (h0 : 0 ≤ g) (h1 : g ≤ 1000000000000000000000000000000) : Tx 110 (rowG g) := by
  refine ⟨rowG_len h0 h1, (tx_join (k := 31) (m := 2) (fun x hx => ?_) (Nat.le_refl _) tx_bl bl_len (by decide)).2.2⟩
  simp only [List.mem_cons, List.not_mem_nil, or_false] at hx
  rcases hx with rfl | rfl
  · exact tx_of (by decide +kernel) (by decide +kernel)
  · exact tx_nS h0 h1
theorem tx_rows {g : Int} {cs : Cks} (h : Good g cs) (h1 : g ≤ 1000000000) : ∀ x ∈ rowsW cs g, Tx 110 x := fun x hx => by
  rcases List.mem_append.mp hx with q | q
  · obtain ⟨p, hp, rfl⟩ := List.mem_map.mp q
    have := h.lo p hp
    exact tx_rowC this.1 (by omega) (h.ok p hp)
  · rw [List.mem_singleton.mp q]
    exact tx_rowG h.g0 (by omega)
theorem tx_text {g : Int} {cs : Cks} (h : Good g cs) (h1 : g ≤ 1000000000) : Tx 40000 (textW cs g) := (tx_join (tx_rows h h1) (rowsW_len h h1).1 tx_lf lf_len (by decide)).2.mono (by decide)
end Dn
/-! Own layer: last facts for the law of refused texts. -/
namespace Dn
open PySem PySem.Spec PyProof.Rows L2 LamX TL NumText
theorem digits_lt : ∀ (k : Nat) (l : List Nat), l.length ≤ k → AllDigits l → digitsVal l < 10 ^ l.length
  | 0, l, hk, _ => by
    obtain rfl := List.eq_nil_of_length_eq_zero (Nat.le_zero.mp hk)
    decide
  | k + 1, l, hk, h => by
    rcases List.eq_nil_or_concat l with rfl | ⟨r, c, rfl⟩
    · decide
    · rw [List.concat_eq_append] at hk h ⊢
      rw [List.length_append, List.length_singleton] at hk ⊢
      have ih := digits_lt k r (by omega) fun d hd => h d (List.mem_append_left _ hd)
      have hc := h c (by simp)
      rw [digitsVal_snoc, Nat.pow_succ]
      omega
theorem digits31 {s : Str} (h : AllDigits (tl s)) (hl : s.length ≤ 31) : digitsVal (tl s) < 10 ^ 31 := by
  refine Nat.lt_of_lt_of_le (digits_lt _ _ (Nat.le_refl _) h) (Nat.pow_le_pow_right (by decide) ?_)
  rw [← len_tl]
  exact hl
theorem readN_empty : readN ("" : Str) = none := readN_bad fun h => h.2.1 (by decide +kernel)
theorem ne_empty {s : Str} (h : s ≠ ("" : Str)) : tl s ≠ [] := fun z => h (ext_tl (z.trans (by decide +kernel)))
theorem ix_strs {K : PySem.W.Frag} {l : List Str} {i : Int} (h0 : 0 ≤ i) (h1 : i < (l.length : Int)) : ∃ s ∈ l, OpD (rIx K) (.lst (l.map dS)) (dI i) (dS s) := by
  obtain ⟨s, hs⟩ : ∃ s, l[i.toNat]? = some s := ⟨_, List.getElem?_eq_getElem (by omega)⟩
  exact ⟨s, List.mem_of_getElem? hs, od_ixSeqL h0 (by rw [List.getElem?_map, hs]; rfl)⟩
theorem ix_signs {z : Str} {i : Int} (hz : z.length ≤ 1000) (h : ∀ c ∈ tl z, c < 128) (h0 : 0 ≤ i) (h1 : i < ((tl z).length : Int)) : ∃ c, Tx 1 ⟨#[c]⟩ ∧ OpD rIxS (dS z) (dI i) (dS ⟨#[c]⟩) := by
  obtain ⟨c, hc⟩ : ∃ c, (tl z)[i.toNat]? = some c := ⟨_, List.getElem?_eq_getElem (by omega)⟩
  exact ⟨c, ⟨Nat.le_refl _, fun d hd => by rw [List.mem_singleton.mp hd]; exact h c (List.mem_of_getElem? hc)⟩, od_ixS (at_get h0 hc) (by omega)⟩
abbrev bends : Str := "0123456789 -+\nce"
theorem bends_tx : Tx 16 bends ∧ (tl bends).length = 16 := ⟨tx_of (by decide +kernel) (by decide +kernel), by decide +kernel⟩
theorem readG_of {ws : List Str} {w a : Str} (e : ws = [w, a]) (h : w = ("given" : Str)) : wordsG ws = match readN a with | some n => if n ≤ 1000000000 then some n else none | none => none := by
  rw [e]
  exact if_pos h
def isrP (s : Str) (ds : List Dt) (_ : Mu) : Prop := ds = [dS s] ∧ Tx 40000 s
def isrN (_ : Str) (_ : List Dt) (_ : Mu) (d : Dt) (_ : Mu) : Prop := d = dB true
theorem rows_tx {s : Str} (h : Tx 40000 s) : (∀ r ∈ Txt.split s lf, Tx 40000 r) ∧ (Txt.split s lf).length ≤ 40002 := ⟨fun r hr => h.part lf_ne lf_kind hr, Nat.le_trans split_many (Nat.add_le_add_right h.1 2)⟩
/-- the row at k of a law's text of many clocks -/
def manyS (k : Int) : Str := ("clock " : Str) ++ nS (3 * k + 1) ++ bl ++ nS (k + 1) ++ bl ++ nS k
def manyF : Dt → Option Dt
  | .raw (.int k) => some (dS (manyS k))
  | _ => none
theorem many_tx {k : Int} (h0 : 0 ≤ k) (h1 : k ≤ 60) : Tx 101 (manyS k) := ((((((tx_of (n := 6) (by decide +kernel) (by decide +kernel)).app (tx_nS (by omega) (by omega))).app tx_bl).app (tx_nS (by omega) (by omega))).app tx_bl).app (tx_nS h0 (by omega))).mono (by decide)
theorem many_all : ∀ l : List Int, (l.map dI).filterMap manyF = (l.map manyS).map dS
  | [] => rfl
  | k :: l => by
    rw [List.map_cons, List.filterMap_cons_some (show manyF (dI k) = some (dS (manyS k)) from rfl), many_all l]
    rfl
theorem rgD_ints (n : Nat) : rgD 0 n = ((List.range n).map fun i : Nat => (i : Int)).map dI := by
  unfold rgD
  rw [List.map_map]
  refine List.map_congr_left fun i _ => ?_
  show dI (0 + (i : Int)) = dI (i : Int)
  rw [Int.zero_add]
theorem lead_stop {acc : Cks} {r : Str} {rs : List Str} (h : rowIn r (lastN acc) = none ∨ acc.length = 60) : leadC acc (r :: rs) = acc := by
  unfold leadC
  unfold rowIn at h
  cases q : readC r with
  | none => rfl
  | some p =>
    rw [q] at h
    dsimp only at h ⊢
    refine if_pos ?_
    rcases h with h | h
    · by_cases z : lastN acc < p.1
      · rw [if_pos z] at h
        cases h
      · exact .inl (by omega)
    · exact .inr h
theorem lead_go {acc : Cks} {r : Str} {rs : List Str} {p : Int × Ck} (h : rowIn r (lastN acc) = some p) (h2 : acc.length ≠ 60) : leadC acc (r :: rs) = leadC (acc ++ [p]) rs ∧ lastN acc < p.1 ∧ okCk p.2 ∧ p.2.1 ≤ 1000000000000000000000000000000 := by
  unfold rowIn at h
  cases q : readC r with
  | none =>
    rw [q] at h
    cases h
  | some k =>
    rw [q] at h
    dsimp only at h
    split at h
    · rename_i z
      cases h
      obtain ⟨_, _, _, _, _, _, _, _, _, h3, h4⟩ := wordsC_inv q
      refine ⟨?_, z, h3, h4⟩
      conv => lhs; unfold leadC
      rw [q]
      exact if_neg (by rintro (a | a) <;> omega)
    · cases h
def numG (ws : List Str) : Option Int := match ws with
  | [w, a] => if w = ("given" : Str) then readN a else none
  | _ => none
def limN (o : Option Int) : Option Int := match o with | some n => if n ≤ 1000000000 then some n else none | none => none
theorem numG_is (ws : List Str) : wordsG ws = limN (numG ws) := by
  match ws with
  | [] => rfl
  | [_] => rfl
  | [w, a] =>
    show (if w = ("given" : Str) then _ else none) = limN (if w = ("given" : Str) then readN a else none)
    by_cases h : w = ("given" : Str)
    · rw [if_pos h, if_pos h]
      cases readN a <;> rfl
    · rw [if_neg h, if_neg h]
      rfl
  | _ :: _ :: _ :: _ => rfl
/-- what a row that ends the clocks leaves -/
def lastW (acc : Cks) (i many : Nat) (o : Option Int) : Except Int (Cks × Int) := match o with
  | none => .error ((i : Int) + 1)
  | some g => if g < lastN acc then .error ((i : Int) + 1) else if i + 1 < many then .error ((i : Int) + 2) else .ok (acc, g)
theorem tailW_at {rows : List Str} {acc : Cks} {r : Str} (h : rows[acc.length]? = some r) : tailW rows acc = lastW acc acc.length rows.length (limN (numG (Txt.split r bl))) := by
  unfold tailW
  rw [h, ← numG_is]
  show (match wordsG (Txt.split r bl) with | none => _ | some g => _) = _
  cases wordsG (Txt.split r bl) <;> rfl
theorem numG_nonneg {ws : List Str} {n : Int} (h : numG ws = some n) : 0 ≤ n := by
  unfold numG at h
  split at h
  · split at h
    · exact (readN_nonneg h).1
    · cases h
  · cases h
theorem evm_lstD {T : List (Addr × Str)} {E : XK} {δ : Sto} {μ : Mu} {tas : TA} {N : Dt → Mu → Prop} {W : WM} (h : EaM T E tas δ μ (fun ds m => ds.length ≤ 100000 ∧ N (.lst ds) m) W) : EvM T E (tLst tas) δ μ N W := fun σ s Q m S q qe =>
  h σ s _ m S (fun vs t ds l dl ⟨hl, n⟩ => ⟨by rw [dl.len]; exact Evl.sz_of hl, fun p hp => q _ (t.up _ (Up.new hp)) _ (l.trans (t.le_up _)) (.lst (Hv.nw_at (hp := hp)) (dl.mono (Up.new hp))) n⟩) qe
theorem odd18_map : odd18.map dS = ([dS "", dS "clock", dS "clock 1 1", dS "clock 1 1 0 0", dS "given", dS "given 0", dS "given 1000000000", dS "given 1000000001"] ++ [dS "clock 1 0 0", dS "clock 0 5 1", dS "clock 01 5 1", dS "clock 70 5 5", dS "clock 71 5 4", dS "Clock 1 5 1"] ++ [dS " given 0"] ++ [dS "clock 1000000000 1 0", dS (("clock 72 " : Str) ++ nS (10 ^ 30) ++ (" 1" : Str))]) ++ [dS (("clock 73 " : Str) ++ nS (10 ^ 30 + 1) ++ (" 1" : Str))] := rfl
theorem pow_log : ((10 : Int) ^ 30).natAbs.log2 < 1920 ∧ ((10 : Int) ^ 30 + 1).natAbs.log2 < 1920 := by decide +kernel
theorem pow_fits : ("clock 72 " : Str).length + (nS (10 ^ 30)).length ≤ 100000 ∧ (("clock 72 " : Str) ++ nS (10 ^ 30)).length + (" 1" : Str).length ≤ 100000 ∧ ("clock 73 " : Str).length + (nS (10 ^ 30 + 1)).length ≤ 100000 ∧ (("clock 73 " : Str) ++ nS (10 ^ 30 + 1)).length + (" 1" : Str).length ≤ 100000 := by decide +kernel
theorem rowsW_pos (cs : Cks) (g : Int) : 1 ≤ (rowsW cs g).length := by
  unfold rowsW
  rw [List.length_append]
  exact Nat.le_add_left _ _
theorem ix_data {K : PySem.W.Frag} {l : List Dt} {i : Int} (h0 : 0 ≤ i) (h1 : i < (l.length : Int)) : ∃ d ∈ l, OpD (rIx K) (.lst l) (dI i) d := by
  obtain ⟨d, hd⟩ : ∃ d, l[i.toNat]? = some d := ⟨_, List.getElem?_eq_getElem (by omega)⟩
  exact ⟨d, List.mem_of_getElem? hd, od_ixSeqL h0 hd⟩
def odd6t (t : Str) : List Dt := [dN, dI 5, dB true, .lst [dS t], .dct [], .tup [dS "given 0"]]
theorem odd6t_is {t : Str} : ∀ d ∈ odd6t t, (∃ Ty, tyD d = some Ty) ∧ ∀ s, d ≠ dS s := fun d hd => by
  simp only [odd6t, List.mem_cons, List.not_mem_nil, or_false] at hd
  rcases hd with rfl | rfl | rfl | rfl | rfl | rfl <;> exact ⟨⟨_, rfl⟩, fun s z => by cases z⟩
abbrev manyL : List Str := ((List.range 60).map fun i : Nat => (i : Int)).map manyS
theorem manyL_tx : ∀ y ∈ manyL, Tx 101 y := fun y hy => by
  obtain ⟨k, hk, rfl⟩ := List.mem_map.mp hy
  obtain ⟨i, hi, rfl⟩ := List.mem_map.mp hk
  have := List.mem_range.mp hi
  exact many_tx (by omega) (by omega)
theorem manyL_len : manyL.length = 60 := by rw [List.length_map, List.length_map, List.length_range]
theorem ends_tx {l : List Str} (hl : l.length ≤ 2) (h : ∀ y ∈ l, Tx 101 y) : ((manyL ++ l).map (·.length)).sum + (manyL ++ l).length * lf.length ≤ 16777216 ∧ Tx 40000 (Txt.join lf (manyL ++ l)) := by
  have a := tx_join (ys := manyL ++ l) (y := lf) (k := 101) (m := 62) (fun x hx => (List.mem_append.mp hx).elim (manyL_tx x) (h x)) (by rw [List.length_append, manyL_len]; omega) tx_lf lf_len (by decide)
  exact ⟨a.1, a.2.mono (by decide)⟩
end Dn
/-! Own layer: slices with a step, items popped; folds of the same clocks, of fewer, of two lots. -/
namespace Dn
open PySem PySem.Spec PyProof.Rows L2 LamX
/-! ### xs[a:b:c] -/
def pickV (xs : List V) (lo hi st : Option Int) : List V := (sliceRange (sliceBounds lo hi st xs.length).1 (sliceBounds lo hi st xs.length).2.1 (sliceBounds lo hi st xs.length).2.2).filterMap (xs[·]?)
def tSl3 (K : PySem.W.Frag) (te : TE) (tl th ts : TO) : TE := fun σ H Q => te σ H fun x H1 => tl σ H1 fun l H2 => th σ H2 fun u H3 => ts σ H3 fun k H4 => ∃ a xs, x = .ref a ∧ SqL K H4 a xs ∧ k ≠ some 0 ∧ (pickV xs l u k).length ≤ sizeLine ∧ ∀ p, H4 p = none → Q (.ref p) (upd H4 p (.lst (pickV xs l u k)))
theorem vals_pick {xs : List V} {us : List Value} (r : Vals xs us) : ∀ idx : List Nat, Vals (idx.filterMap (xs[·]?)) (idx.filterMap (us.toArray[·]?))
  | [] => .nil
  | i :: idx => by
    have ih := vals_pick r idx
    have hl := r.length
    cases q : xs[i]? with
    | none =>
      have q2 : us.toArray[i]? = none := by
        rw [List.getElem?_eq_none_iff] at q
        exact Array.getElem?_eq_none (by simpa using by omega)
      rw [List.filterMap_cons_none q, List.filterMap_cons_none q2]
      exact ih
    | some x =>
      have hi := (List.getElem?_eq_some_iff.mp q).1
      obtain ⟨u, hu, ru⟩ : ∃ u, us[i]? = some u ∧ RelV x u := by
        clear ih hl hi
        induction r generalizing i with
        | nil => simp at q
        | cons h t ih2 =>
          cases i with
          | zero =>
            have q : some _ = some x := q
            cases q
            exact ⟨_, rfl, h⟩
          | succ i => exact ih2 i (by simpa using q)
      rw [List.filterMap_cons_some q, List.filterMap_cons_some (show us.toArray[i]? = some u by simpa using hu)]
      exact .cons ru ih
theorem pe_slice3 {X : Cx} {e : Expr} {te : TE} {lo hi : Option Expr} {st : Expr} {tl th ts : TO} {pos p2 : Pos} (he : PE X e te) (hl : PO X lo tl) (hu : PO X hi th) (hs : PO X (some st) ts) : PE X (.Subscript e (.Slice lo hi (some st) p2) pos) (tSl3 X.K te tl th ts) := by
  refine ⟨fun pins s σ H Q I h => ?_⟩
  refine Subscript_ (thn (he.run pins s σ H _ I h) fun v s1 ⟨x, H1, I1, r1, q1⟩ => ?_)
  refine wpAny_Slice (thn (hl.run pins s1 σ H1 _ I1 q1) fun vl s2 ⟨l, H2, I2, pl, q2⟩ => thn (hu.run pins s2 σ H2 _ I2 q2) fun vu s3 ⟨u, H3, I3, pu, q3⟩ => thn (hs.run pins s3 σ H3 _ I3 q3) fun vk s4 ⟨k, H4, I4, pk, q4⟩ => ?_)
  have I5 : Inv X pins σ H4 { s4 with heap := s4.heap.push { cls := .type "slice", data := .fields #[vl, vu, vk] } } := I4.kept (t' := s4.toks) fun b ob q => Heap.get?_push_of_some _ q
  obtain ⟨a, xs, rfl, hx, k0, hz, q⟩ := q4
  cases r1
  obtain ⟨its, r, ht, hz0⟩ := I5.list hx
  have hlen := r.length
  have go : wpAny (model X.prog X.w) X.A (getItem (.ref a) (.ref s4.heap.objs.size)) (EP X pins σ Q) X.xe { s4 with heap := s4.heap.push { cls := .type "slice", data := .fields #[vl, vu, vk] } } := by
    refine wpAny_getItem_list_slice ht.isList (Heap.IsSliceOf.new ..) pl pu pk k0 ?_ (by rw [List.size_toArray] <;> omega)
    have e1 : slicePick its.toArray l u k = ((sliceRange (sliceBounds l u k xs.length).1 (sliceBounds l u k xs.length).2.1 (sliceBounds l u k xs.length).2.2).filterMap (its.toArray[·]?)).toArray := by
      unfold slicePick
      rw [List.size_toArray, ← hlen]
    rw [e1]
    refine ⟨.ref _, _, I5.laid (t' := s4.toks) (o := .lst (pickV xs l u k)) (fun b ob q => Heap.get?_push_of_some _ q) (Nat.le_refl _) ?_, rfl, q _ (I5.hok.fresh (Nat.le_refl _))⟩
    exact ⟨hz, _, 0, vals_pick r _, Heap.get?_push_size _ rfl⟩
  show wpAny (model X.prog X.w) X.A (subscriptTail e (.Slice lo hi (some st) p2) (.ref a) (.ref s4.heap.objs.size)) (EP X pins σ Q) X.xe { s4 with heap := s4.heap.push { cls := .type "slice", data := .fields #[vl, vu, vk] } }
  exact tail_any (ops := [.ref a, .ref s4.heap.objs.size]) ht.isList.typeIs slot_list_getitem.lookup go (by with_unfolding_all rfl)
def pickI (ns : List Int) (lo hi st : Option Int) : List Int := (sliceRange (sliceBounds lo hi st ns.length).1 (sliceBounds lo hi st ns.length).2.1 (sliceBounds lo hi st ns.length).2.2).filterMap (ns[·]?)
theorem pick_map (ns : List Int) (lo hi st : Option Int) : pickV (ns.map V.int) lo hi st = (pickI ns lo hi st).map V.int := by
  unfold pickV pickI
  rw [List.length_map, List.map_filterMap]
  congr 1
  funext i
  rw [List.getElem?_map]
theorem range_len : ∀ n, n < 64 → ∀ a, a < 2 → (sliceRange (sliceBounds (some (a : Nat)) (some 48) (some 2) n).1 (sliceBounds (some (a : Nat)) (some 48) (some 2) n).2.1 (sliceBounds (some (a : Nat)) (some 48) (some 2) n).2.2).length ≤ 24 := by decide +kernel
theorem pick_len {ns : List Int} (h : ns.length ≤ 63) {a : Nat} (ha : a < 2) : (pickI ns (some (a : Nat)) (some 48) (some 2)).length ≤ 24 :=
  Nat.le_trans (List.length_filterMap_le ..) (range_len ns.length (by omega) a ha)
theorem ev_sl3Scr {K : PySem.W.Frag} {δ : Sto} {te : TE} {tlo thi tst : TO} {ns : List Int} {lo hi st : Option Int} (h : EvS te δ (.scr K ns)) (h1 : EoS tlo δ lo) (h2 : EoS thi δ hi) (h3 : EoS tst δ st) (k0 : st ≠ some 0) (hz : (pickI ns lo hi st).length ≤ 100000) : EvS (tSl3 K te tlo thi tst) δ (.lst ((pickI ns lo hi st).map dI)) := fun σ H Q S q =>
  h σ H _ S fun v H1 u1 d1 => h1 σ H1 _ (S.mono u1) fun H2 u2 => h2 σ H2 _ (S.mono (u1.trans u2)) fun H3 u3 => h3 σ H3 _ (S.mono ((u1.trans u2).trans u3)) fun H4 u4 => by
    have d4 := d1.mono ((u2.trans u3).trans u4)
    cases d4 with
    | scr hs =>
      have hs' : SqL K H4.H _ (ns.map V.int) := hs.imp (fun h => h.imp (fun h => Hv.sub h) fun ⟨o, h⟩ => ⟨o, Hv.sub h⟩) id
      refine ⟨_, _, rfl, hs', k0, by rw [pick_map, List.length_map]; exact Evl.sz_of hz, fun p hp => q _ (H4.nw p _ hp) ((((u1.trans u2).trans u3).trans u4).trans (Up.new hp)) (.lst Hv.nw_at ?_)⟩
      rw [pick_map]
      exact DenL.ofInts
/-! ### xs.pop(i) -/
theorem DenL.eraseIdx {H : Hv} {vs : List V} {ds : List Dt} (h : DenL H vs ds) (k : Nat) : DenL H (vs.eraseIdx k) (ds.eraseIdx k) := by
  rw [List.eraseIdx_eq_take_drop_succ, List.eraseIdx_eq_take_drop_succ]
  exact (h.take k).app (h.drop (k + 1))
theorem evm_popAt {T : List (Addr × Str)} {K : PySem.W.Frag} {E : XK} {δ : Sto} {μ : Mu} {td ty : TE} {N : Dt → Mu → Prop} {W : WM} (h : EvM T E td δ μ (fun x m => ∃ a ds0, x = .raw (.ref a) ∧ m a = some (.lst ds0) ∧ EvM T E ty δ m (fun y m2 => ∃ ds i d, y = dI i ∧ m2 a = some (.lst ds) ∧ ds.length ≤ 100000 ∧ 0 ≤ i ∧ ds[i.toNat]? = some d ∧ N d (putM m2 a (.lst (ds.eraseIdx i.toNat)))) W) W) : EvM T E (tBM K "list" rPopAt td (tCons ty tNil)) δ μ N W := fun σ s Q m S q qe =>
  h σ s _ m S (fun v t x l dx ⟨a, ds0, e, ha0, k⟩ => by
    subst e
    obtain ⟨xs0, h0, _⟩ := MH.cell ha0
    rw [dx.rawI]
    refine ⟨.inl ⟨rfl, xs0, SqL.of h0⟩, k σ t _ rfl (S.monoG l.ug) (fun w u y l2 dy ⟨ds, i, d, e2, ha, hl, i0, hd, nn⟩ => ?_) fun C fs u l2 w => qe C fs u (l.trans l2) w⟩
    subst e2
    obtain ⟨xs, h1, h2⟩ := MH.cell ha
    obtain ⟨z, p1, p2⟩ := h2.get hd
    have hi := (List.getElem?_eq_some_iff.mp hd).1
    have hi2 := (List.getElem?_eq_some_iff.mp p1).1
    obtain ⟨s4, e4, e5, l4⟩ := u.put_ex (o' := .lst (ds.eraseIdx i.toNat)) (.lst (xs.eraseIdx i.toNat)) ha fun V e ug => ⟨_, by rw [e]; exact upd_same, (h2.eraseIdx _).monoG ug⟩
    refine ⟨a, xs, i, i.toNat, z, rfl, by rw [dy.rawI], h1, by omega, by omega, PySem.seqIndex_of i0 (by omega), p1, ?_⟩
    rw [← e4]
    exact q z s4 d ((l.trans l2).trans l4) (p2.monoG l4.ug) (by rw [e5]; exact nn)) qe
/-! ### folds -/
theorem meets_app {l m : List Ck} {t : Int} : meets (l ++ m) t ↔ meets l t ∧ meets m t :=
  ⟨fun h => ⟨fun c hc => h c (List.mem_append_left _ hc), fun c hc => h c (List.mem_append_right _ hc)⟩, fun h c hc => (List.mem_append.mp hc).elim (h.1 c) (h.2 c)⟩
theorem fold_spec {l : List Ck} (h : ∀ c ∈ l, okCk c) {G : Ck} (e : foldAll (1, 0) l = some G) : okCk G ∧ (∀ n : Int, G.1 ∣ n ↔ ∀ c ∈ l, c.1 ∣ n) ∧ ∀ t : Int, t % G.1 = G.2 ↔ meets l t := by
  obtain ⟨g1, g2, g3⟩ := foldAll_some okCk_one h e
  refine ⟨g1, fun n => ?_, fun t => ?_⟩
  · rw [g2]
    exact ⟨fun h => h.2, fun h => ⟨Int.one_dvd n, h⟩⟩
  · rw [g3]
    exact ⟨fun h => h.2, fun h => ⟨Int.emod_one t, h⟩⟩
theorem fold_some_of {l : List Ck} (h : ∀ c ∈ l, okCk c) {t : Int} (m : meets l t) : ∃ G, foldAll (1, 0) l = some G := foldAll_none okCk_one h (Int.emod_one t) m
theorem fold_first {l : List Ck} (h : ∀ c ∈ l, okCk c) {G : Ck} (e : foldAll (1, 0) l = some G) : meets l G.2 := by
  obtain ⟨g1, _, g3⟩ := fold_spec h e
  exact (g3 G.2).mp (Int.emod_eq_of_lt g1.2.1 g1.2.2)
theorem ck_ext {G F : Ck} (hG : okCk G) (hF : okCk F) (h1 : ∀ n : Int, G.1 ∣ n ↔ F.1 ∣ n) (h2 : ∀ t : Int, t % G.1 = G.2 ↔ t % F.1 = F.2) : G = F := by
  have a := (h1 F.1).mpr (Int.dvd_refl _)
  have b := (h1 G.1).mp (Int.dvd_refl _)
  have e1 : G.1 = F.1 := Int.dvd_antisymm (by have := hG.1; omega) (by have := hF.1; omega) a b
  have e2 := (h2 G.2).mp (Int.emod_eq_of_lt hG.2.1 hG.2.2)
  rw [← e1, Int.emod_eq_of_lt hG.2.1 hG.2.2] at e2
  exact Prod.ext e1 e2
/-- the order of clocks changes nothing -/
theorem foldAll_perm {l m : List Ck} (h : ∀ c ∈ l, okCk c) (p : m.Perm l) : foldAll (1, 0) m = foldAll (1, 0) l := by
  have hm : ∀ c ∈ m, okCk c := fun c hc => h c (p.mem_iff.mp hc)
  have mt : ∀ t, meets m t ↔ meets l t := fun t => ⟨fun k c hc => k c (p.mem_iff.mpr hc), fun k c hc => k c (p.mem_iff.mp hc)⟩
  cases e1 : foldAll (1, 0) m with
  | none =>
    cases e2 : foldAll (1, 0) l with
    | none => rfl
    | some G =>
      obtain ⟨F, hF⟩ := fold_some_of hm ((mt _).mpr (fold_first h e2))
      rw [e1] at hF
      cases hF
  | some F =>
    obtain ⟨G, hG⟩ := fold_some_of h ((mt _).mp (fold_first hm e1))
    rw [hG]
    obtain ⟨a1, a2, a3⟩ := fold_spec hm e1
    obtain ⟨b1, b2, b3⟩ := fold_spec h hG
    rw [ck_ext a1 b1 (fun n => by rw [a2, b2]; exact ⟨fun k c hc => k c (p.mem_iff.mpr hc), fun k c hc => k c (p.mem_iff.mp hc)⟩) fun t => by rw [a3, b3]; exact mt t]
/-- fewer clocks -/
theorem fold_sub {l m : List Ck} (h : ∀ c ∈ l, okCk c) (s : ∀ c ∈ m, c ∈ l) {G : Ck} (e : foldAll (1, 0) l = some G) : ∃ F, foldAll (1, 0) m = some F ∧ okCk F ∧ G.1 % F.1 = 0 ∧ G.2 % F.1 = F.2 ∧ meets m G.2 := by
  have hm : ∀ c ∈ m, okCk c := fun c hc => h c (s c hc)
  have k : meets m G.2 := fun c hc => fold_first h e c (s c hc)
  obtain ⟨F, hF⟩ := fold_some_of hm k
  obtain ⟨a1, a2, a3⟩ := fold_spec hm hF
  obtain ⟨b1, b2, b3⟩ := fold_spec h e
  exact ⟨F, hF, a1, Int.emod_eq_zero_of_dvd ((a2 _).mpr fun c hc => (b2 _).mp (Int.dvd_refl _) c (s c hc)), (a3 _).mpr k, k⟩
/-- two lots of clocks -/
theorem fold_lack {l m : List Ck} (hl : ∀ c ∈ l, okCk c) (hm : ∀ c ∈ m, okCk c) (h : foldAll (1, 0) l = none ∨ foldAll (1, 0) m = none) : foldAll (1, 0) (l ++ m) = none := by
  cases e : foldAll (1, 0) (l ++ m) with
  | none => rfl
  | some G =>
    obtain ⟨k1, k2⟩ := meets_app.mp (fold_first (fun c hc => (List.mem_append.mp hc).elim (hl c) (hm c)) e)
    obtain ⟨F, hF⟩ := fold_some_of hl k1
    obtain ⟨D, hD⟩ := fold_some_of hm k2
    rcases h with z | z
    · rw [hF] at z
      cases z
    · rw [hD] at z
      cases z
theorem fold_apart {l m : List Ck} (hl : ∀ c ∈ l, okCk c) (hm : ∀ c ∈ m, okCk c) {F D : Ck} (e1 : foldAll (1, 0) l = some F) (e2 : foldAll (1, 0) m = some D) (e3 : foldAll (1, 0) (l ++ m) = none) : (F.2 - D.2) % (Int.gcd F.1 D.1 : Int) ≠ 0 := fun z => by
  obtain ⟨a1, _, a3⟩ := fold_spec hl e1
  obtain ⟨b1, _, b3⟩ := fold_spec hm e2
  have ag : agr F D = true := by
    rw [← agr_back]
    exact decide_eq_true z
  have e : fold1 F D = some (foldR F.1 D.1, foldF F.1 F.2 D.1 D.2) := if_pos ag
  obtain ⟨g1, _, g3⟩ := fold1_some a1 b1 e
  obtain ⟨k1, k2⟩ := (g3 _).mp (Int.emod_eq_of_lt g1.2.1 g1.2.2)
  obtain ⟨C, hC⟩ := fold_some_of (fun c hc => (List.mem_append.mp hc).elim (hl c) (hm c)) (meets_app.mpr ⟨(a3 _).mp k1, (b3 _).mp k2⟩)
  rw [e3] at hC
  cases hC
theorem fold_both {l m : List Ck} (hl : ∀ c ∈ l, okCk c) (hm : ∀ c ∈ m, okCk c) {F D C : Ck} (e1 : foldAll (1, 0) l = some F) (e2 : foldAll (1, 0) m = some D) (e3 : foldAll (1, 0) (l ++ m) = some C) : C.1 = F.1 / (Int.gcd F.1 D.1 : Int) * D.1 ∧ C.2 % F.1 = F.2 ∧ C.2 % D.1 = D.2 := by
  have hlm : ∀ c ∈ l ++ m, okCk c := fun c hc => (List.mem_append.mp hc).elim (hl c) (hm c)
  obtain ⟨a1, a2, a3⟩ := fold_spec hl e1
  obtain ⟨b1, b2, b3⟩ := fold_spec hm e2
  obtain ⟨c1, c2, c3⟩ := fold_spec hlm e3
  obtain ⟨k1, k2⟩ := meets_app.mp (fold_first hlm e3)
  refine ⟨?_, (a3 _).mpr k1, (b3 _).mpr k2⟩
  rw [← foldR_other a1.1 b1.1]
  obtain ⟨r1, r2, r3, r4⟩ := foldR_lcm a1.1 b1.1
  have d : ∀ n : Int, C.1 ∣ n ↔ F.1 ∣ n ∧ D.1 ∣ n := fun n => by
    rw [c2, a2, b2]
    exact ⟨fun h => ⟨fun c hc => h c (List.mem_append_left _ hc), fun c hc => h c (List.mem_append_right _ hc)⟩, fun h c hc => (List.mem_append.mp hc).elim (h.1 c) (h.2 c)⟩
  obtain ⟨q1, q2⟩ := (d C.1).mp (Int.dvd_refl _)
  exact Int.dvd_antisymm (by have := c1.1; omega) (by omega) ((d _).mpr ⟨r1, r2⟩) (r4 _ q1 q2)
theorem layC_snd : ∀ (l : List Ck) (g : Int) (cs : Cks), (layC g cs l).map (·.2) = cs.map (·.2) ++ l
  | [], g, cs => by
    show cs.map (·.2) = _
    rw [List.append_nil]
  | c :: l, g, cs => by
    show (layC (g + 1) (cs ++ [(g + 1, c)]) l).map (·.2) = _
    rw [layC_snd l, List.map_append, List.append_assoc]
    rfl
theorem rising_len {g : Int} : ∀ (l : List Int) (lo : Int), lo ≤ g → l.Pairwise (· < ·) → (∀ x ∈ l, lo < x ∧ x ≤ g) → (l.length : Int) ≤ g - lo
  | [], lo, h, _, _ => by
    show (0 : Int) ≤ g - lo
    omega
  | x :: l, lo, h, p, a => by
    obtain ⟨p1, p2⟩ := List.pairwise_cons.mp p
    obtain ⟨x1, x2⟩ := a x List.mem_cons_self
    have := rising_len l x x2 p2 fun y hy => ⟨p1 y hy, (a y (List.mem_cons_of_mem _ hy)).2⟩
    rw [List.length_cons]
    omega
theorem Good.len {g : Int} {cs : Cks} (h : Good g cs) : (cs.length : Int) ≤ g := by
  have := rising_len (cs.map (·.1)) 0 h.g0 h.up fun x hx => by
    obtain ⟨p, hp, rfl⟩ := List.mem_map.mp hx
    have := h.lo p hp
    omega
  rw [List.length_map] at this
  omega
theorem Good.oks {g : Int} {cs : Cks} (h : Good g cs) : ∀ c ∈ cs.map (·.2), okCk c := fun c hc => by
  obtain ⟨p, hp, rfl⟩ := List.mem_map.mp hc
  exact (h.ok p hp).1
theorem Good.small {g : Int} {cs : Cks} (h : Good g cs) {G : Ck} (e : foldAll (1, 0) (cs.map (·.2)) = some G) : G.1.natAbs < 2 ^ 8000 := foldAll_small (fun c hc => by
  obtain ⟨p, hp, rfl⟩ := List.mem_map.mp hc
  exact h.ok p hp) (by rw [List.length_map]; exact h.le) e
/-! ### next and last meetings -/
theorem near_same {G : Ck} {t : Int} (h : okCk G) (e : t % G.1 = G.2) : nextF G t = t ∧ lastF G t = t := by
  have h1 := h.1
  have a : (G.2 - t) % G.1 = 0 := by
    rw [← e]
    have := Int.emod_emod_of_dvd t (Int.dvd_refl G.1)
    rw [Int.sub_emod, Int.emod_emod_of_dvd _ (Int.dvd_refl _), Int.sub_self, Int.zero_emod]
  have b : (t - G.2) % G.1 = 0 := by
    rw [← e]
    rw [Int.sub_emod, Int.emod_emod_of_dvd _ (Int.dvd_refl _), Int.sub_self, Int.zero_emod]
  unfold nextF lastF
  rw [a, b]
  omega
theorem near_apart {G : Ck} {t : Int} (h : okCk G) (e : t % G.1 ≠ G.2) : nextF G t - lastF G t = G.1 := by
  have h1 := h.1
  obtain ⟨u0, u1, u2⟩ := nextF_in h t
  obtain ⟨l0, l1, l2⟩ := lastF_in h t
  have n1 : nextF G t ≠ t := fun z => e (by rw [← z]; rw [z] at u2; rw [z]; exact u2)
  have n2 : lastF G t ≠ t := fun z => e (by rw [z] at l2; exact l2)
  have d : G.1 ∣ nextF G t - lastF G t := Int.dvd_of_emod_eq_zero (by rw [Int.sub_emod, u2, l2, Int.sub_self, Int.zero_emod])
  obtain ⟨k, hk⟩ := d
  have k1 : 0 < k := by
    rcases Int.lt_or_le 0 k with z | z
    · exact z
    · have := Int.mul_le_mul_of_nonneg_left z (show 0 ≤ G.1 by omega)
      omega
  have k2 : k < 2 := by
    rcases Int.lt_or_le k 2 with z | z
    · exact z
    · have := Int.mul_le_mul_of_nonneg_left z (show 0 ≤ G.1 by omega)
      omega
  have : k = 1 := by omega
  rw [hk, this, Int.mul_one]
end Dn
/-! Own layer: what the law over the whole wall asks of its helpers. -/
namespace Dn
open PySem PySem.Spec PyProof.Rows L2 LamX
theorem od_neCks0 {K : PySem.W.Frag} {l : List Ck} : OpD (rNeU K) (.lst (l.map ckD)) (.lst []) (dB (!l.isEmpty)) := by
  have := od_neUD (K := K) (x := .lst (l.map ckD)) (y := .lst []) (p := .list (l.map pyCk)) (q := .list []) (by show (pyL (l.map ckD)).map PyData.list = _; rw [py_cks]; rfl) rfl (shaped_cks l) (by rfl)
  cases l with
  | nil => exact this
  | cons c l => exact this
def sndF : Dt → Option Dt
  | .tup [_, x] => some x
  | _ => none
theorem sndF_all : ∀ cs : Cks, (itsD cs).filterMap sndF = (cs.map (·.2)).map ckD
  | [] => rfl
  | p :: cs => by
    show (itemD (.inl p.1, ckD p.2) :: itsD cs).filterMap sndF = _
    rw [List.filterMap_cons_some (show sndF (itemD (.inl p.1, ckD p.2)) = some (ckD p.2) from rfl), sndF_all cs]
    rfl
theorem ck_good {c : Ck} (h : okCk c ∧ c.1 ≤ 1000000000000000000000000000000) : isClock (ckD c) = true := isClock_good h.1.1 h.2 h.1.2.1 h.1.2.2
theorem right_ok {CB CT : Addr} {c : Ck} {t : Int} (h : isClock (ckD c) = true) : ckTurn CB CT rightD [ckD c, dI t] = .ok (dB (decide (t % c.1 = c.2))) := by
  show (if isClock (ckD c) = true then (if isNum (dI t) = true then (Except.ok (rightD (ckD c) (dI t)) : Rs) else .error CT) else .error CB) = _
  rw [if_pos h, if_pos (show isNum (dI t) = true from rfl)]
  rfl
theorem agree_ok {CB : Addr} {c d : Ck} (h : isClock (ckD c) = true) (k : isClock (ckD d) = true) : ckTwo CB agrD [ckD c, ckD d] = .ok (dB (agr c d)) := by
  rw [ckTwo_ok h k, agrD_ck]
def optK (o : Option Ck) : Dt := match o with | some G => ckD G | none => dN
theorem optK_of {o : Option Ck} {d : Dt} (h : (∃ G, o = some G ∧ d = ckD G) ∨ (o = none ∧ d = dN)) : d = optK o := by
  rcases h with ⟨G, rfl, rfl⟩ | ⟨rfl, rfl⟩ <;> rfl
theorem optK_none (o : Option Ck) : noneD (optK o) = o.isNone := by cases o <;> rfl
abbrev foldC (cs : Cks) : Option Ck := foldAll (1, 0) (cs.map (·.2))
theorem od_neOptK {K : PySem.W.Frag} {o : Option Ck} : OpD (rNeU K) (optK o) (optK o) (dB false) := by
  cases o with
  | none => exact od_neSame rfl (by rfl)
  | some G => exact od_neSame (x := ckD G) rfl (by rfl)
section
variable (A : Ads)
abbrev wallP (x : Wg) (m : Mu) : Prop := IsW A.WL m x.a x.h x.g x.cs ∧ Good x.g x.cs ∧ x.g ≤ 60
abbrev growT {α : Type} (_ : α) (_ : List Dt) (m : Mu) (d : Dt) (m' : Mu) : Prop := d = dB true ∧ Grow m m'
abbrev spHung : Sp := spG (α := List Int × Int × Int) 3 (fun x ds m => ds = [.lst (x.1.map dI), dI x.2.1, dI x.2.2] ∧ x.1.length ≤ 24 ∧ 0 ≤ x.2.1 ∧ x.2.1 ≤ 1000) (fun x _ m d m' => ∃ p h g cs, d = .raw (.ref p) ∧ NewW A.WL m p h g cs m' ∧ Good g cs ∧ g ≤ 24) noG
abbrev spIsTold : Sp := spG (α := Wg) 1 (fun x ds m => ds = [.raw (.ref x.a)] ∧ wallP A x m) growT noG
abbrev spBetween : Sp := spG (α := Wg × Int × Ck) 2 (fun x ds m => ds = [.raw (.ref x.1.a), dI x.2.1] ∧ wallP A x.1 m ∧ foldC x.1.cs = some x.2.2) (fun _ _ m d m' => d = dB true ∧ m' = m) noG
abbrev spTurned : Sp := spG (α := Wg × Int) 2 (fun x ds m => ds = [.raw (.ref x.1.a), dI x.2] ∧ wallP A x.1 m ∧ 0 ≤ x.2) (fun x _ m d m' => ∃ p h g cs, d = .raw (.ref p) ∧ NewW A.WL m p h g cs m' ∧ Good g cs ∧ g ≤ 60 ∧ (cs.map (·.2)).Perm (x.1.cs.map (·.2))) noG
abbrev spLess : Sp := spG (α := Wg × Int × Ck) 2 (fun x ds m => ds = [.raw (.ref x.1.a), dI x.2.1] ∧ wallP A x.1 m ∧ foldC x.1.cs = some x.2.2 ∧ x.1.cs ≠ [] ∧ 0 ≤ x.2.1) growT noG
abbrev spLaidGood : Sp := spG (α := Wg × Wg) 2 (fun x ds m => ds = [.raw (.ref x.1.a), .raw (.ref x.2.a)] ∧ wallP A x.1 m ∧ wallP A x.2 m ∧ x.1.g ≤ 24 ∧ x.2.g ≤ 24) growT noG
end
theorem small60 {g : Int} (h : g ≤ 60) : g < 10 ^ 10 := by
  have : (10 : Int) ^ 10 = 10000000000 := by decide
  omega
/-- a new wall's cells are none of an old one's -/
theorem new_off {WL : Addr} {m : Mu} {a h p q : Addr} {g : Int} {cs : Cks} (w : IsW WL m a h g cs) (hp : m p = none) (hq : m q = none) : a ≠ p ∧ a ≠ q ∧ h ≠ p ∧ h ≠ q := ⟨ne_new w.ob hp, ne_new w.ob hq, ne_new w.dc hp, ne_new w.dc hq⟩
theorem IsW.off {WL : Addr} {m : Mu} {a h p q : Addr} {g k : Int} {cs ds : Cks} (w : IsW WL m a h g cs) (n : a ≠ p ∧ a ≠ q ∧ h ≠ p ∧ h ≠ q) : IsW WL (setW WL m p q k ds) a h g cs := ⟨(setW_off n.1 n.2.1).trans w.ob, (setW_off n.2.2.1 n.2.2.2).trans w.dc⟩
theorem Grow.setW {WL : Addr} {m0 m : Mu} {p q : Addr} {k : Int} {ds : Cks} (g : Grow m0 m) (hp : m0 p = none) (hq : m0 q = none) : Grow m0 (setW WL m p q k ds) := fun b o e => by
  rw [setW_off (fun z => by rw [z, hp] at e; cases e) (fun z => by rw [z, hq] at e; cases e)]
  exact g b o e
theorem Grow.putN {m0 m : Mu} {p : Addr} {o' : MO} (g : Grow m0 m) (hp : m0 p = none) : Grow m0 (putM m p o') := fun b o e => by
  rw [putM_ne fun z => by rw [z, hp] at e; cases e]
  exact g b o e
theorem none_back {m m' : Mu} {b : Addr} (g : Grow m m') (h : m' b = none) : m b = none := by
  cases q : m b with
  | none => rfl
  | some o =>
    rw [g b o q] at h
    cases h
theorem metC_fold {g : Int} {cs : Cks} (hg : Good g cs) {G : Ck} (e : foldC cs = some G) (t : Int) : metC cs t = decide (t % G.1 = G.2) := by
  obtain ⟨_, _, k⟩ := fold_spec hg.oks e
  by_cases h : t % G.1 = G.2
  · rw [decide_eq_true h]
    exact metC_iff.mpr ((k t).mp h)
  · rw [decide_eq_false h]
    cases q : metC cs t with
    | false => rfl
    | true => exact absurd ((k t).mpr (metC_iff.mp q)) h
theorem erase_perm : ∀ {l : List Ck} {i : Nat} {c : Ck}, l[i]? = some c → l.Perm (c :: l.eraseIdx i)
  | [], i, c, h => by simp at h
  | x :: l, 0, c, h => by
    have h : some x = some c := h
    cases h
    exact .refl _
  | x :: l, i + 1, c, h => by
    have ih := erase_perm (l := l) (i := i) (c := c) (by simpa using h)
    show (x :: l).Perm (c :: x :: l.eraseIdx i)
    exact (ih.cons x).trans (.swap c x _)
theorem map_erase (l : List Ck) (i : Nat) : (l.map ckD).eraseIdx i = (l.eraseIdx i).map ckD := by
  rw [List.eraseIdx_eq_take_drop_succ, List.eraseIdx_eq_take_drop_succ, List.map_append, List.map_take, List.map_drop]
end Dn

namespace Dn
open PySem PySem.Spec PyProof.Rows L2 LamX
local macro_rules | `(tactic| walk_at "sd") => `(tactic| first | assumption | decide +kernel | (show (0 : Int) < _; first | assumption | omega) | exact cm64 (by omega) (by omega) | exact ⟨by omega, by decide +kernel⟩ | omega)
local macro_rules | `(tactic| walk_at "od") => `(tactic| first | exact od_addI | exact od_I0 | exact od_I (by walk_at "sd") | exact od_mulI (by walk_at "sd") | exact od_eqUI | exact od_neUI | exact od_isT | exact od_noT | exact od_isNo | exact od_noNo | exact od_isB | exact od_notB | exact od_eqUB | exact od_addL (by decide) | exact od_addT (by simp) (by simp) (by simp) | exact od_ixSeqT (by decide) rfl)
local macro_rules | `(tactic| walk_at "ca") => `(tactic| first | exact ca_listT | exact ca_lenUT | exact ca_lenUL | exact ca_type rfl)
local macro_rules | `(tactic| walk_at "ea") => `(tactic| first | ((with_reducible show EaS tNil _ _); exact ea_nil) | exact ea_cons (by walk_at "ev") (by walk_at "ea"))
local macro_rules | `(tactic| walk_at "ev") => `(tactic| first | ((with_reducible show EvS (tC _) _ _); exact ev_c) | ((with_reducible show EvS (tVar _) _ _); exact ev_var rfl) | ((with_reducible show EvS (tOp _ _ _) _ _); exact ev_op (by walk_at "ev") (by walk_at "ev") (by walk_at "od")) | ((with_reducible show EvS (tUn _ _) _ _); exact ev_un (by walk_at "ev") ud_U) | ((with_reducible show EvS (tTup _) _ _); exact ev_tup (by walk_at "ea") (by simp)) | ((with_reducible show EvS (tLst _) _ _); exact ev_lst (by walk_at "ea") (by simp)) | ((with_reducible show EvS tDNewK _ _); exact ev_dnewK) | ((with_reducible show EvS (tCB _ _) _ _); exact ev_cb (by walk_at "ea") (by walk_at "ca")))
def topS (i : Nat) : Stmt := PySem.Challenge.pw_restfold_k01_whole_all_of_a_wall_meet.main.body.getD i (.Pass ⟨0, 0, 0, 0⟩)
abbrev st_Never_init : Stmt := inClass (topS 8) 0
abbrev st_is_number : Stmt := topS 11
theorem sc_is_number : FnScope ["thing"] ["thing"] (defScope st_is_number) := ⟨rfl, rfl, rfl, by decide +kernel, rfl, by decide +kernel, by decide +kernel⟩
abbrev st_is_clock : Stmt := topS 12
theorem sc_is_clock : FnScope ["thing", "hours", "hour"] ["thing"] (defScope st_is_clock) := ⟨rfl, rfl, rfl, by decide +kernel, rfl, by decide +kernel, by decide +kernel⟩
abbrev st_need_clock : Stmt := topS 13
theorem sc_need_clock : FnScope ["thing"] ["thing"] (defScope st_need_clock) := ⟨rfl, rfl, rfl, by decide +kernel, rfl, by decide +kernel, by decide +kernel⟩
abbrev st_need_turn : Stmt := topS 14
theorem sc_need_turn : FnScope ["thing"] ["thing"] (defScope st_need_turn) := ⟨rfl, rfl, rfl, by decide +kernel, rfl, by decide +kernel, by decide +kernel⟩
abbrev st_hour_at : Stmt := topS 15
theorem sc_hour_at : FnScope ["clock", "turn"] ["clock", "turn"] (defScope st_hour_at) := ⟨rfl, rfl, rfl, by decide +kernel, rfl, by decide +kernel, by decide +kernel⟩
abbrev st_shows : Stmt := topS 16
theorem sc_shows : FnScope ["clock", "turn"] ["clock", "turn"] (defScope st_shows) := ⟨rfl, rfl, rfl, by decide +kernel, rfl, by decide +kernel, by decide +kernel⟩
abbrev st_is_right : Stmt := topS 17
theorem sc_is_right : FnScope ["clock", "turn"] ["clock", "turn"] (defScope st_is_right) := ⟨rfl, rfl, rfl, by decide +kernel, rfl, by decide +kernel, by decide +kernel⟩
abbrev st_witness : Stmt := topS 18
theorem sc_witness : FnScope ["one", "other", "common"] ["one", "other"] (defScope st_witness) := ⟨rfl, rfl, rfl, by decide +kernel, rfl, by decide +kernel, by decide +kernel⟩
abbrev st_agree : Stmt := topS 19
theorem sc_agree : FnScope ["one", "other", "_", "rest", "others_rest"] ["one", "other"] (defScope st_agree) := ⟨rfl, rfl, rfl, by decide +kernel, rfl, by decide +kernel, by decide +kernel⟩
abbrev st_joined : Stmt := topS 20
theorem sc_joined : FnScope ["one", "other", "whole", "first", "hours", "hour", "common", "apart", "steps", "times"] ["one", "other"] (defScope st_joined) := ⟨rfl, rfl, rfl, by decide +kernel, rfl, by decide +kernel, by decide +kernel⟩
abbrev st_inverse : Stmt := topS 21
theorem sc_inverse : FnScope ["number", "modulus", "rest", "next_rest", "factor", "next_factor", "times"] ["number", "modulus"] (defScope st_inverse) := ⟨rfl, rfl, rfl, by decide +kernel, rfl, by decide +kernel, by decide +kernel⟩
abbrev st_Wall_init : Stmt := inClass (topS 24) 0
theorem sc_Wall_init : FnScope ["self"] ["self"] (defScope st_Wall_init) := ⟨rfl, rfl, rfl, by decide +kernel, rfl, by decide +kernel, by decide +kernel⟩
abbrev st_Wall_put : Stmt := inClass (topS 24) 1
theorem sc_Wall_put : FnScope ["self", "clock", "hours", "hour"] ["self", "clock"] (defScope st_Wall_put) := ⟨rfl, rfl, rfl, by decide +kernel, rfl, by decide +kernel, by decide +kernel⟩
abbrev st_Wall_take : Stmt := inClass (topS 24) 2
theorem sc_Wall_take : FnScope ["self", "number", "clock"] ["self", "number"] (defScope st_Wall_take) := ⟨rfl, rfl, rfl, by decide +kernel, rfl, by decide +kernel, by decide +kernel⟩
abbrev st_Wall_turn_to : Stmt := inClass (topS 24) 3
theorem sc_Wall_turn_to : FnScope ["self", "number", "hour", "hours", "_"] ["self", "number", "hour"] (defScope st_Wall_turn_to) := ⟨rfl, rfl, rfl, by decide +kernel, rfl, by decide +kernel, by decide +kernel⟩
abbrev st_Wall_lay : Stmt := inClass (topS 24) 4
theorem sc_Wall_lay : FnScope ["self", "other", "laid", "_", "clock"] ["self", "other"] (defScope st_Wall_lay) := ⟨rfl, rfl, rfl, by decide +kernel, rfl, by decide +kernel, by decide +kernel⟩
abbrev st_Wall_clocks : Stmt := inClass (topS 24) 5
theorem sc_Wall_clocks : FnScope ["self"] ["self"] (defScope st_Wall_clocks) := ⟨rfl, rfl, rfl, by decide +kernel, rfl, by decide +kernel, by decide +kernel⟩
abbrev st_Wall_clash : Stmt := inClass (topS 24) 7
theorem sc_Wall_clash : FnScope ["self", "clocks", "at", "one", "clock", "other", "later"] ["self"] (defScope st_Wall_clash) := ⟨rfl, rfl, rfl, by decide +kernel, rfl, by decide +kernel, by decide +kernel⟩
abbrev st_Wall_copied : Stmt := inClass (topS 24) 8
theorem sc_Wall_copied : FnScope ["self"] ["self"] (defScope st_Wall_copied) := ⟨rfl, rfl, rfl, by decide +kernel, rfl, by decide +kernel, by decide +kernel⟩
abbrev st_Wall_fold : Stmt := inClass (topS 24) 9
theorem sc_Wall_fold : FnScope ["self", "found", "clock", "one", "other"] ["self"] (defScope st_Wall_fold) := ⟨rfl, rfl, rfl, by decide +kernel, rfl, by decide +kernel, by decide +kernel⟩
abbrev st_Wall_is_met : Stmt := inClass (topS 24) 10
theorem sc_Wall_is_met : FnScope ["self", "turn", "clock"] ["self", "turn"] (defScope st_Wall_is_met) := ⟨rfl, rfl, rfl, by decide +kernel, rfl, by decide +kernel, by decide +kernel⟩
abbrev st_Wall_next_turn : Stmt := inClass (topS 24) 11
theorem sc_Wall_next_turn : FnScope ["self", "turn", "whole", "first"] ["self", "turn"] (defScope st_Wall_next_turn) := ⟨rfl, rfl, rfl, by decide +kernel, rfl, by decide +kernel, by decide +kernel⟩
abbrev st_Wall_last_turn : Stmt := inClass (topS 24) 12
theorem sc_Wall_last_turn : FnScope ["self", "turn", "whole", "first"] ["self", "turn"] (defScope st_Wall_last_turn) := ⟨rfl, rfl, rfl, by decide +kernel, rfl, by decide +kernel, by decide +kernel⟩
abbrev st_Wall_clock_of : Stmt := inClass (topS 24) 13
theorem sc_Wall_clock_of : FnScope ["self", "number"] ["self", "number"] (defScope st_Wall_clock_of) := ⟨rfl, rfl, rfl, by decide +kernel, rfl, by decide +kernel, by decide +kernel⟩
abbrev st_Wall_need_room : Stmt := inClass (topS 24) 14
theorem sc_Wall_need_room : FnScope ["self", "many"] ["self", "many"] (defScope st_Wall_need_room) := ⟨rfl, rfl, rfl, by decide +kernel, rfl, by decide +kernel, by decide +kernel⟩
abbrev st_wall_needed : Stmt := topS 25
theorem sc_wall_needed : FnScope ["thing"] ["thing"] (defScope st_wall_needed) := ⟨rfl, rfl, rfl, by decide +kernel, rfl, by decide +kernel, by decide +kernel⟩
abbrev st_wall_with : Stmt := topS 26
theorem sc_wall_with : FnScope ["clocks", "given", "wall"] ["clocks", "given"] (defScope st_wall_with) := ⟨rfl, rfl, rfl, by decide +kernel, rfl, by decide +kernel, by decide +kernel⟩
abbrev st_law_mixed : Stmt := topS 28
theorem sc_law_mixed : FnScope ["_law_cell", "_law_k", "_law_number"] ["_law_cell", "_law_k"] (defScope st_law_mixed) := ⟨rfl, rfl, rfl, by decide +kernel, rfl, by decide +kernel, by decide +kernel⟩
abbrev st_law_wide : Stmt := topS 30
theorem sc_law_wide : FnScope ["_law_cell", "_law_k"] ["_law_cell", "_law_k"] (defScope st_law_wide) := ⟨rfl, rfl, rfl, by decide +kernel, rfl, by decide +kernel, by decide +kernel⟩
abbrev st_law_hours : Stmt := topS 31
theorem sc_law_hours : FnScope ["_law_cell", "_law_k", "_law_number", "_law_few", "_law_smooth", "_law_wide_here"] ["_law_cell", "_law_k"] (defScope st_law_hours) := ⟨rfl, rfl, rfl, by decide +kernel, rfl, by decide +kernel, by decide +kernel⟩
abbrev st_law_turn : Stmt := topS 32
theorem sc_law_turn : FnScope ["_law_cell", "_law_k", "_law_number", "_law_wide_here"] ["_law_cell", "_law_k"] (defScope st_law_turn) := ⟨rfl, rfl, rfl, by decide +kernel, rfl, by decide +kernel, by decide +kernel⟩
abbrev st_law_common : Stmt := topS 33
theorem sc_law_common : FnScope ["_law_one", "_law_other"] ["_law_one", "_law_other"] (defScope st_law_common) := ⟨rfl, rfl, rfl, by decide +kernel, rfl, by decide +kernel, by decide +kernel⟩
abbrev st_law_meant : Stmt := topS 34
theorem sc_law_meant : FnScope ["_law_cell", "_law_k", "_law_turn_here", "_law_hours_here"] ["_law_cell", "_law_k", "_law_turn_here"] (defScope st_law_meant) := ⟨rfl, rfl, rfl, by decide +kernel, rfl, by decide +kernel, by decide +kernel⟩
abbrev st_law_done : Stmt := topS 35
theorem sc_law_done : FnScope ["_law_shut", "_law_own", "_law_given", "_law_cell", "_law_k", "_law_turn_here", "_law_number", "_law_numbers", "_law_way", "_law_clock", "_law_at", "_law_hours_here", "_law_hour"] ["_law_shut", "_law_own", "_law_given", "_law_cell", "_law_k", "_law_turn_here"] (defScope st_law_done) := ⟨rfl, rfl, rfl, by decide +kernel, rfl, by decide +kernel, by decide +kernel⟩
abbrev st_law_hung : Stmt := topS 36
theorem sc_law_hung : FnScope ["_law_cells", "_law_k", "_law_turn_here", "_law_shut", "_law_own", "_law_given", "_law_at", "_law_cell"] ["_law_cells", "_law_k", "_law_turn_here"] (defScope st_law_hung) := ⟨rfl, rfl, rfl, by decide +kernel, rfl, by decide +kernel, by decide +kernel⟩
abbrev st_law_folded : Stmt := topS 37
theorem sc_law_folded : FnScope ["_law_shut", "_law_found"] ["_law_shut"] (defScope st_law_folded) := ⟨rfl, rfl, rfl, by decide +kernel, rfl, by decide +kernel, by decide +kernel⟩
abbrev st_law_is_told : Stmt := topS 38
theorem sc_law_is_told : FnScope ["_law_shut", "_law_found", "_law_pair", "_law_rows", "_law_clock"] ["_law_shut"] (defScope st_law_is_told) := ⟨rfl, rfl, rfl, by decide +kernel, rfl, by decide +kernel, by decide +kernel⟩
abbrev st_law_between : Stmt := topS 39
theorem sc_law_between : FnScope ["_law_shut", "_law_turn_here", "_law_whole_here", "_law_first", "_law_up", "_law_down"] ["_law_shut", "_law_turn_here"] (defScope st_law_between) := ⟨rfl, rfl, rfl, by decide +kernel, rfl, by decide +kernel, by decide +kernel⟩
abbrev st_law_turned : Stmt := topS 40
theorem sc_law_turned : FnScope ["_law_shut", "_law_number", "_law_found", "_law_left", "_law_at", "_law_clock"] ["_law_shut", "_law_number"] (defScope st_law_turned) := ⟨rfl, rfl, rfl, by decide +kernel, rfl, by decide +kernel, by decide +kernel⟩
abbrev st_law_less_good : Stmt := topS 41
theorem sc_law_less_good : FnScope ["_law_shut", "_law_number", "_law_found", "_law_rows", "_law_less", "_law_fewer"] ["_law_shut", "_law_number"] (defScope st_law_less_good) := ⟨rfl, rfl, rfl, by decide +kernel, rfl, by decide +kernel, by decide +kernel⟩
abbrev st_law_laid_good : Stmt := topS 42
theorem sc_law_laid_good : FnScope ["_law_one", "_law_other", "_law_laid", "_law_folds", "_law_common_here"] ["_law_one", "_law_other"] (defScope st_law_laid_good) := ⟨rfl, rfl, rfl, by decide +kernel, rfl, by decide +kernel, by decide +kernel⟩
abbrev st_law : Stmt := topS 43
theorem sc_law : FnScope ["_law_script", "_law_turn_here", "_law_one", "_law_other", "_law_shut", "_law_again", "_law_k", "_law_cell"] ["_law_script"] (defScope st_law) := ⟨rfl, rfl, rfl, by decide +kernel, rfl, by decide +kernel, by decide +kernel⟩
structure Txt (K : PySem.W.Frag) (mg : Str → Option Value) (A : Ads) : Prop where
  b_int : mg "int" = none
  b_type : mg "type" = none
  b_tuple : mg "tuple" = none
  b_len : mg "len" = none
  b_list : mg "list" = none
  b_enumerate : mg "enumerate" = none
  b_all : mg "all" = none
  b_dict : mg "dict" = none
  b_sorted : mg "sorted" = none
  b_sum : mg "sum" = none
  g_MOST_HOURS : mg "MOST_HOURS" = some (.int 1000000000000000000000000000000 A.t0)
  g_MOST_CLOCKS : mg "MOST_CLOCKS" = some (.int 60 A.t1)
  g_FoldError : mg "FoldError" = some (.ref A.CF)
  g_BadClock : mg "BadClock" = some (.ref A.CB)
  g_BadTurn : mg "BadTurn" = some (.ref A.CT)
  g_NoClock : mg "NoClock" = some (.ref A.CN)
  g_TooMany : mg "TooMany" = some (.ref A.CM)
  g_BadWall : mg "BadWall" = some (.ref A.CW)
  g_Never : mg "Never" = some (.ref A.CV)
  g_Wall : mg "Wall" = some (.ref A.WL)
  x_BadClock : PySem.W.excIn K A.CB [.type "ValueError", .type "Exception", .type "BaseException", .type "object"] "ValueError.__new__" = true
  k_BadClock : PySem.W.keepIn K (.ref A.CB) = true
  s_BadClock : PySem.W.subIn K (.ref A.CB) (.type "BaseException") = some true
  t_BadClock : PySem.W.typeIn K (.ref A.CB) = some (.type "type")
  x_BadTurn : PySem.W.excIn K A.CT [.type "ValueError", .type "Exception", .type "BaseException", .type "object"] "ValueError.__new__" = true
  k_BadTurn : PySem.W.keepIn K (.ref A.CT) = true
  s_BadTurn : PySem.W.subIn K (.ref A.CT) (.type "BaseException") = some true
  t_BadTurn : PySem.W.typeIn K (.ref A.CT) = some (.type "type")
  x_NoClock : PySem.W.excIn K A.CN [.type "ValueError", .type "Exception", .type "BaseException", .type "object"] "ValueError.__new__" = true
  k_NoClock : PySem.W.keepIn K (.ref A.CN) = true
  s_NoClock : PySem.W.subIn K (.ref A.CN) (.type "BaseException") = some true
  t_NoClock : PySem.W.typeIn K (.ref A.CN) = some (.type "type")
  x_TooMany : PySem.W.excIn K A.CM [.type "ValueError", .type "Exception", .type "BaseException", .type "object"] "ValueError.__new__" = true
  k_TooMany : PySem.W.keepIn K (.ref A.CM) = true
  s_TooMany : PySem.W.subIn K (.ref A.CM) (.type "BaseException") = some true
  t_TooMany : PySem.W.typeIn K (.ref A.CM) = some (.type "type")
  x_BadWall : PySem.W.excIn K A.CW [.type "ValueError", .type "Exception", .type "BaseException", .type "object"] "ValueError.__new__" = true
  k_BadWall : PySem.W.keepIn K (.ref A.CW) = true
  s_BadWall : PySem.W.subIn K (.ref A.CW) (.type "BaseException") = some true
  t_BadWall : PySem.W.typeIn K (.ref A.CW) = some (.type "type")
  O_Never : OexC K A.CV
  n_one : PySem.W.findIn K (.ref A.CV) "one" = some none
  n_other : PySem.W.findIn K (.ref A.CV) "other" = some none
  m_BadClock : PySem.W.exmOne K (.ref A.CB) (.ref A.CF) = some true
  m_BadTurn : PySem.W.exmOne K (.ref A.CT) (.ref A.CF) = some true
  m_NoClock : PySem.W.exmOne K (.ref A.CN) (.ref A.CF) = some true
  m_TooMany : PySem.W.exmOne K (.ref A.CM) (.ref A.CF) = some true
  m_BadWall : PySem.W.exmOne K (.ref A.CW) (.ref A.CF) = some true
  m_Never : PySem.W.exmOne K (.ref A.CV) (.ref A.CF) = some true
  g_gcd : mg "gcd" = some (.builtin "math.gcd")
  cl_Wall : Cls K A.WL
  n_hung : NoAttr K A.WL "hung"
  n_given : NoAttr K A.WL "given"
  mm_Never : PySem.W.exmOne K (.ref A.CV) (.ref A.CV) = some true
  mk_Wall : PySem.W.makesIn K A.WL = true
section
variable {P : Program} {w : World} {K : PySem.W.Frag} {mg : Str → Option Value} {base : Heap} {f : Addr} {A : Ads} {fd : FuncData}
theorem ok_Never_init {cc cda : Addr} (hfd : ∃ (oc : Value) (od : Option Addr) (osl : Array (Option Value)), K.lookup f = some ⟨oc, od, .func fd, osl⟩) (T : Txt K mg A) (S : SupC P K A.CV f cc cda "__init__" "Never.__init__" st_Never_init) (hm : mg "super" = none) : FnOk P w K mg base L2.CX0 1 f fd ["self", "one", "other"] (spErr2 A.CV "one" "other") := by
  refine fnOk_super (N := ["self", "one", "other", "__class__"]) hfd T.O_Never S (NdefX.nscope_by (by decide +kernel)) rfl rfl rfl (by decide +kernel) hm (fun vs H Q E h => ?_) (fun env => ⟨_, rfl⟩) (fun _ => rfl) (fun _ => rfl) (fun _ => rfl) fun A0 outer s H vs Q E hr h => ?_
  · obtain ⟨a, i, j, rfl, _⟩ := h
    rfl
  · obtain ⟨a, i, j, rfl, n1, n2, ha, q⟩ := h
    refine ⟨_, _, a, (pa_cons (pe_joined (PJ.cons pe_str (PJ.cons (pe_fmt (pv 1)) (PJ.cons pe_str (PJ.cons (pe_fmt (pv 2)) (PJ.cons pe_str PJ.nil)))))) pa_nil), (pss_cons (ps_ost (pv 0) (pv 1)) (pss_one (ps_ost (pv 0) (pv 2)))), rfl, ha, ?_⟩
    have l1 := toString_length_le n1.1 (by decide) n1.2
    have l2 := toString_length_le n2.1 (by decide) n2.2
    refine ⟨_, rfl, by decide +kernel, _, rfl, .inr ⟨i, rfl, numF_log n1, _, rfl, ?_, _, rfl, ?_, _, rfl, .inr ⟨j, rfl, numF_log n2, _, rfl, ?_, _, rfl, ?_, by show 1 ≤ 1000; decide, ha, ?_⟩⟩⟩
    · exact str_fits l1 (by decide +kernel)
    · exact str_fits3 l1 (by decide +kernel) (by decide +kernel)
    · exact str_fits4 l1 l2 (by decide +kernel) (by decide +kernel)
    · exact str_fits5 l1 l2 (by decide +kernel) (by decide +kernel) (by decide +kernel)
    · exact ⟨.int i, rfl, .ref a, rfl, a, A.CV, rfl, T.O_Never, T.n_one, .inl ⟨ha, fun d hd nd => ⟨.int j, rfl, .ref a, rfl, a, A.CV, rfl, T.O_Never, T.n_other, .inr ⟨d, [("one", .int i)], upd_same, (upd_ne nd).trans upd_same, by show 1 ≤ 900; decide, q d hd nd⟩⟩⟩⟩
theorem ok_is_number (F : L2.Fun K "is_number" "is_number" st_is_number f fd) (T : Txt K mg A) : FnOk P w K mg base L2.CX0 1 f fd ["thing"] spNum := by
  refine Fun.okD F sc_is_number rfl fun cdv B0 outer s H Q E hr => ⟨_, (pss_one (ps_ret (pe_cmpR op_isT (pe_callTy call_type1 (by rfl) T.b_type (by decide +kernel) (pa_cons (pv 0) pa_nil)) (pe_bltn (v := .ty "int") (by rfl) T.b_int (by decide +kernel) rfl) (nomark _)))), fun ds hl hp => ?_⟩
  obtain ⟨d, rfl, Ty, hT⟩ := hp
  refine hs_ret (d := dB (isNum d)) ?_ rfl
  rw [isNum_of hT]
  exact ev_op (ev_cb (ea_cons (ev_var rfl) ea_nil) (ca_type hT)) ev_c od_isT
theorem ok_hour_at (F : L2.Fun K "hour_at" "hour_at" st_hour_at f fd) (T : Txt K mg A) : FnOk P w K mg base L2.CX0 1 f fd ["clock", "turn"] spHourAt := by
  refine Fun.okD F sc_hour_at rfl fun cdv B0 outer s H Q E hr => ⟨_, (pss_one (ps_ret (pe_op op_mod (pv 1) (pe_ix ix_seq (pv 0) pe_int (fun _ _ => rfl))))), fun ds hl hp => ?_⟩
  obtain ⟨h, x, n, rfl, hp⟩ := hp
  exact hs_ret (d := dI (n % h)) (ev_op (ev_var rfl) (ev_op (ev_var rfl) ev_c (od_ixSeqT (z := dI h) (by decide) rfl)) (od_I (by show 0 < h; exact hp))) rfl
theorem ok_inverse (F : L2.Fun K "inverse" "inverse" st_inverse f fd) (T : Txt K mg A) : FnOk P w K mg base L2.CX0 1 f fd ["number", "modulus"] spInverse := by
  refine Fun.okD F sc_inverse rfl fun cdv B0 outer s H Q E hr => ⟨_, (pss_cons (ps_par (by rfl) sc_inverse.nd (i := 2) (j := 3) rfl rfl (by decide) rfl rfl (pa_cons (pv 0) (pa_cons (pv 1) pa_nil)) (by rfl))
      (pss_cons (ps_asg (pe_tup (pa_cons pe_int (pa_cons pe_int pa_nil))) (pg_tup (by rfl) (pgs_cons (pg_name (i := 4) sc_inverse.nd rfl (Or.inl rfl)) (pgs_cons (pg_name (i := 5) sc_inverse.nd rfl (Or.inl rfl)) pgs_nil))))
      (pss_cons (ps_while PassesOwn.never (pt_cmpR op_gt (pv 3) pe_int (nomark _)) (pss_cons (ps_set (i := 6) sc_inverse.nd rfl (Or.inl rfl) (pe_op op_fdivW (pv 2) (pv 3)))
      (pss_cons (ps_par (by rfl) sc_inverse.nd (i := 2) (j := 3) rfl rfl (by decide) rfl rfl (pa_cons (pv 3) (pa_cons (pe_op op_sub (pv 2) (pe_op op_mulU (pv 6) (pv 3))) pa_nil)) (by rfl))
      (pss_one (ps_par (by rfl) sc_inverse.nd (i := 4) (j := 5) rfl rfl (by decide) rfl rfl (pa_cons (pv 5) (pa_cons (pe_op op_sub (pv 4) (pe_op op_mulU (pv 6) (pv 5))) pa_nil)) (by rfl))))))
      (pss_one (ps_ret (pv 4)))))), fun ds hl hp => ?_⟩
  obtain ⟨a, m, rfl, a1, m1, aB, mB⟩ := hp
  refine hq_par (x := dI a) (y := dI m) (by walk_at "ea") ?_
  refine hq_un2 (x := dI 1) (y := dI 0) (by walk_at "ev") ?_
  refine hs_seq (N' := fun δ => ∃ n r nr f nf t, δ = [n, some (dI m), some (dI r), some (dI nr), some (dI f), some (dI nf), t] ∧ f = invm a m) (hs_while (fun k δ => ∃ (n : Option Dt) (r nr f nf : Int) (t : Option Dt), δ = [n, some (dI m), some (dI r), some (dI nr), some (dI f), some (dI nf), t] ∧ Euc a m r nr f nf ∧ euc r nr f nf = invm a m ∧ nr.toNat = k) m.toNat ⟨some (dI a), a, m, 1, 0, none, rfl, Euc.start a1 m1, rfl, rfl⟩ ?_) ?_
  · rintro k δ ⟨n, r, nr, f, nf, t, rfl, hE, he, rfl⟩
    refine ⟨decide (0 < nr), et_test (ev_op (ev_var rfl) ev_c od_I0), fun hb => ?_, fun hb => ⟨n, r, nr, f, nf, t, rfl, ?_⟩⟩
    · have hn : 0 < nr := of_decide_eq_true hb
      have st := hE.step hn
      have r1 := hE.r1
      have q0 : 0 ≤ r / nr := Int.ediv_nonneg (by omega) (by omega)
      have q1 : r / nr ≤ r := Int.ediv_le_self _ (by omega)
      have rB : r.natAbs < 2 ^ 8000 := by
        rcases hE.rm with z | z
        · exact Nat.lt_of_le_of_lt (show r.natAbs ≤ a.natAbs by omega) aB
        · exact Nat.lt_of_le_of_lt (show r.natAbs ≤ m.natAbs by omega) mB
      have nB : nr.natAbs < 2 ^ 8000 := Nat.lt_of_le_of_lt (show nr.natAbs ≤ m.natAbs by have := hE.nm; omega) mB
      have qB : (r / nr).natAbs < 2 ^ 8000 := Nat.lt_of_le_of_lt (show (r / nr).natAbs ≤ r.natAbs by omega) rB
      have nfB : nf.natAbs < 2 ^ 8000 := Nat.lt_of_le_of_lt hE.nfm mB
      refine hq_asg (d := dI (r / nr)) (ev_op (ev_var rfl) (ev_var rfl) (od_I (cdB hn nB))) ?_
      refine hq_par (x := dI nr) (y := dI (r - r / nr * nr)) (ea_cons (ev_var rfl) (ea_cons (ev_op (ev_var rfl) (ev_op (ev_var rfl) (ev_var rfl) (od_mulI (cmB qB nB))) od_I0) ea_nil)) ?_
      refine hs_par (x := dI nf) (y := dI (f - r / nr * nf)) (ea_cons (ev_var rfl) (ea_cons (ev_op (ev_var rfl) (ev_op (ev_var rfl) (ev_var rfl) (od_mulI (cmB qB nfB))) od_I0) ea_nil)) ?_
      refine ⟨_, ?_, n, nr, r - r / nr * nr, nf, f - r / nr * nf, some (dI (r / nr)), rfl, st, ?_, rfl⟩
      · have e := sub_mod r nr
        have h1 := Int.emod_lt_of_pos r hn
        have h0 := Int.emod_nonneg r (show nr ≠ 0 by omega)
        omega
      · rw [← euc_step hn]
        exact he
    · have hn : ¬ 0 < nr := of_decide_eq_false hb
      rw [← he, euc_stop hn]
  · rintro δ ⟨n, r, nr, f, nf, t, rfl, e⟩
    refine hs_ret (d := dI f) (ev_var rfl) ?_
    rw [e]
    rfl
theorem ok_Wall_init (F : L2.Fun K "__init__" "Wall.__init__" st_Wall_init f fd) (T : Txt K mg A) : FnOk P w K mg base L2.CX0 1 f fd ["self"] (spWallInit A) := by
  refine Fun.okM0 F sc_Wall_init rfl fun cdv B0 outer s H Q E hr => ⟨_, (pss_cons (ps_fld (pv 0) pe_dnewK rfl)
      (pss_one (ps_fld (pv 0) pe_int rfl))), fun TT x ds μ hl hp => ?_⟩
  obtain ⟨rfl, hm⟩ := hp
  refine hm_then (hm_fld (evm_dnew fun h hh => evm_of (ev_var rfl) ⟨x, A.WL, [], rfl, (putM_ne fun z => by rw [z, hh] at hm; cases hm).trans hm, T.cl_Wall, T.n_hung, (by show 0 < 1000; decide), ?_⟩))
  have ne : h ≠ x := fun z => by rw [← z, hh] at hm; cases hm
  refine hm_fld (evm_of ev_c (evm_of (ev_var rfl) ⟨x, A.WL, _, rfl, putM_same, T.cl_Wall, T.n_given, (by show 1 < 1000; decide), rfl, h, ne, hh, ?_⟩))
  rw [putM_put, put_both]
  rfl
theorem ok_Wall_clocks (F : L2.Fun K "clocks" "Wall.clocks" st_Wall_clocks f fd) (T : Txt K mg A) : FnOk P w K mg base L2.CX0 1 f fd ["self"] (spClocks A) := by
  refine Fun.okM0 F sc_Wall_clocks rfl fun cdv B0 outer s H Q E hr => ⟨_, (pss_one (ps_ret (pe_items rfl (pe_fld (pv 0) rfl) (by rfl) T.b_list (by decide +kernel)))), fun TT x ds μ hl hp => ?_⟩
  obtain ⟨a, h, g, cs⟩ := x
  obtain ⟨rfl, hw⟩ := hp
  dsimp only at hw
  exact hm_ret (evm_items (evm_fld (evm_of (ev_var rfl) ⟨a, A.WL, _, _, rfl, hw.ob, T.cl_Wall, T.n_hung, fs_hung, h, _, rfl, hw.dc, fun p hp => ⟨p, hp, rfl, rfl⟩⟩)))
theorem ok_Wall_need_room (F : L2.Fun K "need_room" "Wall.need_room" st_Wall_need_room f fd) (T : Txt K mg A) : FnOk P w K mg base (L2.CX P w) 1 f fd ["self", "many"] (spRoom A) := by
  refine Fun.okM F sc_Wall_need_room rfl fun cdv B0 outer s H Q E hr => ⟨_, (pss_one (ps_if (pt_cmpR op_gt (pe_op op_addU (pe_callB call_lenU (by rfl) T.b_len (by decide +kernel) (pa_cons (pe_fld (pv 0) rfl) pa_nil)) (pv 1)) (pe_glob (v := .int 60) rfl T.g_MOST_CLOCKS ⟨_, rfl⟩) (nomark _)) (pss_one (ps_raise rfl (takes_of rfl rfl rfl rfl) (SkE.pmk_own1 PySem.F.excBase_ValueError T.x_TooMany T.g_TooMany T.k_TooMany (raises_own T.s_TooMany T.t_TooMany) rfl (pe_joined (PJ.cons pe_str (PJ.cons (pe_fmt (pe_glob (v := .int 60) rfl T.g_MOST_CLOCKS ⟨_, rfl⟩)) (PJ.cons pe_str PJ.nil))))))) pss_nil)), fun TT x ds μ hl hp => ?_⟩
  obtain ⟨⟨a, h, g, cs⟩, n⟩ := x
  obtain ⟨rfl, hw⟩ := hp
  dsimp only at hw
  refine hm_if (etm_test (evm_o (evm_o (evm_lenD (evm_fld (evm_of (ev_var rfl) ⟨a, A.WL, _, _, rfl, hw.ob, T.cl_Wall, T.n_hung, fs_hung, h, _, rfl, hw.dc, evm_of (ev_var rfl) ⟨_, od_addI, evm_of ev_c ⟨_, od_I0, _, rfl, fun e => ?_, fun e => ?_⟩⟩⟩))))))
  · have e := of_decide_eq_true e
    rw [len_dct] at e
    refine hm_raise1 (evm_of (ev_js (js_cons ev_c (by decide +kernel) (js_cons (ev_fmtI (i := 60) ev_c (by decide +kernel)) (by decide +kernel) (js_cons ev_c (by decide +kernel) js_nil)))) ⟨e, rfl, rfl, rfl⟩)
  · have e := of_decide_eq_false e
    rw [len_dct] at e
    exact hm_next ⟨by show (cs.length : Int) + n ≤ 60; omega, rfl, rfl⟩
theorem ok_wall_needed (F : L2.Fun K "wall_needed" "wall_needed" st_wall_needed f fd) (T : Txt K mg A) : FnOk P w K mg base (L2.CX P w) 1 f fd ["thing"] (spWallNeeded A) := by
  refine Fun.okM F sc_wall_needed rfl fun cdv B0 outer s H Q E hr => ⟨_, (pss_one (ps_if (pt_cmpR op_noC (pe_callTy call_tyU (by rfl) T.b_type (by decide +kernel) (pa_cons (pv 0) pa_nil)) (pe_glob (v := .ref _) rfl T.g_Wall rfl) (nomark _)) (pss_one (ps_raise rfl (takes_of rfl rfl rfl rfl) (pmk_own PySem.F.excBase_ValueError T.x_BadWall T.g_BadWall T.k_BadWall (raises_own T.s_BadWall T.t_BadWall) rfl))) pss_nil)), fun TT x ds μ hl hp => ?_⟩
  obtain ⟨rfl, hp⟩ := hp
  rcases hp with ⟨Ty, hT⟩ | ⟨a, fs, rfl, ha⟩
  · exact hm_if (etm_of (b := true) (et_test (ev_op (ev_cb (ea_cons (ev_var rfl) ea_nil) (ca_tyU hT)) ev_c (od_noC T.mk_Wall))) ⟨fun _ => hm_raise ⟨⟨Ty, hT⟩, rfl, rfl, rfl⟩, (fun z => nomatch z)⟩)
  · exact hm_if (etm_test (evm_o (evm_typeO (evm_of (ev_var rfl) ⟨a, _, _, rfl, ha, evm_of ev_c ⟨_, od_isC T.mk_Wall, false, rfl, (fun z => nomatch z), fun _ => hm_next ⟨⟨a, rfl⟩, rfl⟩⟩⟩))))
theorem ok_is_clock (F : L2.Fun K "is_clock" "is_clock" st_is_clock f fd) (T : Txt K mg A) (C_is_number : Cl P w K mg base L2.CX0 1 "is_number" spNum) : FnOk P w K mg base L2.CX0 2 f fd ["thing"] spIsClock := by
  refine Fun.okD F sc_is_clock rfl fun cdv B0 outer s H Q E hr => ⟨_, (pss_cons (ps_if (PW.pt (pw_or (pt_cmpR op_noT (pe_callTy call_type1 (by rfl) T.b_type (by decide +kernel) (pa_cons (pv 0) pa_nil)) (pe_bltn (v := .ty "tuple") (by rfl) T.b_tuple (by decide +kernel) rfl) (nomark _)) (pw_or1 (pt_cmpR (op_neU hr.units) (pe_callB call_lenU (by rfl) T.b_len (by decide +kernel) (pa_cons (pv 0) pa_nil)) pe_int (nomark _))))) (pss_one (ps_ret pe_bl)) pss_nil)
      (pss_cons (ps_asg (pv 0) (pg_tup (by rfl) (pgs_cons (pg_name (i := 1) sc_is_clock.nd rfl (Or.inl rfl)) (pgs_cons (pg_name (i := 2) sc_is_clock.nd rfl (Or.inl rfl)) pgs_nil))))
      (pss_cons (ps_if (PW.pt (pw_or (pt_not (pt_val (pe_cl C_is_number hr (by decide) pass0 rfl (pa_cons (pv 1) pa_nil)))) (pw_or1 (pt_not (pt_val (pe_cl C_is_number hr (by decide) pass0 rfl (pa_cons (pv 2) pa_nil))))))) (pss_one (ps_ret pe_bl)) pss_nil)
      (pss_one (ps_ret (pe_and (pe_chain op_le op_le pe_int (pv 1) (pe_glob (v := .int 1000000000000000000000000000000) rfl T.g_MOST_HOURS ⟨_, rfl⟩)) (pe_one (pe_chain op_le op_lt pe_int (pv 2) (pv 1))))))))), fun ds hl hp => ?_⟩
  obtain ⟨d, rfl, ⟨Ty, hT⟩, hab⟩ := hp
  by_cases hTup : Ty = "tuple"
  · subst hTup
    obtain ⟨l, rfl⟩ : ∃ l, d = .tup l := by
      cases d with
      | raw v => cases v <;> simp [tyD] at hT
      | tup l => exact ⟨l, rfl⟩
      | _ => simp [tyD] at hT
    refine hq_when (b := !decide ((l.length : Int) = 2)) (et_or (a := false) (et_eq (et_test (ev_op (ev_cb (ea_cons (ev_var rfl) ea_nil) (ca_type hT)) ev_c od_noT)) (by decide)) fun _ => et_test (ev_op (ev_cb (ea_cons (ev_var rfl) ea_nil) ca_lenUT) ev_c od_neUI)) (fun e => hs_ret ev_c ?_) (fun e => ?_)
    · show dB false = dB (isClock (.tup l))
      have hn : l.length ≠ 2 := fun z => by
        rw [z] at e
        cases e
      rw [isClock_len hn]
    · have h2 : l.length = 2 := by
        simp only [Bool.not_eq_false', decide_eq_true_eq] at e
        omega
      match l, h2 with
      | [a, b], _ =>
      obtain ⟨⟨Ta, ha⟩, Tb, hb⟩ := hab a b rfl
      refine hq_un2 (x := a) (y := b) (ev_var rfl) ?_
      refine hq_when (b := !isNum a || !isNum b) (et_or (et_not (et_B (ev_call (ea_cons (ev_var rfl) ea_nil) (spD_of (f := isNumD) rfl ⟨a, rfl, Ta, ha⟩)))) fun _ => et_not (et_B (ev_call (ea_cons (ev_var rfl) ea_nil) (spD_of (f := isNumD) rfl ⟨b, rfl, Tb, hb⟩)))) (fun e => hs_ret ev_c ?_) (fun e => ?_)
      · show dB false = dB (isClock (.tup [a, b]))
        rw [isClock_num (by cases p : isNum a <;> cases q : isNum b <;> simp_all)]
      · obtain ⟨h, rfl⟩ := isNum_int (d := a) (by cases p : isNum a <;> simp_all)
        obtain ⟨x, rfl⟩ := isNum_int (d := b) (by cases q : isNum b <;> simp_all)
        refine hs_ret (d := dB (isClock (.tup [dI h, dI x]))) ?_ rfl
        exact ev_andV (ev_chain ev_c (ev_var rfl) od_I0 (fun _ => ev_c) (fun _ => od_I0)) fun _ => ev_chain ev_c (ev_var rfl) od_I0 (fun _ => ev_var rfl) (fun _ => od_I0)
  · refine hq_when (b := true) (et_eq (et_or (a := true) (b := false) (et_eq (et_test (ev_op (ev_cb (ea_cons (ev_var rfl) ea_nil) (ca_type hT)) ev_c od_noT)) (by simp [hTup])) fun e => nomatch e) rfl) (fun _ => hs_ret ev_c ?_) (fun e => nomatch e)
    show dB false = dB (isClock d)
    rw [isClock_not hT hTup]
theorem ok_need_turn (F : L2.Fun K "need_turn" "need_turn" st_need_turn f fd) (T : Txt K mg A) (C_is_number : Cl P w K mg base L2.CX0 1 "is_number" spNum) : FnOk P w K mg base (L2.CX P w) 2 f fd ["thing"] (spNeedTurn A.CT) := by
  refine Fun.okE F sc_need_turn rfl fun cdv B0 outer s H Q E hr => ⟨_, (pss_one (ps_if (pt_not (pt_val (pe_cl C_is_number hr (by decide) pass0 rfl (pa_cons (pv 0) pa_nil)))) (pss_one (ps_raise rfl (takes_of rfl rfl rfl rfl) (pmk_own PySem.F.excBase_ValueError T.x_BadTurn T.g_BadTurn T.k_BadTurn (raises_own T.s_BadTurn T.t_BadTurn) rfl))) pss_nil)), fun ds hl hp => ?_⟩
  obtain ⟨d, rfl, hd⟩ := hp
  refine he_if (b := !isNum d) (et_not (et_B (ev_call (ea_cons (ev_var rfl) ea_nil) (spD_of (f := isNumD) rfl ⟨d, rfl, hd⟩)))) (fun e => he_raise ?_) (fun e => he_next ?_)
  · show (if isNum d = true then (Except.ok dN : Rs) else .error A.CT) = .error A.CT
    rw [if_neg (by simpa using e)]
  · show (if isNum d = true then (Except.ok dN : Rs) else .error A.CT) = .ok dN
    rw [if_pos (by simpa using e)]
theorem ok_joined (F : L2.Fun K "joined" "joined" st_joined f fd) (T : Txt K mg A) (C_inverse : Cl P w K mg base L2.CX0 1 "inverse" spInverse) : FnOk P w K mg base L2.CX0 2 f fd ["one", "other"] spJoined := by
  refine Fun.okD F sc_joined rfl fun cdv B0 outer s H Q E hr => ⟨_, (pss_cons (ps_asg (pv 0) (pg_tup (by rfl) (pgs_cons (pg_name (i := 2) sc_joined.nd rfl (Or.inl rfl)) (pgs_cons (pg_name (i := 3) sc_joined.nd rfl (Or.inl rfl)) pgs_nil))))
      (pss_cons (ps_asg (pv 1) (pg_tup (by rfl) (pgs_cons (pg_name (i := 4) sc_joined.nd rfl (Or.inl rfl)) (pgs_cons (pg_name (i := 5) sc_joined.nd rfl (Or.inl rfl)) pgs_nil))))
      (pss_cons (ps_set (i := 6) sc_joined.nd rfl (Or.inl rfl) (pe_callBfun cr_gcd rfl T.g_gcd (pa_cons (pv 2) (pa_cons (pv 4) pa_nil))))
      (pss_cons (ps_set (i := 7) sc_joined.nd rfl (Or.inl rfl) (pe_op op_sub (pv 5) (pv 3)))
      (pss_cons (ps_if (pt_cmpR (op_neU hr.units) (pe_op op_mod (pv 7) (pv 6)) pe_int (nomark _)) (pss_one (ps_ret pe_non)) pss_nil)
      (pss_cons (ps_set (i := 8) sc_joined.nd rfl (Or.inl rfl) (pe_op op_fdivW (pv 4) (pv 6)))
      (pss_cons (ps_set (i := 9) sc_joined.nd rfl (Or.inl rfl) (pe_op op_mod (pe_op op_mulU (pe_op op_fdivW (pv 7) (pv 6)) (pe_cl C_inverse hr (by decide) pass0 rfl (pa_cons (pe_op op_fdivW (pv 2) (pv 6)) (pa_cons (pv 8) pa_nil)))) (pv 8)))
      (pss_one (ps_ret (pe_tup (pa_cons (pe_op op_mulU (pv 2) (pv 8)) (pa_cons (pe_op op_addU (pv 3) (pe_op op_mulU (pv 2) (pv 9))) pa_nil)))))))))))), fun ds hl hp => ?_⟩
  obtain ⟨W, f, h, x, rfl, W1, h1, WB, hB, f0, f1, x0, x1⟩ := hp
  have gp := gcd_pos (W := W) (h := h) W1
  obtain ⟨a, m, ha, hm, a1, m1, e1, e2, hg⟩ := fold_parts (W := W) (h := h) W1 h1
  refine hq_un2 (x := dI W) (y := dI f) (ev_var rfl) ?_
  refine hq_un2 (x := dI h) (y := dI x) (ev_var rfl) ?_
  refine hq_asg (d := dI (Int.gcd W h : Int)) (ev_cb (ea_cons (ev_var rfl) (ea_cons (ev_var rfl) ea_nil)) ca_gcd) ?_
  refine hq_asg (d := dI (x - f)) (ev_op (ev_var rfl) (ev_var rfl) od_I0) ?_
  have aW : a ≤ W := by
    have z : 1 * a ≤ (Int.gcd W h : Int) * a := Int.mul_le_mul_of_nonneg_right gp (by omega)
    omega
  have mh : m ≤ h := by
    have z : 1 * m ≤ (Int.gcd W h : Int) * m := Int.mul_le_mul_of_nonneg_right gp (by omega)
    omega
  have gW : (Int.gcd W h : Int) ≤ W := by
    have z : (Int.gcd W h : Int) * 1 ≤ (Int.gcd W h : Int) * a := Int.mul_le_mul_of_nonneg_left a1 (by omega)
    omega
  have aB : a.natAbs < 2 ^ 8000 := Nat.lt_of_le_of_lt (by omega) WB
  have mB : m.natAbs < 2 ^ 8000 := Nat.lt_of_le_of_lt (by omega) hB
  have gB : (Int.gcd W h : Int).natAbs < 2 ^ 8000 := Nat.lt_of_le_of_lt (by omega) WB
  refine hq_when (b := !decide ((x - f) % (Int.gcd W h : Int) = 0)) (et_test (ev_op (ev_op (ev_var rfl) (ev_var rfl) (od_I (by show 0 < (Int.gcd W h : Int); omega))) ev_c od_neUI)) (fun e => hs_ret ev_c ?_) (fun e => ?_)
  · show dN = joinD W f h x
    unfold joinD
    rw [if_neg (by simpa using e)]
  have hd : (x - f) % (Int.gcd W h : Int) = 0 := by simpa using e
  refine hq_asg (d := dI (h / (Int.gcd W h : Int))) (ev_op (ev_var rfl) (ev_var rfl) (od_I (cdB (by omega) gB))) ?_
  have iv := invm_ok a1 m1 hg
  have iB : (invm a m).natAbs < 2 ^ 8000 := Nat.lt_of_le_of_lt iv.2 mB
  obtain ⟨p, hp⟩ := Int.dvd_of_emod_eq_zero hd
  have e3 : (x - f) / (Int.gcd W h : Int) = p := Int.ediv_eq_of_eq_mul_right (by omega) hp
  have pB : p.natAbs < 2 ^ 8000 := by
    have z1 : (x - f).natAbs = (Int.gcd W h : Int).natAbs * p.natAbs := by rw [hp, Int.natAbs_mul]
    have z2 : 1 * p.natAbs ≤ (Int.gcd W h : Int).natAbs * p.natAbs := Nat.mul_le_mul_right _ (by omega)
    by_cases z : x ≤ f
    · exact Nat.lt_of_le_of_lt (show p.natAbs ≤ W.natAbs by omega) WB
    · exact Nat.lt_of_le_of_lt (show p.natAbs ≤ h.natAbs by omega) hB
  have t0 : 0 ≤ p * invm a m % m := Int.emod_nonneg _ (by omega)
  have t1 : p * invm a m % m < m := Int.emod_lt_of_pos _ (by omega)
  have tB : (p * invm a m % m).natAbs < 2 ^ 8000 := Nat.lt_of_le_of_lt (show _ ≤ m.natAbs by omega) mB
  have eT : foldT W f h x = p * invm a m % m := by unfold foldT; rw [e1, e2, e3]
  refine hq_asg (d := dI (foldT W f h x)) ?_ ?_
  · rw [eT]
    refine ev_op (x := dI (p * invm a m)) (y := dI m) (ev_op (x := dI p) (y := dI (invm a m)) (ev_eq (ev_op (ev_var rfl) (ev_var rfl) (od_I (cdB (by omega) gB))) (congrArg dI e3)) ?_ (od_mulI (cmB pB iB))) (ev_eq (ev_var rfl) (congrArg dI e2)) (od_I (by show 0 < m; omega))
    exact ev_call (ea_cons (d := dI a) (ev_eq (ev_op (ev_var rfl) (ev_var rfl) (od_I (cdB (by omega) gB))) (congrArg dI e1)) (ea_cons (d := dI m) (ev_eq (ev_var rfl) (congrArg dI e2)) ea_nil)) (spD_of (f := ii invm) rfl ⟨a, m, rfl, a1, m1, aB, mB⟩)
  · refine hs_ret (d := .tup [dI (foldR W h), dI (foldF W f h x)]) (ev_tup (ea_cons (ev_op (ev_var rfl) (ev_var rfl) (od_mulI (cmB WB (by rw [e2]; exact mB)))) (ea_cons (ev_op (ev_var rfl) (ev_op (ev_var rfl) (ev_var rfl) (od_mulI (cmB WB (by rw [eT]; exact tB)))) od_addI) ea_nil)) (by show 2 ≤ 100000; decide)) ?_
    show _ = joinD W f h x
    unfold joinD
    rw [if_pos hd]
theorem ok_Wall_clock_of (F : L2.Fun K "clock_of" "Wall.clock_of" st_Wall_clock_of f fd) (T : Txt K mg A) (C_is_number : Cl P w K mg base L2.CX0 1 "is_number" spNum) : FnOk P w K mg base (L2.CX P w) 2 f fd ["self", "number"] (spClockOf A) := by
  refine Fun.okM F sc_Wall_clock_of rfl fun cdv B0 outer s H Q E hr => ⟨_, (pss_cons (ps_if (PW.pt (pw_or (pt_not (pt_val (pe_cl C_is_number hr (by decide) pass0 rfl (pa_cons (pv 1) pa_nil)))) (pw_or1 (pt_cmp (pc_dnotin (hu_of hr) (pv 1) (pe_fld (pv 0) rfl)))))) (pss_one (ps_raise rfl (takes_of rfl rfl rfl rfl) (pmk_own PySem.F.excBase_ValueError T.x_NoClock T.g_NoClock T.k_NoClock (raises_own T.s_NoClock T.t_NoClock) rfl))) pss_nil)
      (pss_one (ps_ret (pe_dget (hu_of hr) (pe_fld (pv 0) rfl) (pv 1) (fun _ _ => rfl))))), fun TT x ds μ hl hp => ?_⟩
  obtain ⟨⟨a, h, g, cs⟩, d⟩ := x
  obtain ⟨rfl, hw, Ty, hT⟩ := hp
  dsimp only at hw hT
  have self : ∀ {N : Dt → Mu → Prop} {W : WM}, N (.raw (.ref h)) μ → EvM TT E (tFld K (tVar 0) "hung") (startD ["self", "number"] [.raw (.ref a), d]) μ N W := fun n => evm_fld (evm_of (ev_var rfl) ⟨a, A.WL, _, _, rfl, hw.ob, T.cl_Wall, T.n_hung, fs_hung, n⟩)
  refine hm_then (hm_if (etm_or (etm_not (etm_of (et_B (ev_call (ea_cons (ev_var rfl) ea_nil) (spD_of (f := isNumD) rfl ⟨d, rfl, Ty, hT⟩))) ⟨fun e => ?_, fun e => ?_⟩))))
  · exact ⟨fun _ => hm_raise ⟨look_no (by simpa using e), rfl, rfl, rfl⟩, fun z => nomatch z⟩
  · obtain ⟨n, rfl⟩ := isNum_int (d := d) (by simpa using e)
    refine etm_B (evm_dnotin (evm_of (ev_var rfl) (self ⟨h, dctD cs, .inl n, rfl, hw.dc, rfl, _, rfl, fun e => ?_, fun e => ?_⟩)))
    · refine hm_raise ⟨?_, rfl, rfl, rfl⟩
      rw [valD_dct] at e
      show look cs (dI n) = none
      rw [look_int]
      cases q : valC cs n with
      | none => rfl
      | some c => simp [q] at e
    · refine hm_next (hm_ret (evm_dget (self (evm_of (ev_var rfl) ?_))))
      rw [valD_dct] at e
      cases q : valC cs n with
      | none => simp [q] at e
      | some c => exact ⟨h, dctD cs, .inl n, ckD c, rfl, hw.dc, rfl, by rw [valD_dct, q]; rfl, n, c, by show look cs (dI n) = _; rw [look_int, q]; rfl, rfl, rfl⟩
theorem ok_need_clock (F : L2.Fun K "need_clock" "need_clock" st_need_clock f fd) (T : Txt K mg A) (C_is_clock : Cl P w K mg base L2.CX0 2 "is_clock" spIsClock) : FnOk P w K mg base (L2.CX P w) 3 f fd ["thing"] (spNeedClock A.CB) := by
  refine Fun.okE F sc_need_clock rfl fun cdv B0 outer s H Q E hr => ⟨_, (pss_one (ps_if (pt_not (pt_val (pe_cl C_is_clock hr (by decide) pass0 rfl (pa_cons (pv 0) pa_nil)))) (pss_one (ps_raise rfl (takes_of rfl rfl rfl rfl) (pmk_own PySem.F.excBase_ValueError T.x_BadClock T.g_BadClock T.k_BadClock (raises_own T.s_BadClock T.t_BadClock) rfl))) pss_nil)), fun ds hl hp => ?_⟩
  obtain ⟨d, rfl, hd⟩ := hp
  refine he_if (b := !isClock d) (et_not (et_B (ev_call (ea_cons (ev_var rfl) ea_nil) (spD_of rfl ⟨d, rfl, hd⟩)))) (fun e => he_raise ?_) (fun e => he_next ?_)
  · show (if isClock d = true then (Except.ok dN : Rs) else .error A.CB) = .error A.CB
    rw [if_neg (by simpa using e)]
  · show (if isClock d = true then (Except.ok dN : Rs) else .error A.CB) = .ok dN
    rw [if_pos (by simpa using e)]
theorem ok_Wall_take (F : L2.Fun K "take" "Wall.take" st_Wall_take f fd) (T : Txt K mg A) (C_Wall_clock_of : ClM P w K mg base (L2.CX P w) 2 A.WL "clock_of" (spClockOf A)) : FnOk P w K mg base (L2.CX P w) 3 f fd ["self", "number"] (spTake A) := by
  refine Fun.okM F sc_Wall_take rfl fun cdv B0 outer s H Q E hr => ⟨_, (pss_cons (ps_set (i := 2) sc_Wall_take.nd rfl (Or.inl rfl) (pe_clm C_Wall_clock_of hr (by decide) (fun a b c d e f => passes_call (takes_of rfl rfl rfl rfl) (fun _ _ _ _ h => h) a b c d e f) (pv 0) (pa_cons (pv 1) pa_nil)))
      (pss_cons (ps_ddel (pe_fld (pv 0) rfl) (pv 1))
      (pss_one (ps_ret (pv 2))))), fun TT x ds μ hl hp => ?_⟩
  obtain ⟨⟨a, h, g, cs⟩, d⟩ := x
  obtain ⟨rfl, hw, hT⟩ := hp
  dsimp only at hw hT
  refine hm_then (hm_asg (evm_wall a (ev_var rfl) hw.ob (by decide +kernel) (by decide +kernel) (eam_of (ea_cons (ev_var rfl) ea_nil) ⟨((⟨a, h, g, cs⟩ : Wg), d), rfl, ⟨rfl, hw, hT⟩, fun d' m' r => ?_, fun C fs m' r => r⟩)))
  obtain ⟨n, c, lk, rfl, rfl⟩ := r
  dsimp only at lk
  obtain ⟨rfl, hv⟩ := look_some lk
  refine hm_then (hm_ddel (evm_fld (evm_of (ev_var rfl) ⟨a, A.WL, _, _, rfl, hw.ob, T.cl_Wall, T.n_hung, fs_hung, evm_of (ev_var rfl) ⟨h, dctD cs, .inl n, rfl, hw.dc, rfl, by rw [valD_dct, hv]; rfl, ?_⟩⟩)))
  refine hm_ret (evm_of (ev_var rfl) ⟨n, c, lk, rfl, ?_⟩)
  rw [dropD_dct]
  exact setW_dct hw
theorem ok_wall_with (F : L2.Fun K "wall_with" "wall_with" st_wall_with f fd) (T : Txt K mg A) (C_Wall_init : ClI P w K mg base L2.CX0 1 A.WL "Wall" (spWallInit A)) : FnOk P w K mg base L2.CX0 3 f fd ["clocks", "given"] (spWith A) := by
  refine Fun.okM0 F sc_wall_with rfl fun cdv B0 outer s H Q E hr => ⟨_, (pss_cons (ps_set (i := 2) sc_wall_with.nd rfl (Or.inl rfl) (pe_cli0 C_Wall_init hr (by decide) pass0 rfl))
      (pss_cons (ps_fld (pv 2) (pe_callTy (call_dictP rfl) (by rfl) T.b_dict (by decide +kernel) (pa_cons (pv 0) pa_nil)) rfl)
      (pss_cons (ps_fld (pv 2) (pv 1) rfl)
      (pss_one (ps_ret (pv 2)))))), fun TT x ds μ hl hp => ?_⟩
  obtain ⟨cs, g, d⟩ := x
  obtain ⟨rfl, nd, hd⟩ := hp
  dsimp only at nd hd
  refine hm_then (hm_asg (evm_makeGN fun p hp => ⟨p, rfl, ⟨rfl, putM_same⟩, fun d' m' r => ?_, fun D fs m' r => r⟩))
  obtain ⟨rfl, h0, ne, hh, rfl⟩ := r
  have nw := newW_mk (WL := A.WL) hp ne hh
  refine ⟨rfl, hm_then (hm_fld (evm_dictP (evm_of (ev_var rfl) ⟨dctD cs, ?_, ?_, fun h hh2 => evm_of (ev_var rfl) ⟨p, A.WL, _, rfl, (putM_ne ?_).trans nw.2.2.2.1.ob, T.cl_Wall, T.n_hung, fs_len, ?_⟩⟩)))⟩
  · exact hd.imp id fun ⟨a, e1, e2⟩ => ⟨a, e1, nw.2.2.2.2 _ _ e2⟩
  · rw [keys_dct]
    exact List.Pairwise.map _ (fun x y z w => z (Sum.inl.inj w)) nd
  · rintro rfl
    rw [nw.2.2.2.1.ob] at hh2
    cases hh2
  have nph : p ≠ h := by
    rintro rfl
    rw [nw.2.2.2.1.ob] at hh2
    cases hh2
  refine hm_then (hm_fld (evm_of (ev_var rfl) (evm_of (ev_var rfl) ⟨p, A.WL, _, rfl, putM_same, T.cl_Wall, T.n_given, by rw [put_hung]; exact fs_len, ?_⟩)))
  rw [put_hung, put_given, putM_put]
  refine hm_ret (evm_of (ev_var rfl) ⟨p, h, rfl, nph, hp, ?_, ⟨putM_same, (putM_ne nph.symm).trans putM_same⟩, fun b o e => ?_⟩)
  · cases q : μ h with
    | none => rfl
    | some o => rw [nw.2.2.2.2 _ _ q] at hh2; cases hh2
  · have b1 : b ≠ p := by
      rintro rfl
      rw [hp] at e
      cases e
    have b2 : b ≠ h := by
      rintro rfl
      rw [nw.2.2.2.2 _ _ e] at hh2
      cases hh2
    rw [putM_ne b1, putM_ne b2]
    exact nw.2.2.2.2 _ _ e
theorem ok_shows (F : L2.Fun K "shows" "shows" st_shows f fd) (T : Txt K mg A) (C_need_clock : Cl P w K mg base (L2.CX P w) 3 "need_clock" (spNeedClock A.CB)) (C_need_turn : Cl P w K mg base (L2.CX P w) 2 "need_turn" (spNeedTurn A.CT)) (C_hour_at : Cl P w K mg base L2.CX0 1 "hour_at" spHourAt) : FnOk P w K mg base (L2.CX P w) 4 f fd ["clock", "turn"] (spShows A.CB A.CT) := by
  refine Fun.okE F sc_shows rfl fun cdv B0 outer s H Q E hr => ⟨_, (pss_cons (ps_expr (pe_cl C_need_clock hr (by decide) (fun a b c d e f => passes_call (takes_of rfl rfl rfl rfl) (fun _ _ _ _ h => h) a b c d e f) rfl (pa_cons (pv 0) pa_nil)))
      (pss_cons (ps_expr (pe_cl C_need_turn hr (by decide) (fun a b c d e f => passes_call (takes_of rfl rfl rfl rfl) (fun _ _ _ _ h => h) a b c d e f) rfl (pa_cons (pv 1) pa_nil)))
      (pss_one (ps_ret (pe_cl C_hour_at hr (by decide) pass0 rfl (pa_cons (pv 0) (pa_cons (pv 1) pa_nil))))))), fun ds hl hp => ?_⟩
  obtain ⟨c, t, rfl, hc, Tt, ht⟩ := hp
  refine he_seq (N' := fun δ => δ = startD ["clock", "turn"] [c, t] ∧ isClock c = true) (he_drop (evx_call (ea_cons (ev_var rfl) ea_nil) rfl ⟨c, rfl, hc⟩) (fun d e => ?_) (fun C e => ?_)) ?_
  · refine ⟨rfl, ?_⟩
    cases q : isClock c with
    | true => rfl
    | false => simp [q] at e
  · show (if isClock c = true then (if isNum t = true then (Except.ok (showsD c t) : Rs) else .error A.CT) else .error A.CB) = .error C
    cases q : isClock c with
    | true => simp [q] at e
    | false => simpa [q] using e
  rintro δ ⟨rfl, e1⟩
  refine he_seq (N' := fun δ => δ = startD ["clock", "turn"] [c, t] ∧ isNum t = true) (he_drop (evx_call (ea_cons (ev_var rfl) ea_nil) rfl ⟨t, rfl, Tt, ht⟩) (fun d e => ?_) (fun C e => ?_)) ?_
  · refine ⟨rfl, ?_⟩
    cases q : isNum t with
    | true => rfl
    | false => simp [q] at e
  · show (if isClock c = true then (if isNum t = true then (Except.ok (showsD c t) : Rs) else .error A.CT) else .error A.CB) = .error C
    rw [if_pos e1]
    cases q : isNum t with
    | true => simp [q] at e
    | false => simpa [q] using e
  rintro δ ⟨rfl, e2⟩
  obtain ⟨h, x, rfl, h1, h2, x0, x1⟩ := isClock_inv e1
  obtain ⟨n, rfl⟩ := isNum_int e2
  have hp : 0 < h := by omega
  refine he_of (hs_ret (d := dI (n % h)) (ev_call (ea_cons (ev_var rfl) (ea_cons (ev_var rfl) ea_nil)) (spD_of (f := hourF) rfl ⟨h, x, n, rfl, hp⟩)) ?_)
  show (if isClock (.tup [dI h, dI x]) = true then (if isNum (dI n) = true then (Except.ok (showsD (.tup [dI h, dI x]) (dI n)) : Rs) else .error A.CT) else .error A.CB) = _
  rw [if_pos e1, if_pos e2]
  rfl
theorem ok_witness (F : L2.Fun K "witness" "witness" st_witness f fd) (T : Txt K mg A) (C_need_clock : Cl P w K mg base (L2.CX P w) 3 "need_clock" (spNeedClock A.CB)) : FnOk P w K mg base (L2.CX P w) 4 f fd ["one", "other"] (spTwo A.CB witD) := by
  refine Fun.okE F sc_witness rfl fun cdv B0 outer s H Q E hr => ⟨_, (pss_cons (ps_expr (pe_cl C_need_clock hr (by decide) (fun a b c d e f => passes_call (takes_of rfl rfl rfl rfl) (fun _ _ _ _ h => h) a b c d e f) rfl (pa_cons (pv 0) pa_nil)))
      (pss_cons (ps_expr (pe_cl C_need_clock hr (by decide) (fun a b c d e f => passes_call (takes_of rfl rfl rfl rfl) (fun _ _ _ _ h => h) a b c d e f) rfl (pa_cons (pv 1) pa_nil)))
      (pss_cons (ps_set (i := 2) sc_witness.nd rfl (Or.inl rfl) (pe_callBfun cr_gcd rfl T.g_gcd (pa_cons (pe_ix ix_seq (pv 0) pe_int (fun _ _ => rfl)) (pa_cons (pe_ix ix_seq (pv 1) pe_int (fun _ _ => rfl)) pa_nil))))
      (pss_one (ps_ret (pe_tup (pa_cons (pv 2) (pa_cons (pe_op op_mod (pe_ix ix_seq (pv 0) pe_int (fun _ _ => rfl)) (pv 2)) (pa_cons (pe_op op_mod (pe_ix ix_seq (pv 1) pe_int (fun _ _ => rfl)) (pv 2)) pa_nil))))))))), fun ds hl hp => ?_⟩
  obtain ⟨c, d, rfl, hc, hd⟩ := hp
  refine he_seq (N' := fun δ => δ = startD ["one", "other", "common"] [c, d] ∧ isClock c = true) (he_drop (evx_call (ea_cons (ev_var rfl) ea_nil) rfl ⟨c, rfl, hc⟩) (fun d e => ⟨rfl, ck_need' e⟩) (fun C e => ?_)) ?_
  · obtain ⟨q, rfl⟩ := ck_need e
    exact ckTwo_l q
  rintro δ ⟨rfl, q1⟩
  refine he_seq (N' := fun δ => δ = startD ["one", "other", "common"] [c, d] ∧ isClock d = true) (he_drop (evx_call (ea_cons (ev_var rfl) ea_nil) rfl ⟨d, rfl, hd⟩) (fun d e => ⟨rfl, ck_need' e⟩) (fun C e => ?_)) ?_
  · obtain ⟨q, rfl⟩ := ck_need e
    exact ckTwo_r q
  rintro δ ⟨rfl, q2⟩
  obtain ⟨h, x, rfl, h1, h2, x0, x1⟩ := isClock_inv q1
  obtain ⟨k, y, rfl, k1, k2, y0, y1⟩ := isClock_inv q2
  have gp := gcd_pos (W := h) (h := k) h1
  refine he_of (hq_asg (d := dI (Int.gcd h k : Int)) (ev_cb (ea_cons (ev_op (ev_var rfl) ev_c (od_ixSeqT (z := dI h) (by decide) rfl)) (ea_cons (ev_op (ev_var rfl) ev_c (od_ixSeqT (z := dI k) (by decide) rfl)) ea_nil)) ca_gcd) (hs_ret (d := witD (.tup [dI h, dI x]) (.tup [dI k, dI y])) ?_ ?_))
  · exact ev_tup (ea_cons (ev_var rfl) (ea_cons (ev_op (ev_op (ev_var rfl) ev_c (od_ixSeqT (z := dI x) (by decide) rfl)) (ev_var rfl) (od_I (by show 0 < (Int.gcd h k : Int); omega))) (ea_cons (ev_op (ev_op (ev_var rfl) ev_c (od_ixSeqT (z := dI y) (by decide) rfl)) (ev_var rfl) (od_I (by show 0 < (Int.gcd h k : Int); omega))) ea_nil))) (by show 3 ≤ 100000; decide)
  · exact ckTwo_ok q1 q2
theorem ok_Wall_put (F : L2.Fun K "put" "Wall.put" st_Wall_put f fd) (T : Txt K mg A) (C_need_clock : Cl P w K mg base (L2.CX P w) 3 "need_clock" (spNeedClock A.CB)) (C_Wall_need_room : ClM P w K mg base (L2.CX P w) 1 A.WL "need_room" (spRoom A)) : FnOk P w K mg base (L2.CX P w) 4 f fd ["self", "clock"] (spPut A) := by
  refine Fun.okM F sc_Wall_put rfl fun cdv B0 outer s H Q E hr => ⟨_, (pss_cons (ps_expr (pe_cl C_need_clock hr (by decide) (fun a b c d e f => passes_call (takes_of rfl rfl rfl rfl) (fun _ _ _ _ h => h) a b c d e f) rfl (pa_cons (pv 1) pa_nil)))
      (pss_cons (ps_expr (pe_clm C_Wall_need_room hr (by decide) (fun a b c d e f => passes_call (takes_of rfl rfl rfl rfl) (fun _ _ _ _ h => h) a b c d e f) (pv 0) (pa_cons pe_int pa_nil)))
      (pss_cons (ps_asg (pv 1) (pg_tup (by rfl) (pgs_cons (pg_name (i := 2) sc_Wall_put.nd rfl (Or.inl rfl)) (pgs_cons (pg_name (i := 3) sc_Wall_put.nd rfl (Or.inl rfl)) pgs_nil))))
      (pss_cons (ps_fldaug (pv 0) pe_int in_add)
      (pss_cons (ps_dput (hu_of hr) (pe_fld (pv 0) rfl) (pe_fld (pv 0) rfl) (pe_tup (pa_cons (pv 2) (pa_cons (pv 3) pa_nil))) rfl)
      (pss_one (ps_ret (pe_fld (pv 0) rfl)))))))), fun TT x ds μ hl hp => ?_⟩
  obtain ⟨⟨a, h, g, cs⟩, d⟩ := x
  obtain ⟨rfl, hw, hg, hT⟩ := hp
  dsimp only at hw hg hT
  refine hm_then (hm_drop (evm_callX (eam_of (ea_cons (ev_var rfl) ea_nil) ⟨rfl, ⟨d, rfl, hT⟩, fun z e => ?_, fun C e => ?_⟩)))
  rotate_left
  · obtain ⟨q, rfl⟩ := ck_need e
    exact .inl ⟨q, rfl, rfl, rfl⟩
  have q := ck_need' e
  refine hm_then (hm_drop (evm_wall a (ev_var rfl) hw.ob (by decide +kernel) (by decide +kernel) (eam_of (ea_cons ev_c ea_nil) ⟨((⟨a, h, g, cs⟩ : Wg), 1), rfl, ⟨rfl, hw⟩, fun d' m' r => ?_, fun C fs m' r => .inr ⟨q, by have z : (60 : Int) < (cs.length : Int) + 1 := r.1; show 60 ≤ cs.length; omega, r.2⟩⟩)))
  obtain ⟨r1, r2, rfl⟩ := r
  dsimp only at r1
  clear e
  obtain ⟨hh, y, rfl, h1, h2, y0, y1⟩ := isClock_inv q
  refine hm_then (hm_put (evm_of (ev_var rfl) ⟨_, gdm_two, ?_⟩))
  refine hm_then (hm_fldaug (evm_of (ev_var rfl) ⟨a, A.WL, _, g, rfl, hw.ob, T.cl_Wall, T.n_given, fs_given, evm_of ev_c ⟨1, _, rfl, hw.ob, fs_len, ?_⟩⟩))
  rw [put_given]
  have hd : (putM m' a (.ins A.WL (wallFs h (g + 1)))) h = some (.dct (dctD cs)) := (putM_ne hw.ne.symm).trans hw.dc
  have fld : ∀ {f : Str} {o : Dt} {δ : Sto} {m : Mu} {N : Dt → Mu → Prop} {W : WM}, δ[0]? = some (some (.raw (.ref a))) → m a = some (.ins A.WL (wallFs h (g + 1))) → NoAttr K A.WL f → (wallFs h (g + 1)).lookup f = some o → N o m → EvM TT E (tFld K (tVar 0) f) δ m N W := fun h0 hm nf lk n => evm_fld (evm_of (ev_var h0) ⟨a, A.WL, _, _, rfl, hm, T.cl_Wall, nf, lk, n⟩)
  refine hm_then (hm_dput (evm_of (ev_tup (ds := [dI hh, dI y]) (ea_cons (ev_var rfl) (ea_cons (ev_var rfl) ea_nil)) (by show 2 ≤ 100000; decide)) (fld rfl putM_same T.n_hung fs_hung (fld rfl putM_same T.n_given fs_given ⟨h, dctD cs, .inl (g + 1), rfl, hd, rfl, by rw [len_dct]; have z : (cs.length : Int) + 1 ≤ 60 := r1; omega, ?_⟩))))
  refine hm_ret (fld rfl ((putM_ne hw.ne).trans putM_same) T.n_given fs_given ⟨(hh, y), ⟨rfl, ⟨h1, y0, y1⟩, h2⟩, by have z : (cs.length : Int) + 1 ≤ 60 := r1; show cs.length < 60; omega, rfl, ?_⟩)
  rw [show (Dt.tup [dI hh, dI y]) = ckD (hh, y) from rfl, putD_dct, hg.new]
  unfold setW
  rw [putM_comm hw.ne.symm]
theorem ok_Wall_turn_to (F : L2.Fun K "turn_to" "Wall.turn_to" st_Wall_turn_to f fd) (T : Txt K mg A) (C_need_clock : Cl P w K mg base (L2.CX P w) 3 "need_clock" (spNeedClock A.CB)) (C_Wall_clock_of : ClM P w K mg base (L2.CX P w) 2 A.WL "clock_of" (spClockOf A)) : FnOk P w K mg base (L2.CX P w) 4 f fd ["self", "number", "hour"] (spTurnTo A) := by
  refine Fun.okM F sc_Wall_turn_to rfl fun cdv B0 outer s H Q E hr => ⟨_, (pss_cons (ps_asg (pe_clm C_Wall_clock_of hr (by decide) (fun a b c d e f => passes_call (takes_of rfl rfl rfl rfl) (fun _ _ _ _ h => h) a b c d e f) (pv 0) (pa_cons (pv 1) pa_nil)) (pg_tup (by rfl) (pgs_cons (pg_name (i := 3) sc_Wall_turn_to.nd rfl (Or.inl rfl)) (pgs_cons (pg_name (i := 4) sc_Wall_turn_to.nd rfl (Or.inl rfl)) pgs_nil))))
      (pss_cons (ps_expr (pe_cl C_need_clock hr (by decide) (fun a b c d e f => passes_call (takes_of rfl rfl rfl rfl) (fun _ _ _ _ h => h) a b c d e f) rfl (pa_cons (pe_tup (pa_cons (pv 3) (pa_cons (pv 2) pa_nil))) pa_nil)))
      (pss_one (ps_dput (hu_of hr) (pe_fld (pv 0) rfl) (pv 1) (pe_tup (pa_cons (pv 3) (pa_cons (pv 2) pa_nil))) rfl)))), fun TT x ds μ hl hp => ?_⟩
  obtain ⟨⟨a, h, g, cs⟩, d, e⟩ := x
  obtain ⟨rfl, hw, hg, hT, hT2⟩ := hp
  dsimp only at hw hT hT2 hg
  refine hm_then (hm_put (evm_wall a (ev_var rfl) hw.ob (by decide +kernel) (by decide +kernel) (eam_of (ea_cons (ev_var rfl) ea_nil) ⟨((⟨a, h, g, cs⟩ : Wg), d), rfl, ⟨rfl, hw, hT⟩, fun d' m' r => ?_, fun C fs m' r => .inl r⟩)))
  obtain ⟨n, c, lk, rfl, rfl⟩ := r
  dsimp only at lk
  obtain ⟨rfl, hv⟩ := look_some lk
  refine ⟨_, gdm_two, ?_⟩
  obtain ⟨c1, c2⟩ := c
  have hc := hg.ok _ (any_val hv).2
  have hok : okTh (.tup [dI c1, e]) := ⟨⟨_, rfl⟩, fun p q z => by cases z; exact ⟨⟨_, rfl⟩, hT2⟩⟩
  refine hm_then (hm_drop (evm_callX (eam_of (ea_cons (ev_tup (ds := [dI c1, e]) (ea_cons (ev_var rfl) (ea_cons (ev_var rfl) ea_nil)) (by show 2 ≤ 100000; decide)) ea_nil) ⟨rfl, ⟨_, rfl, hok⟩, fun z r => ?_, fun C r => ?_⟩)))
  rotate_left
  · obtain ⟨q, rfl⟩ := ck_need r
    exact .inr ⟨n, (c1, c2), lk, q, rfl, rfl, rfl⟩
  have q := ck_need' r
  obtain ⟨hh, y, ee, h1, h2, y0, y1⟩ := isClock_inv q
  cases ee
  refine hm_dput (evm_of (ev_tup (ds := [dI c1, dI y]) (ea_cons (ev_var rfl) (ea_cons (ev_var rfl) ea_nil)) (by show 2 ≤ 100000; decide)) (evm_fld (evm_of (ev_var rfl) ⟨a, A.WL, _, _, rfl, hw.ob, T.cl_Wall, T.n_hung, fs_hung, evm_of (ev_var rfl) ⟨h, dctD cs, .inl n, rfl, hw.dc, rfl, ?_, n, (c1, c2), y, lk, rfl, y0, y1, rfl, ?_⟩⟩)))
  · rw [len_dct]
    have := hg.le
    omega
  · rw [show (Dt.tup [dI c1, dI y]) = ckD (c1, y) from rfl, putD_dct]
    exact setW_dct hw
theorem ok_Wall_copied (F : L2.Fun K "copied" "Wall.copied" st_Wall_copied f fd) (T : Txt K mg A) (C_Wall_clocks : ClM P w K mg base L2.CX0 1 A.WL "clocks" (spClocks A)) (C_wall_with : Cl P w K mg base L2.CX0 3 "wall_with" (spWith A)) : FnOk P w K mg base L2.CX0 4 f fd ["self"] (spCopied A) := by
  refine Fun.okM0 F sc_Wall_copied rfl fun cdv B0 outer s H Q E hr => ⟨_, (pss_one (ps_ret (pe_cl C_wall_with hr (by decide) pass0 rfl (pa_cons (pe_clm0 C_Wall_clocks hr (by decide) pass0 (pv 0)) (pa_cons (pe_fld (pv 0) rfl) pa_nil))))), fun TT x ds μ hl hp => ?_⟩
  obtain ⟨a, h, g, cs⟩ := x
  obtain ⟨rfl, hw, nd⟩ := hp
  dsimp only at hw nd
  refine hm_ret (evm_callGN (eam_cons (evm_wallN a (ev_var rfl) hw.ob (by decide +kernel) (by decide +kernel) (eam_nil ⟨(⟨a, h, g, cs⟩ : Wg), rfl, ⟨rfl, hw⟩, fun d m' r => r, fun C fs m' r => r⟩)) fun d m r => ?_))
  obtain ⟨p, hp, rfl, rfl⟩ := r
  refine eam_cons (evm_fld (evm_of (ev_var rfl) ⟨a, A.WL, wallFs h g, dI g, rfl, ?_, T.cl_Wall, T.n_given, fs_given, ?_⟩)) fun d m r => r
  · exact (putM_ne fun z => by rw [← z, hw.ob] at hp; cases hp).trans hw.ob
  · refine eam_nil ⟨(cs, g, _), rfl, ⟨rfl, nd, .inr ⟨p, rfl, putM_same⟩⟩, fun d m' r => ?_, fun C fs m' r => r⟩
    obtain ⟨q, k, rfl, n1, n2, n3, n4, n5⟩ := r
    have up := Grow.put (o := .lst ((dctD cs).map itemD)) hp
    have nn : ∀ {b}, putM μ p (.lst ((dctD cs).map itemD)) b = none → μ b = none := fun {b} z => by
      cases q : μ b with
      | none => rfl
      | some o => rw [up _ _ q] at z; cases z
    exact ⟨q, k, rfl, n1, nn n2, nn n3, n4, up.trans n5⟩
theorem ok_is_right (F : L2.Fun K "is_right" "is_right" st_is_right f fd) (T : Txt K mg A) (C_shows : Cl P w K mg base (L2.CX P w) 4 "shows" (spShows A.CB A.CT)) : FnOk P w K mg base (L2.CX P w) 5 f fd ["clock", "turn"] (spRight A.CB A.CT) := by
  refine Fun.okE F sc_is_right rfl fun cdv B0 outer s H Q E hr => ⟨_, (pss_one (ps_ret (pe_cmpR (op_eqU hr.units) (pe_cl C_shows hr (by decide) (fun a b c d e f => passes_call (takes_of rfl rfl rfl rfl) (fun _ _ _ _ h => h) a b c d e f) rfl (pa_cons (pv 0) (pa_cons (pv 1) pa_nil))) (pe_ix ix_seq (pv 0) pe_int (fun _ _ => rfl)) (nomark _)))), fun ds hl hp => ?_⟩
  obtain ⟨c, t, rfl, hc, Tt, ht⟩ := hp
  refine he_ret (r := ckTurn A.CB A.CT rightD [c, t]) ?_ (fun d e => e) (fun C e => e)
  by_cases e1 : isClock c = true
  · by_cases e2 : isNum t = true
    · obtain ⟨h, x, rfl, h1, h2, x0, x1⟩ := isClock_inv e1
      obtain ⟨n, rfl⟩ := isNum_int e2
      have er : ckTurn A.CB A.CT rightD [.tup [dI h, dI x], dI n] = .ok (dB (decide (n % h = x))) := by
        show (if isClock (.tup [dI h, dI x]) = true then (if isNum (dI n) = true then (Except.ok (rightD (.tup [dI h, dI x]) (dI n)) : Rs) else .error A.CT) else .error A.CB) = _
        rw [if_pos e1, if_pos e2]
        rfl
      rw [er]
      refine evx_of (ev_op (ev_callX (d := dI (n % h)) (ea_cons (ev_var rfl) (ea_cons (ev_var rfl) ea_nil)) rfl ⟨_, _, rfl, hc, Tt, ht⟩ ?_) (ev_op (ev_var rfl) ev_c (od_ixSeqT (z := dI x) (by decide) rfl)) od_eqUI)
      show (if isClock (.tup [dI h, dI x]) = true then (if isNum (dI n) = true then (Except.ok (showsD (.tup [dI h, dI x]) (dI n)) : Rs) else .error A.CT) else .error A.CB) = _
      rw [if_pos e1, if_pos e2]
      rfl
    · intro σ H0 Q0 S q qe
      have er : ckTurn A.CB A.CT rightD [c, t] = .error A.CT := by
        show (if isClock c = true then (if isNum t = true then (Except.ok (rightD c t) : Rs) else .error A.CT) else .error A.CB) = _
        rw [if_pos e1, if_neg e2]
      have es : ckTurn A.CB A.CT showsD [c, t] = .error A.CT := by
        show (if isClock c = true then (if isNum t = true then (Except.ok (showsD c t) : Rs) else .error A.CT) else .error A.CB) = _
        rw [if_pos e1, if_neg e2]
      exact evx_call (E := E) (f := ckTurn A.CB A.CT showsD) (ea_cons (ev_var rfl) (ea_cons (ev_var rfl) ea_nil)) rfl ⟨_, _, rfl, hc, Tt, ht⟩ σ H0 _ S (fun d e => by rw [es] at e; cases e) fun C e => by
        rw [es] at e
        cases e
        exact qe A.CT er
  · intro σ H0 Q0 S q qe
    have er : ckTurn A.CB A.CT rightD [c, t] = .error A.CB := by
      show (if isClock c = true then (if isNum t = true then (Except.ok (rightD c t) : Rs) else .error A.CT) else .error A.CB) = _
      rw [if_neg e1]
    have es : ckTurn A.CB A.CT showsD [c, t] = .error A.CB := by
      show (if isClock c = true then (if isNum t = true then (Except.ok (showsD c t) : Rs) else .error A.CT) else .error A.CB) = _
      rw [if_neg e1]
    exact evx_call (E := E) (f := ckTurn A.CB A.CT showsD) (ea_cons (ev_var rfl) (ea_cons (ev_var rfl) ea_nil)) rfl ⟨_, _, rfl, hc, Tt, ht⟩ σ H0 _ S (fun d e => by rw [es] at e; cases e) fun C e => by
      rw [es] at e
      cases e
      exact qe A.CB er
theorem ok_agree (F : L2.Fun K "agree" "agree" st_agree f fd) (T : Txt K mg A) (C_witness : Cl P w K mg base (L2.CX P w) 4 "witness" (spTwo A.CB witD)) : FnOk P w K mg base (L2.CX P w) 5 f fd ["one", "other"] (spTwo A.CB agrD) := by
  refine Fun.okE F sc_agree rfl fun cdv B0 outer s H Q E hr => ⟨_, (pss_cons (ps_asg (pe_cl C_witness hr (by decide) (fun a b c d e f => passes_call (takes_of rfl rfl rfl rfl) (fun _ _ _ _ h => h) a b c d e f) rfl (pa_cons (pv 0) (pa_cons (pv 1) pa_nil))) (pg_tup (by rfl) (pgs_cons (pg_name (i := 2) sc_agree.nd rfl (Or.inl rfl)) (pgs_cons (pg_name (i := 3) sc_agree.nd rfl (Or.inl rfl)) (pgs_cons (pg_name (i := 4) sc_agree.nd rfl (Or.inl rfl)) pgs_nil)))))
      (pss_one (ps_ret (pe_cmpR (op_eqU hr.units) (pv 3) (pv 4) (nomark _))))), fun ds hl hp => ?_⟩
  obtain ⟨c, d, rfl, hc, hd⟩ := hp
  refine he_seq (N' := fun δ => isClock c = true ∧ isClock d = true ∧ ∃ h x k y : Int, c = .tup [dI h, dI x] ∧ d = .tup [dI k, dI y] ∧ δ[3]? = some (some (dI (x % (Int.gcd h k : Int)))) ∧ δ[4]? = some (some (dI (y % (Int.gcd h k : Int))))) (he_un3 (f := fun _ => (dN, dN, dN)) (evx_call (ea_cons (ev_var rfl) (ea_cons (ev_var rfl) ea_nil)) rfl ⟨c, d, rfl, hc, hd⟩) (fun z e => ?_) (fun C e => ?_)) ?_
  · by_cases q1 : isClock c = true
    · by_cases q2 : isClock d = true
      · obtain ⟨h, x, rfl, h1, h2, x0, x1⟩ := isClock_inv q1
        obtain ⟨k, y, rfl, k1, k2, y0, y1⟩ := isClock_inv q2
        rw [ckTwo_ok q1 q2] at e
        cases e
        exact ⟨_, _, _, rfl, q1, q2, h, x, k, y, rfl, rfl, rfl, rfl⟩
      · rw [ckTwo_r (by simpa using q2)] at e
        cases e
    · rw [ckTwo_l (by simpa using q1)] at e
      cases e
  · by_cases q1 : isClock c = true
    · by_cases q2 : isClock d = true
      · rw [ckTwo_ok q1 q2] at e
        cases e
      · rw [ckTwo_r (by simpa using q2)] at e
        cases e
        exact ckTwo_r (by simpa using q2)
    · rw [ckTwo_l (by simpa using q1)] at e
      cases e
      exact ckTwo_l (by simpa using q1)
  · rintro δ ⟨q1, q2, h, x, k, y, rfl, rfl, a1, a2⟩
    refine he_of (hs_ret (d := agrD (.tup [dI h, dI x]) (.tup [dI k, dI y])) (ev_op (ev_var a1) (ev_var a2) od_eqUI) ?_)
    exact ckTwo_ok q1 q2
theorem ok_Wall_lay (F : L2.Fun K "lay" "Wall.lay" st_Wall_lay f fd) (T : Txt K mg A) (C_Wall_put : ClM P w K mg base (L2.CX P w) 4 A.WL "put" (spPut A)) (C_Wall_clocks : ClM P w K mg base L2.CX0 1 A.WL "clocks" (spClocks A)) (C_Wall_need_room : ClM P w K mg base (L2.CX P w) 1 A.WL "need_room" (spRoom A)) (C_wall_needed : Cl P w K mg base (L2.CX P w) 1 "wall_needed" (spWallNeeded A)) : FnOk P w K mg base (L2.CX P w) 5 f fd ["self", "other"] (spLay A) := by
  refine Fun.okM F sc_Wall_lay rfl fun cdv B0 outer s H Q E hr => ⟨_, (pss_cons (ps_expr (pe_cl C_wall_needed hr (by decide) (fun a b c d e f => passes_call (takes_of rfl rfl rfl rfl) (fun _ _ _ _ h => h) a b c d e f) rfl (pa_cons (pv 1) pa_nil)))
      (pss_cons (ps_set (i := 2) sc_Wall_lay.nd rfl (Or.inl rfl) (pe_clm0 C_Wall_clocks hr (by decide) pass0 (pv 1)))
      (pss_cons (ps_expr (pe_clm C_Wall_need_room hr (by decide) (fun a b c d e f => passes_call (takes_of rfl rfl rfl rfl) (fun _ _ _ _ h => h) a b c d e f) (pv 0) (pa_cons (pe_callB call_lenU (by rfl) T.b_len (by decide +kernel) (pa_cons (pv 2) pa_nil)) pa_nil)))
      (pss_one (ps_for (passes_of rfl) rfl (pi_list (pv 2)) (pg_tup (by rfl) (pgs_cons (pg_name (i := 3) sc_Wall_lay.nd rfl (Or.inl rfl)) (pgs_cons (pg_name (i := 4) sc_Wall_lay.nd rfl (Or.inl rfl)) pgs_nil))) (pss_one (ps_expr (pe_clm C_Wall_put hr (by decide) (fun a b c d e f => passes_call (takes_of rfl rfl rfl rfl) (fun _ _ _ _ h => h) a b c d e f) (pv 0) (pa_cons (pv 4) pa_nil))))))))), fun TT x ds μ hl hp => ?_⟩
  obtain ⟨⟨a, h, g, cs⟩, o⟩ := x
  obtain ⟨rfl, hw, hg, ho⟩ := hp
  dsimp only at hw hg ho
  cases o with
  | data d =>
    obtain ⟨Ty, hT⟩ := ho
    refine hm_then (hm_drop (evm_callG (eam_of (ea_cons (ev_var rfl) ea_nil) ⟨d, rfl, ⟨rfl, .inl ⟨Ty, hT⟩⟩, fun z m r => ?_, fun C fs m r => .inl ⟨⟨d, rfl⟩, r.2⟩⟩)))
    obtain ⟨⟨b, rfl⟩, _⟩ := r
    cases hT
  | wall w =>
    obtain ⟨ow, og⟩ := ho
    refine hm_then (hm_drop (evm_callG (eam_of (ea_cons (ev_var rfl) ea_nil) ⟨.raw (.ref w.a), rfl, ⟨rfl, .inr ⟨w.a, _, rfl, ow.ob⟩⟩, fun z m r => ?_, fun C fs m r => ?_⟩)))
    rotate_left
    · obtain ⟨⟨Ty, z⟩, _⟩ := r
      cases z
    obtain ⟨_, rfl⟩ := r
    refine hm_then (hm_asg (evm_freeze (evm_wallN w.a (ev_var rfl) ow.ob (by decide +kernel) (by decide +kernel) (eam_nil ⟨w, rfl, ⟨rfl, ow.r⟩, fun d m r => ?_, fun C fs m r => r⟩))))
    obtain ⟨q, hq, rfl, rfl⟩ := r
    refine ⟨q, _, rfl, putM_same, ?_⟩
    rw [delM_put hq]
    have li : ((dctD w.cs).map itemD).length = w.cs.length := by rw [List.length_map, len_dct]
    refine hm_then (hm_drop (evm_wall a (ev_var rfl) hw.ob (by decide +kernel) (by decide +kernel) (eam_of (ea_cons (ev_eq (ev_cb (ea_cons (ev_var rfl) ea_nil) ca_lenUL) (congrArg (fun n : Nat => dI (n : Int)) li)) ea_nil) ⟨((⟨a, h, g, cs⟩ : Wg), (w.cs.length : Int)), rfl, ⟨rfl, hw⟩, fun d m r => ?_, fun C fs m r => ?_⟩)))
    rotate_left
    · obtain ⟨z, r⟩ := r
      have z : 60 < (cs.length : Int) + (w.cs.length : Int) := z
      exact .inr ⟨w, rfl, by show 60 < cs.length + w.cs.length; omega, r⟩
    obtain ⟨z, _, rfl⟩ := r
    have z : (cs.length : Int) + (w.cs.length : Int) ≤ 60 := z
    have okL : ∀ c ∈ w.cs.map (·.2), okCk c ∧ c.1 ≤ 1000000000000000000000000000000 := fun c hc => by
      obtain ⟨p, hp, rfl⟩ := List.mem_map.mp hc
      exact og.ok p hp
    refine hm_forL (evm_of (ev_var rfl) ⟨_, rfl, fun j δ m' => ∃ (x3 x4 : Option Dt), j ≤ w.cs.length ∧ m' = setW A.WL m a h (g + (j : Int)) (layC g cs ((w.cs.map (·.2)).take j)) ∧ δ = [some (.raw (.ref a)), some (.raw (.ref w.a)), some (.lst ((dctD w.cs).map itemD)), x3, x4], ⟨_, _, Nat.zero_le _, by show m = setW A.WL m a h (g + 0) cs; rw [Int.add_zero, setW_self hw], rfl⟩, fun j δ m' x q hx => ?step, fun δ m' q => ?done⟩)
    case done =>
      obtain ⟨x3, x4, _, rfl, rfl⟩ := q
      rw [li]
      refine ⟨w, rfl, by show cs.length + w.cs.length ≤ 60; omega, rfl, ?_⟩
      rw [List.take_of_length_le (by rw [List.length_map]; exact Nat.le_refl _)]
    obtain ⟨x3, x4, hj, rfl, rfl⟩ := q
    obtain ⟨n, c, hc, rfl⟩ : ∃ n c, (w.cs.map (·.2))[j]? = some c ∧ x = .tup [dI n, ckD c] := by
      rw [show (dctD w.cs).map itemD = w.cs.map fun p => .tup [dI p.1, ckD p.2] from items_dct, List.getElem?_map] at hx
      rw [List.getElem?_map]
      cases e : w.cs[j]? with
      | none =>
        rw [e] at hx
        cases hx
      | some p =>
        rw [e] at hx
        cases hx
        exact ⟨p.1, p.2, rfl, rfl⟩
    have jl : j < w.cs.length := by
      have := (List.getElem?_eq_some_iff.mp hc).1
      rwa [List.length_map] at this
    have tl : ((w.cs.map (·.2)).take j).length = j := by
      rw [List.length_take, List.length_map]
      omega
    have ne := hw.ne
    have gj := layC_good ((w.cs.map (·.2)).take j) g cs hg (by rw [tl]; omega) fun c hc => okL c (List.mem_of_mem_take hc)
    rw [tl] at gj
    have lj := layC_len ((w.cs.map (·.2)).take j) g cs
    rw [tl] at lj
    have wj := setW_is (WL := A.WL) (m := m) (g := g + (j : Int)) (cs := layC g cs ((w.cs.map (·.2)).take j)) ne
    obtain ⟨⟨k0, k1, k2⟩, k3⟩ := okL c (List.mem_of_getElem? hc)
    refine ⟨_, gdm_two, ?_⟩
    refine hm_drop (evm_wall a (ev_var rfl) wj.ob (by decide +kernel) (by decide +kernel) (eam_of (ea_cons (ev_var rfl) ea_nil) ⟨((⟨a, h, g + (j : Int), layC g cs ((w.cs.map (·.2)).take j)⟩ : Wg), ckD c), rfl, ⟨rfl, wj, gj, okTh_clock _ _⟩, fun d m' r => ?_, fun C fs m' r => ?_⟩))
    · obtain ⟨c', ⟨e, hk⟩, _, rfl, rfl⟩ := r
      cases ckD_inj e
      refine ⟨_, _, jl, ?_, rfl⟩
      dsimp only
      rw [setW_setW ne, List.take_succ, hc, show (some c).toList = [c] from rfl, layC_snoc, tl, show g + ((j + 1 : Nat) : Int) = g + (j : Int) + 1 by omega]
    · rcases r with ⟨e, _⟩ | ⟨_, e, _⟩
      · rw [show isClock (ckD c) = true from isClock_good k0 k3 k1 k2] at e
        cases e
      · have e : 60 ≤ (layC g cs ((w.cs.map (·.2)).take j)).length := e
        omega
theorem ok_Wall_clash (F : L2.Fun K "clash" "Wall.clash" st_Wall_clash f fd) (T : Txt K mg A) (C_agree : Cl P w K mg base (L2.CX P w) 5 "agree" (spTwo A.CB agrD)) (C_Wall_clocks : ClM P w K mg base L2.CX0 1 A.WL "clocks" (spClocks A)) : FnOk P w K mg base (L2.CX P w) 6 f fd ["self"] (spClash A) := by
  refine Fun.okM F sc_Wall_clash rfl fun cdv B0 outer s H Q E hr => ⟨_, (pss_cons (ps_set (i := 1) sc_Wall_clash.nd rfl (Or.inl rfl) (pe_clm0 C_Wall_clocks hr (by decide) pass0 (pv 0)))
      (pss_cons (ps_for (passes_of rfl) rfl (pi_enum rfl T.b_enumerate (pa_cons (pv 1) pa_nil)) (pg_tup (by rfl) (pgs_cons (pg_name (i := 2) sc_Wall_clash.nd rfl (Or.inl rfl)) (pgs_cons (pg_tup (by rfl) (pgs_cons (pg_name (i := 3) sc_Wall_clash.nd rfl (Or.inl rfl)) (pgs_cons (pg_name (i := 4) sc_Wall_clash.nd rfl (Or.inl rfl)) pgs_nil))) pgs_nil))) (pss_one (ps_for (passes_of rfl) rfl (pi_list (pe_slice sl_U (pv 1) (po_some (pe_op op_addU (pv 2) pe_int)) po_none)) (pg_tup (by rfl) (pgs_cons (pg_name (i := 5) sc_Wall_clash.nd rfl (Or.inl rfl)) (pgs_cons (pg_name (i := 6) sc_Wall_clash.nd rfl (Or.inl rfl)) pgs_nil))) (pss_one (ps_if (pt_not (pt_val (pe_cl C_agree hr (by decide) (fun a b c d e f => passes_call (takes_of rfl rfl rfl rfl) (fun _ _ _ _ h => h) a b c d e f) rfl (pa_cons (pv 4) (pa_cons (pv 6) pa_nil))))) (pss_one (ps_ret (pe_tup (pa_cons (pv 3) (pa_cons (pv 5) pa_nil))))) pss_nil)))))
      (pss_one (ps_ret pe_non)))), fun TT x ds μ hl hp => ?_⟩
  obtain ⟨a, h, g, cs⟩ := x
  obtain ⟨rfl, hw, hg⟩ := hp
  dsimp only at hw hg
  refine hm_then (hm_asg (evm_freeze (evm_wallN a (ev_var rfl) hw.ob (by decide +kernel) (by decide +kernel) (eam_nil ⟨(⟨a, h, g, cs⟩ : Wg), rfl, ⟨rfl, hw⟩, fun d m' r => ?_, fun C fs m' r => r⟩))))
  obtain ⟨p, hp, rfl, rfl⟩ := r
  refine ⟨p, itsD cs, rfl, putM_same, ?_⟩
  rw [delM_put hp]
  have at_ : ∀ {l : Cks} {i : Nat} {x : Dt}, (itsD l)[i]? = some x → ∃ q, l[i]? = some q ∧ x = .tup [dI q.1, ckD q.2] := fun {l i x} hx => by
    rw [itsD_map, List.getElem?_map] at hx
    cases q : l[i]? with
    | none =>
      rw [q] at hx
      cases hx
    | some y =>
      rw [q] at hx
      exact ⟨y, rfl, (Option.some.inj hx).symm⟩
  have dr : ∀ {l : Cks} {i : Nat} {q}, l[i]? = some q → l.drop i = q :: l.drop (i + 1) := fun {l i q} e => by
    obtain ⟨hi, rfl⟩ := List.getElem?_eq_some_iff.mp e
    exact List.drop_eq_getElem_cons hi
  have ok : ∀ {l : Cks} {i : Nat} {q}, (∀ p ∈ l, p ∈ cs) → l[i]? = some q → isClock (ckD q.2) = true := fun {l i q} hl e => by
    have := hg.ok q (hl q (List.mem_of_getElem? e))
    exact isClock_good this.1.1 this.2 this.1.2.1 this.1.2.2
  show HsM TT E _ [some (.raw (.ref a)), some (.lst (itsD cs)), none, none, none, none, none] μ _ _ _ _ _
  refine hm_then (hm_enum (eam_of (ea_cons (ev_var rfl) ea_nil) ⟨_, rfl, fun i δ m => ∃ (x2 x3 x4 x5 x6 : Option Dt), μ = m ∧ clashC cs = clashC (cs.drop i) ∧ δ = [some (.raw (.ref a)), some (.lst (itsD cs)), x2, x3, x4, x5, x6], ⟨_, _, _, _, _, rfl, rfl, rfl⟩, fun i δ m x p hx => ?turn, fun δ m p => ?done⟩))
  case done =>
    obtain ⟨x2, x3, x4, x5, x6, rfl, e, rfl⟩ := p
    rw [List.length_map, len_dct, List.drop_length] at e
    exact hm_ret (evm_of ev_c ⟨by show dN = cpairD (clashC cs); rw [e]; rfl, rfl⟩)
  case turn =>
    obtain ⟨x2, x3, x4, x5, x6, rfl, e, rfl⟩ := p
    obtain ⟨q, hq, rfl⟩ := at_ hx
    refine ⟨_, gdm_nest, ?_⟩
    rw [dr hq] at e
    refine hm_forL (evm_of (d := .lst (itsD (cs.drop (i + 1)))) (ev_eq (ev_slL (ev_var rfl) (eo_some (ev_op (ev_var rfl) ev_c od_addI)) eo_none) ?sl) ⟨_, rfl, fun j δ m => ∃ (x5 x6 : Option Dt), μ = m ∧ clashRow q.1 q.2 (cs.drop (i + 1)) = clashRow q.1 q.2 ((cs.drop (i + 1)).drop j) ∧ δ = [some (.raw (.ref a)), some (.lst (itsD cs)), some (dI (i : Int)), some (dI q.1), some (ckD q.2), x5, x6], ⟨_, _, rfl, rfl, rfl⟩, fun j δ m x p hy => ?_, fun δ m p => ?_⟩)
    case sl =>
      show Dt.lst (cutD (itsD cs) (some ((i : Int) + 1)) none) = _
      rw [show ((i : Int) + 1) = ((i + 1 : Nat) : Int) from rfl, cutD_drop, itsD_map, itsD_map, List.map_drop]
    · obtain ⟨x5, x6, rfl, e2, rfl⟩ := p
      obtain ⟨r, hr', rfl⟩ := at_ hy
      refine ⟨_, gdm_two, ?_⟩
      rw [dr hr'] at e2
      have k1 := ok (l := cs) (fun _ z => z) hq
      have k2 := ok (l := cs.drop (i + 1)) (fun _ z => List.mem_of_mem_drop z) hr'
      refine hm_if (etm_not (etm_B (evm_callX (eam_of (ea_cons (ev_var rfl) (ea_cons (ev_var rfl) ea_nil)) ⟨rfl, ⟨_, _, rfl, okTh_clock _ _, okTh_clock _ _⟩, fun d z => ⟨agr q.2 r.2, ?_, fun b => ?_, fun b => ?_⟩, fun C z => ?_⟩))))
      · rw [ckTwo_ok k1 k2] at z
        cases z
        exact agrD_ck
      · refine hm_ret (evm_of (ev_tup (ds := [dI q.1, dI r.1]) (ea_cons (ev_var rfl) (ea_cons (ev_var rfl) ea_nil)) (by show 2 ≤ 100000; decide)) ⟨?_, rfl⟩)
        show _ = cpairD (clashC cs)
        have n : agr q.2 r.2 = false := by simpa using b
        rw [e]
        show _ = cpairD (match clashRow q.1 q.2 (cs.drop (i + 1)) with | some q => some q | none => clashC (cs.drop (i + 1)))
        rw [e2]
        unfold clashRow
        rw [if_neg (by rw [n]; exact Bool.false_ne_true)]
        rfl
      · refine hm_next ⟨_, _, rfl, ?_, rfl⟩
        have n : agr q.2 r.2 = true := by simpa using b
        rw [e2]
        show (if agr q.2 r.2 = true then _ else _) = _
        rw [if_pos n]
      · rw [ckTwo_ok k1 k2] at z
        cases z
    · obtain ⟨x5, x6, rfl, e2, rfl⟩ := p
      refine ⟨_, _, _, _, _, rfl, ?_, rfl⟩
      rw [show (itsD (cs.drop (i + 1))).length = (cs.drop (i + 1)).length from by rw [List.length_map, len_dct], List.drop_length] at e2
      rw [e]
      show (match clashRow q.1 q.2 (cs.drop (i + 1)) with | some q => some q | none => clashC (cs.drop (i + 1))) = _
      rw [e2]
      rfl
theorem ok_Wall_is_met (F : L2.Fun K "is_met" "Wall.is_met" st_Wall_is_met f fd) (T : Txt K mg A) (C_need_turn : Cl P w K mg base (L2.CX P w) 2 "need_turn" (spNeedTurn A.CT)) (C_is_right : Cl P w K mg base (L2.CX P w) 5 "is_right" (spRight A.CB A.CT)) : FnOk P w K mg base (L2.CX P w) 6 f fd ["self", "turn"] (spIsMet A) := by
  refine Fun.okM F sc_Wall_is_met rfl fun cdv B0 outer s H Q E hr => ⟨_, (pss_cons (ps_expr (pe_cl C_need_turn hr (by decide) (fun a b c d e f => passes_call (takes_of rfl rfl rfl rfl) (fun _ _ _ _ h => h) a b c d e f) rfl (pa_cons (pv 1) pa_nil)))
      (pss_one (ps_ret (pe_callB (cr_all rfl) (by rfl) T.b_all (by decide +kernel) (pa_cons (pe_lock (pe_lc (own := [("clock", 2)]) (g := gName 2) (by rfl) sc_Wall_is_met.nd (pi_values (pe_fld (pv 0) rfl)) (blkOk_by (N := ["self", "turn", "clock"]) (sc := defScope st_Wall_is_met) (by decide +kernel)) (fun _ _ _ _ _ => by exact (pg_name (i := 2) sc_Wall_is_met.nd rfl (Or.inl rfl))) (fun _ _ _ _ _ => by exact pts_nil) (fun _ _ _ _ _ => by exact (pe_cl C_is_right hr (by decide) passL rfl (pa_cons (pv 2) (pa_cons (pv 1) pa_nil)))))) pa_nil))))), fun TT x ds μ hl hp => ?_⟩
  obtain ⟨⟨a, h, g, cs⟩, d⟩ := x
  obtain ⟨rfl, hw, hg, Ty, hT⟩ := hp
  dsimp only at hw hg hT
  refine hm_then (hm_drop (evm_callX (eam_of (ea_cons (ev_var rfl) ea_nil) ⟨rfl, ⟨d, rfl, Ty, hT⟩, fun z r => ?_, fun C r => ?_⟩)))
  rotate_left
  · obtain ⟨e, rfl⟩ := need_err (CT := A.CT) r
    exact ⟨e, rfl, rfl, rfl⟩
  have e : isNum d = true := need_ok (CT := A.CT) r
  obtain ⟨t, rfl⟩ := isNum_int e
  refine hm_ret (evm_cb (eam_cons (evm_lockLc hw.dc (fun od ks => evm_fld (evm_of (ev_var rfl) ⟨a, A.WL, _, _, rfl, (putM_ne hw.ne).trans hw.ob, T.cl_Wall, T.n_hung, fs_hung, rfl, rfl⟩)) (rightF t) (by rw [len_dct]; have := hg.le; omega) (by rw [rightF_all]; exact noLst_bools _) (fun k x hx => ?_) ?_) fun d m r => r))
  · obtain ⟨q, hq, z⟩ := List.mem_map.mp (show (k, x) ∈ cs.map fun p => ((.inl p.1 : Key), ckD p.2) from hx)
    cases z
    have hk := hg.ok q hq
    refine ⟨_, true, gds_name (by decide), et_yes, fun _ => ⟨_, ev_callX (d := dB (decide (t % q.2.1 = q.2.2))) (ea_cons (ev_var rfl) (ea_cons (ev_var rfl) ea_nil)) rfl ⟨_, _, rfl, okTh_clock _ _, Ty, hT⟩ ?_, rfl⟩, fun z => nomatch z⟩
    show (if isClock (ckD q.2) = true then (if isNum (dI t) = true then (Except.ok (rightD (ckD q.2) (dI t)) : Rs) else .error A.CT) else .error A.CB) = _
    rw [if_pos (show isClock (ckD q.2) = true from isClock_good hk.1.1 hk.2 hk.1.2.1 hk.1.2.2), if_pos e]
    rfl
  · rw [rightF_all]
    exact eam_nil ⟨_, ca_all, t, rfl, by rw [rightF_met], rfl⟩
theorem ok_Wall_fold (F : L2.Fun K "fold" "Wall.fold" st_Wall_fold f fd) (T : Txt K mg A) (C_Never_init : ClE P w K mg base L2.CX0 1 A.CV "Never" (spErr2 A.CV "one" "other")) (C_joined : Cl P w K mg base L2.CX0 2 "joined" spJoined) (C_Wall_clash : ClM P w K mg base (L2.CX P w) 6 A.WL "clash" (spClash A)) : FnOk P w K mg base (L2.CX P w) 7 f fd ["self"] (spFold A) := by
  refine Fun.okMX F sc_Wall_fold rfl fun cdv B0 outer s H Q E hr => ⟨_, (pss_cons (ps_set (i := 1) sc_Wall_fold.nd rfl (Or.inl rfl) (pe_tup (pa_cons pe_int (pa_cons pe_int pa_nil))))
      (pss_cons (ps_lock (ps_for (passes_of rfl) rfl (pi_values (pe_fld (pv 0) rfl)) (pg_name (i := 2) sc_Wall_fold.nd rfl (Or.inl rfl)) (pss_cons (ps_set (i := 1) sc_Wall_fold.nd rfl (Or.inl rfl) (pe_cl C_joined hr (by decide) pass0 rfl (pa_cons (pv 1) (pa_cons (pv 2) pa_nil))))
      (pss_one (ps_if (pt_cmpR op_isNo (pv 1) pe_non (nomark _)) (pss_cons (ps_asg (pe_clm0 C_Wall_clash hr (by decide) (fun a b c d e f => passes_call (takes_of rfl rfl rfl rfl) (fun _ _ _ _ h => h) a b c d e f) (pv 0)) (pg_tup (by rfl) (pgs_cons (pg_name (i := 3) sc_Wall_fold.nd rfl (Or.inl rfl)) (pgs_cons (pg_name (i := 4) sc_Wall_fold.nd rfl (Or.inl rfl)) pgs_nil))))
      (pss_one (ps_raise rfl (takes_unlock (takes_of rfl rfl rfl rfl)) (pmk_cle C_Never_init hr (by decide) rfl (pa_cons (pv 3) (pa_cons (pv 4) pa_nil)))))) pss_nil)))))
      (pss_one (ps_ret (pv 1))))), fun TT x ds s0 hs0 hl hp => ?_⟩
  obtain ⟨a, h, g, cs⟩ := x
  obtain ⟨rfl, hw, hg, hG⟩ := hp
  dsimp only at hw hg hG
  have hfz : ∀ o' u', H h ≠ some (.frz o' u') := fun o' u' z => by
    obtain ⟨ks, q, _⟩ := MH.cell hw.dc
    rw [hs0, z] at q
    cases q
  generalize s0.μ = μ at *
  have hoc : ∀ c ∈ cs.map (·.2), okCk c ∧ c.1 ≤ 1000000000000000000000000000000 := fun c hc => by
    obtain ⟨p, hp, rfl⟩ := List.mem_map.mp hc
    exact hg.ok p hp
  refine hm_then (hm_asg (evm_of (ev_tup (ds := [dI 1, dI 0]) (ea_cons ev_c (ea_cons ev_c ea_nil)) (by show 2 ≤ 100000; decide)) ?_))
  refine hm_then (hm_lock hw.dc fun od ks => ?_)
  have ob := (putM_ne (o := .fzd od ks (dctD cs)) hw.ne).trans hw.ob
  have bk : putM (putM μ h (.fzd od ks (dctD cs))) h (.dct (dctD cs)) = μ := by rw [putM_put, putM_self hw.dc]
  have hf0 : (putM μ h (.fzd od ks (dctD cs))) h = some (.fzd od ks (dctD cs)) := putM_same
  generalize putM μ h (.fzd od ks (dctD cs)) = ν at *
  refine hm_vals (evm_fld (evm_of (ev_var rfl) ⟨a, A.WL, _, _, rfl, ob, T.cl_Wall, T.n_hung, fs_hung, h, od, ks, dctD cs, rfl, hf0, fun i δ m => ∃ (F : Ck) (x2 : Option Dt), m = ν ∧ foldAll (1, 0) ((cs.take i).map (·.2)) = some F ∧ δ = [some (.raw (.ref a)), some (ckD F), x2, none, none],
    ⟨(1, 0), _, rfl, rfl, rfl⟩, fun i δ m ⟨F, x2, e, _⟩ => by rw [e]; exact hf0, fun i δ m k x p hx => ?turn, fun δ m p => ?done⟩))
  case done =>
    obtain ⟨F, x2, rfl, hf, rfl⟩ := p
    rw [len_dct, List.take_length] at hf
    refine ⟨hf0, ?_⟩
    rw [bk]
    exact hm_ret (evm_of (ev_var rfl) ⟨F, hf, rfl, rfl⟩)
  obtain ⟨F, x2, rfl, hf, rfl⟩ := p
  obtain ⟨q, hq, rfl⟩ : ∃ q, cs[i]? = some q ∧ x = ckD q.2 := by
    unfold dctD at hx
    rw [List.getElem?_map] at hx
    cases z : cs[i]? with
    | none =>
      rw [z] at hx
      cases hx
    | some y =>
      rw [z] at hx
      cases hx
      exact ⟨y, rfl, rfl⟩
  refine ⟨_, gdm_name, ?_⟩
  have hlen := hg.le
  have hsub : ∀ c ∈ (cs.take i).map (·.2), okCk c ∧ c.1 ≤ 1000000000000000000000000000000 := fun c hc => by
    obtain ⟨p, hp, rfl⟩ := List.mem_map.mp hc
    exact hg.ok p (List.mem_of_mem_take hp)
  have hF := (foldAll_some okCk_one (fun c hc => (hsub c hc).1) hf).1
  have hFs := foldAll_small hsub (by rw [List.length_map, List.length_take]; omega) hf
  have hqk := hg.ok q (List.mem_of_getElem? hq)
  have hqs : q.2.1.natAbs < 2 ^ 8000 := Nat.lt_of_le_of_lt (show q.2.1.natAbs ≤ 2 ^ 100 from Nat.le_trans (show q.2.1.natAbs ≤ 1000000000000000000000000000000 by have := hqk.1.1; have := hqk.2; omega) (by decide)) (Nat.pow_lt_pow_right (by decide) (by decide))
  refine hm_then (hm_asg (evm_of (d := joinF [ckD F, ckD q.2]) (ev_call (ea_cons (ev_var rfl) (ea_cons (ev_var rfl) ea_nil)) (spD_of (f := joinF) rfl ⟨F.1, F.2, q.2.1, q.2.2, rfl, hF.1, hqk.1.1, hFs, hqs, hF.2.1, hF.2.2, hqk.1.2.1, hqk.1.2.2⟩)) ?_))
  rw [joinF_ck]
  have hi := (List.getElem?_eq_some_iff.mp hq).1
  cases hj : fold1 F q.2 with
  | some G =>
    refine hm_if (etm_of (et_test (ev_op (ev_var rfl) ev_c od_isNo)) ⟨(fun z => nomatch z), fun _ => hm_next ⟨G, _, rfl, ?_, rfl⟩⟩)
    rw [List.take_succ, hq, List.map_append]
    show foldAll (1, 0) ((cs.take i).map (·.2) ++ [q.2]) = _
    rw [foldAll_snoc, hf]
    exact hj
  | none =>
    refine hm_if (etm_of (et_test (ev_op (ev_var rfl) ev_c od_isNo)) ⟨fun _ => ?raise, (fun z => nomatch z)⟩)
    have nf : foldAll (1, 0) (cs.map (·.2)) = none := by
      rw [← List.take_append_drop i cs, List.map_append, foldAll_app, hf, List.drop_eq_getElem_cons hi]
      show (fold1 F _).bind _ = none
      have e : cs[i] = q := by
        have := List.getElem?_eq_getElem hi
        rw [hq] at this
        exact (Option.some.inj this).symm
      rw [e, hj]
      rfl
    obtain ⟨⟨u, v⟩, hc⟩ : ∃ q, clashC cs = some q := by
      rcases clash_iff (fun p hp => (hg.ok p hp).1) with ⟨_, G, z⟩ | ⟨q, z, _⟩
      · rw [nf] at z
        cases z
      · exact ⟨q, z⟩
    obtain ⟨c1, c2, m1, m2, _⟩ := clashC_some hc
    have g1 := hg.lo _ m1
    have g2 := hg.lo _ m2
    refine hm_then (hm_put (evm_wallN a (ev_var rfl) ob (by decide +kernel) (by decide +kernel) (eam_nil ⟨(⟨a, h, g, cs⟩ : Wg), rfl, ⟨rfl, ⟨ob, .inr ⟨od, ks, hf0⟩⟩, hg⟩, fun d m' r => ?_, fun C fs m' r => r⟩)))
    obtain ⟨rfl, rfl⟩ := r
    refine ⟨_, by rw [hc]; exact gdm_two, ?_⟩
    dsimp only at g1 g2
    exact hm_err2L (eam_of (ea_cons (ev_var rfl) (ea_cons (ev_var rfl) ea_nil)) ⟨u, v, rfl, ⟨by omega, by omega⟩, ⟨by omega, by omega⟩, h, od, ks, dctD cs, hf0, hfz, u, v, hc, rfl, rfl, bk⟩)
theorem ok_Wall_next_turn (F : L2.Fun K "next_turn" "Wall.next_turn" st_Wall_next_turn f fd) (T : Txt K mg A) (C_need_turn : Cl P w K mg base (L2.CX P w) 2 "need_turn" (spNeedTurn A.CT)) (C_Wall_fold : ClM P w K mg base (L2.CX P w) 7 A.WL "fold" (spFold A)) : FnOk P w K mg base (L2.CX P w) 8 f fd ["self", "turn"] (spNear A nextF) := by
  refine Fun.okM F sc_Wall_next_turn rfl fun cdv B0 outer s H Q E hr => ⟨_, (pss_cons (ps_expr (pe_cl C_need_turn hr (by decide) (fun a b c d e f => passes_call (takes_of rfl rfl rfl rfl) (fun _ _ _ _ h => h) a b c d e f) rfl (pa_cons (pv 1) pa_nil)))
      (pss_cons (ps_asg (pe_clm0 C_Wall_fold hr (by decide) (fun a b c d e f => passes_call (takes_of rfl rfl rfl rfl) (fun _ _ _ _ h => h) a b c d e f) (pv 0)) (pg_tup (by rfl) (pgs_cons (pg_name (i := 2) sc_Wall_next_turn.nd rfl (Or.inl rfl)) (pgs_cons (pg_name (i := 3) sc_Wall_next_turn.nd rfl (Or.inl rfl)) pgs_nil))))
      (pss_one (ps_ret (pe_op op_addU (pv 1) (pe_op op_mod (pe_op op_sub (pv 3) (pv 1)) (pv 2))))))), fun TT x ds μ hl hp => ?_⟩
  obtain ⟨⟨a, h, g, cs⟩, d⟩ := x
  obtain ⟨rfl, hw, hg, hG, Ty, hT⟩ := hp
  dsimp only at hw hg hT hG
  refine hm_then (hm_drop (evm_callX (eam_of (ea_cons (ev_var rfl) ea_nil) ⟨rfl, ⟨d, rfl, Ty, hT⟩, fun z r => ?_, fun C r => ?_⟩)))
  rotate_left
  · obtain ⟨e, rfl⟩ := need_err (CT := A.CT) r
    exact .inl ⟨e, rfl, rfl, rfl⟩
  have e : isNum d = true := need_ok (CT := A.CT) r
  obtain ⟨t, rfl⟩ := isNum_int e
  refine hm_then (hm_put (evm_wall a (ev_var rfl) hw.ob (by decide +kernel) (by decide +kernel) (eam_nil ⟨(⟨a, h, g, cs⟩ : Wg), rfl, ⟨rfl, hw, hg, hG⟩, fun d' m' r => ?_, fun C fs m' r => ?_⟩)))
  · obtain ⟨G, hf, rfl, rfl⟩ := r
    obtain ⟨g1, _⟩ := foldAll_some okCk_one (fun c hc => by obtain ⟨p, hp, rfl⟩ := List.mem_map.mp hc; exact (hg.ok p hp).1) hf
    have g0 : 0 < G.1 := by have := g1.1; omega
    exact ⟨_, gdm_two, hm_ret (evm_of (ev_op (ev_var rfl) (ev_op (x := dI (G.2 - t)) (y := dI G.1) (ev_op (ev_var rfl) (ev_var rfl) od_I0) (ev_var rfl) (od_I (by show 0 < G.1; exact g0))) od_addI) ⟨t, G, rfl, hf, rfl, rfl⟩)⟩
  · obtain ⟨i, j, hc, rfl, rfl, rfl⟩ := r
    exact .inr ⟨i, j, e, hc, rfl, rfl, rfl⟩
theorem ok_Wall_last_turn (F : L2.Fun K "last_turn" "Wall.last_turn" st_Wall_last_turn f fd) (T : Txt K mg A) (C_need_turn : Cl P w K mg base (L2.CX P w) 2 "need_turn" (spNeedTurn A.CT)) (C_Wall_fold : ClM P w K mg base (L2.CX P w) 7 A.WL "fold" (spFold A)) : FnOk P w K mg base (L2.CX P w) 8 f fd ["self", "turn"] (spNear A lastF) := by
  refine Fun.okM F sc_Wall_last_turn rfl fun cdv B0 outer s H Q E hr => ⟨_, (pss_cons (ps_expr (pe_cl C_need_turn hr (by decide) (fun a b c d e f => passes_call (takes_of rfl rfl rfl rfl) (fun _ _ _ _ h => h) a b c d e f) rfl (pa_cons (pv 1) pa_nil)))
      (pss_cons (ps_asg (pe_clm0 C_Wall_fold hr (by decide) (fun a b c d e f => passes_call (takes_of rfl rfl rfl rfl) (fun _ _ _ _ h => h) a b c d e f) (pv 0)) (pg_tup (by rfl) (pgs_cons (pg_name (i := 2) sc_Wall_last_turn.nd rfl (Or.inl rfl)) (pgs_cons (pg_name (i := 3) sc_Wall_last_turn.nd rfl (Or.inl rfl)) pgs_nil))))
      (pss_one (ps_ret (pe_op op_sub (pv 1) (pe_op op_mod (pe_op op_sub (pv 1) (pv 3)) (pv 2))))))), fun TT x ds μ hl hp => ?_⟩
  obtain ⟨⟨a, h, g, cs⟩, d⟩ := x
  obtain ⟨rfl, hw, hg, hG, Ty, hT⟩ := hp
  dsimp only at hw hg hT hG
  refine hm_then (hm_drop (evm_callX (eam_of (ea_cons (ev_var rfl) ea_nil) ⟨rfl, ⟨d, rfl, Ty, hT⟩, fun z r => ?_, fun C r => ?_⟩)))
  rotate_left
  · obtain ⟨e, rfl⟩ := need_err (CT := A.CT) r
    exact .inl ⟨e, rfl, rfl, rfl⟩
  have e : isNum d = true := need_ok (CT := A.CT) r
  obtain ⟨t, rfl⟩ := isNum_int e
  refine hm_then (hm_put (evm_wall a (ev_var rfl) hw.ob (by decide +kernel) (by decide +kernel) (eam_nil ⟨(⟨a, h, g, cs⟩ : Wg), rfl, ⟨rfl, hw, hg, hG⟩, fun d' m' r => ?_, fun C fs m' r => ?_⟩)))
  · obtain ⟨G, hf, rfl, rfl⟩ := r
    obtain ⟨g1, _⟩ := foldAll_some okCk_one (fun c hc => by obtain ⟨p, hp, rfl⟩ := List.mem_map.mp hc; exact (hg.ok p hp).1) hf
    have g0 : 0 < G.1 := by have := g1.1; omega
    exact ⟨_, gdm_two, hm_ret (evm_of (ev_op (ev_var rfl) (ev_op (x := dI (t - G.2)) (y := dI G.1) (ev_op (ev_var rfl) (ev_var rfl) od_I0) (ev_var rfl) (od_I (by show 0 < G.1; exact g0))) od_I0) ⟨t, G, rfl, hf, rfl, rfl⟩)⟩
  · obtain ⟨i, j, hc, rfl, rfl, rfl⟩ := r
    exact .inr ⟨i, j, e, hc, rfl, rfl, rfl⟩
end
end Dn
namespace Dn
open PySem PySem.Spec PyProof.Rows L2 LamX
local macro_rules | `(tactic| walk_at "sd") => `(tactic| first | assumption | decide +kernel | (show (0 : Int) < _; first | assumption | omega) | exact cm64 (by omega) (by omega) | exact ⟨by omega, by decide +kernel⟩ | omega)
local macro_rules | `(tactic| walk_at "od") => `(tactic| first | exact od_addI | exact od_I0 | exact od_I (by walk_at "sd") | exact od_mulI (by walk_at "sd") | exact od_eqUI | exact od_neUI | exact od_isT | exact od_noT | exact od_isNo | exact od_noNo | exact od_isB | exact od_notB | exact od_eqUB | exact od_addL (by decide) | exact od_addT (by simp) (by simp) (by simp) | exact od_ixSeqT (by decide) rfl)
local macro_rules | `(tactic| walk_at "ca") => `(tactic| first | exact ca_listT | exact ca_lenUT | exact ca_lenUL | exact ca_type rfl)
local macro_rules | `(tactic| walk_at "ea") => `(tactic| first | ((with_reducible show EaS tNil _ _); exact ea_nil) | exact ea_cons (by walk_at "ev") (by walk_at "ea"))
local macro_rules | `(tactic| walk_at "ev") => `(tactic| first | ((with_reducible show EvS (tC _) _ _); exact ev_c) | ((with_reducible show EvS (tVar _) _ _); exact ev_var rfl) | ((with_reducible show EvS (tOp _ _ _) _ _); exact ev_op (by walk_at "ev") (by walk_at "ev") (by walk_at "od")) | ((with_reducible show EvS (tUn _ _) _ _); exact ev_un (by walk_at "ev") ud_U) | ((with_reducible show EvS (tTup _) _ _); exact ev_tup (by walk_at "ea") (by simp)) | ((with_reducible show EvS (tLst _) _ _); exact ev_lst (by walk_at "ea") (by simp)) | ((with_reducible show EvS tDNewK _ _); exact ev_dnewK) | ((with_reducible show EvS (tCB _ _) _ _); exact ev_cb (by walk_at "ea") (by walk_at "ca")))
section
variable {P : Program} {w : World} {K : PySem.W.Frag} {mg : Str → Option Value} {base : Heap} {f : Addr} {A : Ads} {fd : FuncData}
theorem ok_law_mixed (F : L2.Fun K "_law_mixed" "_law_mixed" st_law_mixed f fd) (T : Txt K mg A) : FnOk P w K mg base L2.CX0 1 f fd ["_law_cell", "_law_k"] spMixed := by
  refine Fun.okD F sc_law_mixed rfl fun cdv B0 outer s H Q E hr => ⟨_, (pss_cons (ps_set (i := 2) sc_law_mixed.nd rfl (Or.inl rfl) (pe_op op_mod (pe_op op_addU (pe_op op_addU (pe_op op_mod (pv 0) pe_int) (pe_op op_mulU pe_int (pv 1))) pe_int) pe_int))
      (pss_one (ps_ret (pe_op op_mod (pe_op op_mulU (pe_op op_mod (pe_op op_mulU (pv 2) (pv 2)) pe_int) (pv 2)) pe_int)))), fun ds hl hp => ?_⟩
  obtain ⟨c, k, rfl, h0, h1⟩ := hp
  refine hq_asg (d := dI ((c % 1000000007 + 7919 * k + 11) % 1000003)) (by walk_at "ev") ?_
  have g0 : 0 ≤ (c % 1000000007 + 7919 * k + 11) % 1000003 := by omega
  have g1 : (c % 1000000007 + 7919 * k + 11) % 1000003 < 1000003 := by omega
  refine hs_ret (d := dI (mixed c k)) ?_ rfl
  show EvS _ _ (dI (((c % 1000000007 + 7919 * k + 11) % 1000003) * ((c % 1000000007 + 7919 * k + 11) % 1000003) % 1000003 * ((c % 1000000007 + 7919 * k + 11) % 1000003) % 1000003))
  walk_at "ev"
theorem ok_law_common (F : L2.Fun K "_law_common" "_law_common" st_law_common f fd) (T : Txt K mg A) : FnOk P w K mg base L2.CX0 1 f fd ["_law_one", "_law_other"] spCommon := by
  refine Fun.okD F sc_law_common rfl fun cdv B0 outer s H Q E hr => ⟨_, (pss_cons (ps_while PassesOwn.never (pt_cmpR op_gt (pv 1) pe_int (nomark _)) (pss_one (ps_par (by rfl) sc_law_common.nd (i := 0) (j := 1) rfl rfl (by decide) rfl rfl (pa_cons (pv 1) (pa_cons (pe_op op_mod (pv 0) (pv 1)) pa_nil)) (by rfl))))
      (pss_one (ps_ret (pv 0)))), fun ds hl hp => ?_⟩
  obtain ⟨a, b, rfl, a0, b0⟩ := hp
  refine hs_seq (N' := fun δ => ∃ n, δ = [some (dI (Int.gcd a b : Int)), n]) (hs_while (fun k δ => ∃ x y : Int, δ = [some (dI x), some (dI y)] ∧ 0 ≤ x ∧ 0 ≤ y ∧ Int.gcd x y = Int.gcd a b ∧ y.toNat = k) b.toNat ⟨a, b, rfl, a0, b0, rfl, rfl⟩ ?_) ?_
  · rintro k δ ⟨x, y, rfl, x0, y0, hg, rfl⟩
    refine ⟨decide (0 < y), et_test (ev_op (ev_var rfl) ev_c od_I0), fun hb => ?_, fun hb => ?_⟩
    · have hy : 0 < y := of_decide_eq_true hb
      have h0 := Int.emod_nonneg x (show y ≠ 0 by omega)
      have h1 := Int.emod_lt_of_pos x hy
      refine hs_par (x := dI y) (y := dI (x % y)) (ea_cons (ev_var rfl) (ea_cons (ev_op (ev_var rfl) (ev_var rfl) (od_I (by show 0 < y; exact hy))) ea_nil)) ⟨_, ?_, y, x % y, rfl, by omega, h0, ?_, rfl⟩
      · omega
      · rw [← hg, gcd_step]
    · have hy : ¬ 0 < y := of_decide_eq_false hb
      have z : y = 0 := by omega
      subst z
      refine ⟨some (dI 0), ?_⟩
      rw [← hg, Int.gcd_zero_right]
      have e : ((x.natAbs : Nat) : Int) = x := by omega
      rw [e]
  · rintro δ ⟨n, rfl⟩
    exact hs_ret (ev_var rfl) rfl
theorem ok_law_wide (F : L2.Fun K "_law_wide" "_law_wide" st_law_wide f fd) (T : Txt K mg A) (C_law_mixed : Cl P w K mg base L2.CX0 1 "_law_mixed" spMixed) : FnOk P w K mg base L2.CX0 2 f fd ["_law_cell", "_law_k"] spWide := by
  refine Fun.okD F sc_law_wide rfl fun cdv B0 outer s H Q E hr => ⟨_, (pss_one (ps_ret (pe_op op_addU (pe_op op_addU (pe_op op_mulU (pe_op op_mod (pv 0) (pe_op op_pow pe_int pe_int)) (pe_op op_pow pe_int pe_int)) (pe_op op_mulU (pe_cl C_law_mixed hr (by decide) pass0 rfl (pa_cons (pv 0) (pa_cons (pv 1) pa_nil))) pe_int)) (pe_cl C_law_mixed hr (by decide) pass0 rfl (pa_cons (pv 0) (pa_cons (pe_op op_addU (pv 1) pe_int) pa_nil)))))), fun ds hl hp => ?_⟩
  obtain ⟨c, k, rfl, h0, h1⟩ := hp
  refine hs_ret (d := dI (c % 10 ^ 40 * 1000003 ^ 2 + mixed c k * 1000003 + mixed c (k + 50))) ?_ rfl
  have m0 := mixed_lo c k
  have m1 := mixed_hi c k
  have e0 : 0 ≤ c % 10 ^ 40 := Int.emod_nonneg _ (by decide)
  have e1 : c % 10 ^ 40 < 10 ^ 40 := Int.emod_lt_of_pos _ (by decide)
  refine ev_op (ev_op (ev_op (x := dI (c % 10 ^ 40)) (y := dI (1000003 ^ 2)) (ev_op (ev_var rfl) (ev_op ev_c ev_c (od_I ⟨by decide, by decide, by decide⟩)) (od_I ?_)) (ev_op ev_c ev_c (od_I ⟨by decide, by decide, by decide⟩)) (od_mulI (cmw 140 60 ⟨by omega, by omega⟩ ⟨by decide +kernel, by decide +kernel⟩)))
    (ev_op (ev_call (ea_cons (ev_var rfl) (ea_cons (ev_var rfl) ea_nil)) (spD_of (f := ii mixed) rfl ⟨c, k, rfl, by omega, by omega⟩)) ev_c (od_mulI (cm64 (by omega) (by omega)))) od_addI)
    (ev_call (ea_cons (ev_var rfl) (ea_cons (ev_op (ev_var rfl) ev_c od_addI) ea_nil)) (spD_of (f := ii mixed) rfl ⟨c, k + 50, rfl, by omega, by omega⟩)) od_addI
  show (0 : Int) < _
  decide +kernel
theorem ok_law_hours (F : L2.Fun K "_law_hours" "_law_hours" st_law_hours f fd) (T : Txt K mg A) (C_law_mixed : Cl P w K mg base L2.CX0 1 "_law_mixed" spMixed) (C_law_wide : Cl P w K mg base L2.CX0 2 "_law_wide" spWide) : FnOk P w K mg base L2.CX0 3 f fd ["_law_cell", "_law_k"] spHours := by
  refine Fun.okD F sc_law_hours rfl fun cdv B0 outer s H Q E hr => ⟨_, (pss_cons (ps_set (i := 2) sc_law_hours.nd rfl (Or.inl rfl) (pe_cl C_law_mixed hr (by decide) pass0 rfl (pa_cons (pv 0) (pa_cons (pv 1) pa_nil))))
      (pss_cons (ps_set (i := 3) sc_law_hours.nd rfl (Or.inl rfl) (pe_op op_addU pe_int (pe_op op_mod (pe_op op_fdivW (pv 2) pe_int) pe_int)))
      (pss_cons (ps_set (i := 4) sc_law_hours.nd rfl (Or.inl rfl) (pe_op op_mulU (pe_ix ix_seq (pe_lst (pa_cons pe_int (pa_cons pe_int (pa_cons pe_int (pa_cons pe_int (pa_cons pe_int (pa_cons pe_int (pa_cons pe_int (pa_cons pe_int pa_nil))))))))) (pe_op op_mod (pe_op op_fdivW (pv 2) pe_int) pe_int) (fun _ _ => rfl)) (pe_ix ix_seq (pe_lst (pa_cons pe_int (pa_cons pe_int (pa_cons pe_int (pa_cons pe_int (pa_cons pe_int (pa_cons pe_int (pa_cons pe_int (pa_cons pe_int pa_nil))))))))) (pe_op op_mod (pe_op op_fdivW (pv 2) pe_int) pe_int) (fun _ _ => rfl))))
      (pss_cons (ps_set (i := 5) sc_law_hours.nd rfl (Or.inl rfl) (pe_op op_addU pe_int (pe_op op_mod (pe_cl C_law_wide hr (by decide) pass0 rfl (pa_cons (pv 0) (pa_cons (pe_op op_addU (pv 1) pe_int) pa_nil))) (pe_op op_pow pe_int pe_int))))
      (pss_one (ps_ret (pe_ix ix_seq (pe_lst (pa_cons (pv 3) (pa_cons (pv 3) (pa_cons (pv 4) (pa_cons (pe_op op_mulU (pv 4) (pe_ix ix_seq (pe_lst (pa_cons pe_int (pa_cons pe_int (pa_cons pe_int (pa_cons pe_int pa_nil))))) (pe_op op_mod (pe_op op_fdivW (pv 2) pe_int) pe_int) (fun _ _ => rfl))) (pa_cons (pv 5) (pa_cons (pv 5) (pa_cons (pe_op op_pow pe_int pe_int) (pa_cons (pv 3) (pa_cons pe_int pa_nil)))))))))) (pe_op op_mod (pv 2) pe_int) (fun _ _ => rfl)))))))), fun ds hl hp => ?_⟩
  obtain ⟨c, k, rfl, h0, h1⟩ := hp
  have m0 := mixed_lo c k
  have m1 := mixed_hi c k
  refine hq_asg (ev_call (ea_cons (ev_var rfl) (ea_cons (ev_var rfl) ea_nil)) (spD_of (f := ii mixed) rfl ⟨c, k, rfl, by omega, by omega⟩)) ?_
  show Hs _ [some (dI c), some (dI k), some (dI (mixed c k)), none, none, none] _ _ _ _
  generalize hn : mixed c k = n at *
  have dv : ∀ (δ : Sto) (q m : Int), δ[2]? = some (some (dI n)) → 0 < q → q < 2 ^ 60 → 0 < m → EvS (tOp (rI (fun (_ j : Int) => 0 < j) fun i j => V.int (i % j)) (tOp (rI CDivW fun i j => V.int (i / j)) (tVar 2) (tC (.int q))) (tC (.int m))) δ (dI (n / q % m)) := fun δ q m hδ hq hq2 hm =>
    ev_op (ev_op (ev_var hδ) ev_c (od_I (cdw 60 hq hq2))) ev_c (od_I (by show 0 < m; exact hm))
  refine hq_asg (d := dI (few n)) (ev_op ev_c (dv _ 9 12 rfl (by decide) (by decide) (by decide)) od_addI) ?_
  refine hq_asg (d := dI (smooth n)) (ev_op
    (ev_op (ev_lst (ds := [2, 3, 4, 5, 6, 7, 9, 10].map dI) (by walk_at "ea") (by decide)) (dv _ 9 8 rfl (by decide) (by decide) (by decide)) (od_ixI (by omega) (by show _ < (8 : Int); omega)))
    (ev_op (ev_lst (ds := [2, 3, 5, 6, 8, 9, 11, 12].map dI) (by walk_at "ea") (by decide)) (dv _ 100 8 rfl (by decide) (by decide) (by decide)) (od_ixI (by omega) (by show _ < (8 : Int); omega)))
    (od_mulI (cm64 ?a1 ?a2))) ?_
  case a1 =>
    have h1 : 2 ≤ ([2, 3, 4, 5, 6, 7, 9, 10] : List Int).getD (n / 9 % 8).toNat 0 ∧ ([2, 3, 4, 5, 6, 7, 9, 10] : List Int).getD (n / 9 % 8).toNat 0 ≤ 10 := getD_all (P := fun x => 2 ≤ x ∧ x ≤ 10) (by decide) (by show _ < 8; omega)
    omega
  case a2 =>
    have h2 : 2 ≤ ([2, 3, 5, 6, 8, 9, 11, 12] : List Int).getD (n / 100 % 8).toNat 0 ∧ ([2, 3, 5, 6, 8, 9, 11, 12] : List Int).getD (n / 100 % 8).toNat 0 ≤ 12 := getD_all (P := fun x => 2 ≤ x ∧ x ≤ 12) (by decide) (by show _ < 8; omega)
    omega
  refine hq_asg (d := dI (1 + wide c (k + 1) % 10 ^ 30)) (ev_op ev_c (ev_op (x := dI (wide c (k + 1))) (y := dI (10 ^ 30)) (ev_call (ea_cons (ev_var rfl) (ea_cons (ev_op (ev_var rfl) ev_c od_addI) ea_nil)) (spD_of (f := ii wide) rfl ⟨c, k + 1, rfl, by omega, by omega⟩)) (ev_op ev_c ev_c (od_I ⟨by decide, by decide, by decide⟩)) (od_I ?b1)) od_addI) ?_
  case b1 =>
    show (0 : Int) < _
    decide +kernel
  refine hs_ret (d := dI ((hoursL c k n).getD (n % 9).toNat 0)) ?_ (by show _ = dI (hours c k); unfold hours; rw [hn])
  have h3 := smooth_in n
  have h4 := more_in n
  refine ev_op (ev_lst (ds := (hoursL c k n).map dI) ?_ (by show 9 ≤ 100000; decide)) (ev_op (ev_var rfl) ev_c (od_I (by show (0 : Int) < 9; decide))) (od_ixI (by omega) (by show _ < (9 : Int); omega))
  refine ea_cons (ev_var rfl) (ea_cons (ev_var rfl) (ea_cons (ev_var rfl) (ea_cons (ev_op (ev_var rfl) (ev_op (ev_lst (ds := [10, 49, 72, 1000].map dI) (by walk_at "ea") (by decide)) (dv _ 1000 4 rfl (by decide) (by decide) (by decide)) (od_ixI (by omega) (by show _ < (4 : Int); omega))) (od_mulI (cm64 (by omega) (by omega))))
    (ea_cons (ev_var rfl) (ea_cons (ev_var rfl) (ea_cons (ev_op ev_c ev_c (od_I ⟨by decide, by decide, by decide⟩)) (ea_cons (ev_var rfl) (ea_cons ev_c ea_nil))))))))
theorem ok_law_turn (F : L2.Fun K "_law_turn" "_law_turn" st_law_turn f fd) (T : Txt K mg A) (C_law_mixed : Cl P w K mg base L2.CX0 1 "_law_mixed" spMixed) (C_law_wide : Cl P w K mg base L2.CX0 2 "_law_wide" spWide) : FnOk P w K mg base L2.CX0 3 f fd ["_law_cell", "_law_k"] spTurn := by
  refine Fun.okD F sc_law_turn rfl fun cdv B0 outer s H Q E hr => ⟨_, (pss_cons (ps_set (i := 2) sc_law_turn.nd rfl (Or.inl rfl) (pe_cl C_law_mixed hr (by decide) pass0 rfl (pa_cons (pv 0) (pa_cons (pv 1) pa_nil))))
      (pss_cons (ps_set (i := 3) sc_law_turn.nd rfl (Or.inl rfl) (pe_cl C_law_wide hr (by decide) pass0 rfl (pa_cons (pv 0) (pa_cons (pe_op op_addU (pv 1) pe_int) pa_nil))))
      (pss_one (ps_ret (pe_ix ix_seq (pe_lst (pa_cons (pe_op op_mod (pe_op op_fdivW (pv 2) pe_int) pe_int) (pa_cons (pe_op op_sub (pe_un un_neg pe_int) (pe_op op_mod (pe_op op_fdivW (pv 2) pe_int) pe_int)) (pa_cons (pv 3) (pa_cons (pe_op op_sub pe_int (pv 3)) (pa_cons pe_int (pa_cons (pe_op op_mulU (pv 3) (pv 3)) pa_nil))))))) (pe_op op_mod (pv 2) pe_int) (fun _ _ => rfl)))))), fun ds hl hp => ?_⟩
  obtain ⟨c, k, rfl, h0, h1⟩ := hp
  have m0 := mixed_lo c k
  have m1 := mixed_hi c k
  refine hq_asg (ev_call (ea_cons (ev_var rfl) (ea_cons (ev_var rfl) ea_nil)) (spD_of (f := ii mixed) rfl ⟨c, k, rfl, by omega, by omega⟩)) ?_
  show Hs _ [some (dI c), some (dI k), some (dI (mixed c k)), none] _ _ _ _
  refine hq_asg (d := dI (wide c (k + 3))) (ev_call (ea_cons (ev_var rfl) (ea_cons (ev_op (ev_var rfl) ev_c od_addI) ea_nil)) (spD_of (f := ii wide) rfl ⟨c, k + 3, rfl, by omega, by omega⟩)) ?_
  have w0 := wide_lo c (k + 3)
  have w1 := wide_hi c (k + 3)
  have dv : ∀ (δ : Sto), δ[2]? = some (some (dI (mixed c k))) → EvS (tOp (rI (fun (_ j : Int) => 0 < j) fun i j => V.int (i % j)) (tOp (rI CDivW fun i j => V.int (i / j)) (tVar 2) (tC (.int 6))) (tC (.int 50))) δ (dI (mixed c k / 6 % 50)) := fun δ hδ =>
    ev_op (ev_op (ev_var hδ) ev_c (od_I (cdw 60 (by decide) (by decide)))) ev_c (od_I (by show (0 : Int) < 50; decide))
  refine hs_ret (d := dI ((turnL c k (mixed c k)).getD (mixed c k % 6).toNat 0)) ?_ rfl
  refine ev_op (ev_lst (ds := (turnL c k (mixed c k)).map dI) ?_ (by show 6 ≤ 100000; decide)) (ev_op (ev_var rfl) ev_c (od_I (by show (0 : Int) < 6; decide))) (od_ixI (by omega) (by show _ < (6 : Int); omega))
  refine ea_cons (dv _ rfl) (ea_cons (ev_op (ev_un ev_c ud_U) (dv _ rfl) od_I0) (ea_cons (ev_var rfl) (ea_cons (ev_op ev_c (ev_var rfl) od_I0) (ea_cons ev_c (ea_cons (ev_op (ev_var rfl) (ev_var rfl) (od_mulI (cmw 180 180 ⟨by omega, by omega⟩ ⟨by omega, by omega⟩))) ea_nil)))))
theorem ok_law_meant (F : L2.Fun K "_law_meant" "_law_meant" st_law_meant f fd) (T : Txt K mg A) (C_law_mixed : Cl P w K mg base L2.CX0 1 "_law_mixed" spMixed) (C_law_wide : Cl P w K mg base L2.CX0 2 "_law_wide" spWide) (C_law_hours : Cl P w K mg base L2.CX0 3 "_law_hours" spHours) : FnOk P w K mg base L2.CX0 4 f fd ["_law_cell", "_law_k", "_law_turn_here"] spMeant := by
  refine Fun.okD F sc_law_meant rfl fun cdv B0 outer s H Q E hr => ⟨_, (pss_cons (ps_set (i := 3) sc_law_meant.nd rfl (Or.inl rfl) (pe_cl C_law_hours hr (by decide) pass0 rfl (pa_cons (pv 0) (pa_cons (pv 1) pa_nil))))
      (pss_cons (ps_if (pt_cmpR (op_eqU hr.units) (pe_op op_mod (pe_cl C_law_mixed hr (by decide) pass0 rfl (pa_cons (pv 0) (pa_cons (pe_op op_addU (pv 1) pe_int) pa_nil))) pe_int) pe_int (nomark _)) (pss_one (ps_ret (pe_tup (pa_cons (pv 3) (pa_cons (pe_op op_mod (pe_cl C_law_wide hr (by decide) pass0 rfl (pa_cons (pv 0) (pa_cons (pe_op op_addU (pv 1) pe_int) pa_nil))) (pv 3)) pa_nil))))) pss_nil)
      (pss_one (ps_ret (pe_tup (pa_cons (pv 3) (pa_cons (pe_op op_mod (pv 2) (pv 3)) pa_nil))))))), fun ds hl hp => ?_⟩
  obtain ⟨c, k, t, rfl, h0, h1⟩ := hp
  have hh := hours_in c k
  refine hq_asg (d := dI (hours c k)) (ev_call (ea_cons (ev_var rfl) (ea_cons (ev_var rfl) ea_nil)) (spD_of (f := ii hours) rfl ⟨c, k, rfl, by omega, by omega⟩)) ?_
  refine hq_when (b := decide (mixed c (k + 5) % 8 = 0)) (et_test (ev_op (ev_op (x := dI (mixed c (k + 5))) (ev_call (ea_cons (ev_var rfl) (ea_cons (ev_op (ev_var rfl) ev_c od_addI) ea_nil)) (spD_of (f := ii mixed) rfl ⟨c, k + 5, rfl, by omega, by omega⟩)) ev_c (od_I (by show (0 : Int) < 8; decide))) ev_c od_eqUI)) (fun e => ?_) (fun e => ?_)
  · refine hs_ret (d := .tup [dI (hours c k), dI (wide c (k + 6) % hours c k)]) (ev_tup (ea_cons (ev_var rfl) (ea_cons (ev_op (ev_call (ea_cons (ev_var rfl) (ea_cons (ev_op (ev_var rfl) ev_c od_addI) ea_nil)) (spD_of (f := ii wide) rfl ⟨c, k + 6, rfl, by omega, by omega⟩)) (ev_var rfl) (od_I (by show 0 < hours c k; omega))) ea_nil)) (by show 2 ≤ 100000; decide)) ?_
    show _ = Dt.tup [dI (hours c k), dI (meantX c k t)]
    unfold meantX
    rw [if_pos (of_decide_eq_true e)]
  · refine hs_ret (d := .tup [dI (hours c k), dI (t % hours c k)]) (ev_tup (ea_cons (ev_var rfl) (ea_cons (ev_op (ev_var rfl) (ev_var rfl) (od_I (by show 0 < hours c k; omega))) ea_nil)) (by show 2 ≤ 100000; decide)) ?_
    show _ = Dt.tup [dI (hours c k), dI (meantX c k t)]
    unfold meantX
    rw [if_neg (of_decide_eq_false e)]
theorem ok_law_done (F : L2.Fun K "_law_done" "_law_done" st_law_done f fd) (T : Txt K mg A) (C_Wall_put : ClM P w K mg base (L2.CX P w) 4 A.WL "put" (spPut A)) (C_Wall_take : ClM P w K mg base (L2.CX P w) 3 A.WL "take" (spTake A)) (C_Wall_turn_to : ClM P w K mg base (L2.CX P w) 4 A.WL "turn_to" (spTurnTo A)) (C_law_mixed : Cl P w K mg base L2.CX0 1 "_law_mixed" spMixed) (C_law_wide : Cl P w K mg base L2.CX0 2 "_law_wide" spWide) (C_law_meant : Cl P w K mg base L2.CX0 4 "_law_meant" spMeant) : FnOk P w K mg base L2.CX0 5 f fd ["_law_shut", "_law_own", "_law_given", "_law_cell", "_law_k", "_law_turn_here"] (spDone A) := by
  refine Fun.okM0 F sc_law_done rfl fun cdv B0 outer s H Q E hr => ⟨_, (pss_cons (ps_set (i := 6) sc_law_done.nd rfl (Or.inl rfl) (pe_cl C_law_mixed hr (by decide) pass0 rfl (pa_cons (pv 3) (pa_cons (pv 4) pa_nil))))
      (pss_cons (ps_set (i := 7) sc_law_done.nd rfl (Or.inl rfl) (pe_callB (cr_sortedDI rfl) (by rfl) T.b_sorted (by decide +kernel) (pa_cons (pv 1) pa_nil)))
      (pss_cons (ps_set (i := 8) sc_law_done.nd rfl (Or.inl rfl) (pe_op op_mod (pv 6) pe_int))
      (pss_cons (ps_if (PW.pt (pw_or (PW.pt (pw_and (pt_cmpR op_lt (pv 8) pe_int (nomark _)) (pw_and1 (pt_cmpR op_lt (pe_callB call_lenU (by rfl) T.b_len (by decide +kernel) (pa_cons (pv 1) pa_nil)) pe_int (nomark _))))) (pw_or1 (pt_cmpR (op_eq_dempty hr.units0) (pv 1) pe_dnewK (nomark _))))) (pss_cons (ps_set (i := 9) sc_law_done.nd rfl (Or.inl rfl) (pe_cl C_law_meant hr (by decide) pass0 rfl (pa_cons (pv 3) (pa_cons (pe_op op_addU (pv 4) pe_int) (pa_cons (pv 5) pa_nil)))))
      (pss_cons (ps_dput (hu_of hr) (pv 1) (pe_op op_addU (pv 2) pe_int) (pv 9) rfl)
      (pss_one (ps_ret (pe_ifExp (pt_cmpR (op_eqU hr.units) (pe_clm C_Wall_put hr (by decide) passL (pv 0) (pa_cons (pv 9) pa_nil)) (pe_op op_addU (pv 2) pe_int) (nomark _)) (pe_op op_addU (pv 2) pe_int) pe_non))))) pss_nil)
      (pss_cons (ps_set (i := 10) sc_law_done.nd rfl (Or.inl rfl) (pe_ix ix_seq (pv 7) (pe_op op_mod (pe_op op_fdivW (pv 6) pe_int) (pe_callB call_lenU (by rfl) T.b_len (by decide +kernel) (pa_cons (pv 7) pa_nil))) (fun _ _ => rfl)))
      (pss_cons (ps_if (pt_cmpR (op_eqU hr.units) (pv 8) pe_int (nomark _)) (pss_cons (ps_set (i := 9) sc_law_done.nd rfl (Or.inl rfl) (pe_dpop1 (pv 1) (pv 10) ⟨by rfl, by rfl, by rfl, by rfl⟩))
      (pss_one (ps_ret (pe_ifExp (pt_cmpR (op_eqU hr.units) (pe_clm C_Wall_take hr (by decide) passL (pv 0) (pa_cons (pv 10) pa_nil)) (pv 9) (nomark _)) (pv 2) pe_non)))) pss_nil)
      (pss_cons (ps_set (i := 11) sc_law_done.nd rfl (Or.inl rfl) (pe_ix ix_seq (pe_dget (hu_of hr) (pv 1) (pv 10) (fun _ _ => rfl)) pe_int (fun _ _ => rfl)))
      (pss_cons (ps_set (i := 12) sc_law_done.nd rfl (Or.inl rfl) (pe_ix ix_seq (pe_lst (pa_cons (pe_op op_mod (pv 5) (pv 11)) (pa_cons (pe_op op_mod (pv 5) (pv 11)) (pa_cons (pe_op op_mod (pe_cl C_law_wide hr (by decide) pass0 rfl (pa_cons (pv 3) (pa_cons (pe_op op_addU (pv 4) pe_int) pa_nil))) (pv 11)) pa_nil)))) (pe_op op_mod (pe_op op_fdivW (pv 6) pe_int) pe_int) (fun _ _ => rfl)))
      (pss_cons (ps_dput (hu_of hr) (pv 1) (pv 10) (pe_tup (pa_cons (pv 11) (pa_cons (pv 12) pa_nil))) rfl)
      (pss_one (ps_ret (pe_ifExp (pt_cmpR op_isNo (pe_clm C_Wall_turn_to hr (by decide) passL (pv 0) (pa_cons (pv 10) (pa_cons (pv 12) pa_nil))) pe_non (nomark _)) (pv 2) pe_non)))))))))))), fun TT x ds μ hl hp => ?_⟩
  obtain ⟨⟨a, h, g, cs⟩, o, c, k, t⟩ := x
  obtain ⟨rfl, hw, ho, hne, hg, k0, k1⟩ := hp
  dsimp only at hw ho hne hg k0 k1
  have m0 := mixed_lo c k
  have m1 := mixed_hi c k
  have hle := hg.le
  have nao : a ≠ o := fun z => by
    have e := hw.ob
    rw [z, ho] at e
    cases e
  refine hm_then (hm_asg (evm_of (ev_call (z := dI (mixed c k)) (ea_cons (ev_var rfl) (ea_cons (ev_var rfl) ea_nil)) (spD_of (f := ii mixed) rfl ⟨c, k, rfl, by omega, by omega⟩)) ?_))
  show HsM TT E _ [some (.raw (.ref a)), some (.raw (.ref o)), some (dI g), some (dI c), some (dI k), some (dI t), some (dI (mixed c k)), none, none, none, none, none, none] μ _ _ _ _ _
  generalize mixed c k = n at *
  have vw : ∀ {δ δ' : Sto}, VwS μ (if false = true then kindL μ else kindD μ) δ δ' → VwS μ (if false = true then kindL μ else kindD μ) (some (.raw (.ref a)) :: some (.raw (.ref o)) :: δ) (some (.raw (.ref a)) :: some (.dct (dctD cs)) :: δ') := fun v => .cons (.refl _) (.cons (.dct ⟨_, ho⟩ ho (.refl _)) v)
  refine hm_then (hm_asg (evm_look false (vw (VwS.same _)) (ev_cb (ea_cons (ev_var rfl) ea_nil) (ca_sortedD (ms := cs.map (·.1)) keys_dct (by rw [List.length_map]; omega) (.refl _) hg.sorted)) solid_ints ?_))
  refine hm_then (hm_asg (evm_of (ev_op (ev_var rfl) ev_c (od_I (by show (0 : Int) < 8; decide))) ?_))
  show HsM TT E _ [some (.raw (.ref a)), some (.raw (.ref o)), some (dI g), some (dI c), some (dI k), some (dI t), some (dI n), some (.lst ((cs.map (·.1)).map dI)), some (dI (n % 8)), none, none, none, none] μ _ _ _ _ _
  refine hm_then (hm_if (etm_look false (c := (decide (n % 8 < 5) && decide ((cs.length : Int) < 60)) || decide (cs = [])) (vw (VwS.same _)) (et_or (et_and (et_test (ev_op (ev_var rfl) ev_c od_I0)) fun _ => et_eq (et_test (ev_op (ev_cb (ea_cons (ev_var rfl) ea_nil) ca_lenD) ev_c od_I0)) (by rw [len_dct])) fun _ => et_eq (et_test (ev_op (ev_var rfl) ev_dnewK od_eqDE)) ?dct) ⟨fun e => ?put, fun e => hm_next ?rest⟩))
  case dct =>
    cases cs with
    | nil => rfl
    | cons _ _ => rfl
  case put =>
    have hl : cs.length < 60 := by
      rcases Bool.or_eq_true_iff.mp e with e | e
      · have := of_decide_eq_true (Bool.and_eq_true_iff.mp e).2
        omega
      · have := of_decide_eq_true e
        rw [this]
        decide
    have hh := hours_in c (k + 7)
    have hm := meantX_in c (k + 7) t
    have hck : okCk (hours c (k + 7), meantX c (k + 7) t) := ⟨hh.1, hm.1, hm.2⟩
    refine hm_then (hm_asg (evm_of (ev_call (z := ckD (hours c (k + 7), meantX c (k + 7) t)) (ea_cons (ev_var rfl) (ea_cons (ev_op (ev_var rfl) ev_c od_addI) (ea_cons (ev_var rfl) ea_nil))) (spD_of (f := meantD) rfl ⟨c, k + 7, t, rfl, by omega, by omega⟩)) ?_))
    generalize hq : (hours c (k + 7), meantX c (k + 7) t) = q at *
    have hq1 : q.1 ≤ 1000000000000000000000000000000 := by rw [← hq]; exact hh.2
    refine hm_then (hm_dput (evm_of (ev_var rfl) (evm_of (ev_var rfl) (evm_of (ev_op (ev_var rfl) ev_c od_addI) ⟨o, dctD cs, .inl (g + 1), rfl, ho, rfl, by rw [len_dct]; omega, ?_⟩))))
    rw [putD_dct, hg.new]
    have hw' := hw.put (o := .dct (dctD (cs ++ [(g + 1, q)]))) nao hne.symm
    refine hm_ret (evm_if (etm_test (evm_o (evm_wallN a (ev_var rfl) hw'.ob (by decide +kernel) (by decide +kernel) (eam_of (ea_cons (ev_var rfl) ea_nil) ⟨((⟨a, h, g, cs⟩ : Wg), ckD q), rfl, ⟨rfl, hw', hg, okTh_clock q.1 q.2⟩, fun d' m' r => ?ok, fun C fs m' r => ?no⟩)))))
    case no =>
      rcases r with ⟨r1, _⟩ | ⟨_, r2, _⟩
      · have := isClock_good hck.1 hq1 hck.2.1 hck.2.2
        rw [show isClock (ckD q) = true from this] at r1
        cases r1
      · exact absurd r2 (by show ¬ 60 ≤ cs.length; omega)
    case ok =>
      obtain ⟨c', ⟨e1, _, _⟩, _, rfl, rfl⟩ := r
      have ec : c' = q := by
        have e1 : ckD q = ckD c' := e1
        unfold ckD at e1
        injection e1 with e1
        injection e1 with e2 e3
        injection e3 with e3 _
        injection e2 with e2
        injection e2 with e2
        injection e3 with e3
        injection e3 with e3
        exact (Prod.ext e2 e3).symm
      subst ec
      refine evm_of (ev_op (ev_var rfl) ev_c od_addI) ⟨_, od_eqUI, _, rfl, fun _ => evm_of (ev_op (ev_var rfl) ev_c od_addI) ⟨g + 1, cs ++ [(g + 1, c')], rfl, ?_, (by show g ≤ g + 1; omega), Int.le_refl _, ?_⟩, fun z => absurd (of_decide_eq_false z) (by show ¬ ¬ (g + 1 = g + 1); simp)⟩
      · rw [← hg.new]
        exact hg.put hl ⟨hck, hq1⟩
      · show setW A.WL (putM μ o _) a h (g + 1) (cs ++ [(g + 1, c')]) = _
        unfold setW
        rw [putM_comm hne, putM_comm nao.symm]
  case rest =>
    have he : cs ≠ [] := of_decide_eq_false (Bool.or_eq_false_iff.mp e).2
    have hlen : 0 < cs.length := List.length_pos_iff.mpr he
    have L0 : (0 : Int) < (cs.length : Int) := by omega
    have i0 := Int.emod_nonneg (n / 8) (show (cs.length : Int) ≠ 0 by omega)
    have i1 := Int.emod_lt_of_pos (n / 8) L0
    obtain ⟨p, hp⟩ : ∃ p, cs[(n / 8 % (cs.length : Int)).toNat]? = some p := ⟨_, List.getElem?_eq_getElem (by omega)⟩
    have hv : valC cs p.1 = some p.2 := val_at hg.nodup hp
    have hL : (((cs.map (·.1)).map dI).length : Int) = (cs.length : Int) := by rw [List.length_map, List.length_map]
    have hok := hg.ok p (List.mem_of_getElem? hp)
    refine hm_then (hm_asg (evm_of (d := dI p.1) ?ix ?_))
    case ix =>
      have e8 : OpD (rI CDivW fun i j => V.int (i / j)) (dI n) (dI 8) (dI (n / 8)) := od_I (cdw 60 (by decide) (by decide))
      have eL : OpD (rI (fun (_ j : Int) => 0 < j) fun i j => V.int (i % j)) (dI (n / 8)) (dI (cs.length : Int)) (dI (n / 8 % (cs.length : Int))) := od_I (by show (0 : Int) < _; exact L0)
      have eX : OpD (rIx K) (.lst ((cs.map (·.1)).map dI)) (dI (n / 8 % (cs.length : Int))) (dI p.1) := by
        have := od_ixI (K := K) (l := cs.map (·.1)) i0 (by rw [List.length_map]; exact i1)
        rw [List.getD, List.getElem?_map, hp] at this
        exact this
      exact ev_op (ev_var rfl) (ev_op (ev_op (ev_var rfl) ev_c e8) (ev_eq (ev_cb (ea_cons (ev_var rfl) ea_nil) ca_lenUL) (congrArg dI hL)) eL) eX
    obtain ⟨u, q⟩ := p
    dsimp only at hv hok
    refine hm_then (hm_if (etm_of (et_test (ev_op (ev_var rfl) ev_c od_eqUI)) ⟨fun e => ?pop, fun e => hm_next ?turn⟩))
    case pop =>
      refine hm_then (hm_asg (evm_dpop (evm_of (ev_var rfl) ⟨o, dctD cs, rfl, ho, evm_of (ev_var rfl) ⟨dctD cs, .inl u, ckD q, ho, rfl, by rw [valD_dct, hv]; rfl, ?_⟩⟩)))
      rw [dropD_dct]
      have hw' := hw.put (o := .dct (dctD (dropC cs u))) nao hne.symm
      refine hm_ret (evm_if (etm_test (evm_o (evm_wallN a (ev_var rfl) hw'.ob (by decide +kernel) (by decide +kernel) (eam_of (ea_cons (ev_var rfl) ea_nil) ⟨((⟨a, h, g, cs⟩ : Wg), dI u), rfl, ⟨rfl, hw', _, rfl⟩, fun d' m' r => ?_, fun C fs m' r => ?_⟩)))))
      · obtain ⟨n', c', lk, rfl, rfl⟩ := r
        have lk : look cs (dI u) = some (n', c') := lk
        rw [look_int, hv] at lk
        cases lk
        refine evm_of (ev_var rfl) ⟨_, od_eqCk, _, rfl, fun _ => evm_of (ev_var rfl) ⟨g, dropC cs u, rfl, hg.drop, Int.le_refl _, (by show g ≤ g + 1; omega), ?_⟩, fun z => nomatch z⟩
        show setW A.WL (putM μ o _) a h g (dropC cs u) = _
        unfold setW
        rw [putM_comm hne, putM_comm nao.symm]
      · have lk : look cs (dI u) = none := r.1
        rw [look_int, hv] at lk
        cases lk
    case turn =>
      refine hm_then (hm_asg (evm_o (evm_dget (evm_of (ev_var rfl) (evm_of (ev_var rfl) ⟨o, dctD cs, .inl u, ckD q, rfl, ho, rfl, by rw [valD_dct, hv]; rfl, evm_of ev_c ⟨dI q.1, od_ixSeqT (by decide) rfl, ?_⟩⟩)))))
      have H1 := hok.1.1
      have jj : ∀ x ∈ [t % q.1, t % q.1, wide c (k + 8) % q.1], 0 ≤ x ∧ x < q.1 := by
        intro x hx
        have mm : ∀ y : Int, 0 ≤ y % q.1 ∧ y % q.1 < q.1 := fun y => ⟨Int.emod_nonneg _ (by omega), Int.emod_lt_of_pos _ (by omega)⟩
        simp only [List.mem_cons, List.not_mem_nil, or_false] at hx
        rcases hx with rfl | rfl | rfl <;> exact mm _
      have hj := getD_all (P := fun x => 0 ≤ x ∧ x < q.1) jj (i := (n / 800 % 3).toNat) (by show _ < 3; omega)
      refine hm_then (hm_asg (evm_of (d := dI (([t % q.1, t % q.1, wide c (k + 8) % q.1] : List Int).getD (n / 800 % 3).toNat 0)) (ev_op (ev_lst (ds := [t % q.1, t % q.1, wide c (k + 8) % q.1].map dI) (ea_cons (ev_op (ev_var rfl) (ev_var rfl) (od_I (by show 0 < q.1; omega))) (ea_cons (ev_op (ev_var rfl) (ev_var rfl) (od_I (by show 0 < q.1; omega)))
        (ea_cons (ev_op (x := dI (wide c (k + 8))) (ev_call (ea_cons (ev_var rfl) (ea_cons (ev_op (ev_var rfl) ev_c od_addI) ea_nil)) (spD_of (f := ii wide) rfl ⟨c, k + 8, rfl, by omega, by omega⟩)) (ev_var rfl) (od_I (by show 0 < q.1; omega))) ea_nil))) (by show 3 ≤ 100000; decide)) (ev_op (x := dI (n / 800)) (y := dI 3) (ev_op (x := dI n) (y := dI 800) (ev_var rfl) ev_c (od_I (cdw 60 (by decide) (by decide)))) ev_c (od_I (by show (0 : Int) < 3; decide))) (od_ixI (by omega) (by show _ < (3 : Int); omega))) ?_))
      generalize ([t % q.1, t % q.1, wide c (k + 8) % q.1] : List Int).getD (n / 800 % 3).toNat 0 = y at *
      refine hm_then (hm_dput (evm_of (ev_tup (ds := [dI q.1, dI y]) (ea_cons (ev_var rfl) (ea_cons (ev_var rfl) ea_nil)) (by show 2 ≤ 100000; decide)) (evm_of (ev_var rfl) (evm_of (ev_var rfl) ⟨o, dctD cs, .inl u, rfl, ho, rfl, by rw [len_dct]; omega, ?_⟩))))
      rw [show (Dt.tup [dI q.1, dI y]) = ckD (q.1, y) from rfl, putD_dct]
      have hw' := hw.put (o := .dct (dctD (putC cs u (q.1, y)))) nao hne.symm
      have tn := hg.turn hv (c := (q.1, y)) ⟨⟨H1, hj.1, hj.2⟩, hok.2⟩
      refine hm_ret (evm_if (etm_test (evm_o (evm_wallN a (ev_var rfl) hw'.ob (by decide +kernel) (by decide +kernel) (eam_of (ea_cons (ev_var rfl) (ea_cons (ev_var rfl) ea_nil)) ⟨((⟨a, h, g, cs⟩ : Wg), dI u, dI y), rfl, ⟨rfl, hw', hg, ⟨_, rfl⟩, _, rfl⟩, fun d' m' r => ?_, fun C fs m' r => ?_⟩)))))
      · obtain ⟨n', c', i, lk, ei, _, _, rfl, rfl⟩ := r
        have lk : look cs (dI u) = some (n', c') := lk
        rw [look_int, hv] at lk
        cases lk
        cases ei
        refine evm_of ev_c ⟨_, od_isNo, _, rfl, fun _ => evm_of (ev_var rfl) ⟨g, putC cs u (q.1, y), rfl, tn.1, Int.le_refl _, (by show g ≤ g + 1; omega), ?_⟩, fun z => nomatch z⟩
        show setW A.WL (putM μ o _) a h g (putC cs u (q.1, y)) = _
        unfold setW
        rw [putM_comm hne, putM_comm nao.symm]
      · rcases r with ⟨lk, _⟩ | ⟨n', c', lk, bad, _⟩
        · have lk : look cs (dI u) = none := lk
          rw [look_int, hv] at lk
          cases lk
        · have lk : look cs (dI u) = some (n', c') := lk
          rw [look_int, hv] at lk
          cases lk
          have := isClock_good H1 hok.2 hj.1 hj.2
          rw [show isClock (.tup [dI q.1, dI y]) = true from this] at bad
          cases bad
theorem ok_law_hung (F : L2.Fun K "_law_hung" "_law_hung" st_law_hung f fd) (T : Txt K mg A) (C_Wall_init : ClI P w K mg base L2.CX0 1 A.WL "Wall" (spWallInit A)) (C_law_done : Cl P w K mg base L2.CX0 5 "_law_done" (spDone A)) : FnOk P w K mg base L2.CX0 6 f fd ["_law_cells", "_law_k", "_law_turn_here"] (spHung A) := by
  refine Fun.okM0 F sc_law_hung rfl fun cdv B0 outer s H Q E hr => ⟨_, (pss_cons (ps_set (i := 3) sc_law_hung.nd rfl (Or.inl rfl) (pe_cli0 C_Wall_init hr (by decide) pass0 rfl))
      (pss_cons (ps_set (i := 4) sc_law_hung.nd rfl (Or.inl rfl) pe_dnewK)
      (pss_cons (ps_set (i := 5) sc_law_hung.nd rfl (Or.inl rfl) pe_int)
      (pss_cons (ps_for PassesOwn.never rfl (pi_enum rfl T.b_enumerate (pa_cons (pv 0) pa_nil)) (pg_tup (by rfl) (pgs_cons (pg_name (i := 6) sc_law_hung.nd rfl (Or.inl rfl)) (pgs_cons (pg_name (i := 7) sc_law_hung.nd rfl (Or.inl rfl)) pgs_nil))) (pss_cons (ps_set (i := 5) sc_law_hung.nd rfl (Or.inl rfl) (pe_cl C_law_done hr (by decide) pass0 rfl (pa_cons (pv 3) (pa_cons (pv 4) (pa_cons (pv 5) (pa_cons (pv 7) (pa_cons (pe_op op_addU (pv 1) (pv 6)) (pa_cons (pv 2) pa_nil))))))))
      (pss_one (ps_if (pt_cmpR op_isNo (pv 5) pe_non (nomark _)) (pss_one (ps_ret pe_non)) pss_nil))))
      (pss_one (ps_ret (pv 3))))))), fun TT x ds μ hl hp => ?_⟩
  obtain ⟨l, k, t⟩ := x
  obtain ⟨rfl, hl, k0, k1⟩ := hp
  dsimp only at hl k0 k1
  refine hm_then (hm_asg (evm_makeGN fun p hp => ⟨p, rfl, ⟨rfl, putM_same⟩, fun d m' r => ?_, fun D fs m' r => r⟩))
  obtain ⟨rfl, h, ne, hh, rfl⟩ := r
  refine ⟨rfl, ?_⟩
  have n1 := newW_mk (WL := A.WL) hp ne hh
  generalize setW _ _ p h 0 [] = m1 at n1 ⊢
  refine hm_then (hm_asg (evm_dnew fun o ho => ?_))
  obtain ⟨nph, mp, mh, w1, gr1⟩ := n1
  have mo := none_back gr1 ho
  have st : IsW A.WL (putM m1 o (.dct (dctD []))) p h 0 [] ∧ (putM m1 o (.dct (dctD []))) o = some (.dct (dctD [])) ∧ o ≠ h ∧ p ≠ o ∧ Grow μ (putM m1 o (.dct (dctD []))) := ⟨w1.put (ne_new w1.ob ho) (ne_new w1.dc ho), putM_same, (ne_new w1.dc ho).symm, ne_new w1.ob ho, gr1.putN mo⟩
  show HsM TT E _ _ (putM m1 o (.dct (dctD []))) _ _ _ _ _
  generalize putM m1 o (.dct (dctD [])) = m2 at st ⊢
  clear w1 ho hh hp ne gr1
  obtain ⟨hw, ho, hne, npo, gr⟩ := st
  refine hm_then (hm_asg (evm_of ev_c ?_))
  refine hm_then (hm_enum (eam_of (ea_cons (ev_var rfl) ea_nil) ⟨_, rfl, fun i δ m => ∃ (g : Int) (cs : Cks) (x6 x7 : Option Dt), IsW A.WL m p h g cs ∧ m o = some (.dct (dctD cs)) ∧ Good g cs ∧ g ≤ i ∧ Grow μ m ∧ δ = [some (.lst (l.map dI)), some (dI k), some (dI t), some (.raw (.ref p)), some (.raw (.ref o)), some (dI g), x6, x7], ⟨0, [], _, _, hw, ho, Good.nil, by decide, gr, rfl⟩, fun i δ m x q hx => ?deed, fun δ m q => ?done⟩))
  case done =>
    obtain ⟨g, cs, x6, x7, hw, ho, hg, hi, gr, rfl⟩ := q
    rw [List.length_map] at hi
    have hi : g ≤ (l.length : Int) := hi
    exact hm_ret (evm_of (ev_var rfl) ⟨p, h, g, cs, rfl, ⟨nph, mp, mh, hw, gr⟩, hg, by omega⟩)
  clear hw ho gr
  obtain ⟨g, cs, x6, x7, hw, ho, hg, hi, gr, rfl⟩ := q
  obtain ⟨hl2, c, rfl⟩ := int_item hx
  have hl2 : i < l.length := hl2
  refine ⟨_, gdm_two, ?_⟩
  refine hm_then (hm_asg (evm_callGN (eam_of (ea_cons (ev_var rfl) (ea_cons (ev_var rfl) (ea_cons (ev_var rfl) (ea_cons (ev_var rfl) (ea_cons (ev_op (ev_var rfl) (ev_var rfl) od_addI) (ea_cons (ev_var rfl) ea_nil)))))) ⟨(⟨⟨p, h, g, cs⟩, o, c, k + (i : Int), t⟩ : Ow), rfl, ⟨rfl, hw, ho, hne, hg, by show 0 ≤ k + (i : Int); omega, by show k + (i : Int) ≤ 90000; omega⟩, fun d m' r => ?_, fun C fs m' r => r⟩)))
  obtain ⟨g2, cs2, rfl, hg2, _, le2, rfl⟩ := r
  dsimp only at le2
  have w2 := (setW_is (WL := A.WL) (m := m) (g := g2) (cs := cs2) hw.ne).put (o := .dct (dctD cs2)) npo hne.symm
  have o2 : (putM (setW A.WL m p h g2 cs2) o (.dct (dctD cs2))) o = some (.dct (dctD cs2)) := putM_same
  have gr2 : Grow μ (putM (setW A.WL m p h g2 cs2) o (.dct (dctD cs2))) := (gr.setW mp mh).putN mo
  dsimp only
  generalize putM (setW A.WL m p h g2 cs2) o (.dct (dctD cs2)) = m3 at w2 o2 gr2 ⊢
  have gi : g2 ≤ ((i + 1 : Nat) : Int) := by omega
  exact hm_if (etm_of (b := false) (et_test (ev_op (ev_var rfl) ev_c od_isNo)) ⟨(fun z => nomatch z), fun _ => hm_next ⟨g2, cs2, _, _, w2, o2, hg2, gi, gr2, rfl⟩⟩)
theorem ok_law_folded (F : L2.Fun K "_law_folded" "_law_folded" st_law_folded f fd) (T : Txt K mg A) (C_Wall_fold : ClM P w K mg base (L2.CX P w) 7 A.WL "fold" (spFold A)) : FnOk P w K mg base L2.CX0 8 f fd ["_law_shut"] (spLawFolded A) := by
  refine Fun.okM0 F sc_law_folded rfl fun cdv B0 outer s H Q E hr => ⟨_, (pss_cons (ps_set (i := 1) sc_law_folded.nd rfl (Or.inl rfl) pe_non)
      (pss_cons (ps_tryN (c := .ref A.CV) (L := 2) (i := 1) rfl rfl ⟨by rfl, by decide +kernel, .inl T.g_Never⟩ sc_law_folded.nd rfl rfl (Or.inl rfl) rfl (fun W pn xe E tk hW => by exact (pe_clm0 C_Wall_fold hr (by decide) (fun a b c d e f => passes_call tk hW a b c d e f) (pv 0))))
      (pss_one (ps_ret (pv 1))))), fun TT x ds μ hl hp => ?_⟩
  obtain ⟨a, h, g, cs⟩ := x
  obtain ⟨rfl, hw, hg, hG⟩ := hp
  dsimp only at hw hg hG
  refine hm_then (hm_asg (evm_of ev_c ?_))
  refine hm_seq (M' := fun δ m => m = μ ∧ ∃ d, δ[1]? = some (some d) ∧ ((∃ G, foldAll (1, 0) (cs.map (·.2)) = some G ∧ d = ckD G) ∨ (foldAll (1, 0) (cs.map (·.2)) = none ∧ d = dN)))
    (hm_tryN (W' := fun C fs m' => C = A.CV ∧ foldAll (1, 0) (cs.map (·.2)) = none ∧ m' = μ) (fun E => evm_wall a (ev_var rfl) hw.ob (by decide +kernel) (by decide +kernel) (eam_nil ⟨(⟨a, h, g, cs⟩ : Wg), rfl, ⟨rfl, hw, hg, hG⟩, fun d m r => ?ok, fun C fs m r => ?bad⟩)) fun C fs m r => ?kept) fun δ m p => ?_
  case ok =>
    obtain ⟨G, hf, rfl, rfl⟩ := r
    exact ⟨rfl, _, rfl, .inl ⟨G, hf, rfl⟩⟩
  case bad =>
    obtain ⟨i, j, hc, rfl, _, rfl⟩ := r
    exact ⟨rfl, no_fold_of_clash (fun p hp => (hg.ok p hp).1) hc, rfl⟩
  case kept =>
    obtain ⟨rfl, hf, rfl⟩ := r
    exact ⟨T.mm_Never, rfl, _, rfl, .inr ⟨hf, rfl⟩⟩
  obtain ⟨rfl, d, e, r⟩ := p
  exact hm_ret (evm_of (ev_var e) ⟨rfl, r⟩)
end
end Dn
namespace Dn
open PySem PySem.Spec PyProof.Rows L2 LamX
local macro_rules | `(tactic| walk_at "sd") => `(tactic| first | assumption | decide +kernel | (show (0 : Int) < _; first | assumption | omega) | exact cm64 (by omega) (by omega) | exact ⟨by omega, by decide +kernel⟩ | omega)
local macro_rules | `(tactic| walk_at "od") => `(tactic| first | exact od_addI | exact od_I0 | exact od_I (by walk_at "sd") | exact od_mulI (by walk_at "sd") | exact od_eqUI | exact od_neUI | exact od_isT | exact od_noT | exact od_isNo | exact od_noNo | exact od_isB | exact od_notB | exact od_eqUB | exact od_addL (by decide) | exact od_addT (by simp) (by simp) (by simp) | exact od_ixSeqT (by decide) rfl)
local macro_rules | `(tactic| walk_at "ca") => `(tactic| first | exact ca_listT | exact ca_lenUT | exact ca_lenUL | exact ca_type rfl)
local macro_rules | `(tactic| walk_at "ea") => `(tactic| first | ((with_reducible show EaS tNil _ _); exact ea_nil) | exact ea_cons (by walk_at "ev") (by walk_at "ea"))
local macro_rules | `(tactic| walk_at "ev") => `(tactic| first | ((with_reducible show EvS (tC _) _ _); exact ev_c) | ((with_reducible show EvS (tVar _) _ _); exact ev_var rfl) | ((with_reducible show EvS (tOp _ _ _) _ _); exact ev_op (by walk_at "ev") (by walk_at "ev") (by walk_at "od")) | ((with_reducible show EvS (tUn _ _) _ _); exact ev_un (by walk_at "ev") ud_U) | ((with_reducible show EvS (tTup _) _ _); exact ev_tup (by walk_at "ea") (by simp)) | ((with_reducible show EvS (tLst _) _ _); exact ev_lst (by walk_at "ea") (by simp)) | ((with_reducible show EvS tDNewK _ _); exact ev_dnewK) | ((with_reducible show EvS (tCB _ _) _ _); exact ev_cb (by walk_at "ea") (by walk_at "ca")))
section
variable {P : Program} {w : World} {K : PySem.W.Frag} {mg : Str → Option Value} {base : Heap} {f : Addr} {A : Ads} {fd : FuncData}
theorem ok_law_turned (F : L2.Fun K "_law_turned" "_law_turned" st_law_turned f fd) (T : Txt K mg A) (C_Wall_init : ClI P w K mg base L2.CX0 1 A.WL "Wall" (spWallInit A)) (C_Wall_put : ClM P w K mg base (L2.CX P w) 4 A.WL "put" (spPut A)) (C_Wall_clocks : ClM P w K mg base L2.CX0 1 A.WL "clocks" (spClocks A)) : FnOk P w K mg base L2.CX0 5 f fd ["_law_shut", "_law_number"] (spTurned A) := by
  refine Fun.okM0 F sc_law_turned rfl fun cdv B0 outer s H Q E hr => ⟨_, (pss_cons (ps_set (i := 2) sc_law_turned.nd rfl (Or.inl rfl) (pe_cli0 C_Wall_init hr (by decide) pass0 rfl))
      (pss_cons (ps_setLc (i := 3) (own := [("_law_at", 4), ("_law_clock", 5)]) (g := gTup K 2 (gCons (gName 4) (gCons (gName 5) gNil))) (by rfl) sc_law_turned.nd rfl rfl (sw_true rfl rfl rfl (by decide +kernel)) (pi_list (pe_clm0 C_Wall_clocks hr (by decide) pass0 (pv 0))) (blkOk_by (N := ["_law_shut", "_law_number", "_law_found", "_law_left", "_law_at", "_law_clock"]) (sc := defScope st_law_turned) (by decide +kernel)) (fun _ _ _ _ _ => by exact (pg_tup (by rfl) (pgs_cons (pg_name (i := 4) sc_law_turned.nd rfl (Or.inl rfl)) (pgs_cons (pg_name (i := 5) sc_law_turned.nd rfl (Or.inl rfl)) pgs_nil)))) (fun _ _ _ _ _ => by exact pts_nil) (fun _ _ _ _ _ => by exact (pv 5)))
      (pss_cons (ps_while PassesOwn.never (pt_cmpR (op_neU hr.units) (pv 3) (pe_lst pa_nil) (nomark _)) (pss_one (ps_expr (pe_clm C_Wall_put hr (by decide) passL (pv 2) (pa_cons (pe_bm PySem.F.plainAttrs_list PySem.F.slot_list_pop PySem.F.type_list_pop mt_popAt (pv 3) (pa_cons (pe_op op_mod (pv 1) (pe_callB call_lenU (by rfl) T.b_len (by decide +kernel) (pa_cons (pv 3) pa_nil))) pa_nil)) pa_nil)))))
      (pss_one (ps_ret (pv 2)))))), fun TT x ds μ hl hp => ?_⟩
  obtain ⟨⟨a, h0, g0, cs⟩, n⟩ := x
  obtain ⟨rfl, ⟨hw, hg, hG⟩, hn⟩ := hp
  dsimp only at hw hg hG hn
  have hle := hg.le
  have li : (itsD cs).length = cs.length := by rw [List.length_map, len_dct]
  refine hm_then (hm_asg (evm_makeGN fun p hp => ⟨p, rfl, ⟨rfl, putM_same⟩, fun d m' r => ?_, fun D fs m' r => r⟩))
  obtain ⟨rfl, h, ne, hh, rfl⟩ := r
  refine ⟨rfl, ?_⟩
  have n1 := newW_mk (WL := A.WL) hp ne hh
  generalize setW _ _ p h 0 [] = m1 at n1 ⊢
  clear hp ne hh
  obtain ⟨nph, mp, mh, w1, gr1⟩ := n1
  have hw1 := hw.grow gr1
  refine hm_then (hm_asg (evm_lcN (evm_freeze (evm_wallN a (ev_var rfl) hw1.ob (by decide +kernel) (by decide +kernel) (eam_nil ⟨(⟨a, h0, g0, cs⟩ : Wg), rfl, ⟨rfl, hw1.r⟩, fun d m r => ?_, fun C fs m r => r⟩)))))
  obtain ⟨q0, hq0, rfl, rfl⟩ := r
  refine ⟨q0, itsD cs, rfl, putM_same, itsD cs, sndF, rfl, by omega, by rw [sndF_all]; exact noLst_cks _, fun d hd => ?_, fun q hq => ?_⟩
  · rw [itsD_map] at hd
    obtain ⟨y, hy, rfl⟩ := List.mem_map.mp hd
    exact ⟨_, true, gds_two (x := dI y.1) (y := ckD y.2) (by decide) (by decide), et_yes, fun _ => ⟨ckD y.2, ev_var rfl, rfl⟩, fun z => nomatch z⟩
  rw [delM_put hq0] at hq ⊢
  rw [sndF_all]
  have mq := none_back gr1 hq
  have npq := ne_new w1.ob hq
  have nhq := ne_new w1.dc hq
  have w2 := w1.put (o := .lst ((cs.map (·.2)).map ckD)) npq nhq
  have hl2 : (putM m1 q (.lst ((cs.map (·.2)).map ckD))) q = some (.lst ((cs.map (·.2)).map ckD)) := putM_same
  have gr2 : Grow μ (putM m1 q (.lst ((cs.map (·.2)).map ckD))) := gr1.putN mq
  generalize putM m1 q (.lst ((cs.map (·.2)).map ckD)) = m2 at w2 hl2 gr2 ⊢
  clear hw1 gr1 w1 hq hq0
  have okl : ∀ c ∈ cs.map (·.2), okCk c ∧ c.1 ≤ 1000000000000000000000000000000 := fun c hc => by
    obtain ⟨p, hp, rfl⟩ := List.mem_map.mp hc
    exact hg.ok p hp
  show HsM TT E _ [some (.raw (.ref a)), some (dI n), some (.raw (.ref p)), some (.raw (.ref q)), none, none] _ _ _ _ _ _
  refine hm_seq (M' := fun δ m => ∃ (g : Int) (ds : Cks), IsW A.WL m p h g ds ∧ Good g ds ∧ g ≤ 60 ∧ (ds.map (·.2)).Perm (cs.map (·.2)) ∧ Grow μ m ∧ δ[2]? = some (some (.raw (.ref p))))
    (hm_while (fun k δ m => ∃ (l : List Ck) (g : Int) (ds : Cks) (x4 x5 : Option Dt), k = l.length ∧ IsW A.WL m p h g ds ∧ m q = some (.lst (l.map ckD)) ∧ Good g ds ∧ g = (ds.length : Int) ∧ ((ds.map (·.2)) ++ l).Perm (cs.map (·.2)) ∧ Grow μ m ∧ δ = [some (.raw (.ref a)), some (dI n), some (.raw (.ref p)), some (.raw (.ref q)), x4, x5]) (cs.map (·.2)).length ⟨cs.map (·.2), 0, [], _, _, rfl, w2, hl2, Good.nil, rfl, .refl _, gr2, rfl⟩ fun k δ m p => ?step) ?after
  case after =>
    rintro δ m ⟨g, ds, hw, hg, hG, pm, gr, e⟩
    exact hm_ret (evm_of (ev_var e) ⟨p, h, g, ds, rfl, ⟨nph, mp, mh, hw, gr⟩, hg, hG, pm⟩)
  clear w2 hl2 gr2
  obtain ⟨l, g, ds, x4, x5, rfl, hw, hl, hgd, eg, pm, gr, rfl⟩ := p
  have pl := pm.length_eq
  rw [List.length_append, List.length_map, List.length_map] at pl
  have vw : VwS m (if true = true then kindL m else kindD m) [some (.raw (.ref a)), some (dI n), some (.raw (.ref p)), some (.raw (.ref q)), x4, x5] [some (.raw (.ref a)), some (dI n), some (.raw (.ref p)), some (.lst (l.map ckD)), x4, x5] := .cons (.refl _) (.cons (.refl _) (.cons (.refl _) (.cons (.lst (.inr ⟨_, hl⟩) hl (.refl _)) (VwS.same _))))
  refine etm_look (c := !l.isEmpty) true vw (et_test (ev_op (ev_var rfl) (ev_lst (ds := []) ea_nil (by show 0 ≤ 100000; decide)) od_neCks0)) ⟨fun b => ?body, fun b => ?exit⟩
  case exit =>
    have e : l = [] := by cases l with | nil => rfl | cons c l => cases b
    subst e
    rw [List.append_nil] at pm
    exact ⟨g, ds, hw, hgd, by omega, pm, gr, rfl⟩
  have l0 : 0 < l.length := by cases l with | nil => cases b | cons c l => exact Nat.succ_pos _
  have i0 := Int.emod_nonneg n (show (l.length : Int) ≠ 0 by omega)
  have i1 := Int.emod_lt_of_pos n (show (0 : Int) < (l.length : Int) by omega)
  obtain ⟨c, hc⟩ : ∃ c, l[(n % (l.length : Int)).toNat]? = some c := ⟨_, List.getElem?_eq_getElem (by omega)⟩
  have hcl := List.mem_of_getElem? hc
  have okc := okl c (pm.mem_iff.mp (List.mem_append_right _ hcl))
  have pick : l.Perm (c :: l.eraseIdx (n % (l.length : Int)).toNat) := erase_perm hc
  have er : (l.eraseIdx (n % (l.length : Int)).toNat).length + 1 = l.length := by
    have := pick.length_eq
    rw [List.length_cons] at this
    omega
  have hw3 := hw.put (o := .lst ((l.eraseIdx (n % (l.length : Int)).toNat).map ckD)) npq nhq
  refine hm_drop (evm_wallN p (ev_var rfl) hw.ob (by decide +kernel) (by decide +kernel) (eam_cons (evm_popAt (evm_of (ev_var rfl) ⟨q, _, rfl, hl, evm_look (d := dI (n % (l.length : Int))) true vw (ev_op (ev_var rfl) (ev_eq (ev_cb (ea_cons (ev_var rfl) ea_nil) ca_lenUL) (by rw [List.length_map])) (od_I (by show (0 : Int) < (l.length : Int); omega))) rfl ⟨l.map ckD, _, ckD c, rfl, hl, by rw [List.length_map]; omega, i0, by rw [List.getElem?_map, hc]; rfl, ?_⟩⟩)) fun d m r => r))
  rw [show (l.map ckD).eraseIdx (n % (l.length : Int)).toNat = (l.eraseIdx (n % (l.length : Int)).toNat).map ckD from map_erase _ _]
  refine eam_nil ⟨((⟨p, h, g, ds⟩, ckD c) : Wg × Dt), rfl, ⟨rfl, hw3, hgd, okTh_clock _ _⟩, fun d m' r => ?_, fun C fs m' r => ?_⟩
  · obtain ⟨c', ⟨e, hk⟩, h60, rfl, rfl⟩ := r
    cases ckD_inj e
    have gp := hgd.put h60 hk
    rw [hgd.new] at gp
    refine ⟨_, by omega, l.eraseIdx (n % (l.length : Int)).toNat, g + 1, ds ++ [(g + 1, c)], _, _, rfl, setW_is hw.ne, (setW_off npq.symm nhq.symm).trans putM_same, gp, ?_, ?_, (gr.putN mq).setW mp mh, rfl⟩
    · rw [List.length_append, eg]
      rfl
    · rw [List.map_append, List.append_assoc]
      exact (List.Perm.append_left _ pick.symm).trans pm
  · rcases r with ⟨e, _⟩ | ⟨_, e, _⟩
    · rw [show isClock (ckD c) = true from ck_good okc] at e
      cases e
    · have e : 60 ≤ ds.length := e
      omega
theorem ok_law_less_good (F : L2.Fun K "_law_less_good" "_law_less_good" st_law_less_good f fd) (T : Txt K mg A) (C_Wall_take : ClM P w K mg base (L2.CX P w) 3 A.WL "take" (spTake A)) (C_Wall_clocks : ClM P w K mg base L2.CX0 1 A.WL "clocks" (spClocks A)) (C_Wall_copied : ClM P w K mg base L2.CX0 4 A.WL "copied" (spCopied A)) (C_Wall_fold : ClM P w K mg base (L2.CX P w) 7 A.WL "fold" (spFold A)) (C_Wall_is_met : ClM P w K mg base (L2.CX P w) 6 A.WL "is_met" (spIsMet A)) : FnOk P w K mg base L2.CX0 8 f fd ["_law_shut", "_law_number"] (spLess A) := by
  refine Fun.okM0 F sc_law_less_good rfl fun cdv B0 outer s H Q E hr => ⟨_, (pss_cons (ps_set (i := 2) sc_law_less_good.nd rfl (Or.inl rfl) (pe_clm0 C_Wall_fold hr (by decide) passL (pv 0)))
      (pss_cons (ps_set (i := 3) sc_law_less_good.nd rfl (Or.inl rfl) (pe_clm0 C_Wall_clocks hr (by decide) pass0 (pv 0)))
      (pss_cons (ps_set (i := 4) sc_law_less_good.nd rfl (Or.inl rfl) (pe_clm0 C_Wall_copied hr (by decide) pass0 (pv 0)))
      (pss_cons (ps_expr (pe_clm C_Wall_take hr (by decide) passL (pv 4) (pa_cons (pe_ix ix_seq (pe_ix ix_seq (pv 3) (pe_op op_mod (pv 1) (pe_callB call_lenU (by rfl) T.b_len (by decide +kernel) (pa_cons (pv 3) pa_nil))) (fun _ _ => rfl)) pe_int (fun _ _ => rfl)) pa_nil)))
      (pss_cons (ps_set (i := 5) sc_law_less_good.nd rfl (Or.inl rfl) (pe_clm0 C_Wall_fold hr (by decide) passL (pv 4)))
      (pss_one (ps_ret (pe_and (pe_cmpR (op_eqU hr.units) (pe_op op_mod (pe_ix ix_seq (pv 2) pe_int (fun _ _ => rfl)) (pe_ix ix_seq (pv 5) pe_int (fun _ _ => rfl))) pe_int (nomark _)) (pe_and (pe_cmpR (op_eqU hr.units) (pe_op op_mod (pe_ix ix_seq (pv 2) pe_int (fun _ _ => rfl)) (pe_ix ix_seq (pv 5) pe_int (fun _ _ => rfl))) (pe_ix ix_seq (pv 5) pe_int (fun _ _ => rfl)) (nomark _)) (pe_one (pe_clm C_Wall_is_met hr (by decide) passL (pv 4) (pa_cons (pe_ix ix_seq (pv 2) pe_int (fun _ _ => rfl)) pa_nil)))))))))))), fun TT x ds μ hl hp => ?_⟩
  obtain ⟨⟨a, h0, g0, cs⟩, n, G⟩ := x
  obtain ⟨rfl, ⟨hw, hg, hG⟩, hf, hne, hn⟩ := hp
  dsimp only at hw hg hG hn hf hne
  have hle := hg.le
  have hok : ∀ p ∈ cs, okCk p.2 := fun p hp => (hg.ok p hp).1
  have nv : ∀ {ds : Cks} {k : Int} {F : Ck} {i j : Int}, Good k ds → foldC ds = some F → clashC ds = some (i, j) → False := fun {ds k F i j} gd f e => by
    have := no_fold_of_clash (fun p hp => (gd.ok p hp).1) e
    rw [show foldAll (1, 0) (ds.map (·.2)) = some F from f] at this
    cases this
  have li : (itsD cs).length = cs.length := by rw [List.length_map, len_dct]
  have l0 : 0 < cs.length := List.length_pos_iff.mpr hne
  have i0 := Int.emod_nonneg n (show (cs.length : Int) ≠ 0 by omega)
  have i1 := Int.emod_lt_of_pos n (show (0 : Int) < (cs.length : Int) by omega)
  obtain ⟨k, hk⟩ : ∃ k, cs[(n % (cs.length : Int)).toNat]? = some k := ⟨_, List.getElem?_eq_getElem (by omega)⟩
  have hv : valC cs k.1 = some k.2 := val_at hg.nodup hk
  refine hm_then (hm_asg (evm_wallN a (ev_var rfl) hw.ob (by decide +kernel) (by decide +kernel) (eam_nil ⟨(⟨a, h0, g0, cs⟩ : Wg), rfl, ⟨rfl, hw, hg, small60 hG⟩, fun d m r => ?_, fun C fs m r => ?_⟩)))
  rotate_left
  · obtain ⟨i, j, e, _⟩ := r
    exact nv hg hf e
  obtain ⟨G', e, rfl, rfl⟩ := r
  cases hf.symm.trans e
  refine hm_then (hm_asg (evm_freeze (evm_wallN a (ev_var rfl) hw.ob (by decide +kernel) (by decide +kernel) (eam_nil ⟨(⟨a, h0, g0, cs⟩ : Wg), rfl, ⟨rfl, hw.r⟩, fun d m r => ?_, fun C fs m r => r⟩))))
  obtain ⟨q0, hq0, rfl, rfl⟩ := r
  refine ⟨q0, itsD cs, rfl, putM_same, ?_⟩
  rw [delM_put hq0]
  refine hm_then (hm_asg (evm_wallN a (ev_var rfl) hw.ob (by decide +kernel) (by decide +kernel) (eam_nil ⟨(⟨a, h0, g0, cs⟩ : Wg), rfl, ⟨rfl, hw.r, hg.nodup⟩, fun d m r => ?_, fun C fs m r => r⟩)))
  obtain ⟨p, h, rfl, nph, mp, mh, w1, gr1⟩ := r
  dsimp only at w1
  show HsM TT E _ [some (.raw (.ref a)), some (dI n), some (ckD G), some (.lst (itsD cs)), some (.raw (.ref p)), none] _ _ _ _ _ _
  have eX : OpD (rIx K) (.lst (itsD cs)) (dI (n % (cs.length : Int))) (.tup [dI k.1, ckD k.2]) := od_ixSeqL i0 (by rw [itsD_map, List.getElem?_map, hk]; rfl)
  refine hm_then (hm_drop (evm_wallN p (ev_var rfl) w1.ob (by decide +kernel) (by decide +kernel) (eam_of (ea_cons (d := dI k.1) (ev_op (ev_op (ev_var rfl) (ev_op (x := dI n) (y := dI (cs.length : Int)) (ev_var rfl) (ev_eq (ev_cb (ea_cons (ev_var rfl) ea_nil) ca_lenUL) (by rw [li])) (od_I (by show (0 : Int) < (cs.length : Int); omega))) eX) ev_c (od_ixSeqT (by decide) rfl)) ea_nil) ⟨((⟨p, h, g0, cs⟩ : Wg), dI k.1), rfl, ⟨rfl, w1, _, rfl⟩, fun d m r => ?_, fun C fs m r => ?_⟩)))
  rotate_left
  · have lk : look cs (dI k.1) = none := r.1
    rw [look_int, hv] at lk
    cases lk
  obtain ⟨n', c', lk, rfl, rfl⟩ := r
  have lk : look cs (dI k.1) = some (n', c') := lk
  rw [look_int, hv] at lk
  cases lk
  dsimp only
  have w2 := setW_is (WL := A.WL) (m := m) (g := g0) (cs := dropC cs k.1) nph
  have gr2 := gr1.setW (WL := A.WL) (k := g0) (ds := dropC cs k.1) mp mh
  generalize setW A.WL _ p h g0 (dropC cs k.1) = m3 at w2 gr2 ⊢
  have hgd : Good g0 (dropC cs k.1) := hg.drop
  obtain ⟨F, hF, f1, f2, f3, f4⟩ := fold_sub (m := (dropC cs k.1).map (·.2)) hg.oks (fun c hc => by
    obtain ⟨y, hy, rfl⟩ := List.mem_map.mp hc
    exact List.mem_map_of_mem (List.mem_filter.mp hy).1) hf
  have F0 := f1.1
  refine hm_then (hm_asg (evm_wallN p (ev_var rfl) w2.ob (by decide +kernel) (by decide +kernel) (eam_nil ⟨(⟨p, h, g0, dropC cs k.1⟩ : Wg), rfl, ⟨rfl, w2, hgd, small60 hG⟩, fun d m r => ?_, fun C fs m r => ?_⟩)))
  rotate_left
  · obtain ⟨i, j, e, _⟩ := r
    exact nv hgd hF e
  obtain ⟨F', e, rfl, rfl⟩ := r
  cases hF.symm.trans e
  show HsM TT E _ [some (.raw (.ref a)), some (dI n), some (ckD G), some (.lst (itsD cs)), some (.raw (.ref p)), some (ckD F)] _ _ _ _ _ _
  have ix : ∀ {δ : Sto} {i : Nat} {c : Ck}, δ[i]? = some (some (ckD c)) → EvS (tOp (rIx K) (tVar i) (tC (.int 0))) δ (dI c.1) ∧ EvS (tOp (rIx K) (tVar i) (tC (.int 1))) δ (dI c.2) := fun h => ⟨ev_op (ev_var h) ev_c (od_ixSeqT (by decide) rfl), ev_op (ev_var h) ev_c (od_ixSeqT (by decide) rfl)⟩
  refine hm_ret (evm_andV (evm_of (ev_op (x := dI (G.1 % F.1)) (ev_op (ix rfl).1 (ix rfl).1 (od_I (by show 0 < F.1; omega))) ev_c od_eqUI) ⟨true, congrArg dB (decide_eq_true f2), (fun z => nomatch z), fun _ => evm_andV (evm_of (ev_op (x := dI (G.2 % F.1)) (ev_op (ix rfl).2 (ix rfl).1 (od_I (by show 0 < F.1; omega))) (ix rfl).2 od_eqUI) ⟨true, congrArg dB (decide_eq_true f3), (fun z => nomatch z), fun _ => evm_wallN p (ev_var rfl) w2.ob (by decide +kernel) (by decide +kernel) (eam_of (ea_cons (ix rfl).2 ea_nil) ⟨((⟨p, h, g0, dropC cs k.1⟩ : Wg), dI G.2), rfl, ⟨rfl, w2, hgd, _, rfl⟩, fun d m r => ?_, fun C fs m r => ?_⟩)⟩)⟩))
  · obtain ⟨v', z, rfl, rfl⟩ := r
    cases z
    exact ⟨congrArg dB (metC_iff.mpr f4), gr2⟩
  · obtain ⟨z, _⟩ := r
    cases z
theorem ok_law_is_told (F : L2.Fun K "_law_is_told" "_law_is_told" st_law_is_told f fd) (T : Txt K mg A) (C_is_right : Cl P w K mg base (L2.CX P w) 5 "is_right" (spRight A.CB A.CT)) (C_agree : Cl P w K mg base (L2.CX P w) 5 "agree" (spTwo A.CB agrD)) (C_Wall_clocks : ClM P w K mg base L2.CX0 1 A.WL "clocks" (spClocks A)) (C_Wall_clash : ClM P w K mg base (L2.CX P w) 6 A.WL "clash" (spClash A)) (C_law_folded : Cl P w K mg base L2.CX0 8 "_law_folded" (spLawFolded A)) : FnOk P w K mg base L2.CX0 9 f fd ["_law_shut"] (spIsTold A) := by
  refine Fun.okM0 F sc_law_is_told rfl fun cdv B0 outer s H Q E hr => ⟨_, (pss_cons (ps_set (i := 1) sc_law_is_told.nd rfl (Or.inl rfl) (pe_cl C_law_folded hr (by decide) pass0 rfl (pa_cons (pv 0) pa_nil)))
      (pss_cons (ps_set (i := 2) sc_law_is_told.nd rfl (Or.inl rfl) (pe_clm0 C_Wall_clash hr (by decide) passL (pv 0)))
      (pss_cons (ps_set (i := 3) sc_law_is_told.nd rfl (Or.inl rfl) (pe_callTy (call_dictP rfl) (by rfl) T.b_dict (by decide +kernel) (pa_cons (pe_clm0 C_Wall_clocks hr (by decide) pass0 (pv 0)) pa_nil)))
      (pss_cons (ps_if (pt_cmpR op_isNo (pv 1) pe_non (nomark _)) (pss_one (ps_ret (pe_and (pe_cmpR op_noNo (pv 2) pe_non (nomark _)) (pe_one (pe_not (pe_cl C_agree hr (by decide) passL rfl (pa_cons (pe_dget (hu_of hr) (pv 3) (pe_ix ix_seq (pv 2) pe_int (fun _ _ => rfl)) (fun _ _ => rfl)) (pa_cons (pe_dget (hu_of hr) (pv 3) (pe_ix ix_seq (pv 2) pe_int (fun _ _ => rfl)) (fun _ _ => rfl)) pa_nil)))))))) pss_nil)
      (pss_cons (ps_if (PW.pt (pw_or (pt_cmpR op_noNo (pv 2) pe_non (nomark _)) (pw_or1 (pt_not (pt_chain op_le op_lt pe_int (pe_ix ix_seq (pv 1) pe_int (fun _ _ => rfl)) (pe_ix ix_seq (pv 1) pe_int (fun _ _ => rfl))))))) (pss_one (ps_ret pe_bl)) pss_nil)
      (pss_cons (ps_lock (ps_for PassesOwn.never rfl (pi_values (pv 3)) (pg_name (i := 4) sc_law_is_told.nd rfl (Or.inl rfl)) (pss_one (ps_if (PW.pt (pw_or (pt_cmpR (op_neU hr.units) (pe_op op_mod (pe_ix ix_seq (pv 1) pe_int (fun _ _ => rfl)) (pe_ix ix_seq (pv 4) pe_int (fun _ _ => rfl))) pe_int (nomark _)) (pw_or (pt_not (pt_val (pe_cl C_is_right hr (by decide) passL rfl (pa_cons (pv 4) (pa_cons (pe_ix ix_seq (pv 1) pe_int (fun _ _ => rfl)) pa_nil))))) (pw_or1 (pt_not (pt_val (pe_cl C_is_right hr (by decide) passL rfl (pa_cons (pv 4) (pa_cons (pe_op op_addU (pe_ix ix_seq (pv 1) pe_int (fun _ _ => rfl)) (pe_ix ix_seq (pv 1) pe_int (fun _ _ => rfl))) pa_nil))))))))) (pss_one (ps_ret pe_bl)) pss_nil))))
      (pss_one (ps_ret pe_bl)))))))), fun TT x ds μ hl hp => ?_⟩
  obtain ⟨a, h, g, cs⟩ := x
  obtain ⟨rfl, hw, hg, hG⟩ := hp
  dsimp only at hw hg hG
  have hok : ∀ p ∈ cs, okCk p.2 := fun p hp => (hg.ok p hp).1
  have hle := hg.le
  refine hm_then (hm_asg (evm_callGN (eam_of (ea_cons (ev_var rfl) ea_nil) ⟨(⟨a, h, g, cs⟩ : Wg), rfl, ⟨rfl, hw, hg, small60 hG⟩, fun d m' r => ?_, fun C fs m' r => r⟩)))
  obtain ⟨rfl, r⟩ := r
  have r := optK_of r
  subst r
  refine hm_then (hm_asg (evm_wallN a (ev_var rfl) hw.ob (by decide +kernel) (by decide +kernel) (eam_nil ⟨(⟨a, h, g, cs⟩ : Wg), rfl, ⟨rfl, hw.r, hg⟩, fun d m r => ?_, fun C fs m r => r⟩)))
  obtain ⟨rfl, rfl⟩ := r
  refine hm_then (hm_asg (evm_dictP (evm_freeze (evm_wallN a (ev_var rfl) hw.ob (by decide +kernel) (by decide +kernel) (eam_nil ⟨(⟨a, h, g, cs⟩ : Wg), rfl, ⟨rfl, hw.r⟩, fun d m r => ?_, fun C fs m r => r⟩)))))
  obtain ⟨q, hq, rfl, rfl⟩ := r
  refine ⟨q, itsD cs, rfl, putM_same, dctD cs, .inl rfl, ?_, fun o ho => ?_⟩
  · rw [keys_dct]
    exact List.Pairwise.map _ (fun x y z w => z (Sum.inl.inj w)) hg.nodup
  rw [delM_put hq] at ho ⊢
  have up := Grow.put (o := .dct (dctD cs)) ho
  have hd : (putM m o (.dct (dctD cs))) o = some (.dct (dctD cs)) := putM_same
  show HsM TT E _ [some (.raw (.ref a)), some (optK (foldC cs)), some (cpairD (clashC cs)), some (.raw (.ref o)), none] _ _ _ _ _ _
  rcases clash_iff hok with ⟨hc, G, hf⟩ | ⟨⟨u, v⟩, hc, hf⟩
  · rw [hc, show foldC cs = some G from hf]
    show HsM TT E _ [some (.raw (.ref a)), some (ckD G), some dN, some (.raw (.ref o)), none] _ _ _ _ _ _
    obtain ⟨g1, g2, g3⟩ := fold_spec hg.oks hf
    have W1 := g1.1
    refine hm_then (hm_if (etm_of (b := false) (et_test (ev_op (ev_var rfl) ev_c od_isNo)) ⟨(fun z => nomatch z), fun _ => hm_next ?_⟩))
    have ixr : ∀ {δ : Sto}, δ[1]? = some (some (ckD G)) → EvS (tOp (rIx K) (tVar 1) (tC (.int 0))) δ (dI G.1) := fun h => ev_op (ev_var h) ev_c (od_ixSeqT (by decide) rfl)
    have ixf : ∀ {δ : Sto}, δ[1]? = some (some (ckD G)) → EvS (tOp (rIx K) (tVar 1) (tC (.int 1))) δ (dI G.2) := fun h => ev_op (ev_var h) ev_c (od_ixSeqT (by decide) rfl)
    refine hm_then (hm_if (etm_of (b := false) (et_or (a := false) (b := false) (et_test (ev_op (ev_var rfl) ev_c od_noNo)) fun _ => et_eq (et_not (et_test (ev_chain ev_c (ixf rfl) od_I0 (fun _ => ixr rfl) (fun _ => od_I0)))) (by rw [decide_eq_true g1.2.1, decide_eq_true g1.2.2]; rfl)) ⟨(fun z => nomatch z), fun _ => hm_next ?_⟩))
    refine hm_then (hm_lock hd fun od ks => ?_)
    have bk : putM (putM (putM m o (.dct (dctD cs))) o (.fzd od ks (dctD cs))) o (.dct (dctD cs)) = putM m o (.dct (dctD cs)) := by rw [putM_put, putM_self hd]
    have hf0 : (putM (putM m o (.dct (dctD cs))) o (.fzd od ks (dctD cs))) o = some (.fzd od ks (dctD cs)) := putM_same
    generalize putM (putM m o (.dct (dctD cs))) o (.fzd od ks (dctD cs)) = ν at *
    refine hm_vals (evm_of (ev_var rfl) ⟨o, od, ks, dctD cs, rfl, hf0, fun i δ m' => ∃ (x4 : Option Dt), m' = ν ∧ δ = [some (.raw (.ref a)), some (ckD G), some dN, some (.raw (.ref o)), x4], ⟨_, rfl, rfl⟩, fun i δ m' ⟨_, e, _⟩ => by rw [e]; exact hf0, fun i δ m' k x p hx => ?turn, fun δ m' p => ?done⟩)
    case done =>
      obtain ⟨x4, rfl, rfl⟩ := p
      refine ⟨hf0, ?_⟩
      rw [bk]
      exact hm_ret (evm_of ev_c ⟨rfl, up⟩)
    obtain ⟨x4, rfl, rfl⟩ := p
    obtain ⟨q, hq2, rfl, rfl⟩ : ∃ q, cs[i]? = some q ∧ k = .inl q.1 ∧ x = ckD q.2 := by
      unfold dctD at hx
      rw [List.getElem?_map] at hx
      cases z : cs[i]? with
      | none =>
        rw [z] at hx
        cases hx
      | some y =>
        rw [z] at hx
        cases hx
        exact ⟨y, rfl, rfl, rfl⟩
    have hk := hg.ok q (List.mem_of_getElem? hq2)
    have hk1 := hk.1.1
    have hm : q.2 ∈ cs.map (·.2) := List.mem_map_of_mem (List.mem_of_getElem? hq2)
    have d1 : G.1 % q.2.1 = 0 := Int.emod_eq_zero_of_dvd ((g2 G.1).mp (Int.dvd_refl _) _ hm)
    have t1 : G.2 % q.2.1 = q.2.2 := fold_first hg.oks hf _ hm
    have t2 : (G.2 + G.1) % q.2.1 = q.2.2 := by
      rw [Int.add_emod, d1, Int.add_zero, Int.emod_emod_of_dvd _ (Int.dvd_refl _), t1]
    refine ⟨_, gdm_name, ?_⟩
    refine hm_if (etm_of (b := false) (et_or (a := false) (b := false) (et_eq (et_test (ev_op (x := dI (G.1 % q.2.1)) (ev_op (ixr rfl) (ev_op (ev_var rfl) ev_c (od_ixSeqT (z := dI q.2.1) (by decide) rfl)) (od_I (by show 0 < q.2.1; omega))) ev_c od_neUI)) (by rw [d1]; rfl)) fun _ => et_or (a := false) (b := false) (et_eq (et_not (et_B (ev_callX (d := dB true) (ea_cons (ev_var rfl) (ea_cons (ixf rfl) ea_nil)) rfl ⟨_, _, rfl, okTh_clock _ _, _, rfl⟩ (by rw [right_ok (ck_good hk), t1, decide_eq_true rfl])))) rfl) fun _ => et_eq (et_not (et_B (ev_callX (d := dB true) (ea_cons (ev_var rfl) (ea_cons (ev_op (ixf rfl) (ixr rfl) od_addI) ea_nil)) rfl ⟨_, _, rfl, okTh_clock _ _, _, rfl⟩ (by rw [right_ok (ck_good hk), t2, decide_eq_true rfl])))) rfl) ⟨(fun z => nomatch z), fun _ => hm_next ⟨_, rfl, rfl⟩⟩)
  · rw [hc, show foldC cs = none from hf]
    show HsM TT E _ [some (.raw (.ref a)), some dN, some (.tup [dI u, dI v]), some (.raw (.ref o)), none] _ _ _ _ _ _
    obtain ⟨c, d, mc, md, nag⟩ := clashC_some hc
    have vc : valC cs u = some c := val_mem (p := (u, c)) hg.nodup mc
    have vd : valC cs v = some d := val_mem (p := (v, d)) hg.nodup md
    have kc := ck_good (hg.ok _ mc)
    have kd := ck_good (hg.ok _ md)
    refine hm_then (hm_if (etm_of (b := true) (et_test (ev_op (ev_var rfl) ev_c od_isNo)) ⟨fun _ => ?_, (fun z => nomatch z)⟩))
    refine hm_ret (evm_andV (evm_of (ev_op (ev_var rfl) ev_c od_noNo) ⟨true, rfl, (fun z => nomatch z), fun _ => evm_look (d := dB true) false (.on (.on (.on (.cons (.dct ⟨_, hd⟩ hd (.refl _)) (VwS.same _))))) (ev_notV (a := false) (ev_callX (ea_cons (ev_dget (key := .inl u) (d := ckD c) (ev_var rfl) (ev_op (ev_var rfl) ev_c (od_ixSeqT (z := dI u) (by decide) rfl)) (by rw [valD_dct, vc]; rfl)) (ea_cons (ev_dget (key := .inl v) (d := ckD d) (ev_var rfl) (ev_op (ev_var rfl) ev_c (od_ixSeqT (z := dI v) (by decide) rfl)) (by rw [valD_dct, vd]; rfl)) ea_nil)) rfl ⟨_, _, rfl, okTh_clock _ _, okTh_clock _ _⟩ (by rw [agree_ok kc kd, nag]))) rfl ⟨rfl, up⟩⟩))
theorem ok_law_between (F : L2.Fun K "_law_between" "_law_between" st_law_between f fd) (T : Txt K mg A) (C_Wall_fold : ClM P w K mg base (L2.CX P w) 7 A.WL "fold" (spFold A)) (C_Wall_is_met : ClM P w K mg base (L2.CX P w) 6 A.WL "is_met" (spIsMet A)) (C_Wall_next_turn : ClM P w K mg base (L2.CX P w) 8 A.WL "next_turn" (spNear A nextF)) (C_Wall_last_turn : ClM P w K mg base (L2.CX P w) 8 A.WL "last_turn" (spNear A lastF)) : FnOk P w K mg base L2.CX0 9 f fd ["_law_shut", "_law_turn_here"] (spBetween A) := by
  refine Fun.okM0 F sc_law_between rfl fun cdv B0 outer s H Q E hr => ⟨_, (pss_cons (ps_asg (pe_clm0 C_Wall_fold hr (by decide) passL (pv 0)) (pg_tup (by rfl) (pgs_cons (pg_name (i := 2) sc_law_between.nd rfl (Or.inl rfl)) (pgs_cons (pg_name (i := 3) sc_law_between.nd rfl (Or.inl rfl)) pgs_nil))))
      (pss_cons (ps_par (by rfl) sc_law_between.nd (i := 4) (j := 5) rfl rfl (by decide) rfl rfl (pa_cons (pe_clm C_Wall_next_turn hr (by decide) passL (pv 0) (pa_cons (pv 1) pa_nil)) (pa_cons (pe_clm C_Wall_last_turn hr (by decide) passL (pv 0) (pa_cons (pv 1) pa_nil)) pa_nil)) (by rfl))
      (pss_cons (ps_if (PW.pt (pw_or (pt_not (pt_chain op_le op_le (pv 5) (pv 1) (pv 4))) (pw_or (pt_not (pt_val (pe_clm C_Wall_is_met hr (by decide) passL (pv 0) (pa_cons (pv 4) pa_nil)))) (pw_or1 (pt_not (pt_val (pe_clm C_Wall_is_met hr (by decide) passL (pv 0) (pa_cons (pv 5) pa_nil)))))))) (pss_one (ps_ret pe_bl)) pss_nil)
      (pss_cons (ps_if (pt_val (pe_clm C_Wall_is_met hr (by decide) passL (pv 0) (pa_cons (pv 1) pa_nil))) (pss_one (ps_ret (pe_and (pe_cmpR (op_eqU hr.units) (pv 5) (pv 1) (nomark _)) (pe_one (pe_cmpR (op_eqU hr.units) (pv 1) (pv 4) (nomark _)))))) pss_nil)
      (pss_one (ps_ret (pe_cmpR (op_eqU hr.units) (pe_op op_sub (pv 4) (pv 5)) (pv 2) (nomark _)))))))), fun TT x ds μ hl hp => ?_⟩
  obtain ⟨⟨a, h, g, cs⟩, t, G⟩ := x
  obtain ⟨rfl, ⟨hw, hg, hG⟩, hf⟩ := hp
  dsimp only at hw hg hG hf
  have hok : ∀ p ∈ cs, okCk p.2 := fun p hp => (hg.ok p hp).1
  have nv : ∀ {i j : Int}, clashC cs = some (i, j) → False := fun e => by
    have := no_fold_of_clash hok e
    rw [show foldAll (1, 0) (cs.map (·.2)) = some G from hf] at this
    cases this
  obtain ⟨g1, _, _⟩ := fold_spec hg.oks hf
  have mf := metC_fold hg hf
  refine hm_then (hm_put (evm_wallN a (ev_var rfl) hw.ob (by decide +kernel) (by decide +kernel) (eam_nil ⟨(⟨a, h, g, cs⟩ : Wg), rfl, ⟨rfl, hw, hg, small60 hG⟩, fun d m r => ?_, fun C fs m r => ?_⟩)))
  rotate_left
  · obtain ⟨i, j, e, _⟩ := r
    exact nv e
  obtain ⟨G', e, rfl, rfl⟩ := r
  cases hf.symm.trans e
  refine ⟨_, gdm_two, ?_⟩
  have near : ∀ {f : Ck → Int → Int} {nm : Str} {δ : Sto} {N : Dt → Mu → Prop}, (nm == "hung") = false → (nm == "given") = false → δ[0]? = some (some (.raw (.ref a))) → δ[1]? = some (some (dI t)) → N (dI (f G t)) m → EvM TT E (tMeth A.WL nm (spNear A f) [] E0 (tVar 0) (tCons (tVar 1) tNil)) δ m N noW := fun {f nm δ N} n1 n2 h0 h1 n => evm_wallN a (ev_var h0) hw.ob n1 n2 (eam_of (ea_cons (ev_var h1) ea_nil) ⟨((⟨a, h, g, cs⟩ : Wg), dI t), rfl, ⟨rfl, hw, hg, small60 hG, _, rfl⟩, fun d m' r => by
    obtain ⟨t', G', z, e, rfl, rfl⟩ := r
    cases z
    cases hf.symm.trans e
    exact n, fun C fs m' r => by
    rcases r with ⟨z, _⟩ | ⟨i, j, _, e, _⟩
    · cases z
    · exact nv e⟩)
  have met : ∀ {δ : Sto} {N : Dt → Mu → Prop} {i : Nat} {v : Int}, δ[0]? = some (some (.raw (.ref a))) → δ[i]? = some (some (dI v)) → N (dB (decide (v % G.1 = G.2))) m → EvM TT E (tMeth A.WL "is_met" (spIsMet A) [] E0 (tVar 0) (tCons (tVar i) tNil)) δ m N noW := fun {δ N i v} h0 h1 n => evm_wallN a (ev_var h0) hw.ob (by decide +kernel) (by decide +kernel) (eam_of (ea_cons (ev_var h1) ea_nil) ⟨((⟨a, h, g, cs⟩ : Wg), dI v), rfl, ⟨rfl, hw, hg, _, rfl⟩, fun d m' r => by
    obtain ⟨v', z, rfl, rfl⟩ := r
    cases z
    rw [mf]
    exact n, fun C fs m' r => by
    obtain ⟨z, _⟩ := r
    cases z⟩)
  obtain ⟨u0, u1, u2⟩ := nextF_in g1 t
  obtain ⟨l0, l1, l2⟩ := lastF_in g1 t
  show HsM TT E _ [some (.raw (.ref a)), some (dI t), some (dI G.1), some (dI G.2), none, none] _ _ _ _ _ _
  refine hm_then (hm_par (eam_cons (near (by decide +kernel) (by decide +kernel) rfl rfl (eam_cons (near (by decide +kernel) (by decide +kernel) rfl rfl (eam_nil ⟨_, _, rfl, ?_⟩)) fun d m r => r)) fun d m r => r))
  show HsM TT E _ [some (.raw (.ref a)), some (dI t), some (dI G.1), some (dI G.2), some (dI (nextF G t)), some (dI (lastF G t))] _ _ _ _ _ _
  refine hm_then (hm_if (etm_or (etm_of (b := false) (et_eq (et_not (et_test (ev_chain (ev_var rfl) (ev_var rfl) od_I0 (fun _ => ev_var rfl) (fun _ => od_I0)))) (by rw [decide_eq_true (show lastF G t ≤ t by omega), decide_eq_true (show t ≤ nextF G t by omega)]; rfl)) ⟨(fun z => nomatch z), fun _ => etm_or (etm_not (etm_B (met rfl rfl ⟨true, congrArg dB (decide_eq_true u2), (fun z => nomatch z), fun _ => etm_not (etm_B (met rfl rfl ⟨true, congrArg dB (decide_eq_true l2), (fun z => nomatch z), fun _ => hm_next ?_⟩))⟩)))⟩)))
  refine hm_then (hm_if (etm_B (met rfl rfl ⟨_, rfl, fun z => ?_, fun z => hm_next ?_⟩)))
  · obtain ⟨e1, e2⟩ := near_same g1 (of_decide_eq_true z)
    refine hm_ret (evm_of (d := dB true) (ev_eq (ev_andV (ev_op (ev_var rfl) (ev_var rfl) od_eqUI) fun _ => ev_op (ev_var rfl) (ev_var rfl) od_eqUI) (congrArg dB ?_)) ⟨rfl, rfl⟩)
    rw [decide_eq_true e2, decide_eq_true e1.symm]
    rfl
  · have e := near_apart g1 (of_decide_eq_false z)
    exact hm_ret (evm_of (d := dB true) (ev_eq (ev_op (ev_op (ev_var rfl) (ev_var rfl) od_I0) (ev_var rfl) od_eqUI) (congrArg dB (decide_eq_true e))) ⟨rfl, rfl⟩)
theorem ok_law_laid_good (F : L2.Fun K "_law_laid_good" "_law_laid_good" st_law_laid_good f fd) (T : Txt K mg A) (C_Wall_lay : ClM P w K mg base (L2.CX P w) 5 A.WL "lay" (spLay A)) (C_Wall_copied : ClM P w K mg base L2.CX0 4 A.WL "copied" (spCopied A)) (C_law_common : Cl P w K mg base L2.CX0 1 "_law_common" spCommon) (C_law_folded : Cl P w K mg base L2.CX0 8 "_law_folded" (spLawFolded A)) : FnOk P w K mg base L2.CX0 9 f fd ["_law_one", "_law_other"] (spLaidGood A) := by
  refine Fun.okM0 F sc_law_laid_good rfl fun cdv B0 outer s H Q E hr => ⟨_, (pss_cons (ps_set (i := 2) sc_law_laid_good.nd rfl (Or.inl rfl) (pe_clm0 C_Wall_copied hr (by decide) pass0 (pv 0)))
      (pss_cons (ps_expr (pe_clm C_Wall_lay hr (by decide) passL (pv 2) (pa_cons (pv 1) pa_nil)))
      (pss_cons (ps_set (i := 3) sc_law_laid_good.nd rfl (Or.inl rfl) (pe_tup (pa_cons (pe_cl C_law_folded hr (by decide) pass0 rfl (pa_cons (pv 0) pa_nil)) (pa_cons (pe_cl C_law_folded hr (by decide) pass0 rfl (pa_cons (pv 1) pa_nil)) (pa_cons (pe_cl C_law_folded hr (by decide) pass0 rfl (pa_cons (pv 2) pa_nil)) pa_nil)))))
      (pss_cons (ps_if (PW.pt (pw_or (pt_cmpR op_isNo (pe_ix ix_seq (pv 3) pe_int (fun _ _ => rfl)) pe_non (nomark _)) (pw_or1 (pt_cmpR op_isNo (pe_ix ix_seq (pv 3) pe_int (fun _ _ => rfl)) pe_non (nomark _))))) (pss_one (ps_ret (pe_cmpR op_isNo (pe_ix ix_seq (pv 3) pe_int (fun _ _ => rfl)) pe_non (nomark _)))) pss_nil)
      (pss_cons (ps_set (i := 4) sc_law_laid_good.nd rfl (Or.inl rfl) (pe_cl C_law_common hr (by decide) pass0 rfl (pa_cons (pe_ix ix_seq (pe_ix ix_seq (pv 3) pe_int (fun _ _ => rfl)) pe_int (fun _ _ => rfl)) (pa_cons (pe_ix ix_seq (pe_ix ix_seq (pv 3) pe_int (fun _ _ => rfl)) pe_int (fun _ _ => rfl)) pa_nil))))
      (pss_cons (ps_if (pt_cmpR op_isNo (pe_ix ix_seq (pv 3) pe_int (fun _ _ => rfl)) pe_non (nomark _)) (pss_one (ps_ret (pe_cmpR (op_neU hr.units) (pe_op op_mod (pe_op op_sub (pe_ix ix_seq (pe_ix ix_seq (pv 3) pe_int (fun _ _ => rfl)) pe_int (fun _ _ => rfl)) (pe_ix ix_seq (pe_ix ix_seq (pv 3) pe_int (fun _ _ => rfl)) pe_int (fun _ _ => rfl))) (pv 4)) pe_int (nomark _)))) pss_nil)
      (pss_cons (ps_if (pt_cmpR (op_neU hr.units) (pe_ix ix_seq (pe_ix ix_seq (pv 3) pe_int (fun _ _ => rfl)) pe_int (fun _ _ => rfl)) (pe_op op_mulU (pe_op op_fdivW (pe_ix ix_seq (pe_ix ix_seq (pv 3) pe_int (fun _ _ => rfl)) pe_int (fun _ _ => rfl)) (pv 4)) (pe_ix ix_seq (pe_ix ix_seq (pv 3) pe_int (fun _ _ => rfl)) pe_int (fun _ _ => rfl))) (nomark _)) (pss_one (ps_ret pe_bl)) pss_nil)
      (pss_one (ps_ret (pe_and (pe_cmpR (op_eqU hr.units) (pe_op op_mod (pe_ix ix_seq (pe_ix ix_seq (pv 3) pe_int (fun _ _ => rfl)) pe_int (fun _ _ => rfl)) (pe_ix ix_seq (pe_ix ix_seq (pv 3) pe_int (fun _ _ => rfl)) pe_int (fun _ _ => rfl))) (pe_ix ix_seq (pe_ix ix_seq (pv 3) pe_int (fun _ _ => rfl)) pe_int (fun _ _ => rfl)) (nomark _)) (pe_one (pe_cmpR (op_eqU hr.units) (pe_op op_mod (pe_ix ix_seq (pe_ix ix_seq (pv 3) pe_int (fun _ _ => rfl)) pe_int (fun _ _ => rfl)) (pe_ix ix_seq (pe_ix ix_seq (pv 3) pe_int (fun _ _ => rfl)) pe_int (fun _ _ => rfl))) (pe_ix ix_seq (pe_ix ix_seq (pv 3) pe_int (fun _ _ => rfl)) pe_int (fun _ _ => rfl)) (nomark _))))))))))))), fun TT x ds μ hl hp => ?_⟩
  obtain ⟨⟨a, h1, g1, cs⟩, ⟨b, h2, g2, ds⟩⟩ := x
  obtain ⟨rfl, ⟨hw, hg, hG⟩, ⟨kw, kg, kG⟩, l1, l2⟩ := hp
  dsimp only at hw hg hG kw kg kG l1 l2
  have n1 := hg.len
  have n2 := kg.len
  refine hm_then (hm_asg (evm_wallN a (ev_var rfl) hw.ob (by decide +kernel) (by decide +kernel) (eam_nil ⟨(⟨a, h1, g1, cs⟩ : Wg), rfl, ⟨rfl, hw.r, hg.nodup⟩, fun d m r => ?_, fun C fs m r => r⟩)))
  obtain ⟨p, h, rfl, nph, mp, mh, w1, gr1⟩ := r
  dsimp only at w1
  have off1 := new_off hw mp mh
  have off2 := new_off kw mp mh
  have hw := hw.grow gr1
  have kw := kw.grow gr1
  refine hm_then (hm_drop (evm_wallN p (ev_var rfl) w1.ob (by decide +kernel) (by decide +kernel) (eam_of (ea_cons (ev_var rfl) ea_nil) ⟨((⟨p, h, g1, cs⟩, .wall ⟨b, h2, g2, ds⟩) : Wg × Laid), rfl, ⟨rfl, w1, hg, kw, kg⟩, fun d m r => ?_, fun C fs m r => ?_⟩)))
  rotate_left
  · rcases r with ⟨⟨_, z⟩, _⟩ | ⟨w, z, k, _⟩
    · cases z
    · cases z
      have k : 60 < cs.length + ds.length := k
      omega
  obtain ⟨w, z, _, rfl, rfl⟩ := r
  cases z
  dsimp only
  have hgl : Good (g1 + (ds.length : Int)) (layC g1 cs (ds.map (·.2))) := by
    have := layC_good (ds.map (·.2)) g1 cs hg (by rw [List.length_map]; omega) fun c hc => by
      obtain ⟨y, hy, rfl⟩ := List.mem_map.mp hc
      exact kg.ok y hy
    rw [List.length_map] at this
    exact this
  have snd := layC_snd (ds.map (·.2)) g1 cs
  have w2 := setW_is (WL := A.WL) (m := m) (g := g1 + (ds.length : Int)) (cs := layC g1 cs (ds.map (·.2))) nph
  have gr2 := gr1.setW (WL := A.WL) (k := g1 + (ds.length : Int)) (ds := layC g1 cs (ds.map (·.2))) mp mh
  have hw := hw.off (k := g1 + (ds.length : Int)) (ds := layC g1 cs (ds.map (·.2))) off1
  have kw := kw.off (k := g1 + (ds.length : Int)) (ds := layC g1 cs (ds.map (·.2))) off2
  generalize setW A.WL m p h (g1 + (ds.length : Int)) (layC g1 cs (ds.map (·.2))) = m3 at w2 gr2 hw kw ⊢
  have fd : ∀ {δ : Sto} {i : Nat} {w : Wg} {N : Dt → Mu → Prop}, δ[i]? = some (some (.raw (.ref w.a))) → IsW A.WL m3 w.a w.h w.g w.cs → Good w.g w.cs → w.g < 10 ^ 10 → N (optK (foldC w.cs)) m3 → EvM TT E (tCall (spLawFolded A) [] E0 (tCons (tVar i) tNil)) δ m3 N noW := fun {δ i w N} hi hw hg hG n => evm_callGN (eam_of (ea_cons (ev_var hi) ea_nil) ⟨w, rfl, ⟨rfl, hw, hg, hG⟩, fun d m' r => by
    obtain ⟨rfl, r⟩ := r
    rw [optK_of r]
    exact n, fun C fs m' r => r⟩)
  refine hm_then (hm_asg (evm_tup (eam_cons (fd (w := ⟨a, h1, g1, cs⟩) rfl hw hg (small60 hG) (eam_cons (fd (w := ⟨b, h2, g2, ds⟩) rfl kw kg (small60 kG) (eam_cons (fd (w := ⟨p, h, g1 + (ds.length : Int), layC g1 cs (ds.map (·.2))⟩) rfl w2 hgl (small60 (by show g1 + (ds.length : Int) ≤ 60; omega)) (eam_nil ⟨by show 3 ≤ 100000; decide, ?_⟩)) fun d m r => r)) fun d m r => r)) fun d m r => r)))
  have e3 : foldC (layC g1 cs (ds.map (·.2))) = foldAll (1, 0) (cs.map (·.2) ++ ds.map (·.2)) := by
    show foldAll (1, 0) ((layC g1 cs (ds.map (·.2))).map (·.2)) = _
    rw [snd]
  have lack := fold_lack hg.oks kg.oks
  have apart := @fold_apart _ _ hg.oks kg.oks
  have both := @fold_both _ _ hg.oks kg.oks
  have sm1 := @Good.small _ _ hg
  have sm2 := @Good.small _ _ kg
  have ok1 := @fold_spec _ hg.oks
  have ok2 := @fold_spec _ kg.oks
  dsimp only
  rw [e3]
  show HsM TT E _ [some (.raw (.ref a)), some (.raw (.ref b)), some (.raw (.ref p)), some (.tup [optK (foldAll (1, 0) (cs.map (·.2))), optK (foldAll (1, 0) (ds.map (·.2))), optK (foldAll (1, 0) (cs.map (·.2) ++ ds.map (·.2)))]), none] _ _ _ _ _ _
  generalize foldAll (1, 0) (cs.map (·.2)) = F at *
  generalize foldAll (1, 0) (ds.map (·.2)) = D at *
  generalize foldAll (1, 0) (cs.map (·.2) ++ ds.map (·.2)) = C at *
  have it : ∀ {δ : Sto} (i : Nat) (x : Dt), δ[3]? = some (some (.tup [optK F, optK D, optK C])) → ([optK F, optK D, optK C] : List Dt)[i]? = some x → EvS (tOp (rIx K) (tVar 3) (tC (.int (i : Int)))) δ x := fun i x h e => ev_op (ev_var h) ev_c (od_ixSeqT (by omega) e)
  refine hm_then (hm_if (etm_of (b := F.isNone || D.isNone) (et_or (et_eq (et_test (ev_op (it 0 _ rfl rfl) ev_c od_isNo)) (optK_none F)) fun _ => et_eq (et_test (ev_op (it 1 _ rfl rfl) ev_c od_isNo)) (optK_none D)) ⟨fun z => ?_, fun z => hm_next ?_⟩))
  · have e : C = none := lack (by
      rcases Bool.or_eq_true_iff.mp z with z | z
      · exact .inl (Option.isNone_iff_eq_none.mp z)
      · exact .inr (Option.isNone_iff_eq_none.mp z))
    exact hm_ret (evm_of (d := dB true) (ev_eq (ev_op (it 2 _ rfl rfl) ev_c od_isNo) (by rw [optK_none, e]; rfl)) ⟨rfl, gr2⟩)
  obtain ⟨z1, z2⟩ := Bool.or_eq_false_iff.mp z
  obtain ⟨F, rfl⟩ : ∃ G, F = some G := by cases F with | none => cases z1 | some G => exact ⟨G, rfl⟩
  obtain ⟨D, rfl⟩ : ∃ G, D = some G := by cases D with | none => cases z2 | some G => exact ⟨G, rfl⟩
  have F1 := (ok1 rfl).1.1
  have D1 := (ok2 rfl).1.1
  have F8 := sm1 rfl
  have D8 := sm2 rfl
  have apart := apart rfl rfl
  have both := @both F D
  clear lack ok1 ok2 sm1 sm2 z z1 z2
  have gp := gcd_pos (W := F.1) (h := D.1) F1
  have gle : (Int.gcd F.1 D.1 : Int) ≤ F.1 := Int.le_of_dvd (by omega) (Int.gcd_dvd_left ..)
  have g8 : (Int.gcd F.1 D.1 : Int).natAbs < 2 ^ 8000 := Nat.lt_of_le_of_lt (by omega) F8
  have q8 : (F.1 / (Int.gcd F.1 D.1 : Int)).natAbs < 2 ^ 8000 := by
    have h1 := Int.ediv_le_self (Int.gcd F.1 D.1 : Int) (show 0 ≤ F.1 by omega)
    have h2 : 0 ≤ F.1 / (Int.gcd F.1 D.1 : Int) := Int.ediv_nonneg (by omega) (by omega)
    exact Nat.lt_of_le_of_lt (by omega) F8
  have ix : ∀ {δ : Sto} (i : Nat) (c : Ck), δ[3]? = some (some (.tup [ckD F, ckD D, optK C])) → ([ckD F, ckD D, optK C] : List Dt)[i]? = some (ckD c) → EvS (tOp (rIx K) (tOp (rIx K) (tVar 3) (tC (.int (i : Int)))) (tC (.int 0))) δ (dI c.1) ∧ EvS (tOp (rIx K) (tOp (rIx K) (tVar 3) (tC (.int (i : Int)))) (tC (.int 1))) δ (dI c.2) := fun i c h e => ⟨ev_op (ev_op (ev_var h) ev_c (od_ixSeqT (by omega) e)) ev_c (od_ixSeqT (by decide) rfl), ev_op (ev_op (ev_var h) ev_c (od_ixSeqT (by omega) e)) ev_c (od_ixSeqT (by decide) rfl)⟩
  show HsM TT E _ [some (.raw (.ref a)), some (.raw (.ref b)), some (.raw (.ref p)), some (.tup [ckD F, ckD D, optK C]), none] _ _ _ _ _ _
  refine hm_then (hm_asg (evm_of (ev_call (z := dI (Int.gcd F.1 D.1 : Int)) (ea_cons (ix 0 F rfl rfl).1 (ea_cons (ix 1 D rfl rfl).1 ea_nil)) (spD_of (f := ii fun a b => (Int.gcd a b : Int)) rfl ⟨F.1, D.1, rfl, by omega, by omega⟩)) ?_))
  cases C with
  | none =>
    refine hm_then (hm_if (etm_of (b := true) (et_test (ev_op (ev_op (ev_var rfl) ev_c (od_ixSeqT (z := dN) (by decide) rfl)) ev_c od_isNo)) ⟨fun _ => ?_, (fun z => nomatch z)⟩))
    refine hm_ret (evm_of (d := dB true) (ev_eq (ev_op (x := dI ((F.2 - D.2) % (Int.gcd F.1 D.1 : Int))) (ev_op (x := dI (F.2 - D.2)) (ev_op (ix 0 F rfl rfl).2 (ix 1 D rfl rfl).2 od_I0) (ev_var rfl) (od_I (by show 0 < (Int.gcd F.1 D.1 : Int); omega))) ev_c od_neUI) (congrArg dB ?_)) ⟨rfl, gr2⟩)
    rw [decide_eq_false (apart rfl)]
    rfl
  | some C =>
    obtain ⟨b1, b2, b3⟩ := both rfl rfl rfl
    show HsM TT E _ [some (.raw (.ref a)), some (.raw (.ref b)), some (.raw (.ref p)), some (.tup [ckD F, ckD D, ckD C]), some (dI (Int.gcd F.1 D.1 : Int))] _ _ _ _ _ _
    refine hm_then (hm_if (etm_of (b := false) (et_test (ev_op (ev_op (ev_var rfl) ev_c (od_ixSeqT (z := ckD C) (by decide) rfl)) ev_c od_isNo)) ⟨(fun z => nomatch z), fun _ => hm_next ?_⟩))
    refine hm_then (hm_if (etm_of (b := false) (et_eq (et_test (ev_op (x := dI C.1) (y := dI (F.1 / (Int.gcd F.1 D.1 : Int) * D.1)) (ix 2 C rfl rfl).1 (ev_op (x := dI (F.1 / (Int.gcd F.1 D.1 : Int))) (y := dI D.1) (ev_op (x := dI F.1) (ix 0 F rfl rfl).1 (ev_var rfl) (od_I (cdB (by omega) g8))) (ix 1 D rfl rfl).1 (od_mulI (cmB q8 D8))) od_neUI)) (by rw [decide_eq_true b1]; rfl)) ⟨(fun z => nomatch z), fun _ => hm_next ?_⟩))
    refine hm_ret (evm_of (d := dB true) (ev_eq (ev_andV (ev_op (x := dI (C.2 % F.1)) (ev_op (ix 2 C rfl rfl).2 (ix 0 F rfl rfl).1 (od_I (by show 0 < F.1; omega))) (ix 0 F rfl rfl).2 od_eqUI) fun _ => ev_op (x := dI (C.2 % D.1)) (ev_op (ix 2 C rfl rfl).2 (ix 1 D rfl rfl).1 (od_I (by show 0 < D.1; omega))) (ix 1 D rfl rfl).2 od_eqUI) (congrArg dB ?_)) ⟨rfl, gr2⟩)
    rw [decide_eq_true b2, decide_eq_true b3]
    rfl
end
end Dn
namespace Dn
open PySem PySem.Spec PyProof.Rows L2 LamX
local macro_rules | `(tactic| walk_at "sd") => `(tactic| first | assumption | decide +kernel | (show (0 : Int) < _; first | assumption | omega) | exact cm64 (by omega) (by omega) | exact ⟨by omega, by decide +kernel⟩ | omega)
local macro_rules | `(tactic| walk_at "od") => `(tactic| first | exact od_addI | exact od_I0 | exact od_I (by walk_at "sd") | exact od_mulI (by walk_at "sd") | exact od_eqUI | exact od_neUI | exact od_isT | exact od_noT | exact od_isNo | exact od_noNo | exact od_isB | exact od_notB | exact od_eqUB | exact od_addL (by decide) | exact od_addT (by simp) (by simp) (by simp) | exact od_ixSeqT (by decide) rfl)
local macro_rules | `(tactic| walk_at "ca") => `(tactic| first | exact ca_listT | exact ca_lenUT | exact ca_lenUL | exact ca_type rfl)
local macro_rules | `(tactic| walk_at "ea") => `(tactic| first | ((with_reducible show EaS tNil _ _); exact ea_nil) | exact ea_cons (by walk_at "ev") (by walk_at "ea"))
local macro_rules | `(tactic| walk_at "ev") => `(tactic| first | ((with_reducible show EvS (tC _) _ _); exact ev_c) | ((with_reducible show EvS (tVar _) _ _); exact ev_var rfl) | ((with_reducible show EvS (tOp _ _ _) _ _); exact ev_op (by walk_at "ev") (by walk_at "ev") (by walk_at "od")) | ((with_reducible show EvS (tUn _ _) _ _); exact ev_un (by walk_at "ev") ud_U) | ((with_reducible show EvS (tTup _) _ _); exact ev_tup (by walk_at "ea") (by simp)) | ((with_reducible show EvS (tLst _) _ _); exact ev_lst (by walk_at "ea") (by simp)) | ((with_reducible show EvS tDNewK _ _); exact ev_dnewK) | ((with_reducible show EvS (tCB _ _) _ _); exact ev_cb (by walk_at "ea") (by walk_at "ca")))
section
variable {P : Program} {w : World} {K : PySem.W.Frag} {mg : Str → Option Value} {base : Heap} {f : Addr} {A : Ads} {fd : FuncData}
theorem ok_law (F : L2.Fun K "law" "law" st_law f fd) (T : Txt K mg A) (C_Wall_clocks : ClM P w K mg base L2.CX0 1 A.WL "clocks" (spClocks A)) (C_law_mixed : Cl P w K mg base L2.CX0 1 "_law_mixed" spMixed) (C_law_turn : Cl P w K mg base L2.CX0 3 "_law_turn" spTurn) (C_law_hung : Cl P w K mg base L2.CX0 6 "_law_hung" (spHung A)) (C_law_folded : Cl P w K mg base L2.CX0 8 "_law_folded" (spLawFolded A)) (C_law_is_told : Cl P w K mg base L2.CX0 9 "_law_is_told" (spIsTold A)) (C_law_between : Cl P w K mg base L2.CX0 9 "_law_between" (spBetween A)) (C_law_turned : Cl P w K mg base L2.CX0 5 "_law_turned" (spTurned A)) (C_law_less_good : Cl P w K mg base L2.CX0 8 "_law_less_good" (spLess A)) (C_law_laid_good : Cl P w K mg base L2.CX0 9 "_law_laid_good" (spLaidGood A)) : FnOk P w K mg base L2.CX0 10 f fd ["_law_script"] (spLawS K []) := by
  refine Fun.okLaw (T := []) F sc_law fun cdv B0 outer s H Q E hr => ⟨_, (pss_cons (ps_set (i := 1) sc_law.nd rfl (Or.inl rfl) (pe_cl C_law_turn hr (by decide) pass0 rfl (pa_cons (pe_callB (cr_sum rfl) (by rfl) T.b_sum (by decide +kernel) (pa_cons (pe_lc (own := [("_law_cell", 7)]) (g := gName 7) (by rfl) sc_law.nd (pi_list (pe_slice sl_U (pv 0) po_none (po_some pe_int))) (blkOk_by (N := ["_law_script", "_law_turn_here", "_law_one", "_law_other", "_law_shut", "_law_again", "_law_k", "_law_cell"]) (sc := defScope st_law) (by decide +kernel)) (fun _ _ _ _ _ => by exact (pg_name (i := 7) sc_law.nd rfl (Or.inl rfl))) (fun _ _ _ _ _ => by exact pts_nil) (fun _ _ _ _ _ => by exact (pe_cl C_law_mixed hr (by decide) pass0 rfl (pa_cons (pv 7) (pa_cons pe_int pa_nil))))) pa_nil)) (pa_cons pe_int pa_nil))))
      (pss_cons (ps_set (i := 2) sc_law.nd rfl (Or.inl rfl) (pe_cl C_law_hung hr (by decide) pass0 rfl (pa_cons (pe_slice3 (pv 0) (po_some pe_int) (po_some pe_int) (po_some pe_int)) (pa_cons pe_int (pa_cons (pv 1) pa_nil)))))
      (pss_cons (ps_set (i := 3) sc_law.nd rfl (Or.inl rfl) (pe_cl C_law_hung hr (by decide) pass0 rfl (pa_cons (pe_slice3 (pv 0) (po_some pe_int) (po_some pe_int) (po_some pe_int)) (pa_cons pe_int (pa_cons (pv 1) pa_nil)))))
      (pss_cons (ps_if (PW.pt (pw_or (pt_cmpR op_isNo (pv 2) pe_non (nomark _)) (pw_or1 (pt_cmpR op_isNo (pv 3) pe_non (nomark _))))) (pss_one (ps_ret pe_bl)) pss_nil)
      (pss_cons (ps_for PassesOwn.never rfl (pi_tup (pe_tup (pa_cons (pv 2) (pa_cons (pv 3) pa_nil)))) (pg_name (i := 4) sc_law.nd rfl (Or.inl rfl)) (pss_cons (ps_if (PW.pt (pw_or (pt_not (pt_val (pe_cl C_law_is_told hr (by decide) pass0 rfl (pa_cons (pv 4) pa_nil)))) (pw_or1 (pt_not (pt_val (pe_cl C_law_laid_good hr (by decide) pass0 rfl (pa_cons (pv 4) (pa_cons (pv 2) pa_nil)))))))) (pss_one (ps_ret pe_bl)) pss_nil)
      (pss_cons (ps_set (i := 5) sc_law.nd rfl (Or.inl rfl) (pe_cl C_law_turned hr (by decide) pass0 rfl (pa_cons (pv 4) (pa_cons (pe_cl C_law_mixed hr (by decide) pass0 rfl (pa_cons (pv 1) (pa_cons pe_int pa_nil))) pa_nil))))
      (pss_cons (ps_if (PW.pt (pw_or (pt_not (pt_val (pe_cl C_law_is_told hr (by decide) pass0 rfl (pa_cons (pv 5) pa_nil)))) (pw_or1 (pt_cmpR (op_neU hr.units) (pe_cl C_law_folded hr (by decide) pass0 rfl (pa_cons (pv 5) pa_nil)) (pe_cl C_law_folded hr (by decide) pass0 rfl (pa_cons (pv 4) pa_nil)) (nomark _))))) (pss_one (ps_ret pe_bl)) pss_nil)
      (pss_one (ps_if (pt_cmpR op_noNo (pe_cl C_law_folded hr (by decide) pass0 rfl (pa_cons (pv 4) pa_nil)) pe_non (nomark _)) (pss_one (ps_for PassesOwn.never rfl (pi_enum rfl T.b_enumerate (pa_cons (pe_op op_addU (pe_lst (pa_cons pe_int pa_nil)) (pe_slice sl_U (pv 0) po_none (po_some pe_int))) pa_nil)) (pg_tup (by rfl) (pgs_cons (pg_name (i := 6) sc_law.nd rfl (Or.inl rfl)) (pgs_cons (pg_name (i := 7) sc_law.nd rfl (Or.inl rfl)) pgs_nil))) (pss_cons (ps_if (pt_not (pt_val (pe_cl C_law_between hr (by decide) pass0 rfl (pa_cons (pv 4) (pa_cons (pe_cl C_law_turn hr (by decide) pass0 rfl (pa_cons (pv 7) (pa_cons (pe_op op_addU (pv 6) pe_int) pa_nil))) pa_nil))))) (pss_one (ps_ret pe_bl)) pss_nil)
      (pss_one (ps_if (PW.pt (pw_and (pt_cmpR (op_neU hr.units) (pe_clm0 C_Wall_clocks hr (by decide) pass0 (pv 4)) (pe_lst pa_nil) (nomark _)) (pw_and1 (pt_not (pt_val (pe_cl C_law_less_good hr (by decide) pass0 rfl (pa_cons (pv 4) (pa_cons (pe_cl C_law_mixed hr (by decide) pass0 rfl (pa_cons (pv 7) (pa_cons (pe_op op_addU (pv 6) pe_int) pa_nil))) pa_nil)))))))) (pss_one (ps_ret pe_bl)) pss_nil))))) pss_nil))))))
      (pss_one (ps_ret (pe_and (pe_cl C_law_laid_good hr (by decide) pass0 rfl (pa_cons (pv 2) (pa_cons (pv 3) pa_nil))) (pe_one (pe_cl C_law_laid_good hr (by decide) pass0 rfl (pa_cons (pv 3) (pa_cons (pv 2) pa_nil)))))))))))), fun ns hns => ?_⟩
  have hcl := cutI_len ns none (some 48)
  have scr : ∀ {δ : Sto}, δ[0]? = some (some (.scr K ns)) → EvS (tSl (rSlL K) (tVar 0) tNoPart (tPart (tC (.int 48)))) δ (.lst ((cutI ns none (some 48)).map dI)) := fun h => ev_slScr (ev_var h) eo_none (eo_some ev_c)
  refine hm_then (hm_asg (evm_of (d := dI (turn ((cutI ns none (some 48)).map fun c => mixed c 4).sum 5)) ?sum ?_))
  case sum =>
    refine ev_call (ea_cons (d := dI ((cutI ns none (some 48)).map fun c => mixed c 4).sum) (ev_cb (ea_cons (d := .lst (((cutI ns none (some 48)).map fun c => mixed c 4).map dI)) (ev_eq (ev_lc (mixF 4) (scr rfl) (by rw [List.length_map]; omega) (by rw [mixF_all]; exact noLst_ints _) fun d hd => ?_) (congrArg Dt.lst (mixF_all 4 _))) ea_nil) ca_sum) (ea_cons ev_c ea_nil)) (spD_of (f := ii turn) rfl ⟨_, 5, rfl, by omega, by omega⟩)
    obtain ⟨c, _, rfl⟩ := List.mem_map.mp hd
    exact ⟨_, true, gds_name (by decide), et_yes, fun _ => ⟨_, ev_call (z := dI (mixed c 4)) (ea_cons (ev_var rfl) (ea_cons ev_c ea_nil)) (spD_of (f := ii mixed) rfl ⟨c, 4, rfl, by omega, by omega⟩), rfl⟩, fun z => nomatch z⟩
  generalize turn ((cutI ns none (some 48)).map fun c => mixed c 4).sum 5 = t
  clear scr hcl
  have pl0 := pick_len hns (a := 0) (by decide)
  have pl1 := pick_len hns (a := 1) (by decide)
  refine hm_then (hm_asg (evm_callGN (eam_of (ea_cons (ev_sl3Scr (ev_var rfl) (eo_some ev_c) (eo_some ev_c) (eo_some ev_c) (by decide) (Nat.le_trans pl0 (by decide))) (ea_cons ev_c (ea_cons (ev_var rfl) ea_nil))) ⟨((pickI ns (some (0 : Nat)) (some 48) (some 2), 10, t) : List Int × Int × Int), rfl, ⟨rfl, pl0, by show (0 : Int) ≤ 10; decide, by show (10 : Int) ≤ 1000; decide⟩, fun d m r => ?_, fun C fs m r => r⟩)))
  obtain ⟨p1, h1, g1, cs, rfl, n1, hg1, hG1⟩ := r
  refine hm_then (hm_asg (evm_callGN (eam_of (ea_cons (ev_sl3Scr (ev_var rfl) (eo_some ev_c) (eo_some ev_c) (eo_some ev_c) (by decide) (Nat.le_trans pl1 (by decide))) (ea_cons ev_c (ea_cons (ev_var rfl) ea_nil))) ⟨((pickI ns (some (1 : Nat)) (some 48) (some 2), 40, t) : List Int × Int × Int), rfl, ⟨rfl, pl1, by show (0 : Int) ≤ 40; decide, by show (40 : Int) ≤ 1000; decide⟩, fun d m' r => ?_, fun C fs m' r => r⟩)))
  obtain ⟨p2, h2, g2, ds, rfl, n2, hg2, hG2⟩ := r
  have w1 := n1.2.2.2.1.grow n2.2.2.2.2
  have w2 := n2.2.2.2.1
  clear n1 n2 pl0 pl1
  show HsM _ E _ [some (.scr K ns), some (dI t), some (.raw (.ref p1)), some (.raw (.ref p2)), none, none, none, none] _ _ _ _ _ _
  refine hm_then (hm_if (etm_of (b := false) (et_or (a := false) (b := false) (et_test (ev_op (ev_var rfl) ev_c od_isNo)) fun _ => et_test (ev_op (ev_var rfl) ev_c od_isNo)) ⟨(fun z => nomatch z), fun _ => hm_next ?_⟩))
  have laid : ∀ {δ : Sto} {m : Mu} {N : Dt → Mu → Prop} {i j : Nat} {a b ha hb : Addr} {g k : Int} {cs ds : Cks}, δ[i]? = some (some (.raw (.ref a))) → δ[j]? = some (some (.raw (.ref b))) → IsW A.WL m a ha g cs → IsW A.WL m b hb k ds → Good g cs → Good k ds → g ≤ 24 → k ≤ 24 → (∀ m', Grow m m' → N (dB true) m') → EvM [] E (tCall (spLaidGood A) [] E0 (tCons (tVar i) (tCons (tVar j) tNil))) δ m N noW := fun {δ m N i j a b ha hb g k cs ds} hi hj wa wb ga gb la lb n => evm_callGN (eam_of (ea_cons (ev_var hi) (ea_cons (ev_var hj) ea_nil)) ⟨((⟨a, ha, g, cs⟩, ⟨b, hb, k, ds⟩) : Wg × Wg), rfl, ⟨rfl, ⟨wa, ga, by show g ≤ 60; omega⟩, ⟨wb, gb, by show k ≤ 60; omega⟩, la, lb⟩, fun d m' r => by
    obtain ⟨rfl, gr⟩ := r
    exact n m' gr, fun C fs m' r => r⟩)
  have told : ∀ {δ : Sto} {m : Mu} {N : Dt → Mu → Prop} {i : Nat} {a ha : Addr} {g : Int} {cs : Cks}, δ[i]? = some (some (.raw (.ref a))) → IsW A.WL m a ha g cs → Good g cs → g ≤ 60 → (∀ m', Grow m m' → N (dB true) m') → EvM [] E (tCall (spIsTold A) [] E0 (tCons (tVar i) tNil)) δ m N noW := fun {δ m N i a ha g cs} hi wa ga la n => evm_callGN (eam_of (ea_cons (ev_var hi) ea_nil) ⟨(⟨a, ha, g, cs⟩ : Wg), rfl, ⟨rfl, wa, ga, la⟩, fun d m' r => by
    obtain ⟨rfl, gr⟩ := r
    exact n m' gr, fun C fs m' r => r⟩)
  have fd : ∀ {δ : Sto} {m : Mu} {N : Dt → Mu → Prop} {i : Nat} {a ha : Addr} {g : Int} {cs : Cks}, δ[i]? = some (some (.raw (.ref a))) → IsW A.WL m a ha g cs → Good g cs → g ≤ 60 → N (optK (foldC cs)) m → EvM [] E (tCall (spLawFolded A) [] E0 (tCons (tVar i) tNil)) δ m N noW := fun {δ m N i a ha g cs} hi wa ga la n => evm_callGN (eam_of (ea_cons (ev_var hi) ea_nil) ⟨(⟨a, ha, g, cs⟩ : Wg), rfl, ⟨rfl, wa, ga, small60 la⟩, fun d m' r => by
    obtain ⟨rfl, r⟩ := r
    rw [optK_of r]
    exact n, fun C fs m' r => r⟩)
  refine hm_then (hm_forT (evm_of (ev_tup (ds := [.raw (.ref p1), .raw (.ref p2)]) (ea_cons (ev_var rfl) (ea_cons (ev_var rfl) ea_nil)) (by show 2 ≤ 100000; decide)) ⟨_, rfl, fun i δ m => IsW A.WL m p1 h1 g1 cs ∧ IsW A.WL m p2 h2 g2 ds ∧ ∃ (x4 x5 x6 x7 : Option Dt), δ = [some (.scr K ns), some (dI t), some (.raw (.ref p1)), some (.raw (.ref p2)), x4, x5, x6, x7], ⟨w1, w2, _, _, _, _, rfl⟩, fun i δ m x q hx => ?turn, fun δ m q => ?done⟩))
  case done =>
    clear w1 w2
    obtain ⟨w1, w2, x4, x5, x6, x7, rfl⟩ := q
    exact hm_ret (evm_andV (laid rfl rfl w1 w2 hg1 hg2 hG1 hG2 fun m' gr => ⟨true, rfl, (fun z => nomatch z), fun _ => laid rfl rfl (w2.grow gr) (w1.grow gr) hg2 hg1 hG2 hG1 fun m2 _ => rfl⟩))
  clear w1 w2
  obtain ⟨w1, w2, x4, x5, x6, x7, rfl⟩ := q
  obtain ⟨a, h, g, es, rfl, hw, hg, hG⟩ : ∃ a h g es, x = .raw (.ref a) ∧ IsW A.WL m a h g es ∧ Good g es ∧ g ≤ 24 := by
    have hx := List.mem_of_getElem? hx
    simp only [List.mem_cons, List.not_mem_nil, or_false] at hx
    rcases hx with rfl | rfl
    · exact ⟨p1, h1, g1, cs, rfl, w1, hg1, hG1⟩
    · exact ⟨p2, h2, g2, ds, rfl, w2, hg2, hG2⟩
  have hG6 : g ≤ 60 := by omega
  refine ⟨_, gdm_name, ?_⟩
  show HsM _ E _ [some (.scr K ns), some (dI t), some (.raw (.ref p1)), some (.raw (.ref p2)), some (.raw (.ref a)), x5, x6, x7] _ _ _ _ _ _
  refine hm_then (hm_if (etm_or (etm_not (etm_B (told rfl hw hg hG6 fun m1 gr1 => ⟨true, rfl, (fun z => nomatch z), fun _ => etm_not (etm_B (laid rfl rfl (hw.grow gr1) (w1.grow gr1) hg hg1 hG hG1 fun m2 gr2 => ⟨true, rfl, (fun z => nomatch z), fun _ => hm_next ?_⟩))⟩)))))
  have gr := gr1.trans gr2
  have w1 := w1.grow gr
  have w2 := w2.grow gr
  have hw := hw.grow gr
  clear gr gr1 gr2
  have n0 := mixed_lo t 6
  refine hm_then (hm_asg (evm_callGN (eam_of (ea_cons (ev_var rfl) (ea_cons (ev_call (z := dI (mixed t 6)) (ea_cons (ev_var rfl) (ea_cons ev_c ea_nil)) (spD_of (f := ii mixed) rfl ⟨t, 6, rfl, by omega, by omega⟩)) ea_nil)) ⟨((⟨a, h, g, es⟩, mixed t 6) : Wg × Int), rfl, ⟨rfl, ⟨hw, hg, hG6⟩, n0⟩, fun d m3 r => ?_, fun C fs m3 r => r⟩)))
  obtain ⟨q, k, gq, fs, rfl, nq, hgq, hGq, pm⟩ := r
  dsimp only at pm
  have w1 := w1.grow nq.2.2.2.2
  have w2 := w2.grow nq.2.2.2.2
  have hw := hw.grow nq.2.2.2.2
  have wq := nq.2.2.2.1
  have ef : foldC fs = foldC es := foldAll_perm hg.oks pm
  show HsM _ E _ [some (.scr K ns), some (dI t), some (.raw (.ref p1)), some (.raw (.ref p2)), some (.raw (.ref a)), some (.raw (.ref q)), x6, x7] _ _ _ _ _ _
  refine hm_then (hm_if (etm_or (etm_not (etm_B (told rfl wq hgq hGq fun m4 gr4 => ⟨true, rfl, (fun z => nomatch z), fun _ => etm_test (evm_o (fd rfl (wq.grow gr4) hgq hGq (fd rfl (hw.grow gr4) hg hG6 ⟨dB false, by rw [ef]; exact od_neOptK, false, rfl, (fun z => nomatch z), fun _ => hm_next ?_⟩)))⟩)))))
  have w1 := w1.grow gr4
  have w2 := w2.grow gr4
  have hw := hw.grow gr4
  clear wq ef pm nq hgq hGq gr4
  refine hm_if (etm_test (evm_o (fd rfl hw hg hG6 (evm_of ev_c ⟨_, od_noNo, _, rfl, fun z => ?some_, fun z => hm_next ⟨w1, w2, _, _, _, _, rfl⟩⟩))))
  obtain ⟨G, hf⟩ : ∃ G, foldC es = some G := by
    cases q : foldC es with
    | none =>
      rw [q] at z
      cases z
    | some G => exact ⟨G, rfl⟩
  refine hm_enum (eam_of (ea_cons (d := .lst ((7 :: cutI ns none (some 10)).map dI)) (ev_op (ev_lst (ds := [dI 7]) (ea_cons ev_c ea_nil) (by show 1 ≤ 100000; decide)) (ev_slScr (ev_var rfl) eo_none (eo_some ev_c)) (od_addL ?len)) ea_nil) ⟨_, rfl, fun i δ m => IsW A.WL m p1 h1 g1 cs ∧ IsW A.WL m p2 h2 g2 ds ∧ IsW A.WL m a h g es ∧ ∃ (x6 x7 : Option Dt), δ = [some (.scr K ns), some (dI t), some (.raw (.ref p1)), some (.raw (.ref p2)), some (.raw (.ref a)), some (.raw (.ref q)), x6, x7], ⟨w1, w2, hw, _, _, rfl⟩, fun i δ m x r hx => ?cell, fun δ m r => ?cells⟩)
  case len =>
    have := cutI_len ns none (some 10)
    rw [List.length_map]
    show 1 + _ ≤ 100000
    omega
  case cells =>
    obtain ⟨w1, w2, _, x6, x7, rfl⟩ := r
    exact ⟨w1, w2, _, _, _, _, rfl⟩
  clear w1 w2 hw
  obtain ⟨w1, w2, hw, x6, x7, rfl⟩ := r
  obtain ⟨hl, c, rfl⟩ := int_item hx
  have k1 : (i : Int) ≤ 64 := by
    have := cutI_len ns none (some 10)
    rw [List.length_cons] at hl
    omega
  have k0 : (0 : Int) ≤ (i : Int) := by omega
  refine ⟨_, gdm_two, ?_⟩
  refine hm_then (hm_if (etm_not (etm_B (evm_callGN (eam_of (ea_cons (ev_var rfl) (ea_cons (ev_call (z := dI (turn c ((i : Int) + 70))) (ea_cons (ev_var rfl) (ea_cons (ev_op (ev_var rfl) ev_c od_addI) ea_nil)) (spD_of (f := ii turn) rfl ⟨c, (i : Int) + 70, rfl, by omega, by omega⟩)) ea_nil)) ⟨((⟨a, h, g, es⟩, turn c ((i : Int) + 70), G) : Wg × Int × Ck), rfl, ⟨rfl, ⟨hw, hg, hG6⟩, hf⟩, fun d m' r => ⟨true, r.1, (fun z => nomatch z), fun _ => ?_⟩, fun C fs m' r => r⟩)))))
  obtain ⟨_, rfl⟩ := r
  refine hm_next ?_
  have n2 := mixed_lo c ((i : Int) + 80)
  refine hm_if (etm_and (etm_test (evm_o (evm_freeze (evm_wallN a (ev_var rfl) hw.ob (by decide +kernel) (by decide +kernel) (eam_nil ⟨(⟨a, h, g, es⟩ : Wg), rfl, ⟨rfl, hw.r⟩, fun d m r => ?_, fun C fs m r => r⟩))))))
  obtain ⟨q0, hq0, rfl, rfl⟩ := r
  refine ⟨q0, itsD es, rfl, putM_same, ?_⟩
  rw [delM_put hq0]
  refine evm_of (ev_lst (ds := []) ea_nil (by show 0 ≤ 100000; decide)) ⟨_, od_neIts0, _, rfl, fun _ => ⟨(fun z => nomatch z), fun _ => hm_next ⟨w1, w2, hw, _, _, rfl⟩⟩, fun z => ?_⟩
  have hne : es ≠ [] := by
    rintro rfl
    cases z
  refine etm_not (etm_B (evm_callGN (eam_of (ea_cons (ev_var rfl) (ea_cons (ev_call (z := dI (mixed c ((i : Int) + 80))) (ea_cons (ev_var rfl) (ea_cons (ev_op (ev_var rfl) ev_c od_addI) ea_nil)) (spD_of (f := ii mixed) rfl ⟨c, (i : Int) + 80, rfl, by omega, by omega⟩)) ea_nil)) ⟨((⟨a, h, g, es⟩, mixed c ((i : Int) + 80), G) : Wg × Int × Ck), rfl, ⟨rfl, ⟨hw, hg, hG6⟩, hf, hne, n2⟩, fun d m2 r => ⟨true, r.1, (fun z => nomatch z), fun _ => ?_⟩, fun C fs m2 r => r⟩)))
  obtain ⟨_, gr⟩ := r
  exact hm_next ⟨w1.grow gr, w2.grow gr, hw.grow gr, _, _, rfl⟩
end
end Dn
namespace Dn
open PySem PySem.Spec PyProof.Rows L2 LamX
theorem all_mk {l : PySem.W.OpenLaw} {w : World} {K : PySem.W.Frag} {h : Heap} {mg : Str → Option Value} {fa CF CB CT CN CM CW CV WL : Addr} {tk0 tk1 : Tok} {f_Never_init cc_Never_init cda_Never_init : Addr} {od_Never_init an_Never_init cdd_Never_init cld_Never_init : Option Addr} {sl_Never_init ccs_Never_init csl_Never_init : Array (Option Value)} {vs_Never_init : Array Value} {file_Never_init : Str} {tf_Never_init : Tok} {oc_Never_init kV_Never_init dc_Never_init pm_Never_init ct_Never_init ccl_Never_init cl_Never_init : Value}
    {nm_Never q_Never : Str} {N_Never : Addr} {bs_Never sub_Never : List Value} {sn_Never : List Str} {ab_Never : Bool} {col_Never : Option Bool} {dd_Never : Option Addr} {k0_Never k1_Never k2_Never k3_Never k5_Never : Option Value}
    {f_is_number : Addr} {od_is_number an_is_number : Option Addr} {sl_is_number : Array (Option Value)} {oc_is_number kV_is_number dc_is_number pm_is_number cd_is_number ct_is_number : Value}
    {f_is_clock : Addr} {od_is_clock an_is_clock : Option Addr} {sl_is_clock : Array (Option Value)} {oc_is_clock kV_is_clock dc_is_clock pm_is_clock cd_is_clock ct_is_clock : Value}
    {f_need_clock : Addr} {od_need_clock an_need_clock : Option Addr} {sl_need_clock : Array (Option Value)} {oc_need_clock kV_need_clock dc_need_clock pm_need_clock cd_need_clock ct_need_clock : Value}
    {f_need_turn : Addr} {od_need_turn an_need_turn : Option Addr} {sl_need_turn : Array (Option Value)} {oc_need_turn kV_need_turn dc_need_turn pm_need_turn cd_need_turn ct_need_turn : Value}
    {f_hour_at : Addr} {od_hour_at an_hour_at : Option Addr} {sl_hour_at : Array (Option Value)} {oc_hour_at kV_hour_at dc_hour_at pm_hour_at cd_hour_at ct_hour_at : Value}
    {f_shows : Addr} {od_shows an_shows : Option Addr} {sl_shows : Array (Option Value)} {oc_shows kV_shows dc_shows pm_shows cd_shows ct_shows : Value}
    {f_is_right : Addr} {od_is_right an_is_right : Option Addr} {sl_is_right : Array (Option Value)} {oc_is_right kV_is_right dc_is_right pm_is_right cd_is_right ct_is_right : Value}
    {f_witness : Addr} {od_witness an_witness : Option Addr} {sl_witness : Array (Option Value)} {oc_witness kV_witness dc_witness pm_witness cd_witness ct_witness : Value}
    {f_agree : Addr} {od_agree an_agree : Option Addr} {sl_agree : Array (Option Value)} {oc_agree kV_agree dc_agree pm_agree cd_agree ct_agree : Value}
    {f_joined : Addr} {od_joined an_joined : Option Addr} {sl_joined : Array (Option Value)} {oc_joined kV_joined dc_joined pm_joined cd_joined ct_joined : Value}
    {f_inverse : Addr} {od_inverse an_inverse : Option Addr} {sl_inverse : Array (Option Value)} {oc_inverse kV_inverse dc_inverse pm_inverse cd_inverse ct_inverse : Value}
    {f_Wall_init : Addr} {od_Wall_init an_Wall_init : Option Addr} {sl_Wall_init : Array (Option Value)} {oc_Wall_init kV_Wall_init dc_Wall_init pm_Wall_init cd_Wall_init ct_Wall_init : Value}
    {f_Wall_put : Addr} {od_Wall_put an_Wall_put : Option Addr} {sl_Wall_put : Array (Option Value)} {oc_Wall_put kV_Wall_put dc_Wall_put pm_Wall_put cd_Wall_put ct_Wall_put : Value}
    {f_Wall_take : Addr} {od_Wall_take an_Wall_take : Option Addr} {sl_Wall_take : Array (Option Value)} {oc_Wall_take kV_Wall_take dc_Wall_take pm_Wall_take cd_Wall_take ct_Wall_take : Value}
    {f_Wall_turn_to : Addr} {od_Wall_turn_to an_Wall_turn_to : Option Addr} {sl_Wall_turn_to : Array (Option Value)} {oc_Wall_turn_to kV_Wall_turn_to dc_Wall_turn_to pm_Wall_turn_to cd_Wall_turn_to ct_Wall_turn_to : Value}
    {f_Wall_lay : Addr} {od_Wall_lay an_Wall_lay : Option Addr} {sl_Wall_lay : Array (Option Value)} {oc_Wall_lay kV_Wall_lay dc_Wall_lay pm_Wall_lay cd_Wall_lay ct_Wall_lay : Value}
    {f_Wall_clocks : Addr} {od_Wall_clocks an_Wall_clocks : Option Addr} {sl_Wall_clocks : Array (Option Value)} {oc_Wall_clocks kV_Wall_clocks dc_Wall_clocks pm_Wall_clocks cd_Wall_clocks ct_Wall_clocks : Value}
    {f_Wall_clash : Addr} {od_Wall_clash an_Wall_clash : Option Addr} {sl_Wall_clash : Array (Option Value)} {oc_Wall_clash kV_Wall_clash dc_Wall_clash pm_Wall_clash cd_Wall_clash ct_Wall_clash : Value}
    {f_Wall_copied : Addr} {od_Wall_copied an_Wall_copied : Option Addr} {sl_Wall_copied : Array (Option Value)} {oc_Wall_copied kV_Wall_copied dc_Wall_copied pm_Wall_copied cd_Wall_copied ct_Wall_copied : Value}
    {f_Wall_fold : Addr} {od_Wall_fold an_Wall_fold : Option Addr} {sl_Wall_fold : Array (Option Value)} {oc_Wall_fold kV_Wall_fold dc_Wall_fold pm_Wall_fold cd_Wall_fold ct_Wall_fold : Value}
    {f_Wall_is_met : Addr} {od_Wall_is_met an_Wall_is_met : Option Addr} {sl_Wall_is_met : Array (Option Value)} {oc_Wall_is_met kV_Wall_is_met dc_Wall_is_met pm_Wall_is_met cd_Wall_is_met ct_Wall_is_met : Value}
    {f_Wall_next_turn : Addr} {od_Wall_next_turn an_Wall_next_turn : Option Addr} {sl_Wall_next_turn : Array (Option Value)} {oc_Wall_next_turn kV_Wall_next_turn dc_Wall_next_turn pm_Wall_next_turn cd_Wall_next_turn ct_Wall_next_turn : Value}
    {f_Wall_last_turn : Addr} {od_Wall_last_turn an_Wall_last_turn : Option Addr} {sl_Wall_last_turn : Array (Option Value)} {oc_Wall_last_turn kV_Wall_last_turn dc_Wall_last_turn pm_Wall_last_turn cd_Wall_last_turn ct_Wall_last_turn : Value}
    {f_Wall_clock_of : Addr} {od_Wall_clock_of an_Wall_clock_of : Option Addr} {sl_Wall_clock_of : Array (Option Value)} {oc_Wall_clock_of kV_Wall_clock_of dc_Wall_clock_of pm_Wall_clock_of cd_Wall_clock_of ct_Wall_clock_of : Value}
    {f_Wall_need_room : Addr} {od_Wall_need_room an_Wall_need_room : Option Addr} {sl_Wall_need_room : Array (Option Value)} {oc_Wall_need_room kV_Wall_need_room dc_Wall_need_room pm_Wall_need_room cd_Wall_need_room ct_Wall_need_room : Value}
    {f_wall_needed : Addr} {od_wall_needed an_wall_needed : Option Addr} {sl_wall_needed : Array (Option Value)} {oc_wall_needed kV_wall_needed dc_wall_needed pm_wall_needed cd_wall_needed ct_wall_needed : Value}
    {f_wall_with : Addr} {od_wall_with an_wall_with : Option Addr} {sl_wall_with : Array (Option Value)} {oc_wall_with kV_wall_with dc_wall_with pm_wall_with cd_wall_with ct_wall_with : Value}
    {f_law_mixed : Addr} {od_law_mixed an_law_mixed : Option Addr} {sl_law_mixed : Array (Option Value)} {oc_law_mixed kV_law_mixed dc_law_mixed pm_law_mixed cd_law_mixed ct_law_mixed : Value}
    {f_law_wide : Addr} {od_law_wide an_law_wide : Option Addr} {sl_law_wide : Array (Option Value)} {oc_law_wide kV_law_wide dc_law_wide pm_law_wide cd_law_wide ct_law_wide : Value}
    {f_law_hours : Addr} {od_law_hours an_law_hours : Option Addr} {sl_law_hours : Array (Option Value)} {oc_law_hours kV_law_hours dc_law_hours pm_law_hours cd_law_hours ct_law_hours : Value}
    {f_law_turn : Addr} {od_law_turn an_law_turn : Option Addr} {sl_law_turn : Array (Option Value)} {oc_law_turn kV_law_turn dc_law_turn pm_law_turn cd_law_turn ct_law_turn : Value}
    {f_law_common : Addr} {od_law_common an_law_common : Option Addr} {sl_law_common : Array (Option Value)} {oc_law_common kV_law_common dc_law_common pm_law_common cd_law_common ct_law_common : Value}
    {f_law_meant : Addr} {od_law_meant an_law_meant : Option Addr} {sl_law_meant : Array (Option Value)} {oc_law_meant kV_law_meant dc_law_meant pm_law_meant cd_law_meant ct_law_meant : Value}
    {f_law_done : Addr} {od_law_done an_law_done : Option Addr} {sl_law_done : Array (Option Value)} {oc_law_done kV_law_done dc_law_done pm_law_done cd_law_done ct_law_done : Value}
    {f_law_hung : Addr} {od_law_hung an_law_hung : Option Addr} {sl_law_hung : Array (Option Value)} {oc_law_hung kV_law_hung dc_law_hung pm_law_hung cd_law_hung ct_law_hung : Value}
    {f_law_folded : Addr} {od_law_folded an_law_folded : Option Addr} {sl_law_folded : Array (Option Value)} {oc_law_folded kV_law_folded dc_law_folded pm_law_folded cd_law_folded ct_law_folded : Value}
    {f_law_is_told : Addr} {od_law_is_told an_law_is_told : Option Addr} {sl_law_is_told : Array (Option Value)} {oc_law_is_told kV_law_is_told dc_law_is_told pm_law_is_told cd_law_is_told ct_law_is_told : Value}
    {f_law_between : Addr} {od_law_between an_law_between : Option Addr} {sl_law_between : Array (Option Value)} {oc_law_between kV_law_between dc_law_between pm_law_between cd_law_between ct_law_between : Value}
    {f_law_turned : Addr} {od_law_turned an_law_turned : Option Addr} {sl_law_turned : Array (Option Value)} {oc_law_turned kV_law_turned dc_law_turned pm_law_turned cd_law_turned ct_law_turned : Value}
    {f_law_less_good : Addr} {od_law_less_good an_law_less_good : Option Addr} {sl_law_less_good : Array (Option Value)} {oc_law_less_good kV_law_less_good dc_law_less_good pm_law_less_good cd_law_less_good ct_law_less_good : Value}
    {f_law_laid_good : Addr} {od_law_laid_good an_law_laid_good : Option Addr} {sl_law_laid_good : Array (Option Value)} {oc_law_laid_good kV_law_laid_good dc_law_laid_good pm_law_laid_good cd_law_laid_good ct_law_laid_good : Value}
    {f_law : Addr} {od_law an_law : Option Addr} {sl_law : Array (Option Value)} {oc_law kV_law dc_law pm_law cd_law ct_law : Value}
    (X : K.In h) (G : h.Ns mainGlobals mg) (hfa : mg "law" = some (.ref fa)) (hT : ∀ P ∈ ([] : List Addr), h.get? P = some (PySem.W.tabObj #[]))
    (z_int : PySem.W.nsIn K mainGlobals "int" = some none)
    (z_type : PySem.W.nsIn K mainGlobals "type" = some none)
    (z_tuple : PySem.W.nsIn K mainGlobals "tuple" = some none)
    (z_len : PySem.W.nsIn K mainGlobals "len" = some none)
    (z_list : PySem.W.nsIn K mainGlobals "list" = some none)
    (z_enumerate : PySem.W.nsIn K mainGlobals "enumerate" = some none)
    (z_all : PySem.W.nsIn K mainGlobals "all" = some none)
    (z_dict : PySem.W.nsIn K mainGlobals "dict" = some none)
    (z_sorted : PySem.W.nsIn K mainGlobals "sorted" = some none)
    (z_sum : PySem.W.nsIn K mainGlobals "sum" = some none)
    (aK_MOST_HOURS : PySem.W.nsIn K mainGlobals "MOST_HOURS" = some (some (.int 1000000000000000000000000000000 tk0)))
    (aK_MOST_CLOCKS : PySem.W.nsIn K mainGlobals "MOST_CLOCKS" = some (some (.int 60 tk1)))
    (aC_FoldError : PySem.W.nsIn K mainGlobals "FoldError" = some (some (.ref CF)))
    (aC_BadClock : PySem.W.nsIn K mainGlobals "BadClock" = some (some (.ref CB)))
    (aC_BadTurn : PySem.W.nsIn K mainGlobals "BadTurn" = some (some (.ref CT)))
    (aC_NoClock : PySem.W.nsIn K mainGlobals "NoClock" = some (some (.ref CN)))
    (aC_TooMany : PySem.W.nsIn K mainGlobals "TooMany" = some (some (.ref CM)))
    (aC_BadWall : PySem.W.nsIn K mainGlobals "BadWall" = some (some (.ref CW)))
    (aC_Never : PySem.W.nsIn K mainGlobals "Never" = some (some (.ref CV)))
    (aC_Wall : PySem.W.nsIn K mainGlobals "Wall" = some (some (.ref WL)))
    (nx_one : PySem.W.findIn K (.ref CV) "one" = some none)
    (nx_other : PySem.W.findIn K (.ref CV) "other" = some none)
    (xC_BadClock : PySem.W.excIn K CB [.type "ValueError", .type "Exception", .type "BaseException", .type "object"] "ValueError.__new__" = true)
    (kC_BadClock : PySem.W.keepIn K (.ref CB) = true)
    (sC_BadClock : PySem.W.subIn K (.ref CB) (.type "BaseException") = some true)
    (tC_BadClock : PySem.W.typeIn K (.ref CB) = some (.type "type"))
    (mC_BadClock : PySem.W.exmOne K (.ref CB) (.ref CF) = some true)
    (xC_BadTurn : PySem.W.excIn K CT [.type "ValueError", .type "Exception", .type "BaseException", .type "object"] "ValueError.__new__" = true)
    (kC_BadTurn : PySem.W.keepIn K (.ref CT) = true)
    (sC_BadTurn : PySem.W.subIn K (.ref CT) (.type "BaseException") = some true)
    (tC_BadTurn : PySem.W.typeIn K (.ref CT) = some (.type "type"))
    (mC_BadTurn : PySem.W.exmOne K (.ref CT) (.ref CF) = some true)
    (xC_NoClock : PySem.W.excIn K CN [.type "ValueError", .type "Exception", .type "BaseException", .type "object"] "ValueError.__new__" = true)
    (kC_NoClock : PySem.W.keepIn K (.ref CN) = true)
    (sC_NoClock : PySem.W.subIn K (.ref CN) (.type "BaseException") = some true)
    (tC_NoClock : PySem.W.typeIn K (.ref CN) = some (.type "type"))
    (mC_NoClock : PySem.W.exmOne K (.ref CN) (.ref CF) = some true)
    (xC_TooMany : PySem.W.excIn K CM [.type "ValueError", .type "Exception", .type "BaseException", .type "object"] "ValueError.__new__" = true)
    (kC_TooMany : PySem.W.keepIn K (.ref CM) = true)
    (sC_TooMany : PySem.W.subIn K (.ref CM) (.type "BaseException") = some true)
    (tC_TooMany : PySem.W.typeIn K (.ref CM) = some (.type "type"))
    (mC_TooMany : PySem.W.exmOne K (.ref CM) (.ref CF) = some true)
    (xC_BadWall : PySem.W.excIn K CW [.type "ValueError", .type "Exception", .type "BaseException", .type "object"] "ValueError.__new__" = true)
    (kC_BadWall : PySem.W.keepIn K (.ref CW) = true)
    (sC_BadWall : PySem.W.subIn K (.ref CW) (.type "BaseException") = some true)
    (tC_BadWall : PySem.W.typeIn K (.ref CW) = some (.type "type"))
    (mC_BadWall : PySem.W.exmOne K (.ref CW) (.ref CF) = some true)
    (sC_Never : PySem.W.subIn K (.ref CV) (.type "BaseException") = some true)
    (tC_Never : PySem.W.typeIn K (.ref CV) = some (.type "type"))
    (kC_Never : PySem.W.keepIn K (.ref CV) = true)
    (saC_Never : PySem.W.findIn K (.ref CV) "__setattr__" = some (some (.builtin "object.__setattr__")))
    (xL_Never : K.lookup CV = some (excClassObj nm_Never q_Never CV N_Never bs_Never [.ref CF, .type "ValueError", .type "Exception", .type "BaseException", .type "object"] true sn_Never sub_Never ab_Never col_Never dd_Never k0_Never k1_Never k2_Never k3_Never k5_Never "ValueError.__new__"))
    (mC_Never : PySem.W.exmOne K (.ref CV) (.ref CF) = some true)
    (aG_gcd : PySem.W.nsIn K mainGlobals "gcd" = some (some (.builtin "math.gcd")))
    (pg : PySem.W.plainGet K WL Str.empty = true)
    (hd : PySem.W.hasDictIn K WL = true)
    (po : PySem.W.plainOver K WL = true)
    (sa : PySem.W.findIn K (.ref WL) "__setattr__" = some (some (.builtin "object.__setattr__")))
    (mk : PySem.W.makesIn K WL = true)
    (kc : PySem.W.keepIn K (.ref WL) = true)
    (nf_hung : PySem.W.findIn K (.ref WL) "hung" = some none)
    (nf_given : PySem.W.findIn K (.ref WL) "given" = some none)
    (mm_Never : PySem.W.exmOne K (.ref CV) (.ref CV) = some true)
    (a_Never_init : PySem.W.findIn K (.ref CV) "__init__" = some (some (.ref f_Never_init)))
    (t_Never_init : PySem.W.typeIn K (.ref f_Never_init) = some (.type "function"))
    (l_Never_init : K.lookup f_Never_init = some ⟨oc_Never_init, od_Never_init, .func (PySem.W.fnX "__init__" "Never.__init__" (defArgs st_Never_init) (defBody st_Never_init) (defScope st_Never_init) [("__class__", cc_Never_init)] .none kV_Never_init dc_Never_init pm_Never_init an_Never_init (.ref cda_Never_init) ct_Never_init), sl_Never_init⟩)
    (c_Never_init : PySem.W.codeIn K (.ref cda_Never_init) "Never.__init__" = true)
    (fl_Never_init : K.lookup cda_Never_init = some ⟨ccl_Never_init, cdd_Never_init, .fields vs_Never_init, ccs_Never_init⟩)
    (fv_Never_init : vs_Never_init[2]? = some (.str file_Never_init tf_Never_init))
    (fe_Never_init : (l.prog.main.file == file_Never_init) = true)
    (ce_Never_init : K.lookup cc_Never_init = some ⟨cl_Never_init, cld_Never_init, .cell (some (.ref CV)), csl_Never_init⟩)
    (ms_Never_init : PySem.W.mroIn K CV (.ref CV) = some true)
    (su_Never_init : PySem.W.ks_superIn K CV CV "__init__" = some (some (.builtin "ValueError.__init__")))
    (va_Never_init : PySem.W.subIn K (.ref CV) (.type "ValueError") = some true)
    (lb_Never_init : PySem.W.nsIn K cStatics "thirdparty.any" = some none)
    (tp_Never_init : (l.prog.main.scope.names.lookup ("super" : Str)).isSome = false)
    (zs_Never_init : PySem.W.nsIn K mainGlobals "super" = some none)
    (a_is_number : PySem.W.nsIn K mainGlobals "is_number" = some (some (.ref f_is_number)))
    (l_is_number : K.lookup f_is_number = some ⟨oc_is_number, od_is_number, .func (PySem.W.fnOf "is_number" "is_number" (defArgs st_is_number) (defBody st_is_number) (defScope st_is_number) .none kV_is_number dc_is_number pm_is_number an_is_number (cd_is_number) ct_is_number), sl_is_number⟩)
    (c_is_number : PySem.W.codeIn K (cd_is_number) "is_number" = true)
    (k_is_number : PySem.W.keepIn K (.ref f_is_number) = true)
    (a_is_clock : PySem.W.nsIn K mainGlobals "is_clock" = some (some (.ref f_is_clock)))
    (l_is_clock : K.lookup f_is_clock = some ⟨oc_is_clock, od_is_clock, .func (PySem.W.fnOf "is_clock" "is_clock" (defArgs st_is_clock) (defBody st_is_clock) (defScope st_is_clock) .none kV_is_clock dc_is_clock pm_is_clock an_is_clock (cd_is_clock) ct_is_clock), sl_is_clock⟩)
    (c_is_clock : PySem.W.codeIn K (cd_is_clock) "is_clock" = true)
    (k_is_clock : PySem.W.keepIn K (.ref f_is_clock) = true)
    (a_need_clock : PySem.W.nsIn K mainGlobals "need_clock" = some (some (.ref f_need_clock)))
    (l_need_clock : K.lookup f_need_clock = some ⟨oc_need_clock, od_need_clock, .func (PySem.W.fnOf "need_clock" "need_clock" (defArgs st_need_clock) (defBody st_need_clock) (defScope st_need_clock) .none kV_need_clock dc_need_clock pm_need_clock an_need_clock (cd_need_clock) ct_need_clock), sl_need_clock⟩)
    (c_need_clock : PySem.W.codeIn K (cd_need_clock) "need_clock" = true)
    (k_need_clock : PySem.W.keepIn K (.ref f_need_clock) = true)
    (a_need_turn : PySem.W.nsIn K mainGlobals "need_turn" = some (some (.ref f_need_turn)))
    (l_need_turn : K.lookup f_need_turn = some ⟨oc_need_turn, od_need_turn, .func (PySem.W.fnOf "need_turn" "need_turn" (defArgs st_need_turn) (defBody st_need_turn) (defScope st_need_turn) .none kV_need_turn dc_need_turn pm_need_turn an_need_turn (cd_need_turn) ct_need_turn), sl_need_turn⟩)
    (c_need_turn : PySem.W.codeIn K (cd_need_turn) "need_turn" = true)
    (k_need_turn : PySem.W.keepIn K (.ref f_need_turn) = true)
    (a_hour_at : PySem.W.nsIn K mainGlobals "hour_at" = some (some (.ref f_hour_at)))
    (l_hour_at : K.lookup f_hour_at = some ⟨oc_hour_at, od_hour_at, .func (PySem.W.fnOf "hour_at" "hour_at" (defArgs st_hour_at) (defBody st_hour_at) (defScope st_hour_at) .none kV_hour_at dc_hour_at pm_hour_at an_hour_at (cd_hour_at) ct_hour_at), sl_hour_at⟩)
    (c_hour_at : PySem.W.codeIn K (cd_hour_at) "hour_at" = true)
    (k_hour_at : PySem.W.keepIn K (.ref f_hour_at) = true)
    (a_shows : PySem.W.nsIn K mainGlobals "shows" = some (some (.ref f_shows)))
    (l_shows : K.lookup f_shows = some ⟨oc_shows, od_shows, .func (PySem.W.fnOf "shows" "shows" (defArgs st_shows) (defBody st_shows) (defScope st_shows) .none kV_shows dc_shows pm_shows an_shows (cd_shows) ct_shows), sl_shows⟩)
    (c_shows : PySem.W.codeIn K (cd_shows) "shows" = true)
    (k_shows : PySem.W.keepIn K (.ref f_shows) = true)
    (a_is_right : PySem.W.nsIn K mainGlobals "is_right" = some (some (.ref f_is_right)))
    (l_is_right : K.lookup f_is_right = some ⟨oc_is_right, od_is_right, .func (PySem.W.fnOf "is_right" "is_right" (defArgs st_is_right) (defBody st_is_right) (defScope st_is_right) .none kV_is_right dc_is_right pm_is_right an_is_right (cd_is_right) ct_is_right), sl_is_right⟩)
    (c_is_right : PySem.W.codeIn K (cd_is_right) "is_right" = true)
    (k_is_right : PySem.W.keepIn K (.ref f_is_right) = true)
    (a_witness : PySem.W.nsIn K mainGlobals "witness" = some (some (.ref f_witness)))
    (l_witness : K.lookup f_witness = some ⟨oc_witness, od_witness, .func (PySem.W.fnOf "witness" "witness" (defArgs st_witness) (defBody st_witness) (defScope st_witness) .none kV_witness dc_witness pm_witness an_witness (cd_witness) ct_witness), sl_witness⟩)
    (c_witness : PySem.W.codeIn K (cd_witness) "witness" = true)
    (k_witness : PySem.W.keepIn K (.ref f_witness) = true)
    (a_agree : PySem.W.nsIn K mainGlobals "agree" = some (some (.ref f_agree)))
    (l_agree : K.lookup f_agree = some ⟨oc_agree, od_agree, .func (PySem.W.fnOf "agree" "agree" (defArgs st_agree) (defBody st_agree) (defScope st_agree) .none kV_agree dc_agree pm_agree an_agree (cd_agree) ct_agree), sl_agree⟩)
    (c_agree : PySem.W.codeIn K (cd_agree) "agree" = true)
    (k_agree : PySem.W.keepIn K (.ref f_agree) = true)
    (a_joined : PySem.W.nsIn K mainGlobals "joined" = some (some (.ref f_joined)))
    (l_joined : K.lookup f_joined = some ⟨oc_joined, od_joined, .func (PySem.W.fnOf "joined" "joined" (defArgs st_joined) (defBody st_joined) (defScope st_joined) .none kV_joined dc_joined pm_joined an_joined (cd_joined) ct_joined), sl_joined⟩)
    (c_joined : PySem.W.codeIn K (cd_joined) "joined" = true)
    (k_joined : PySem.W.keepIn K (.ref f_joined) = true)
    (a_inverse : PySem.W.nsIn K mainGlobals "inverse" = some (some (.ref f_inverse)))
    (l_inverse : K.lookup f_inverse = some ⟨oc_inverse, od_inverse, .func (PySem.W.fnOf "inverse" "inverse" (defArgs st_inverse) (defBody st_inverse) (defScope st_inverse) .none kV_inverse dc_inverse pm_inverse an_inverse (cd_inverse) ct_inverse), sl_inverse⟩)
    (c_inverse : PySem.W.codeIn K (cd_inverse) "inverse" = true)
    (k_inverse : PySem.W.keepIn K (.ref f_inverse) = true)
    (a_Wall_init : PySem.W.findIn K (.ref WL) "__init__" = some (some (.ref f_Wall_init)))
    (i_Wall_init : PySem.W.isFn K (.ref f_Wall_init) = true)
    (l_Wall_init : K.lookup f_Wall_init = some ⟨oc_Wall_init, od_Wall_init, .func (PySem.W.fnOf "__init__" "Wall.__init__" (defArgs st_Wall_init) (defBody st_Wall_init) (defScope st_Wall_init) .none kV_Wall_init dc_Wall_init pm_Wall_init an_Wall_init (cd_Wall_init) ct_Wall_init), sl_Wall_init⟩)
    (c_Wall_init : PySem.W.codeIn K (cd_Wall_init) "Wall.__init__" = true)
    (k_Wall_init : PySem.W.keepIn K (.ref f_Wall_init) = true)
    (a_Wall_put : PySem.W.findIn K (.ref WL) "put" = some (some (.ref f_Wall_put)))
    (i_Wall_put : PySem.W.isFn K (.ref f_Wall_put) = true)
    (l_Wall_put : K.lookup f_Wall_put = some ⟨oc_Wall_put, od_Wall_put, .func (PySem.W.fnOf "put" "Wall.put" (defArgs st_Wall_put) (defBody st_Wall_put) (defScope st_Wall_put) .none kV_Wall_put dc_Wall_put pm_Wall_put an_Wall_put (cd_Wall_put) ct_Wall_put), sl_Wall_put⟩)
    (c_Wall_put : PySem.W.codeIn K (cd_Wall_put) "Wall.put" = true)
    (k_Wall_put : PySem.W.keepIn K (.ref f_Wall_put) = true)
    (a_Wall_take : PySem.W.findIn K (.ref WL) "take" = some (some (.ref f_Wall_take)))
    (i_Wall_take : PySem.W.isFn K (.ref f_Wall_take) = true)
    (l_Wall_take : K.lookup f_Wall_take = some ⟨oc_Wall_take, od_Wall_take, .func (PySem.W.fnOf "take" "Wall.take" (defArgs st_Wall_take) (defBody st_Wall_take) (defScope st_Wall_take) .none kV_Wall_take dc_Wall_take pm_Wall_take an_Wall_take (cd_Wall_take) ct_Wall_take), sl_Wall_take⟩)
    (c_Wall_take : PySem.W.codeIn K (cd_Wall_take) "Wall.take" = true)
    (k_Wall_take : PySem.W.keepIn K (.ref f_Wall_take) = true)
    (a_Wall_turn_to : PySem.W.findIn K (.ref WL) "turn_to" = some (some (.ref f_Wall_turn_to)))
    (i_Wall_turn_to : PySem.W.isFn K (.ref f_Wall_turn_to) = true)
    (l_Wall_turn_to : K.lookup f_Wall_turn_to = some ⟨oc_Wall_turn_to, od_Wall_turn_to, .func (PySem.W.fnOf "turn_to" "Wall.turn_to" (defArgs st_Wall_turn_to) (defBody st_Wall_turn_to) (defScope st_Wall_turn_to) .none kV_Wall_turn_to dc_Wall_turn_to pm_Wall_turn_to an_Wall_turn_to (cd_Wall_turn_to) ct_Wall_turn_to), sl_Wall_turn_to⟩)
    (c_Wall_turn_to : PySem.W.codeIn K (cd_Wall_turn_to) "Wall.turn_to" = true)
    (k_Wall_turn_to : PySem.W.keepIn K (.ref f_Wall_turn_to) = true)
    (a_Wall_lay : PySem.W.findIn K (.ref WL) "lay" = some (some (.ref f_Wall_lay)))
    (i_Wall_lay : PySem.W.isFn K (.ref f_Wall_lay) = true)
    (l_Wall_lay : K.lookup f_Wall_lay = some ⟨oc_Wall_lay, od_Wall_lay, .func (PySem.W.fnOf "lay" "Wall.lay" (defArgs st_Wall_lay) (defBody st_Wall_lay) (defScope st_Wall_lay) .none kV_Wall_lay dc_Wall_lay pm_Wall_lay an_Wall_lay (cd_Wall_lay) ct_Wall_lay), sl_Wall_lay⟩)
    (c_Wall_lay : PySem.W.codeIn K (cd_Wall_lay) "Wall.lay" = true)
    (k_Wall_lay : PySem.W.keepIn K (.ref f_Wall_lay) = true)
    (a_Wall_clocks : PySem.W.findIn K (.ref WL) "clocks" = some (some (.ref f_Wall_clocks)))
    (i_Wall_clocks : PySem.W.isFn K (.ref f_Wall_clocks) = true)
    (l_Wall_clocks : K.lookup f_Wall_clocks = some ⟨oc_Wall_clocks, od_Wall_clocks, .func (PySem.W.fnOf "clocks" "Wall.clocks" (defArgs st_Wall_clocks) (defBody st_Wall_clocks) (defScope st_Wall_clocks) .none kV_Wall_clocks dc_Wall_clocks pm_Wall_clocks an_Wall_clocks (cd_Wall_clocks) ct_Wall_clocks), sl_Wall_clocks⟩)
    (c_Wall_clocks : PySem.W.codeIn K (cd_Wall_clocks) "Wall.clocks" = true)
    (k_Wall_clocks : PySem.W.keepIn K (.ref f_Wall_clocks) = true)
    (a_Wall_clash : PySem.W.findIn K (.ref WL) "clash" = some (some (.ref f_Wall_clash)))
    (i_Wall_clash : PySem.W.isFn K (.ref f_Wall_clash) = true)
    (l_Wall_clash : K.lookup f_Wall_clash = some ⟨oc_Wall_clash, od_Wall_clash, .func (PySem.W.fnOf "clash" "Wall.clash" (defArgs st_Wall_clash) (defBody st_Wall_clash) (defScope st_Wall_clash) .none kV_Wall_clash dc_Wall_clash pm_Wall_clash an_Wall_clash (cd_Wall_clash) ct_Wall_clash), sl_Wall_clash⟩)
    (c_Wall_clash : PySem.W.codeIn K (cd_Wall_clash) "Wall.clash" = true)
    (k_Wall_clash : PySem.W.keepIn K (.ref f_Wall_clash) = true)
    (a_Wall_copied : PySem.W.findIn K (.ref WL) "copied" = some (some (.ref f_Wall_copied)))
    (i_Wall_copied : PySem.W.isFn K (.ref f_Wall_copied) = true)
    (l_Wall_copied : K.lookup f_Wall_copied = some ⟨oc_Wall_copied, od_Wall_copied, .func (PySem.W.fnOf "copied" "Wall.copied" (defArgs st_Wall_copied) (defBody st_Wall_copied) (defScope st_Wall_copied) .none kV_Wall_copied dc_Wall_copied pm_Wall_copied an_Wall_copied (cd_Wall_copied) ct_Wall_copied), sl_Wall_copied⟩)
    (c_Wall_copied : PySem.W.codeIn K (cd_Wall_copied) "Wall.copied" = true)
    (k_Wall_copied : PySem.W.keepIn K (.ref f_Wall_copied) = true)
    (a_Wall_fold : PySem.W.findIn K (.ref WL) "fold" = some (some (.ref f_Wall_fold)))
    (i_Wall_fold : PySem.W.isFn K (.ref f_Wall_fold) = true)
    (l_Wall_fold : K.lookup f_Wall_fold = some ⟨oc_Wall_fold, od_Wall_fold, .func (PySem.W.fnOf "fold" "Wall.fold" (defArgs st_Wall_fold) (defBody st_Wall_fold) (defScope st_Wall_fold) .none kV_Wall_fold dc_Wall_fold pm_Wall_fold an_Wall_fold (cd_Wall_fold) ct_Wall_fold), sl_Wall_fold⟩)
    (c_Wall_fold : PySem.W.codeIn K (cd_Wall_fold) "Wall.fold" = true)
    (k_Wall_fold : PySem.W.keepIn K (.ref f_Wall_fold) = true)
    (a_Wall_is_met : PySem.W.findIn K (.ref WL) "is_met" = some (some (.ref f_Wall_is_met)))
    (i_Wall_is_met : PySem.W.isFn K (.ref f_Wall_is_met) = true)
    (l_Wall_is_met : K.lookup f_Wall_is_met = some ⟨oc_Wall_is_met, od_Wall_is_met, .func (PySem.W.fnOf "is_met" "Wall.is_met" (defArgs st_Wall_is_met) (defBody st_Wall_is_met) (defScope st_Wall_is_met) .none kV_Wall_is_met dc_Wall_is_met pm_Wall_is_met an_Wall_is_met (cd_Wall_is_met) ct_Wall_is_met), sl_Wall_is_met⟩)
    (c_Wall_is_met : PySem.W.codeIn K (cd_Wall_is_met) "Wall.is_met" = true)
    (k_Wall_is_met : PySem.W.keepIn K (.ref f_Wall_is_met) = true)
    (a_Wall_next_turn : PySem.W.findIn K (.ref WL) "next_turn" = some (some (.ref f_Wall_next_turn)))
    (i_Wall_next_turn : PySem.W.isFn K (.ref f_Wall_next_turn) = true)
    (l_Wall_next_turn : K.lookup f_Wall_next_turn = some ⟨oc_Wall_next_turn, od_Wall_next_turn, .func (PySem.W.fnOf "next_turn" "Wall.next_turn" (defArgs st_Wall_next_turn) (defBody st_Wall_next_turn) (defScope st_Wall_next_turn) .none kV_Wall_next_turn dc_Wall_next_turn pm_Wall_next_turn an_Wall_next_turn (cd_Wall_next_turn) ct_Wall_next_turn), sl_Wall_next_turn⟩)
    (c_Wall_next_turn : PySem.W.codeIn K (cd_Wall_next_turn) "Wall.next_turn" = true)
    (k_Wall_next_turn : PySem.W.keepIn K (.ref f_Wall_next_turn) = true)
    (a_Wall_last_turn : PySem.W.findIn K (.ref WL) "last_turn" = some (some (.ref f_Wall_last_turn)))
    (i_Wall_last_turn : PySem.W.isFn K (.ref f_Wall_last_turn) = true)
    (l_Wall_last_turn : K.lookup f_Wall_last_turn = some ⟨oc_Wall_last_turn, od_Wall_last_turn, .func (PySem.W.fnOf "last_turn" "Wall.last_turn" (defArgs st_Wall_last_turn) (defBody st_Wall_last_turn) (defScope st_Wall_last_turn) .none kV_Wall_last_turn dc_Wall_last_turn pm_Wall_last_turn an_Wall_last_turn (cd_Wall_last_turn) ct_Wall_last_turn), sl_Wall_last_turn⟩)
    (c_Wall_last_turn : PySem.W.codeIn K (cd_Wall_last_turn) "Wall.last_turn" = true)
    (k_Wall_last_turn : PySem.W.keepIn K (.ref f_Wall_last_turn) = true)
    (a_Wall_clock_of : PySem.W.findIn K (.ref WL) "clock_of" = some (some (.ref f_Wall_clock_of)))
    (i_Wall_clock_of : PySem.W.isFn K (.ref f_Wall_clock_of) = true)
    (l_Wall_clock_of : K.lookup f_Wall_clock_of = some ⟨oc_Wall_clock_of, od_Wall_clock_of, .func (PySem.W.fnOf "clock_of" "Wall.clock_of" (defArgs st_Wall_clock_of) (defBody st_Wall_clock_of) (defScope st_Wall_clock_of) .none kV_Wall_clock_of dc_Wall_clock_of pm_Wall_clock_of an_Wall_clock_of (cd_Wall_clock_of) ct_Wall_clock_of), sl_Wall_clock_of⟩)
    (c_Wall_clock_of : PySem.W.codeIn K (cd_Wall_clock_of) "Wall.clock_of" = true)
    (k_Wall_clock_of : PySem.W.keepIn K (.ref f_Wall_clock_of) = true)
    (a_Wall_need_room : PySem.W.findIn K (.ref WL) "need_room" = some (some (.ref f_Wall_need_room)))
    (i_Wall_need_room : PySem.W.isFn K (.ref f_Wall_need_room) = true)
    (l_Wall_need_room : K.lookup f_Wall_need_room = some ⟨oc_Wall_need_room, od_Wall_need_room, .func (PySem.W.fnOf "need_room" "Wall.need_room" (defArgs st_Wall_need_room) (defBody st_Wall_need_room) (defScope st_Wall_need_room) .none kV_Wall_need_room dc_Wall_need_room pm_Wall_need_room an_Wall_need_room (cd_Wall_need_room) ct_Wall_need_room), sl_Wall_need_room⟩)
    (c_Wall_need_room : PySem.W.codeIn K (cd_Wall_need_room) "Wall.need_room" = true)
    (k_Wall_need_room : PySem.W.keepIn K (.ref f_Wall_need_room) = true)
    (a_wall_needed : PySem.W.nsIn K mainGlobals "wall_needed" = some (some (.ref f_wall_needed)))
    (l_wall_needed : K.lookup f_wall_needed = some ⟨oc_wall_needed, od_wall_needed, .func (PySem.W.fnOf "wall_needed" "wall_needed" (defArgs st_wall_needed) (defBody st_wall_needed) (defScope st_wall_needed) .none kV_wall_needed dc_wall_needed pm_wall_needed an_wall_needed (cd_wall_needed) ct_wall_needed), sl_wall_needed⟩)
    (c_wall_needed : PySem.W.codeIn K (cd_wall_needed) "wall_needed" = true)
    (k_wall_needed : PySem.W.keepIn K (.ref f_wall_needed) = true)
    (a_wall_with : PySem.W.nsIn K mainGlobals "wall_with" = some (some (.ref f_wall_with)))
    (l_wall_with : K.lookup f_wall_with = some ⟨oc_wall_with, od_wall_with, .func (PySem.W.fnOf "wall_with" "wall_with" (defArgs st_wall_with) (defBody st_wall_with) (defScope st_wall_with) .none kV_wall_with dc_wall_with pm_wall_with an_wall_with (cd_wall_with) ct_wall_with), sl_wall_with⟩)
    (c_wall_with : PySem.W.codeIn K (cd_wall_with) "wall_with" = true)
    (k_wall_with : PySem.W.keepIn K (.ref f_wall_with) = true)
    (a_law_mixed : PySem.W.nsIn K mainGlobals "_law_mixed" = some (some (.ref f_law_mixed)))
    (l_law_mixed : K.lookup f_law_mixed = some ⟨oc_law_mixed, od_law_mixed, .func (PySem.W.fnOf "_law_mixed" "_law_mixed" (defArgs st_law_mixed) (defBody st_law_mixed) (defScope st_law_mixed) .none kV_law_mixed dc_law_mixed pm_law_mixed an_law_mixed (cd_law_mixed) ct_law_mixed), sl_law_mixed⟩)
    (c_law_mixed : PySem.W.codeIn K (cd_law_mixed) "_law_mixed" = true)
    (k_law_mixed : PySem.W.keepIn K (.ref f_law_mixed) = true)
    (a_law_wide : PySem.W.nsIn K mainGlobals "_law_wide" = some (some (.ref f_law_wide)))
    (l_law_wide : K.lookup f_law_wide = some ⟨oc_law_wide, od_law_wide, .func (PySem.W.fnOf "_law_wide" "_law_wide" (defArgs st_law_wide) (defBody st_law_wide) (defScope st_law_wide) .none kV_law_wide dc_law_wide pm_law_wide an_law_wide (cd_law_wide) ct_law_wide), sl_law_wide⟩)
    (c_law_wide : PySem.W.codeIn K (cd_law_wide) "_law_wide" = true)
    (k_law_wide : PySem.W.keepIn K (.ref f_law_wide) = true)
    (a_law_hours : PySem.W.nsIn K mainGlobals "_law_hours" = some (some (.ref f_law_hours)))
    (l_law_hours : K.lookup f_law_hours = some ⟨oc_law_hours, od_law_hours, .func (PySem.W.fnOf "_law_hours" "_law_hours" (defArgs st_law_hours) (defBody st_law_hours) (defScope st_law_hours) .none kV_law_hours dc_law_hours pm_law_hours an_law_hours (cd_law_hours) ct_law_hours), sl_law_hours⟩)
    (c_law_hours : PySem.W.codeIn K (cd_law_hours) "_law_hours" = true)
    (k_law_hours : PySem.W.keepIn K (.ref f_law_hours) = true)
    (a_law_turn : PySem.W.nsIn K mainGlobals "_law_turn" = some (some (.ref f_law_turn)))
    (l_law_turn : K.lookup f_law_turn = some ⟨oc_law_turn, od_law_turn, .func (PySem.W.fnOf "_law_turn" "_law_turn" (defArgs st_law_turn) (defBody st_law_turn) (defScope st_law_turn) .none kV_law_turn dc_law_turn pm_law_turn an_law_turn (cd_law_turn) ct_law_turn), sl_law_turn⟩)
    (c_law_turn : PySem.W.codeIn K (cd_law_turn) "_law_turn" = true)
    (k_law_turn : PySem.W.keepIn K (.ref f_law_turn) = true)
    (a_law_common : PySem.W.nsIn K mainGlobals "_law_common" = some (some (.ref f_law_common)))
    (l_law_common : K.lookup f_law_common = some ⟨oc_law_common, od_law_common, .func (PySem.W.fnOf "_law_common" "_law_common" (defArgs st_law_common) (defBody st_law_common) (defScope st_law_common) .none kV_law_common dc_law_common pm_law_common an_law_common (cd_law_common) ct_law_common), sl_law_common⟩)
    (c_law_common : PySem.W.codeIn K (cd_law_common) "_law_common" = true)
    (k_law_common : PySem.W.keepIn K (.ref f_law_common) = true)
    (a_law_meant : PySem.W.nsIn K mainGlobals "_law_meant" = some (some (.ref f_law_meant)))
    (l_law_meant : K.lookup f_law_meant = some ⟨oc_law_meant, od_law_meant, .func (PySem.W.fnOf "_law_meant" "_law_meant" (defArgs st_law_meant) (defBody st_law_meant) (defScope st_law_meant) .none kV_law_meant dc_law_meant pm_law_meant an_law_meant (cd_law_meant) ct_law_meant), sl_law_meant⟩)
    (c_law_meant : PySem.W.codeIn K (cd_law_meant) "_law_meant" = true)
    (k_law_meant : PySem.W.keepIn K (.ref f_law_meant) = true)
    (a_law_done : PySem.W.nsIn K mainGlobals "_law_done" = some (some (.ref f_law_done)))
    (l_law_done : K.lookup f_law_done = some ⟨oc_law_done, od_law_done, .func (PySem.W.fnOf "_law_done" "_law_done" (defArgs st_law_done) (defBody st_law_done) (defScope st_law_done) .none kV_law_done dc_law_done pm_law_done an_law_done (cd_law_done) ct_law_done), sl_law_done⟩)
    (c_law_done : PySem.W.codeIn K (cd_law_done) "_law_done" = true)
    (k_law_done : PySem.W.keepIn K (.ref f_law_done) = true)
    (a_law_hung : PySem.W.nsIn K mainGlobals "_law_hung" = some (some (.ref f_law_hung)))
    (l_law_hung : K.lookup f_law_hung = some ⟨oc_law_hung, od_law_hung, .func (PySem.W.fnOf "_law_hung" "_law_hung" (defArgs st_law_hung) (defBody st_law_hung) (defScope st_law_hung) .none kV_law_hung dc_law_hung pm_law_hung an_law_hung (cd_law_hung) ct_law_hung), sl_law_hung⟩)
    (c_law_hung : PySem.W.codeIn K (cd_law_hung) "_law_hung" = true)
    (k_law_hung : PySem.W.keepIn K (.ref f_law_hung) = true)
    (a_law_folded : PySem.W.nsIn K mainGlobals "_law_folded" = some (some (.ref f_law_folded)))
    (l_law_folded : K.lookup f_law_folded = some ⟨oc_law_folded, od_law_folded, .func (PySem.W.fnOf "_law_folded" "_law_folded" (defArgs st_law_folded) (defBody st_law_folded) (defScope st_law_folded) .none kV_law_folded dc_law_folded pm_law_folded an_law_folded (cd_law_folded) ct_law_folded), sl_law_folded⟩)
    (c_law_folded : PySem.W.codeIn K (cd_law_folded) "_law_folded" = true)
    (k_law_folded : PySem.W.keepIn K (.ref f_law_folded) = true)
    (a_law_is_told : PySem.W.nsIn K mainGlobals "_law_is_told" = some (some (.ref f_law_is_told)))
    (l_law_is_told : K.lookup f_law_is_told = some ⟨oc_law_is_told, od_law_is_told, .func (PySem.W.fnOf "_law_is_told" "_law_is_told" (defArgs st_law_is_told) (defBody st_law_is_told) (defScope st_law_is_told) .none kV_law_is_told dc_law_is_told pm_law_is_told an_law_is_told (cd_law_is_told) ct_law_is_told), sl_law_is_told⟩)
    (c_law_is_told : PySem.W.codeIn K (cd_law_is_told) "_law_is_told" = true)
    (k_law_is_told : PySem.W.keepIn K (.ref f_law_is_told) = true)
    (a_law_between : PySem.W.nsIn K mainGlobals "_law_between" = some (some (.ref f_law_between)))
    (l_law_between : K.lookup f_law_between = some ⟨oc_law_between, od_law_between, .func (PySem.W.fnOf "_law_between" "_law_between" (defArgs st_law_between) (defBody st_law_between) (defScope st_law_between) .none kV_law_between dc_law_between pm_law_between an_law_between (cd_law_between) ct_law_between), sl_law_between⟩)
    (c_law_between : PySem.W.codeIn K (cd_law_between) "_law_between" = true)
    (k_law_between : PySem.W.keepIn K (.ref f_law_between) = true)
    (a_law_turned : PySem.W.nsIn K mainGlobals "_law_turned" = some (some (.ref f_law_turned)))
    (l_law_turned : K.lookup f_law_turned = some ⟨oc_law_turned, od_law_turned, .func (PySem.W.fnOf "_law_turned" "_law_turned" (defArgs st_law_turned) (defBody st_law_turned) (defScope st_law_turned) .none kV_law_turned dc_law_turned pm_law_turned an_law_turned (cd_law_turned) ct_law_turned), sl_law_turned⟩)
    (c_law_turned : PySem.W.codeIn K (cd_law_turned) "_law_turned" = true)
    (k_law_turned : PySem.W.keepIn K (.ref f_law_turned) = true)
    (a_law_less_good : PySem.W.nsIn K mainGlobals "_law_less_good" = some (some (.ref f_law_less_good)))
    (l_law_less_good : K.lookup f_law_less_good = some ⟨oc_law_less_good, od_law_less_good, .func (PySem.W.fnOf "_law_less_good" "_law_less_good" (defArgs st_law_less_good) (defBody st_law_less_good) (defScope st_law_less_good) .none kV_law_less_good dc_law_less_good pm_law_less_good an_law_less_good (cd_law_less_good) ct_law_less_good), sl_law_less_good⟩)
    (c_law_less_good : PySem.W.codeIn K (cd_law_less_good) "_law_less_good" = true)
    (k_law_less_good : PySem.W.keepIn K (.ref f_law_less_good) = true)
    (a_law_laid_good : PySem.W.nsIn K mainGlobals "_law_laid_good" = some (some (.ref f_law_laid_good)))
    (l_law_laid_good : K.lookup f_law_laid_good = some ⟨oc_law_laid_good, od_law_laid_good, .func (PySem.W.fnOf "_law_laid_good" "_law_laid_good" (defArgs st_law_laid_good) (defBody st_law_laid_good) (defScope st_law_laid_good) .none kV_law_laid_good dc_law_laid_good pm_law_laid_good an_law_laid_good (cd_law_laid_good) ct_law_laid_good), sl_law_laid_good⟩)
    (c_law_laid_good : PySem.W.codeIn K (cd_law_laid_good) "_law_laid_good" = true)
    (k_law_laid_good : PySem.W.keepIn K (.ref f_law_laid_good) = true)
    (a_law : PySem.W.nsIn K mainGlobals "law" = some (some (.ref f_law)))
    (l_law : K.lookup f_law = some ⟨oc_law, od_law, .func (PySem.W.fnOf "law" "law" (defArgs st_law) (defBody st_law) (defScope st_law) .none kV_law dc_law pm_law an_law (cd_law) ct_law), sl_law⟩)
    (c_law : PySem.W.codeIn K (cd_law) "law" = true)
    (k_law : PySem.W.keepIn K (.ref f_law) = true)
    : LawAtS l w K L2.CX0 10 63 "_law_script" mg fa h := by
  have e := hfa.symm.trans (PySem.W.mg_of X G a_law)
  cases e
  have T : Txt K mg (Ads.mk CF CB CT CN CM CW CV fa WL fa tk0 tk1 tk0 tk0 tk0 tk0) := { b_int := PySem.W.mg_none_of X G z_int, b_type := PySem.W.mg_none_of X G z_type, b_tuple := PySem.W.mg_none_of X G z_tuple, b_len := PySem.W.mg_none_of X G z_len, b_list := PySem.W.mg_none_of X G z_list, b_enumerate := PySem.W.mg_none_of X G z_enumerate, b_all := PySem.W.mg_none_of X G z_all, b_dict := PySem.W.mg_none_of X G z_dict, b_sorted := PySem.W.mg_none_of X G z_sorted, b_sum := PySem.W.mg_none_of X G z_sum, g_MOST_HOURS := PySem.W.mg_of X G aK_MOST_HOURS, g_MOST_CLOCKS := PySem.W.mg_of X G aK_MOST_CLOCKS, g_FoldError := PySem.W.mg_of X G aC_FoldError, g_BadClock := PySem.W.mg_of X G aC_BadClock, g_BadTurn := PySem.W.mg_of X G aC_BadTurn, g_NoClock := PySem.W.mg_of X G aC_NoClock, g_TooMany := PySem.W.mg_of X G aC_TooMany, g_BadWall := PySem.W.mg_of X G aC_BadWall, g_Never := PySem.W.mg_of X G aC_Never, g_Wall := PySem.W.mg_of X G aC_Wall, n_one := nx_one, n_other := nx_other, x_BadClock := xC_BadClock, k_BadClock := kC_BadClock, s_BadClock := sC_BadClock, t_BadClock := tC_BadClock, m_BadClock := mC_BadClock, x_BadTurn := xC_BadTurn, k_BadTurn := kC_BadTurn, s_BadTurn := sC_BadTurn, t_BadTurn := tC_BadTurn, m_BadTurn := mC_BadTurn, x_NoClock := xC_NoClock, k_NoClock := kC_NoClock, s_NoClock := sC_NoClock, t_NoClock := tC_NoClock, m_NoClock := mC_NoClock, x_TooMany := xC_TooMany, k_TooMany := kC_TooMany, s_TooMany := sC_TooMany, t_TooMany := tC_TooMany, m_TooMany := mC_TooMany, x_BadWall := xC_BadWall, k_BadWall := kC_BadWall, s_BadWall := sC_BadWall, t_BadWall := tC_BadWall, m_BadWall := mC_BadWall, O_Never := ⟨⟨_, _, _, _, _, _, _, _, _, _, _, _, _, _, _, xL_Never, rfl⟩, saC_Never, sC_Never, tC_Never, kC_Never⟩, m_Never := mC_Never, g_gcd := PySem.W.mg_of X G aG_gcd, cl_Wall := ⟨pg, hd, po, sa⟩, n_hung := nf_hung, n_given := nf_given, mm_Never := mm_Never, mk_Wall := mk }
  have F_is_number := fun_mk (st := st_is_number) l_is_number c_is_number k_is_number
  have B_is_number := F_is_number.binds (ps := ["thing"]) fun _ _ _ _ _ _ us hl => match us, hl with | [_], _ => rfl
  have F_is_clock := fun_mk (st := st_is_clock) l_is_clock c_is_clock k_is_clock
  have B_is_clock := F_is_clock.binds (ps := ["thing"]) fun _ _ _ _ _ _ us hl => match us, hl with | [_], _ => rfl
  have F_need_clock := fun_mk (st := st_need_clock) l_need_clock c_need_clock k_need_clock
  have B_need_clock := F_need_clock.binds (ps := ["thing"]) fun _ _ _ _ _ _ us hl => match us, hl with | [_], _ => rfl
  have F_need_turn := fun_mk (st := st_need_turn) l_need_turn c_need_turn k_need_turn
  have B_need_turn := F_need_turn.binds (ps := ["thing"]) fun _ _ _ _ _ _ us hl => match us, hl with | [_], _ => rfl
  have F_hour_at := fun_mk (st := st_hour_at) l_hour_at c_hour_at k_hour_at
  have B_hour_at := F_hour_at.binds (ps := ["clock", "turn"]) fun _ _ _ _ _ _ us hl => match us, hl with | [_, _], _ => rfl
  have F_shows := fun_mk (st := st_shows) l_shows c_shows k_shows
  have B_shows := F_shows.binds (ps := ["clock", "turn"]) fun _ _ _ _ _ _ us hl => match us, hl with | [_, _], _ => rfl
  have F_is_right := fun_mk (st := st_is_right) l_is_right c_is_right k_is_right
  have B_is_right := F_is_right.binds (ps := ["clock", "turn"]) fun _ _ _ _ _ _ us hl => match us, hl with | [_, _], _ => rfl
  have F_witness := fun_mk (st := st_witness) l_witness c_witness k_witness
  have B_witness := F_witness.binds (ps := ["one", "other"]) fun _ _ _ _ _ _ us hl => match us, hl with | [_, _], _ => rfl
  have F_agree := fun_mk (st := st_agree) l_agree c_agree k_agree
  have B_agree := F_agree.binds (ps := ["one", "other"]) fun _ _ _ _ _ _ us hl => match us, hl with | [_, _], _ => rfl
  have F_joined := fun_mk (st := st_joined) l_joined c_joined k_joined
  have B_joined := F_joined.binds (ps := ["one", "other"]) fun _ _ _ _ _ _ us hl => match us, hl with | [_, _], _ => rfl
  have F_inverse := fun_mk (st := st_inverse) l_inverse c_inverse k_inverse
  have B_inverse := F_inverse.binds (ps := ["number", "modulus"]) fun _ _ _ _ _ _ us hl => match us, hl with | [_, _], _ => rfl
  have F_Wall_init := fun_mk (st := st_Wall_init) l_Wall_init c_Wall_init k_Wall_init
  have B_Wall_init := F_Wall_init.binds (ps := ["self"]) fun _ _ _ _ _ _ us hl => match us, hl with | [_], _ => rfl
  have F_Wall_put := fun_mk (st := st_Wall_put) l_Wall_put c_Wall_put k_Wall_put
  have B_Wall_put := F_Wall_put.binds (ps := ["self", "clock"]) fun _ _ _ _ _ _ us hl => match us, hl with | [_, _], _ => rfl
  have F_Wall_take := fun_mk (st := st_Wall_take) l_Wall_take c_Wall_take k_Wall_take
  have B_Wall_take := F_Wall_take.binds (ps := ["self", "number"]) fun _ _ _ _ _ _ us hl => match us, hl with | [_, _], _ => rfl
  have F_Wall_turn_to := fun_mk (st := st_Wall_turn_to) l_Wall_turn_to c_Wall_turn_to k_Wall_turn_to
  have B_Wall_turn_to := F_Wall_turn_to.binds (ps := ["self", "number", "hour"]) fun _ _ _ _ _ _ us hl => match us, hl with | [_, _, _], _ => rfl
  have F_Wall_lay := fun_mk (st := st_Wall_lay) l_Wall_lay c_Wall_lay k_Wall_lay
  have B_Wall_lay := F_Wall_lay.binds (ps := ["self", "other"]) fun _ _ _ _ _ _ us hl => match us, hl with | [_, _], _ => rfl
  have F_Wall_clocks := fun_mk (st := st_Wall_clocks) l_Wall_clocks c_Wall_clocks k_Wall_clocks
  have B_Wall_clocks := F_Wall_clocks.binds (ps := ["self"]) fun _ _ _ _ _ _ us hl => match us, hl with | [_], _ => rfl
  have F_Wall_clash := fun_mk (st := st_Wall_clash) l_Wall_clash c_Wall_clash k_Wall_clash
  have B_Wall_clash := F_Wall_clash.binds (ps := ["self"]) fun _ _ _ _ _ _ us hl => match us, hl with | [_], _ => rfl
  have F_Wall_copied := fun_mk (st := st_Wall_copied) l_Wall_copied c_Wall_copied k_Wall_copied
  have B_Wall_copied := F_Wall_copied.binds (ps := ["self"]) fun _ _ _ _ _ _ us hl => match us, hl with | [_], _ => rfl
  have F_Wall_fold := fun_mk (st := st_Wall_fold) l_Wall_fold c_Wall_fold k_Wall_fold
  have B_Wall_fold := F_Wall_fold.binds (ps := ["self"]) fun _ _ _ _ _ _ us hl => match us, hl with | [_], _ => rfl
  have F_Wall_is_met := fun_mk (st := st_Wall_is_met) l_Wall_is_met c_Wall_is_met k_Wall_is_met
  have B_Wall_is_met := F_Wall_is_met.binds (ps := ["self", "turn"]) fun _ _ _ _ _ _ us hl => match us, hl with | [_, _], _ => rfl
  have F_Wall_next_turn := fun_mk (st := st_Wall_next_turn) l_Wall_next_turn c_Wall_next_turn k_Wall_next_turn
  have B_Wall_next_turn := F_Wall_next_turn.binds (ps := ["self", "turn"]) fun _ _ _ _ _ _ us hl => match us, hl with | [_, _], _ => rfl
  have F_Wall_last_turn := fun_mk (st := st_Wall_last_turn) l_Wall_last_turn c_Wall_last_turn k_Wall_last_turn
  have B_Wall_last_turn := F_Wall_last_turn.binds (ps := ["self", "turn"]) fun _ _ _ _ _ _ us hl => match us, hl with | [_, _], _ => rfl
  have F_Wall_clock_of := fun_mk (st := st_Wall_clock_of) l_Wall_clock_of c_Wall_clock_of k_Wall_clock_of
  have B_Wall_clock_of := F_Wall_clock_of.binds (ps := ["self", "number"]) fun _ _ _ _ _ _ us hl => match us, hl with | [_, _], _ => rfl
  have F_Wall_need_room := fun_mk (st := st_Wall_need_room) l_Wall_need_room c_Wall_need_room k_Wall_need_room
  have B_Wall_need_room := F_Wall_need_room.binds (ps := ["self", "many"]) fun _ _ _ _ _ _ us hl => match us, hl with | [_, _], _ => rfl
  have F_wall_needed := fun_mk (st := st_wall_needed) l_wall_needed c_wall_needed k_wall_needed
  have B_wall_needed := F_wall_needed.binds (ps := ["thing"]) fun _ _ _ _ _ _ us hl => match us, hl with | [_], _ => rfl
  have F_wall_with := fun_mk (st := st_wall_with) l_wall_with c_wall_with k_wall_with
  have B_wall_with := F_wall_with.binds (ps := ["clocks", "given"]) fun _ _ _ _ _ _ us hl => match us, hl with | [_, _], _ => rfl
  have F_law_mixed := fun_mk (st := st_law_mixed) l_law_mixed c_law_mixed k_law_mixed
  have B_law_mixed := F_law_mixed.binds (ps := ["_law_cell", "_law_k"]) fun _ _ _ _ _ _ us hl => match us, hl with | [_, _], _ => rfl
  have F_law_wide := fun_mk (st := st_law_wide) l_law_wide c_law_wide k_law_wide
  have B_law_wide := F_law_wide.binds (ps := ["_law_cell", "_law_k"]) fun _ _ _ _ _ _ us hl => match us, hl with | [_, _], _ => rfl
  have F_law_hours := fun_mk (st := st_law_hours) l_law_hours c_law_hours k_law_hours
  have B_law_hours := F_law_hours.binds (ps := ["_law_cell", "_law_k"]) fun _ _ _ _ _ _ us hl => match us, hl with | [_, _], _ => rfl
  have F_law_turn := fun_mk (st := st_law_turn) l_law_turn c_law_turn k_law_turn
  have B_law_turn := F_law_turn.binds (ps := ["_law_cell", "_law_k"]) fun _ _ _ _ _ _ us hl => match us, hl with | [_, _], _ => rfl
  have F_law_common := fun_mk (st := st_law_common) l_law_common c_law_common k_law_common
  have B_law_common := F_law_common.binds (ps := ["_law_one", "_law_other"]) fun _ _ _ _ _ _ us hl => match us, hl with | [_, _], _ => rfl
  have F_law_meant := fun_mk (st := st_law_meant) l_law_meant c_law_meant k_law_meant
  have B_law_meant := F_law_meant.binds (ps := ["_law_cell", "_law_k", "_law_turn_here"]) fun _ _ _ _ _ _ us hl => match us, hl with | [_, _, _], _ => rfl
  have F_law_done := fun_mk (st := st_law_done) l_law_done c_law_done k_law_done
  have B_law_done := F_law_done.binds (ps := ["_law_shut", "_law_own", "_law_given", "_law_cell", "_law_k", "_law_turn_here"]) fun _ _ _ _ _ _ us hl => match us, hl with | [_, _, _, _, _, _], _ => rfl
  have F_law_hung := fun_mk (st := st_law_hung) l_law_hung c_law_hung k_law_hung
  have B_law_hung := F_law_hung.binds (ps := ["_law_cells", "_law_k", "_law_turn_here"]) fun _ _ _ _ _ _ us hl => match us, hl with | [_, _, _], _ => rfl
  have F_law_folded := fun_mk (st := st_law_folded) l_law_folded c_law_folded k_law_folded
  have B_law_folded := F_law_folded.binds (ps := ["_law_shut"]) fun _ _ _ _ _ _ us hl => match us, hl with | [_], _ => rfl
  have F_law_is_told := fun_mk (st := st_law_is_told) l_law_is_told c_law_is_told k_law_is_told
  have B_law_is_told := F_law_is_told.binds (ps := ["_law_shut"]) fun _ _ _ _ _ _ us hl => match us, hl with | [_], _ => rfl
  have F_law_between := fun_mk (st := st_law_between) l_law_between c_law_between k_law_between
  have B_law_between := F_law_between.binds (ps := ["_law_shut", "_law_turn_here"]) fun _ _ _ _ _ _ us hl => match us, hl with | [_, _], _ => rfl
  have F_law_turned := fun_mk (st := st_law_turned) l_law_turned c_law_turned k_law_turned
  have B_law_turned := F_law_turned.binds (ps := ["_law_shut", "_law_number"]) fun _ _ _ _ _ _ us hl => match us, hl with | [_, _], _ => rfl
  have F_law_less_good := fun_mk (st := st_law_less_good) l_law_less_good c_law_less_good k_law_less_good
  have B_law_less_good := F_law_less_good.binds (ps := ["_law_shut", "_law_number"]) fun _ _ _ _ _ _ us hl => match us, hl with | [_, _], _ => rfl
  have F_law_laid_good := fun_mk (st := st_law_laid_good) l_law_laid_good c_law_laid_good k_law_laid_good
  have B_law_laid_good := F_law_laid_good.binds (ps := ["_law_one", "_law_other"]) fun _ _ _ _ _ _ us hl => match us, hl with | [_, _], _ => rfl
  have F_law := fun_mk (st := st_law) l_law c_law k_law
  have B_law := F_law.binds (ps := ["_law_script"]) fun _ _ _ _ _ _ us hl => match us, hl with | [_], _ => rfl
  refine ⟨PySem.W.fnOf "law" "law" (defArgs st_law) (defBody st_law) (defScope st_law) .none kV_law dc_law pm_law an_law (cd_law) ct_law, [], spLawS K [], fun p hp => ?_, fun p hp => ?_, fun p hp => ?_, fun s u => ?_, fun H a ns hl hb hH hS => ?_, fun base hK hN TB => ?_⟩
  rotate_left 5
  have G_Never_init := ok_Never_init (P := l.prog) (w := w) (base := base) ⟨_, _, _, l_Never_init⟩ T ⟨⟨_, _, _, _, _, _, _, _, _, l_Never_init⟩, c_Never_init, ⟨_, _, _, _, _, _, fl_Never_init, fv_Never_init, fe_Never_init⟩, ⟨_, _, _, ce_Never_init⟩, ms_Never_init, su_Never_init, va_Never_init, lb_Never_init, tp_Never_init⟩ (PySem.W.mg_none_of X G zs_Never_init)
  have C_Never_init : ClE l.prog w K mg base L2.CX0 1 CV "Never" _ := ⟨⟨f_Never_init, _, _, G_Never_init, a_Never_init, t_Never_init, Binds.all fun us hl => match us, hl with | [_, _, _], _ => rfl⟩, PySem.W.mg_of X G aC_Never, T.O_Never⟩
  have G_is_number := ok_is_number (P := l.prog) (w := w) (base := base) F_is_number T
  have C_is_number : Cl l.prog w K mg base L2.CX0 1 "is_number" _ := ⟨f_is_number, _, _, G_is_number, PySem.W.mg_of X G a_is_number, k_is_number, B_is_number⟩
  have G_hour_at := ok_hour_at (P := l.prog) (w := w) (base := base) F_hour_at T
  have C_hour_at : Cl l.prog w K mg base L2.CX0 1 "hour_at" _ := ⟨f_hour_at, _, _, G_hour_at, PySem.W.mg_of X G a_hour_at, k_hour_at, B_hour_at⟩
  have G_inverse := ok_inverse (P := l.prog) (w := w) (base := base) F_inverse T
  have C_inverse : Cl l.prog w K mg base L2.CX0 1 "inverse" _ := ⟨f_inverse, _, _, G_inverse, PySem.W.mg_of X G a_inverse, k_inverse, B_inverse⟩
  have G_Wall_init := ok_Wall_init (P := l.prog) (w := w) (base := base) F_Wall_init T
  have C_Wall_init : ClI l.prog w K mg base L2.CX0 1 _ "Wall" _ := ⟨⟨f_Wall_init, _, _, G_Wall_init, ⟨mk, a_Wall_init, i_Wall_init, kc⟩, B_Wall_init⟩, PySem.W.mg_of X G aC_Wall⟩
  have G_Wall_clocks := ok_Wall_clocks (P := l.prog) (w := w) (base := base) F_Wall_clocks T
  have C_Wall_clocks : ClM l.prog w K mg base L2.CX0 1 _ "clocks" _ := ⟨⟨f_Wall_clocks, _, _, G_Wall_clocks, ⟨a_Wall_clocks, i_Wall_clocks, k_Wall_clocks⟩, B_Wall_clocks⟩, T.cl_Wall⟩
  have G_Wall_need_room := ok_Wall_need_room (P := l.prog) (w := w) (base := base) F_Wall_need_room T
  have C_Wall_need_room : ClM l.prog w K mg base (L2.CX l.prog w) 1 _ "need_room" _ := ⟨⟨f_Wall_need_room, _, _, G_Wall_need_room, ⟨a_Wall_need_room, i_Wall_need_room, k_Wall_need_room⟩, B_Wall_need_room⟩, T.cl_Wall⟩
  have G_wall_needed := ok_wall_needed (P := l.prog) (w := w) (base := base) F_wall_needed T
  have C_wall_needed : Cl l.prog w K mg base (L2.CX l.prog w) 1 "wall_needed" _ := ⟨f_wall_needed, _, _, G_wall_needed, PySem.W.mg_of X G a_wall_needed, k_wall_needed, B_wall_needed⟩
  have G_law_mixed := ok_law_mixed (P := l.prog) (w := w) (base := base) F_law_mixed T
  have C_law_mixed : Cl l.prog w K mg base L2.CX0 1 "_law_mixed" _ := ⟨f_law_mixed, _, _, G_law_mixed, PySem.W.mg_of X G a_law_mixed, k_law_mixed, B_law_mixed⟩
  have G_law_common := ok_law_common (P := l.prog) (w := w) (base := base) F_law_common T
  have C_law_common : Cl l.prog w K mg base L2.CX0 1 "_law_common" _ := ⟨f_law_common, _, _, G_law_common, PySem.W.mg_of X G a_law_common, k_law_common, B_law_common⟩
  have G_is_clock := ok_is_clock (P := l.prog) (w := w) (base := base) F_is_clock T C_is_number
  have C_is_clock : Cl l.prog w K mg base L2.CX0 2 "is_clock" _ := ⟨f_is_clock, _, _, G_is_clock, PySem.W.mg_of X G a_is_clock, k_is_clock, B_is_clock⟩
  have G_need_turn := ok_need_turn (P := l.prog) (w := w) (base := base) F_need_turn T C_is_number
  have C_need_turn : Cl l.prog w K mg base (L2.CX l.prog w) 2 "need_turn" _ := ⟨f_need_turn, _, _, G_need_turn, PySem.W.mg_of X G a_need_turn, k_need_turn, B_need_turn⟩
  have G_joined := ok_joined (P := l.prog) (w := w) (base := base) F_joined T C_inverse
  have C_joined : Cl l.prog w K mg base L2.CX0 2 "joined" _ := ⟨f_joined, _, _, G_joined, PySem.W.mg_of X G a_joined, k_joined, B_joined⟩
  have G_Wall_clock_of := ok_Wall_clock_of (P := l.prog) (w := w) (base := base) F_Wall_clock_of T C_is_number
  have C_Wall_clock_of : ClM l.prog w K mg base (L2.CX l.prog w) 2 _ "clock_of" _ := ⟨⟨f_Wall_clock_of, _, _, G_Wall_clock_of, ⟨a_Wall_clock_of, i_Wall_clock_of, k_Wall_clock_of⟩, B_Wall_clock_of⟩, T.cl_Wall⟩
  have G_law_wide := ok_law_wide (P := l.prog) (w := w) (base := base) F_law_wide T C_law_mixed
  have C_law_wide : Cl l.prog w K mg base L2.CX0 2 "_law_wide" _ := ⟨f_law_wide, _, _, G_law_wide, PySem.W.mg_of X G a_law_wide, k_law_wide, B_law_wide⟩
  have G_need_clock := ok_need_clock (P := l.prog) (w := w) (base := base) F_need_clock T C_is_clock
  have C_need_clock : Cl l.prog w K mg base (L2.CX l.prog w) 3 "need_clock" _ := ⟨f_need_clock, _, _, G_need_clock, PySem.W.mg_of X G a_need_clock, k_need_clock, B_need_clock⟩
  have G_Wall_take := ok_Wall_take (P := l.prog) (w := w) (base := base) F_Wall_take T C_Wall_clock_of
  have C_Wall_take : ClM l.prog w K mg base (L2.CX l.prog w) 3 _ "take" _ := ⟨⟨f_Wall_take, _, _, G_Wall_take, ⟨a_Wall_take, i_Wall_take, k_Wall_take⟩, B_Wall_take⟩, T.cl_Wall⟩
  have G_wall_with := ok_wall_with (P := l.prog) (w := w) (base := base) F_wall_with T C_Wall_init
  have C_wall_with : Cl l.prog w K mg base L2.CX0 3 "wall_with" _ := ⟨f_wall_with, _, _, G_wall_with, PySem.W.mg_of X G a_wall_with, k_wall_with, B_wall_with⟩
  have G_law_hours := ok_law_hours (P := l.prog) (w := w) (base := base) F_law_hours T C_law_mixed C_law_wide
  have C_law_hours : Cl l.prog w K mg base L2.CX0 3 "_law_hours" _ := ⟨f_law_hours, _, _, G_law_hours, PySem.W.mg_of X G a_law_hours, k_law_hours, B_law_hours⟩
  have G_law_turn := ok_law_turn (P := l.prog) (w := w) (base := base) F_law_turn T C_law_mixed C_law_wide
  have C_law_turn : Cl l.prog w K mg base L2.CX0 3 "_law_turn" _ := ⟨f_law_turn, _, _, G_law_turn, PySem.W.mg_of X G a_law_turn, k_law_turn, B_law_turn⟩
  have G_shows := ok_shows (P := l.prog) (w := w) (base := base) F_shows T C_need_clock C_need_turn C_hour_at
  have C_shows : Cl l.prog w K mg base (L2.CX l.prog w) 4 "shows" _ := ⟨f_shows, _, _, G_shows, PySem.W.mg_of X G a_shows, k_shows, B_shows⟩
  have G_witness := ok_witness (P := l.prog) (w := w) (base := base) F_witness T C_need_clock
  have C_witness : Cl l.prog w K mg base (L2.CX l.prog w) 4 "witness" _ := ⟨f_witness, _, _, G_witness, PySem.W.mg_of X G a_witness, k_witness, B_witness⟩
  have G_Wall_put := ok_Wall_put (P := l.prog) (w := w) (base := base) F_Wall_put T C_need_clock C_Wall_need_room
  have C_Wall_put : ClM l.prog w K mg base (L2.CX l.prog w) 4 _ "put" _ := ⟨⟨f_Wall_put, _, _, G_Wall_put, ⟨a_Wall_put, i_Wall_put, k_Wall_put⟩, B_Wall_put⟩, T.cl_Wall⟩
  have G_Wall_turn_to := ok_Wall_turn_to (P := l.prog) (w := w) (base := base) F_Wall_turn_to T C_need_clock C_Wall_clock_of
  have C_Wall_turn_to : ClM l.prog w K mg base (L2.CX l.prog w) 4 _ "turn_to" _ := ⟨⟨f_Wall_turn_to, _, _, G_Wall_turn_to, ⟨a_Wall_turn_to, i_Wall_turn_to, k_Wall_turn_to⟩, B_Wall_turn_to⟩, T.cl_Wall⟩
  have G_Wall_copied := ok_Wall_copied (P := l.prog) (w := w) (base := base) F_Wall_copied T C_Wall_clocks C_wall_with
  have C_Wall_copied : ClM l.prog w K mg base L2.CX0 4 _ "copied" _ := ⟨⟨f_Wall_copied, _, _, G_Wall_copied, ⟨a_Wall_copied, i_Wall_copied, k_Wall_copied⟩, B_Wall_copied⟩, T.cl_Wall⟩
  have G_law_meant := ok_law_meant (P := l.prog) (w := w) (base := base) F_law_meant T C_law_mixed C_law_wide C_law_hours
  have C_law_meant : Cl l.prog w K mg base L2.CX0 4 "_law_meant" _ := ⟨f_law_meant, _, _, G_law_meant, PySem.W.mg_of X G a_law_meant, k_law_meant, B_law_meant⟩
  have G_is_right := ok_is_right (P := l.prog) (w := w) (base := base) F_is_right T C_shows
  have C_is_right : Cl l.prog w K mg base (L2.CX l.prog w) 5 "is_right" _ := ⟨f_is_right, _, _, G_is_right, PySem.W.mg_of X G a_is_right, k_is_right, B_is_right⟩
  have G_agree := ok_agree (P := l.prog) (w := w) (base := base) F_agree T C_witness
  have C_agree : Cl l.prog w K mg base (L2.CX l.prog w) 5 "agree" _ := ⟨f_agree, _, _, G_agree, PySem.W.mg_of X G a_agree, k_agree, B_agree⟩
  have G_Wall_lay := ok_Wall_lay (P := l.prog) (w := w) (base := base) F_Wall_lay T C_Wall_put C_Wall_clocks C_Wall_need_room C_wall_needed
  have C_Wall_lay : ClM l.prog w K mg base (L2.CX l.prog w) 5 _ "lay" _ := ⟨⟨f_Wall_lay, _, _, G_Wall_lay, ⟨a_Wall_lay, i_Wall_lay, k_Wall_lay⟩, B_Wall_lay⟩, T.cl_Wall⟩
  have G_law_done := ok_law_done (P := l.prog) (w := w) (base := base) F_law_done T C_Wall_put C_Wall_take C_Wall_turn_to C_law_mixed C_law_wide C_law_meant
  have C_law_done : Cl l.prog w K mg base L2.CX0 5 "_law_done" _ := ⟨f_law_done, _, _, G_law_done, PySem.W.mg_of X G a_law_done, k_law_done, B_law_done⟩
  have G_law_turned := ok_law_turned (P := l.prog) (w := w) (base := base) F_law_turned T C_Wall_init C_Wall_put C_Wall_clocks
  have C_law_turned : Cl l.prog w K mg base L2.CX0 5 "_law_turned" _ := ⟨f_law_turned, _, _, G_law_turned, PySem.W.mg_of X G a_law_turned, k_law_turned, B_law_turned⟩
  have G_Wall_clash := ok_Wall_clash (P := l.prog) (w := w) (base := base) F_Wall_clash T C_agree C_Wall_clocks
  have C_Wall_clash : ClM l.prog w K mg base (L2.CX l.prog w) 6 _ "clash" _ := ⟨⟨f_Wall_clash, _, _, G_Wall_clash, ⟨a_Wall_clash, i_Wall_clash, k_Wall_clash⟩, B_Wall_clash⟩, T.cl_Wall⟩
  have G_Wall_is_met := ok_Wall_is_met (P := l.prog) (w := w) (base := base) F_Wall_is_met T C_need_turn C_is_right
  have C_Wall_is_met : ClM l.prog w K mg base (L2.CX l.prog w) 6 _ "is_met" _ := ⟨⟨f_Wall_is_met, _, _, G_Wall_is_met, ⟨a_Wall_is_met, i_Wall_is_met, k_Wall_is_met⟩, B_Wall_is_met⟩, T.cl_Wall⟩
  have G_law_hung := ok_law_hung (P := l.prog) (w := w) (base := base) F_law_hung T C_Wall_init C_law_done
  have C_law_hung : Cl l.prog w K mg base L2.CX0 6 "_law_hung" _ := ⟨f_law_hung, _, _, G_law_hung, PySem.W.mg_of X G a_law_hung, k_law_hung, B_law_hung⟩
  have G_Wall_fold := ok_Wall_fold (P := l.prog) (w := w) (base := base) F_Wall_fold T C_Never_init C_joined C_Wall_clash
  have C_Wall_fold : ClM l.prog w K mg base (L2.CX l.prog w) 7 _ "fold" _ := ⟨⟨f_Wall_fold, _, _, G_Wall_fold, ⟨a_Wall_fold, i_Wall_fold, k_Wall_fold⟩, B_Wall_fold⟩, T.cl_Wall⟩
  have G_Wall_next_turn := ok_Wall_next_turn (P := l.prog) (w := w) (base := base) F_Wall_next_turn T C_need_turn C_Wall_fold
  have C_Wall_next_turn : ClM l.prog w K mg base (L2.CX l.prog w) 8 _ "next_turn" _ := ⟨⟨f_Wall_next_turn, _, _, G_Wall_next_turn, ⟨a_Wall_next_turn, i_Wall_next_turn, k_Wall_next_turn⟩, B_Wall_next_turn⟩, T.cl_Wall⟩
  have G_Wall_last_turn := ok_Wall_last_turn (P := l.prog) (w := w) (base := base) F_Wall_last_turn T C_need_turn C_Wall_fold
  have C_Wall_last_turn : ClM l.prog w K mg base (L2.CX l.prog w) 8 _ "last_turn" _ := ⟨⟨f_Wall_last_turn, _, _, G_Wall_last_turn, ⟨a_Wall_last_turn, i_Wall_last_turn, k_Wall_last_turn⟩, B_Wall_last_turn⟩, T.cl_Wall⟩
  have G_law_folded := ok_law_folded (P := l.prog) (w := w) (base := base) F_law_folded T C_Wall_fold
  have C_law_folded : Cl l.prog w K mg base L2.CX0 8 "_law_folded" _ := ⟨f_law_folded, _, _, G_law_folded, PySem.W.mg_of X G a_law_folded, k_law_folded, B_law_folded⟩
  have G_law_less_good := ok_law_less_good (P := l.prog) (w := w) (base := base) F_law_less_good T C_Wall_take C_Wall_clocks C_Wall_copied C_Wall_fold C_Wall_is_met
  have C_law_less_good : Cl l.prog w K mg base L2.CX0 8 "_law_less_good" _ := ⟨f_law_less_good, _, _, G_law_less_good, PySem.W.mg_of X G a_law_less_good, k_law_less_good, B_law_less_good⟩
  have G_law_is_told := ok_law_is_told (P := l.prog) (w := w) (base := base) F_law_is_told T C_is_right C_agree C_Wall_clocks C_Wall_clash C_law_folded
  have C_law_is_told : Cl l.prog w K mg base L2.CX0 9 "_law_is_told" _ := ⟨f_law_is_told, _, _, G_law_is_told, PySem.W.mg_of X G a_law_is_told, k_law_is_told, B_law_is_told⟩
  have G_law_between := ok_law_between (P := l.prog) (w := w) (base := base) F_law_between T C_Wall_fold C_Wall_is_met C_Wall_next_turn C_Wall_last_turn
  have C_law_between : Cl l.prog w K mg base L2.CX0 9 "_law_between" _ := ⟨f_law_between, _, _, G_law_between, PySem.W.mg_of X G a_law_between, k_law_between, B_law_between⟩
  have G_law_laid_good := ok_law_laid_good (P := l.prog) (w := w) (base := base) F_law_laid_good T C_Wall_lay C_Wall_copied C_law_common C_law_folded
  have C_law_laid_good : Cl l.prog w K mg base L2.CX0 9 "_law_laid_good" _ := ⟨f_law_laid_good, _, _, G_law_laid_good, PySem.W.mg_of X G a_law_laid_good, k_law_laid_good, B_law_laid_good⟩
  exact ok_law (P := l.prog) (w := w) (base := base) F_law T C_Wall_clocks C_law_mixed C_law_turn C_law_hung C_law_folded C_law_is_told C_law_between C_law_turned C_law_less_good C_law_laid_good
  · cases hp
  · cases hp
  · cases hp
  · exact .of_eq rfl
  · exact ⟨a, ns, rfl, hS, hl, (fun p hp => nomatch hp), fun _ => rfl⟩
end Dn
open PySem PySem.W PyProof.Rows
set_option maxRecDepth 100000 in
set_option maxHeartbeats 0 in
theorem PySem.Challenge.cw_restfold_k01_whole_all_of_a_wall_meet_holds : PySem.Challenge.rw_restfold_k01_whole_all_of_a_wall_meet.Holds := by
  w_on; o_law; k_head; (case hw => w_witness2)
  k_fill
  refine LamX.walk_ofTs (CX := fun _ => L2.CX0) (k := 10) (l := PySem.Challenge.rw_restfold_k01_whole_all_of_a_wall_meet) (x := "_law_script") rfl (by decide) rfl ⟨rfl, by decide, by decide⟩ (fun w h Y => PySem.W.kIn_of Y) ?F (fun _ _ _ _ _ z => z)
  case F =>
    intro w mg fa h Y KX G hmg
    refine' Dn.all_mk KX G hmg (fun _ z => nomatch z) ?z_int ?z_type ?z_tuple ?z_len ?z_list ?z_enumerate ?z_all ?z_dict ?z_sorted ?z_sum ?aK_MOST_HOURS ?aK_MOST_CLOCKS ?aC_FoldError ?aC_BadClock ?aC_BadTurn ?aC_NoClock ?aC_TooMany ?aC_BadWall ?aC_Never ?aC_Wall ?nx_one ?nx_other ?xC_BadClock ?kC_BadClock ?sC_BadClock ?tC_BadClock ?mC_BadClock ?xC_BadTurn ?kC_BadTurn ?sC_BadTurn ?tC_BadTurn ?mC_BadTurn ?xC_NoClock ?kC_NoClock ?sC_NoClock ?tC_NoClock ?mC_NoClock ?xC_TooMany ?kC_TooMany ?sC_TooMany ?tC_TooMany ?mC_TooMany ?xC_BadWall ?kC_BadWall ?sC_BadWall ?tC_BadWall ?mC_BadWall ?sC_Never ?tC_Never ?kC_Never ?saC_Never ?xL_Never ?mC_Never ?aG_gcd ?pg ?hd ?po ?sa ?mk ?kc ?nf_hung ?nf_given ?mm_Never ?a_Never_init ?t_Never_init ?l_Never_init ?c_Never_init ?fl_Never_init ?fv_Never_init ?fe_Never_init ?ce_Never_init ?ms_Never_init ?su_Never_init ?va_Never_init ?lb_Never_init ?tp_Never_init ?zs_Never_init ?a_is_number ?l_is_number ?c_is_number ?k_is_number ?a_is_clock ?l_is_clock ?c_is_clock ?k_is_clock ?a_need_clock ?l_need_clock ?c_need_clock ?k_need_clock ?a_need_turn ?l_need_turn ?c_need_turn ?k_need_turn ?a_hour_at ?l_hour_at ?c_hour_at ?k_hour_at ?a_shows ?l_shows ?c_shows ?k_shows ?a_is_right ?l_is_right ?c_is_right ?k_is_right ?a_witness ?l_witness ?c_witness ?k_witness ?a_agree ?l_agree ?c_agree ?k_agree ?a_joined ?l_joined ?c_joined ?k_joined ?a_inverse ?l_inverse ?c_inverse ?k_inverse ?a_Wall_init ?i_Wall_init ?l_Wall_init ?c_Wall_init ?k_Wall_init ?a_Wall_put ?i_Wall_put ?l_Wall_put ?c_Wall_put ?k_Wall_put ?a_Wall_take ?i_Wall_take ?l_Wall_take ?c_Wall_take ?k_Wall_take ?a_Wall_turn_to ?i_Wall_turn_to ?l_Wall_turn_to ?c_Wall_turn_to ?k_Wall_turn_to ?a_Wall_lay ?i_Wall_lay ?l_Wall_lay ?c_Wall_lay ?k_Wall_lay ?a_Wall_clocks ?i_Wall_clocks ?l_Wall_clocks ?c_Wall_clocks ?k_Wall_clocks ?a_Wall_clash ?i_Wall_clash ?l_Wall_clash ?c_Wall_clash ?k_Wall_clash ?a_Wall_copied ?i_Wall_copied ?l_Wall_copied ?c_Wall_copied ?k_Wall_copied ?a_Wall_fold ?i_Wall_fold ?l_Wall_fold ?c_Wall_fold ?k_Wall_fold ?a_Wall_is_met ?i_Wall_is_met ?l_Wall_is_met ?c_Wall_is_met ?k_Wall_is_met ?a_Wall_next_turn ?i_Wall_next_turn ?l_Wall_next_turn ?c_Wall_next_turn ?k_Wall_next_turn ?a_Wall_last_turn ?i_Wall_last_turn ?l_Wall_last_turn ?c_Wall_last_turn ?k_Wall_last_turn ?a_Wall_clock_of ?i_Wall_clock_of ?l_Wall_clock_of ?c_Wall_clock_of ?k_Wall_clock_of ?a_Wall_need_room ?i_Wall_need_room ?l_Wall_need_room ?c_Wall_need_room ?k_Wall_need_room ?a_wall_needed ?l_wall_needed ?c_wall_needed ?k_wall_needed ?a_wall_with ?l_wall_with ?c_wall_with ?k_wall_with ?a_law_mixed ?l_law_mixed ?c_law_mixed ?k_law_mixed ?a_law_wide ?l_law_wide ?c_law_wide ?k_law_wide ?a_law_hours ?l_law_hours ?c_law_hours ?k_law_hours ?a_law_turn ?l_law_turn ?c_law_turn ?k_law_turn ?a_law_common ?l_law_common ?c_law_common ?k_law_common ?a_law_meant ?l_law_meant ?c_law_meant ?k_law_meant ?a_law_done ?l_law_done ?c_law_done ?k_law_done ?a_law_hung ?l_law_hung ?c_law_hung ?k_law_hung ?a_law_folded ?l_law_folded ?c_law_folded ?k_law_folded ?a_law_is_told ?l_law_is_told ?c_law_is_told ?k_law_is_told ?a_law_between ?l_law_between ?c_law_between ?k_law_between ?a_law_turned ?l_law_turned ?c_law_turned ?k_law_turned ?a_law_less_good ?l_law_less_good ?c_law_less_good ?k_law_less_good ?a_law_laid_good ?l_law_laid_good ?c_law_laid_good ?k_law_laid_good ?a_law ?l_law ?c_law ?k_law
    (case z_int => k_is)
    (case z_type => k_is)
    (case z_tuple => k_is)
    (case z_len => k_is)
    (case z_list => k_is)
    (case z_enumerate => k_is)
    (case z_all => k_is)
    (case z_dict => k_is)
    (case z_sorted => k_is)
    (case z_sum => k_is)
    (case aK_MOST_HOURS => k_is)
    (case aK_MOST_CLOCKS => k_is)
    (case aC_FoldError => k_is)
    (case aC_BadClock => k_is)
    (case aC_BadTurn => k_is)
    (case aC_NoClock => k_is)
    (case aC_TooMany => k_is)
    (case aC_BadWall => k_is)
    (case aC_Never => k_is)
    (case aC_Wall => k_is)
    (case nx_one => k_is)
    (case nx_other => k_is)
    (case xC_BadClock => first | k_exc | k_is)
    (case kC_BadClock => k_is)
    (case sC_BadClock => k_is)
    (case tC_BadClock => k_is)
    (case mC_BadClock => first | k_is | rfl)
    (case xC_BadTurn => first | k_exc | k_is)
    (case kC_BadTurn => k_is)
    (case sC_BadTurn => k_is)
    (case tC_BadTurn => k_is)
    (case mC_BadTurn => first | k_is | rfl)
    (case xC_NoClock => first | k_exc | k_is)
    (case kC_NoClock => k_is)
    (case sC_NoClock => k_is)
    (case tC_NoClock => k_is)
    (case mC_NoClock => first | k_is | rfl)
    (case xC_TooMany => first | k_exc | k_is)
    (case kC_TooMany => k_is)
    (case sC_TooMany => k_is)
    (case tC_TooMany => k_is)
    (case mC_TooMany => first | k_is | rfl)
    (case xC_BadWall => first | k_exc | k_is)
    (case kC_BadWall => k_is)
    (case sC_BadWall => k_is)
    (case tC_BadWall => k_is)
    (case mC_BadWall => first | k_is | rfl)
    (case sC_Never => k_is)
    (case tC_Never => k_is)
    (case kC_Never => k_is)
    (case saC_Never => k_is)
    (case xL_Never => k_is)
    (case mC_Never => first | k_is | rfl)
    (case aG_gcd => k_is)
    (case pg => k_is)
    (case hd => k_is)
    (case po => k_is)
    (case sa => k_is)
    (case mk => k_is)
    (case kc => k_is)
    (case nf_hung => k_is)
    (case nf_given => k_is)
    (case mm_Never => first | k_is | rfl)
    (case a_Never_init => k_is)
    (case t_Never_init => k_is)
    (case l_Never_init => k_is)
    (case c_Never_init => k_is)
    (case fl_Never_init => k_is)
    (case fv_Never_init => first | k_is | rfl)
    (case fe_Never_init => first | rfl | decide +kernel)
    (case ce_Never_init => k_is)
    (case ms_Never_init => first | k_is | rfl)
    (case su_Never_init => first | k_is | rfl)
    (case va_Never_init => first | k_is | rfl)
    (case lb_Never_init => k_is)
    (case tp_Never_init => first | rfl | decide +kernel)
    (case zs_Never_init => k_is)
    (case a_is_number => k_is)
    (case l_is_number => k_is)
    (case c_is_number => k_is)
    (case k_is_number => k_is)
    (case a_is_clock => k_is)
    (case l_is_clock => k_is)
    (case c_is_clock => k_is)
    (case k_is_clock => k_is)
    (case a_need_clock => k_is)
    (case l_need_clock => k_is)
    (case c_need_clock => k_is)
    (case k_need_clock => k_is)
    (case a_need_turn => k_is)
    (case l_need_turn => k_is)
    (case c_need_turn => k_is)
    (case k_need_turn => k_is)
    (case a_hour_at => k_is)
    (case l_hour_at => k_is)
    (case c_hour_at => k_is)
    (case k_hour_at => k_is)
    (case a_shows => k_is)
    (case l_shows => k_is)
    (case c_shows => k_is)
    (case k_shows => k_is)
    (case a_is_right => k_is)
    (case l_is_right => k_is)
    (case c_is_right => k_is)
    (case k_is_right => k_is)
    (case a_witness => k_is)
    (case l_witness => k_is)
    (case c_witness => k_is)
    (case k_witness => k_is)
    (case a_agree => k_is)
    (case l_agree => k_is)
    (case c_agree => k_is)
    (case k_agree => k_is)
    (case a_joined => k_is)
    (case l_joined => k_is)
    (case c_joined => k_is)
    (case k_joined => k_is)
    (case a_inverse => k_is)
    (case l_inverse => k_is)
    (case c_inverse => k_is)
    (case k_inverse => k_is)
    (case a_Wall_init => k_is)
    (case i_Wall_init => k_is)
    (case l_Wall_init => k_is)
    (case c_Wall_init => k_is)
    (case k_Wall_init => k_is)
    (case a_Wall_put => k_is)
    (case i_Wall_put => k_is)
    (case l_Wall_put => k_is)
    (case c_Wall_put => k_is)
    (case k_Wall_put => k_is)
    (case a_Wall_take => k_is)
    (case i_Wall_take => k_is)
    (case l_Wall_take => k_is)
    (case c_Wall_take => k_is)
    (case k_Wall_take => k_is)
    (case a_Wall_turn_to => k_is)
    (case i_Wall_turn_to => k_is)
    (case l_Wall_turn_to => k_is)
    (case c_Wall_turn_to => k_is)
    (case k_Wall_turn_to => k_is)
    (case a_Wall_lay => k_is)
    (case i_Wall_lay => k_is)
    (case l_Wall_lay => k_is)
    (case c_Wall_lay => k_is)
    (case k_Wall_lay => k_is)
    (case a_Wall_clocks => k_is)
    (case i_Wall_clocks => k_is)
    (case l_Wall_clocks => k_is)
    (case c_Wall_clocks => k_is)
    (case k_Wall_clocks => k_is)
    (case a_Wall_clash => k_is)
    (case i_Wall_clash => k_is)
    (case l_Wall_clash => k_is)
    (case c_Wall_clash => k_is)
    (case k_Wall_clash => k_is)
    (case a_Wall_copied => k_is)
    (case i_Wall_copied => k_is)
    (case l_Wall_copied => k_is)
    (case c_Wall_copied => k_is)
    (case k_Wall_copied => k_is)
    (case a_Wall_fold => k_is)
    (case i_Wall_fold => k_is)
    (case l_Wall_fold => k_is)
    (case c_Wall_fold => k_is)
    (case k_Wall_fold => k_is)
    (case a_Wall_is_met => k_is)
    (case i_Wall_is_met => k_is)
    (case l_Wall_is_met => k_is)
    (case c_Wall_is_met => k_is)
    (case k_Wall_is_met => k_is)
    (case a_Wall_next_turn => k_is)
    (case i_Wall_next_turn => k_is)
    (case l_Wall_next_turn => k_is)
    (case c_Wall_next_turn => k_is)
    (case k_Wall_next_turn => k_is)
    (case a_Wall_last_turn => k_is)
    (case i_Wall_last_turn => k_is)
    (case l_Wall_last_turn => k_is)
    (case c_Wall_last_turn => k_is)
    (case k_Wall_last_turn => k_is)
    (case a_Wall_clock_of => k_is)
    (case i_Wall_clock_of => k_is)
    (case l_Wall_clock_of => k_is)
    (case c_Wall_clock_of => k_is)
    (case k_Wall_clock_of => k_is)
    (case a_Wall_need_room => k_is)
    (case i_Wall_need_room => k_is)
    (case l_Wall_need_room => k_is)
    (case c_Wall_need_room => k_is)
    (case k_Wall_need_room => k_is)
    (case a_wall_needed => k_is)
    (case l_wall_needed => k_is)
    (case c_wall_needed => k_is)
    (case k_wall_needed => k_is)
    (case a_wall_with => k_is)
    (case l_wall_with => k_is)
    (case c_wall_with => k_is)
    (case k_wall_with => k_is)
    (case a_law_mixed => k_is)
    (case l_law_mixed => k_is)
    (case c_law_mixed => k_is)
    (case k_law_mixed => k_is)
    (case a_law_wide => k_is)
    (case l_law_wide => k_is)
    (case c_law_wide => k_is)
    (case k_law_wide => k_is)
    (case a_law_hours => k_is)
    (case l_law_hours => k_is)
    (case c_law_hours => k_is)
    (case k_law_hours => k_is)
    (case a_law_turn => k_is)
    (case l_law_turn => k_is)
    (case c_law_turn => k_is)
    (case k_law_turn => k_is)
    (case a_law_common => k_is)
    (case l_law_common => k_is)
    (case c_law_common => k_is)
    (case k_law_common => k_is)
    (case a_law_meant => k_is)
    (case l_law_meant => k_is)
    (case c_law_meant => k_is)
    (case k_law_meant => k_is)
    (case a_law_done => k_is)
    (case l_law_done => k_is)
    (case c_law_done => k_is)
    (case k_law_done => k_is)
    (case a_law_hung => k_is)
    (case l_law_hung => k_is)
    (case c_law_hung => k_is)
    (case k_law_hung => k_is)
    (case a_law_folded => k_is)
    (case l_law_folded => k_is)
    (case c_law_folded => k_is)
    (case k_law_folded => k_is)
    (case a_law_is_told => k_is)
    (case l_law_is_told => k_is)
    (case c_law_is_told => k_is)
    (case k_law_is_told => k_is)
    (case a_law_between => k_is)
    (case l_law_between => k_is)
    (case c_law_between => k_is)
    (case k_law_between => k_is)
    (case a_law_turned => k_is)
    (case l_law_turned => k_is)
    (case c_law_turned => k_is)
    (case k_law_turned => k_is)
    (case a_law_less_good => k_is)
    (case l_law_less_good => k_is)
    (case c_law_less_good => k_is)
    (case k_law_less_good => k_is)
    (case a_law_laid_good => k_is)
    (case l_law_laid_good => k_is)
    (case c_law_laid_good => k_is)
    (case k_law_laid_good => k_is)
    (case a_law => k_is)
    (case l_law => k_is)
    (case c_law => k_is)
    (case k_law => k_is)
#print axioms PySem.Challenge.cw_restfold_k01_whole_all_of_a_wall_meet_holds
