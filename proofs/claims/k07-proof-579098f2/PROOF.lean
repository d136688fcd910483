import PyProof.Rows.All
import Wide.All
import OpenK.AllK
import Wide.FinOn
import HandS.ForMost
import HandS.Evl
import HandS.RevRange
import HandS.Wide
import HandS.WideBits
import HandS.Walk
import HandS.IsInst
import HandS.ForExc
import HandS.Defaults
import HandS.ExcInit
import HandS.Style
import HandS.Conv
import HandS.OwnEq
import HandS.ExcField
import HandS.ExcIs
import HandS.MakeKwOnly
import HandS.Ends
import HandS.Small
import HandS.NoneIn
import KE.KAssignIn
import OpenK.KOps
import PyProof.InstNe
import HandS.Records
import PySem.Challenge.RW_curveheads_k07_curves
set_option Elab.async false
set_option linter.all false
set_option maxRecDepth 100000
set_option maxHeartbeats 2000000
/-! the data of a program as plain trees; what evaluates to which data -/
namespace Mr
open PySem PySem.Spec PyProof.Rows L2
open Evl (Ex)

/-! ### data -/
inductive D where
  | non
  | bl (b : Bool)
  | int (i : Int)
  | str (x : Str)
  | lst (ds : List D)
  | tup (ds : List D)
  | obj (c : Nat) (ds : List D)
instance : Inhabited D := ⟨.non⟩
/-- the classes of the program: where each stands, its attributes in the order of their first store -/
structure CT where
  cls : Nat → Addr
  nam : Nat → List Str
  exc : Nat → Addr

mutual
inductive Dv (K : PySem.W.Frag) (T : CT) (F : Hp) : V → D → Prop
  | non : Dv K T F .non .non
  | bl (b : Bool) : Dv K T F (.bl b) (.bl b)
  | int (i : Int) : Dv K T F (.int i) (.int i)
  | str (x : Str) : Dv K T F (.str x) (.str x)
  | lst {a : Addr} {xs : List V} {ds : List D} : F a = some (.lst xs) → DvA K T F xs ds → Dv K T F (.ref a) (.lst ds)
  | tup {a : Addr} {xs : List V} {ds : List D} : SqT K F a xs → DvA K T F xs ds → Dv K T F (.ref a) (.tup ds)
  | obj {a dx : Addr} {c : Nat} {xs : List V} {ds : List D} : F a = some (.ins (T.cls c) dx ((T.nam c).zip xs)) → xs.length = (T.nam c).length → DvA K T F xs ds → Dv K T F (.ref a) (.obj c ds)
inductive DvA (K : PySem.W.Frag) (T : CT) (F : Hp) : List V → List D → Prop
  | nil : DvA K T F [] []
  | cons {v : V} {vs : List V} {d : D} {ds : List D} : Dv K T F v d → DvA K T F vs ds → DvA K T F (v :: vs) (d :: ds)
end

/-! ### the frozen heap F within the heap H -/
structure Ext (F H F' H' : Hp) : Prop where
  fz : Ex F F'
  sub : Ex F' H'
  own : ∀ p o, F p = none → H p = some o → F' p = none ∧ H' p = some o
theorem Ext.refl {F H : Hp} (h : Ex F H) : Ext F H F H := ⟨Evl.Ex.refl F, h, fun _ _ a b => ⟨a, b⟩⟩
theorem Ext.trans {F H F1 H1 F2 H2 : Hp} (a : Ext F H F1 H1) (b : Ext F1 H1 F2 H2) : Ext F H F2 H2 :=
  ⟨a.fz.trans b.fz, b.sub, fun p o h1 h2 => let ⟨c, d⟩ := a.own p o h1 h2; b.own p o c d⟩
/-- all that was known stays known -/
theorem Ext.all {F H F' H' : Hp} (h : Ex F H) (e : Ext F H F' H') : Ex H H' := fun a o ha => by
  cases hf : F a with
  | none => exact (e.own a o hf ha).2
  | some u =>
    have := h a u hf
    rw [ha] at this
    cases this
    exact e.sub a _ (e.fz a _ hf)
/-- a new object, frozen at once -/
theorem Ext.new {F H : Hp} {p : Addr} {o : HO} (h : Ex F H) (hp : H p = none) : Ext F H (upd F p o) (upd H p o) := by
  have fp : F p = none := by
    cases hf : F p with
    | none => rfl
    | some u => rw [h p u hf] at hp; cases hp
  refine ⟨Evl.Ex.new fp, fun a u ha => ?_, fun q u h1 h2 => ?_⟩
  · by_cases e : a = p
    · subst e; rw [upd_same] at ha; rw [upd_same]; exact ha
    · rw [upd_ne e] at ha; rw [upd_ne e]; exact h a u ha
  · have e : q ≠ p := ne_of_none h2 hp
    rw [upd_ne e, upd_ne e]
    exact ⟨h1, h2⟩
/-- a new object, kept for oneself -/
theorem Ext.mine {F H : Hp} {p : Addr} {o : HO} (h : Ex F H) (hp : H p = none) : Ext F H F (upd H p o) :=
  ⟨Evl.Ex.refl F, fun a u ha => by rw [upd_ne (ne_of_none (h a u ha) hp)]; exact h a u ha, fun q u h1 h2 => ⟨h1, by rw [upd_ne (ne_of_none h2 hp)]; exact h2⟩⟩
theorem free0 {F H : Hp} {p : Addr} (h : Ex F H) (hp : H p = none) : F p = none := by
  cases hf : F p with
  | none => rfl
  | some u => rw [h p u hf] at hp; cases hp

section
variable {K : PySem.W.Frag} {T : CT}
mutual
theorem dv_mono {F F' : Hp} (e : Ex F F') : ∀ (d : D) (v : V), Dv K T F v d → Dv K T F' v d
  | .non, _, h => by cases h; exact .non
  | .bl _, _, h => by cases h; exact .bl _
  | .int _, _, h => by cases h; exact .int _
  | .str _, _, h => by cases h; exact .str _
  | .lst ds, _, h => by
    cases h with
    | lst a b => exact .lst (e _ _ a) (dva_mono e ds _ b)
  | .tup ds, _, h => by
    cases h with
    | tup a b => exact .tup (Evl.ex_t e a) (dva_mono e ds _ b)
  | .obj c ds, _, h => by
    cases h with
    | obj a l b => exact .obj (e _ _ a) l (dva_mono e ds _ b)
theorem dva_mono {F F' : Hp} (e : Ex F F') : ∀ (ds : List D) (vs : List V), DvA K T F vs ds → DvA K T F' vs ds
  | [], _, h => by cases h; exact .nil
  | d :: ds, _, h => by
    cases h with
    | cons a b => exact .cons (dv_mono e d _ a) (dva_mono e ds _ b)
end
theorem dv_int {F : Hp} {v : V} {i : Int} (h : Dv K T F v (.int i)) : v = .int i := by cases h; rfl
theorem dv_bl {F : Hp} {v : V} {i : Bool} (h : Dv K T F v (.bl i)) : v = .bl i := by cases h; rfl
theorem dv_non {F : Hp} {v : V} (h : Dv K T F v .non) : v = .non := by cases h; rfl
theorem dv_str {F : Hp} {v : V} {x : Str} (h : Dv K T F v (.str x)) : v = .str x := by cases h; rfl
theorem dv_lst {F : Hp} {v : V} {ds : List D} (h : Dv K T F v (.lst ds)) : ∃ a xs, v = .ref a ∧ F a = some (.lst xs) ∧ DvA K T F xs ds := by
  cases h with
  | lst a b => exact ⟨_, _, rfl, a, b⟩
theorem dv_tup {F : Hp} {v : V} {ds : List D} (h : Dv K T F v (.tup ds)) : ∃ a xs, v = .ref a ∧ SqT K F a xs ∧ DvA K T F xs ds := by
  cases h with
  | tup a b => exact ⟨_, _, rfl, a, b⟩
theorem dva_len {F : Hp} : ∀ {vs : List V} {ds : List D}, DvA K T F vs ds → vs.length = ds.length
  | _, _, .nil => rfl
  | _, _, .cons _ b => by rw [List.length_cons, List.length_cons, dva_len b]
theorem dva_get {F : Hp} : ∀ {vs : List V} {ds : List D} {i : Nat} {v : V}, DvA K T F vs ds → vs[i]? = some v → ∃ d, ds[i]? = some d ∧ Dv K T F v d
  | _, _, _, _, .nil, h => by simp at h
  | _, _, 0, _, .cons a _, h => by
    have e := Option.some.inj h
    subst e
    exact ⟨_, rfl, a⟩
  | _, _, i + 1, v, .cons _ b, h => dva_get (i := i) b (by simpa using h)
theorem dva_get' {F : Hp} : ∀ {vs : List V} {ds : List D} {i : Nat} {d : D}, DvA K T F vs ds → ds[i]? = some d → ∃ v, vs[i]? = some v ∧ Dv K T F v d
  | _, _, _, _, .nil, h => by simp at h
  | _, _, 0, _, .cons a _, h => by
    have e := Option.some.inj h
    subst e
    exact ⟨_, rfl, a⟩
  | _, _, i + 1, v, .cons _ b, h => dva_get' (i := i) b (by simpa using h)
theorem dva_app {F : Hp} : ∀ {vs ws : List V} {ds es : List D}, DvA K T F vs ds → DvA K T F ws es → DvA K T F (vs ++ ws) (ds ++ es)
  | _, _, _, _, .nil, h => h
  | _, _, _, _, .cons a b, h => .cons a (dva_app b h)
theorem dva_take {F : Hp} : ∀ {vs : List V} {ds : List D} (n : Nat), DvA K T F vs ds → DvA K T F (vs.take n) (ds.take n)
  | _, _, 0, _ => .nil
  | _, _, n + 1, .nil => .nil
  | _, _, n + 1, .cons a b => .cons a (dva_take n b)
theorem dva_drop {F : Hp} : ∀ {vs : List V} {ds : List D} (n : Nat), DvA K T F vs ds → DvA K T F (vs.drop n) (ds.drop n)
  | _, _, 0, h => h
  | _, _, n + 1, .nil => .nil
  | _, _, n + 1, .cons _ b => dva_drop n b
theorem dva_set {F : Hp} {v : V} {d : D} (h : Dv K T F v d) : ∀ {vs : List V} {ds : List D} (n : Nat), DvA K T F vs ds → DvA K T F (vs.set n v) (ds.set n d)
  | _, _, _, .nil => .nil
  | _, _, 0, .cons _ b => .cons h b
  | _, _, n + 1, .cons a b => .cons a (dva_set h n b)
theorem dva_rep {F : Hp} {vs : List V} {ds : List D} (h : DvA K T F vs ds) : ∀ k : Nat, DvA K T F (List.replicate k vs).flatten (List.replicate k ds).flatten
  | 0 => .nil
  | k + 1 => by
    rw [List.replicate_succ, List.replicate_succ, List.flatten_cons, List.flatten_cons]
    exact dva_app h (dva_rep h k)
theorem dva_ints {F : Hp} : ∀ {vs : List V} {ns : List Int}, DvA K T F vs (ns.map D.int) → vs = ns.map V.int
  | _, [], h => by cases h; rfl
  | _, n :: ns, h => by
    cases h with
    | cons a b =>
      have e1 := dv_int a
      have e2 := dva_ints b
      rw [e1, e2]
      rfl
theorem ints_dva {F : Hp} : ∀ (ns : List Int), DvA K T F (ns.map V.int) (ns.map D.int)
  | [] => .nil
  | n :: ns => .cons (.int n) (ints_dva ns)
theorem dva_bls {F : Hp} : ∀ {vs : List V} {ns : List Bool}, DvA K T F vs (ns.map D.bl) → vs = ns.map V.bl
  | _, [], h => by cases h; rfl
  | _, n :: ns, h => by
    cases h with
    | cons a b =>
      have e1 := dv_bl a
      have e2 := dva_bls b
      rw [e1, e2]
      rfl
end

/-! ### data as the library's data -/
mutual
def D.py : D → Option PyData
  | .non => some .none
  | .bl b => some (.bool b)
  | .int i => some (.int i)
  | .str x => some (.str x)
  | .lst ds => (D.pys ds).map PyData.list
  | .tup ds => (D.pys ds).map PyData.tuple
  | .obj _ _ => none
def D.pys : List D → Option (List PyData)
  | [] => some []
  | d :: ds => d.py.bind fun x => (D.pys ds).map fun xs => x :: xs
end
section
variable {K : PySem.W.Frag} {T : CT} {F : Hp}
mutual
theorem dp_of : ∀ (d : D) (v : V) (p : PyData), Dv K T F v d → d.py = some p → Dp K F v p
  | .non, _, _, h, e => by cases h; simp only [D.py, Option.some.injEq] at e; subst e; exact .non
  | .bl _, _, _, h, e => by cases h; simp only [D.py, Option.some.injEq] at e; subst e; exact .bl _
  | .int _, _, _, h, e => by cases h; simp only [D.py, Option.some.injEq] at e; subst e; exact .int _
  | .str _, _, _, h, e => by cases h; simp only [D.py, Option.some.injEq] at e; subst e; exact .str _
  | .lst ds, _, _, h, e => by
    cases h with
    | lst a b =>
      simp only [D.py, Option.map_eq_some_iff] at e
      obtain ⟨ps, e1, rfl⟩ := e
      exact .lst (SqL.of a) (dps_of ds _ ps b e1)
  | .tup ds, _, _, h, e => by
    cases h with
    | tup a b =>
      simp only [D.py, Option.map_eq_some_iff] at e
      obtain ⟨ps, e1, rfl⟩ := e
      exact .tup a (dps_of ds _ ps b e1)
  | .obj _ _, _, _, h, e => by simp [D.py] at e
theorem dps_of : ∀ (ds : List D) (vs : List V) (ps : List PyData), DvA K T F vs ds → D.pys ds = some ps → DpAll K F vs ps
  | [], _, _, h, e => by cases h; simp only [D.pys, Option.some.injEq] at e; subst e; exact .nil
  | d :: ds, _, _, h, e => by
    cases h with
    | cons a b =>
      simp only [D.pys, Option.bind_eq_some_iff, Option.map_eq_some_iff] at e
      obtain ⟨x, e1, xs, e2, rfl⟩ := e
      exact .cons (dp_of d _ x a e1) (dps_of ds _ xs b e2)
end
end
end Mr

set_option Elab.async false
set_option linter.all false
set_option maxRecDepth 100000
set_option maxHeartbeats 2000000
/-! the mirror's words for expressions, and that they tell what the expression gives -/
namespace Mr
open PySem PySem.Spec PyProof.Rows L2
open Evl (Ex)

/-! ### operations on data -/
def lim (n : Nat) (d : D) : Option D := if n ≤ 100000 then some d else none
def dAdd : D → D → Option D
  | .int a, .int b => some (.int (a + b))
  | .lst a, .lst b => lim (a.length + b.length) (.lst (a ++ b))
  | _, _ => none
def dSub : D → D → Option D
  | .int a, .int b => some (.int (a - b))
  | _, _ => none
instance (i j : Int) : Decidable (CMul i j) := by unfold CMul; exact inferInstance
def dMul : D → D → Option D
  | .int a, .int b => if CMul a b then some (.int (a * b)) else none
  | .lst a, .int k => if -1000000 ≤ k ∧ k ≤ 1000000 then lim (a.length * k.toNat) (.lst (List.replicate k.toNat a).flatten) else none
  | _, _ => none
def dMod : D → D → Option D
  | .int a, .int b => if 0 < b then some (.int (a % b)) else none
  | _, _ => none
def dFdiv : D → D → Option D
  | .int a, .int b => if 0 < b ∧ b < 1073741824 then some (.int (a / b)) else none
  | _, _ => none
def dPow : D → D → Option D
  | .int a, .int b => if 0 ≤ b ∧ b ≤ 1000 ∧ a.natAbs < 1000 then some (.int (a ^ b.toNat)) else none
  | _, _ => none
def dNeg : D → Option D
  | .int a => some (.int (-a))
  | _ => none
def dCmp (p : Int → Int → Bool) : D → D → Option D
  | .int a, .int b => some (.bl (p a b))
  | _, _ => none
abbrev pLt : Int → Int → Bool := fun i j => decide (i < j)
abbrev pLe : Int → Int → Bool := fun i j => decide (i ≤ j)
abbrev pGt : Int → Int → Bool := fun i j => decide (j < i)
abbrev pGe : Int → Int → Bool := fun i j => decide (j ≤ i)
def dEqB (a b : D) : Option Bool := a.py.bind fun p => b.py.bind fun q => if SeqAt.shaped p && SeqAt.shaped q then some (PyData.eqv p q) else none
def dEq (a b : D) : Option D := (dEqB a b).map D.bl
def dNe (a b : D) : Option D := (dEqB a b).map fun k => D.bl (!k)
def dIsN : D → D
  | .non => .bl true
  | _ => .bl false
def dNotN : D → D
  | .non => .bl false
  | _ => .bl true
def dTru : D → Option Bool
  | .non => some false
  | .bl b => some b
  | .int i => some (i != 0)
  | .lst ds => some (!ds.isEmpty)
  | .tup ds => some (!ds.isEmpty)
  | _ => none
def dIx : D → D → Option D
  | .lst ds, .int i => atI ds i
  | .tup ds, .int i => atI ds i
  | _, _ => none
def cutL {α : Type} (xs : List α) (lo hi : Option Int) : List α := (xs.drop (HT.sIx xs.length 0 lo)).take (HT.sIx xs.length xs.length hi - HT.sIx xs.length 0 lo)
def dSl (lo hi : Option Int) : D → Option D
  | .lst ds => some (.lst (cutL ds lo hi))
  | _ => none
def dLen : D → Option D
  | .lst ds => some (.int ds.length)
  | .tup ds => some (.int ds.length)
  | _ => none
def dList : D → Option D
  | .lst ds => some (.lst ds)
  | .tup ds => some (.lst ds)
  | _ => none
def dTuple : D → Option D
  | .lst ds => some (.tup ds)
  | .tup ds => some (.tup ds)
  | _ => none
def dInts : List D → Option (List Int)
  | [] => some []
  | .int i :: r => (dInts r).map fun ns => i :: ns
  | _ => none
def dBls : List D → Option (List Bool)
  | [] => some []
  | .bl i :: r => (dBls r).map fun ns => i :: ns
  | _ => none
def dSum : D → Option D
  | .lst ds => (dInts ds).map fun ns => .int ns.sum
  | _ => none
def dAll : D → Option D
  | .lst ds => (dBls ds).map fun ns => .bl (ns.all id)
  | _ => none
def dMax : D → D → Option D
  | .int i, .int j => some (.int (if j > i then j else i))
  | _, _ => none
def dInt : D → Option D
  | .int i => some (.int i)
  | .bl k => some (.int (if k then 1 else 0))
  | _ => none
def dFlat : D → Option V
  | .non => some .non
  | .bl b => some (.bl b)
  | .int i => some (.int i)
  | .str x => some (.str x)
  | _ => none
def dFlats : List D → Option (List V)
  | [] => some []
  | d :: r => (dFlat d).bind fun v => (dFlats r).map fun vs => v :: vs
def dIn (neg : Bool) (x : D) : D → Option D
  | .lst ds => (dFlat x).bind fun v => (dFlats ds).map fun vs => .bl (if neg then !inV v vs else inV v vs)
  | .tup ds => (dFlat x).bind fun v => (dFlats ds).map fun vs => .bl (if neg then !inV v vs else inV v vs)
  | _ => none
/-- isinstance of a built-in class -/
def dTy : D → Option String
  | .non => some "NoneType"
  | .bl _ => some "bool"
  | .int _ => some "int"
  | .str _ => some "str"
  | .lst _ => some "list"
  | .tup _ => some "tuple"
  | .obj _ _ => none
def dIsi (t : String) (d : D) : Option D := (dTy d).bind fun a => (kitB a t).map D.bl

/-! ### what evaluates to which data -/
section
variable (K : PySem.W.Frag) (T : CT)
def EvV (te : TE) (σ : L2.St) (F H : Hp) (d : D) : Prop := ∀ F1 H1, Ext F H F1 H1 → ∀ Q : VK, (∀ v F2 H2, Ext F1 H1 F2 H2 → Dv K T F2 v d → Q v H2) → te σ H1 Q
def EvT (tt : TT) (σ : L2.St) (F H : Hp) (b : Bool) : Prop := ∀ F1 H1, Ext F H F1 H1 → ∀ Q : Bool → Hp → Prop, (∀ F2 H2, Ext F1 H1 F2 H2 → Q b H2) → tt σ H1 Q
def EvA (ta : TA) (σ : L2.St) (F H : Hp) (ds : List D) : Prop := ∀ F1 H1, Ext F H F1 H1 → ∀ Q : List V → Hp → Prop, (∀ vs F2 H2, Ext F1 H1 F2 H2 → DvA K T F2 vs ds → Q vs H2) → ta σ H1 Q
def EvO (to : TO) (σ : L2.St) (F H : Hp) (o : Option Int) : Prop := ∀ F1 H1, Ext F H F1 H1 → ∀ Q : Option Int → Hp → Prop, (∀ F2 H2, Ext F1 H1 F2 H2 → Q o H2) → to σ H1 Q
/-- an operation on two data -/
def RvV (r : R2) (f : D → D → Option D) : Prop := ∀ x y d1 d2 d F1 H1, Ex F1 H1 → Dv K T F1 x d1 → Dv K T F1 y d2 → f d1 d2 = some d → ∀ Q : VK, (∀ v F2 H2, Ext F1 H1 F2 H2 → Dv K T F2 v d → Q v H2) → r x y H1 Q
/-- a call on data -/
def RcV (r : List V → Hp → VK → Prop) (f : List D → Option D) : Prop := ∀ vs ds d F1 H1, Ex F1 H1 → DvA K T F1 vs ds → f ds = some d → ∀ Q : VK, (∀ v F2 H2, Ext F1 H1 F2 H2 → Dv K T F2 v d → Q v H2) → r vs H1 Q
end
def rOr (r r' : R2) : R2 := fun x y H Q => r x y H Q ∨ r' x y H Q
theorem OpR.or2 {X : Cx} {f : Value → Value → Sem Value} {r r' : R2} (h : OpR X f r) (h' : OpR X f r') : OpR X f (rOr r r') := by
  intro pins s σ H x y v u Q I rx ry q
  rcases q with q | q
  · exact h pins s σ H x y v u Q I rx ry q
  · exact h' pins s σ H x y v u Q I rx ry q

section
variable {K : PySem.W.Frag} {T : CT} {σ : L2.St} {F H : Hp} {ta tb te : TE} {d d1 d2 : D}
theorem new_lst {F H : Hp} {p : Addr} {xs : List V} {ds : List D} (s : Ex F H) (hp : H p = none) (h : DvA K T F xs ds) : Dv K T (upd F p (.lst xs)) (.ref p) (.lst ds) :=
  .lst upd_same (dva_mono (Evl.Ex.new (free0 s hp)) _ _ h)
theorem new_tup {F H : Hp} {p : Addr} {xs : List V} {ds : List D} (s : Ex F H) (hp : H p = none) (h : DvA K T F xs ds) : Dv K T (upd F p (.tup xs)) (.ref p) (.tup ds) :=
  .tup (SqT.of upd_same) (dva_mono (Evl.Ex.new (free0 s hp)) _ _ h)
theorem lim_some {n : Nat} {d e : D} (h : lim n d = some e) : n ≤ sizeLine ∧ d = e := by
  unfold lim at h
  split at h
  · rename_i q
    exact ⟨Evl.sz_of q, Option.some.inj h⟩
  · cases h

theorem rv_add : RvV K T (rOr (rI0 fun i j => .int (i + j)) rCat) dAdd := by
  intro x y d1 d2 d F1 H1 s rx ry h Q q
  unfold dAdd at h; split at h
  case h_3 => cases h
  all_goals skip
  · cases h
    exact .inl ⟨_, _, dv_int rx, dv_int ry, q _ F1 H1 (Ext.refl s) (.int _)⟩
  · obtain ⟨hz, rfl⟩ := lim_some h
    obtain ⟨a, xs, rfl, ha, da⟩ := dv_lst rx
    obtain ⟨b, ys, rfl, hb, db⟩ := dv_lst ry
    refine .inr ⟨a, b, xs, ys, rfl, rfl, s _ _ ha, s _ _ hb, by rw [dva_len da, dva_len db]; exact hz, fun p hp => q _ _ _ (Ext.new s hp) (new_lst s hp (dva_app da db))⟩
theorem rv_sub : RvV K T (rI0 fun i j => .int (i - j)) dSub := by
  intro x y d1 d2 d F1 H1 s rx ry h Q q
  unfold dSub at h; split at h
  case h_2 => cases h
  all_goals skip
  cases h
  exact ⟨_, _, dv_int rx, dv_int ry, q _ F1 H1 (Ext.refl s) (.int _)⟩
theorem rv_mul : RvV K T (rOr (rI CMul fun i j => .int (i * j)) rRep) dMul := by
  intro x y d1 d2 d F1 H1 s rx ry h Q q
  unfold dMul at h; split at h
  case h_3 => cases h
  all_goals skip
  · split at h
    · rename_i hc
      cases h
      exact .inl ⟨_, _, dv_int rx, dv_int ry, hc, q _ F1 H1 (Ext.refl s) (.int _)⟩
    · cases h
  · split at h
    · rename_i hc
      obtain ⟨hz, rfl⟩ := lim_some h
      obtain ⟨a, xs, rfl, ha, da⟩ := dv_lst rx
      exact .inr ⟨a, _, xs, rfl, dv_int ry, s _ _ ha, by omega, by omega, by rw [dva_len da]; exact hz, fun p hp => q _ _ _ (Ext.new s hp) (new_lst s hp (dva_rep da _))⟩
    · cases h
theorem rv_mod : RvV K T (rI (fun _ j => 0 < j) fun i j => .int (i % j)) dMod := by
  intro x y d1 d2 d F1 H1 s rx ry h Q q
  unfold dMod at h; split at h
  case h_2 => cases h
  all_goals skip
  split at h
  · rename_i hc
    cases h
    exact ⟨_, _, dv_int rx, dv_int ry, hc, q _ F1 H1 (Ext.refl s) (.int _)⟩
  · cases h
theorem rv_fdiv : RvV K T (rI CDiv fun i j => .int (i / j)) dFdiv := by
  intro x y d1 d2 d F1 H1 s rx ry h Q q
  unfold dFdiv at h; split at h
  case h_2 => cases h
  all_goals skip
  split at h
  · rename_i hc
    cases h
    exact ⟨_, _, dv_int rx, dv_int ry, hc, q _ F1 H1 (Ext.refl s) (.int _)⟩
  · cases h
theorem rv_pow : RvV K T (rI CPow fun i j => .int (i ^ j.toNat)) dPow := by
  intro x y d1 d2 d F1 H1 s rx ry h Q q
  unfold dPow at h; split at h
  case h_2 => cases h
  all_goals skip
  split at h
  · rename_i hc
    cases h
    exact ⟨_, _, dv_int rx, dv_int ry, ⟨hc.1, by omega, Nat.lt_of_lt_of_le hc.2.2 (by decide)⟩, q _ F1 H1 (Ext.refl s) (.int _)⟩
  · cases h
theorem rv_cmp {p : Int → Int → Bool} : RvV K T (rI0 fun i j => .bl (p i j)) (dCmp p) := by
  intro x y d1 d2 d F1 H1 s rx ry h Q q
  unfold dCmp at h; split at h
  case h_2 => cases h
  all_goals skip
  cases h
  exact ⟨_, _, dv_int rx, dv_int ry, q _ F1 H1 (Ext.refl s) (.bl _)⟩
theorem dEqB_some {a b : D} {k : Bool} (h : dEqB a b = some k) : ∃ p q, a.py = some p ∧ b.py = some q ∧ SeqAt.shaped p = true ∧ SeqAt.shaped q = true ∧ k = PyData.eqv p q := by
  unfold dEqB at h
  simp only [Option.bind_eq_some_iff] at h
  obtain ⟨p, h1, q, h2, h3⟩ := h
  split at h3
  · rename_i hc
    simp only [Bool.and_eq_true] at hc
    exact ⟨p, q, h1, h2, hc.1, hc.2, (Option.some.inj h3).symm⟩
  · cases h3
theorem rv_eq : RvV K T (rEqD K) dEq := by
  intro x y d1 d2 d F1 H1 s rx ry h Q q
  unfold dEq at h
  simp only [Option.map_eq_some_iff] at h
  obtain ⟨k, h, rfl⟩ := h
  obtain ⟨p, r, h1, h2, h3, h4, rfl⟩ := dEqB_some h
  exact ⟨p, r, dp_of _ _ _ (dv_mono s _ _ rx) h1, dp_of _ _ _ (dv_mono s _ _ ry) h2, h3, h4, q _ F1 H1 (Ext.refl s) (.bl _)⟩
theorem rv_ne : RvV K T (rNeD K) dNe := by
  intro x y d1 d2 d F1 H1 s rx ry h Q q
  unfold dNe at h
  simp only [Option.map_eq_some_iff] at h
  obtain ⟨k, h, rfl⟩ := h
  obtain ⟨p, r, h1, h2, h3, h4, rfl⟩ := dEqB_some h
  exact ⟨p, r, dp_of _ _ _ (dv_mono s _ _ rx) h1, dp_of _ _ _ (dv_mono s _ _ ry) h2, h3, h4, q _ F1 H1 (Ext.refl s) (.bl _)⟩
theorem atI_dva {F : Hp} {xs : List V} {ds : List D} {i : Int} {d : D} (h : DvA K T F xs ds) (e : atI ds i = some d) : ∃ v, atI xs i = some v ∧ Dv K T F v d := by
  unfold atI at e
  rw [← dva_len h] at e
  obtain ⟨k, hk, hk2⟩ := Option.bind_eq_some_iff.mp e
  obtain ⟨v, hv, rv⟩ := dva_get' h hk2
  exact ⟨v, by unfold atI; rw [hk]; exact hv, rv⟩
theorem rv_ix : RvV K T (rIx K) dIx := by
  intro x y d1 d2 d F1 H1 s rx ry h Q q
  unfold dIx at h; split at h
  case h_3 => cases h
  all_goals skip
  · obtain ⟨a, xs, rfl, ha, da⟩ := dv_lst rx
    obtain ⟨v, hv, rv⟩ := atI_dva da h
    exact .inl ⟨a, xs, _, v, rfl, dv_int ry, SqL.of (s _ _ ha), hv, q _ F1 H1 (Ext.refl s) rv⟩
  · obtain ⟨a, xs, rfl, ha, da⟩ := dv_tup rx
    obtain ⟨v, hv, rv⟩ := atI_dva da h
    exact .inr (.inl ⟨a, xs, _, v, rfl, dv_int ry, Evl.ex_t s ha, hv, q _ F1 H1 (Ext.refl s) rv⟩)
theorem flat_dv {F : Hp} {x : V} {d : D} {v : V} (h : Dv K T F x d) (e : dFlat d = some v) : x = v ∧ flatV x = true := by
  unfold dFlat at e; split at e <;> first | (cases e; cases h; exact ⟨rfl, rfl⟩) | cases e
theorem flats_dva {F : Hp} : ∀ {xs : List V} {ds : List D} {vs : List V}, DvA K T F xs ds → dFlats ds = some vs → xs = vs ∧ xs.all flatV = true
  | _, _, _, .nil, e => by simp only [dFlats, Option.some.injEq] at e; subst e; exact ⟨rfl, rfl⟩
  | _, _, _, .cons a b, e => by
    simp only [dFlats, Option.bind_eq_some_iff, Option.map_eq_some_iff] at e
    obtain ⟨v, e1, vs, e2, rfl⟩ := e
    obtain ⟨rfl, f1⟩ := flat_dv a e1
    obtain ⟨rfl, f2⟩ := flats_dva b e2
    exact ⟨rfl, by simp only [List.all_cons, f1, f2, Bool.and_self]⟩
theorem rv_in {neg : Bool} : RvV K T (rIn K neg) (dIn neg) := by
  intro x y d1 d2 d F1 H1 s rx ry h Q q
  unfold dIn at h; split at h
  case h_3 => cases h
  all_goals simp only [Option.bind_eq_some_iff, Option.map_eq_some_iff] at h
  · obtain ⟨v, e1, vs, e2, rfl⟩ := h
    obtain ⟨a, xs, rfl, ha, da⟩ := dv_lst ry
    obtain ⟨rfl, f1⟩ := flat_dv rx e1
    obtain ⟨rfl, f2⟩ := flats_dva da e2
    exact ⟨a, _, rfl, .inl (SqL.of (s _ _ ha)), f1, f2, q _ F1 H1 (Ext.refl s) (.bl _)⟩
  · obtain ⟨v, e1, vs, e2, rfl⟩ := h
    obtain ⟨a, xs, rfl, ha, da⟩ := dv_tup ry
    obtain ⟨rfl, f1⟩ := flat_dv rx e1
    obtain ⟨rfl, f2⟩ := flats_dva da e2
    exact ⟨a, _, rfl, .inr (Evl.ex_t s ha), f1, f2, q _ F1 H1 (Ext.refl s) (.bl _)⟩

/-! calls of built-ins, on lists of data -/
def on1 (f : D → Option D) : List D → Option D
  | [x] => f x
  | _ => none
def on2 (f : D → D → Option D) : List D → Option D
  | [x, y] => f x y
  | _ => none
theorem on1_some {f : D → Option D} {ds : List D} {d : D} (h : on1 f ds = some d) : ∃ x, ds = [x] ∧ f x = some d := by
  unfold on1 at h
  split at h
  · exact ⟨_, rfl, h⟩
  · cases h
theorem on2_some {f : D → D → Option D} {ds : List D} {d : D} (h : on2 f ds = some d) : ∃ x y, ds = [x, y] ∧ f x y = some d := by
  unfold on2 at h
  split at h
  · exact ⟨_, _, rfl, h⟩
  · cases h
theorem dva1 {F : Hp} {vs : List V} {x : D} (h : DvA K T F vs [x]) : ∃ v, vs = [v] ∧ Dv K T F v x := by
  cases h with
  | cons a b => cases b; exact ⟨_, rfl, a⟩
theorem dva2 {F : Hp} {vs : List V} {x y : D} (h : DvA K T F vs [x, y]) : ∃ v w, vs = [v, w] ∧ Dv K T F v x ∧ Dv K T F w y := by
  cases h with
  | cons a b =>
    obtain ⟨w, rfl, hw⟩ := dva1 b
    exact ⟨_, _, rfl, a, hw⟩
theorem rc_len : RcV K T (fun xs H Q => ∃ p ys, xs = [.ref p] ∧ (SqL K H p ys ∨ SqT K H p ys) ∧ Q (.int ys.length) H) (on1 dLen) := by
  intro vs ds d F1 H1 s hs h Q q
  replace h := on1_some h; obtain ⟨x, rfl, h⟩ := h
  obtain ⟨v, rfl, rx⟩ := dva1 hs
  unfold dLen at h; split at h
  case h_3 => cases h
  all_goals simp only [Option.some.injEq] at h
  · subst h
    obtain ⟨a, xs, rfl, ha, da⟩ := dv_lst rx
    refine ⟨a, xs, rfl, .inl (SqL.of (s _ _ ha)), q _ F1 H1 (Ext.refl s) ?_⟩
    rw [dva_len da]; exact .int _
  · subst h
    obtain ⟨a, xs, rfl, ha, da⟩ := dv_tup rx
    refine ⟨a, xs, rfl, .inr (Evl.ex_t s ha), q _ F1 H1 (Ext.refl s) ?_⟩
    rw [dva_len da]; exact .int _
theorem rc_list : RcV K T (fun xs H Q => ∃ p ys, xs = [.ref p] ∧ (SqL K H p ys ∨ SqT K H p ys) ∧ ∀ l, H l = none → Q (.ref l) (upd H l (.lst ys))) (on1 dList) := by
  intro vs ds d F1 H1 s hs h Q q
  replace h := on1_some h; obtain ⟨x, rfl, h⟩ := h
  obtain ⟨v, rfl, rx⟩ := dva1 hs
  unfold dList at h; split at h
  case h_3 => cases h
  all_goals simp only [Option.some.injEq] at h
  · subst h
    obtain ⟨a, xs, rfl, ha, da⟩ := dv_lst rx
    exact ⟨a, xs, rfl, .inl (SqL.of (s _ _ ha)), fun p hp => q _ _ _ (Ext.new s hp) (new_lst s hp da)⟩
  · subst h
    obtain ⟨a, xs, rfl, ha, da⟩ := dv_tup rx
    exact ⟨a, xs, rfl, .inr (Evl.ex_t s ha), fun p hp => q _ _ _ (Ext.new s hp) (new_lst s hp da)⟩
theorem rc_tuple : RcV K T (fun xs H Q => ∃ p ys, xs = [.ref p] ∧ ((SqL K H p ys ∧ ∀ l, H l = none → Q (.ref l) (upd H l (.tup ys))) ∨ (SqT K H p ys ∧ Q (.ref p) H))) (on1 dTuple) := by
  intro vs ds d F1 H1 s hs h Q q
  replace h := on1_some h; obtain ⟨x, rfl, h⟩ := h
  obtain ⟨v, rfl, rx⟩ := dva1 hs
  unfold dTuple at h; split at h
  case h_3 => cases h
  all_goals simp only [Option.some.injEq] at h
  · subst h
    obtain ⟨a, xs, rfl, ha, da⟩ := dv_lst rx
    exact ⟨a, xs, rfl, .inl ⟨SqL.of (s _ _ ha), fun p hp => q _ _ _ (Ext.new s hp) (new_tup s hp da)⟩⟩
  · subst h
    obtain ⟨a, xs, rfl, ha, da⟩ := dv_tup rx
    exact ⟨a, xs, rfl, .inr ⟨Evl.ex_t s ha, q _ F1 H1 (Ext.refl s) rx⟩⟩
theorem dInts_some : ∀ {ds : List D} {ns : List Int}, dInts ds = some ns → ds = ns.map D.int
  | [], ns, h => by simp only [dInts, Option.some.injEq] at h; subst h; rfl
  | .int i :: ds, ns, h => by
    simp only [dInts, Option.map_eq_some_iff] at h
    obtain ⟨ms, h1, rfl⟩ := h
    rw [dInts_some h1]
    rfl
  | .non :: ds, ns, h => by exact absurd h (by simp [dInts])
  | .bl _ :: ds, ns, h => by exact absurd h (by simp [dInts])
  | .str _ :: ds, ns, h => by exact absurd h (by simp [dInts])
  | .lst _ :: ds, ns, h => by exact absurd h (by simp [dInts])
  | .tup _ :: ds, ns, h => by exact absurd h (by simp [dInts])
  | .obj _ _ :: ds, ns, h => by exact absurd h (by simp [dInts])
theorem dBls_some : ∀ {ds : List D} {ns : List Bool}, dBls ds = some ns → ds = ns.map D.bl
  | [], ns, h => by simp only [dBls, Option.some.injEq] at h; subst h; rfl
  | .bl i :: ds, ns, h => by
    simp only [dBls, Option.map_eq_some_iff] at h
    obtain ⟨ms, h1, rfl⟩ := h
    rw [dBls_some h1]
    rfl
  | .non :: ds, ns, h => by exact absurd h (by simp [dBls])
  | .int _ :: ds, ns, h => by exact absurd h (by simp [dBls])
  | .str _ :: ds, ns, h => by exact absurd h (by simp [dBls])
  | .lst _ :: ds, ns, h => by exact absurd h (by simp [dBls])
  | .tup _ :: ds, ns, h => by exact absurd h (by simp [dBls])
  | .obj _ _ :: ds, ns, h => by exact absurd h (by simp [dBls])
theorem rc_sum : RcV K T (rSum K) (on1 dSum) := by
  intro vs ds d F1 H1 s hs h Q q
  replace h := on1_some h; obtain ⟨x, rfl, h⟩ := h
  obtain ⟨v, rfl, rx⟩ := dva1 hs
  unfold dSum at h; split at h
  case h_2 => cases h
  all_goals simp only [Option.map_eq_some_iff] at h
  obtain ⟨ns, h1, rfl⟩ := h
  obtain ⟨a, xs, rfl, ha, da⟩ := dv_lst rx
  rw [dInts_some h1] at da
  have e := dva_ints da
  subst e
  exact ⟨a, ns, rfl, SqL.of (s _ _ ha), q _ F1 H1 (Ext.refl s) (.int _)⟩
theorem rc_all : RcV K T (rAll K) (on1 dAll) := by
  intro vs ds d F1 H1 s hs h Q q
  replace h := on1_some h; obtain ⟨x, rfl, h⟩ := h
  obtain ⟨v, rfl, rx⟩ := dva1 hs
  unfold dAll at h; split at h
  case h_2 => cases h
  all_goals simp only [Option.map_eq_some_iff] at h
  obtain ⟨ns, h1, rfl⟩ := h
  obtain ⟨a, xs, rfl, ha, da⟩ := dv_lst rx
  rw [dBls_some h1] at da
  have e := dva_bls da
  subst e
  exact ⟨a, ns, rfl, SqL.of (s _ _ ha), q _ F1 H1 (Ext.refl s) (.bl _)⟩
theorem rc_max : RcV K T (fun xs H Q => ∃ i j, xs = [.int i, .int j] ∧ Q (.int (if j > i then j else i)) H) (on2 dMax) := by
  intro vs ds d F1 H1 s hs h Q q
  replace h := on2_some h; obtain ⟨x, y, rfl, h⟩ := h
  obtain ⟨v, w, rfl, rx, ry⟩ := dva2 hs
  unfold dMax at h; split at h
  case h_2 => cases h
  all_goals simp only [Option.some.injEq] at h
  subst h
  exact ⟨_, _, by rw [dv_int rx, dv_int ry], q _ F1 H1 (Ext.refl s) (.int _)⟩
theorem rc_int : RcV K T (fun xs H Q => (∃ i, xs = [.int i] ∧ Q (.int i) H) ∨ ∃ k, xs = [.bl k] ∧ Q (.int (if k then 1 else 0)) H) (on1 dInt) := by
  intro vs ds d F1 H1 s hs h Q q
  replace h := on1_some h; obtain ⟨x, rfl, h⟩ := h
  obtain ⟨v, rfl, rx⟩ := dva1 hs
  unfold dInt at h; split at h
  case h_3 => cases h
  all_goals simp only [Option.some.injEq] at h
  · subst h
    have e := dv_int rx
    subst e
    exact .inl ⟨_, rfl, q _ F1 H1 (Ext.refl s) (.int _)⟩
  · subst h
    have e := dv_bl rx
    subst e
    exact .inr ⟨_, rfl, q _ F1 H1 (Ext.refl s) (.int _)⟩
theorem tyx_of {F H : Hp} {x : V} {d : D} {a : String} (s : Ex F H) (h : Dv K T F x d) (e : dTy d = some a) : TyX K H x (.type a) := by
  cases h with
  | non => simp only [dTy, Option.some.injEq] at e; subst e; exact .base .non
  | bl b => simp only [dTy, Option.some.injEq] at e; subst e; exact .base (.bl b)
  | int b => simp only [dTy, Option.some.injEq] at e; subst e; exact .base (.int b)
  | str b => simp only [dTy, Option.some.injEq] at e; subst e; exact .base (.str b)
  | lst ha _ => simp only [dTy, Option.some.injEq] at e; subst e; exact .base (.lst (s _ _ ha))
  | tup ha _ =>
    simp only [dTy, Option.some.injEq] at e; subst e
    rcases ha with (ha | ⟨o, ha⟩) | ⟨o, its, n, h1, h2, _⟩
    · exact .base (.tup (s _ _ ha))
    · exact .fTuple (s _ _ ha)
    · exact .kTuple h1 h2
  | obj _ _ _ => simp [dTy] at e
end
end Mr

set_option Elab.async false
set_option linter.all false
set_option maxRecDepth 100000
set_option maxHeartbeats 2000000
/-! a family of contexts in which a text is read; expressions and their mirrors -/
namespace Mr
open PySem PySem.Spec PyProof.Rows L2
open Evl (Ex)

abbrev S := List (Option D)
abbrev XE := S → Option D
abbrev XT := S → Option Bool
abbrev XA := S → Option (List D)

structure Fam where
  ι : Type
  X : ι → Cx
  P : Program
  w : World
  base : Heap
  hP : ∀ i, (X i).prog = P
  hw : ∀ i, (X i).w = w
  hb : ∀ i, (X i).base = base
  K : PySem.W.Frag
  mg : Str → Option Value
  N : List Str
  u : Nat
  hK : ∀ i, (X i).K = K
  hm : ∀ i, (X i).mg = mg
  hN : ∀ i, (X i).N = N
  hc : ∀ i, (X i).calm = true
  hr : ∀ i, Room u (X i).A

/-- the slots that a mirror's state tells -/
structure Sl (K : PySem.W.Frag) (T : CT) (F : Hp) (s : S) (σ : L2.St) : Prop where
  len : s.length = σ.length
  at_ : ∀ (i : Nat) (d : D), s[i]? = some (some d) → ∃ v, σ[i]? = some (some v) ∧ Dv K T F v d

section
variable (G : Fam) (T : CT)
def CE (e : Expr) (f : XE) : Prop := ∃ te : TE, (∀ i, PE (G.X i) e te) ∧ ∀ s σ F H d, Ex F H → Sl G.K T F s σ → f s = some d → EvV G.K T te σ F H d
def CT_ (e : Expr) (f : XT) : Prop := ∃ te : TT, (∀ i, PT (G.X i) e te) ∧ ∀ s σ F H d, Ex F H → Sl G.K T F s σ → f s = some d → EvT te σ F H d
def CW (e : Expr) (f : XT) : Prop := ∃ te : TT, (∀ i, PW (G.X i) e te) ∧ ∀ s σ F H d, Ex F H → Sl G.K T F s σ → f s = some d → EvT te σ F H d
def CA (es : List Expr) (f : XA) : Prop := ∃ te : TA, (∀ i, PA (G.X i) es te) ∧ ∀ s σ F H d, Ex F H → Sl G.K T F s σ → f s = some d → EvA G.K T te σ F H d
def CO (e : Option Expr) (f : S → Option (Option Int)) : Prop := ∃ te : TO, (∀ i, PO (G.X i) e te) ∧ ∀ s σ F H d, Ex F H → Sl G.K T F s σ → f s = some d → EvO te σ F H d
end

/-! the mirror's words -/
def xVar (i : Nat) : XE := fun s => (s[i]?).join
def xC (d : D) : XE := fun _ => some d
def xOp (f : D → D → Option D) (a b : XE) : XE := fun s => (a s).bind fun x => (b s).bind fun y => f x y
def xUn (f : D → Option D) (a : XE) : XE := fun s => (a s).bind f
def xChain (f g : D → D → Option D) (a b c : XE) : XE := fun s => (a s).bind fun x => (b s).bind fun y => (f x y).bind fun z =>
  match z with
  | .bl true => (c s).bind fun w => g y w
  | .bl false => some (.bl false)
  | _ => none
def xAnd (a b : XE) : XE := fun s => (a s).bind fun x => match x with | .bl true => b s | .bl false => some (.bl false) | _ => none
def xOr (a b : XE) : XE := fun s => (a s).bind fun x => match x with | .bl false => b s | .bl true => some (.bl true) | _ => none
def xNot (a : XE) : XE := fun s => (a s).bind fun x => match x with | .bl k => some (.bl (!k)) | _ => none
def xIf (t : XT) (a b : XE) : XE := fun s => (t s).bind fun k => if k then a s else b s
def xTru (a : XE) : XT := fun s => (a s).bind dTru
def xtAnd (a b : XT) : XT := fun s => (a s).bind fun k => if k then b s else some false
def xtOr (a b : XT) : XT := fun s => (a s).bind fun k => if k then some true else b s
def xtNot (a : XT) : XT := fun s => (a s).map (!·)
def xNil : XA := fun _ => some []
def xCons (a : XE) (r : XA) : XA := fun s => (a s).bind fun x => (r s).map fun xs => x :: xs
def xLst (r : XA) : XE := fun s => (r s).bind fun xs => lim xs.length (.lst xs)
def xTup (r : XA) : XE := fun s => (r s).bind fun xs => lim xs.length (.tup xs)
def xB (f : List D → Option D) (r : XA) : XE := fun s => (r s).bind f
def xSl (a : XE) (lo hi : S → Option (Option Int)) : XE := fun s => (a s).bind fun x => (lo s).bind fun l => (hi s).bind fun h => dSl l h x
def xoN : S → Option (Option Int) := fun _ => some none
def xoS (a : XE) : S → Option (Option Int) := fun s => (a s).bind fun x => match x with | .int i => some (some i) | _ => none
def dBits : D → Option D
  | .int i => some (.int (Builtin.Int.intBits i : Nat))
  | _ => none

section
variable {G : Fam} {T : CT} {e a b c : Expr} {es : List Expr} {f g h : XE} {p pos p2 apos : Pos}

theorem ce_var (j : Nat) {x : Str} (hN : ∀ i, (G.X i).N[j]? = some x := by intro _; rfl) (hv : ∀ i, Vis (G.X i).env.scope x := by intro _; first | exact Or.inl rfl | exact Or.inr (Or.inl rfl) | exact Or.inr (Or.inr rfl))
    (hd : (x == ("__debug__" : Str)) = false := by decide) (hcd : (x == ("__classdict__" : Str)) = false := by decide) : CE G T (.Name x pos) (xVar j) :=
  ⟨tVar j, fun i => pe_var (hN i) (hv i) hd hcd, fun s σ F H d hx hs hf F1 H1 e1 Q q => by
    unfold xVar at hf
    rw [Option.join_eq_some_iff] at hf
    obtain ⟨v, h1, h2⟩ := hs.at_ j d hf
    exact ⟨v, h1, q v F1 H1 (Ext.refl e1.sub) (dv_mono e1.fz _ _ h2)⟩⟩
theorem ce_int {n : Int} {k : Nat} : CE G T (.Constant (.int n) k pos) (xC (.int n)) :=
  ⟨tC (.int n), fun _ => pe_int, fun s σ F H d hx hs hf F1 H1 e1 Q q => by cases hf; exact q _ F1 H1 (Ext.refl e1.sub) (.int n)⟩
theorem ce_bl {n : Bool} {k : Nat} : CE G T (.Constant (.bool n) k pos) (xC (.bl n)) :=
  ⟨tC (.bl n), fun _ => pe_bl, fun s σ F H d hx hs hf F1 H1 e1 Q q => by cases hf; exact q _ F1 H1 (Ext.refl e1.sub) (.bl n)⟩
theorem ce_non {k : Nat} : CE G T (.Constant .none k pos) (xC .non) :=
  ⟨tC .non, fun _ => pe_non, fun s σ F H d hx hs hf F1 H1 e1 Q q => by cases hf; exact q _ F1 H1 (Ext.refl e1.sub) .non⟩
theorem ce_str {n : Str} {k : Nat} : CE G T (.Constant (.str n) k pos) (xC (.str n)) :=
  ⟨tC (.str n), fun _ => pe_str, fun s σ F H d hx hs hf F1 H1 e1 Q q => by cases hf; exact q _ F1 H1 (Ext.refl e1.sub) (.str n)⟩
/-- a name of the module that holds data of the written part -/
theorem ce_glob {x : Str} {v : V} {u : Value} {d0 : D} (hm : G.mg x = some u) (r : RelV v u) (hd : ∀ F, Dv G.K T F v d0) (hg : ∀ i, Gl (G.X i) x := by intro _; rfl) (hdb : (x == ("__debug__" : Str)) = false := by decide) : CE G T (.Name x pos) (xC d0) :=
  ⟨tC v, fun i => pe_glob (hg i) (by rw [G.hm i]; exact hm) r hdb, fun s σ F H d hx hs hf F1 H1 e1 Q q => by cases hf; exact q _ F1 H1 (Ext.refl e1.sub) (hd _)⟩

theorem ev_op2 {r : R2} {o : D → D → Option D} (hr : RvV G.K T r o) {ta tb : TE} {σ : L2.St} {F H : Hp} {x y d : D} (ha : EvV G.K T ta σ F H x) (hb : EvV G.K T tb σ F H y) (h : o x y = some d) : EvV G.K T (tOp r ta tb) σ F H d :=
  fun F1 H1 e1 Q q => ha F1 H1 e1 _ fun v F2 H2 e2 rv => hb F2 H2 (e1.trans e2) _ fun w F3 H3 e3 rw' => hr v w x y d F3 H3 e3.sub (dv_mono e3.fz _ _ rv) rw' h Q fun z F4 H4 e4 => q z F4 H4 ((e2.trans e3).trans e4)
theorem xOp_some {o : D → D → Option D} {s : S} {d : D} (hf : xOp o f g s = some d) : ∃ x y, f s = some x ∧ g s = some y ∧ o x y = some d := by
  unfold xOp at hf
  simp only [Option.bind_eq_some_iff] at hf
  obtain ⟨x, h1, y, h2, h3⟩ := hf
  exact ⟨x, y, h1, h2, h3⟩
theorem ce_op {op : Operator} {r : R2} {o : D → D → Option D} (ho : ∀ i, OpR (G.X i) (binaryOp op) r) (hr : RvV G.K T r o) (ha : CE G T a f) (hb : CE G T b g) : CE G T (.BinOp a op b pos) (xOp o f g) := by
  obtain ⟨ta, ha, va⟩ := ha
  obtain ⟨tb, hb, vb⟩ := hb
  refine ⟨tOp r ta tb, fun i => pe_op (ho i) (ha i) (hb i), fun s σ F H d hx hs hf => ?_⟩
  obtain ⟨x, y, h1, h2, h3⟩ := xOp_some hf
  exact ev_op2 hr (va s σ F H x hx hs h1) (vb s σ F H y hx hs h2) h3
theorem ce_add (ha : CE G T a f) (hb : CE G T b g) : CE G T (.BinOp a .Add b pos) (xOp dAdd f g) := ce_op (fun i => OpR.or2 op_add op_cat) rv_add ha hb
theorem ce_sub (ha : CE G T a f) (hb : CE G T b g) : CE G T (.BinOp a .Sub b pos) (xOp dSub f g) := ce_op (fun i => op_sub) rv_sub ha hb
theorem ce_mul (ha : CE G T a f) (hb : CE G T b g) : CE G T (.BinOp a .Mult b pos) (xOp dMul f g) := ce_op (fun i => OpR.or2 op_mul op_rep) rv_mul ha hb
theorem ce_mod (ha : CE G T a f) (hb : CE G T b g) : CE G T (.BinOp a .Mod b pos) (xOp dMod f g) := ce_op (fun i => op_mod) rv_mod ha hb
theorem ce_fdiv (ha : CE G T a f) (hb : CE G T b g) : CE G T (.BinOp a .FloorDiv b pos) (xOp dFdiv f g) := ce_op (fun i => op_fdiv) rv_fdiv ha hb
theorem ce_pow (ha : CE G T a f) (hb : CE G T b g) : CE G T (.BinOp a .Pow b pos) (xOp dPow f g) := ce_op (fun i => op_pow) rv_pow ha hb
theorem ce_neg (ha : CE G T a f) : CE G T (.UnaryOp .USub a pos) (xUn dNeg f) := by
  obtain ⟨ta, ha, va⟩ := ha
  refine ⟨tUn (rU fun i => .int (-i)) ta, fun i => pe_un un_neg (ha i), fun s σ F H d hx hs hf => ?_⟩
  unfold xUn at hf
  obtain ⟨x, h1, h2⟩ := Option.bind_eq_some_iff.mp hf
  intro F1 H1 e1 Q q
  refine va s σ F H x hx hs h1 F1 H1 e1 _ fun v F2 H2 e2 rv => ?_
  unfold dNeg at h2
  split at h2
  · cases h2
    exact ⟨_, dv_int rv, q _ F2 H2 e2 (.int _)⟩
  · cases h2
theorem ce_cmp {op : CmpOp} {r : R2} {o : D → D → Option D} (ho : ∀ i, OpR (G.X i) (compareOp op) r) (hr : RvV G.K T r o) (ha : CE G T a f) (hb : CE G T b g) (hm : behindInMarks op b = false) : CE G T (.Compare a [op] [b] pos) (xOp o f g) := by
  obtain ⟨ta, ha, va⟩ := ha
  obtain ⟨tb, hb, vb⟩ := hb
  refine ⟨tOp r ta tb, fun i => pe_cmpR (ho i) (ha i) (hb i) hm, fun s σ F H d hx hs hf => ?_⟩
  obtain ⟨x, y, h1, h2, h3⟩ := xOp_some hf
  exact ev_op2 hr (va s σ F H x hx hs h1) (vb s σ F H y hx hs h2) h3
theorem ce_lt (ha : CE G T a f) (hb : CE G T b g) : CE G T (.Compare a [.Lt] [b] pos) (xOp (dCmp pLt) f g) := ce_cmp (fun i => op_lt) rv_cmp ha hb (nomark _)
theorem ce_le (ha : CE G T a f) (hb : CE G T b g) : CE G T (.Compare a [.LtE] [b] pos) (xOp (dCmp pLe) f g) := ce_cmp (fun i => op_le) rv_cmp ha hb (nomark _)
theorem ce_gt (ha : CE G T a f) (hb : CE G T b g) : CE G T (.Compare a [.Gt] [b] pos) (xOp (dCmp pGt) f g) := ce_cmp (fun i => op_gt) rv_cmp ha hb (nomark _)
theorem ce_ge (ha : CE G T a f) (hb : CE G T b g) : CE G T (.Compare a [.GtE] [b] pos) (xOp (dCmp pGe) f g) := ce_cmp (fun i => op_ge) rv_cmp ha hb (nomark _)
theorem ce_eq (ha : CE G T a f) (hb : CE G T b g) : CE G T (.Compare a [.Eq] [b] pos) (xOp dEq f g) := ce_cmp (fun i => by rw [← G.hK i]; exact op_eqD (G.hr i).units) rv_eq ha hb (nomark _)
theorem ce_ne (ha : CE G T a f) (hb : CE G T b g) : CE G T (.Compare a [.NotEq] [b] pos) (xOp dNe f g) := ce_cmp (fun i => by rw [← G.hK i]; exact op_neD (G.hr i).units) rv_ne ha hb (nomark _)
theorem ce_in (ha : CE G T a f) (hb : CE G T b g) (hm : behindInMarks .In b = false := by rfl) : CE G T (.Compare a [.In] [b] pos) (xOp (dIn false) f g) := ce_cmp (fun i => by rw [← G.hK i]; exact op_in_seq) rv_in ha hb hm
theorem ce_nin (ha : CE G T a f) (hb : CE G T b g) (hm : behindInMarks .NotIn b = false := by rfl) : CE G T (.Compare a [.NotIn] [b] pos) (xOp (dIn true) f g) := ce_cmp (fun i => by rw [← G.hK i]; exact op_notIn_seq) rv_in ha hb hm
theorem ce_ix (ha : CE G T a f) (hb : CE G T b g) (hs : PlainIx b := by exact fun _ _ => rfl) : CE G T (.Subscript a b pos) (xOp dIx f g) := by
  obtain ⟨ta, ha, va⟩ := ha
  obtain ⟨tb, hb, vb⟩ := hb
  refine ⟨tOp (rIx G.K) ta tb, fun i => by rw [← G.hK i]; exact pe_ix ix_seq (ha i) (hb i) hs, fun s σ F H d hx hs hf => ?_⟩
  obtain ⟨x, y, h1, h2, h3⟩ := xOp_some hf
  exact ev_op2 rv_ix (va s σ F H x hx hs h1) (vb s σ F H y hx hs h2) h3
end
end Mr

set_option Elab.async false
set_option linter.all false
set_option maxRecDepth 100000
set_option maxHeartbeats 2000000
/-! further expressions: chains, tests, displays, calls -/
namespace Mr
open PySem PySem.Spec PyProof.Rows L2
open Evl (Ex)
section
variable {G : Fam} {T : CT} {e a b c : Expr} {es : List Expr} {f g h : XE} {t t2 : XT} {p pos p2 apos : Pos}

theorem rv_bl {r : R2} {o : D → D → Option D} {K : PySem.W.Frag} (hr : RvV K T r o) {x y : V} {d1 d2 : D} {k : Bool} {F1 H1 : Hp} (s : Ex F1 H1) (rx : Dv K T F1 x d1) (ry : Dv K T F1 y d2) (ho : o d1 d2 = some (.bl k)) {Q : VK}
    (q : ∀ F2 H2, Ext F1 H1 F2 H2 → Q (.bl k) H2) : r x y H1 Q := hr x y d1 d2 _ F1 H1 s rx ry ho Q fun v F2 H2 e2 rv => by rw [dv_bl rv]; exact q F2 H2 e2
/-- a < b < c -/
theorem ce_chain {op op' : CmpOp} {r r' : R2} {o o' : D → D → Option D} (ho : ∀ i, OpR (G.X i) (compareOp op) r) (ho' : ∀ i, OpR (G.X i) (compareOp op') r') (hr : RvV G.K T r o) (hr' : RvV G.K T r' o') (ha : CE G T a f) (hb : CE G T b g) (hc : CE G T c h)
    (hm : lastMarks [op, op'] [b, c] = false := by with_unfolding_all rfl) : CE G T (.Compare a [op, op'] [b, c] pos) (xChain o o' f g h) := by
  obtain ⟨ta, ha, va⟩ := ha
  obtain ⟨tb, hb, vb⟩ := hb
  obtain ⟨tc, hc, vc⟩ := hc
  refine ⟨tChain r r' ta tb tc, fun i => pe_chain (ho i) (ho' i) (ha i) (hb i) (hc i) hm, fun s σ F H d hx hs hf F1 H1 e1 Q q => ?_⟩
  unfold xChain at hf
  simp only [Option.bind_eq_some_iff] at hf
  obtain ⟨x, h1, y, h2, z, h3, h4⟩ := hf
  refine va s σ F H x hx hs h1 F1 H1 e1 _ fun v F2 H2 e2 rv => vb s σ F H y hx hs h2 F2 H2 (e1.trans e2) _ fun w F3 H3 e3 rw' => ?_
  split at h4
  · refine rv_bl hr e3.sub (dv_mono e3.fz _ _ rv) rw' h3 fun F4 H4 e4 => ⟨true, rfl, ?_⟩
    simp only [if_true]
    obtain ⟨u, h5, h6⟩ := Option.bind_eq_some_iff.mp h4
    exact vc s σ F H u hx hs h5 F4 H4 (((e1.trans e2).trans e3).trans e4) _ fun v2 F5 H5 e5 rv2 => hr' _ _ _ _ _ F5 H5 e5.sub (dv_mono (e4.fz.trans e5.fz) _ _ rw') rv2 h6 Q fun v3 F6 H6 e6 => q v3 F6 H6 ((((e2.trans e3).trans e4).trans e5).trans e6)
  · refine rv_bl hr e3.sub (dv_mono e3.fz _ _ rv) rw' h3 fun F4 H4 e4 => ⟨false, rfl, ?_⟩
    cases h4
    simp only [Bool.false_eq_true, if_false]
    exact q _ F4 H4 ((e2.trans e3).trans e4) (.bl false)
  · cases h4
theorem ce_one {op} (ha : CE G T a f) : CE G T (.BoolOp op [a] pos) f := by
  obtain ⟨ta, ha, va⟩ := ha
  exact ⟨ta, fun i => pe_one (ha i), va⟩
theorem ce_and {rest : List Expr} (ha : CE G T a f) (hb : CE G T (.BoolOp .And (b :: rest) pos) g) : CE G T (.BoolOp .And (a :: b :: rest) pos) (xAnd f g) := by
  obtain ⟨ta, ha, va⟩ := ha
  obtain ⟨tb, hb, vb⟩ := hb
  refine ⟨tAndV ta tb, fun i => pe_and (ha i) (hb i), fun s σ F H d hx hs hf F1 H1 e1 Q q => ?_⟩
  unfold xAnd at hf
  obtain ⟨x, h1, h2⟩ := Option.bind_eq_some_iff.mp hf
  refine va s σ F H x hx hs h1 F1 H1 e1 _ fun v F2 H2 e2 rv => ?_
  split at h2
  · exact ⟨true, dv_bl rv, by simp only [if_true]; exact vb s σ F H d hx hs h2 F2 H2 (e1.trans e2) Q fun v F3 H3 e3 => q v F3 H3 (e2.trans e3)⟩
  · cases h2
    exact ⟨false, dv_bl rv, by simp only [Bool.false_eq_true, if_false]; exact q _ F2 H2 e2 (.bl false)⟩
  · cases h2
theorem ce_or {rest : List Expr} (ha : CE G T a f) (hb : CE G T (.BoolOp .Or (b :: rest) pos) g) : CE G T (.BoolOp .Or (a :: b :: rest) pos) (xOr f g) := by
  obtain ⟨ta, ha, va⟩ := ha
  obtain ⟨tb, hb, vb⟩ := hb
  refine ⟨tOrV ta tb, fun i => pe_or (ha i) (hb i), fun s σ F H d hx hs hf F1 H1 e1 Q q => ?_⟩
  unfold xOr at hf
  obtain ⟨x, h1, h2⟩ := Option.bind_eq_some_iff.mp hf
  refine va s σ F H x hx hs h1 F1 H1 e1 _ fun v F2 H2 e2 rv => ?_
  split at h2
  · exact ⟨false, dv_bl rv, by simp only [Bool.false_eq_true, if_false]; exact vb s σ F H d hx hs h2 F2 H2 (e1.trans e2) Q fun v F3 H3 e3 => q v F3 H3 (e2.trans e3)⟩
  · cases h2
    exact ⟨true, dv_bl rv, by simp only [if_true]; exact q _ F2 H2 e2 (.bl true)⟩
  · cases h2
theorem ce_not (ha : CE G T a f) : CE G T (.UnaryOp .Not a pos) (xNot f) := by
  obtain ⟨ta, ha, va⟩ := ha
  refine ⟨tNotV ta, fun i => pe_not (ha i), fun s σ F H d hx hs hf F1 H1 e1 Q q => ?_⟩
  unfold xNot at hf
  obtain ⟨x, h1, h2⟩ := Option.bind_eq_some_iff.mp hf
  refine va s σ F H x hx hs h1 F1 H1 e1 _ fun v F2 H2 e2 rv => ?_
  split at h2
  · cases h2
    exact ⟨_, dv_bl rv, q _ F2 H2 e2 (.bl _)⟩
  · cases h2

/-! tests -/
theorem ct_tru (ha : CE G T a f) (he : ∀ i (whole : Sem Value), isTrue a (G.X i).env whole = (do let v ← whole; standAt a.pos; holding [v] (truthy v)) := by intro _ _; rfl) : CT_ G T a (xTru f) := by
  obtain ⟨ta, ha, va⟩ := ha
  refine ⟨fun σ H Q => ta σ H fun x H' => ∃ k, TruV G.K x H' k ∧ Q k H', fun i => by rw [← G.hK i]; exact pt_truth (ha i) (he i), fun s σ F H d hx hs hf F1 H1 e1 Q q => ?_⟩
  unfold xTru at hf
  obtain ⟨x, h1, h2⟩ := Option.bind_eq_some_iff.mp hf
  refine va s σ F H x hx hs h1 F1 H1 e1 _ fun v F2 H2 e2 rv => ?_
  unfold dTru at h2
  split at h2 <;> first | (cases h2; done) | skip
  · cases h2; rw [dv_non rv]; exact ⟨false, rfl, q F2 H2 e2⟩
  · cases h2; rw [dv_bl rv]; exact ⟨_, rfl, q F2 H2 e2⟩
  · cases h2; rw [dv_int rv]; exact ⟨_, rfl, q F2 H2 e2⟩
  · cases h2
    obtain ⟨a, xs, rfl, hl, hd⟩ := dv_lst rv
    refine ⟨_, .inl ⟨xs, SqL.of (e2.sub _ _ hl), ?_⟩, q F2 H2 e2⟩
    cases hd <;> rfl
  · cases h2
    obtain ⟨a, xs, rfl, hl, hd⟩ := dv_tup rv
    refine ⟨_, .inr (.inl ⟨xs, Evl.ex_t e2.sub hl, ?_⟩), q F2 H2 e2⟩
    cases hd <;> rfl
/-- a comparison as a test -/
theorem xTru_bl {s : S} {k : Bool} (hf : xTru f s = some k) : ∃ x, f s = some x ∧ dTru x = some k := by
  unfold xTru at hf
  exact Option.bind_eq_some_iff.mp hf
def xBl (a : XE) : XT := fun s => (a s).bind fun x => match x with | .bl k => some k | _ => none
theorem ct_cmp {op : CmpOp} {r : R2} {o : D → D → Option D} (ho : ∀ i, OpR (G.X i) (compareOp op) r) (hr : RvV G.K T r o) (ha : CE G T a f) (hb : CE G T b g) (hm : behindInMarks op b = false) : CT_ G T (.Compare a [op] [b] pos) (xBl (xOp o f g)) := by
  obtain ⟨ta, ha, va⟩ := ha
  obtain ⟨tb, hb, vb⟩ := hb
  refine ⟨tTest (tOp r ta tb), fun i => pt_cmpR (ho i) (ha i) (hb i) hm, fun s σ F H d hx hs hf F1 H1 e1 Q q => ?_⟩
  unfold xBl at hf
  obtain ⟨z, h0, h4⟩ := Option.bind_eq_some_iff.mp hf
  obtain ⟨x, y, h1, h2, h3⟩ := xOp_some h0
  split at h4
  · cases h4
    exact ev_op2 hr (va s σ F H x hx hs h1) (vb s σ F H y hx hs h2) h3 F1 H1 e1 _ fun v F2 H2 e2 rv => ⟨d, dv_bl rv, q F2 H2 e2⟩
  · cases h4
theorem ct_chain {op op' : CmpOp} {r r' : R2} {o o' : D → D → Option D} (ho : ∀ i, OpR (G.X i) (compareOp op) r) (ho' : ∀ i, OpR (G.X i) (compareOp op') r') (hr : RvV G.K T r o) (hr' : RvV G.K T r' o') (ha : CE G T a f) (hb : CE G T b g) (hc : CE G T c h)
    (hm : lastMarks [op, op'] [b, c] = false := by with_unfolding_all rfl) : CT_ G T (.Compare a [op, op'] [b, c] pos) (xBl (xChain o o' f g h)) := by
  obtain ⟨ta, ha, va⟩ := ha
  obtain ⟨tb, hb, vb⟩ := hb
  obtain ⟨tc, hc, vc⟩ := hc
  refine ⟨tTest (tChain r r' ta tb tc), fun i => pt_chain (ho i) (ho' i) (ha i) (hb i) (hc i) hm, fun s σ F H d hx hs hf F1 H1 e1 Q q => ?_⟩
  unfold xBl at hf
  obtain ⟨z0, h0, h9⟩ := Option.bind_eq_some_iff.mp hf
  unfold xChain at h0
  simp only [Option.bind_eq_some_iff] at h0
  obtain ⟨x, h1, y, h2, z, h3, h4⟩ := h0
  refine va s σ F H x hx hs h1 F1 H1 e1 _ fun v F2 H2 e2 rv => vb s σ F H y hx hs h2 F2 H2 (e1.trans e2) _ fun w F3 H3 e3 rw' => ?_
  split at h4
  · refine rv_bl hr e3.sub (dv_mono e3.fz _ _ rv) rw' h3 fun F4 H4 e4 => ⟨true, rfl, ?_⟩
    simp only [if_true]
    obtain ⟨u, h5, h6⟩ := Option.bind_eq_some_iff.mp h4
    split at h9
    · cases h9
      exact vc s σ F H u hx hs h5 F4 H4 (((e1.trans e2).trans e3).trans e4) _ fun v2 F5 H5 e5 rv2 => hr' _ _ _ _ _ F5 H5 e5.sub (dv_mono (e4.fz.trans e5.fz) _ _ rw') rv2 h6 _ fun v3 F6 H6 e6 rv3 => ⟨d, dv_bl rv3, q F6 H6 ((((e2.trans e3).trans e4).trans e5).trans e6)⟩
    · cases h9
  · refine rv_bl hr e3.sub (dv_mono e3.fz _ _ rv) rw' h3 fun F4 H4 e4 => ⟨false, rfl, ?_⟩
    cases h4
    cases h9
    simp only [Bool.false_eq_true, if_false]
    exact ⟨_, rfl, q F4 H4 ((e2.trans e3).trans e4)⟩
  · cases h4
theorem ct_lt (ha : CE G T a f) (hb : CE G T b g) : CT_ G T (.Compare a [.Lt] [b] pos) (xBl (xOp (dCmp pLt) f g)) := ct_cmp (fun i => op_lt) rv_cmp ha hb (nomark _)
theorem ct_le (ha : CE G T a f) (hb : CE G T b g) : CT_ G T (.Compare a [.LtE] [b] pos) (xBl (xOp (dCmp pLe) f g)) := ct_cmp (fun i => op_le) rv_cmp ha hb (nomark _)
theorem ct_gt (ha : CE G T a f) (hb : CE G T b g) : CT_ G T (.Compare a [.Gt] [b] pos) (xBl (xOp (dCmp pGt) f g)) := ct_cmp (fun i => op_gt) rv_cmp ha hb (nomark _)
theorem ct_ge (ha : CE G T a f) (hb : CE G T b g) : CT_ G T (.Compare a [.GtE] [b] pos) (xBl (xOp (dCmp pGe) f g)) := ct_cmp (fun i => op_ge) rv_cmp ha hb (nomark _)
theorem ct_eq (ha : CE G T a f) (hb : CE G T b g) : CT_ G T (.Compare a [.Eq] [b] pos) (xBl (xOp dEq f g)) := ct_cmp (fun i => by rw [← G.hK i]; exact op_eqD (G.hr i).units) rv_eq ha hb (nomark _)
theorem ct_ne (ha : CE G T a f) (hb : CE G T b g) : CT_ G T (.Compare a [.NotEq] [b] pos) (xBl (xOp dNe f g)) := ct_cmp (fun i => by rw [← G.hK i]; exact op_neD (G.hr i).units) rv_ne ha hb (nomark _)
theorem ct_in (ha : CE G T a f) (hb : CE G T b g) (hm : behindInMarks .In b = false := by rfl) : CT_ G T (.Compare a [.In] [b] pos) (xBl (xOp (dIn false) f g)) := ct_cmp (fun i => by rw [← G.hK i]; exact op_in_seq) rv_in ha hb hm
theorem ct_nin (ha : CE G T a f) (hb : CE G T b g) (hm : behindInMarks .NotIn b = false := by rfl) : CT_ G T (.Compare a [.NotIn] [b] pos) (xBl (xOp (dIn true) f g)) := ct_cmp (fun i => by rw [← G.hK i]; exact op_notIn_seq) rv_in ha hb hm
theorem ct_chain_lele {op op' : CmpOp} (ha : CE G T a f) (hb : CE G T b g) (hc : CE G T c h) (hm : lastMarks [.LtE, .Lt] [b, c] = false := by with_unfolding_all rfl) : CT_ G T (.Compare a [.LtE, .Lt] [b, c] pos) (xBl (xChain (dCmp pLe) (dCmp pLt) f g h)) :=
  ct_chain (fun i => op_le) (fun i => op_lt) rv_cmp rv_cmp ha hb hc hm
theorem cw_ct (h : CW G T a t) : CT_ G T a t := by
  obtain ⟨ta, ha, va⟩ := h
  exact ⟨ta, fun i => (ha i).pt, va⟩
theorem cw_and1 (h : CT_ G T a t) : CW G T (.BoolOp .And [a] pos) t := by
  obtain ⟨ta, ha, va⟩ := h
  exact ⟨ta, fun i => pw_and1 (ha i), va⟩
theorem cw_or1 (h : CT_ G T a t) : CW G T (.BoolOp .Or [a] pos) t := by
  obtain ⟨ta, ha, va⟩ := h
  exact ⟨ta, fun i => pw_or1 (ha i), va⟩
theorem cw_and {rest : List Expr} (h1 : CT_ G T a t) (h2 : CW G T (.BoolOp .And (b :: rest) pos) t2) : CW G T (.BoolOp .And (a :: b :: rest) pos) (xtAnd t t2) := by
  obtain ⟨ta, ha, va⟩ := h1
  obtain ⟨tb, hb, vb⟩ := h2
  refine ⟨tAnd ta tb, fun i => pw_and (ha i) (hb i), fun s σ F H d hx hs hf F1 H1 e1 Q q => ?_⟩
  unfold xtAnd at hf
  obtain ⟨k, h1, h2⟩ := Option.bind_eq_some_iff.mp hf
  refine va s σ F H k hx hs h1 F1 H1 e1 _ fun F2 H2 e2 => ?_
  cases k with
  | true => simp only [if_true] at h2 ⊢; exact vb s σ F H d hx hs h2 F2 H2 (e1.trans e2) Q fun F3 H3 e3 => q F3 H3 (e2.trans e3)
  | false => simp only [Bool.false_eq_true, if_false, Option.some.injEq] at h2 ⊢; subst h2; exact q F2 H2 e2
theorem cw_or {rest : List Expr} (h1 : CT_ G T a t) (h2 : CW G T (.BoolOp .Or (b :: rest) pos) t2) : CW G T (.BoolOp .Or (a :: b :: rest) pos) (xtOr t t2) := by
  obtain ⟨ta, ha, va⟩ := h1
  obtain ⟨tb, hb, vb⟩ := h2
  refine ⟨tOr ta tb, fun i => pw_or (ha i) (hb i), fun s σ F H d hx hs hf F1 H1 e1 Q q => ?_⟩
  unfold xtOr at hf
  obtain ⟨k, h1, h2⟩ := Option.bind_eq_some_iff.mp hf
  refine va s σ F H k hx hs h1 F1 H1 e1 _ fun F2 H2 e2 => ?_
  cases k with
  | false => simp only [Bool.false_eq_true, if_false] at h2 ⊢; exact vb s σ F H d hx hs h2 F2 H2 (e1.trans e2) Q fun F3 H3 e3 => q F3 H3 (e2.trans e3)
  | true => simp only [if_true, Option.some.injEq] at h2 ⊢; subst h2; exact q F2 H2 e2
theorem ct_not (h : CT_ G T a t) : CT_ G T (.UnaryOp .Not a pos) (xtNot t) := by
  obtain ⟨ta, ha, va⟩ := h
  refine ⟨tNot ta, fun i => pt_not (ha i), fun s σ F H d hx hs hf F1 H1 e1 Q q => ?_⟩
  unfold xtNot at hf
  obtain ⟨k, h1, rfl⟩ := Option.map_eq_some_iff.mp hf
  exact va s σ F H k hx hs h1 F1 H1 e1 _ fun F2 H2 e2 => q F2 H2 e2
theorem ce_if (h0 : CT_ G T c t) (ha : CE G T a f) (hb : CE G T b g) : CE G T (.IfExp c a b pos) (xIf t f g) := by
  obtain ⟨tc, hc, vc⟩ := h0
  obtain ⟨ta, ha, va⟩ := ha
  obtain ⟨tb, hb, vb⟩ := hb
  refine ⟨tIf tc ta tb, fun i => pe_ifExp (hc i) (ha i) (hb i), fun s σ F H d hx hs hf F1 H1 e1 Q q => ?_⟩
  unfold xIf at hf
  obtain ⟨k, h1, h2⟩ := Option.bind_eq_some_iff.mp hf
  refine vc s σ F H k hx hs h1 F1 H1 e1 _ fun F2 H2 e2 => ?_
  cases k with
  | true => simp only [if_true] at h2 ⊢; exact va s σ F H d hx hs h2 F2 H2 (e1.trans e2) Q fun v F3 H3 e3 => q v F3 H3 (e2.trans e3)
  | false => simp only [Bool.false_eq_true, if_false] at h2 ⊢; exact vb s σ F H d hx hs h2 F2 H2 (e1.trans e2) Q fun v F3 H3 e3 => q v F3 H3 (e2.trans e3)

/-! arguments, displays -/
theorem ca_nil : CA G T [] xNil := ⟨tNil, fun _ => pa_nil, fun s σ F H d hx hs hf F1 H1 e1 Q q => by cases hf; exact q [] F1 H1 (Ext.refl e1.sub) .nil⟩
theorem ca_cons {r : XA} (ha : CE G T e f) (hr : CA G T es r) (hst : ∀ i, starEach (e :: es) (G.X i).env = (false, eval e (G.X i).env) :: starEach es (G.X i).env := by intro _; rfl) : CA G T (e :: es) (xCons f r) := by
  obtain ⟨ta, ha, va⟩ := ha
  obtain ⟨tr, hr, vr⟩ := hr
  refine ⟨tCons ta tr, fun i => pa_cons (ha i) (hr i) (hst i), fun s σ F H d hx hs hf F1 H1 e1 Q q => ?_⟩
  unfold xCons at hf
  obtain ⟨x, h1, h2⟩ := Option.bind_eq_some_iff.mp hf
  obtain ⟨xs, h3, rfl⟩ := Option.map_eq_some_iff.mp h2
  exact va s σ F H x hx hs h1 F1 H1 e1 _ fun v F2 H2 e2 rv => vr s σ F H xs hx hs h3 F2 H2 (e1.trans e2) _ fun vs F3 H3 e3 rs => q _ F3 H3 (e2.trans e3) (.cons (dv_mono e3.fz _ _ rv) rs)
theorem ce_lst {r : XA} (hr : CA G T es r) : CE G T (.List es pos) (xLst r) := by
  obtain ⟨tr, hr, vr⟩ := hr
  refine ⟨tLst tr, fun i => pe_lst (hr i), fun s σ F H d hx hs hf F1 H1 e1 Q q => ?_⟩
  unfold xLst at hf
  obtain ⟨xs, h1, h2⟩ := Option.bind_eq_some_iff.mp hf
  obtain ⟨hz, rfl⟩ := lim_some h2
  exact vr s σ F H xs hx hs h1 F1 H1 e1 _ fun vs F2 H2 e2 rs => ⟨by rw [dva_len rs]; exact hz, fun p hp => q _ _ _ (e2.trans (Ext.new e2.sub hp)) (new_lst e2.sub hp rs)⟩
theorem ce_tup {r : XA} {x1} (hr : CA G T es r) : CE G T (.Tuple es x1 pos) (xTup r) := by
  obtain ⟨tr, hr, vr⟩ := hr
  refine ⟨tTup tr, fun i => pe_tup (hr i), fun s σ F H d hx hs hf F1 H1 e1 Q q => ?_⟩
  unfold xTup at hf
  obtain ⟨xs, h1, h2⟩ := Option.bind_eq_some_iff.mp hf
  obtain ⟨hz, rfl⟩ := lim_some h2
  exact vr s σ F H xs hx hs h1 F1 H1 e1 _ fun vs F2 H2 e2 rs => ⟨by rw [dva_len rs]; exact hz, fun p hp => q _ _ _ (e2.trans (Ext.new e2.sub hp)) (new_tup e2.sub hp rs)⟩

/-! slices -/
theorem co_n : CO G T none xoN := ⟨tNoPart, fun _ => po_none, fun s σ F H d hx hs hf F1 H1 e1 Q q => by cases hf; exact q F1 H1 (Ext.refl e1.sub)⟩
theorem co_s (ha : CE G T a f) : CO G T (some a) (xoS f) := by
  obtain ⟨ta, ha, va⟩ := ha
  refine ⟨tPart ta, fun i => po_some (ha i), fun s σ F H d hx hs hf F1 H1 e1 Q q => ?_⟩
  unfold xoS at hf
  obtain ⟨x, h1, h2⟩ := Option.bind_eq_some_iff.mp hf
  split at h2
  · cases h2
    exact va s σ F H _ hx hs h1 F1 H1 e1 _ fun v F2 H2 e2 rv => ⟨_, dv_int rv, q F2 H2 e2⟩
  · cases h2
theorem cut_dva {K : PySem.W.Frag} {F : Hp} {vs : List V} {ds : List D} {lo hi : Option Int} (h : DvA K T F vs ds) : DvA K T F (cutV vs lo hi) (cutL ds lo hi) := by
  unfold cutV cutL
  rw [dva_len h]
  exact dva_take _ (dva_drop _ h)
theorem ce_sl {lo hi : Option Expr} {fl fh : S → Option (Option Int)} (ha : CE G T e f) (hl : CO G T lo fl) (hh : CO G T hi fh) : CE G T (.Subscript e (.Slice lo hi none p2) pos) (xSl f fl fh) := by
  obtain ⟨ta, ha, va⟩ := ha
  obtain ⟨tl, hl, vl⟩ := hl
  obtain ⟨th, hh, vh⟩ := hh
  refine ⟨tSl (rSlL G.K) ta tl th, fun i => by rw [← G.hK i]; exact pe_slice sl_list (ha i) (hl i) (hh i), fun s σ F H d hx hs hf F1 H1 e1 Q q => ?_⟩
  unfold xSl at hf
  simp only [Option.bind_eq_some_iff] at hf
  obtain ⟨x, h1, l, h2, u, h3, h4⟩ := hf
  refine va s σ F H x hx hs h1 F1 H1 e1 _ fun v F2 H2 e2 rv => vl s σ F H l hx hs h2 F2 H2 (e1.trans e2) _ fun F3 H3 e3 => vh s σ F H u hx hs h3 F3 H3 ((e1.trans e2).trans e3) _ fun F4 H4 e4 => ?_
  unfold dSl at h4
  split at h4
  · cases h4
    obtain ⟨a, xs, rfl, hq, hd⟩ := dv_lst rv
    have e34 := e3.trans e4
    exact ⟨a, xs, rfl, SqL.of (e34.sub _ _ (e34.fz _ _ hq)), fun p hp => q _ _ _ ((e2.trans e34).trans (Ext.new e34.sub hp)) (new_lst e34.sub hp (cut_dva (dva_mono e34.fz _ _ hd)))⟩
  · cases h4

/-! built-ins by name -/
theorem ev_B {r : List V → Hp → VK → Prop} {o : List D → Option D} (hr : RcV G.K T r o) {ta : TA} {fa : XA} (va : ∀ s σ F H d, Ex F H → Sl G.K T F s σ → fa s = some d → EvA G.K T ta σ F H d) (s : S) (σ : L2.St) (F H : Hp) (d : D) (hx : Ex F H) (hs : Sl G.K T F s σ) (hf : xB o fa s = some d) : EvV G.K T (tCB r ta) σ F H d := fun F1 H1 e1 Q q => by
  unfold xB at hf
  obtain ⟨ds, h1, h2⟩ := Option.bind_eq_some_iff.mp hf
  exact va s σ F H ds hx hs h1 F1 H1 e1 _ fun vs F2 H2 e2 rs => hr vs ds d F2 H2 e2.sub rs h2 Q fun v F3 H3 e3 => q v F3 H3 (e2.trans e3)
theorem ce_B {x : Str} {id : String} {r : List V → Hp → VK → Prop} {o : List D → Option D} {fa : XA} (hc : ∀ i, CallR (G.X i) (.builtin id) r) (hr : RcV G.K T r o) (hm : G.mg x = none) (hv : bootBuiltins x = some (.builtin id)) (ha : CA G T (e :: es) fa)
    (hg : ∀ i, Gl (G.X i) x := by intro _; rfl) (hn : x ≠ "__name__" := by decide) (hdb : (x == ("__debug__" : Str)) = false := by decide) (he : ∀ i, starEach (e :: es) (G.X i).env = (false, eval e (G.X i).env) :: starEach es (G.X i).env := by intro _; rfl) (hpl : ∀ i, (backTo pos (starEach es (G.X i).env)).any (·.1) = false := by intro _; rfl) :
    CE G T (.Call (.Name x p) (e :: es) [] pos) (xB o fa) := by
  obtain ⟨ta, ha, va⟩ := ha
  exact ⟨tCB r ta, fun i => pe_callB (hc i) (hg i) (by rw [G.hm i]; exact hm) hv (ha i) hn hdb (he i) (hpl i), ev_B hr va⟩
theorem ce_Ty {x : Str} {id : String} {r : List V → Hp → VK → Prop} {o : List D → Option D} {fa : XA} (hc : ∀ i, CallR (G.X i) (.type id) r) (hr : RcV G.K T r o) (hm : G.mg x = none) (hv : bootBuiltins x = some (.type id)) (ha : CA G T (e :: es) fa)
    (hg : ∀ i, Gl (G.X i) x := by intro _; rfl) (hn : x ≠ "__name__" := by decide) (hdb : (x == ("__debug__" : Str)) = false := by decide) (he : ∀ i, starEach (e :: es) (G.X i).env = (false, eval e (G.X i).env) :: starEach es (G.X i).env := by intro _; rfl) (hpl : ∀ i, (backTo pos (starEach es (G.X i).env)).any (·.1) = false := by intro _; rfl) :
    CE G T (.Call (.Name x p) (e :: es) [] pos) (xB o fa) := by
  obtain ⟨ta, ha, va⟩ := ha
  exact ⟨tCB r ta, fun i => pe_callTy (hc i) (hg i) (by rw [G.hm i]; exact hm) hv (ha i) hn hdb (he i) (hpl i), ev_B hr va⟩
end
end Mr

set_option Elab.async false
set_option linter.all false
set_option maxRecDepth 100000
set_option maxHeartbeats 2000000
/-! calls of defs, iterators, comprehensions -/
namespace Mr
open PySem PySem.Spec PyProof.Rows L2
open Evl (Ex)

/-! ### what a def is worth -/
inductive FR where
  | ret (d : D)
  | exc (c : Nat) (d : D)
/-- how a def may end, from the frozen heap F within H -/
def Fin_ (K : PySem.W.Frag) (T : CT) (F H : Hp) (Q : VK) (E : XK) : FR → Prop
  | .ret d => ∀ v F' H', Ext F H F' H' → Dv K T F' v d → Q v H'
  | .exc c x => ∀ dd v F' H', Ext F H F' H' → H' dd = some (.xd [(("value" : Str), v)]) → Dv K T F' v x → E (.ref (T.exc c)) (some dd) H'
def spM (K : PySem.W.Frag) (T : CT) (m : List D → Option FR) : Sp := fun vs H Q E => ∃ F ds r, Ex F H ∧ DvA K T F vs ds ∧ m ds = some r ∧ Fin_ K T F H Q E r
def frD : FR → Option D
  | .ret d => some d
  | .exc _ _ => none
def xCall (m : List D → Option FR) (fa : XA) : XE := fun s => (fa s).bind fun ds => (m ds).bind frD

section
variable {G : Fam} {T : CT} {e a b c : Expr} {es : List Expr} {f g h : XE} {t t2 : XT} {p pos p2 apos : Pos}
theorem Fam.fn {CXc : CXT} {k : Nat} {f : Addr} {fd : FuncData} {ps : List Str} {sp : Sp} (F : FnOk G.P G.w G.K G.mg G.base CXc k f fd ps sp) (i : G.ι) : FnOk (G.X i).prog (G.X i).w (G.X i).K (G.X i).mg (G.X i).base CXc k f fd ps sp := by
  rw [G.hP i, G.hw i, G.hK i, G.hm i, G.hb i]; exact F
theorem ce_call {x : Str} {ad : Addr} {fd : FuncData} {ps : List Str} {k : Nat} {m : List D → Option FR} {CXc : CXT} {fa : XA} (F : FnOk G.P G.w G.K G.mg G.base CXc k ad fd ps (spM G.K T m)) (hku : k ≤ G.u) (hm : G.mg x = some (.ref ad)) (hk : PySem.W.keepIn G.K (.ref ad) = true)
    (hb : Binds G.K fd ps []) (hx : ∀ i, Passes CXc (G.X i) E0) (ha : CA G T (e :: es) fa) (hg : ∀ i, Gl (G.X i) x := by intro _; rfl) (hdb : (x == ("__debug__" : Str)) = false := by decide)
    (he : ∀ i, starEach (e :: es) (G.X i).env = (false, eval e (G.X i).env) :: starEach es (G.X i).env := by intro _; rfl) (hpl : ∀ i, (backTo pos (starEach es (G.X i).env)).any (·.1) = false := by intro _; rfl) :
    CE G T (.Call (.Name x p) (e :: es) [] pos) (xCall m fa) := by
  obtain ⟨ta, ha, va⟩ := ha
  refine ⟨tCall (spM G.K T m) [] E0 ta, fun i => pe_call (Fam.fn F i) ((G.hr i).mono hku) (hg i) (by rw [G.hm i]; exact hm) (by rw [G.hK i]; exact hk) (by rw [G.hK i]; exact hb) .nil (hx i) (ha i) hdb (he i) (hpl i), fun s σ F0 H d hx hs hf F1 H1 e1 Q q => ?_⟩
  unfold xCall at hf
  simp only [Option.bind_eq_some_iff] at hf
  obtain ⟨ds, h1, r, h2, h3⟩ := hf
  refine va s σ F0 H ds hx hs h1 F1 H1 e1 _ fun vs F2 H2 e2 rs => ?_
  unfold frD at h3
  split at h3
  · cases h3
    exact ⟨F2, ds, _, e2.sub, by rw [List.append_nil]; exact rs, h2, fun v F' H' e3 rv => q v F' H' (e2.trans e3) rv⟩
  · cases h3
/-- isinstance(x, T), T a built-in class -/
theorem ce_isi {y : Str} {ty : String} {p3 : Pos} (ha : CE G T a f) (hm : G.mg "isinstance" = none) (hmy : G.mg y = none) (hvy : bootBuiltins y = some (.type ty)) (hg : ∀ i, Gl (G.X i) "isinstance" := by intro _; rfl) (hgy : ∀ i, Gl (G.X i) y := by intro _; rfl)
    (hny : y ≠ "__name__" := by decide) (hdy : (y == ("__debug__" : Str)) = false := by decide)
    (he : ∀ i, starEach [a, .Name y p3] (G.X i).env = (false, eval a (G.X i).env) :: starEach [.Name y p3] (G.X i).env := by intro _; rfl) (hpl : ∀ i, (backTo pos (starEach [.Name y p3] (G.X i).env)).any (·.1) = false := by intro _; rfl)
    (he2 : ∀ i, starEach [.Name y p3] (G.X i).env = (false, eval (.Name y p3) (G.X i).env) :: starEach [] (G.X i).env := by intro _; rfl) :
    CE G T (.Call (.Name "isinstance" p) [a, .Name y p3] [] pos) (xUn (dIsi ty) f) := by
  obtain ⟨ta, ha, va⟩ := ha
  refine ⟨tCB (rIsi G.K) (tCons ta (tCons (tC (.ty ty)) tNil)), fun i => by
    rw [← G.hK i]
    exact pe_callB call_isi (hg i) (by rw [G.hm i]; exact hm) (by decide +kernel) (pa_cons (ha i) (pa_cons (pe_bltn (hgy i) (by rw [G.hm i]; exact hmy) hvy rfl hny hdy) pa_nil (he2 i)) (he i)) (by decide) (by decide) (he i) (hpl i), fun s σ F0 H d hx hs hf F1 H1 e1 Q q => ?_⟩
  unfold xUn at hf
  obtain ⟨x, h1, h2⟩ := Option.bind_eq_some_iff.mp hf
  unfold dIsi at h2
  obtain ⟨b, h3, h4⟩ := Option.bind_eq_some_iff.mp h2
  obtain ⟨k, h5, rfl⟩ := Option.map_eq_some_iff.mp h4
  refine va s σ F0 H x hx hs h1 F1 H1 e1 _ fun v F2 H2 e2 rv => ?_
  exact ⟨v, .ty ty, .type b, .type ty, k, rfl, .ty ty, tyx_of e2.sub rv h3, kit_ty h5, q _ F2 H2 e2 (.bl k)⟩
end

/-! ### what is walked -/
def WalkD (K : PySem.W.Frag) (T : CT) (J : It) (F : Hp) (ds : List D) : Prop :=
  (∀ i H, i < ds.length → Ex F H → J.go i H) ∧ (∀ H, Ex F H → J.stop ds.length H) ∧
  ∀ i F1 H1 x H2, i < ds.length → Ex F F1 → Ex F1 H1 → J.yld i H1 x H2 → ∃ F2 d, Ext F1 H1 F2 H2 ∧ ds[i]? = some d ∧ Dv K T F2 x d
def EvI (K : PySem.W.Frag) (T : CT) (wi : TI) (σ : L2.St) (F H : Hp) (ds : List D) : Prop :=
  ∀ F1 H1, Ext F H F1 H1 → ∀ R : It → Hp → Prop, (∀ J F2 H2, Ext F1 H1 F2 H2 → WalkD K T J F2 ds → R J H2) → wi σ H1 R
def CI (G : Fam) (T : CT) (tg e : Expr) (f : XA) : Prop := ∃ wi : TI, (∀ i, PI (G.X i) tg e wi) ∧ ∀ s σ F H d, Ex F H → Sl G.K T F s σ → f s = some d → EvI G.K T wi σ F H d
def dLs : D → Option (List D)
  | .lst ds => some ds
  | _ => none
def dTs : D → Option (List D)
  | .tup ds => some ds
  | _ => none
def xiL (f : XE) : XA := fun s => (f s).bind dLs
def xiT (f : XE) : XA := fun s => (f s).bind dTs
def dRng (lo : Int) (n : Nat) : List D := (List.range n).map fun i => .int (lo + (i : Nat))
def dRng1 : List D → Option (List D)
  | [.int j] => if j ≤ 100000 ∧ -100000 ≤ j then some (dRng 0 j.toNat) else none
  | _ => none
def dRng2 : List D → Option (List D)
  | [.int i, .int j] => if i ≤ 100000 ∧ -100000 ≤ i ∧ j ≤ 100000 ∧ -100000 ≤ j then some (dRng i (j - i).toNat) else none
  | _ => none
def dRev2 : List D → Option (List D)
  | [.int j] => if j ≤ 100000 ∧ -100000 ≤ j then some ((List.range j.toNat).map fun i => .int ((0 + (((j - 0).toNat : Nat) : Int) - 1) + (i : Nat) * (-1))) else none
  | _ => none
def dEnum : List D → Option (List D)
  | [.lst ds] => some ((List.range ds.length).zipWith (fun i d => .tup [.int (i : Nat), d]) ds)
  | _ => none
def dZip : List D → Option (List D)
  | [.lst ds, .lst es] => some (ds.zipWith (fun x y => .tup [x, y]) es)
  | _ => none
def xi (o : List D → Option (List D)) (f : XA) : XA := fun s => (f s).bind o

section
variable {G : Fam} {T : CT} {K : PySem.W.Frag} {e a b c tg : Expr} {es : List Expr} {f g h : XE} {fa : XA} {t t2 : XT} {p pos p2 apos tpos : Pos} {elts : List Expr} {kk : Nat}
theorem walkD_list {F : Hp} {l : Addr} {xs : List V} {ds : List D} (hl : F l = some (.lst xs)) (hd : DvA K T F xs ds) : WalkD K T (Itl K l) F ds := by
  have hn := dva_len hd
  refine ⟨fun i H hi e => walk_list.goes i H (by rw [hn]; exact hi) (SqL.of (e _ _ hl)), fun H e => by rw [← hn]; exact walk_list.stops H (SqL.of (e _ _ hl)), fun i F1 H1 x H2 hi e1 e2 y => ?_⟩
  obtain ⟨rfl, hx⟩ := walk_list.yields i H1 x H2 (by rw [hn]; exact hi) (SqL.of ((e1.trans e2) _ _ hl)) y
  obtain ⟨d, h1, h2⟩ := dva_get hd hx
  exact ⟨F1, d, Ext.refl e2, h1, dv_mono e1 _ _ h2⟩
theorem walkD_tup {F : Hp} {l : Addr} {xs : List V} {ds : List D} (hl : SqT K F l xs) (hd : DvA K T F xs ds) : WalkD K T (Itt K l) F ds := by
  have hn := dva_len hd
  refine ⟨fun i H hi e => walk_tup.goes i H (by rw [hn]; exact hi) (Evl.ex_t e hl), fun H e => by rw [← hn]; exact walk_tup.stops H (Evl.ex_t e hl), fun i F1 H1 x H2 hi e1 e2 y => ?_⟩
  obtain ⟨rfl, hx⟩ := walk_tup.yields i H1 x H2 (by rw [hn]; exact hi) (Evl.ex_t (e1.trans e2) hl) y
  obtain ⟨d, h1, h2⟩ := dva_get hd hx
  exact ⟨F1, d, Ext.refl e2, h1, dv_mono e1 _ _ h2⟩
theorem dRng_len (lo : Int) (n : Nat) : (dRng lo n).length = n := by unfold dRng; rw [List.length_map, List.length_range]
theorem dRng_get {lo : Int} {n i : Nat} (h : i < n) : (dRng lo n)[i]? = some (.int (lo + (i : Nat))) := by
  unfold dRng
  rw [List.getElem?_map, List.getElem?_range h]
  rfl
theorem walkD_rng {F : Hp} {lo : Int} {n : Nat} : WalkD K T (Itr lo n) F (dRng lo n) := by
  refine ⟨fun i H hi _ => ?_, fun H _ => ?_, fun i F1 H1 x H2 hi e1 e2 y => ?_⟩
  · rw [dRng_len] at hi; exact hi
  · rw [dRng_len]; exact Nat.le_refl _
  · rw [dRng_len] at hi
    obtain ⟨rfl, rfl⟩ := y
    exact ⟨F1, _, Ext.refl e2, dRng_get hi, .int _⟩
theorem walkD_pair {F : Hp} {J : It} {n : Nat} {Gp : Hp → Prop} {xs ys : Nat → Option V} {ds : List D} (w : Walk J n Gp (YPair xs ys)) (hn : ds.length = n) (hG : ∀ H, Ex F H → Gp H)
    (hd : ∀ (i : Nat) (x y : V), i < n → xs i = some x → ys i = some y → ∃ d1 d2, ds[i]? = some (.tup [d1, d2]) ∧ Dv K T F x d1 ∧ Dv K T F y d2) : WalkD K T J F ds := by
  refine ⟨fun i H hi e => w.goes i H (by rw [← hn]; exact hi) (hG H e), fun H e => by rw [hn]; exact w.stops H (hG H e), fun i F1 H1 x H2 hi e1 e2 y => ?_⟩
  rw [hn] at hi
  obtain ⟨t, v1, v2, rfl, ht, rfl, h1, h2⟩ := w.yields i H1 x H2 hi (hG H1 (e1.trans e2)) y
  obtain ⟨d1, d2, h3, h4, h5⟩ := hd i v1 v2 hi h1 h2
  exact ⟨_, _, Ext.new e2 ht, h3, new_tup e2 ht (.cons (dv_mono e1 _ _ h4) (.cons (dv_mono e1 _ _ h5) .nil))⟩
theorem ci_list (ha : CE G T e f) : CI G T tg e (xiL f) := by
  obtain ⟨ta, ha, va⟩ := ha
  refine ⟨iList G.K ta, fun i => by rw [← G.hK i]; exact pi_list (ha i), fun s σ F H d hx hs hf F1 H1 e1 R q => ?_⟩
  unfold xiL at hf
  obtain ⟨x, h1, h2⟩ := Option.bind_eq_some_iff.mp hf
  refine va s σ F H x hx hs h1 F1 H1 e1 _ fun v F2 H2 e2 rv => ?_
  unfold dLs at h2
  split at h2
  · cases h2
    obtain ⟨l, xs, rfl, hl, hd⟩ := dv_lst rv
    exact ⟨l, rfl, ⟨xs, SqL.of (e2.sub _ _ hl)⟩, q _ F2 H2 e2 (walkD_list hl hd)⟩
  · cases h2
theorem ci_tup (ha : CE G T e f) : CI G T tg e (xiT f) := by
  obtain ⟨ta, ha, va⟩ := ha
  refine ⟨iTup G.K ta, fun i => by rw [← G.hK i]; exact pi_tup (ha i), fun s σ F H d hx hs hf F1 H1 e1 R q => ?_⟩
  unfold xiT at hf
  obtain ⟨x, h1, h2⟩ := Option.bind_eq_some_iff.mp hf
  refine va s σ F H x hx hs h1 F1 H1 e1 _ fun v F2 H2 e2 rv => ?_
  unfold dTs at h2
  split at h2
  · cases h2
    obtain ⟨l, xs, rfl, hl, hd⟩ := dv_tup rv
    exact ⟨l, rfl, ⟨xs, Evl.ex_t e2.sub hl⟩, q _ F2 H2 e2 (walkD_tup hl hd)⟩
  · cases h2
theorem ci_rng1 (ha : CA G T [a] fa) (hm : G.mg "range" = none) (hg : ∀ i, Gl (G.X i) "range" := by intro _; rfl) (hst : ∀ i, starEach [a] (G.X i).env = [(false, eval a (G.X i).env)] := by intro _; rfl) : CI G T tg (.Call (.Name "range" p) [a] [] pos) (xi dRng1 fa) := by
  obtain ⟨ta, ha, va⟩ := ha
  refine ⟨iRng1 ta, fun i => pi_range1 (hg i) (by rw [G.hm i]; exact hm) (ha i) (hst i), fun s σ F H d hx hs hf F1 H1 e1 R q => ?_⟩
  unfold xi at hf
  obtain ⟨x, h1, h2⟩ := Option.bind_eq_some_iff.mp hf
  refine va s σ F H x hx hs h1 F1 H1 e1 _ fun vs F2 H2 e2 rs => ?_
  unfold dRng1 at h2
  split at h2
  · split at h2
    · rename_i hc
      cases h2
      obtain ⟨v, rfl, rv⟩ := dva1 rs
      exact ⟨_, by rw [dv_int rv], by omega, by omega, q _ F2 H2 e2 walkD_rng⟩
    · cases h2
  · cases h2
theorem ci_rng2 (ha : CA G T [a, b] fa) (hm : G.mg "range" = none) (hg : ∀ i, Gl (G.X i) "range" := by intro _; rfl) (hst : ∀ i, starEach [a, b] (G.X i).env = [(false, eval a (G.X i).env), (false, eval b (G.X i).env)] := by intro _; rfl) (hst2 : ∀ i, starEach [b] (G.X i).env = [(false, eval b (G.X i).env)] := by intro _; rfl) :
    CI G T tg (.Call (.Name "range" p) [a, b] [] pos) (xi dRng2 fa) := by
  obtain ⟨ta, ha, va⟩ := ha
  refine ⟨iRng2 ta, fun i => pi_range2 (hg i) (by rw [G.hm i]; exact hm) (ha i) (hst i) (hst2 i), fun s σ F H d hx hs hf F1 H1 e1 R q => ?_⟩
  unfold xi at hf
  obtain ⟨x, h1, h2⟩ := Option.bind_eq_some_iff.mp hf
  refine va s σ F H x hx hs h1 F1 H1 e1 _ fun vs F2 H2 e2 rs => ?_
  unfold dRng2 at h2
  split at h2
  · split at h2
    · rename_i hc
      cases h2
      obtain ⟨v, w, rfl, rv, rw'⟩ := dva2 rs
      exact ⟨_, _, by rw [dv_int rv, dv_int rw'], by omega, q _ F2 H2 e2 walkD_rng⟩
    · cases h2
  · cases h2
theorem ci_enum (ha : CA G T [a] fa) (hm : G.mg "enumerate" = none) (hg : ∀ i, Gl (G.X i) "enumerate" := by intro _; rfl) (hst : ∀ i, starEach [a] (G.X i).env = [(false, eval a (G.X i).env)] := by intro _; rfl) : CI G T (.Tuple elts kk tpos) (.Call (.Name "enumerate" p) [a] [] pos) (xi dEnum fa) := by
  obtain ⟨ta, ha, va⟩ := ha
  refine ⟨iEnum G.K ta, fun i => by rw [← G.hK i]; exact pi_enum (hg i) (by rw [G.hm i]; exact hm) (ha i) (hst i), fun s σ F H d hx hs hf F1 H1 e1 R q => ?_⟩
  unfold xi at hf
  obtain ⟨x, h1, h2⟩ := Option.bind_eq_some_iff.mp hf
  refine va s σ F H x hx hs h1 F1 H1 e1 _ fun vs F2 H2 e2 rs => ?_
  unfold dEnum at h2
  split at h2
  · cases h2
    rename_i ds
    obtain ⟨v, rfl, rv⟩ := dva1 rs
    obtain ⟨l, xs, rfl, hl, hd⟩ := dv_lst rv
    refine ⟨l, xs, rfl, SqL.of (e2.sub _ _ hl), q _ F2 H2 e2 (walkD_pair walk_enum ?_ (fun H e => SqL.of (e _ _ hl)) fun i x y hi h1 h2 => ?_)⟩
    · rw [List.length_zipWith, List.length_range, Nat.min_self, dva_len hd]
    · cases h1
      obtain ⟨d, h3, h4⟩ := dva_get hd h2
      refine ⟨.int (i : Nat), d, ?_, .int _, h4⟩
      rw [List.getElem?_zipWith, List.getElem?_range (by rw [← dva_len hd]; exact hi), h3]
  · cases h2
theorem ci_zip (ha : CA G T [a, b] fa) (hm : G.mg "zip" = none) (hg : ∀ i, Gl (G.X i) "zip" := by intro _; rfl) (hst : ∀ i, starEach [a, b] (G.X i).env = (false, eval a (G.X i).env) :: starEach [b] (G.X i).env := by intro _; rfl) (hpl : ∀ i, (backTo pos (starEach [b] (G.X i).env)).any (·.1) = false := by intro _; rfl) :
    CI G T (.Tuple elts kk tpos) (.Call (.Name "zip" p) [a, b] [] pos) (xi dZip fa) := by
  obtain ⟨ta, ha, va⟩ := ha
  refine ⟨iZip G.K ta, fun i => by rw [← G.hK i]; exact pi_zip (hg i) (by rw [G.hm i]; exact hm) (ha i) (hst i) (hpl i), fun s σ F H d hx hs hf F1 H1 e1 R q => ?_⟩
  unfold xi at hf
  obtain ⟨x, h1, h2⟩ := Option.bind_eq_some_iff.mp hf
  refine va s σ F H x hx hs h1 F1 H1 e1 _ fun vs F2 H2 e2 rs => ?_
  unfold dZip at h2
  split at h2
  · cases h2
    obtain ⟨v, w, rfl, rv, rw'⟩ := dva2 rs
    obtain ⟨l, xs, rfl, hl, hd⟩ := dv_lst rv
    obtain ⟨l2, ys, rfl, hl2, hd2⟩ := dv_lst rw'
    refine ⟨l, l2, xs, ys, rfl, SqL.of (e2.sub _ _ hl), SqL.of (e2.sub _ _ hl2), q _ F2 H2 e2 (walkD_pair (walk_zip rfl) ?_ (fun H e => ⟨SqL.of (e _ _ hl), SqL.of (e _ _ hl2)⟩) fun i x y hi h1 h2 => ?_)⟩
    · rw [List.length_zipWith, dva_len hd, dva_len hd2]
    · obtain ⟨d, h3, h4⟩ := dva_get hd h1
      obtain ⟨d', h5, h6⟩ := dva_get hd2 h2
      refine ⟨d, d', ?_, h4, h6⟩
      rw [List.getElem?_zipWith, h3, h5]
  · cases h2
end
end Mr

set_option Elab.async false
set_option linter.all false
set_option maxRecDepth 100000
set_option maxHeartbeats 2000000
/-! targets, comprehensions -/
namespace Mr
open PySem PySem.Spec PyProof.Rows L2
open Evl (Ex)

/-! ### slots forgotten -/
def wipeS (s : S) : List Nat → S
  | [] => s
  | v :: vs => (wipeS s vs).set v none
theorem Sl.mono {K : PySem.W.Frag} {T : CT} {F F' : Hp} {s : S} {σ : L2.St} (h : Sl K T F s σ) (e : Ex F F') : Sl K T F' s σ := ⟨h.len, fun i d hi => let ⟨v, a, b⟩ := h.at_ i d hi; ⟨v, a, dv_mono e _ _ b⟩⟩
theorem Sl.set {K : PySem.W.Frag} {T : CT} {F : Hp} {s : S} {σ : L2.St} {d : D} {v : V} (h : Sl K T F s σ) (j : Nat) (r : Dv K T F v d) : Sl K T F (s.set j (some d)) (σ.set j (some v)) := by
  refine ⟨by rw [List.length_set, List.length_set, h.len], fun i x hi => ?_⟩
  by_cases hj : j = i
  · subst hj
    have hl : j < s.length := by
      rcases Nat.lt_or_ge j s.length with h1 | h1
      · exact h1
      · rw [List.getElem?_eq_none (by simpa using h1)] at hi; cases hi
    rw [List.getElem?_set_self hl] at hi
    cases hi
    exact ⟨v, List.getElem?_set_self (by rw [← h.len]; exact hl), r⟩
  · rw [List.getElem?_set_ne hj] at hi ⊢
    exact h.at_ i x hi
theorem Sl.drop {K : PySem.W.Frag} {T : CT} {F : Hp} {s : S} {σ : L2.St} (h : Sl K T F s σ) (j : Nat) : Sl K T F (s.set j none) (σ.set j none) := by
  refine ⟨by rw [List.length_set, List.length_set, h.len], fun i x hi => ?_⟩
  by_cases hj : j = i
  · subst hj
    rcases Nat.lt_or_ge j s.length with h1 | h1
    · rw [List.getElem?_set_self h1] at hi; cases hi
    · rw [List.getElem?_eq_none (by simpa using h1)] at hi; cases hi
  · rw [List.getElem?_set_ne hj] at hi ⊢
    exact h.at_ i x hi
theorem Sl.wipe {K : PySem.W.Frag} {T : CT} {F : Hp} {s : S} {σ : L2.St} (h : Sl K T F s σ) : ∀ vs : List Nat, Sl K T F (wipeS s vs) (L2.wipe σ vs)
  | [] => h
  | v :: vs => (Sl.wipe h vs).drop v
theorem wipe_get (σ : L2.St) : ∀ (vs : List Nat) (k : Nat), (L2.wipe σ vs)[k]? = if k ∈ vs then (σ[k]?).map (fun _ => none) else σ[k]?
  | [], k => by simp [L2.wipe]
  | v :: vs, k => by
    unfold L2.wipe
    by_cases h : v = k
    · subst h
      rw [if_pos List.mem_cons_self]
      rcases Nat.lt_or_ge v σ.length with h1 | h1
      · rw [List.getElem?_set_self (by rw [wipe_length]; exact h1), List.getElem?_eq_getElem h1]
        rfl
      · rw [List.getElem?_eq_none (by rw [List.length_set, wipe_length]; exact h1), List.getElem?_eq_none h1]
        rfl
    · rw [List.getElem?_set_ne h, wipe_get σ vs k]
      have e : (k ∈ v :: vs) ↔ k ∈ vs := by
        rw [List.mem_cons]
        exact ⟨fun z => z.elim (fun q => absurd q.symm h) id, .inr⟩
      by_cases hk : k ∈ vs
      · rw [if_pos hk, if_pos (e.mpr hk)]
      · rw [if_neg hk, if_neg (fun z => hk (e.mp z))]
theorem wipe_set {σ : L2.St} {vs : List Nat} {j : Nat} {x : Option V} (h : j ∈ vs) : L2.wipe (σ.set j x) vs = L2.wipe σ vs := by
  apply List.ext_getElem?
  intro k
  rw [wipe_get, wipe_get]
  by_cases hk : k ∈ vs
  · rw [if_pos hk, if_pos hk]
    by_cases hj : j = k
    · subst hj
      rcases Nat.lt_or_ge j σ.length with h1 | h1
      · rw [List.getElem?_set_self h1, List.getElem?_eq_getElem h1]; rfl
      · rw [List.getElem?_eq_none (by rw [List.length_set]; exact h1), List.getElem?_eq_none h1]
    · rw [List.getElem?_set_ne hj]
  · rw [if_neg hk, if_neg hk, List.getElem?_set_ne (by rintro rfl; exact hk h)]

/-! ### targets -/
def CG (G : Fam) (T : CT) (tg : Expr) (vs : List Nat) (bind : D → S → Option S) : Prop := ∃ g : TG, (∀ i, PG (G.X i) tg g) ∧
  ∀ s s' σ F H d v, Ex F H → Sl G.K T F s σ → Dv G.K T F v d → bind d s = some s' → ∀ Q : L2.St → Hp → Prop, (∀ σ', Sl G.K T F s' σ' → L2.wipe σ' vs = L2.wipe σ vs → (∀ k, k ∉ vs → σ'[k]? = σ[k]?) → Q σ' H) → g v σ H Q
def bName (j : Nat) : D → S → Option S := fun d s => some (s.set j (some d))
def bPair (j k : Nat) : D → S → Option S := fun d s => match d with
  | .tup [x, y] => some ((s.set j (some x)).set k (some y))
  | _ => none
section
variable {G : Fam} {T : CT} {tg : Expr} {pos p1 p2 : Pos}
theorem cg_name (j : Nat) {vs : List Nat} {x : Str} (hNd : ∀ i, (G.X i).N.Nodup) (hN : ∀ i, (G.X i).N[j]? = some x := by intro _; rfl) (hx : ∀ i, Loc (G.X i).env.scope x := by intro _; first | exact Or.inl rfl | exact Or.inr rfl)
    (hf : ∀ i, (G.X i).fn x = true ∨ (G.X i).env.scope.names.lookup x = some .local := by intro _; first | exact .inl rfl | exact .inr rfl) (hj : j ∈ vs := by decide) : CG G T (.Name x pos) vs (bName j) :=
  ⟨gName j, fun i => pg_name (hNd i) (hN i) (hx i) (hf i), fun s s' σ F H d v hx hs rv hb Q q => by
    cases hb
    exact q _ (hs.set j rv) (wipe_set hj) fun k hk => List.getElem?_set_ne (by rintro rfl; exact hk hj)⟩
theorem cg_pair (j k : Nat) {vs : List Nat} {x y : Str} {kk : Nat} (hNd : ∀ i, (G.X i).N.Nodup) (hN : ∀ i, (G.X i).N[j]? = some x := by intro _; rfl) (hx : ∀ i, Loc (G.X i).env.scope x := by intro _; first | exact Or.inl rfl | exact Or.inr rfl)
    (hf : ∀ i, (G.X i).fn x = true ∨ (G.X i).env.scope.names.lookup x = some .local := by intro _; first | exact .inl rfl | exact .inr rfl)
    (hN2 : ∀ i, (G.X i).N[k]? = some y := by intro _; rfl) (hx2 : ∀ i, Loc (G.X i).env.scope y := by intro _; first | exact Or.inl rfl | exact Or.inr rfl)
    (hf2 : ∀ i, (G.X i).fn y = true ∨ (G.X i).env.scope.names.lookup y = some .local := by intro _; first | exact .inl rfl | exact .inr rfl) (hj : j ∈ vs := by decide) (hk : k ∈ vs := by decide)
    (hn : ∀ i, (assignEach [.Name x p1, .Name y p2] (G.X i).env).length = 2 := by intro _; rfl) (hst : ∀ i, (assignEach [.Name x p1, .Name y p2] (G.X i).env).findIdx? (·.1) = none := by intro _; rfl)
    (hs1 : ∀ i, (assignEach [.Name x p1, .Name y p2] (G.X i).env).map (·.2) = assign (.Name x p1) (G.X i).env :: (assignEach [.Name y p2] (G.X i).env).map (·.2) := by intro _; rfl)
    (hs2 : ∀ i, (assignEach [.Name y p2] (G.X i).env).map (·.2) = assign (.Name y p2) (G.X i).env :: (assignEach [] (G.X i).env).map (·.2) := by intro _; rfl) :
    CG G T (.Tuple [.Name x p1, .Name y p2] kk pos) vs (bPair j k) :=
  ⟨gTup G.K 2 (gCons (gName j) (gCons (gName k) gNil)), fun i => by
    rw [← G.hK i]
    exact pg_tup (G.hc i) (pgs_cons (pg_name (hNd i) (hN i) (hx i) (hf i)) (pgs_cons (pg_name (hNd i) (hN2 i) (hx2 i) (hf2 i)) pgs_nil (hs2 i)) (hs1 i)) (hn i) (hst i), fun s s' σ F H d v hx hs rv hb Q q => by
    unfold bPair at hb
    split at hb
    · cases hb
      obtain ⟨l, xs, rfl, hl, hd⟩ := dv_tup rv
      obtain ⟨v1, v2, rfl, r1, r2⟩ := dva2 hd
      refine ⟨l, _, rfl, Evl.ex_t hx hl, rfl, v1, [v2], rfl, v2, [], rfl, rfl, q _ ((hs.set j r1).set k r2) ?_ fun m hm => ?_⟩
      · rw [wipe_set hk, wipe_set hj]
      · rw [List.getElem?_set_ne (by rintro rfl; exact hm hk), List.getElem?_set_ne (by rintro rfl; exact hm hj)]
    · cases hb⟩
end

/-! ### a comprehension's block -/
def Fam.blk (G : Fam) (scope : Scope) : Fam where
  ι := G.ι × Shared × Hp × Addr × List (Str × Addr) × List Addr
  X := fun j => (G.X j.1).blk j.2.1 j.2.2.1 scope (compEnvC scope j.2.2.2.2.1 j.2.2.2.1 (G.X j.1).env) j.2.2.2.2.2
  P := G.P
  w := G.w
  base := G.base
  hP := fun j => G.hP j.1
  hw := fun j => G.hw j.1
  hb := fun j => G.hb j.1
  K := G.K
  mg := G.mg
  N := G.N
  u := G.u
  hK := fun j => G.hK j.1
  hm := fun j => G.hm j.1
  hN := fun j => G.hN j.1
  hc := fun j => G.hc j.1
  hr := fun j => G.hr j.1
def compL (bind : D → S → Option S) (test : XT) (elt : XE) (s : S) : List D → Option (List D)
  | [] => some []
  | d :: ds => (bind d s).bind fun s' => (test s').bind fun k => if k then (elt s').bind fun y => (compL bind test elt s ds).map fun r => y :: r else compL bind test elt s ds
def xComp (it : XA) (bind : D → S → Option S) (vs : List Nat) (test : XT) (elt : XE) : XE := fun s => (it s).bind fun ds => (compL bind test elt (wipeS s vs) ds).bind fun r => lim ds.length (.lst r)
def xYes : XT := fun _ => some true
def CTs (G : Fam) (T : CT) (ifs : List Expr) (f : XT) : Prop := ∃ te : TT, (∀ i, PTs (G.X i) ifs te) ∧ ∀ s σ F H d, Ex F H → Sl G.K T F s σ → f s = some d → EvT te σ F H d
section
variable {G : Fam} {T : CT} {tg iter elt c : Expr} {ifs : List Expr} {scope : Scope} {own : List (Str × Nat)} {pos p1 p2 : Pos} {it : XA} {bind : D → S → Option S} {test : XT} {f : XE}
theorem cts_nil : CTs G T [] xYes := ⟨tYes, fun _ => pts_nil, fun s σ F H d hx hs hf F1 H1 e1 Q q => by cases hf; exact q F1 H1 (Ext.refl e1.sub)⟩
theorem cts_one (h : CT_ G T c test) : CTs G T [c] test := by
  obtain ⟨t, h1, h2⟩ := h
  exact ⟨t, fun i => pts_one (h1 i), h2⟩
theorem take_succ_drop {α : Type} : ∀ (ds : List α) (i : Nat) (d : α), ds[i]? = some d → ds.drop i = d :: ds.drop (i + 1)
  | [], i, d, h => by simp at h
  | x :: ds, 0, d, h => by
    have e := Option.some.inj h
    subst e
    rfl
  | x :: ds, i + 1, d, h => take_succ_drop ds i d (by simpa using h)
/-- the reading of a comprehension -/
theorem tLc_ev {wi : TI} {g : TG} {tt : TT} {te : TE} {vs : List Nat} {s : S} {σ : L2.St} {F1 H1 : Hp} {r : List D} {ds : List D}
    (vi : ∀ R : It → Hp → Prop, (∀ J F2 H2, Ext F1 H1 F2 H2 → WalkD G.K T J F2 ds → R J H2) → wi σ H1 R) (hx : Ex F1 H1) (hs : Sl G.K T F1 s σ)
    (vg : ∀ s s' σ F H d v, Ex F H → Sl G.K T F s σ → Dv G.K T F v d → bind d s = some s' → ∀ Q : L2.St → Hp → Prop, (∀ σ', Sl G.K T F s' σ' → L2.wipe σ' vs = L2.wipe σ vs → (∀ k, k ∉ vs → σ'[k]? = σ[k]?) → Q σ' H) → g v σ H Q)
    (vt : ∀ s σ F H d, Ex F H → Sl G.K T F s σ → test s = some d → EvT tt σ F H d) (ve : ∀ s σ F H d, Ex F H → Sl G.K T F s σ → f s = some d → EvV G.K T te σ F H d)
    (hr : compL bind test f (wipeS s vs) ds = some r) (hz : ds.length ≤ 100000) (Q : VK) (q : ∀ v F2 H2, Ext F1 H1 F2 H2 → Dv G.K T F2 v (.lst r) → Q v H2) : tLc wi g tt te vs σ H1 Q := by
  refine vi _ fun J F2 H2 e2 wk => ?_
  intro Dl hD
  obtain ⟨w1, w2, w3⟩ := wk
  have hFD : F2 Dl = none := free0 e2.sub hD
  let Pv : Nat → Hp → Prop := fun i H => ∃ (F' : Hp) (acc : List V) (r1 : List D), Ex F2 F' ∧ Ex F' H ∧ F' Dl = none ∧ H Dl = some (.lst acc) ∧ DvA G.K T F' acc r1 ∧ r1.length ≤ i ∧ (compL bind test f (wipeS s vs) (ds.drop i)).map (fun x => r1 ++ x) = some r ∧
    ∀ p o, p ≠ Dl → F2 p = none → H2 p = some o → F' p = none ∧ H p = some o
  refine ⟨fun i m H => m = ds.length - i ∧ i ≤ ds.length ∧ Pv i H, ⟨ds.length, by simp, Nat.zero_le _, F2, [], [], Evl.Ex.refl F2, fun a o ha => by rw [upd_ne (ne_of_none ha hFD)]; exact e2.sub a o ha, hFD, upd_same, .nil, Nat.le_refl _, by
    rw [List.drop_zero, hr]; rfl, fun p o hp h1 h2 => ⟨h1, by rw [upd_ne hp]; exact h2⟩⟩, ?_⟩
  rintro i m H ⟨rfl, hi, F', acc, r1, f1, f2, f3, f4, f5, f6, f7, f8⟩
  by_cases hlt : i < ds.length
  · refine .inr ⟨w1 i H hlt (f1.trans f2), Pv (i + 1), fun H' p' => ⟨ds.length - (i + 1), by omega, rfl, hlt, p'⟩, fun x H' y => ?_⟩
    obtain ⟨F3, d, e3, hd, rx⟩ := w3 i F' H x H' hlt f1 f2 y
    rw [take_succ_drop ds i d hd] at f7
    obtain ⟨z, f7, f9⟩ := Option.map_eq_some_iff.mp f7
    rw [compL] at f7
    obtain ⟨s', b1, f7⟩ := Option.bind_eq_some_iff.mp f7
    obtain ⟨k, b2, f7⟩ := Option.bind_eq_some_iff.mp f7
    have hs3 : Sl G.K T F3 (wipeS s vs) (L2.wipe σ vs) := ((hs.mono ((e2.fz.trans f1).trans e3.fz)).wipe vs)
    refine vg _ s' _ F3 H' d x e3.sub hs3 rx b1 _ fun σ2 hs4 hw hk => ⟨?_, ?_⟩
    · rw [hw]
      apply List.ext_getElem?
      intro k
      rw [wipe_get, wipe_get]
      by_cases hk : k ∈ vs
      · rw [if_pos hk, if_pos hk]; cases σ[k]? <;> rfl
      · rw [if_neg hk, if_neg hk]
    · refine vt s' σ2 F3 H' k e3.sub hs4 b2 F3 H' (Ext.refl e3.sub) _ fun F4 H4 e4 => ?_
      have own0 : F4 Dl = none ∧ H4 Dl = some (.lst acc) := by
        obtain ⟨a1, a2⟩ := e3.own Dl _ f3 f4
        exact e4.own Dl _ a1 a2
      have ownr : ∀ p o, p ≠ Dl → F2 p = none → H2 p = some o → F4 p = none ∧ H4 p = some o := fun p o hp h1 h2 => by
        obtain ⟨a1, a2⟩ := f8 p o hp h1 h2
        obtain ⟨a1, a2⟩ := e3.own p _ a1 a2
        exact e4.own p _ a1 a2
      cases k with
      | true =>
        simp only [if_true] at f7 ⊢
        obtain ⟨y1, b3, f7⟩ := Option.bind_eq_some_iff.mp f7
        obtain ⟨z2, b4, rfl⟩ := Option.map_eq_some_iff.mp f7
        refine ve s' σ2 F3 H' y1 e3.sub hs4 b3 F4 H4 e4 _ fun v F5 H5 e5 rv => ?_
        obtain ⟨o1, o2⟩ := e5.own Dl _ own0.1 own0.2
        have hacc : acc.length = r1.length := dva_len f5
        refine ⟨acc, o2, Evl.sz_lt (by omega), F5, acc ++ [v], r1 ++ [y1], ((f1.trans e3.fz).trans e4.fz).trans e5.fz, fun a o ha => by rw [upd_ne (ne_of_none ha o1)]; exact e5.sub a o ha, o1, upd_same, dva_app (dva_mono ((e3.fz.trans e4.fz).trans e5.fz) _ _ f5) (.cons rv .nil), ?_, ?_, fun p o hp h1 h2 => ?_⟩
        · rw [List.length_append]; simp only [List.length_cons, List.length_nil]; omega
        · rw [b4, ← f9]
          simp only [Option.map_some, List.append_assoc, List.singleton_append]
        · obtain ⟨a1, a2⟩ := ownr p o hp h1 h2
          obtain ⟨a1, a2⟩ := e5.own p _ a1 a2
          exact ⟨a1, by rw [upd_ne hp]; exact a2⟩
      | false =>
        simp only [Bool.false_eq_true, if_false] at f7 ⊢
        exact ⟨F4, acc, r1, (f1.trans e3.fz).trans e4.fz, e4.sub, own0.1, own0.2, dva_mono (e3.fz.trans e4.fz) _ _ f5, by omega, by rw [f7, ← f9]; rfl, ownr⟩
  · have e : i = ds.length := by omega
    subst e
    refine .inl ⟨w2 H (f1.trans f2), q _ (upd F' Dl (.lst acc)) H ⟨(e2.fz.trans f1).trans (Evl.Ex.new f3), fun a o ha => ?_, fun p o h1 h2 => ?_⟩ ?_⟩
    · by_cases hp : a = Dl
      · subst hp; rw [upd_same] at ha; cases ha; exact f4
      · rw [upd_ne hp] at ha; exact f2 a o ha
    · obtain ⟨a1, a2⟩ := e2.own p o h1 h2
      have hp : p ≠ Dl := ne_of_none a2 hD
      obtain ⟨a3, a4⟩ := f8 p o hp a1 a2
      exact ⟨by rw [upd_ne hp]; exact a3, a4⟩
    · rw [List.drop_length, compL] at f7
      simp only [Option.map_some, List.append_nil, Option.some.injEq] at f7
      subst f7
      exact .lst upd_same (dva_mono (Evl.Ex.new f3) _ _ f5)
/-- [f for tg in iter if test] -/
theorem ce_comp (N0 : List Str) (sc0 : Scope) (own : List (Str × Nat)) (hi : CI G T tg iter it) (hg : CG (G.blk scope) T tg (own.map (·.2)) bind) (ht : CTs (G.blk scope) T ifs test) (he : CE (G.blk scope) T elt f)
    (hbl : blkC N0 sc0 scope own = true := by decide +kernel) (hNd : ∀ i, (G.X i).N.Nodup) (hN0 : ∀ i, (G.X i).N = N0 := by intro _; rfl) (hsc : ∀ i, (G.X i).env.scope = sc0 := by intro _; rfl)
    (hfs : ∀ i x, foldedSetIterable iter (G.X i).env x = pure x := by intro _ _; rfl) : CE G T (.ListComp elt [⟨tg, iter, ifs, 0⟩] scope pos) (xComp it bind (own.map (·.2)) test f) := by
  obtain ⟨wi, hi, vi⟩ := hi
  obtain ⟨g, hg, vg⟩ := hg
  obtain ⟨tt, ht, vt⟩ := ht
  obtain ⟨te, he, ve⟩ := he
  refine ⟨tLc wi g tt te (own.map (·.2)), fun i => pe_lc (G.hc i) (hNd i) (hi i) (by rw [hN0 i, hsc i]; exact blkOk_by hbl) (fun s H C cl fp => hg ⟨i, s, H, C, cl, fp⟩) (fun s H C cl fp => ht ⟨i, s, H, C, cl, fp⟩) (fun s H C cl fp => he ⟨i, s, H, C, cl, fp⟩) (hfs i), fun s σ F H d hx hs hf F1 H1 e1 Q q => ?_⟩
  unfold xComp at hf
  simp only [Option.bind_eq_some_iff] at hf
  obtain ⟨ds, h1, r, h2, h3⟩ := hf
  have hz : ds.length ≤ 100000 ∧ D.lst r = d := by
    unfold lim at h3
    split at h3
    · exact ⟨by assumption, Option.some.inj h3⟩
    · cases h3
  obtain ⟨hz, rfl⟩ := hz
  exact tLc_ev (G := G) (fun R hR => vi s σ F H ds hx hs h1 F1 H1 e1 R hR) e1.sub (hs.mono e1.fz) vg vt ve h2 hz Q q
end
end Mr

set_option Elab.async false
set_option linter.all false
set_option maxRecDepth 100000
set_option maxHeartbeats 2000000
/-! statements and their mirrors -/
namespace Mr
open PySem PySem.Spec PyProof.Rows L2
open Evl (Ex)

inductive Out where
  | nx (s : S)
  | rt (d : D) (s : S)
  | bk (s : S)
  | ct (s : S)
  | ex (c : Nat) (d : D)

theorem wipeS_some {s : S} {i : Nat} {d : D} : ∀ {vs : List Nat}, (wipeS s vs)[i]? = some (some d) → s[i]? = some (some d) ∧ i ∉ vs
  | [], h => ⟨h, by simp⟩
  | v :: vs, h => by
    unfold wipeS at h
    by_cases hi : v = i
    · subst hi
      by_cases hv : v < (wipeS s vs).length
      · rw [List.getElem?_set_self hv] at h; cases h
      · rw [List.getElem?_eq_none (by rw [List.length_set]; omega)] at h; cases h
    · rw [List.getElem?_set_ne hi] at h
      obtain ⟨h1, h2⟩ := wipeS_some h
      exact ⟨h1, by simp only [List.mem_cons, not_or]; exact ⟨fun e => hi e.symm, h2⟩⟩
theorem wipeS_length (s : S) : ∀ vs : List Nat, (wipeS s vs).length = s.length
  | [] => rfl
  | v :: vs => by unfold wipeS; rw [List.length_set, wipeS_length s vs]

/-- the mirror's state s, the slots σ, the frozen heap F within H; F₀, H₀: at the entry; own: slots of lists of one's own that may be written -/
structure Rel (K : PySem.W.Frag) (T : CT) (F0 H0 : Hp) (ga : Nat → Option Addr) (own : List Nat) (F H : Hp) (s : S) (σ : L2.St) : Prop where
  hx : Ex F H
  e0 : Ext F0 H0 F H
  len : s.length = σ.length
  sh : ∀ (i : Nat) (d : D), i ∉ own → s[i]? = some (some d) → ∃ v, σ[i]? = some (some v) ∧ Dv K T F v d
  ow : ∀ (i : Nat) (d : D), i ∈ own → s[i]? = some (some d) → ∃ (a : Addr) (xs : List V) (ds : List D), σ[i]? = some (some (.ref a)) ∧ d = .lst ds ∧ F a = none ∧ H0 a = none ∧ H a = some (.lst xs) ∧ DvA K T F xs ds
  dj : ∀ (i j : Nat) (a : Addr) (d e : D), i ∈ own → j ∈ own → i ≠ j → s[i]? = some (some d) → s[j]? = some (some e) → σ[i]? = some (some (.ref a)) → σ[j]? = some (some (.ref a)) → False
  ga_ : ∀ (i : Nat) (a : Addr), i ∈ own → ga i = some a → σ[i]? = some (some (.ref a))

section
variable {K : PySem.W.Frag} {T : CT} {F0 H0 F H F2 H2 : Hp} {ga : Nat → Option Addr} {own : List Nat} {s : S} {σ : L2.St}
theorem Rel.sl (r : Rel K T F0 H0 ga own F H s σ) : Sl K T F (wipeS s own) σ := ⟨by rw [wipeS_length, r.len], fun i d hi => let ⟨h1, h2⟩ := wipeS_some hi; r.sh i d h2 h1⟩
theorem Rel.slH (r : Rel K T F0 H0 ga own F H s σ) : Sl K T H s σ := ⟨r.len, fun i d hi => by
  by_cases h : i ∈ own
  · obtain ⟨a, xs, ds, h1, rfl, h3, h0, h4, h5⟩ := r.ow i d h hi
    exact ⟨_, h1, .lst h4 (dva_mono r.hx _ _ h5)⟩
  · obtain ⟨v, h1, h2⟩ := r.sh i d h hi
    exact ⟨v, h1, dv_mono r.hx _ _ h2⟩⟩
theorem Rel.ext (r : Rel K T F0 H0 ga own F H s σ) (e : Ext F H F2 H2) : Rel K T F0 H0 ga own F2 H2 s σ :=
  ⟨e.sub, r.e0.trans e, r.len, fun i d h hi => let ⟨v, h1, h2⟩ := r.sh i d h hi; ⟨v, h1, dv_mono e.fz _ _ h2⟩,
    fun i d h hi => let ⟨a, xs, ds, h1, h2, h3, h0, h4, h5⟩ := r.ow i d h hi; let ⟨h6, h7⟩ := e.own a _ h3 h4; ⟨a, xs, ds, h1, h2, h6, h0, h7, dva_mono e.fz _ _ h5⟩, r.dj, r.ga_⟩
theorem Rel.extH (r : Rel K T F0 H0 ga own F H s σ) (e : Ext H H F2 H2) : Rel K T F0 H0 ga own F H2 s σ := by
  have eH : Ex H H2 := e.fz.trans e.sub
  exact ⟨r.hx.trans eH, ⟨r.e0.fz, r.hx.trans eH, fun p o h1 h2 => let ⟨a, b⟩ := r.e0.own p o h1 h2; ⟨a, eH p o b⟩⟩, r.len, r.sh,
    fun i d h hi => let ⟨a, xs, ds, h1, h2, h3, h0, h4, h5⟩ := r.ow i d h hi; ⟨a, xs, ds, h1, h2, h3, h0, eH _ _ h4, h5⟩, r.dj, r.ga_⟩
theorem lt_of_some {α : Type} {l : List α} {i : Nat} {x : α} (h : l[i]? = some x) : i < l.length := (List.getElem?_eq_some_iff.mp h).1
theorem Rel.set (r : Rel K T F0 H0 ga own F H s σ) {j : Nat} {d : D} {v : V} (hj : j ∉ own) (hd : Dv K T F v d) : Rel K T F0 H0 ga own F H (s.set j (some d)) (σ.set j (some v)) := by
  have ne : ∀ i, i ∈ own → j ≠ i := fun i hi e => hj (e ▸ hi)
  refine ⟨r.hx, r.e0, by rw [List.length_set, List.length_set, r.len], fun i x h hi => ?_, fun i x h hi => ?_, fun i k a x y h1 h2 h3 h4 h5 h6 h7 => ?_, fun i a hi hga => by rw [List.getElem?_set_ne (ne i hi)]; exact r.ga_ i a hi hga⟩
  · by_cases e : j = i
    · subst e
      have hl : j < s.length := by have := lt_of_some hi; rwa [List.length_set] at this
      rw [List.getElem?_set_self hl] at hi
      cases hi
      exact ⟨v, List.getElem?_set_self (by rw [← r.len]; exact hl), hd⟩
    · rw [List.getElem?_set_ne e] at hi ⊢
      exact r.sh i x h hi
  · rw [List.getElem?_set_ne (ne i h)] at hi
    rw [List.getElem?_set_ne (ne i h)]
    exact r.ow i x h hi
  · rw [List.getElem?_set_ne (ne i h1)] at h4 h6
    rw [List.getElem?_set_ne (ne k h2)] at h5 h7
    exact r.dj i k a x y h1 h2 h3 h4 h5 h6 h7
/-- a new list of one's own comes into slot j -/
theorem Rel.setOwn (r : Rel K T F0 H0 ga own F H s σ) {j : Nat} {ds : List D} {xs : List V} {p : Addr} (hj : j ∈ own) (hgj : ga j = none) (hF : F p = none) (h0 : H0 p = none) (hH : H p = some (.lst xs)) (hd : DvA K T F xs ds)
    (hn : ∀ i a, i ∈ own → i ≠ j → (∃ d, s[i]? = some (some d)) → σ[i]? = some (some (.ref a)) → a ≠ p) : Rel K T F0 H0 ga own F H (s.set j (some (.lst ds))) (σ.set j (some (.ref p))) := by
  have ne : ∀ i, i ∉ own → j ≠ i := fun i hi e => hi (e ▸ hj)
  refine ⟨r.hx, r.e0, by rw [List.length_set, List.length_set, r.len], fun i x h hi => ?_, fun i x h hi => ?_, fun i k a x y h1 h2 h3 h4 h5 h6 h7 => ?_, fun i a hi hga => by rw [List.getElem?_set_ne (by rintro rfl; rw [hgj] at hga; cases hga)]; exact r.ga_ i a hi hga⟩
  · rw [List.getElem?_set_ne (ne i h)] at hi ⊢
    exact r.sh i x h hi
  · by_cases e : j = i
    · subst e
      have hl : j < s.length := by have := lt_of_some hi; rwa [List.length_set] at this
      rw [List.getElem?_set_self hl] at hi
      cases hi
      exact ⟨p, xs, ds, List.getElem?_set_self (by rw [← r.len]; exact hl), rfl, hF, h0, hH, hd⟩
    · rw [List.getElem?_set_ne e] at hi ⊢
      exact r.ow i x h hi
  · by_cases e : j = i
    · subst e
      have hl : j < σ.length := by have := lt_of_some h6; rwa [List.length_set] at this
      rw [List.getElem?_set_self hl] at h6
      cases h6
      rw [List.getElem?_set_ne h3] at h5 h7
      exact hn k p h2 (fun z => h3 z.symm) ⟨y, h5⟩ h7 rfl
    · by_cases e2 : j = k
      · subst e2
        have hl : j < σ.length := by have := lt_of_some h7; rwa [List.length_set] at this
        rw [List.getElem?_set_self hl] at h7
        cases h7
        rw [List.getElem?_set_ne e] at h4 h6
        exact hn i p h1 h3 ⟨x, h4⟩ h6 rfl
      · rw [List.getElem?_set_ne e] at h4 h6
        rw [List.getElem?_set_ne e2] at h5 h7
        exact r.dj i k a x y h1 h2 h3 h4 h5 h6 h7
/-- one's own list in slot j is written -/
theorem Rel.write (r : Rel K T F0 H0 ga own F H s σ) {j : Nat} {d : D} {ds' : List D} {xs' : List V} {a : Addr} (hj : j ∈ own) (hs : s[j]? = some (some d)) (ha : σ[j]? = some (some (.ref a))) (hd : DvA K T F xs' ds') :
    Rel K T F0 H0 ga own F (upd H a (.lst xs')) (s.set j (some (.lst ds'))) σ := by
  obtain ⟨a', xs, ds, h1, rfl, h3, h0, h4, h5⟩ := r.ow j d hj hs
  rw [ha] at h1
  cases h1
  have ne : ∀ i, i ∉ own → j ≠ i := fun i hi e => hi (e ▸ hj)
  refine ⟨fun b o hb => by rw [upd_ne (ne_of_none hb h3)]; exact r.hx b o hb, ⟨r.e0.fz, fun b o hb => by rw [upd_ne (ne_of_none hb h3)]; exact r.hx b o hb, fun p o h6 h7 => ?_⟩, by rw [List.length_set, r.len], fun i x h hi => ?_, fun i x h hi => ?_, fun i k b x y h1 h2 h6 h7 h8 h9 h10 => ?_, r.ga_⟩
  · obtain ⟨h8, h9⟩ := r.e0.own p o h6 h7
    exact ⟨h8, by rw [upd_ne (ne_of_none h7 h0)]; exact h9⟩
  · rw [List.getElem?_set_ne (ne i h)] at hi
    exact r.sh i x h hi
  · by_cases e : j = i
    · subst e
      rw [List.getElem?_set_self (lt_of_some hs)] at hi
      cases hi
      exact ⟨a, xs', ds', ha, rfl, h3, h0, upd_same, hd⟩
    · rw [List.getElem?_set_ne e] at hi
      obtain ⟨b, ys, es, g1, g2, g3, g0, g4, g5⟩ := r.ow i x h hi
      have hne : b ≠ a := fun z => r.dj i j a x _ h hj (fun q => e q.symm) hi hs (z ▸ g1) ha
      exact ⟨b, ys, es, g1, g2, g3, g0, by rw [upd_ne hne]; exact g4, g5⟩
  · have up : ∀ m z, (s.set j (some (D.lst ds')))[m]? = some (some z) → ∃ z', s[m]? = some (some z') := fun m z hm => by
      by_cases e : j = m
      · subst e; exact ⟨_, hs⟩
      · rw [List.getElem?_set_ne e] at hm; exact ⟨z, hm⟩
    obtain ⟨x', h7⟩ := up i x h7
    obtain ⟨y', h8⟩ := up k y h8
    exact r.dj i k b x' y' h1 h2 h6 h7 h8 h9 h10
end

section
variable {K : PySem.W.Frag} {T : CT} {F0 H0 F H : Hp} {ga : Nat → Option Addr} {own : List Nat} {s : S} {σ : L2.St}
theorem Rel.freeze1 {j : Nat} (r : Rel K T F0 H0 ga (j :: own) F H s σ) : ∃ F', Ex F F' ∧ Rel K T F0 H0 ga own F' H s σ := by
  by_cases hj : j ∈ own
  · have e : ∀ i, i ∈ j :: own ↔ i ∈ own := fun i => by
      rw [List.mem_cons]
      exact ⟨fun z => z.elim (fun q => q ▸ hj) id, .inr⟩
    exact ⟨F, Evl.Ex.refl F, ⟨r.hx, r.e0, r.len, fun i d h => r.sh i d (fun z => h ((e i).mp z)), fun i d h => r.ow i d ((e i).mpr h), fun i k a d e' h1 h2 => r.dj i k a d e' ((e i).mpr h1) ((e k).mpr h2), fun i a hi hga => r.ga_ i a ((e i).mpr hi) hga⟩⟩
  · have keep : ∀ (F' : Hp), Ex F F' → (∀ i d, i ∈ own → s[i]? = some (some d) → ∃ (a : Addr) (xs : List V) (ds : List D), σ[i]? = some (some (.ref a)) ∧ d = .lst ds ∧ F' a = none ∧ H0 a = none ∧ H a = some (.lst xs) ∧ DvA K T F xs ds) → Ext F0 H0 F' H →
        (∀ d, s[j]? = some (some d) → ∃ v, σ[j]? = some (some v) ∧ Dv K T F' v d) → ∃ F', Ex F F' ∧ Rel K T F0 H0 ga own F' H s σ := fun F' ef how he hsj =>
      ⟨F', ef, ⟨he.sub, he, r.len, fun i d h hi => by
        by_cases e : i = j
        · subst e; exact hsj d hi
        · obtain ⟨v, h1, h2⟩ := r.sh i d (by rw [List.mem_cons]; exact fun z => z.elim e h) hi
          exact ⟨v, h1, dv_mono ef _ _ h2⟩, fun i d h hi => by
        obtain ⟨a, xs, ds, h1, h2, h3, h4, h5, h6⟩ := how i d h hi
        exact ⟨a, xs, ds, h1, h2, h3, h4, h5, dva_mono ef _ _ h6⟩, fun i k a d e' h1 h2 => r.dj i k a d e' (List.mem_cons_of_mem _ h1) (List.mem_cons_of_mem _ h2), fun i a hi hga => r.ga_ i a (List.mem_cons_of_mem _ hi) hga⟩⟩
    have dead : (∀ d, ¬ s[j]? = some (some d)) → ∃ F', Ex F F' ∧ Rel K T F0 H0 ga own F' H s σ := fun h => keep F (Evl.Ex.refl F) (fun i d hi => r.ow i d (List.mem_cons_of_mem _ hi)) r.e0 fun d hd => absurd hd (h d)
    cases hs : s[j]? with
    | none => exact dead fun d hd => by rw [hs] at hd; cases hd
    | some z =>
      cases z with
      | none => exact dead fun d hd => by rw [hs] at hd; cases hd
      | some d =>
        obtain ⟨a, xs, ds, h1, rfl, h3, h0, h4, h5⟩ := r.ow j d List.mem_cons_self hs
        refine keep (upd F a (.lst xs)) (Evl.Ex.new h3) (fun i x hi hx => ?_) ⟨r.e0.fz.trans (Evl.Ex.new h3), fun b o hb => ?_, fun q o h6 h7 => ?_⟩ fun x hx => ?_
        · obtain ⟨b, ys, es, g1, g2, g3, g0, g4, g5⟩ := r.ow i x (List.mem_cons_of_mem _ hi) hx
          have hne : b ≠ a := fun z => r.dj i j a x _ (List.mem_cons_of_mem _ hi) List.mem_cons_self (fun q => hj (q ▸ hi)) hx hs (z ▸ g1) h1
          exact ⟨b, ys, es, g1, g2, by rw [upd_ne hne]; exact g3, g0, g4, g5⟩
        · by_cases hq : b = a
          · subst hq; rw [upd_same] at hb; cases hb; exact h4
          · rw [upd_ne hq] at hb; exact r.hx b o hb
        · obtain ⟨h8, h9⟩ := r.e0.own q o h6 h7
          exact ⟨by rw [upd_ne (ne_of_none h7 h0)]; exact h8, h9⟩
        · rw [hs] at hx
          cases hx
          exact ⟨_, h1, .lst upd_same (dva_mono (Evl.Ex.new h3) _ _ h5)⟩
theorem Rel.freezeTo {gs : List Nat} : ∀ {oth : List Nat} {F : Hp}, Rel K T F0 H0 ga (oth ++ gs) F H s σ → ∃ F', Ex F F' ∧ Rel K T F0 H0 ga gs F' H s σ
  | [], F, r => ⟨F, Evl.Ex.refl F, r⟩
  | _ :: _, F, r => by
    obtain ⟨F1, e1, r1⟩ := r.freeze1
    obtain ⟨F2, e2, r2⟩ := Rel.freezeTo r1
    exact ⟨F2, e1.trans e2, r2⟩
end

def Post (K : PySem.W.Frag) (T : CT) (F0 H0 : Hp) (ga : Nat → Option Addr) (gs own : List Nat) (Dn : Ends) (E : XK) (Fs : Hp) : Out → Prop
  | .nx s' => ∀ F H σ, Ex Fs F → Rel K T F0 H0 ga own F H s' σ → Dn.nx σ H
  | .bk s' => ∀ F H σ, Ex Fs F → Rel K T F0 H0 ga own F H s' σ → Dn.bk σ H
  | .ct s' => ∀ F H σ, Ex Fs F → Rel K T F0 H0 ga own F H s' σ → Dn.ct σ H
  | .rt d s' => ∀ v F H σ, Rel K T F0 H0 ga gs F H s' σ → Dv K T F v d → Dn.rt v H
  | .ex c d => ∀ dd v F H, Ext F0 H0 F H → H dd = some (.xd [(("value" : Str), v)]) → Dv K T F v d → E (.ref (T.exc c)) (some dd) H
theorem Post.mono {K : PySem.W.Frag} {T : CT} {F0 H0 : Hp} {ga : Nat → Option Addr} {gs own : List Nat} {Dn : Ends} {E : XK} {F F' : Hp} (e : Ex F F') : ∀ {o : Out}, Post K T F0 H0 ga gs own Dn E F o → Post K T F0 H0 ga gs own Dn E F' o
  | .nx _, h => fun G H σ a r => h G H σ (e.trans a) r
  | .bk _, h => fun G H σ a r => h G H σ (e.trans a) r
  | .ct _, h => fun G H σ a r => h G H σ (e.trans a) r
  | .rt _ _, h => h
  | .ex _ _, h => h
def EvS (K : PySem.W.Frag) (T : CT) (E : XK) (gs own : List Nat) (t : TS) (g : S → Option Out) : Prop :=
  ∀ F0 H0 ga s σ F H o Dn, (∀ i, i ∉ gs → ga i = none) → Rel K T F0 H0 ga own F H s σ → g s = some o → Post K T F0 H0 ga gs own Dn E F o → t Dn σ H
def CS (G : Fam) (T : CT) (E : XK) (gs own : List Nat) (st : Stmt) (g : S → Option Out) : Prop := ∃ t : TS, (∀ i, PS (G.X i) st t) ∧ EvS G.K T E gs own t g
def CSs (G : Fam) (T : CT) (E : XK) (gs own : List Nat) (st : List Stmt) (g : S → Option Out) : Prop := ∃ t : TS, (∀ i, PSs (G.X i) st t) ∧ EvS G.K T E gs own t g

/-! the mirror's words -/
def sNil : S → Option Out := fun s => some (.nx s)
def sSeq (g1 g2 : S → Option Out) : S → Option Out := fun s => (g1 s).bind fun o => match o with
  | .nx s' => g2 s'
  | o => some o
/-- x = f, what f tells kept for good (the lists of one's own aren't read in it) -/
def sSet (own : List Nat) (j : Nat) (f : XE) : S → Option Out := fun s => (f (wipeS s own)).map fun d => .nx (s.set j (some d))
def scalB : D → Bool
  | .non => true
  | .bl _ => true
  | .int _ => true
  | .str _ => true
  | _ => false
/-- x = f, a scalar (the lists of one's own may be read) -/
def sSetC (j : Nat) (f : XE) : S → Option Out := fun s => (f s).bind fun d => if scalB d then some (.nx (s.set j (some d))) else none
/-- x = f, a new list of one's own -/
def sSetO (own : List Nat) (j : Nat) (f : S → Option (List D)) : S → Option Out := fun s => (f (wipeS s own)).map fun ds => .nx (s.set j (some (.lst ds)))
def sRet (gs : List Nat) (f : XE) : S → Option Out := fun s => (f (wipeS s gs)).map fun d => .rt d s
def sIf (t : XT) (g1 g2 : S → Option Out) : S → Option Out := fun s => (t s).bind fun k => if k then g1 s else g2 s
def whileM (c : XT) (b : S → Option Out) : Nat → S → Option Out
  | 0, _ => none
  | n + 1, s => (c s).bind fun k => if k then (b s).bind fun o => match o with
      | .nx s' => whileM c b n s'
      | .ct s' => whileM c b n s'
      | .bk s' => some (.nx s')
      | o => some o
    else some (.nx s)
def forM (bind : D → S → Option S) (b : S → Option Out) : List D → S → Option Out
  | [], s => some (.nx s)
  | d :: ds, s => (bind d s).bind fun s1 => (b s1).bind fun o => match o with
      | .nx s' => forM bind b ds s'
      | .ct s' => forM bind b ds s'
      | .bk s' => some (.nx s')
      | o => some o
def sFor (own : List Nat) (it : XA) (bind : D → S → Option S) (b : S → Option Out) : S → Option Out := fun s => (it (wipeS s own)).bind fun ds => forM bind b ds s
def sAug (j : Nat) (op : Int → Int → Int) (f : XE) : S → Option Out := fun s => match (s[j]?).join, f s with
  | some (.int a), some (.int b) => some (.nx (s.set j (some (.int (op a b)))))
  | _, _ => none
def sApp (own : List Nat) (j : Nat) (f : XE) : S → Option Out := fun s => match (s[j]?).join, f (wipeS s own) with
  | some (.lst ds), some d => if ds.length < 100000 then some (.nx (s.set j (some (.lst (ds ++ [d]))))) else none
  | _, _ => none
/-- the same, a scalar that may be read off one's own lists -/
def sAppC (j : Nat) (f : XE) : S → Option Out := fun s => match (s[j]?).join, f s with
  | some (.lst ds), some d => if ds.length < 100000 ∧ scalB d = true then some (.nx (s.set j (some (.lst (ds ++ [d]))))) else none
  | _, _ => none
def sPop (j : Nat) : S → Option Out := fun s => match (s[j]?).join with
  | some (.lst ds) => if ds ≠ [] then some (.nx (s.set j (some (.lst ds.dropLast)))) else none
  | _ => none
/-- x[i] = f, f a scalar -/
def sStoC (j : Nat) (fi f : XE) : S → Option Out := fun s => match (s[j]?).join, f s, fi s with
  | some (.lst ds), some d, some (.int k) => if scalB d = true then (ixN ds.length k).map fun m => .nx (s.set j (some (.lst (ds.set m d)))) else none
  | _, _, _ => none
def sCallX (m : List D → Option FR) (own : List Nat) (fa : XA) : S → Option Out := fun s => (fa (wipeS s own)).bind fun ds => (m ds).map fun r => match r with
  | .ret _ => .nx s
  | .exc c d => .ex c d

section
variable {G : Fam} {T : CT} {E : XK} {gs own : List Nat} {st : Stmt} {sts sts2 : List Stmt} {g g1 g2 : S → Option Out} {e a b c : Expr} {es : List Expr} {f : XE} {t : XT} {p pos p2 apos : Pos}
theorem css_nil : CSs G T E gs own [] sNil := ⟨tNext, fun _ => pss_nil, fun F0 H0 ga s σ F H o Dn hga r hg hp => by cases hg; exact hp F H σ (Evl.Ex.refl F) r⟩
theorem css_cons (h1 : CS G T E gs own st g1) (h2 : CSs G T E gs own sts g2) : CSs G T E gs own (st :: sts) (sSeq g1 g2) := by
  obtain ⟨t1, p1, v1⟩ := h1
  obtain ⟨t2, p2, v2⟩ := h2
  refine ⟨tSeq t1 t2, fun i => pss_cons (p1 i) (p2 i), fun F0 H0 ga s σ F H o Dn hga r hg hp => ?_⟩
  unfold sSeq at hg
  obtain ⟨o1, e1, hg⟩ := Option.bind_eq_some_iff.mp hg
  refine v1 F0 H0 ga s σ F H o1 { Dn with nx := t2 Dn } hga r e1 ?_
  cases o1 with
  | nx s' => exact fun F1 H1 σ1 a1 r1 => v2 F0 H0 ga s' σ1 F1 H1 o Dn hga r1 hg (hp.mono a1)
  | rt d s' => cases hg; exact hp
  | bk s' => cases hg; exact hp
  | ct s' => cases hg; exact hp
  | ex c d => cases hg; exact hp
theorem css_one (h1 : CS G T E gs own st g) : CSs G T E gs own [st] g := by
  obtain ⟨t1, p1, v1⟩ := h1
  exact ⟨t1, fun i => pss_one (p1 i), v1⟩
theorem cs_pass : CS G T E gs own (.Pass pos) sNil := ⟨tNext, fun _ => ps_pass, fun F0 H0 ga s σ F H o Dn hga r hg hp => by cases hg; exact hp F H σ (Evl.Ex.refl F) r⟩
theorem cs_cont : CS G T E gs own (.Continue pos) (fun s => some (.ct s)) := ⟨_, fun _ => ps_continue, fun F0 H0 ga s σ F H o Dn hga r hg hp => by cases hg; exact hp F H σ (Evl.Ex.refl F) r⟩
theorem cs_break : CS G T E gs own (.Break pos) (fun s => some (.bk s)) := ⟨_, fun _ => ps_break, fun F0 H0 ga s σ F H o Dn hga r hg hp => by cases hg; exact hp F H σ (Evl.Ex.refl F) r⟩

/-- x = e -/
theorem cs_set (j : Nat) {x : Str} {px : Pos} (he : CE G T e f) (hNd : ∀ i, (G.X i).N.Nodup) (hj : j ∉ own := by decide) (hN : ∀ i, (G.X i).N[j]? = some x := by intro _; rfl) (hx : ∀ i, Loc (G.X i).env.scope x := by intro _; first | exact Or.inl rfl | exact Or.inr rfl)
    (hs : ∀ i, swapsWith e (some (.Name x px)) pos.line (G.X i).env = pure false := by intro _; rfl) (hf : ∀ i, (G.X i).fn x = true ∨ (G.X i).env.scope.names.lookup x = some .local := by intro _; first | exact .inl rfl | exact .inr rfl) : CS G T E gs own (.Assign [.Name x px] e pos) (sSet own j f) := by
  obtain ⟨te, h1, h2⟩ := he
  refine ⟨tAsg te (gName j), fun i => ps_set (hNd i) (hN i) (hx i) (h1 i) (hs i) (hf i), fun F0 H0 ga s σ F H o Dn hga r hg hp => ?_⟩
  unfold sSet at hg
  obtain ⟨d, h3, rfl⟩ := Option.map_eq_some_iff.mp hg
  exact h2 _ σ F H d r.hx r.sl h3 F H (Ext.refl r.hx) _ fun v F2 H2 e2 rv => hp F2 H2 _ e2.fz ((r.ext e2).set hj rv)
/-- a comprehension stored -/
theorem cs_setLc (j : Nat) {x : Str} {px : Pos} {tg iter elt : Expr} {ifs : List Expr} {scope : Scope} {cpos : Pos} {it : XA} {bind : D → S → Option S} {test : XT} (N0 : List Str) (sc0 : Scope) (ownc : List (Str × Nat)) (hi : CI G T tg iter it) (hg : CG (G.blk scope) T tg (ownc.map (·.2)) bind) (ht : CTs (G.blk scope) T ifs test) (he : CE (G.blk scope) T elt f)
    (hNd : ∀ i, (G.X i).N.Nodup) (hj : j ∉ own := by decide) (hN : ∀ i, (G.X i).N[j]? = some x := by intro _; rfl) (hx : ∀ i, (G.X i).env.scope.names.lookup x = some .local := by intro _; rfl)
    (hbl : blkC N0 sc0 scope ownc = true := by decide +kernel) (hN0 : ∀ i, (G.X i).N = N0 := by intro _; rfl) (hsc : ∀ i, (G.X i).env.scope = sc0 := by intro _; rfl)
    (hfs : ∀ i x, foldedSetIterable iter (G.X i).env x = pure x := by intro _ _; rfl)
    (hsw : ∀ i, swapsWith (.ListComp elt [⟨tg, iter, ifs, 0⟩] scope cpos) (some (.Name x px)) pos.line (G.X i).env = pure true := by intro _; exact sw_true rfl rfl rfl (by decide +kernel)) :
    CS G T E gs own (.Assign [.Name x px] (.ListComp elt [⟨tg, iter, ifs, 0⟩] scope cpos) pos) (sSet own j (xComp it bind (ownc.map (·.2)) test f)) := by
  obtain ⟨wi, hi, vi⟩ := hi
  obtain ⟨g, hg, vg⟩ := hg
  obtain ⟨tt, ht, vt⟩ := ht
  obtain ⟨te, he, ve⟩ := he
  refine ⟨tAsg (tLc wi g tt te (ownc.map (·.2))) (gName j), fun i => ps_setLc (G.hc i) (hNd i) (hN i) (hx i) (hsw i) (hi i) (by rw [hN0 i, hsc i]; exact blkOk_by hbl) (fun s H C cl fp => hg ⟨i, s, H, C, cl, fp⟩) (fun s H C cl fp => ht ⟨i, s, H, C, cl, fp⟩) (fun s H C cl fp => he ⟨i, s, H, C, cl, fp⟩) (hfs i), fun F0 H0 ga s σ F H o Dn hga r hg hp => ?_⟩
  unfold sSet at hg
  obtain ⟨d, h3, rfl⟩ := Option.map_eq_some_iff.mp hg
  unfold xComp at h3
  simp only [Option.bind_eq_some_iff] at h3
  obtain ⟨ds, h1, z, h2, h3⟩ := h3
  have hz : ds.length ≤ 100000 ∧ D.lst z = d := by
    unfold lim at h3
    split at h3
    · exact ⟨by assumption, Option.some.inj h3⟩
    · cases h3
  obtain ⟨hz, rfl⟩ := hz
  exact tLc_ev (G := G) (fun R hR => vi _ σ F H ds r.hx r.sl h1 F H (Ext.refl r.hx) R hR) r.hx r.sl vg vt ve h2 hz _ fun v F2 H2 e2 rv => hp F2 H2 _ e2.fz ((r.ext e2).set hj rv)
theorem dv_scal {K : PySem.W.Frag} {F F' : Hp} {v : V} {d : D} (h : Dv K T F v d) (hs : scalB d = true) : Dv K T F' v d := by
  cases h with
  | non => exact .non
  | bl b => exact .bl b
  | int b => exact .int b
  | str b => exact .str b
  | lst _ _ => cases hs
  | tup _ _ => cases hs
  | obj _ _ _ => cases hs
theorem cs_setC (j : Nat) {x : Str} {px : Pos} (he : CE G T e f) (hNd : ∀ i, (G.X i).N.Nodup) (hj : j ∉ own := by decide) (hN : ∀ i, (G.X i).N[j]? = some x := by intro _; rfl) (hx : ∀ i, Loc (G.X i).env.scope x := by intro _; first | exact Or.inl rfl | exact Or.inr rfl)
    (hs : ∀ i, swapsWith e (some (.Name x px)) pos.line (G.X i).env = pure false := by intro _; rfl) (hf : ∀ i, (G.X i).fn x = true ∨ (G.X i).env.scope.names.lookup x = some .local := by intro _; first | exact .inl rfl | exact .inr rfl) : CS G T E gs own (.Assign [.Name x px] e pos) (sSetC j f) := by
  obtain ⟨te, h1, h2⟩ := he
  refine ⟨tAsg te (gName j), fun i => ps_set (hNd i) (hN i) (hx i) (h1 i) (hs i) (hf i), fun F0 H0 ga s σ F H o Dn hga r hg hp => ?_⟩
  unfold sSetC at hg
  obtain ⟨d, h3, h4⟩ := Option.bind_eq_some_iff.mp hg
  split at h4
  · rename_i hsc
    cases h4
    exact h2 s σ H H d (Evl.Ex.refl H) r.slH h3 H H (Ext.refl (Evl.Ex.refl H)) _ fun v F2 H2 e2 rv => hp F H2 _ (Evl.Ex.refl F) ((r.extH e2).set hj (dv_scal rv hsc))
  · cases h4
theorem cs_ret (oth : List Nat) (he : CE G T e f) (ho : own = oth ++ gs := by rfl) : CS G T E gs own (.Return (some e) pos) (sRet gs f) := by
  subst ho
  obtain ⟨te, h1, h2⟩ := he
  refine ⟨tRet te, fun i => ps_ret (h1 i), fun F0 H0 ga s σ F H o Dn hga r hg hp => ?_⟩
  unfold sRet at hg
  obtain ⟨d, h3, rfl⟩ := Option.map_eq_some_iff.mp hg
  obtain ⟨F', e', r'⟩ := r.freezeTo
  exact h2 _ σ F' H d r'.hx r'.sl h3 F' H (Ext.refl r'.hx) _ fun v F2 H2 e2 rv => hp v F2 H2 σ (r'.ext e2) rv
theorem cs_if (h0 : CT_ G T c t) (h1 : CSs G T E gs own sts g1) (h2 : CSs G T E gs own sts2 g2) : CS G T E gs own (.If c sts sts2 pos) (sIf t g1 g2) := by
  obtain ⟨tc, p0, v0⟩ := h0
  obtain ⟨t1, p1, v1⟩ := h1
  obtain ⟨t2, p2, v2⟩ := h2
  refine ⟨tIfS tc t1 t2, fun i => ps_if (p0 i) (p1 i) (p2 i), fun F0 H0 ga s σ F H o Dn hga r hg hp => ?_⟩
  unfold sIf at hg
  obtain ⟨k, h3, h4⟩ := Option.bind_eq_some_iff.mp hg
  refine v0 s σ H H k (Evl.Ex.refl H) r.slH h3 H H (Ext.refl (Evl.Ex.refl H)) _ fun F2 H2 e2 => ?_
  cases k with
  | true => simp only [if_true] at h4 ⊢; exact v1 F0 H0 ga s σ F H2 o Dn hga (r.extH e2) h4 hp
  | false => simp only [Bool.false_eq_true, if_false] at h4 ⊢; exact v2 F0 H0 ga s σ F H2 o Dn hga (r.extH e2) h4 hp
theorem cs_while (n : Nat) (h0 : CT_ G T c t) (h1 : CSs G T E gs own sts g) (hpo : ∀ i, PassesOwn (model (G.X i).prog (G.X i).w) (G.X i).A (G.X i).env (G.X i).xe) : CS G T E gs own (.While c sts [] pos) (whileM t g n) := by
  obtain ⟨tc, p0, v0⟩ := h0
  obtain ⟨t1, p1, v1⟩ := h1
  refine ⟨tWhile tc t1, fun i => ps_while (hpo i) (p0 i) (p1 i), fun F0 H0 ga s σ F H o Dn hga r hg hp => ?_⟩
  refine ⟨fun m σ' H' => ∃ F' s', Ex F F' ∧ Rel G.K T F0 H0 ga own F' H' s' σ' ∧ whileM t g m s' = some o, ⟨n, F, s, Evl.Ex.refl F, r, hg⟩, ?_⟩
  rintro m σ1 H1 ⟨F1, s1, a1, r1, hm⟩
  cases m with
  | zero => cases hm
  | succ m =>
    rw [whileM] at hm
    obtain ⟨k, h3, h4⟩ := Option.bind_eq_some_iff.mp hm
    refine v0 s1 σ1 H1 H1 k (Evl.Ex.refl H1) r1.slH h3 H1 H1 (Ext.refl (Evl.Ex.refl H1)) _ fun F2 H2 e2 => ?_
    have r2 := r1.extH e2
    cases k with
    | true =>
      simp only [if_true] at h4 ⊢
      obtain ⟨o1, h5, h6⟩ := Option.bind_eq_some_iff.mp h4
      refine ⟨fun σ' H' => ∃ F' s', Ex F F' ∧ Rel G.K T F0 H0 ga own F' H' s' σ' ∧ whileM t g m s' = some o, fun σ' H' hw => ⟨m, Nat.lt_succ_self m, hw⟩, v1 F0 H0 ga s1 σ1 F1 H2 o1 _ hga r2 h5 ?_⟩
      cases o1 with
      | nx s' => exact fun F3 H3 σ3 a3 r3 => ⟨F3, s', a1.trans a3, r3, h6⟩
      | ct s' => exact fun F3 H3 σ3 a3 r3 => ⟨F3, s', a1.trans a3, r3, h6⟩
      | bk s' => cases h6; exact fun F3 H3 σ3 a3 r3 => hp F3 H3 σ3 (a1.trans a3) r3
      | rt d s' => cases h6; exact hp
      | ex c d => cases h6; exact hp
    | false =>
      simp only [Bool.false_eq_true, if_false] at h4 ⊢
      cases h4
      exact hp F1 H2 σ1 a1 r2
/-- what a for loop's target does to the state -/
def CGS (G : Fam) (T : CT) (own : List Nat) (tg : Expr) (bind : D → S → Option S) : Prop := ∃ gt : TG, (∀ i, PG (G.X i) tg gt) ∧
  ∀ F0 H0 ga s s' σ F H d v, Rel G.K T F0 H0 ga own F H s σ → Dv G.K T F v d → bind d s = some s' → ∀ Q : L2.St → Hp → Prop, (∀ σ', Rel G.K T F0 H0 ga own F H s' σ' → Q σ' H) → gt v σ H Q
theorem cgs_name (j : Nat) {x : Str} (hNd : ∀ i, (G.X i).N.Nodup) (hj : j ∉ own := by decide) (hN : ∀ i, (G.X i).N[j]? = some x := by intro _; rfl) (hx : ∀ i, Loc (G.X i).env.scope x := by intro _; first | exact Or.inl rfl | exact Or.inr rfl)
    (hf : ∀ i, (G.X i).fn x = true ∨ (G.X i).env.scope.names.lookup x = some .local := by intro _; first | exact .inl rfl | exact .inr rfl) : CGS G T own (.Name x pos) (bName j) :=
  ⟨gName j, fun i => pg_name (hNd i) (hN i) (hx i) (hf i), fun F0 H0 ga s s' σ F H d v r rv hb Q q => by
    cases hb
    exact q _ (r.set hj rv)⟩
theorem cgs_pair (j k : Nat) {x y : Str} {kk : Nat} {p1 p2 : Pos} (hNd : ∀ i, (G.X i).N.Nodup) (hj : j ∉ own := by decide) (hk : k ∉ own := by decide) (hN : ∀ i, (G.X i).N[j]? = some x := by intro _; rfl) (hx : ∀ i, Loc (G.X i).env.scope x := by intro _; first | exact Or.inl rfl | exact Or.inr rfl)
    (hf : ∀ i, (G.X i).fn x = true ∨ (G.X i).env.scope.names.lookup x = some .local := by intro _; first | exact .inl rfl | exact .inr rfl)
    (hN2 : ∀ i, (G.X i).N[k]? = some y := by intro _; rfl) (hx2 : ∀ i, Loc (G.X i).env.scope y := by intro _; first | exact Or.inl rfl | exact Or.inr rfl)
    (hf2 : ∀ i, (G.X i).fn y = true ∨ (G.X i).env.scope.names.lookup y = some .local := by intro _; first | exact .inl rfl | exact .inr rfl)
    (hn : ∀ i, (assignEach [.Name x p1, .Name y p2] (G.X i).env).length = 2 := by intro _; rfl) (hst : ∀ i, (assignEach [.Name x p1, .Name y p2] (G.X i).env).findIdx? (·.1) = none := by intro _; rfl)
    (hs1 : ∀ i, (assignEach [.Name x p1, .Name y p2] (G.X i).env).map (·.2) = assign (.Name x p1) (G.X i).env :: (assignEach [.Name y p2] (G.X i).env).map (·.2) := by intro _; rfl)
    (hs2 : ∀ i, (assignEach [.Name y p2] (G.X i).env).map (·.2) = assign (.Name y p2) (G.X i).env :: (assignEach [] (G.X i).env).map (·.2) := by intro _; rfl) :
    CGS G T own (.Tuple [.Name x p1, .Name y p2] kk pos) (bPair j k) :=
  ⟨gTup G.K 2 (gCons (gName j) (gCons (gName k) gNil)), fun i => by
    rw [← G.hK i]
    exact pg_tup (G.hc i) (pgs_cons (pg_name (hNd i) (hN i) (hx i) (hf i)) (pgs_cons (pg_name (hNd i) (hN2 i) (hx2 i) (hf2 i)) pgs_nil (hs2 i)) (hs1 i)) (hn i) (hst i), fun F0 H0 ga s s' σ F H d v r rv hb Q q => by
    unfold bPair at hb
    split at hb
    · cases hb
      obtain ⟨l, xs, rfl, hl, hd⟩ := dv_tup rv
      obtain ⟨v1, v2, rfl, r1, r2⟩ := dva2 hd
      exact ⟨l, _, rfl, Evl.ex_t r.hx hl, rfl, v1, [v2], rfl, v2, [], rfl, rfl, q _ ((r.set hj r1).set hk r2)⟩
    · cases hb⟩
theorem cs_for {tg iter : Expr} {it : XA} {bind : D → S → Option S} (hi : CI G T tg iter it) (hg : CGS G T own tg bind) (h1 : CSs G T E gs own sts g) (hpo : ∀ i, PassesOwn (model (G.X i).prog (G.X i).w) (G.X i).A (G.X i).env (G.X i).xe)
    (hfs : ∀ i x, foldedSetIterable iter (G.X i).env x = pure x := by intro _ _; rfl) : CS G T E gs own (.For tg iter sts [] pos) (sFor own it bind g) := by
  obtain ⟨wi, p0, v0⟩ := hi
  obtain ⟨gt, pg, vg⟩ := hg
  obtain ⟨t1, p1, v1⟩ := h1
  refine ⟨tFor wi gt t1, fun i => ps_for (hpo i) (G.hc i) (p0 i) (pg i) (p1 i) (hfs i), fun F0 H0 ga s σ F H o Dn hga r hg hp => ?_⟩
  unfold sFor at hg
  obtain ⟨ds, h3, h4⟩ := Option.bind_eq_some_iff.mp hg
  refine v0 _ σ F H ds r.hx r.sl h3 F H (Ext.refl r.hx) _ fun J F2 H2 e2 wk => ?_
  obtain ⟨w1, w2, w3⟩ := wk
  refine ⟨fun i m σ' H' => m = ds.length - i ∧ i ≤ ds.length ∧ ∃ F' s', Rel G.K T F0 H0 ga own F' H' s' σ' ∧ Ex F2 F' ∧ forM bind g (ds.drop i) s' = some o, ⟨ds.length, by simp, Nat.zero_le _, F2, s, r.ext e2, Evl.Ex.refl F2, h4⟩, ?_⟩
  rintro i m σ1 H1 ⟨rfl, hle, F1, s1, r1, ef, hm⟩
  by_cases hlt : i < ds.length
  · refine .inr ⟨w1 i H1 hlt (ef.trans r1.hx), fun σ' H' => ∃ F' s', Rel G.K T F0 H0 ga own F' H' s' σ' ∧ Ex F2 F' ∧ forM bind g (ds.drop (i + 1)) s' = some o, fun σ' H' hw => ⟨ds.length - (i + 1), by omega, rfl, hlt, hw⟩, fun x H' y => ?_⟩
    obtain ⟨F3, d, e3, hd, rx⟩ := w3 i F1 H1 x H' hlt ef r1.hx y
    rw [take_succ_drop ds i d hd, forM] at hm
    obtain ⟨s2, h5, h6⟩ := Option.bind_eq_some_iff.mp hm
    obtain ⟨o1, h7, h8⟩ := Option.bind_eq_some_iff.mp h6
    refine vg F0 H0 ga s1 s2 σ1 F3 H' d x (r1.ext e3) rx h5 _ fun σ2 r2 => v1 F0 H0 ga s2 σ2 F3 H' o1 _ hga r2 h7 ?_
    have a3 : Ex F2 F3 := ef.trans e3.fz
    cases o1 with
    | nx s' => exact fun F4 H4 σ4 a4 r4 => ⟨F4, s', r4, a3.trans a4, h8⟩
    | ct s' => exact fun F4 H4 σ4 a4 r4 => ⟨F4, s', r4, a3.trans a4, h8⟩
    | bk s' => cases h8; exact fun F4 H4 σ4 a4 r4 => hp F4 H4 σ4 ((e2.fz.trans a3).trans a4) r4
    | rt d s' => cases h8; exact hp
    | ex c d => cases h8; exact hp
  · have e : i = ds.length := by omega
    subst e
    rw [List.drop_length, forM] at hm
    cases hm
    exact .inl ⟨w2 H1 (ef.trans r1.hx), hp F1 H1 σ1 (e2.fz.trans ef) r1⟩
end
end Mr

set_option Elab.async false
set_option linter.all false
set_option maxRecDepth 100000
set_option maxHeartbeats 2000000
/-! lists of one's own; errors; defs -/
namespace Mr
open PySem PySem.Spec PyProof.Rows L2
open Evl (Ex)

abbrev XN := S → Option (List D)
def EvN (K : PySem.W.Frag) (T : CT) (te : TE) (σ : L2.St) (F H : Hp) (ds : List D) : Prop := ∀ F1 H1, Ext F H F1 H1 → ∀ Q : VK, (∀ p xs F2 H2, Ext F1 H1 F2 H2 → H1 p = none → F2 p = none → H2 p = some (.lst xs) → DvA K T F2 xs ds → Q (.ref p) H2) → te σ H1 Q
/-- what gives a new list -/
def CN (G : Fam) (T : CT) (e : Expr) (f : XN) : Prop := ∃ te : TE, (∀ i, PE (G.X i) e te) ∧ ∀ s σ F H d, Ex F H → Sl G.K T F s σ → f s = some d → EvN G.K T te σ F H d
def lim2 (n : Nat) (d : List D) : Option (List D) := if n ≤ 100000 then some d else none
theorem lim2_some {n : Nat} {d e : List D} (h : lim2 n d = some e) : n ≤ sizeLine ∧ d = e := by
  unfold lim2 at h
  split at h
  · rename_i q
    exact ⟨Evl.sz_of q, Option.some.inj h⟩
  · cases h
def nLst (r : XA) : XN := fun s => (r s).bind fun xs => lim2 xs.length xs
def nList (f : XE) : XN := fun s => (f s).bind fun x => match x with | .lst ds => some ds | .tup ds => some ds | _ => none
def nRep (a b : XE) : XN := fun s => (a s).bind fun x => (b s).bind fun y => match x, y with
  | .lst ds, .int k => if -1000000 ≤ k ∧ k ≤ 1000000 then lim2 (ds.length * k.toNat) (List.replicate k.toNat ds).flatten else none
  | _, _ => none
def nCat (a b : XE) : XN := fun s => (a s).bind fun x => (b s).bind fun y => match x, y with
  | .lst ds, .lst es => lim2 (ds.length + es.length) (ds ++ es)
  | _, _ => none
def nComp (it : XA) (bind : D → S → Option S) (vs : List Nat) (test : XT) (elt : XE) : XN := fun s => (it s).bind fun ds => (compL bind test elt (wipeS s vs) ds).bind fun r => lim2 ds.length r
section
variable {G : Fam} {T : CT} {E : XK} {gs own : List Nat} {e a b c : Expr} {es : List Expr} {f g : XE} {fn : XN} {p pos p2 apos : Pos}
theorem cn_lst {r : XA} (hr : CA G T es r) : CN G T (.List es pos) (nLst r) := by
  obtain ⟨tr, hr, vr⟩ := hr
  refine ⟨tLst tr, fun i => pe_lst (hr i), fun s σ F H d hx hs hf F1 H1 e1 Q q => ?_⟩
  unfold nLst at hf
  obtain ⟨xs, h1, h2⟩ := Option.bind_eq_some_iff.mp hf
  obtain ⟨hz, rfl⟩ := lim2_some h2
  exact vr s σ F H xs hx hs h1 F1 H1 e1 _ fun vs F2 H2 e2 rs => ⟨by rw [dva_len rs]; exact hz, fun p hp => by
    have hp1 : H1 p = none := by
      cases hq : H1 p with
      | none => rfl
      | some o => rw [Ext.all e1.sub e2 p o hq] at hp; cases hp
    exact q p vs F2 _ (e2.trans (Ext.mine e2.sub hp)) hp1 (free0 e2.sub hp) upd_same rs⟩
theorem back_none {F H F' H' : Hp} (hx : Ex F H) (e : Ext F H F' H') {p : Addr} (hp : H' p = none) : H p = none := by
  cases hq : H p with
  | none => rfl
  | some o => rw [Ext.all hx e p o hq] at hp; cases hp
theorem cn_list {x : Str} (hx0 : x = "list" := by rfl) (ha : CE G T a f) (hm : G.mg x = none) (hv : bootBuiltins x = some (.type "list") := by decide +kernel)
    (hg : ∀ i, Gl (G.X i) x := by intro _; rfl) (hn : x ≠ "__name__" := by decide) (hdb : (x == ("__debug__" : Str)) = false := by decide) (he : ∀ i, starEach [a] (G.X i).env = (false, eval a (G.X i).env) :: starEach [] (G.X i).env := by intro _; rfl) (hpl : ∀ i, (backTo pos (starEach [] (G.X i).env)).any (·.1) = false := by intro _; rfl) :
    CN G T (.Call (.Name x p) [a] [] pos) (nList f) := by
  obtain ⟨ta, ha, va⟩ := ha
  refine ⟨tCB (fun xs H Q => ∃ p ys, xs = [.ref p] ∧ (SqL G.K H p ys ∨ SqT G.K H p ys) ∧ ∀ l, H l = none → Q (.ref l) (upd H l (.lst ys))) (tCons ta tNil), fun i => by
    rw [← G.hK i]
    exact pe_callTy call_list_of (hg i) (by rw [G.hm i]; exact hm) hv (pa_cons (ha i) pa_nil (he i)) hn hdb (he i) (hpl i), fun s σ F H d hx hs hf F1 H1 e1 Q q => ?_⟩
  unfold nList at hf
  obtain ⟨y, h1, h2⟩ := Option.bind_eq_some_iff.mp hf
  refine va s σ F H y hx hs h1 F1 H1 e1 _ fun v F2 H2 e2 rv => ?_
  split at h2
  · cases h2
    obtain ⟨l, xs, rfl, hl, hd⟩ := dv_lst rv
    exact ⟨l, xs, rfl, .inl (SqL.of (e2.sub _ _ hl)), fun p hp => q p xs F2 _ (e2.trans (Ext.mine e2.sub hp)) (back_none e1.sub e2 hp) (free0 e2.sub hp) upd_same hd⟩
  · cases h2
    obtain ⟨l, xs, rfl, hl, hd⟩ := dv_tup rv
    exact ⟨l, xs, rfl, .inr (Evl.ex_t e2.sub hl), fun p hp => q p xs F2 _ (e2.trans (Ext.mine e2.sub hp)) (back_none e1.sub e2 hp) (free0 e2.sub hp) upd_same hd⟩
  · cases h2
theorem cn_rep (ha : CE G T a f) (hb : CE G T b g) : CN G T (.BinOp a .Mult b pos) (nRep f g) := by
  obtain ⟨ta, ha, va⟩ := ha
  obtain ⟨tb, hb, vb⟩ := hb
  refine ⟨tOp rRep ta tb, fun i => pe_op op_rep (ha i) (hb i), fun s σ F H d hx hs hf F1 H1 e1 Q q => ?_⟩
  unfold nRep at hf
  simp only [Option.bind_eq_some_iff] at hf
  obtain ⟨x, h1, y, h2, h3⟩ := hf
  refine va s σ F H x hx hs h1 F1 H1 e1 _ fun v F2 H2 e2 rv => vb s σ F H y hx hs h2 F2 H2 (e1.trans e2) _ fun w F3 H3 e3 rw' => ?_
  split at h3
  · split at h3
    · rename_i hc
      obtain ⟨hz, rfl⟩ := lim2_some h3
      obtain ⟨l, xs, rfl, hl, hd⟩ := dv_lst (dv_mono e3.fz _ _ rv)
      exact ⟨l, _, xs, rfl, dv_int rw', e3.sub _ _ hl, by omega, by omega, by rw [dva_len hd]; exact hz, fun p hp => q p _ F3 _ ((e2.trans e3).trans (Ext.mine e3.sub hp)) (back_none e1.sub (e2.trans e3) hp) (free0 e3.sub hp) upd_same (dva_rep hd _)⟩
    · cases h3
  · cases h3
theorem cn_cat (ha : CE G T a f) (hb : CE G T b g) : CN G T (.BinOp a .Add b pos) (nCat f g) := by
  obtain ⟨ta, ha, va⟩ := ha
  obtain ⟨tb, hb, vb⟩ := hb
  refine ⟨tOp rCat ta tb, fun i => pe_op op_cat (ha i) (hb i), fun s σ F H d hx hs hf F1 H1 e1 Q q => ?_⟩
  unfold nCat at hf
  simp only [Option.bind_eq_some_iff] at hf
  obtain ⟨x, h1, y, h2, h3⟩ := hf
  refine va s σ F H x hx hs h1 F1 H1 e1 _ fun v F2 H2 e2 rv => vb s σ F H y hx hs h2 F2 H2 (e1.trans e2) _ fun w F3 H3 e3 rw' => ?_
  split at h3
  · obtain ⟨hz, rfl⟩ := lim2_some h3
    obtain ⟨l, xs, rfl, hl, hd⟩ := dv_lst (dv_mono e3.fz _ _ rv)
    obtain ⟨l2, ys, rfl, hl2, hd2⟩ := dv_lst rw'
    exact ⟨l, l2, xs, ys, rfl, rfl, e3.sub _ _ hl, e3.sub _ _ hl2, by rw [dva_len hd, dva_len hd2]; exact hz, fun p hp => q p _ F3 _ ((e2.trans e3).trans (Ext.mine e3.sub hp)) (back_none e1.sub (e2.trans e3) hp) (free0 e3.sub hp) upd_same (dva_app hd hd2)⟩
  · cases h3
/-- a comprehension's reading, its list kept for oneself: from the other one, the list let go -/
theorem EvV.toN {te : TE} {σ : L2.St} {F1 H1 : Hp} {r : List D} (hx : Ex F1 H1)
    (h : ∀ Q : VK, (∀ v F2 H2, Ext F1 H1 F2 H2 → Dv G.K T F2 v (.lst r) → Q v H2) → te σ H1 Q) : True := trivial
/-- x = e, a new list -/
theorem cs_setO (j : Nat) {x : Str} {px : Pos} (he : CN G T e fn) (hNd : ∀ i, (G.X i).N.Nodup) (hj : j ∈ own := by decide) (hjg : j ∉ gs := by decide) (hN : ∀ i, (G.X i).N[j]? = some x := by intro _; rfl) (hx : ∀ i, Loc (G.X i).env.scope x := by intro _; first | exact Or.inl rfl | exact Or.inr rfl)
    (hs : ∀ i, swapsWith e (some (.Name x px)) pos.line (G.X i).env = pure false := by intro _; rfl) (hf : ∀ i, (G.X i).fn x = true ∨ (G.X i).env.scope.names.lookup x = some .local := by intro _; first | exact .inl rfl | exact .inr rfl) : CS G T E gs own (.Assign [.Name x px] e pos) (sSetO own j fn) := by
  obtain ⟨te, h1, h2⟩ := he
  refine ⟨tAsg te (gName j), fun i => ps_set (hNd i) (hN i) (hx i) (h1 i) (hs i) (hf i), fun F0 H0 ga s σ F H o Dn hga r hg hp => ?_⟩
  unfold sSetO at hg
  obtain ⟨ds, h3, rfl⟩ := Option.map_eq_some_iff.mp hg
  refine h2 _ σ F H ds r.hx r.sl h3 F H (Ext.refl r.hx) _ fun p xs F2 H2 e2 n1 n2 hH hd => ?_
  have h0 : H0 p = none := by
    cases hq : H0 p with
    | none => rfl
    | some o =>
      cases hf : F0 p with
      | none => rw [(r.e0.own p o hf hq).2] at n1; cases n1
      | some u => rw [r.hx p u (r.e0.fz p u hf)] at n1; cases n1
  refine hp F2 H2 _ e2.fz ((r.ext e2).setOwn hj (hga j hjg) n2 h0 hH hd fun i a hi hij hs' ha => ?_)
  obtain ⟨d, hs'⟩ := hs'
  obtain ⟨a', ys, es, g1, rfl, g3, g0, g4, g5⟩ := r.ow i d hi hs'
  rw [ha] at g1
  cases g1
  exact ne_of_none g4 n1
/-- x += e, a local int -/
theorem cs_aug (j : Nat) {x : Str} {px : Pos} {op : Operator} {o2 : Int → Int → Int} (he : CE G T e f) (ho : ∀ i, PIp (G.X i) op (ipI o2)) (hNd : ∀ i, (G.X i).N.Nodup) (hj : j ∉ own := by decide) (hN : ∀ i, (G.X i).N[j]? = some x := by intro _; rfl) (hx : ∀ i, Loc (G.X i).env.scope x := by intro _; first | exact Or.inl rfl | exact Or.inr rfl)
    (hf : ∀ i, (G.X i).fn x = true ∨ (G.X i).env.scope.names.lookup x = some .local := by intro _; first | exact .inl rfl | exact .inr rfl) : CS G T E gs own (.AugAssign (.Name x px) op e pos) (sAug j o2 f) := by
  obtain ⟨te, h1, h2⟩ := he
  refine ⟨tAug j te (ipI o2), fun i => ps_aug (hNd i) (hN i) (hx i) (h1 i) (ho i) (hf i), fun F0 H0 ga s σ F H o Dn hga r hg hp => ?_⟩
  unfold sAug at hg
  split at hg
  · rename_i a b h3 h4
    cases hg
    rw [Option.join_eq_some_iff] at h3
    obtain ⟨v, h5, h6⟩ := r.sh j _ hj h3
    refine ⟨v, h5, h2 s σ H H _ (Evl.Ex.refl H) r.slH h4 H H (Ext.refl (Evl.Ex.refl H)) _ fun w F2 H2 e2 rv => ⟨a, b, dv_int h6, dv_int rv, hp F H2 _ (Evl.Ex.refl F) ((r.extH e2).set hj (.int _))⟩⟩
  · cases hg
theorem cs_augAdd (j : Nat) {x : Str} {px : Pos} (he : CE G T e f) (hNd : ∀ i, (G.X i).N.Nodup) (hj : j ∉ own := by decide) (hN : ∀ i, (G.X i).N[j]? = some x := by intro _; rfl) (hx : ∀ i, Loc (G.X i).env.scope x := by intro _; first | exact Or.inl rfl | exact Or.inr rfl)
    (hf : ∀ i, (G.X i).fn x = true ∨ (G.X i).env.scope.names.lookup x = some .local := by intro _; first | exact .inl rfl | exact .inr rfl) : CS G T E gs own (.AugAssign (.Name x px) .Add e pos) (sAug j (fun i j => i + j) f) := cs_aug j he (fun i => ip_add) hNd hj hN hx hf
theorem cs_augSub (j : Nat) {x : Str} {px : Pos} (he : CE G T e f) (hNd : ∀ i, (G.X i).N.Nodup) (hj : j ∉ own := by decide) (hN : ∀ i, (G.X i).N[j]? = some x := by intro _; rfl) (hx : ∀ i, Loc (G.X i).env.scope x := by intro _; first | exact Or.inl rfl | exact Or.inr rfl)
    (hf : ∀ i, (G.X i).fn x = true ∨ (G.X i).env.scope.names.lookup x = some .local := by intro _; first | exact .inl rfl | exact .inr rfl) : CS G T E gs own (.AugAssign (.Name x px) .Sub e pos) (sAug j (fun i j => i - j) f) := cs_aug j he (fun i => ip_sub) hNd hj hN hx hf
/-- x.append(e) -/
theorem cs_app (j : Nat) {x : Str} {px : Pos} (he : CE G T e f) (hj : j ∈ own := by decide) (hN : ∀ i, (G.X i).N[j]? = some x := by intro _; rfl) (hv : ∀ i, Vis (G.X i).env.scope x := by intro _; first | exact Or.inl rfl | exact Or.inr (Or.inl rfl) | exact Or.inr (Or.inr rfl))
    (hbase : ∀ i, attributeBase (.Name x px) "append" (G.X i).env (eval (.Name x px) (G.X i).env) = eval (.Name x px) (G.X i).env := by intro _; rfl) (hfew : ∀ i, ((backTo p2 (starEach [e] (G.X i).env)).all (fun x => !x.1) && (backToKw p2 (keywordEach [] (G.X i).env)).all (fun x => x.1.isSome)
      && decide ([e].length + ([] : List Keyword).length + (if ([] : List Keyword).isEmpty then 0 else 1) < 30)) = true := by intro _; rfl) (hline : (apos.endLine == p2.line) = true := by rfl)
    (hst : ∀ i, starEach [e] (G.X i).env = (false, eval e (G.X i).env) :: starEach [] (G.X i).env := by intro _; rfl) (hpl : ∀ i, (backTo p2 (starEach [] (G.X i).env)).any (·.1) = false := by intro _; rfl)
    (hsw : ∀ i, swapsWith (.Call (.Attribute (.Name x px) "append" apos) [e] [] p2) none pos.line (G.X i).env = pure false := by intro _; rfl)
    (hd : (x == ("__debug__" : Str)) = false := by decide) (hcd : (x == ("__classdict__" : Str)) = false := by decide) : CS G T E gs own (.Expr (.Call (.Attribute (.Name x px) "append" apos) [e] [] p2) pos) (sApp own j f) := by
  obtain ⟨te, h1, h2⟩ := he
  refine ⟨tDrop (tBM G.K "list" rAppend (tVar j) (tCons te tNil)), fun i => ps_expr (by rw [← G.hK i]; exact pe_bm PySem.F.plainAttrs_list PySem.F.slot_list_append PySem.F.type_list_append mt_append (pe_var (hN i) (hv i) hd hcd) (pa_cons (h1 i) pa_nil (hst i)) (hbase i) (hfew i) hline (hst i) (hpl i)) (hsw i), fun F0 H0 ga s σ F H o Dn hga r hg hp => ?_⟩
  unfold sApp at hg
  split at hg
  · rename_i ds d h3 h4
    split at hg
    · rename_i hz
      cases hg
      rw [Option.join_eq_some_iff] at h3
      obtain ⟨l, xs, ds', g1, g2, g3, g0, g4, g5⟩ := r.ow j _ hj h3
      cases g2
      refine ⟨_, g1, .inl ⟨rfl, xs, SqL.of g4⟩, h2 _ σ F H d r.hx r.sl h4 F H (Ext.refl r.hx) _ fun v F2 H2 e2 rv => ?_⟩
      obtain ⟨o1, o2⟩ := e2.own l _ g3 g4
      exact ⟨l, xs, v, rfl, rfl, o2, Evl.sz_lt (by rw [dva_len g5]; exact hz), hp F2 _ _ e2.fz ((r.ext e2).write hj h3 g1 (dva_app (dva_mono e2.fz _ _ g5) (.cons rv .nil)))⟩
    · cases hg
  · cases hg
theorem cs_appC (j : Nat) {x : Str} {px : Pos} (he : CE G T e f) (hj : j ∈ own := by decide) (hN : ∀ i, (G.X i).N[j]? = some x := by intro _; rfl) (hv : ∀ i, Vis (G.X i).env.scope x := by intro _; first | exact Or.inl rfl | exact Or.inr (Or.inl rfl) | exact Or.inr (Or.inr rfl))
    (hbase : ∀ i, attributeBase (.Name x px) "append" (G.X i).env (eval (.Name x px) (G.X i).env) = eval (.Name x px) (G.X i).env := by intro _; rfl) (hfew : ∀ i, ((backTo p2 (starEach [e] (G.X i).env)).all (fun x => !x.1) && (backToKw p2 (keywordEach [] (G.X i).env)).all (fun x => x.1.isSome)
      && decide ([e].length + ([] : List Keyword).length + (if ([] : List Keyword).isEmpty then 0 else 1) < 30)) = true := by intro _; rfl) (hline : (apos.endLine == p2.line) = true := by rfl)
    (hst : ∀ i, starEach [e] (G.X i).env = (false, eval e (G.X i).env) :: starEach [] (G.X i).env := by intro _; rfl) (hpl : ∀ i, (backTo p2 (starEach [] (G.X i).env)).any (·.1) = false := by intro _; rfl)
    (hsw : ∀ i, swapsWith (.Call (.Attribute (.Name x px) "append" apos) [e] [] p2) none pos.line (G.X i).env = pure false := by intro _; rfl)
    (hd : (x == ("__debug__" : Str)) = false := by decide) (hcd : (x == ("__classdict__" : Str)) = false := by decide) : CS G T E gs own (.Expr (.Call (.Attribute (.Name x px) "append" apos) [e] [] p2) pos) (sAppC j f) := by
  obtain ⟨te, h1, h2⟩ := he
  refine ⟨tDrop (tBM G.K "list" rAppend (tVar j) (tCons te tNil)), fun i => ps_expr (by rw [← G.hK i]; exact pe_bm PySem.F.plainAttrs_list PySem.F.slot_list_append PySem.F.type_list_append mt_append (pe_var (hN i) (hv i) hd hcd) (pa_cons (h1 i) pa_nil (hst i)) (hbase i) (hfew i) hline (hst i) (hpl i)) (hsw i), fun F0 H0 ga s σ F H o Dn hga r hg hp => ?_⟩
  unfold sAppC at hg
  split at hg
  · rename_i ds d h3 h4
    split at hg
    · rename_i hz
      cases hg
      rw [Option.join_eq_some_iff] at h3
      obtain ⟨l, xs, ds', g1, g2, g3, g0, g4, g5⟩ := r.ow j _ hj h3
      cases g2
      refine ⟨_, g1, .inl ⟨rfl, xs, SqL.of g4⟩, h2 s σ H H d (Evl.Ex.refl H) r.slH h4 H H (Ext.refl (Evl.Ex.refl H)) _ fun v F2 H2 e2 rv => ?_⟩
      exact ⟨l, xs, v, rfl, rfl, e2.sub _ _ (e2.fz _ _ g4), Evl.sz_lt (by rw [dva_len g5]; exact hz.1), hp F _ _ (Evl.Ex.refl F) ((r.extH e2).write hj h3 g1 (dva_app g5 (.cons (dv_scal rv hz.2) .nil)))⟩
    · cases hg
  · cases hg
/-- x.pop() -/
theorem cs_pop (j : Nat) {x : Str} {px : Pos} (hj : j ∈ own := by decide) (hN : ∀ i, (G.X i).N[j]? = some x := by intro _; rfl) (hv : ∀ i, Vis (G.X i).env.scope x := by intro _; first | exact Or.inl rfl | exact Or.inr (Or.inl rfl) | exact Or.inr (Or.inr rfl))
    (hbase : ∀ i, attributeBase (.Name x px) "pop" (G.X i).env (eval (.Name x px) (G.X i).env) = eval (.Name x px) (G.X i).env := by intro _; rfl) (hline : (apos.endLine == p2.line) = true := by rfl)
    (hsw : ∀ i, swapsWith (.Call (.Attribute (.Name x px) "pop" apos) [] [] p2) none pos.line (G.X i).env = pure false := by intro _; rfl)
    (hd : (x == ("__debug__" : Str)) = false := by decide) (hcd : (x == ("__classdict__" : Str)) = false := by decide) : CS G T E gs own (.Expr (.Call (.Attribute (.Name x px) "pop" apos) [] [] p2) pos) (sPop j) := by
  refine ⟨tDrop (tBM0 G.K "list" rPop (tVar j)), fun i => ps_expr (by rw [← G.hK i]; exact pe_bm0 PySem.F.plainAttrs_list PySem.F.slot_list_pop PySem.F.type_list_pop mt_pop (pe_var (hN i) (hv i) hd hcd) (hbase i) hline) (hsw i), fun F0 H0 ga s σ F H o Dn hga r hg hp => ?_⟩
  unfold sPop at hg
  split at hg
  · rename_i ds h3
    split at hg
    · rename_i hz
      cases hg
      rw [Option.join_eq_some_iff] at h3
      obtain ⟨l, xs, ds', g1, g2, g3, g0, g4, g5⟩ := r.ow j _ hj h3
      cases g2
      have hl := dva_len g5
      have hpos : 0 < xs.length := by
        rw [hl]
        exact List.length_pos_iff.mpr hz
      have hdl : DvA G.K T F xs.dropLast ds.dropLast := by
        rw [List.dropLast_eq_take, List.dropLast_eq_take, hl]
        exact dva_take _ g5
      exact ⟨_, g1, .inl ⟨rfl, xs, SqL.of g4⟩, l, xs, xs[xs.length - 1], rfl, rfl, g4, by rw [List.getElem?_eq_getElem], hp F _ _ (Evl.Ex.refl F) (r.write hj h3 g1 hdl)⟩
    · cases hg
  · cases hg
/-- x[i] = e, e a scalar -/
theorem cs_stoC (j : Nat) {x : Str} {px sp : Pos} {k : Expr} {fi : XE} (he : CE G T e f) (hk : CE G T k fi) (hj : j ∈ own := by decide) (hN : ∀ i, (G.X i).N[j]? = some x := by intro _; rfl) (hv : ∀ i, Vis (G.X i).env.scope x := by intro _; first | exact Or.inl rfl | exact Or.inr (Or.inl rfl) | exact Or.inr (Or.inr rfl))
    (ha : ∀ i v, assign (.Subscript (.Name x px) k sp) (G.X i).env v = (do
      let ov ← holding [v] (eval (.Name x px) (G.X i).env)
      let iv ← holding [v, ov] (eval k (G.X i).env)
      standAt sp
      holding [v, ov, iv] (setItem ov iv v)
      release [v, ov, iv] []) := by intro _ _; rfl)
    (hs : ∀ i, swapsWithSole [.Subscript (.Name x px) k sp] e pos.line (G.X i).env = pure false := by intro _; rfl) (hw : ∀ i, swappedStores [.Subscript (.Name x px) k sp] e (G.X i).env = pure none := by intro _; rfl)
    (h1a : ∀ i, (assignEach [.Subscript (.Name x px) k sp] (G.X i).env).map (·.2) = [assign (.Subscript (.Name x px) k sp) (G.X i).env] := by intro _; rfl)
    (hd : (x == ("__debug__" : Str)) = false := by decide) (hcd : (x == ("__classdict__" : Str)) = false := by decide) : CS G T E gs own (.Assign [.Subscript (.Name x px) k sp] e pos) (sStoC j fi f) := by
  obtain ⟨te, h1, h2⟩ := he
  obtain ⟨tk, hk1, hk2⟩ := hk
  refine ⟨tAsg te (gSub (tVar j) tk rSetL), fun i => ps_asg (h1 i) (pg_sub (pe_var (hN i) (hv i) hd hcd) (hk1 i) set_list (ha i)) (hs i) (hw i) (h1a i), fun F0 H0 ga s σ F H o Dn hga r hg hp => ?_⟩
  unfold sStoC at hg
  split at hg
  · rename_i ds d kk h3 h4 h5
    split at hg
    · rename_i hz
      obtain ⟨m, h6, rfl⟩ := Option.map_eq_some_iff.mp hg
      rw [Option.join_eq_some_iff] at h3
      obtain ⟨l, xs, ds', g1, g2, g3, g0, g4, g5⟩ := r.ow j _ hj h3
      cases g2
      refine h2 s σ H H d (Evl.Ex.refl H) r.slH h4 H H (Ext.refl (Evl.Ex.refl H)) _ fun v F2 H2 e2 rv => ⟨_, g1, hk2 s σ H H _ (Evl.Ex.refl H) r.slH h5 F2 H2 e2 _ fun w F3 H3 e3 rw' => ?_⟩
      have e23 := e2.trans e3
      have hH : H3 l = some (.lst xs) := e23.sub _ _ (e23.fz _ _ g4)
      exact ⟨l, xs, kk, m, rfl, dv_int rw', hH, by rw [dva_len g5]; exact h6, hp F _ _ (Evl.Ex.refl F) ((r.extH e23).write hj h3 g1 (dva_set (dv_scal rv hz) _ g5))⟩
    · cases hg
  · cases hg
/-- f(a, ..), a call for its errors alone -/
theorem cs_callX {x : Str} {ad : Addr} {fd : FuncData} {ps : List Str} {k : Nat} {m : List D → Option FR} {CXc : CXT} {fa : XA} (F : FnOk G.P G.w G.K G.mg G.base CXc k ad fd ps (spM G.K T m)) (hku : k ≤ G.u) (hm : G.mg x = some (.ref ad)) (hk : PySem.W.keepIn G.K (.ref ad) = true)
    (hb : Binds G.K fd ps []) (hx : ∀ i, Passes CXc (G.X i) E) (ha : CA G T (e :: es) fa) (hg : ∀ i, Gl (G.X i) x := by intro _; rfl) (hdb : (x == ("__debug__" : Str)) = false := by decide)
    (he : ∀ i, starEach (e :: es) (G.X i).env = (false, eval e (G.X i).env) :: starEach es (G.X i).env := by intro _; rfl) (hpl : ∀ i, (backTo p2 (starEach es (G.X i).env)).any (·.1) = false := by intro _; rfl)
    (hsw : ∀ i, swapsWith (.Call (.Name x p) (e :: es) [] p2) none pos.line (G.X i).env = pure false := by intro _; rfl) : CS G T E gs own (.Expr (.Call (.Name x p) (e :: es) [] p2) pos) (sCallX m own fa) := by
  obtain ⟨ta, ha, va⟩ := ha
  refine ⟨tDrop (tCall (spM G.K T m) [] E ta), fun i => ps_expr (pe_call (Fam.fn F i) ((G.hr i).mono hku) (hg i) (by rw [G.hm i]; exact hm) (by rw [G.hK i]; exact hk) (by rw [G.hK i]; exact hb) .nil (hx i) (ha i) hdb (he i) (hpl i)) (hsw i), fun F0 H0 ga s σ F1 H1 o Dn hga r hg hp => ?_⟩
  unfold sCallX at hg
  obtain ⟨ds, h1, h2⟩ := Option.bind_eq_some_iff.mp hg
  obtain ⟨fr, h3, rfl⟩ := Option.map_eq_some_iff.mp h2
  refine va _ σ F1 H1 ds r.hx r.sl h1 F1 H1 (Ext.refl r.hx) _ fun vs F2 H2 e2 rs => ⟨F2, ds, fr, e2.sub, by rw [List.append_nil]; exact rs, h3, ?_⟩
  cases fr with
  | ret d => exact fun v F' H' e3 rv => hp F' H' σ (e2.fz.trans e3.fz) (r.ext (e2.trans e3))
  | exc c d => exact fun dd v F' H' e3 hH rv => hp dd v F' H' (r.e0.trans (e2.trans e3)) hH rv
end
end Mr

set_option Elab.async false
set_option linter.all false
set_option maxRecDepth 100000
set_option maxHeartbeats 2000000
/-! a def keeps its mirror; errors -/
namespace Mr
open PySem PySem.Spec PyProof.Rows L2
open Evl (Ex)

/-! ### several targets -/
def sPar (own : List Nat) (i j : Nat) (f g : XE) : S → Option Out := fun s => (f (wipeS s own)).bind fun x => (g (wipeS s own)).map fun y => .nx ((s.set i (some x)).set j (some y))
def sAsgT (own : List Nat) (bind : D → S → Option S) (f : XE) : S → Option Out := fun s => (f (wipeS s own)).bind fun d => (bind d s).map .nx
section
variable {G : Fam} {T : CT} {E : XK} {gs own : List Nat} {e a b c tg : Expr} {es : List Expr} {f g : XE} {fn : XN} {p pos p2 apos : Pos}
theorem cs_par (i j : Nat) {x y : Str} {px py pt : Pos} {kt k2 : Nat} {pt2 : Pos} (ha : CE G T a f) (hb : CE G T b g) (hNd : ∀ i, (G.X i).N.Nodup) (hij : i ≠ j := by decide) (hi : i ∉ own := by decide) (hj : j ∉ own := by decide) (hNi : ∀ n, (G.X n).N[i]? = some x := by intro _; rfl) (hNj : ∀ n, (G.X n).N[j]? = some y := by intro _; rfl)
    (hx : ∀ n, (G.X n).env.scope.names.lookup x = some .local := by intro _; rfl) (hy : ∀ n, (G.X n).env.scope.names.lookup y = some .local := by intro _; rfl)
    (hst : ∀ n, starEach [a, b] (G.X n).env = (false, eval a (G.X n).env) :: starEach [b] (G.X n).env := by intro _; rfl) (hst2 : ∀ n, starEach [b] (G.X n).env = (false, eval b (G.X n).env) :: starEach [] (G.X n).env := by intro _; rfl)
    (hw : ∀ n, swappedStores [.Tuple [.Name x px, .Name y py] kt pt] (.Tuple [a, b] k2 pt2) (G.X n).env = pure (some [x, y]) := by intro _; rfl)
    (hs : ∀ n, swapsWithSole [.Tuple [.Name x px, .Name y py] kt pt] (.Tuple [a, b] k2 pt2) pos.line (G.X n).env = pure false := by intro _; rfl) :
    CS G T E gs own (.Assign [.Tuple [.Name x px, .Name y py] kt pt] (.Tuple [a, b] k2 pt2) pos) (sPar own i j f g) := by
  obtain ⟨ta, ha, va⟩ := ha
  obtain ⟨tb, hb, vb⟩ := hb
  refine ⟨tPar i j (tCons ta (tCons tb tNil)), fun n => ps_par (G.hc n) (hNd n) (hNi n) (hNj n) hij (hx n) (hy n) (pa_cons (ha n) (pa_cons (hb n) pa_nil (hst2 n)) (hst n)) (hw n) (hs n), fun F0 H0 ga s σ F H o Dn hga r hg hp => ?_⟩
  unfold sPar at hg
  obtain ⟨d1, h1, h2⟩ := Option.bind_eq_some_iff.mp hg
  obtain ⟨d2, h3, rfl⟩ := Option.map_eq_some_iff.mp h2
  refine va _ σ F H d1 r.hx r.sl h1 F H (Ext.refl r.hx) _ fun v F2 H2 e2 rv => vb _ σ F H d2 r.hx r.sl h3 F2 H2 e2 _ fun w F3 H3 e3 rw' => ⟨v, w, rfl, ?_⟩
  exact hp F3 H3 _ (e2.fz.trans e3.fz) (((r.ext (e2.trans e3)).set hi (dv_mono e3.fz _ _ rv)).set hj rw')
theorem cs_asgT {bind : D → S → Option S} (he : CE G T e f) (hg : CGS G T own tg bind) (hs : ∀ n, swapsWithSole [tg] e pos.line (G.X n).env = pure false := by intro _; rfl) (hw : ∀ n, swappedStores [tg] e (G.X n).env = pure none := by intro _; rfl)
    (h1 : ∀ n, (assignEach [tg] (G.X n).env).map (·.2) = [assign tg (G.X n).env] := by intro _; rfl) : CS G T E gs own (.Assign [tg] e pos) (sAsgT own bind f) := by
  obtain ⟨te, h2, h3⟩ := he
  obtain ⟨gt, h4, h5⟩ := hg
  refine ⟨tAsg te gt, fun n => ps_asg (h2 n) (h4 n) (hs n) (hw n) (h1 n), fun F0 H0 ga s σ F H o Dn hga r hg hp => ?_⟩
  unfold sAsgT at hg
  obtain ⟨d, h6, h7⟩ := Option.bind_eq_some_iff.mp hg
  obtain ⟨s', h8, rfl⟩ := Option.map_eq_some_iff.mp h7
  exact h3 _ σ F H d r.hx r.sl h6 F H (Ext.refl r.hx) _ fun v F2 H2 e2 rv => h5 F0 H0 ga s s' σ F2 H2 d v (r.ext e2) rv h8 _ fun σ' r' => hp F2 H2 σ' e2.fz r'
end

/-! ### errors -/
def spInit (K : PySem.W.Frag) : Sp := fun vs H Q _ => ∃ (a C : Addr) (v : V), vs = [.ref a, v] ∧ (OexC K C ∧ PySem.W.findIn K (.ref C) "value" = some none) ∧ H a = some (exo a C none) ∧ ∀ dx, H dx = none → dx ≠ a → Q .non (upd (upd H dx (exd dx [(("value" : Str), v)])) a (exo a C (some dx)))
/-- X(e): the error of the class at C, its field told -/
def PmkV (X : Cx) (x : Str) (C : Addr) : Prop := ∀ (e : Expr) (te : TE) (p pos : Pos), PE X e te → (starEach [e] X.env = (false, eval e X.env) :: starEach [] X.env) → ((backTo pos (starEach [] X.env)).any (·.1) = false) →
  PMk X (.Call (.Name x p) [e] [] pos) (tMkO C (spInit X.K) [] (tCons te tNil))
theorem pmkV {X : Cx} {CXc : CXT} {x : Str} {C fI : Addr} {k : Nat} {fd : FuncData} {ps : List Str} (O : OexC X.K C) (iC : PySem.W.findIn X.K (.ref C) "__init__" = some (some (.ref fI))) (tI : PySem.W.typeIn X.K (.ref fI) = some (.type "function"))
    (F1 : FnOk X.prog X.w X.K X.mg X.base CXc k fI fd ps (spInit X.K)) (hr : Room (k + 1) X.A) (hb : Binds X.K fd ps []) (hx : Passes CXc X (fun _ _ _ => False)) (hg : Gl X x) (hm : X.mg x = some (.ref C)) (hdb : (x == ("__debug__" : Str)) = false) : PmkV X x C := by
  intro e te p pos he hs hpl
  exact pmk_oex (ta := tCons te tNil) (dvs := []) O iC tI F1 hr hb .nil hx hg hm (pa_cons he pa_nil hs) hdb hs hpl
theorem err_heap {H : Hp} {a dx : Addr} {o1 o2 o3 o4 : HO} (ha : H a = none) : upd (del (upd (upd (upd H a o1) dx o2) a o3) a) dx o4 = upd H dx o4 := by
  funext b
  unfold upd del
  by_cases h1 : b = dx
  · rw [if_pos h1, if_pos h1]
  · rw [if_neg h1, if_neg h1]
    by_cases h2 : b = a
    · rw [if_pos h2, h2, ha]
    · rw [if_neg h2]
      show (if b = a then some o3 else if b = dx then some o2 else if b = a then some o1 else H b) = H b
      rw [if_neg h2, if_neg h1, if_neg h2]
def sRaise (c : Nat) (own : List Nat) (f : XE) : S → Option Out := fun s => (f (wipeS s own)).map fun d => .ex c d
section
variable {G : Fam} {T : CT} {E : XK} {gs own : List Nat} {e : Expr} {f : XE} {p pos p2 : Pos}
theorem cs_raise (c : Nat) {x : Str} (ho : OexC G.K (T.exc c) ∧ PySem.W.findIn G.K (.ref (T.exc c)) "value" = some none) (he : CE G T e f) (hm : ∀ i, PmkV (G.X i) x (T.exc c)) (tk : ∀ i, Takes (G.X i) (fun cls d _ H => E cls d H)) (hs : ∀ i, starEach [e] (G.X i).env = (false, eval e (G.X i).env) :: starEach [] (G.X i).env := by intro _; rfl)
    (hpl : ∀ i, (backTo p2 (starEach [] (G.X i).env)).any (·.1) = false := by intro _; rfl) : CS G T E gs own (.Raise (some (.Call (.Name x p) [e] [] p2)) none pos) (sRaise c own f) := by
  obtain ⟨te, h1, h2⟩ := he
  refine ⟨fun _ σ H => tMkO (T.exc c) (spInit G.K) [] (tCons te tNil) σ H fun cls d H' => E cls d H', fun i => by rw [← G.hK i]; exact ps_raise (G.hc i) (tk i) (hm i e te p p2 (h1 i) (hs i) (hpl i)), fun F0 H0 ga s σ F H o Dn hga r hg hp => ?_⟩
  unfold sRaise at hg
  obtain ⟨d, h3, rfl⟩ := Option.map_eq_some_iff.mp hg
  refine h2 _ σ F H d r.hx r.sl h3 F H (Ext.refl r.hx) _ fun v F2 H2 e2 rv => ⟨by show 1 ≤ 1000; decide, fun a ha => ⟨a, T.exc c, v, rfl, ho, upd_same, fun dx hdx hne => ⟨rfl, dx, _, upd_same, by rw [upd_ne hne]; exact upd_same, ?_, ?_⟩⟩⟩
  · rw [upd_ne hne] at hdx; exact hdx
  · rw [err_heap ha]
    rw [upd_ne hne] at hdx
    have r2 := r.ext e2
    exact hp dx v F2 _ (r2.e0.trans (Ext.mine r2.hx hdx)) upd_same rv
end

/-! ### defs -/
def defM (n slots : Nat) (body : S → Option Out) : List D → Option FR := fun ds => if ds.length = n then (body (ds.map some ++ List.replicate (slots - n) none)).bind fun o => match o with
    | .nx _ => some (.ret .non)
    | .rt d _ => some (.ret d)
    | .ex c d => some (.exc c d)
    | _ => none
  else none
section
variable {P : Program} {w : World} {K : PySem.W.Frag} {mg : Str → Option Value} {base : Heap} {T : CT}
@[reducible] def fam (P : Program) (w : World) (K : PySem.W.Frag) (mg : Str → Option Value) (base : Heap) (N : List Str) (qual : Str) (scope : Scope) (f : Addr) (k : Nat) (cdv : Value) (A : Around) (outer : List Env) (s : Shared) (H : Hp) (E : XK) (hr : Room k (A.deeper (envOfC qual scope s.heap.objs.size f cdv))) : Fam where
  ι := Unit
  X := fun _ => cxOf (L2.CX P w) P w K mg base N qual scope f cdv A outer s H E
  P := P
  w := w
  base := base
  hP := fun _ => rfl
  hw := fun _ => rfl
  hb := fun _ => rfl
  K := K
  mg := mg
  N := N
  u := k
  hK := fun _ => rfl
  hm := fun _ => rfl
  hN := fun _ => rfl
  hc := fun _ => rfl
  hr := fun _ => hr
theorem spM_len {ps N : List Str} {g : S → Option Out} : ∀ vs H Q E, spM K T (defM ps.length N.length g) vs H Q E → vs.length = ps.length := fun vs H Q E ⟨F0, ds, r, h1, h2, h3, h4⟩ => by
    unfold defM at h3
    split at h3
    · rw [dva_len h2]; assumption
    · cases h3
theorem body_mirror {qual : Str} {st : Stmt} {f : Addr} {N ps : List Str} {k : Nat} {own : List Nat} {g : S → Option Out} (hown : ∀ i ∈ own, ps.length ≤ i) (hlen : ps.length ≤ N.length) {cdv : Value} {A : Around} {outer : List Env} {s : Shared} {H : Hp} {E : XK} {hr : Room k (A.deeper (envOfC qual (defScope st) s.heap.objs.size f cdv))}
    (hb : CSs (fam P w K mg base N qual (defScope st) f k cdv A outer s H E hr) T E [] own (defBody st) g) {vs : List V} {Q : VK} (h : spM K T (defM ps.length N.length g) vs H Q E) :
    ∃ t, PSs (cxOf (L2.CX P w) P w K mg base N qual (defScope st) f cdv A outer s H E) (defBody st) t ∧ t { nx := fun _ H' => Q .non H', rt := Q } (start N vs) H := by
  have hvl := spM_len vs H Q E h
  obtain ⟨F0, ds, r, hx, hd, hm, hfin⟩ := h
  obtain ⟨t, ht, hev⟩ := hb
  refine ⟨t, ht (), ?_⟩
  unfold defM at hm
  split at hm
  case isFalse => cases hm
  rename_i hdl
  obtain ⟨o, h1, h2⟩ := Option.bind_eq_some_iff.mp hm
  refine hev F0 H (fun _ => none) _ (start N vs) F0 H o _ (fun _ _ => rfl) ⟨hx, Ext.refl hx, ?_, fun i d hi hs => ?_, fun i d hi hs => ?_, fun i j a d e hi hj hne hs1 hs2 => ?_, fun i a hi hga => by cases hga⟩ h1 ?_
  · unfold L2.start
    simp only [List.length_append, List.length_map, List.length_replicate, hvl, hdl]
  · by_cases hlt : i < ds.length
    · rw [List.getElem?_append_left (by rw [List.length_map]; exact hlt), List.getElem?_map] at hs
      obtain ⟨d', h3, h4⟩ := Option.map_eq_some_iff.mp hs
      cases h4
      obtain ⟨v, h5, h6⟩ := dva_get' hd h3
      refine ⟨v, ?_, h6⟩
      unfold L2.start
      rw [List.getElem?_append_left (by rw [List.length_map, hvl, ← hdl]; exact hlt), List.getElem?_map, h5]
      rfl
    · rw [List.getElem?_append_right (by rw [List.length_map]; omega), List.getElem?_replicate] at hs
      split at hs <;> cases hs
  · have := hown i hi
    rw [List.getElem?_append_right (by rw [List.length_map]; omega), List.getElem?_replicate] at hs
    split at hs <;> cases hs
  · have := hown i hi
    rw [List.getElem?_append_right (by rw [List.length_map]; omega), List.getElem?_replicate] at hs1
    split at hs1 <;> cases hs1
  · cases o with
    | nx s' => cases h2; exact fun F1 H1 σ1 _ r1 => hfin .non F1 H1 r1.e0 .non
    | rt d s' => cases h2; exact fun v F1 H1 σ1 r1 rv => hfin v F1 H1 r1.e0 rv
    | ex c d => cases h2; exact fun dd v F1 H1 e1 hH rv => hfin dd v F1 H1 e1 hH rv
    | bk s' => cases h2
    | ct s' => cases h2
theorem fn_mirror {x qual : Str} {st : Stmt} {f : Addr} {fd : FuncData} {N ps : List Str} {k : Nat} {own : List Nat} {g : S → Option Out} (F : Fun K x qual st f fd) (Sc : FnScope N ps (defScope st)) (hown : ∀ i ∈ own, ps.length ≤ i) (hlen : ps.length ≤ N.length)
    (hb : ∀ cdv A outer s H E hr, CSs (fam P w K mg base N qual (defScope st) f k cdv A outer s H E hr) T E [] own (defBody st) g) : FnOk P w K mg base (L2.CX P w) (k + 1) f fd ps (spM K T (defM ps.length N.length g)) := by
  exact F.okX Sc spM_len fun cdv A outer s H vs Q E hr h => body_mirror hown hlen (hb cdv A outer s H E hr) h
end
end Mr

set_option Elab.async false
set_option linter.all false
set_option maxRecDepth 100000
set_option maxHeartbeats 2000000
/-! the defs of a text, by name -/
namespace Mr
open PySem PySem.Spec PyProof.Rows L2
open Evl (Ex)
/-- the def x of the text st stands behind the top -/
def Def0 (K : PySem.W.Frag) (mg : Str → Option Value) (x : Str) (st : Stmt) (ps : List Str) : Prop := ∃ ad fd, Fun K x x st ad fd ∧ mg x = some (.ref ad) ∧ Binds K fd ps []
/-- it keeps its mirror m -/
def Cal (P : Program) (w : World) (K : PySem.W.Frag) (mg : Str → Option Value) (base : Heap) (T : CT) (x : Str) (k : Nat) (ps : List Str) (m : List D → Option FR) : Prop :=
  ∃ ad fd, FnOk P w K mg base (L2.CX P w) k ad fd ps (spM K T m) ∧ mg x = some (.ref ad) ∧ PySem.W.keepIn K (.ref ad) = true ∧ Binds K fd ps []
section
variable {P : Program} {w : World} {K : PySem.W.Frag} {mg : Str → Option Value} {base : Heap} {T : CT}
theorem cal_mirror {x : Str} {st : Stmt} {N ps : List Str} {k k' : Nat} {own : List Nat} {g : S → Option Out} {m : List D → Option FR} (F : Def0 K mg x st ps) (Sc : FnScope N ps (defScope st)) (hown : ∀ i ∈ own, ps.length ≤ i) (hlen : ps.length ≤ N.length) (hk : k' = k + 1) (hm : m = defM ps.length N.length g)
    (hb : ∀ f cdv A outer s H E hr, CSs (fam P w K mg base N x (defScope st) f k cdv A outer s H E hr) T E [] own (defBody st) g) : Cal P w K mg base T x k' ps m := by
  subst hk hm
  obtain ⟨ad, fd, F, hm, hb'⟩ := F
  exact ⟨ad, fd, fn_mirror F Sc hown hlen (hb ad), hm, F.kp, hb'⟩
end
section
variable {G : Fam} {T : CT} {E : XK} {gs own : List Nat} {e : Expr} {es : List Expr} {p pos p2 : Pos}
theorem ce_cal {x : Str} {ps : List Str} {k : Nat} {m : List D → Option FR} {fa : XA} (C : Cal G.P G.w G.K G.mg G.base T x k ps m) (hku : k ≤ G.u) (hx : ∀ i, Passes (L2.CX G.P G.w) (G.X i) E0) (ha : CA G T (e :: es) fa) (hg : ∀ i, Gl (G.X i) x := by intro _; rfl) (hdb : (x == ("__debug__" : Str)) = false := by decide)
    (he : ∀ i, starEach (e :: es) (G.X i).env = (false, eval e (G.X i).env) :: starEach es (G.X i).env := by intro _; rfl) (hpl : ∀ i, (backTo pos (starEach es (G.X i).env)).any (·.1) = false := by intro _; rfl) :
    CE G T (.Call (.Name x p) (e :: es) [] pos) (xCall m fa) := by
  obtain ⟨ad, fd, F, hm, hk, hb⟩ := C
  exact ce_call F hku hm hk hb hx ha hg hdb he hpl
theorem cs_calX {x : Str} {ps : List Str} {k : Nat} {m : List D → Option FR} {fa : XA} (C : Cal G.P G.w G.K G.mg G.base T x k ps m) (hku : k ≤ G.u) (hx : ∀ i, Passes (L2.CX G.P G.w) (G.X i) E) (ha : CA G T (e :: es) fa) (hg : ∀ i, Gl (G.X i) x := by intro _; rfl) (hdb : (x == ("__debug__" : Str)) = false := by decide)
    (he : ∀ i, starEach (e :: es) (G.X i).env = (false, eval e (G.X i).env) :: starEach es (G.X i).env := by intro _; rfl) (hpl : ∀ i, (backTo p2 (starEach es (G.X i).env)).any (·.1) = false := by intro _; rfl)
    (hsw : ∀ i, swapsWith (.Call (.Name x p) (e :: es) [] p2) none pos.line (G.X i).env = pure false := by intro _; rfl) : CS G T E gs own (.Expr (.Call (.Name x p) (e :: es) [] p2) pos) (sCallX m own fa) := by
  obtain ⟨ad, fd, F, hm, hk, hb⟩ := C
  exact cs_callX F hku hm hk hb hx ha hg hdb he hpl hsw
end
/-- the built-ins that the text calls have their own meaning -/
structure Bi (mg : Str → Option Value) : Prop where
  len : mg "len" = none
  list : mg "list" = none
  tuple : mg "tuple" = none
  range : mg "range" = none
  enumerate : mg "enumerate" = none
  zip : mg "zip" = none
  reversed : mg "reversed" = none
  int : mg "int" = none
  bool : mg "bool" = none
  isinstance : mg "isinstance" = none
  all : mg "all" = none
  sum : mg "sum" = none
  max : mg "max" = none
  min : mg "min" = none
  repr : mg "repr" = none
section
variable {G : Fam} {T : CT} {a b : Expr} {f g : XE} {fa : XA} {p pos : Pos}
theorem ce_len (B : Bi G.mg) (ha : CA G T [a] fa) (hg : ∀ i, Gl (G.X i) "len" := by intro _; rfl) (he : ∀ i, starEach [a] (G.X i).env = (false, eval a (G.X i).env) :: starEach [] (G.X i).env := by intro _; rfl) (hpl : ∀ i, (backTo pos (starEach [] (G.X i).env)).any (·.1) = false := by intro _; rfl) : CE G T (.Call (.Name "len" p) [a] [] pos) (xB (on1 dLen) fa) :=
  ce_B (fun i => by rw [← G.hK i]; exact call_len_seq) rc_len B.len PySem.boot_len ha hg (by decide) (by decide) he hpl
theorem ce_listC (B : Bi G.mg) (ha : CA G T [a] fa) (hg : ∀ i, Gl (G.X i) "list" := by intro _; rfl) (he : ∀ i, starEach [a] (G.X i).env = (false, eval a (G.X i).env) :: starEach [] (G.X i).env := by intro _; rfl) (hpl : ∀ i, (backTo pos (starEach [] (G.X i).env)).any (·.1) = false := by intro _; rfl) : CE G T (.Call (.Name "list" p) [a] [] pos) (xB (on1 dList) fa) :=
  ce_Ty (fun i => by rw [← G.hK i]; exact call_list_of) rc_list B.list (by decide +kernel) ha hg (by decide) (by decide) he hpl
theorem ce_tupleC (B : Bi G.mg) (ha : CA G T [a] fa) (hg : ∀ i, Gl (G.X i) "tuple" := by intro _; rfl) (he : ∀ i, starEach [a] (G.X i).env = (false, eval a (G.X i).env) :: starEach [] (G.X i).env := by intro _; rfl) (hpl : ∀ i, (backTo pos (starEach [] (G.X i).env)).any (·.1) = false := by intro _; rfl) : CE G T (.Call (.Name "tuple" p) [a] [] pos) (xB (on1 dTuple) fa) :=
  ce_Ty (fun i => by rw [← G.hK i]; exact call_tuple_of) rc_tuple B.tuple (by decide +kernel) ha hg (by decide) (by decide) he hpl
theorem ce_intC (B : Bi G.mg) (ha : CA G T [a] fa) (hg : ∀ i, Gl (G.X i) "int" := by intro _; rfl) (he : ∀ i, starEach [a] (G.X i).env = (false, eval a (G.X i).env) :: starEach [] (G.X i).env := by intro _; rfl) (hpl : ∀ i, (backTo pos (starEach [] (G.X i).env)).any (·.1) = false := by intro _; rfl) : CE G T (.Call (.Name "int" p) [a] [] pos) (xB (on1 dInt) fa) :=
  ce_Ty (fun i => call_int1) rc_int B.int (by decide +kernel) ha hg (by decide) (by decide) he hpl
theorem ce_allC (B : Bi G.mg) (ha : CA G T [a] fa) (hg : ∀ i, Gl (G.X i) "all" := by intro _; rfl) (he : ∀ i, starEach [a] (G.X i).env = (false, eval a (G.X i).env) :: starEach [] (G.X i).env := by intro _; rfl) (hpl : ∀ i, (backTo pos (starEach [] (G.X i).env)).any (·.1) = false := by intro _; rfl) : CE G T (.Call (.Name "all" p) [a] [] pos) (xB (on1 dAll) fa) :=
  ce_B (fun i => by rw [← G.hK i]; exact cr_all (G.hc i)) rc_all B.all (by decide +kernel) ha hg (by decide) (by decide) he hpl
theorem ce_sumC (B : Bi G.mg) (ha : CA G T [a] fa) (hg : ∀ i, Gl (G.X i) "sum" := by intro _; rfl) (he : ∀ i, starEach [a] (G.X i).env = (false, eval a (G.X i).env) :: starEach [] (G.X i).env := by intro _; rfl) (hpl : ∀ i, (backTo pos (starEach [] (G.X i).env)).any (·.1) = false := by intro _; rfl) : CE G T (.Call (.Name "sum" p) [a] [] pos) (xB (on1 dSum) fa) :=
  ce_B (fun i => by rw [← G.hK i]; exact cr_sum (G.hc i)) rc_sum B.sum (by decide +kernel) ha hg (by decide) (by decide) he hpl
theorem ce_maxC (B : Bi G.mg) (ha : CA G T [a, b] fa) (hg : ∀ i, Gl (G.X i) "max" := by intro _; rfl) (he : ∀ i, starEach [a, b] (G.X i).env = (false, eval a (G.X i).env) :: starEach [b] (G.X i).env := by intro _; rfl) (hpl : ∀ i, (backTo pos (starEach [b] (G.X i).env)).any (·.1) = false := by intro _; rfl) : CE G T (.Call (.Name "max" p) [a, b] [] pos) (xB (on2 dMax) fa) :=
  ce_B (fun i => call_max2 (G.hc i)) rc_max B.max (by decide +kernel) ha hg (by decide) (by decide) he hpl
end
/-! ### reversed(range(n)) -/
def dRevL (n : Nat) : List D := (List.range n).map fun i => .int ((n : Int) - 1 - (i : Nat))
def dRevN : D → Option (List D)
  | .int j => if j ≤ 100000 ∧ -100000 ≤ j then some (dRevL j.toNat) else none
  | _ => none
def xiRev (f : XE) : XA := fun s => (f s).bind dRevN
theorem dRev_len (n : Nat) : (dRevL n).length = n := by unfold dRevL; rw [List.length_map, List.length_range]
section
variable {G : Fam} {T : CT} {a tg : Expr} {f : XE} {p p1 pos pos1 : Pos}
theorem ci_rev1 (B : Bi G.mg) (ha : CE G T a f) (hg : ∀ i, Gl (G.X i) "reversed" := by intro _; rfl) (hg2 : ∀ i, Gl (G.X i) "range" := by intro _; rfl) (hst : ∀ i, starEach [.Call (.Name "range" p1) [a] [] pos1] (G.X i).env = (false, eval (.Call (.Name "range" p1) [a] [] pos1) (G.X i).env) :: starEach [] (G.X i).env := by intro _; rfl)
    (hst2 : ∀ i, starEach [a] (G.X i).env = (false, eval a (G.X i).env) :: starEach [] (G.X i).env := by intro _; rfl) : CI G T tg (.Call (.Name "reversed" p) [.Call (.Name "range" p1) [a] [] pos1] [] pos) (xiRev f) := by
  obtain ⟨ta, ha, va⟩ := ha
  refine ⟨iRevR (tRg1 ta), fun i => pi_revR (hg i) (by rw [G.hm i]; exact B.reversed) (prg_1 (hg2 i) (by rw [G.hm i]; exact B.range) (ha i) (hst2 i)) (hst i), fun s σ F H d hx hs hf F1 H1 e1 R q => ?_⟩
  unfold xiRev at hf
  obtain ⟨x, h1, h2⟩ := Option.bind_eq_some_iff.mp hf
  refine va s σ F H x hx hs h1 F1 H1 e1 _ fun v F2 H2 e2 rv => ?_
  unfold dRevN at h2
  split at h2
  · rename_i j
    split at h2
    · rename_i hc
      cases h2
      refine ⟨j, dv_int rv, by omega, by omega, by omega, by omega, q _ F2 H2 e2 ⟨fun i H hi _ => ?_, fun H _ => ?_, fun i F3 H3 x H4 hi e3 e4 y => ?_⟩⟩
      · rw [dRev_len] at hi
        have e : (j - 0).toNat = j.toNat := by omega
        rw [e]
        exact walk_rangeC.goes i H hi trivial
      · rw [dRev_len]
        have e : (j - 0).toNat = j.toNat := by omega
        rw [e]
        exact walk_rangeC.stops H trivial
      · rw [dRev_len] at hi
        have e : (j - 0).toNat = j.toNat := by omega
        rw [e] at y
        obtain ⟨rfl, rfl⟩ := walk_rangeC.yields i H3 x H4 hi trivial y
        refine ⟨F3, .int ((j.toNat : Int) - 1 - (i : Nat)), Ext.refl e4, ?_, ?_⟩
        · unfold dRevL
          rw [List.getElem?_map, List.getElem?_range hi]
          rfl
        · have e5 : (0 : Int) + ((j.toNat : Nat) : Int) - 1 + ((i : Nat) : Int) * (-1) = (j.toNat : Int) - 1 - (i : Nat) := by omega
          show Dv G.K T F3 (V.int (0 + ((j.toNat : Nat) : Int) - 1 + ((i : Nat) : Int) * (-1))) _
          rw [e5]
          exact .int _
    · cases h2
  · cases h2
end
end Mr

set_option Elab.async false
set_option linter.all false
set_option maxRecDepth 100000
set_option maxHeartbeats 2000000
/-! one's own lists let go; further forms -/
namespace Mr
open PySem PySem.Spec PyProof.Rows L2
open Evl (Ex)
section
variable {G : Fam} {T : CT} {E : XK} {gs own : List Nat} {e a b c tg : Expr} {es : List Expr} {f g h : XE} {fn : XN} {p pos p2 apos : Pos}
/-- the error class x, at C, may be made and raised -/
def Err (P : Program) (w : World) (K : PySem.W.Frag) (mg : Str → Option Value) (base : Heap) (x : Str) (C : Addr) : Prop := (OexC K C ∧ PySem.W.findIn K (.ref C) "value" = some none) ∧ ∀ X : Cx, X.prog = P → X.w = w → X.K = K → X.mg = mg → X.base = base → Room 2 X.A → Gl X x → PmkV X x C
/-- a constant of the module -/
def Con0 (K : PySem.W.Frag) (T : CT) (mg : Str → Option Value) (x : Str) (d : D) : Prop := ∃ v u, mg x = some u ∧ RelV v u ∧ ∀ F, Dv K T F v d
theorem ce_con {x : Str} {d : D} (C : Con0 G.K T G.mg x d) (hg : ∀ i, Gl (G.X i) x := by intro _; rfl) (hdb : (x == ("__debug__" : Str)) = false := by decide) : CE G T (.Name x pos) (xC d) := by
  obtain ⟨v, u, h1, h2, h3⟩ := C
  exact ce_glob h1 h2 h3 hg hdb
def sPar3 (own : List Nat) (i j l : Nat) (f g h : XE) : S → Option Out := fun s => (f (wipeS s own)).bind fun x => (g (wipeS s own)).bind fun y => (h (wipeS s own)).map fun z => .nx (((s.set i (some x)).set j (some y)).set l (some z))
theorem cs_par3 (i j l : Nat) {x y z : Str} {px py pz pt : Pos} {kt k2 : Nat} {pt2 : Pos} (ha : CE G T a f) (hb : CE G T b g) (hc : CE G T c h) (hNd : ∀ i, (G.X i).N.Nodup) (hij : i ≠ j := by decide) (hil : i ≠ l := by decide) (hjl : j ≠ l := by decide) (hi : i ∉ own := by decide) (hj : j ∉ own := by decide) (hl : l ∉ own := by decide)
    (hNi : ∀ n, (G.X n).N[i]? = some x := by intro _; rfl) (hNj : ∀ n, (G.X n).N[j]? = some y := by intro _; rfl) (hNl : ∀ n, (G.X n).N[l]? = some z := by intro _; rfl)
    (hx : ∀ n, (G.X n).env.scope.names.lookup x = some .local := by intro _; rfl) (hy : ∀ n, (G.X n).env.scope.names.lookup y = some .local := by intro _; rfl) (hz : ∀ n, (G.X n).env.scope.names.lookup z = some .local := by intro _; rfl)
    (hst : ∀ n, starEach [a, b, c] (G.X n).env = (false, eval a (G.X n).env) :: starEach [b, c] (G.X n).env := by intro _; rfl) (hst2 : ∀ n, starEach [b, c] (G.X n).env = (false, eval b (G.X n).env) :: starEach [c] (G.X n).env := by intro _; rfl) (hst3 : ∀ n, starEach [c] (G.X n).env = (false, eval c (G.X n).env) :: starEach [] (G.X n).env := by intro _; rfl)
    (hw : ∀ n, swappedStores [.Tuple [.Name x px, .Name y py, .Name z pz] kt pt] (.Tuple [a, b, c] k2 pt2) (G.X n).env = pure (some [x, y, z]) := by intro _; rfl)
    (hs : ∀ n, swapsWithSole [.Tuple [.Name x px, .Name y py, .Name z pz] kt pt] (.Tuple [a, b, c] k2 pt2) pos.line (G.X n).env = pure false := by intro _; rfl) :
    CS G T E gs own (.Assign [.Tuple [.Name x px, .Name y py, .Name z pz] kt pt] (.Tuple [a, b, c] k2 pt2) pos) (sPar3 own i j l f g h) := by
  obtain ⟨ta, ha, va⟩ := ha
  obtain ⟨tb, hb, vb⟩ := hb
  obtain ⟨tc, hc, vc⟩ := hc
  refine ⟨tPar3 i j l (tCons ta (tCons tb (tCons tc tNil))), fun n => ps_par3 (G.hc n) (hNd n) (hNi n) (hNj n) (hNl n) hij hil hjl (hx n) (hy n) (hz n) (pa_cons (ha n) (pa_cons (hb n) (pa_cons (hc n) pa_nil (hst3 n)) (hst2 n)) (hst n)) (hw n) (hs n), fun F0 H0 ga s σ F H o Dn hga r hg hp => ?_⟩
  unfold sPar3 at hg
  simp only [Option.bind_eq_some_iff, Option.map_eq_some_iff] at hg
  obtain ⟨d1, h1, d2, h2, d3, h3, rfl⟩ := hg
  refine va _ σ F H d1 r.hx r.sl h1 F H (Ext.refl r.hx) _ fun v F2 H2 e2 rv => vb _ σ F H d2 r.hx r.sl h2 F2 H2 e2 _ fun w F3 H3 e3 rw' => vc _ σ F H d3 r.hx r.sl h3 F3 H3 (e2.trans e3) _ fun u F4 H4 e4 ru => ⟨v, w, u, rfl, ?_⟩
  exact hp F4 H4 _ ((e2.fz.trans e3.fz).trans e4.fz) ((((r.ext ((e2.trans e3).trans e4)).set hi (dv_mono (e3.fz.trans e4.fz) _ _ rv)).set hj (dv_mono e4.fz _ _ rw')).set hl ru)

/-- the reading of a comprehension, its list kept for oneself -/
theorem tLc_evN {iter elt : Expr} {bind : D → S → Option S} {test : XT} {wi : TI} {g : TG} {tt : TT} {te : TE} {vs : List Nat} {s : S} {σ : L2.St} {F1 H1 : Hp} {r : List D} {ds : List D}
    (vi : ∀ R : It → Hp → Prop, (∀ J F2 H2, Ext F1 H1 F2 H2 → WalkD G.K T J F2 ds → R J H2) → wi σ H1 R) (hx : Ex F1 H1) (hs : Sl G.K T F1 s σ)
    (vg : ∀ s s' σ F H d v, Ex F H → Sl G.K T F s σ → Dv G.K T F v d → bind d s = some s' → ∀ Q : L2.St → Hp → Prop, (∀ σ', Sl G.K T F s' σ' → L2.wipe σ' vs = L2.wipe σ vs → (∀ k, k ∉ vs → σ'[k]? = σ[k]?) → Q σ' H) → g v σ H Q)
    (vt : ∀ s σ F H d, Ex F H → Sl G.K T F s σ → test s = some d → EvT tt σ F H d) (ve : ∀ s σ F H d, Ex F H → Sl G.K T F s σ → f s = some d → EvV G.K T te σ F H d)
    (hr : compL bind test f (wipeS s vs) ds = some r) (hz : ds.length ≤ 100000) (Q : VK) (q : ∀ p xs F2 H2, Ext F1 H1 F2 H2 → H1 p = none → F2 p = none → H2 p = some (.lst xs) → DvA G.K T F2 xs r → Q (.ref p) H2) : tLc wi g tt te vs σ H1 Q := by
  refine vi _ fun J F2 H2 e2 wk => ?_
  intro Dl hD
  obtain ⟨w1, w2, w3⟩ := wk
  have hFD : F2 Dl = none := free0 e2.sub hD
  let Pv : Nat → Hp → Prop := fun i H => ∃ (F' : Hp) (acc : List V) (r1 : List D), Ex F2 F' ∧ Ex F' H ∧ F' Dl = none ∧ H Dl = some (.lst acc) ∧ DvA G.K T F' acc r1 ∧ r1.length ≤ i ∧ (compL bind test f (wipeS s vs) (ds.drop i)).map (fun x => r1 ++ x) = some r ∧
    ∀ p o, p ≠ Dl → F2 p = none → H2 p = some o → F' p = none ∧ H p = some o
  refine ⟨fun i m H => m = ds.length - i ∧ i ≤ ds.length ∧ Pv i H, ⟨ds.length, by simp, Nat.zero_le _, F2, [], [], Evl.Ex.refl F2, fun a o ha => by rw [upd_ne (ne_of_none ha hFD)]; exact e2.sub a o ha, hFD, upd_same, .nil, Nat.le_refl _, by
    rw [List.drop_zero, hr]; rfl, fun p o hp h1 h2 => ⟨h1, by rw [upd_ne hp]; exact h2⟩⟩, ?_⟩
  rintro i m H ⟨rfl, hi, F', acc, r1, f1, f2, f3, f4, f5, f6, f7, f8⟩
  by_cases hlt : i < ds.length
  · refine .inr ⟨w1 i H hlt (f1.trans f2), Pv (i + 1), fun H' p' => ⟨ds.length - (i + 1), by omega, rfl, hlt, p'⟩, fun x H' y => ?_⟩
    obtain ⟨F3, d, e3, hd, rx⟩ := w3 i F' H x H' hlt f1 f2 y
    rw [take_succ_drop ds i d hd] at f7
    obtain ⟨z, f7, f9⟩ := Option.map_eq_some_iff.mp f7
    rw [compL] at f7
    obtain ⟨s', b1, f7⟩ := Option.bind_eq_some_iff.mp f7
    obtain ⟨k, b2, f7⟩ := Option.bind_eq_some_iff.mp f7
    have hs3 : Sl G.K T F3 (wipeS s vs) (L2.wipe σ vs) := ((hs.mono ((e2.fz.trans f1).trans e3.fz)).wipe vs)
    refine vg _ s' _ F3 H' d x e3.sub hs3 rx b1 _ fun σ2 hs4 hw hk => ⟨?_, ?_⟩
    · rw [hw]
      apply List.ext_getElem?
      intro k
      rw [wipe_get, wipe_get]
      by_cases hk : k ∈ vs
      · rw [if_pos hk, if_pos hk]; cases σ[k]? <;> rfl
      · rw [if_neg hk, if_neg hk]
    · refine vt s' σ2 F3 H' k e3.sub hs4 b2 F3 H' (Ext.refl e3.sub) _ fun F4 H4 e4 => ?_
      have own0 : F4 Dl = none ∧ H4 Dl = some (.lst acc) := by
        obtain ⟨a1, a2⟩ := e3.own Dl _ f3 f4
        exact e4.own Dl _ a1 a2
      have ownr : ∀ p o, p ≠ Dl → F2 p = none → H2 p = some o → F4 p = none ∧ H4 p = some o := fun p o hp h1 h2 => by
        obtain ⟨a1, a2⟩ := f8 p o hp h1 h2
        obtain ⟨a1, a2⟩ := e3.own p _ a1 a2
        exact e4.own p _ a1 a2
      cases k with
      | true =>
        simp only [if_true] at f7 ⊢
        obtain ⟨y1, b3, f7⟩ := Option.bind_eq_some_iff.mp f7
        obtain ⟨z2, b4, rfl⟩ := Option.map_eq_some_iff.mp f7
        refine ve s' σ2 F3 H' y1 e3.sub hs4 b3 F4 H4 e4 _ fun v F5 H5 e5 rv => ?_
        obtain ⟨o1, o2⟩ := e5.own Dl _ own0.1 own0.2
        have hacc : acc.length = r1.length := dva_len f5
        refine ⟨acc, o2, Evl.sz_lt (by omega), F5, acc ++ [v], r1 ++ [y1], ((f1.trans e3.fz).trans e4.fz).trans e5.fz, fun a o ha => by rw [upd_ne (ne_of_none ha o1)]; exact e5.sub a o ha, o1, upd_same, dva_app (dva_mono ((e3.fz.trans e4.fz).trans e5.fz) _ _ f5) (.cons rv .nil), ?_, ?_, fun p o hp h1 h2 => ?_⟩
        · rw [List.length_append]; simp only [List.length_cons, List.length_nil]; omega
        · rw [b4, ← f9]
          simp only [Option.map_some, List.append_assoc, List.singleton_append]
        · obtain ⟨a1, a2⟩ := ownr p o hp h1 h2
          obtain ⟨a1, a2⟩ := e5.own p _ a1 a2
          exact ⟨a1, by rw [upd_ne hp]; exact a2⟩
      | false =>
        simp only [Bool.false_eq_true, if_false] at f7 ⊢
        exact ⟨F4, acc, r1, (f1.trans e3.fz).trans e4.fz, e4.sub, own0.1, own0.2, dva_mono (e3.fz.trans e4.fz) _ _ f5, by omega, by rw [f7, ← f9]; rfl, ownr⟩
  · have e : i = ds.length := by omega
    subst e
    rw [List.drop_length, compL] at f7
    simp only [Option.map_some, List.append_nil, Option.some.injEq] at f7
    subst f7
    refine .inl ⟨w2 H (f1.trans f2), q _ acc F' H ⟨e2.fz.trans f1, f2, fun p o h1 h2 => ?_⟩ (back_none hx e2 hD) f3 f4 f5⟩
    obtain ⟨a1, a2⟩ := e2.own p o h1 h2
    exact f8 p o (ne_of_none a2 hD) a1 a2
/-- x = [..], a list of one's own -/
theorem cs_setLcO (j : Nat) {x : Str} {px : Pos} {iter elt : Expr} {ifs : List Expr} {scope : Scope} {cpos : Pos} {it : XA} {bind : D → S → Option S} {test : XT} (N0 : List Str) (sc0 : Scope) (ownc : List (Str × Nat)) (hi : CI G T tg iter it) (hg : CG (G.blk scope) T tg (ownc.map (·.2)) bind) (ht : CTs (G.blk scope) T ifs test) (he : CE (G.blk scope) T elt f)
    (hNd : ∀ i, (G.X i).N.Nodup) (hj : j ∈ own := by decide) (hjg : j ∉ gs := by decide) (hN : ∀ i, (G.X i).N[j]? = some x := by intro _; rfl) (hx : ∀ i, (G.X i).env.scope.names.lookup x = some .local := by intro _; rfl)
    (hbl : blkC N0 sc0 scope ownc = true := by decide +kernel) (hN0 : ∀ i, (G.X i).N = N0 := by intro _; rfl) (hsc : ∀ i, (G.X i).env.scope = sc0 := by intro _; rfl)
    (hfs : ∀ i x, foldedSetIterable iter (G.X i).env x = pure x := by intro _ _; rfl)
    (hsw : ∀ i, swapsWith (.ListComp elt [⟨tg, iter, ifs, 0⟩] scope cpos) (some (.Name x px)) pos.line (G.X i).env = pure true := by intro _; exact sw_true rfl rfl rfl (by decide +kernel)) :
    CS G T E gs own (.Assign [.Name x px] (.ListComp elt [⟨tg, iter, ifs, 0⟩] scope cpos) pos) (sSetO own j (nComp it bind (ownc.map (·.2)) test f)) := by
  obtain ⟨wi, hi, vi⟩ := hi
  obtain ⟨g, hg, vg⟩ := hg
  obtain ⟨tt, ht, vt⟩ := ht
  obtain ⟨te, he, ve⟩ := he
  refine ⟨tAsg (tLc wi g tt te (ownc.map (·.2))) (gName j), fun i => ps_setLc (G.hc i) (hNd i) (hN i) (hx i) (hsw i) (hi i) (by rw [hN0 i, hsc i]; exact blkOk_by hbl) (fun s H C cl fp => hg ⟨i, s, H, C, cl, fp⟩) (fun s H C cl fp => ht ⟨i, s, H, C, cl, fp⟩) (fun s H C cl fp => he ⟨i, s, H, C, cl, fp⟩) (hfs i), fun F0 H0 ga s σ F H o Dn hga r hg hp => ?_⟩
  unfold sSetO at hg
  obtain ⟨z, h3, rfl⟩ := Option.map_eq_some_iff.mp hg
  unfold nComp at h3
  simp only [Option.bind_eq_some_iff] at h3
  obtain ⟨ds, h1, z', h2, h3⟩ := h3
  have hz : ds.length ≤ 100000 ∧ z' = z := by
    unfold lim2 at h3
    split at h3
    · exact ⟨by assumption, Option.some.inj h3⟩
    · cases h3
  obtain ⟨hz, rfl⟩ := hz
  refine tLc_evN (G := G) (iter := iter) (elt := elt) (fun R hR => vi _ σ F H ds r.hx r.sl h1 F H (Ext.refl r.hx) R hR) r.hx r.sl vg vt ve h2 hz _ fun p xs F2 H2 e2 n1 n2 hH hd => ?_
  have h0 : H0 p = none := by
    cases hq : H0 p with
    | none => rfl
    | some o =>
      cases hf : F0 p with
      | none => rw [(r.e0.own p o hf hq).2] at n1; cases n1
      | some u => rw [r.hx p u (r.e0.fz p u hf)] at n1; cases n1
  refine hp F2 H2 _ e2.fz ((r.ext e2).setOwn hj (hga j hjg) n2 h0 hH hd fun i a hi hij hs' ha => ?_)
  obtain ⟨d, hs'⟩ := hs'
  obtain ⟨a', ys, es, g1, rfl, g3, g0, g4, g5⟩ := r.ow i d hi hs'
  rw [ha] at g1
  cases g1
  exact ne_of_none g4 n1
end
end Mr

set_option Elab.async false
set_option linter.all false
set_option maxRecDepth 100000
set_option maxHeartbeats 2000000
/-! expressions that draw: the list in the slot j (the law's generator) is written by what they call -/
namespace Mr
open PySem PySem.Spec PyProof.Rows L2
open Evl (Ex)

abbrev XS := S → Option (D × List D)
abbrev XSA := S → Option (List D × List D)
def gset (j : Nat) (s : S) (g : List D) : S := s.set j (some (.lst g))
theorem gset_gset (j : Nat) (s : S) (g h : List D) : gset j (gset j s g) h = gset j s h := by unfold gset; rw [List.set_set]
def gget (j : Nat) (s : S) : Option (List D) := ((s[j]?).join).bind dLs
theorem gget_some {j : Nat} {s : S} {g : List D} (h : gget j s = some g) : s[j]? = some (some (.lst g)) := by
  unfold gget at h
  obtain ⟨x, h1, h2⟩ := Option.bind_eq_some_iff.mp h
  unfold dLs at h2
  split at h2
  · cases h2; rw [Option.join_eq_some_iff] at h1; exact h1
  · cases h2
theorem gset_same {j : Nat} {s : S} {g : List D} (h : s[j]? = some (some (.lst g))) : gset j s g = s := by
  unfold gset
  apply List.ext_getElem?
  intro k
  by_cases hk : j = k
  · subst hk
    rw [List.getElem?_set_self (lt_of_some h), h]
  · rw [List.getElem?_set_ne hk]
def EvSs (K : PySem.W.Frag) (T : CT) (own : List Nat) (j : Nat) (te : TE) (s : S) (σ : L2.St) (d : D) (g : List D) : Prop :=
  ∀ F0 H0 ga F H, Rel K T F0 H0 ga own F H s σ → ∀ Q : VK, (∀ v F2 H2, Ex F F2 → Rel K T F0 H0 ga own F2 H2 (gset j s g) σ → Dv K T F2 v d → Q v H2) → te σ H Q
def EvSa (K : PySem.W.Frag) (T : CT) (own : List Nat) (j : Nat) (ta : TA) (s : S) (σ : L2.St) (ds : List D) (g : List D) : Prop :=
  ∀ F0 H0 ga F H, Rel K T F0 H0 ga own F H s σ → ∀ Q : List V → Hp → Prop, (∀ vs F2 H2, Ex F F2 → Rel K T F0 H0 ga own F2 H2 (gset j s g) σ → DvA K T F2 vs ds → Q vs H2) → ta σ H Q
def CEs (G : Fam) (T : CT) (own : List Nat) (j : Nat) (e : Expr) (f : XS) : Prop := ∃ te : TE, (∀ i, PE (G.X i) e te) ∧ ∀ s σ d g, f s = some (d, g) → EvSs G.K T own j te s σ d g
def CAs (G : Fam) (T : CT) (own : List Nat) (j : Nat) (es : List Expr) (f : XSA) : Prop := ∃ te : TA, (∀ i, PA (G.X i) es te) ∧ ∀ s σ d g, f s = some (d, g) → EvSa G.K T own j te s σ d g

/-! the words -/
def zPure (own : List Nat) (j : Nat) (f : XE) : XS := fun s => (gget j s).bind fun g => (f (wipeS s own)).map fun d => (d, g)
def zOp (j : Nat) (o : D → D → Option D) (a b : XS) : XS := fun s => (a s).bind fun x => (b (gset j s x.2)).bind fun y => (o x.1 y.1).map fun z => (z, y.2)
def zNil (j : Nat) : XSA := fun s => (gget j s).map fun g => ([], g)
def zCons (j : Nat) (a : XS) (r : XSA) : XSA := fun s => (a s).bind fun x => (r (gset j s x.2)).map fun y => (x.1 :: y.1, y.2)
def zLst (r : XSA) : XS := fun s => (r s).bind fun x => (lim x.1.length (.lst x.1)).map fun d => (d, x.2)
def zTup (r : XSA) : XS := fun s => (r s).bind fun x => (lim x.1.length (.tup x.1)).map fun d => (d, x.2)
def zCall (m : List D → Option FR) (r : XSA) : XS := fun s => (r s).bind fun x => ((m x.1).bind frD).map fun d => (d, x.2)
def zB (o : List D → Option D) (r : XSA) : XS := fun s => (r s).bind fun x => (o x.1).map fun d => (d, x.2)
/-- a call that draws: the generator first, then the arguments -/
def zDraw (j : Nat) (m : List D → List D → Option (D × List D)) (r : XSA) : XS := fun s => (gget j s).bind fun _ => (r s).bind fun x => m x.2 x.1

/-- what a def that draws is worth -/
def spG (K : PySem.W.Frag) (T : CT) (m : List D → List D → Option (D × List D)) : Sp := fun vs H Q _ => ∃ F g xs gs ws ds d gs', vs = .ref g :: ws ∧ Ex F H ∧ F g = none ∧ H g = some (.lst xs) ∧ DvA K T F xs gs ∧ DvA K T F ws ds ∧ m gs ds = some (d, gs') ∧
  ∀ v F' H' xs', Ext F (del H g) F' H' → F' g = none → H' g = some (.lst xs') → DvA K T F' xs' gs' → Dv K T F' v d → Q v H'
def CalG (P : Program) (w : World) (K : PySem.W.Frag) (mg : Str → Option Value) (base : Heap) (T : CT) (x : Str) (k : Nat) (ps : List Str) (m : List D → List D → Option (D × List D)) : Prop :=
  ∃ ad fd, FnOk P w K mg base (L2.CX P w) k ad fd ps (spG K T m) ∧ mg x = some (.ref ad) ∧ PySem.W.keepIn K (.ref ad) = true ∧ Binds K fd ps []

theorem Rel.inout {K : PySem.W.Frag} {T : CT} {F0 H0 F H F' H' : Hp} {ga : Nat → Option Addr} {own : List Nat} {s : S} {σ : L2.St} (r : Rel K T F0 H0 ga own F H s σ) {j : Nat} {d : D} {g : Addr} {xs' : List V} {gs' : List D} (hj : j ∈ own) (hs : s[j]? = some (some d)) (hg : σ[j]? = some (some (.ref g)))
    (e : Ext F (del H g) F' H') (hF : F' g = none) (hH : H' g = some (.lst xs')) (hd : DvA K T F' xs' gs') : Rel K T F0 H0 ga own F' H' (gset j s gs') σ := by
  obtain ⟨a, xs, ds, h1, rfl, h3, h0, h4, h5⟩ := r.ow j d hj hs
  rw [hg] at h1
  cases h1
  have ne : ∀ i, i ∉ own → j ≠ i := fun i hi e => hi (e ▸ hj)
  unfold gset
  refine ⟨e.sub, ⟨r.e0.fz.trans e.fz, e.sub, fun p o h6 h7 => ?_⟩, by rw [List.length_set, r.len], fun i x h hi => ?_, fun i x h hi => ?_, fun i k b x y h1 h2 h6 h7 h8 h9 h10 => ?_, r.ga_⟩
  · obtain ⟨h8, h9⟩ := r.e0.own p o h6 h7
    exact e.own p o h8 (by rw [del_ne (ne_of_none h7 h0)]; exact h9)
  · rw [List.getElem?_set_ne (ne i h)] at hi
    obtain ⟨v, g1, g2⟩ := r.sh i x h hi
    exact ⟨v, g1, dv_mono e.fz _ _ g2⟩
  · by_cases q : j = i
    · subst q
      rw [List.getElem?_set_self (lt_of_some hs)] at hi
      cases hi
      exact ⟨g, xs', gs', hg, rfl, hF, h0, hH, hd⟩
    · rw [List.getElem?_set_ne q] at hi
      obtain ⟨b, ys, es, g1, g2, g3, g0, g4, g5⟩ := r.ow i x h hi
      have hne : b ≠ g := fun z => r.dj i j g x _ h hj (fun q' => q q'.symm) hi hs (z ▸ g1) hg
      obtain ⟨k1, k2⟩ := e.own b _ g3 (by rw [del_ne hne]; exact g4)
      exact ⟨b, ys, es, g1, g2, k1, g0, k2, dva_mono e.fz _ _ g5⟩
  · have up : ∀ m z, (s.set j (some (D.lst gs')))[m]? = some (some z) → ∃ z', s[m]? = some (some z') := fun m z hm => by
      by_cases q : j = m
      · subst q; exact ⟨_, hs⟩
      · rw [List.getElem?_set_ne q] at hm; exact ⟨z, hm⟩
    obtain ⟨x', h7⟩ := up i x h7
    obtain ⟨y', h8⟩ := up k y h8
    exact r.dj i k b x' y' h1 h2 h6 h7 h8 h9 h10

section
variable {G : Fam} {T : CT} {own : List Nat} {j : Nat} {e a b c : Expr} {es : List Expr} {f g : XS} {fa : XSA} {fp : XE} {p pos p2 apos : Pos}
theorem ces_pure (he : CE G T e fp) : CEs G T own j e (zPure own j fp) := by
  obtain ⟨te, h1, h2⟩ := he
  refine ⟨te, h1, fun s σ d g hf F0 H0 ga F H r Q q => ?_⟩
  unfold zPure at hf
  simp only [Option.bind_eq_some_iff, Option.map_eq_some_iff] at hf
  obtain ⟨g', h3, d', h4, h5⟩ := hf
  cases h5
  rw [gset_same (gget_some h3)] at q
  exact h2 _ σ F H d r.hx r.sl h4 F H (Ext.refl r.hx) Q fun v F2 H2 e2 rv => q v F2 H2 e2.fz (r.ext e2) rv
theorem evs_op {r : R2} {o : D → D → Option D} (hr : RvV G.K T r o) {ta tb : TE} (va : ∀ s σ d g, f s = some (d, g) → EvSs G.K T own j ta s σ d g) (vb : ∀ s σ d g', g s = some (d, g') → EvSs G.K T own j tb s σ d g') (s : S) (σ : L2.St) (d : D) (g' : List D) (hf : zOp j o f g s = some (d, g')) : EvSs G.K T own j (tOp r ta tb) s σ d g' := by
  intro F0 H0 ga F H rl Q q
  unfold zOp at hf
  simp only [Option.bind_eq_some_iff, Option.map_eq_some_iff] at hf
  obtain ⟨⟨x, g1⟩, h1, ⟨y, g2⟩, h2, z, h3, h4⟩ := hf
  cases h4
  refine va s σ x g1 h1 F0 H0 ga F H rl _ fun v F2 H2 e2 r2 rv => vb _ σ y g2 h2 F0 H0 ga F2 H2 r2 _ fun w F3 H3 e3 r3 rw' => ?_
  rw [gset_gset] at r3
  exact hr v w x y d F3 H3 r3.hx (dv_mono e3 _ _ rv) rw' h3 Q fun u F4 H4 e4 ru => q u F4 H4 ((e2.trans e3).trans e4.fz) (r3.ext e4) ru
theorem ces_op {op : Operator} {r : R2} {o : D → D → Option D} (ho : ∀ i, OpR (G.X i) (binaryOp op) r) (hr : RvV G.K T r o) (ha : CEs G T own j a f) (hb : CEs G T own j b g) : CEs G T own j (.BinOp a op b pos) (zOp j o f g) := by
  obtain ⟨ta, ha, va⟩ := ha
  obtain ⟨tb, hb, vb⟩ := hb
  exact ⟨tOp r ta tb, fun i => pe_op (ho i) (ha i) (hb i), evs_op hr va vb⟩
theorem ces_add (ha : CEs G T own j a f) (hb : CEs G T own j b g) : CEs G T own j (.BinOp a .Add b pos) (zOp j dAdd f g) := ces_op (fun i => OpR.or2 op_add op_cat) rv_add ha hb
theorem ces_sub (ha : CEs G T own j a f) (hb : CEs G T own j b g) : CEs G T own j (.BinOp a .Sub b pos) (zOp j dSub f g) := ces_op (fun i => op_sub) rv_sub ha hb
theorem ces_mul (ha : CEs G T own j a f) (hb : CEs G T own j b g) : CEs G T own j (.BinOp a .Mult b pos) (zOp j dMul f g) := ces_op (fun i => OpR.or2 op_mul op_rep) rv_mul ha hb
theorem ces_mod (ha : CEs G T own j a f) (hb : CEs G T own j b g) : CEs G T own j (.BinOp a .Mod b pos) (zOp j dMod f g) := ces_op (fun i => op_mod) rv_mod ha hb
theorem ces_cmp {op : CmpOp} {r : R2} {o : D → D → Option D} (ho : ∀ i, OpR (G.X i) (compareOp op) r) (hr : RvV G.K T r o) (ha : CEs G T own j a f) (hb : CEs G T own j b g) (hm : behindInMarks op b = false) : CEs G T own j (.Compare a [op] [b] pos) (zOp j o f g) := by
  obtain ⟨ta, ha, va⟩ := ha
  obtain ⟨tb, hb, vb⟩ := hb
  exact ⟨tOp r ta tb, fun i => pe_cmpR (ho i) (ha i) (hb i) hm, evs_op hr va vb⟩
theorem ces_ix (ha : CEs G T own j a f) (hb : CEs G T own j b g) (hs : PlainIx b := by exact fun _ _ => rfl) : CEs G T own j (.Subscript a b pos) (zOp j dIx f g) := by
  obtain ⟨ta, ha, va⟩ := ha
  obtain ⟨tb, hb, vb⟩ := hb
  exact ⟨tOp (rIx G.K) ta tb, fun i => by rw [← G.hK i]; exact pe_ix ix_seq (ha i) (hb i) hs, evs_op rv_ix va vb⟩
theorem cas_nil : CAs G T own j [] (zNil j) := ⟨tNil, fun _ => pa_nil, fun s σ d g hf F0 H0 ga F H r Q q => by
  unfold zNil at hf
  obtain ⟨g', h1, h2⟩ := Option.map_eq_some_iff.mp hf
  cases h2
  rw [gset_same (gget_some h1)] at q
  exact q [] F H (Evl.Ex.refl F) r .nil⟩
theorem cas_cons (ha : CEs G T own j e f) (hr : CAs G T own j es fa) (hst : ∀ i, starEach (e :: es) (G.X i).env = (false, eval e (G.X i).env) :: starEach es (G.X i).env := by intro _; rfl) : CAs G T own j (e :: es) (zCons j f fa) := by
  obtain ⟨ta, ha, va⟩ := ha
  obtain ⟨tr, hr, vr⟩ := hr
  refine ⟨tCons ta tr, fun i => pa_cons (ha i) (hr i) (hst i), fun s σ d g hf F0 H0 ga F H r Q q => ?_⟩
  unfold zCons at hf
  simp only [Option.bind_eq_some_iff, Option.map_eq_some_iff] at hf
  obtain ⟨⟨x, g1⟩, h1, ⟨xs, g2⟩, h2, h3⟩ := hf
  cases h3
  refine va s σ x g1 h1 F0 H0 ga F H r _ fun v F2 H2 e2 r2 rv => vr _ σ xs g2 h2 F0 H0 ga F2 H2 r2 _ fun vs F3 H3 e3 r3 rs => ?_
  rw [gset_gset] at r3
  exact q _ F3 H3 (e2.trans e3) r3 (.cons (dv_mono e3 _ _ rv) rs)
theorem ces_lst (hr : CAs G T own j es fa) : CEs G T own j (.List es pos) (zLst fa) := by
  obtain ⟨tr, hr, vr⟩ := hr
  refine ⟨tLst tr, fun i => pe_lst (hr i), fun s σ d g hf F0 H0 ga F H r Q q => ?_⟩
  unfold zLst at hf
  simp only [Option.bind_eq_some_iff, Option.map_eq_some_iff] at hf
  obtain ⟨⟨xs, g1⟩, h1, z, h2, h3⟩ := hf
  cases h3
  obtain ⟨hz, rfl⟩ := lim_some h2
  exact vr s σ xs g1 h1 F0 H0 ga F H r _ fun vs F2 H2 e2 r2 rs => ⟨by rw [dva_len rs]; exact hz, fun p hp => q _ _ _ (e2.trans (Ext.new r2.hx hp).fz) (r2.ext (Ext.new r2.hx hp)) (new_lst r2.hx hp rs)⟩
theorem ces_tup {x1} (hr : CAs G T own j es fa) : CEs G T own j (.Tuple es x1 pos) (zTup fa) := by
  obtain ⟨tr, hr, vr⟩ := hr
  refine ⟨tTup tr, fun i => pe_tup (hr i), fun s σ d g hf F0 H0 ga F H r Q q => ?_⟩
  unfold zTup at hf
  simp only [Option.bind_eq_some_iff, Option.map_eq_some_iff] at hf
  obtain ⟨⟨xs, g1⟩, h1, z, h2, h3⟩ := hf
  cases h3
  obtain ⟨hz, rfl⟩ := lim_some h2
  exact vr s σ xs g1 h1 F0 H0 ga F H r _ fun vs F2 H2 e2 r2 rs => ⟨by rw [dva_len rs]; exact hz, fun p hp => q _ _ _ (e2.trans (Ext.new r2.hx hp).fz) (r2.ext (Ext.new r2.hx hp)) (new_tup r2.hx hp rs)⟩
theorem ces_cal {x : Str} {ps : List Str} {k : Nat} {m : List D → Option FR} (C : Cal G.P G.w G.K G.mg G.base T x k ps m) (hku : k ≤ G.u) (hx : ∀ i, Passes (L2.CX G.P G.w) (G.X i) E0) (ha : CAs G T own j (e :: es) fa) (hg : ∀ i, Gl (G.X i) x := by intro _; rfl) (hdb : (x == ("__debug__" : Str)) = false := by decide)
    (he : ∀ i, starEach (e :: es) (G.X i).env = (false, eval e (G.X i).env) :: starEach es (G.X i).env := by intro _; rfl) (hpl : ∀ i, (backTo pos (starEach es (G.X i).env)).any (·.1) = false := by intro _; rfl) :
    CEs G T own j (.Call (.Name x p) (e :: es) [] pos) (zCall m fa) := by
  obtain ⟨ad, fd, Fn, hm, hk, hb⟩ := C
  obtain ⟨ta, ha, va⟩ := ha
  refine ⟨tCall (spM G.K T m) [] E0 ta, fun i => pe_call (Fam.fn Fn i) ((G.hr i).mono hku) (hg i) (by rw [G.hm i]; exact hm) (by rw [G.hK i]; exact hk) (by rw [G.hK i]; exact hb) .nil (hx i) (ha i) hdb (he i) (hpl i), fun s σ d g hf F0 H0 ga F H r Q q => ?_⟩
  unfold zCall at hf
  simp only [Option.bind_eq_some_iff, Option.map_eq_some_iff] at hf
  obtain ⟨⟨ds, g1⟩, h1, z, ⟨fr, h2, h3⟩, h4⟩ := hf
  cases h4
  refine va s σ ds g1 h1 F0 H0 ga F H r _ fun vs F2 H2 e2 r2 rs => ?_
  unfold frD at h3
  split at h3
  · cases h3
    exact ⟨F2, ds, _, r2.hx, by rw [List.append_nil]; exact rs, h2, fun v F' H' e3 rv => q v F' H' (e2.trans e3.fz) (r2.ext e3) rv⟩
  · cases h3
/-- f(generator, ..) -/
theorem ces_draw {x y : Str} {ps : List Str} {k : Nat} {m : List D → List D → Option (D × List D)} {py : Pos} (C : CalG G.P G.w G.K G.mg G.base T x k ps m) (hku : k ≤ G.u) (hx : ∀ i, Passes (L2.CX G.P G.w) (G.X i) E0) (ha : CAs G T own j es fa) (hj : j ∈ own := by decide) (hg : ∀ i, Gl (G.X i) x := by intro _; rfl) (hdb : (x == ("__debug__" : Str)) = false := by decide)
    (hN : ∀ i, (G.X i).N[j]? = some y := by intro _; rfl) (hv : ∀ i, Vis (G.X i).env.scope y := by intro _; first | exact Or.inl rfl | exact Or.inr (Or.inl rfl) | exact Or.inr (Or.inr rfl)) (hd : (y == ("__debug__" : Str)) = false := by decide) (hcd : (y == ("__classdict__" : Str)) = false := by decide)
    (he : ∀ i, starEach (.Name y py :: es) (G.X i).env = (false, eval (.Name y py) (G.X i).env) :: starEach es (G.X i).env := by intro _; rfl) (hpl : ∀ i, (backTo pos (starEach es (G.X i).env)).any (·.1) = false := by intro _; rfl) :
    CEs G T own j (.Call (.Name x p) (.Name y py :: es) [] pos) (zDraw j m fa) := by
  obtain ⟨ad, fd, Fn, hm, hk, hb⟩ := C
  obtain ⟨ta, ha, va⟩ := ha
  refine ⟨tCall (spG G.K T m) [] E0 (tCons (tVar j) ta), fun i => pe_call (Fam.fn Fn i) ((G.hr i).mono hku) (hg i) (by rw [G.hm i]; exact hm) (by rw [G.hK i]; exact hk) (by rw [G.hK i]; exact hb) .nil (hx i) (pa_cons (pe_var (hN i) (hv i) hd hcd) (ha i) (he i)) hdb (he i) (hpl i), fun s σ d g hf F0 H0 ga F H r Q q => ?_⟩
  unfold zDraw at hf
  simp only [Option.bind_eq_some_iff] at hf
  obtain ⟨g0, h0, ⟨ds, g1⟩, h1, h2⟩ := hf
  have h0 := gget_some h0
  obtain ⟨ad0, xs0, ds0, k1, k2, k3, k4, k5, k6⟩ := r.ow j _ hj h0
  refine ⟨_, k1, va s σ ds g1 h1 F0 H0 ga F H r _ fun vs F2 H2 e2 r2 rs => ?_⟩
  have hs2 : (gset j s g1)[j]? = some (some (.lst g1)) := by unfold gset; rw [List.getElem?_set_self (lt_of_some h0)]
  obtain ⟨ad1, xs1, ds1, l1, l2, l3, l4, l5, l6⟩ := r2.ow j _ hj hs2
  rw [k1] at l1
  cases l1
  cases l2
  refine ⟨F2, ad0, xs1, g1, vs, ds, d, g, by rw [List.append_nil], r2.hx, l3, l5, l6, rs, h2, fun v F' H' xs' e3 hF hH hd rv => ?_⟩
  have r3 := r2.inout hj hs2 k1 e3 hF hH hd
  rw [gset_gset] at r3
  exact q v F' H' (e2.trans e3.fz) r3 rv

/-! tests, walks -/
def zBl (f : XS) : S → Option (Bool × List D) := fun s => (f s).bind fun x => match x.1 with | .bl k => some (k, x.2) | _ => none
def CTz (G : Fam) (T : CT) (own : List Nat) (j : Nat) (e : Expr) (f : S → Option (Bool × List D)) : Prop := ∃ te : TT, (∀ i, PT (G.X i) e te) ∧ ∀ s σ k g, f s = some (k, g) → ∀ F0 H0 ga F H, Rel G.K T F0 H0 ga own F H s σ → ∀ Q : Bool → Hp → Prop, (∀ F2 H2, Ex F F2 → Rel G.K T F0 H0 ga own F2 H2 (gset j s g) σ → Q k H2) → te σ H Q
theorem ctz_cmp {op : CmpOp} {r : R2} {o : D → D → Option D} (ho : ∀ i, OpR (G.X i) (compareOp op) r) (hr : RvV G.K T r o) (ha : CEs G T own j a f) (hb : CEs G T own j b g) (hm : behindInMarks op b = false) : CTz G T own j (.Compare a [op] [b] pos) (zBl (zOp j o f g)) := by
  obtain ⟨ta, ha, va⟩ := ha
  obtain ⟨tb, hb, vb⟩ := hb
  refine ⟨tTest (tOp r ta tb), fun i => pt_cmpR (ho i) (ha i) (hb i) hm, fun s σ k g' hf F0 H0 ga F H rl Q q => ?_⟩
  unfold zBl at hf
  obtain ⟨⟨z, g2⟩, h1, h2⟩ := Option.bind_eq_some_iff.mp hf
  dsimp only at h2
  split at h2
  · cases h2
    exact evs_op hr va vb s σ _ _ h1 F0 H0 ga F H rl _ fun v F2 H2 e2 r2 rv => ⟨_, dv_bl rv, q F2 H2 e2 r2⟩
  · cases h2
/-- range(e), e drawn -/
def zRng1 (r : XSA) : S → Option (List D × List D) := fun s => (r s).bind fun x => (dRng1 x.1).map fun ds => (ds, x.2)
def CIz (G : Fam) (T : CT) (own : List Nat) (j : Nat) (tg e : Expr) (f : S → Option (List D × List D)) : Prop := ∃ wi : TI, (∀ i, PI (G.X i) tg e wi) ∧ ∀ s σ ds g, f s = some (ds, g) → ∀ F0 H0 ga F H, Rel G.K T F0 H0 ga own F H s σ → ∀ R : It → Hp → Prop, (∀ J F2 H2, Ex F F2 → Rel G.K T F0 H0 ga own F2 H2 (gset j s g) σ → WalkD G.K T J F2 ds → R J H2) → wi σ H R
theorem ciz_rng1 {tg : Expr} (ha : CAs G T own j [a] fa) (hm : G.mg "range" = none) (hg : ∀ i, Gl (G.X i) "range" := by intro _; rfl) (hst : ∀ i, starEach [a] (G.X i).env = [(false, eval a (G.X i).env)] := by intro _; rfl) : CIz G T own j tg (.Call (.Name "range" p) [a] [] pos) (zRng1 fa) := by
  obtain ⟨ta, ha, va⟩ := ha
  refine ⟨iRng1 ta, fun i => pi_range1 (hg i) (by rw [G.hm i]; exact hm) (ha i) (hst i), fun s σ ds g hf F0 H0 ga F H r R q => ?_⟩
  unfold zRng1 at hf
  simp only [Option.bind_eq_some_iff, Option.map_eq_some_iff] at hf
  obtain ⟨⟨x, g1⟩, h1, z, h2, h3⟩ := hf
  cases h3
  dsimp only at h2
  refine va s σ x g1 h1 F0 H0 ga F H r _ fun vs F2 H2 e2 r2 rs => ?_
  unfold dRng1 at h2
  split at h2
  · split at h2
    · rename_i hc
      cases h2
      obtain ⟨v, rfl, rv⟩ := dva1 rs
      exact ⟨_, by rw [dv_int rv], by omega, by omega, q _ F2 H2 e2 r2 walkD_rng⟩
    · cases h2
  · cases h2
theorem ciz_pure {tg : Expr} {fi : XA} (hi : CI G T tg e fi) : CIz G T own j tg e (fun s => (gget j s).bind fun g => (fi (wipeS s own)).map fun ds => (ds, g)) := by
  obtain ⟨wi, h1, h2⟩ := hi
  refine ⟨wi, h1, fun s σ ds g hf F0 H0 ga F H r R q => ?_⟩
  simp only [Option.bind_eq_some_iff, Option.map_eq_some_iff] at hf
  obtain ⟨g', h3, d', h4, h5⟩ := hf
  cases h5
  rw [gset_same (gget_some h3)] at q
  exact h2 _ σ F H ds r.hx r.sl h4 F H (Ext.refl r.hx) R fun J F2 H2 e2 wk => q J F2 H2 e2.fz (r.ext e2) wk

end
section
variable {K : PySem.W.Frag} {T : CT} {F0 H0 F H : Hp} {ga : Nat → Option Addr} {own oth vs : List Nat} {j : Nat} {s : S} {σ : L2.St} {ad : Addr} {g0 : List D}
theorem wipeS_get (s : S) : ∀ (vs : List Nat) (k : Nat), k ∉ vs → (wipeS s vs)[k]? = s[k]?
  | [], k, _ => rfl
  | v :: vs, k, h => by
    unfold wipeS
    rw [List.getElem?_set_ne (by rintro rfl; exact h List.mem_cons_self), wipeS_get s vs k fun q => h (List.mem_cons_of_mem _ q)]
theorem wipe_get' (σ : L2.St) (vs : List Nat) (k : Nat) (h : k ∉ vs) : (L2.wipe σ vs)[k]? = σ[k]? := by rw [wipe_get, if_neg h]
/-- all but the slot j is a frame -/
theorem Rel.frame (r : Rel K T F0 H0 ga own F H s σ) (hj : j ∈ own) (hjo : j ∉ oth) (h1 : ∀ i ∈ own, i = j ∨ i ∈ oth) (h2 : ∀ i ∈ oth, i ∈ own) (hs : s[j]? = some (some (.lst g0))) (hg : σ[j]? = some (some (.ref ad))) :
    Rel K T F (del H ad) ga [j] F H (wipeS s oth) σ ∧ ∀ F2 H2 g', Rel K T F (del H ad) ga [j] F2 H2 (gset j (wipeS s oth) g') σ → Rel K T F0 H0 ga own F2 H2 (gset j s g') σ := by
  obtain ⟨a, xs, ds, e1, e2, h3, h0, h4, h5⟩ := r.ow j _ hj hs
  rw [hg] at e1
  cases e1
  have hjw : (wipeS s oth)[j]? = s[j]? := wipeS_get s oth j hjo
  refine ⟨⟨r.hx, ⟨Evl.Ex.refl F, r.hx, fun p o h6 h7 => ?_⟩, by rw [wipeS_length, r.len], fun i d hi hd => ?_, fun i d hi hd => ?_, fun i k a d e' hi hk hne => ?_, fun i a hi hga => ?_⟩, fun F2 H2 g' r' => ⟨r'.hx, ⟨r.e0.fz.trans r'.e0.fz, r'.hx, fun p o h6 h7 => ?_⟩, ?_, fun i d hi hd => ?_, fun i d hi hd => ?_, fun i k a d e' hi hk hne hd1 hd2 h6 h7 => ?_, r.ga_⟩⟩
  · by_cases hp : p = ad
    · rw [hp, del_same] at h7; cases h7
    · rw [del_ne hp] at h7; exact ⟨h6, h7⟩
  · obtain ⟨hd', hio⟩ := wipeS_some hd
    by_cases hio2 : i ∈ own
    · rcases h1 i hio2 with e | e
      · exact absurd (by simp [e]) hi
      · exact absurd e hio
    · exact r.sh i d hio2 hd'
  · have e : i = j := by simpa using hi
    subst e
    rw [hjw] at hd
    obtain ⟨b, ys, es, g1, g2, g3, g4, g5, g6⟩ := r.ow i d hj hd
    rw [hg] at g1
    cases g1
    exact ⟨ad, ys, es, hg, g2, g3, del_same, g5, g6⟩
  · have a1 : i = j := by simpa using hi
    have a2 : k = j := by simpa using hk
    exact absurd (a1.trans a2.symm) hne
  · have e : i = j := by simpa using hi
    subst e
    exact r.ga_ i a hj hga
  · obtain ⟨h8, h9⟩ := r.e0.own p o h6 h7
    exact r'.e0.own p o h8 (by rw [del_ne (ne_of_none h7 h0)]; exact h9)
  · have := r'.len
    unfold gset at this ⊢
    rw [List.length_set, wipeS_length] at this
    rw [List.length_set]
    exact this
  · have hij : j ≠ i := fun e => hi (e ▸ hj)
    have hio : i ∉ oth := fun q => hi (h2 i q)
    unfold gset at hd
    rw [List.getElem?_set_ne hij] at hd
    refine r'.sh i d (by simpa using fun e => hij e.symm) ?_
    unfold gset
    rw [List.getElem?_set_ne hij, wipeS_get s oth i hio]
    exact hd
  · by_cases e : i = j
    · subst e
      refine (r'.ow i d (by simp) ?_).elim fun b z => ?_
      · unfold gset at hd ⊢
        rw [List.getElem?_set_self (lt_of_some hs)] at hd
        rw [List.getElem?_set_self (by rw [wipeS_length]; exact lt_of_some hs)]
        exact hd
      · obtain ⟨ys, es, g1, g2, g3, g4, g5, g6⟩ := z
        rw [hg] at g1
        cases g1
        exact ⟨ad, ys, es, hg, g2, g3, h0, g5, g6⟩
    · unfold gset at hd
      rw [List.getElem?_set_ne (fun q => e q.symm)] at hd
      obtain ⟨b, ys, es, g1, g2, g3, g4, g5, g6⟩ := r.ow i d hi hd
      have hne : b ≠ ad := fun z => r.dj i j ad d _ hi hj e hd hs (z ▸ g1) hg
      obtain ⟨k1, k2⟩ := r'.e0.own b _ g3 (by rw [del_ne hne]; exact g5)
      exact ⟨b, ys, es, g1, g2, k1, g4, k2, dva_mono r'.e0.fz _ _ g6⟩
  · have up : ∀ m z, (gset j s g')[m]? = some (some z) → ∃ z', s[m]? = some (some z') := fun m z hm => by
      unfold gset at hm
      by_cases q : j = m
      · subst q; exact ⟨_, hs⟩
      · rw [List.getElem?_set_ne q] at hm; exact ⟨z, hm⟩
    obtain ⟨x', h8⟩ := up i d hd1
    obtain ⟨y', h9⟩ := up k e' hd2
    exact r.dj i k a x' y' hi hk hne h8 h9 h6 h7
theorem Rel.wipe1 (r : Rel K T F0 H0 ga [j] F H s σ) (hj : j ∉ vs) : Rel K T F0 H0 ga [j] F H (wipeS s vs) (L2.wipe σ vs) := by
  refine ⟨r.hx, r.e0, by rw [wipeS_length, wipe_length, r.len], fun i d hi hd => ?_, fun i d hi hd => ?_, fun i k a d e' hi hk hne => ?_, fun i a hi hga => ?_⟩
  · obtain ⟨hd', hio⟩ := wipeS_some hd
    rw [wipe_get' σ vs i hio]
    exact r.sh i d hi hd'
  · obtain ⟨hd', hio⟩ := wipeS_some hd
    rw [wipe_get' σ vs i hio]
    exact r.ow i d hi hd'
  · have a1 : i = j := by simpa using hi
    have a2 : k = j := by simpa using hk
    exact absurd (a1.trans a2.symm) hne
  · have e : i = j := by simpa using hi
    rw [wipe_get' σ vs i (e ▸ hj)]
    exact r.ga_ i a hi hga
/-- behind a turn: the slots as they were, the generator as it is now -/
theorem Rel.back {F2 H2 F5 H5 : Hp} {s1 : S} {σ2 : L2.St} {g2 : List D} (r0 : Rel K T F0 H0 ga [j] F2 H2 s σ) (hs : ∃ d, s[j]? = some (some d)) (r5 : Rel K T F0 H0 ga [j] F5 H5 (gset j s1 g2) σ2) (hs1 : ∃ d, s1[j]? = some (some d)) (e : Ex F2 F5) (hσ : σ2[j]? = σ[j]?) : Rel K T F0 H0 ga [j] F5 H5 (gset j s g2) σ := by
  refine ⟨r5.hx, r5.e0, by unfold gset; rw [List.length_set, r0.len], fun i d hi hd => ?_, fun i d hi hd => ?_, fun i k a d e' hi hk hne => ?_, r0.ga_⟩
  · have hij : j ≠ i := fun q => hi (by simp [q])
    unfold gset at hd
    rw [List.getElem?_set_ne hij] at hd
    obtain ⟨v, h1, h2⟩ := r0.sh i d hi hd
    exact ⟨v, h1, dv_mono e _ _ h2⟩
  · have q : i = j := by simpa using hi
    subst q
    obtain ⟨d0, hs⟩ := hs
    obtain ⟨d1, hs1⟩ := hs1
    unfold gset at hd
    rw [List.getElem?_set_self (lt_of_some hs)] at hd
    rw [← hσ]
    refine r5.ow i d hi ?_
    unfold gset
    rw [List.getElem?_set_self (lt_of_some hs1)]
    exact hd
  · have a1 : i = j := by simpa using hi
    have a2 : k = j := by simpa using hk
    exact absurd (a1.trans a2.symm) hne
theorem Rel.addF {p : Addr} {o : HO} (r : Rel K T F0 H0 ga own F H s σ) (hF : F p = none) (h0 : H0 p = none) (hH : H p = some o) (hn : ∀ i a d, i ∈ own → s[i]? = some (some d) → σ[i]? = some (some (.ref a)) → a ≠ p) : Rel K T F0 H0 ga own (upd F p o) H s σ := by
  have ef : Ex F (upd F p o) := Evl.Ex.new hF
  have hx : Ex (upd F p o) H := fun a u ha => by
    by_cases q : a = p
    · subst q; rw [upd_same] at ha; cases ha; exact hH
    · rw [upd_ne q] at ha; exact r.hx a u ha
  refine ⟨hx, ⟨r.e0.fz.trans ef, hx, fun q u h1 h2 => ?_⟩, r.len, fun i d hi hd => ?_, fun i d hi hd => ?_, r.dj, r.ga_⟩
  · obtain ⟨h3, h4⟩ := r.e0.own q u h1 h2
    exact ⟨by rw [upd_ne (ne_of_none h2 h0)]; exact h3, h4⟩
  · obtain ⟨v, h1, h2⟩ := r.sh i d hi hd
    exact ⟨v, h1, dv_mono ef _ _ h2⟩
  · obtain ⟨b, ys, es, g1, g2, g3, g4, g5, g6⟩ := r.ow i d hi hd
    exact ⟨b, ys, es, g1, g2, by rw [upd_ne (hn i b d hi hd g1)]; exact g3, g4, g5, dva_mono ef _ _ g6⟩
end

section
variable {K : PySem.W.Frag} {T : CT} {F0 H0 F H : Hp} {ga : Nat → Option Addr} {j : Nat} {s : S} {σ : L2.St} {ad p : Addr}
theorem wipeS_gset {g : List D} : ∀ {oth : List Nat}, j ∉ oth → wipeS (gset j s g) oth = gset j (wipeS s oth) g
  | [], _ => rfl
  | v :: vs, h => by
    have h1 : j ≠ v := fun e => h (by rw [e]; exact List.mem_cons_self)
    unfold wipeS
    rw [wipeS_gset (fun q => h (List.mem_cons_of_mem _ q))]
    unfold gset
    rw [List.set_comm _ _ h1]
theorem Rel.upd1 {o : HO} (r : Rel K T F0 H0 ga [j] F H s σ) (hF : F p = none) (h0 : H0 p = none) (hg : σ[j]? = some (some (.ref ad))) (hp : p ≠ ad) : Rel K T F0 H0 ga [j] F (upd H p o) s σ := by
  refine ⟨fun a u ha => by rw [upd_ne (ne_of_none ha hF)]; exact r.hx a u ha, ⟨r.e0.fz, fun a u ha => by rw [upd_ne (ne_of_none ha hF)]; exact r.hx a u ha, fun q u h1 h2 => ?_⟩, r.len, r.sh, fun i d hi hd => ?_, r.dj, r.ga_⟩
  · obtain ⟨h3, h4⟩ := r.e0.own q u h1 h2
    exact ⟨h3, by rw [upd_ne (ne_of_none h2 h0)]; exact h4⟩
  · obtain ⟨b, ys, es, g1, g2, g3, g4, g5, g6⟩ := r.ow i d hi hd
    have e : i = j := by simpa using hi
    subst e
    rw [hg] at g1
    cases g1
    exact ⟨ad, ys, es, hg, g2, g3, g4, by rw [upd_ne (fun q => hp q.symm)]; exact g5, g6⟩
end

/-! a comprehension that draws -/
def CGZ (G : Fam) (T : CT) (j : Nat) (vs : List Nat) (tg : Expr) (bind : D → S → Option S) : Prop := ∃ gt : TG, (∀ i, PG (G.X i) tg gt) ∧
  ∀ F0 H0 ga s s' σ F H d v, Rel G.K T F0 H0 ga [j] F H s σ → Dv G.K T F v d → bind d s = some s' → ∀ Q : L2.St → Hp → Prop, (∀ σ', Rel G.K T F0 H0 ga [j] F H s' σ' → L2.wipe σ' vs = L2.wipe σ vs → σ'[j]? = σ[j]? → s'[j]? = s[j]? → Q σ' H) → gt v σ H Q
def compZ (j : Nat) (bind : D → S → Option S) (vs : List Nat) (elt : XS) (s : S) : List D → List D → Option (List D × List D)
  | [], g => some ([], g)
  | d :: ds, g => (bind d (wipeS (gset j s g) vs)).bind fun s1 => (elt s1).bind fun y => (compZ j bind vs elt s ds y.2).map fun r => (y.1 :: r.1, r.2)
def zComp (j : Nat) (oth : List Nat) (it : S → Option (List D × List D)) (bind : D → S → Option S) (vs : List Nat) (elt : XS) : XS := fun s => (gget j s).bind fun _ => (it s).bind fun x => (compZ j bind vs elt (wipeS s oth) x.1 x.2).bind fun r => (lim x.1.length (.lst r.1)).map fun d => (d, r.2)
section
variable {G : Fam} {T : CT} {own : List Nat} {j : Nat} {tg iter elt : Expr} {f : XS} {scope : Scope} {pos p1 p2 : Pos} {it : S → Option (List D × List D)} {bind : D → S → Option S}
theorem cgz_name (k : Nat) {vs : List Nat} {x : Str} (hNd : ∀ i, (G.X i).N.Nodup) (hN : ∀ i, (G.X i).N[k]? = some x := by intro _; rfl) (hx : ∀ i, Loc (G.X i).env.scope x := by intro _; first | exact Or.inl rfl | exact Or.inr rfl)
    (hf : ∀ i, (G.X i).fn x = true ∨ (G.X i).env.scope.names.lookup x = some .local := by intro _; first | exact .inl rfl | exact .inr rfl) (hk : k ∈ vs := by decide) (hkj : k ≠ j := by decide) : CGZ G T j vs (.Name x pos) (bName k) :=
  ⟨gName k, fun i => pg_name (hNd i) (hN i) (hx i) (hf i), fun F0 H0 ga s s' σ F H d v r rv hb Q q => by
    cases hb
    exact q _ (r.set (by simpa using hkj) rv) (wipe_set hk) (List.getElem?_set_ne hkj) (List.getElem?_set_ne hkj)⟩
theorem tLc_evsN {wi : TI} {gt : TG} {te : TE} {vs oth : List Nat}
    (vi : ∀ s σ ds g, it s = some (ds, g) → ∀ F0 H0 ga F H, Rel G.K T F0 H0 ga own F H s σ → ∀ R : It → Hp → Prop, (∀ J F2 H2, Ex F F2 → Rel G.K T F0 H0 ga own F2 H2 (gset j s g) σ → WalkD G.K T J F2 ds → R J H2) → wi σ H R)
    (vg : ∀ F0 H0 ga s s' σ F H d v, Rel G.K T F0 H0 ga [j] F H s σ → Dv G.K T F v d → bind d s = some s' → ∀ Q : L2.St → Hp → Prop, (∀ σ', Rel G.K T F0 H0 ga [j] F H s' σ' → L2.wipe σ' vs = L2.wipe σ vs → σ'[j]? = σ[j]? → s'[j]? = s[j]? → Q σ' H) → gt v σ H Q)
    (ve : ∀ s σ d g, f s = some (d, g) → EvSs G.K T [j] j te s σ d g) (hj : j ∈ own) (hjo : j ∉ oth) (h1 : ∀ i ∈ own, i = j ∨ i ∈ oth) (h2 : ∀ i ∈ oth, i ∈ own) (hjv : j ∉ vs)
    (s : S) (σ : L2.St) (d : D) (g : List D) (hf : zComp j oth it bind vs f s = some (d, g)) (F0 H0 : Hp) (ga : Nat → Option Addr) (F H : Hp) (r : Rel G.K T F0 H0 ga own F H s σ) (Q : VK)
    (q : ∀ p xs rs F2 H2, d = .lst rs → Ex F F2 → Rel G.K T F0 H0 ga own F2 H2 (gset j s g) σ → F2 p = none → H0 p = none → H2 p = some (.lst xs) → DvA G.K T F2 xs rs → (∀ i a d, i ∈ own → (gset j s g)[i]? = some (some d) → σ[i]? = some (some (.ref a)) → a ≠ p) → Q (.ref p) H2) : tLc wi gt tYes te vs σ H Q := by
  unfold zComp at hf
  simp only [Option.bind_eq_some_iff, Option.map_eq_some_iff] at hf
  obtain ⟨g0, e0, ⟨ds, g1⟩, e1, ⟨rs, g2⟩, e2, d', e3, e4⟩ := hf
  have e0 := gget_some e0
  cases e4
  dsimp only at e2 e3
  have hz : ds.length ≤ 100000 ∧ D.lst rs = d := by
    unfold lim at e3
    split at e3
    · exact ⟨by assumption, Option.some.inj e3⟩
    · cases e3
  obtain ⟨hz, rfl⟩ := hz
  refine vi s σ ds g1 e1 F0 H0 ga F H r _ fun J F2 H2 ef2 r2 wk => ?_
  intro Dl hD
  obtain ⟨w1, w2, w3⟩ := wk
  have hFD : F2 Dl = none := free0 r2.hx hD
  have hs2 : (gset j s g1)[j]? = some (some (.lst g1)) := by unfold gset; rw [List.getElem?_set_self (lt_of_some e0)]
  obtain ⟨ad, xs0, ds0, k1, k2, k3, k4, k5, k6⟩ := r2.ow j _ hj hs2
  have hDad : Dl ≠ ad := fun q => by rw [q, k5] at hD; cases hD
  have h0D : H0 Dl = none := by
    cases hq : H0 Dl with
    | none => rfl
    | some o =>
      cases hf : F0 Dl with
      | none => rw [(r2.e0.own Dl o hf hq).2] at hD; cases hD
      | some u => rw [r2.e0.fz Dl u hf] at hFD; cases hFD
  obtain ⟨rf, rb⟩ := r2.frame hj hjo h1 h2 hs2 k1
  rw [wipeS_gset hjo] at rf rb
  have hjs : ∀ gg, (gset j (wipeS s oth) gg)[j]? = some (some (.lst gg)) := fun gg => by unfold gset; rw [List.getElem?_set_self (by rw [wipeS_length]; exact lt_of_some e0)]
  let Pv : Nat → Hp → Prop := fun i H => ∃ (F' : Hp) (acc : List V) (r1 : List D) (g : List D), Ex F2 F' ∧ Rel G.K T F2 (del H2 ad) ga [j] F' H (gset j (wipeS s oth) g) σ ∧ F' Dl = none ∧ H Dl = some (.lst acc) ∧ DvA G.K T F' acc r1 ∧ r1.length ≤ i ∧
    (compZ j bind (vs) f (wipeS s oth) (ds.drop i) g).map (fun x => (r1 ++ x.1, x.2)) = some (rs, g2)
  refine ⟨fun i m H => m = ds.length - i ∧ i ≤ ds.length ∧ Pv i H, ⟨ds.length, by simp, Nat.zero_le _, F2, [], [], g1, Evl.Ex.refl F2, rf.ext (Ext.mine rf.hx hD), hFD, upd_same, .nil, Nat.le_refl _, by rw [List.drop_zero, e2]; rfl⟩, ?_⟩
  rintro i m H3 ⟨rfl, hle, F', acc, r1, gi, f1, r', f3, f4, f5, f6, f7⟩
  by_cases hlt : i < ds.length
  · refine .inr ⟨w1 i H3 hlt (f1.trans r'.hx), Pv (i + 1), fun H' p' => ⟨ds.length - (i + 1), by omega, rfl, hlt, p'⟩, fun x H' y => ?_⟩
    obtain ⟨F3, d, ee, hd, rx⟩ := w3 i F' H3 x H' hlt f1 r'.hx y
    rw [take_succ_drop ds i d hd] at f7
    obtain ⟨z, f7, f9⟩ := Option.map_eq_some_iff.mp f7
    rw [compZ] at f7
    obtain ⟨s1, b1, f7⟩ := Option.bind_eq_some_iff.mp f7
    obtain ⟨⟨y1, gn⟩, b2, f7⟩ := Option.bind_eq_some_iff.mp f7
    obtain ⟨⟨zr, zg⟩, b3, b4⟩ := Option.map_eq_some_iff.mp f7
    cases b4
    have r3 := r'.ext ee
    obtain ⟨o1, o2⟩ := ee.own Dl _ f3 f4
    have r4 := r3.wipe1 hjv
    have hwj : (wipeS (gset j (wipeS s oth) gi) (vs))[j]? = some (some (.lst gi)) := by rw [wipeS_get _ _ _ hjv]; exact hjs gi
    have hσw : (L2.wipe σ (vs))[j]? = some (some (.ref ad)) := by rw [wipe_get' _ _ _ hjv]; exact k1
    obtain ⟨rf2, _⟩ := r4.frame (own := [j]) (oth := []) (by simp) (by simp) (by simp) (by simp) hwj hσw
    obtain ⟨rf3, rb3⟩ := r3.frame (own := [j]) (oth := []) (by simp) (by simp) (by simp) (by simp) (hjs gi) k1
    refine vg F3 (del H' ad) ga _ s1 _ F3 H' d x rf2 rx b1 _ fun σ2 r5 hw hσ2 hs1 => ⟨?_, ?_⟩
    · rw [hw]
      apply List.ext_getElem?
      intro k
      rw [wipe_get, wipe_get]
      by_cases hk : k ∈ vs
      · rw [if_pos hk, if_pos hk]; cases σ[k]? <;> rfl
      · rw [if_neg hk, if_neg hk]
    · simp only [tYes, if_true]
      refine ve s1 σ2 y1 gn b2 F3 (del H' ad) ga F3 H' r5 _ fun v F5 H5 e5 r6 rv => ?_
      obtain ⟨o3, o4⟩ := r6.e0.own Dl _ o1 (by rw [del_ne hDad]; exact o2)
      have r7 := Rel.back rf3 ⟨_, hjs gi⟩ r6 ⟨_, by rw [hs1]; exact hwj⟩ e5 (by rw [hσ2, hσw, k1])
      have r8 := rb3 F5 H5 gn r7
      change Rel G.K T F2 (del H2 ad) ga [j] F5 H5 (gset j (gset j (wipeS s oth) gi) gn) σ at r8
      rw [gset_gset] at r8
      have hacc : acc.length = r1.length := dva_len f5
      refine ⟨acc, o4, Evl.sz_lt (by omega), F5, acc ++ [v], r1 ++ [y1], gn, (f1.trans ee.fz).trans e5, r8.upd1 o3 (by rw [del_ne hDad]; exact hD) k1 hDad, o3, upd_same, dva_app (dva_mono (ee.fz.trans e5) _ _ f5) (.cons rv .nil), ?_, ?_⟩
      · rw [List.length_append]; simp only [List.length_cons, List.length_nil]; omega
      · rw [b3, ← f9]
        simp only [Option.map_some, List.append_assoc, List.singleton_append]
  · have e : i = ds.length := by omega
    subst e
    rw [List.drop_length, compZ] at f7
    simp only [Option.map_some, List.append_nil, Option.some.injEq, Prod.mk.injEq] at f7
    obtain ⟨rfl, rfl⟩ := f7
    have r9 := rb F' H3 gi (by rw [gset_gset]; exact r')
    rw [gset_gset] at r9
    refine .inl ⟨w2 H3 (f1.trans r'.hx), q Dl acc _ F' H3 rfl (ef2.trans f1) r9 f3 h0D f4 f5 fun i a d hi hd ha => ?_⟩
    have live : ∃ z, (gset j s g1)[i]? = some (some z) := by
      unfold gset at hd ⊢
      by_cases q : j = i
      · subst q; exact ⟨_, List.getElem?_set_self (lt_of_some e0)⟩
      · rw [List.getElem?_set_ne q] at hd ⊢; exact ⟨d, hd⟩
    obtain ⟨z, hz'⟩ := live
    obtain ⟨b, ys, es, q1, q2, q3, q4, q5, q6⟩ := r2.ow i z hi hz'
    rw [ha] at q1
    cases q1
    exact ne_of_none q5 hD
theorem ces_comp (N0 : List Str) (sc0 : Scope) (ownc : List (Str × Nat)) (oth : List Nat) (hi : CIz G T own j tg iter it) (hg : CGZ (G.blk scope) T j (ownc.map (·.2)) tg bind) (he : CEs (G.blk scope) T [j] j elt f) (hj : j ∈ own := by decide) (hjo : j ∉ oth := by decide) (h1 : ∀ i ∈ own, i = j ∨ i ∈ oth := by decide) (h2 : ∀ i ∈ oth, i ∈ own := by decide) (hjv : j ∉ ownc.map (·.2) := by decide)
    (hbl : blkC N0 sc0 scope ownc = true := by decide +kernel) (hNd : ∀ i, (G.X i).N.Nodup) (hN0 : ∀ i, (G.X i).N = N0 := by intro _; rfl) (hsc : ∀ i, (G.X i).env.scope = sc0 := by intro _; rfl)
    (hfs : ∀ i x, foldedSetIterable iter (G.X i).env x = pure x := by intro _ _; rfl) : CEs G T own j (.ListComp elt [⟨tg, iter, [], 0⟩] scope pos) (zComp j oth it bind (ownc.map (·.2)) f) := by
  obtain ⟨wi, hi, vi⟩ := hi
  obtain ⟨gt, hg, vg⟩ := hg
  obtain ⟨te, he, ve⟩ := he
  refine ⟨tLc wi gt tYes te (ownc.map (·.2)), fun i => pe_lc (G.hc i) (hNd i) (hi i) (by rw [hN0 i, hsc i]; exact blkOk_by hbl) (fun s H C cl fp => hg ⟨i, s, H, C, cl, fp⟩) (fun s H C cl fp => pts_nil) (fun s H C cl fp => he ⟨i, s, H, C, cl, fp⟩) (hfs i), fun s σ d g hf F0 H0 ga F H r Q q => ?_⟩
  exact tLc_evsN vi vg ve hj hjo h1 h2 hjv s σ d g hf F0 H0 ga F H r Q fun p xs rs F2 H2 ed e2 r2 n2 n0 hH hd hn => by
    subst ed
    exact q _ _ H2 (e2.trans (Evl.Ex.new n2)) (r2.addF n2 n0 hH hn) (.lst upd_same (dva_mono (Evl.Ex.new n2) _ _ hd))
end
end Mr

set_option Elab.async false
set_option linter.all false
set_option maxRecDepth 100000
set_option maxHeartbeats 2000000
/-! statements and defs that draw -/
namespace Mr
open PySem PySem.Spec PyProof.Rows L2
open Evl (Ex)
def sSetZ (j k : Nat) (f : XS) : S → Option Out := fun s => (f s).map fun x => .nx ((gset j s x.2).set k (some x.1))
def sRetZ (j : Nat) (f : XS) : S → Option Out := fun s => (f s).map fun x => .rt x.1 (gset j s x.2)
def sIfZ (j : Nat) (t : S → Option (Bool × List D)) (g1 g2 : S → Option Out) : S → Option Out := fun s => (t s).bind fun x => if x.1 then g1 (gset j s x.2) else g2 (gset j s x.2)
def sForZ (j : Nat) (it : S → Option (List D × List D)) (bind : D → S → Option S) (b : S → Option Out) : S → Option Out := fun s => (it s).bind fun x => forM bind b x.1 (gset j s x.2)
section
variable {G : Fam} {T : CT} {E : XK} {gs own oth : List Nat} {j : Nat} {e a b c tg iter elt : Expr} {es : List Expr} {sts sts2 : List Stmt} {g1 g2 g : S → Option Out} {f : XS} {p pos p2 : Pos} {it : S → Option (List D × List D)} {bind : D → S → Option S} {t : S → Option (Bool × List D)} {scope : Scope}
theorem cs_setZ (k : Nat) {x : Str} {px : Pos} (he : CEs G T own j e f) (hNd : ∀ i, (G.X i).N.Nodup) (hk : k ∉ own := by decide) (hN : ∀ i, (G.X i).N[k]? = some x := by intro _; rfl) (hx : ∀ i, Loc (G.X i).env.scope x := by intro _; first | exact Or.inl rfl | exact Or.inr rfl)
    (hs : ∀ i, swapsWith e (some (.Name x px)) pos.line (G.X i).env = pure false := by intro _; rfl) (hf : ∀ i, (G.X i).fn x = true ∨ (G.X i).env.scope.names.lookup x = some .local := by intro _; first | exact .inl rfl | exact .inr rfl) : CS G T E gs own (.Assign [.Name x px] e pos) (sSetZ j k f) := by
  obtain ⟨te, h1, h2⟩ := he
  refine ⟨tAsg te (gName k), fun i => ps_set (hNd i) (hN i) (hx i) (h1 i) (hs i) (hf i), fun F0 H0 ga s σ F H o Dn hga r hg hp => ?_⟩
  unfold sSetZ at hg
  obtain ⟨⟨d, gn⟩, h3, rfl⟩ := Option.map_eq_some_iff.mp hg
  exact h2 s σ d gn h3 F0 H0 ga F H r _ fun v F2 H2 e2 r2 rv => hp F2 H2 _ e2 (r2.set hk rv)
/-- x = [.. drawn ..], x a local -/
theorem cs_setZLc (k : Nat) {x : Str} {px : Pos} {cpos : Pos} (N0 : List Str) (sc0 : Scope) (ownc : List (Str × Nat)) (oth : List Nat) (hi : CIz G T own j tg iter it) (hg : CGZ (G.blk scope) T j (ownc.map (·.2)) tg bind) (he : CEs (G.blk scope) T [j] j elt f) (hNd : ∀ i, (G.X i).N.Nodup)
    (hk : k ∉ own := by decide) (hN : ∀ i, (G.X i).N[k]? = some x := by intro _; rfl) (hx : ∀ i, (G.X i).env.scope.names.lookup x = some .local := by intro _; rfl) (hj : j ∈ own := by decide) (hjo : j ∉ oth := by decide) (h1 : ∀ i ∈ own, i = j ∨ i ∈ oth := by decide) (h2 : ∀ i ∈ oth, i ∈ own := by decide) (hjv : j ∉ ownc.map (·.2) := by decide)
    (hbl : blkC N0 sc0 scope ownc = true := by decide +kernel) (hN0 : ∀ i, (G.X i).N = N0 := by intro _; rfl) (hsc : ∀ i, (G.X i).env.scope = sc0 := by intro _; rfl)
    (hfs : ∀ i x, foldedSetIterable iter (G.X i).env x = pure x := by intro _ _; rfl)
    (hsw : ∀ i, swapsWith (.ListComp elt [⟨tg, iter, [], 0⟩] scope cpos) (some (.Name x px)) pos.line (G.X i).env = pure true := by intro _; exact sw_true rfl rfl rfl (by decide +kernel)) :
    CS G T E gs own (.Assign [.Name x px] (.ListComp elt [⟨tg, iter, [], 0⟩] scope cpos) pos) (sSetZ j k (zComp j oth it bind (ownc.map (·.2)) f)) := by
  obtain ⟨wi, hi, vi⟩ := hi
  obtain ⟨gt, hg, vg⟩ := hg
  obtain ⟨te, he, ve⟩ := he
  refine ⟨tAsg (tLc wi gt tYes te (ownc.map (·.2))) (gName k), fun i => ps_setLc (G.hc i) (hNd i) (hN i) (hx i) (hsw i) (hi i) (by rw [hN0 i, hsc i]; exact blkOk_by hbl) (fun s H C cl fp => hg ⟨i, s, H, C, cl, fp⟩) (fun s H C cl fp => pts_nil) (fun s H C cl fp => he ⟨i, s, H, C, cl, fp⟩) (hfs i), fun F0 H0 ga s σ F H o Dn hga r hg hp => ?_⟩
  unfold sSetZ at hg
  obtain ⟨⟨d, gn⟩, h3, rfl⟩ := Option.map_eq_some_iff.mp hg
  exact tLc_evsN vi vg ve hj hjo h1 h2 hjv s σ d gn h3 F0 H0 ga F H r _ fun p xs rs F2 H2 ed e2 r2 n2 n0 hH hd hn => by
    subst ed
    exact hp _ H2 _ (e2.trans (Evl.Ex.new n2)) ((r2.addF n2 n0 hH hn).set hk (.lst upd_same (dva_mono (Evl.Ex.new n2) _ _ hd)))
/-- .. x a list of one's own -/
theorem cs_setZLcO (k : Nat) {x : Str} {px : Pos} {cpos : Pos} (N0 : List Str) (sc0 : Scope) (ownc : List (Str × Nat)) (oth : List Nat) (hi : CIz G T own j tg iter it) (hg : CGZ (G.blk scope) T j (ownc.map (·.2)) tg bind) (he : CEs (G.blk scope) T [j] j elt f) (hNd : ∀ i, (G.X i).N.Nodup)
    (hk : k ∈ own := by decide) (hkg : k ∉ gs := by decide) (hN : ∀ i, (G.X i).N[k]? = some x := by intro _; rfl) (hx : ∀ i, (G.X i).env.scope.names.lookup x = some .local := by intro _; rfl) (hj : j ∈ own := by decide) (hjo : j ∉ oth := by decide) (h1 : ∀ i ∈ own, i = j ∨ i ∈ oth := by decide) (h2 : ∀ i ∈ oth, i ∈ own := by decide) (hjv : j ∉ ownc.map (·.2) := by decide)
    (hbl : blkC N0 sc0 scope ownc = true := by decide +kernel) (hN0 : ∀ i, (G.X i).N = N0 := by intro _; rfl) (hsc : ∀ i, (G.X i).env.scope = sc0 := by intro _; rfl)
    (hfs : ∀ i x, foldedSetIterable iter (G.X i).env x = pure x := by intro _ _; rfl)
    (hsw : ∀ i, swapsWith (.ListComp elt [⟨tg, iter, [], 0⟩] scope cpos) (some (.Name x px)) pos.line (G.X i).env = pure true := by intro _; exact sw_true rfl rfl rfl (by decide +kernel)) :
    CS G T E gs own (.Assign [.Name x px] (.ListComp elt [⟨tg, iter, [], 0⟩] scope cpos) pos) (sSetZ j k (zComp j oth it bind (ownc.map (·.2)) f)) := by
  obtain ⟨wi, hi, vi⟩ := hi
  obtain ⟨gt, hg, vg⟩ := hg
  obtain ⟨te, he, ve⟩ := he
  refine ⟨tAsg (tLc wi gt tYes te (ownc.map (·.2))) (gName k), fun i => ps_setLc (G.hc i) (hNd i) (hN i) (hx i) (hsw i) (hi i) (by rw [hN0 i, hsc i]; exact blkOk_by hbl) (fun s H C cl fp => hg ⟨i, s, H, C, cl, fp⟩) (fun s H C cl fp => pts_nil) (fun s H C cl fp => he ⟨i, s, H, C, cl, fp⟩) (hfs i), fun F0 H0 ga s σ F H o Dn hga r hg hp => ?_⟩
  unfold sSetZ at hg
  obtain ⟨⟨d, gn⟩, h3, rfl⟩ := Option.map_eq_some_iff.mp hg
  exact tLc_evsN vi vg ve hj hjo h1 h2 hjv s σ d gn h3 F0 H0 ga F H r _ fun p xs rs F2 H2 ed e2 r2 n2 n0 hH hd hn => by
    subst ed
    exact hp F2 H2 _ e2 (r2.setOwn hk (hga k hkg) n2 n0 hH hd fun i a hi hik ⟨d, hd'⟩ ha => hn i a d hi hd' ha)
theorem cs_retZ (oth : List Nat) (he : CEs G T gs j e f) (ho : own = oth ++ gs := by rfl) : CS G T E gs own (.Return (some e) pos) (sRetZ j f) := by
  subst ho
  obtain ⟨te, h1, h2⟩ := he
  refine ⟨tRet te, fun i => ps_ret (h1 i), fun F0 H0 ga s σ F H o Dn hga r hg hp => ?_⟩
  unfold sRetZ at hg
  obtain ⟨⟨d, gn⟩, h3, rfl⟩ := Option.map_eq_some_iff.mp hg
  obtain ⟨F', e', r'⟩ := r.freezeTo
  exact h2 s σ d gn h3 F0 H0 ga F' H r' _ fun v F2 H2 e2 r2 rv => hp v F2 H2 σ r2 rv
theorem cs_ifZ (h0 : CTz G T own j c t) (h1 : CSs G T E gs own sts g1) (h2 : CSs G T E gs own sts2 g2) : CS G T E gs own (.If c sts sts2 pos) (sIfZ j t g1 g2) := by
  obtain ⟨tc, p0, v0⟩ := h0
  obtain ⟨t1, p1, v1⟩ := h1
  obtain ⟨t2, p2, v2⟩ := h2
  refine ⟨tIfS tc t1 t2, fun i => ps_if (p0 i) (p1 i) (p2 i), fun F0 H0 ga s σ F H o Dn hga r hg hp => ?_⟩
  unfold sIfZ at hg
  obtain ⟨⟨k, gn⟩, h3, h4⟩ := Option.bind_eq_some_iff.mp hg
  refine v0 s σ k gn h3 F0 H0 ga F H r _ fun F2 H2 e2 r2 => ?_
  cases k with
  | true => simp only [if_true] at h4 ⊢; exact v1 F0 H0 ga _ σ F2 H2 o Dn hga r2 h4 (hp.mono e2)
  | false => simp only [Bool.false_eq_true, if_false] at h4 ⊢; exact v2 F0 H0 ga _ σ F2 H2 o Dn hga r2 h4 (hp.mono e2)
theorem cs_forZ (hi : CIz G T own j tg iter it) (hg : CGS G T own tg bind) (h1 : CSs G T E gs own sts g) (hpo : ∀ i, PassesOwn (model (G.X i).prog (G.X i).w) (G.X i).A (G.X i).env (G.X i).xe)
    (hfs : ∀ i x, foldedSetIterable iter (G.X i).env x = pure x := by intro _ _; rfl) : CS G T E gs own (.For tg iter sts [] pos) (sForZ j it bind g) := by
  obtain ⟨wi, p0, v0⟩ := hi
  obtain ⟨gt, pg, vg⟩ := hg
  obtain ⟨t1, p1, v1⟩ := h1
  refine ⟨tFor wi gt t1, fun i => ps_for (hpo i) (G.hc i) (p0 i) (pg i) (p1 i) (hfs i), fun F0 H0 ga s σ F H o Dn hga r hg hp => ?_⟩
  unfold sForZ at hg
  obtain ⟨⟨ds, gn⟩, h3, h4⟩ := Option.bind_eq_some_iff.mp hg
  refine v0 s σ ds gn h3 F0 H0 ga F H r _ fun J F2 H2 e2 r2 wk => ?_
  obtain ⟨w1, w2, w3⟩ := wk
  refine ⟨fun i m σ' H' => m = ds.length - i ∧ i ≤ ds.length ∧ ∃ F' s', Rel G.K T F0 H0 ga own F' H' s' σ' ∧ Ex F2 F' ∧ forM bind g (ds.drop i) s' = some o, ⟨ds.length, by simp, Nat.zero_le _, F2, _, r2, Evl.Ex.refl F2, h4⟩, ?_⟩
  rintro i m σ1 H1 ⟨rfl, hle, F1, s1, r1, ef, hm⟩
  by_cases hlt : i < ds.length
  · refine .inr ⟨w1 i H1 hlt (ef.trans r1.hx), fun σ' H' => ∃ F' s', Rel G.K T F0 H0 ga own F' H' s' σ' ∧ Ex F2 F' ∧ forM bind g (ds.drop (i + 1)) s' = some o, fun σ' H' hw => ⟨ds.length - (i + 1), by omega, rfl, hlt, hw⟩, fun x H' y => ?_⟩
    obtain ⟨F3, d, e3, hd, rx⟩ := w3 i F1 H1 x H' hlt ef r1.hx y
    rw [take_succ_drop ds i d hd, forM] at hm
    obtain ⟨s2, h5, h6⟩ := Option.bind_eq_some_iff.mp hm
    obtain ⟨o1, h7, h8⟩ := Option.bind_eq_some_iff.mp h6
    refine vg F0 H0 ga s1 s2 σ1 F3 H' d x (r1.ext e3) rx h5 _ fun σ2 r2 => v1 F0 H0 ga s2 σ2 F3 H' o1 _ hga r2 h7 ?_
    have a3 : Ex F2 F3 := ef.trans e3.fz
    cases o1 with
    | nx s' => exact fun F4 H4 σ4 a4 r4 => ⟨F4, s', r4, a3.trans a4, h8⟩
    | ct s' => exact fun F4 H4 σ4 a4 r4 => ⟨F4, s', r4, a3.trans a4, h8⟩
    | bk s' => cases h8; exact fun F4 H4 σ4 a4 r4 => hp F4 H4 σ4 ((e2.trans a3).trans a4) r4
    | rt d s' => cases h8; exact hp
    | ex c d => cases h8; exact hp
  · have e : i = ds.length := by omega
    subst e
    rw [List.drop_length, forM] at hm
    cases hm
    exact .inl ⟨w2 H1 (ef.trans r1.hx), hp F1 H1 σ1 (e2.trans ef) r1⟩
end

/-! ### a def that draws -/
def defG (n slots : Nat) (body : S → Option Out) : List D → List D → Option (D × List D) := fun gs ds => if ds.length + 1 = n then (body (some (.lst gs) :: (ds.map some ++ List.replicate (slots - n) none))).bind fun o => match o with
    | .rt d s => (gget 0 s).map fun g => (d, g)
    | .nx s => (gget 0 s).map fun g => (.non, g)
    | _ => none
  else none
section
variable {P : Program} {w : World} {K : PySem.W.Frag} {mg : Str → Option Value} {base : Heap} {T : CT}
theorem spG_len {ps N : List Str} {g : S → Option Out} : ∀ vs H Q E, spG K T (defG ps.length N.length g) vs H Q E → vs.length = ps.length := fun vs H Q E ⟨F0, ad, xs, gs, ws, ds, d, gs', h1, h2, h3, h4, h5, h6, h7, h8⟩ => by
    unfold defG at h7
    split at h7
    · rename_i hq
      rw [h1, List.length_cons, dva_len h6]; exact hq
    · cases h7
theorem body_mirrorG {qual : Str} {st : Stmt} {f : Addr} {N ps : List Str} {k : Nat} {oth : List Nat} {g : S → Option Out} (hown : ∀ i ∈ oth, ps.length ≤ i) (hp0 : 0 < ps.length) (hlen : ps.length ≤ N.length) {cdv : Value} {A : Around} {outer : List Env} {s : Shared} {H : Hp} {E : XK} {hr : Room k (A.deeper (envOfC qual (defScope st) s.heap.objs.size f cdv))}
    (hb : CSs (fam P w K mg base N qual (defScope st) f k cdv A outer s H E hr) T E [0] (oth ++ [0]) (defBody st) g) {vs : List V} {Q : VK} (h : spG K T (defG ps.length N.length g) vs H Q E) :
    ∃ t, PSs (cxOf (L2.CX P w) P w K mg base N qual (defScope st) f cdv A outer s H E) (defBody st) t ∧ t { nx := fun _ H' => Q .non H', rt := Q } (start N vs) H := by
  have hvl := spG_len vs H Q E h
  obtain ⟨F0, ad, xs, gs, ws, ds, d, gs', rfl, hx, hF, hH, hxs, hd, hm, hfin⟩ := h
  obtain ⟨t, ht, hev⟩ := hb
  refine ⟨t, ht (), ?_⟩
  unfold defG at hm
  split at hm
  case isFalse => cases hm
  rename_i hdl
  obtain ⟨o, h1, h2⟩ := Option.bind_eq_some_iff.mp hm
  have hst0 : (L2.start N (V.ref ad :: ws))[0]? = some (some (.ref ad)) := rfl
  have dead : ∀ i, i ∈ oth → ∀ d, (some (D.lst gs) :: (ds.map some ++ List.replicate (N.length - ps.length) none))[i]? = some (some d) → False := fun i hi d hs => by
    have := hown i hi
    obtain ⟨k, rfl⟩ : ∃ k, i = k + 1 := ⟨i - 1, by omega⟩
    rw [List.getElem?_cons_succ, List.getElem?_append_right (by rw [List.length_map]; omega), List.getElem?_replicate] at hs
    split at hs <;> cases hs
  have fin : ∀ v F1 H1 (σ1 : L2.St) (s' : S) (d' : D), Rel K T F0 (del H ad) (fun i => if i = 0 then some ad else none) [0] F1 H1 s' σ1 → Dv K T F1 v d' → (gget 0 s').map (fun g => (d', g)) = some (d, gs') → Q v H1 := fun v F1 H1 σ1 s' d' r1 rv hg => by
    obtain ⟨g', h3, h4⟩ := Option.map_eq_some_iff.mp hg
    cases h4
    obtain ⟨b, ys, es, q1, q2, q3, q4, q5, q6⟩ := r1.ow 0 _ (by simp) (gget_some h3)
    rw [r1.ga_ 0 ad (by simp) rfl] at q1
    cases q1
    cases q2
    exact hfin v F1 H1 ys r1.e0 q3 q5 q6 rv
  refine hev F0 (del H ad) (fun i => if i = 0 then some ad else none) _ (L2.start N (V.ref ad :: ws)) F0 H o _ (fun i hi => if_neg (by simpa using hi)) ⟨hx, ⟨Evl.Ex.refl F0, hx, fun p o h3 h4 => ?_⟩, ?_, fun i d hi hs => ?_, fun i d hi hs => ?_, fun i k a d e hi hk hne hs1 hs2 => ?_, fun i a hi hga => ?_⟩ h1 ?_
  · by_cases hp : p = ad
    · rw [hp, del_same] at h4; cases h4
    · rw [del_ne hp] at h4; exact ⟨h3, h4⟩
  · unfold L2.start
    simp only [List.length_append, List.length_map, List.length_replicate, List.length_cons] at hvl ⊢
    have := dva_len hd
    omega
  · have hi0 : i ≠ 0 := fun e => hi (by simp [e])
    obtain ⟨k, rfl⟩ : ∃ k, i = k + 1 := ⟨i - 1, by omega⟩
    rw [List.getElem?_cons_succ] at hs
    by_cases hlt : k < ds.length
    · rw [List.getElem?_append_left (by rw [List.length_map]; exact hlt), List.getElem?_map] at hs
      obtain ⟨d', h3, h4⟩ := Option.map_eq_some_iff.mp hs
      cases h4
      obtain ⟨v, h5, h6⟩ := dva_get' hd h3
      refine ⟨v, ?_, h6⟩
      unfold L2.start
      rw [List.getElem?_append_left (by rw [List.length_map, List.length_cons, dva_len hd]; omega), List.getElem?_map, List.getElem?_cons_succ, h5]
      rfl
    · rw [List.getElem?_append_right (by rw [List.length_map]; omega), List.getElem?_replicate] at hs
      split at hs <;> cases hs
  · rcases List.mem_append.mp hi with hi | hi
    · exact (dead i hi d hs).elim
    · have e : i = 0 := by simpa using hi
      subst e
      cases hs
      exact ⟨ad, xs, gs, hst0, rfl, hF, del_same, hH, hxs⟩
  · rcases List.mem_append.mp hi with hi | hi
    · exact (dead i hi d hs1).elim
    · rcases List.mem_append.mp hk with hk | hk
      · exact (dead k hk e hs2).elim
      · have e1 : i = 0 := by simpa using hi
        have e2 : k = 0 := by simpa using hk
        exact absurd (e1.trans e2.symm) hne
  · split at hga
    · rename_i e
      subst e
      cases hga
      exact hst0
    · cases hga
  · cases o with
    | nx s' =>
      intro F1 H1 σ1 e1 r1
      obtain ⟨F2, e2, r2⟩ := r1.freezeTo
      exact fin .non F2 H1 σ1 s' .non r2 .non h2
    | rt d' s' => exact fun v F1 H1 σ1 r1 rv => fin v F1 H1 σ1 s' d' r1 rv h2
    | ex c d => cases h2
    | bk s' => cases h2
    | ct s' => cases h2
theorem fn_mirrorG {x qual : Str} {st : Stmt} {f : Addr} {fd : FuncData} {N ps : List Str} {k : Nat} {oth : List Nat} {g : S → Option Out} (F : Fun K x qual st f fd) (Sc : FnScope N ps (defScope st)) (hown : ∀ i ∈ oth, ps.length ≤ i) (hp0 : 0 < ps.length) (hlen : ps.length ≤ N.length)
    (hb : ∀ cdv A outer s H E hr, CSs (fam P w K mg base N qual (defScope st) f k cdv A outer s H E hr) T E [0] (oth ++ [0]) (defBody st) g) : FnOk P w K mg base (L2.CX P w) (k + 1) f fd ps (spG K T (defG ps.length N.length g)) := by
  exact F.okX Sc spG_len fun cdv A outer s H vs Q E hr h => body_mirrorG hown hp0 hlen (hb cdv A outer s H E hr) h
theorem cal_mirrorG {x : Str} {st : Stmt} {N ps : List Str} {k k' : Nat} {oth : List Nat} {g : S → Option Out} {m : List D → List D → Option (D × List D)} (F : Def0 K mg x st ps) (Sc : FnScope N ps (defScope st)) (hown : ∀ i ∈ oth, ps.length ≤ i) (hp0 : 0 < ps.length) (hlen : ps.length ≤ N.length) (hk : k' = k + 1) (hm : m = defG ps.length N.length g)
    (hb : ∀ f cdv A outer s H E hr, CSs (fam P w K mg base N x (defScope st) f k cdv A outer s H E hr) T E [0] (oth ++ [0]) (defBody st) g) : CalG P w K mg base T x k' ps m := by
  subst hk hm
  obtain ⟨ad, fd, F, hm, hb'⟩ := F
  exact ⟨ad, fd, fn_mirrorG F Sc hown hp0 hlen (hb ad), hm, F.kp, hb'⟩
end
/-! ### n.bit_length() -/
section
variable {G : Fam} {T : CT} {a : Expr} {f : XE} {pos apos : Pos}
theorem ce_bits (ha : CE G T a f) (hbase : ∀ i, attributeBase a "bit_length" (G.X i).env (eval a (G.X i).env) = eval a (G.X i).env := by intro _; rfl) (hline : (apos.endLine == pos.line) = true := by rfl) : CE G T (.Call (.Attribute a "bit_length" apos) [] [] pos) (xUn dBits f) := by
  obtain ⟨ta, ha, va⟩ := ha
  refine ⟨tBits ta, fun i => pe_bits (ha i) (hbase i) hline, fun s σ F H d hx hs hf F1 H1 e1 Q q => ?_⟩
  unfold xUn at hf
  obtain ⟨x, h1, h2⟩ := Option.bind_eq_some_iff.mp hf
  unfold dBits at h2
  split at h2
  · cases h2
    exact va s σ F H _ hx hs h1 F1 H1 e1 _ fun v F2 H2 e2 rv => ⟨_, dv_int rv, q _ F2 H2 e2 (.int _)⟩
  · cases h2
end
end Mr

set_option Elab.async false
set_option linter.all false
set_option maxRecDepth 100000
set_option maxHeartbeats 2000000
namespace Mr
open PySem PySem.Spec PyProof.Rows L2
open Evl (Ex)
def ziPure (own : List Nat) (j : Nat) (fi : XA) : S → Option (List D × List D) := fun s => (gget j s).bind fun g => (fi (wipeS s own)).map fun ds => (ds, g)
def zIf (own : List Nat) (j : Nat) (t : XT) (a b : XS) : XS := fun s => (gget j s).bind fun _ => (t (wipeS s own)).bind fun k => if k then a s else b s
section
variable {G : Fam} {T : CT} {own : List Nat} {j : Nat} {e a b c tg : Expr} {es : List Expr} {f g : XS} {fa : XSA} {fp : XE} {t : XT} {p pos p2 apos : Pos} {fi : XA}
theorem ciz_pure' (hi : CI G T tg e fi) : CIz G T own j tg e (ziPure own j fi) := ciz_pure hi
theorem ces_if (h0 : CT_ G T c t) (ha : CEs G T own j a f) (hb : CEs G T own j b g) : CEs G T own j (.IfExp c a b pos) (zIf own j t f g) := by
  obtain ⟨tc, hc, vc⟩ := h0
  obtain ⟨ta, ha, va⟩ := ha
  obtain ⟨tb, hb, vb⟩ := hb
  refine ⟨tIf tc ta tb, fun i => pe_ifExp (hc i) (ha i) (hb i), fun s σ d g' hf F0 H0 ga F H r Q q => ?_⟩
  unfold zIf at hf
  simp only [Option.bind_eq_some_iff] at hf
  obtain ⟨_, _, k, h1, h2⟩ := hf
  refine vc _ σ F H k r.hx r.sl h1 F H (Ext.refl r.hx) _ fun F2 H2 e2 => ?_
  cases k with
  | true =>
    simp only [if_true] at h2 ⊢
    exact va s σ d g' h2 F0 H0 ga F2 H2 (r.ext e2) Q fun v F3 H3 e3 r3 rv => q v F3 H3 (e2.fz.trans e3) r3 rv
  | false =>
    simp only [Bool.false_eq_true, if_false] at h2 ⊢
    exact vb s σ d g' h2 F0 H0 ga F2 H2 (r.ext e2) Q fun v F3 H3 e3 r3 rv => q v F3 H3 (e2.fz.trans e3) r3 rv
end
end Mr

set_option Elab.async false
set_option linter.all false
set_option maxRecDepth 100000
set_option maxHeartbeats 2000000
/-! the law's cell and generator: the script is a list that is locked, so these two go by hand -/
namespace Mr
open PySem PySem.Spec PyProof.Rows L2
open Evl (Ex)
/-! ### a power with a base of any size -/
def CPowB : Int → Int → Prop := fun i j => 0 ≤ j ∧ (Builtin.Int.intBits i : Int) * j ≤ 2 ^ 27
instance (i j : Int) : Decidable (CPowB i j) := by unfold CPowB; infer_instance
theorem op_powB {X : Cx} : OpR X (binaryOp .Pow) (rI CPowB fun i j => .int (i ^ j.toNat)) := opI fun _ _ _ _ _ _ _ hc q => pow_int hc.1 hc.2 q
def dPowB : D → D → Option D
  | .int a, .int b => if CPowB a b then some (.int (a ^ b.toNat)) else none
  | _, _ => none
theorem rv_powB {K : PySem.W.Frag} {T : CT} : RvV K T (rI CPowB fun i j => .int (i ^ j.toNat)) dPowB := by
  intro x y d1 d2 d F1 H1 s rx ry h Q q
  unfold dPowB at h; split at h
  case h_2 => cases h
  all_goals skip
  split at h
  · rename_i hc
    cases h
    exact ⟨_, _, dv_int rx, dv_int ry, hc, q _ F1 H1 (Ext.refl s) (.int _)⟩
  · cases h
theorem ce_powB {G : Fam} {T : CT} {a b : Expr} {f g : XE} {pos : Pos} (ha : CE G T a f) (hb : CE G T b g) : CE G T (.BinOp a .Pow b pos) (xOp dPowB f g) := ce_op (fun i => op_powB) rv_powB ha hb
theorem dPowB_of {i j : Int} (h : CPowB i j) : dPowB (.int i) (.int j) = some (.int (i ^ j.toNat)) := by show (if _ then _ else _) = _; rw [if_pos h]
theorem dMod_of {i j : Int} (h : 0 < j) : dMod (.int i) (.int j) = some (.int (i % j)) := by show (if _ then _ else _) = _; rw [if_pos h]
theorem dFdiv_of {i j : Int} (h : 0 < j ∧ j < 1073741824) : dFdiv (.int i) (.int j) = some (.int (i / j)) := by show (if _ then _ else _) = _; rw [if_pos h]
theorem dMul_of {i j : Int} (h : CMul i j) : dMul (.int i) (.int j) = some (.int (i * j)) := by show (if _ then _ else _) = _; rw [if_pos h]
/-! ### the cell -/
def cellD (ns : List Int) (j : Nat) : Int := if j < ns.length then ns.getD j 0 else (ns.take 1).sum % 1000003
def spCellS (K : PySem.W.Frag) : Sp := fun vs H Q _ => ∃ (l : Addr) (ns : List Int) (j : Nat), vs = [V.ref l, V.int (j : Nat)] ∧ SqL K H l (ns.map V.int) ∧ ∀ H2, Ex H H2 → Q (.int (cellD ns j)) H2
def tCellS (K : PySem.W.Frag) : TS := tSeq (tIfS (tB (tLt (tVar 1) (tCB (Evl.rLenS K) (tCons (tVar 0) tNil)))) (tSeq (tRet (tOp (rIx K) (tVar 0) (tVar 1))) tNext) tNext)
  (tSeq (tRet (tOp (rI (fun _ j => 0 < j) fun i j => .int (i % j)) (tCB (rSum K) (tCons (tSl (rSlL K) (tVar 0) tNoPart (tPart (tC (.int 1)))) tNil)) (tC (.int 1000003)))) tNext)
theorem cut1 (ns : List Int) : cutV (ns.map V.int) none (some 1) = (ns.take 1).map V.int := by
  cases ns with
  | nil => rfl
  | cons n ns =>
    unfold cutV
    have h1 : HT.sIx ((n :: ns).map V.int).length ((n :: ns).map V.int).length (some 1) = 1 := by
      unfold HT.sIx
      simp only [List.length_map, List.length_cons]
      rw [if_neg (by decide)]
      show min 1 (ns.length + 1) = 1
      omega
    have h0 : HT.sIx ((n :: ns).map V.int).length 0 none = 0 := rfl
    rw [h1, h0]
    rfl
theorem atI_map {ns : List Int} {j : Nat} (h : j < ns.length) : atI (ns.map V.int) ((j : Nat) : Int) = some (V.int (ns.getD j 0)) := by
  have h1 : ixN (ns.map V.int).length ((j : Nat) : Int) = some j := by
    unfold ixN
    rw [if_pos (by omega), List.length_map, if_pos (by omega)]
    rfl
  unfold atI
  rw [h1]
  show (ns.map V.int)[j]? = _
  rw [List.getElem?_map, List.getElem?_eq_getElem h, List.getD_eq_getElem?_getD, List.getElem?_eq_getElem h]
  rfl
theorem cellS_run {K : PySem.W.Frag} {Dn : Ends} {H : Hp} {vs : List V} {E : XK} {N : List Str} (h : spCellS K vs H Dn.rt E) : tCellS K Dn (start N vs) H := by
  obtain ⟨l, ns, j, rfl, hs, q⟩ := h
  have s0 : (start N [V.ref l, V.int (j : Nat)])[0]? = some (some (V.ref l)) := rfl
  have s1 : (start N [V.ref l, V.int (j : Nat)])[1]? = some (some (V.int (j : Nat))) := rfl
  refine ⟨_, s1, _, s0, l, ns.map V.int, rfl, .inl hs, (j : Nat), ((ns.map V.int).length : Nat), rfl, rfl, _, rfl, ?_⟩
  show if decide (((j : Nat) : Int) < (((ns.map V.int).length : Nat) : Int)) = true then _ else _
  by_cases hj : j < ns.length
  · have hd : decide (((j : Nat) : Int) < (((ns.map V.int).length : Nat) : Int)) = true := decide_eq_true (by rw [List.length_map]; omega)
    rw [if_pos hd]
    refine ⟨_, s0, ⟨_, s1, .inl ⟨l, _, _, _, rfl, rfl, hs, atI_map hj, ?_⟩⟩⟩
    have := q H (Ex.refl H)
    unfold cellD at this
    rw [if_pos hj] at this
    exact this
  · have hd : ¬ decide (((j : Nat) : Int) < (((ns.map V.int).length : Nat) : Int)) = true := fun z => by
      have z2 := of_decide_eq_true z
      rw [List.length_map] at z2
      omega
    rw [if_neg hd]
    refine ⟨_, s0, 1, rfl, l, _, rfl, hs, fun p hp => ⟨p, ns.take 1, rfl, SqL.of ?_, _, 1000003, rfl, rfl, show (0 : Int) < 1000003 by decide, ?_⟩⟩
    · rw [upd_same, cut1]
    · have := q (upd H p (.lst (cutV (ns.map V.int) none (some 1)))) (Ex.new hp)
      unfold cellD at this
      rw [if_neg hj] at this
      exact this
/-- a def with a promise of its own -/
def CalS (P : Program) (w : World) (K : PySem.W.Frag) (mg : Str → Option Value) (base : Heap) (x : Str) (k : Nat) (ps : List Str) (sp : Sp) : Prop :=
  ∃ ad fd, FnOk P w K mg base (L2.CX P w) k ad fd ps sp ∧ mg x = some (.ref ad) ∧ PySem.W.keepIn K (.ref ad) = true ∧ Binds K fd ps []
section
variable {P : Program} {w : World} {K : PySem.W.Frag} {mg : Str → Option Value} {base : Heap} {T : CT}
theorem cal_cell {x : Str} {st : Stmt} {N ps : List Str} (F : Def0 K mg x st ps) (Sc : FnScope N ps (defScope st)) (h2 : ps.length = 2)
    (hb : ∀ f cdv A outer s H E hr, ∀ i, PSs ((fam P w K mg base N x (defScope st) f 0 cdv A outer s H E hr).X i) (defBody st) (tCellS K)) : CalS P w K mg base x 1 ps (spCellS K) := by
  obtain ⟨ad, fd, F, hm, hb'⟩ := F
  refine ⟨ad, fd, F.okX Sc (fun vs H Q E h => ?_) fun cdv A outer s H vs Q E hr h => ⟨tCellS K, hb ad cdv A outer s H E hr (), cellS_run h⟩, hm, F.kp, hb'⟩
  obtain ⟨l, ns, j, rfl, _⟩ := h
  rw [h2]
  rfl
/-! ### the generator: seed = cell(script, index); return [..] -/
def spGenS (K : PySem.W.Frag) (gl : Int → Nat → List Int) : Sp := fun vs H Q _ => ∃ (l : Addr) (ns : List Int) (j : Nat), vs = [V.ref l, V.int (j : Nat)] ∧ SqL K H l (ns.map V.int) ∧ ∀ p H2, Ex H H2 → H p = none → H2 p = some (.lst ((gl (cellD ns j) j).map V.int)) → Q (.ref p) H2
theorem dva_ints_of {F : Hp} {vs : List V} {ns : List Int} (h : DvA K T F vs (ns.map D.int)) : vs = ns.map V.int := by
  induction ns generalizing vs with
  | nil => cases h; rfl
  | cons n ns ih =>
    cases h with
    | cons a b => rw [ih b]; cases a; rfl
theorem cal_gen {x : Str} {st : Stmt} {N ps : List Str} {body : List Stmt} {s0 : Stmt} {g : S → Option Out} {gl : Int → Nat → List Int} (F : Def0 K mg x st ps) (Sc : FnScope N ps (defScope st)) (h2 : ps.length = 2) (h3 : N.length = 3) (hbd : defBody st = s0 :: body)
    (hg : ∀ (n : Int) (j : Nat), j < 1000 → g [none, some (.int (j : Nat)), some (.int n)] = some (.rt (.lst ((gl n j).map D.int)) [none, some (.int (j : Nat)), some (.int n)]))
    (hb0 : ∀ f cdv A outer s H E hr, ∀ i, PS ((fam P w K mg base N x (defScope st) f 1 cdv A outer s H E hr).X i) s0 (tAsg (tCall (spCellS K) [] E0 (tCons (tVar 0) (tCons (tVar 1) tNil))) (gName 2)))
    (hb : ∀ f cdv A outer s H E hr, CSs (fam P w K mg base N x (defScope st) f 1 cdv A outer s H E hr) T E [] [] body g) : CalS P w K mg base x 2 ps (fun vs H Q E => (∃ l, ∃ j : Nat, vs = [l, .int (j : Nat)] ∧ j < 1000) ∧ spGenS K gl vs H Q E) := by
  obtain ⟨ad, fd, F, hm, hb'⟩ := F
  refine ⟨ad, fd, F.okX Sc (fun vs H Q E h => ?_) fun cdv A outer s H vs Q E hr h => ?_, hm, F.kp, hb'⟩
  · obtain ⟨_, l, ns, j, rfl, _⟩ := h
    rw [h2]
    rfl
  obtain ⟨⟨_, j', ej, hj⟩, l, ns, j, rfl, hs, q⟩ := h
  obtain rfl : j = j' := by cases ej; rfl
  obtain ⟨t, ht, hev⟩ := hb ad cdv A outer s H E hr
  refine ⟨tSeq _ t, by rw [hbd]; exact pss_cons (hb0 ad cdv A outer s H E hr ()) (ht ()), ?_⟩
  obtain ⟨n0, n1, n2, rfl⟩ : ∃ a b c, N = [a, b, c] := by
    match N, h3 with
    | [a, b, c], _ => exact ⟨a, b, c, rfl⟩
  refine ⟨_, rfl, _, rfl, l, ns, j, rfl, hs, fun H2 e2 => ?_⟩
  refine hev (fun _ => none) H2 (fun _ => none) [none, some (.int ((j : Nat) : Int)), some (.int (cellD ns j))] _ (fun _ => none) H2 _ _ (fun _ _ => rfl) ⟨fun _ _ z => (by cases z), Ext.refl fun _ _ z => (by cases z), rfl, fun i d hi hs => ?_, fun i d hi hs => (by cases hi), fun _ _ _ _ _ hi => (by cases hi), fun _ _ hi => by cases hi⟩ (hg _ j hj) ?_
  · match i, hs with
    | 1, hs => cases hs; exact ⟨_, rfl, .int _⟩
    | 2, hs => cases hs; exact ⟨_, rfl, .int _⟩
  · intro v F H3 σ r rv
    obtain ⟨p, xs, rfl, h4, h5⟩ := dv_lst rv
    rw [dva_ints_of h5] at h4
    have hn : H2 p = none := by
      cases hh : H2 p with
      | none => rfl
      | some o => rw [(r.e0.own p o rfl hh).1] at h4; cases h4
    refine q p H3 (e2.trans (r.e0.all fun _ _ z => by cases z)) ?_ (r.hx _ _ h4)
    cases hh : H p with
    | none => rfl
    | some o => rw [e2 _ _ hh] at hn; cases hn
end
def glD (n : Int) (j : Nat) : List Int := [(if 0 > n - 10 ^ 18 then 0 else n - 10 ^ 18) % (10 ^ 60) ^ 10, n % 2147483647, 1000 * (j : Int)]
def bGen : S → Option Out := ((sRet [] (xLst (xCons (xOp dMod (xB (on1 dInt) (xCons (xB (on2 dMax) (xCons (xOp dSub (xVar 2) (xOp dPowB (xC (.int 10)) (xC (.int 18)))) (xCons (xC (.int 0)) xNil))) xNil)) (xOp dPowB (xOp dPowB (xC (.int 10)) (xC (.int 60))) (xC (.int 10)))) (xCons (xOp dMod (xB (on1 dInt) (xCons (xVar 2) xNil)) (xC (.int 2147483647))) (xCons (xOp dMul (xC (.int 1000)) (xVar 1)) xNil))))))
theorem gen_eq (n : Int) (j : Nat) (hj : j < 1000) : bGen [none, some (.int (j : Nat)), some (.int n)] = some (.rt (.lst ((glD n j).map D.int)) [none, some (.int (j : Nat)), some (.int n)]) := by
  have h1 : dPowB (.int 10) (.int 18) = some (.int (10 ^ 18)) := dPowB_of (by decide +kernel)
  have h2 : dPowB (.int 10) (.int 60) = some (.int (10 ^ 60)) := dPowB_of (by decide +kernel)
  have h3 : dPowB (.int (10 ^ 60)) (.int 10) = some (.int ((10 ^ 60) ^ 10)) := dPowB_of (by decide +kernel)
  have h4 : dMul (.int 1000) (.int (j : Nat)) = some (.int (1000 * (j : Nat))) := dMul_of (.inl (by decide))
  have h5 : dMod (.int (if 0 > n - 10 ^ 18 then 0 else n - 10 ^ 18)) (.int ((10 ^ 60) ^ 10)) = some (.int ((if 0 > n - 10 ^ 18 then 0 else n - 10 ^ 18) % (10 ^ 60) ^ 10)) := dMod_of (by decide +kernel)
  have h6 : dMod (.int n) (.int 2147483647) = some (.int (n % 2147483647)) := dMod_of (by decide)
  simp only [bGen, sRet, xLst, xCons, xOp, xB, on1, on2, xNil, xVar, xC, wipeS, Option.bind_some, Option.map_some, List.getElem?_cons_succ, List.getElem?_cons_zero, Option.join_some, dSub, dMax, dInt, h1, h2, h3, h4, h5, h6]
  rfl
end Mr

set_option Elab.async false
set_option linter.all false
set_option maxRecDepth 100000
set_option maxHeartbeats 2000000
/-! classes: fields read, methods called, isinstance, ==, instances made -/
namespace Mr
open PySem PySem.Spec PyProof.Rows L2
open Evl (Ex)
/-- what the written part says of the class c, whose fields are ns -/
structure ClsOk (K : PySem.W.Frag) (T : CT) (c : Nat) (ns : List Str) : Prop where
  nam : T.nam c = ns
  nd : ns.Nodup
  cls : Cls K (T.cls c)
  no : ∀ f ∈ ns, NoAttr K (T.cls c) f
  ha : PySem.W.findIn K (.ref (T.cls c)) "__class__" = some (some (.builtin "object.__class__"))
  hn : PySem.W.specialIn K (.builtin "object.__class__") "__get__" = some (some (.builtin "getset_descriptor.__get__"))
  htk : PySem.W.takesIn K (.builtin "object.__class__") = some true
  hm : PySem.W.mroIn K (T.cls c) (.type "object") = some true
  koS : PySem.W.kitOne K (.ref (T.cls c)) (.ref (T.cls c)) = some true
  ko : ∀ ty ∈ ["NoneType", "bool", "int", "str", "list", "tuple"], PySem.W.kitOne K (.type ty) (.ref (T.cls c)) = some false
  nf : ∀ ty ∈ ["NoneType", "bool", "int", "str", "list", "tuple"], PySem.W.notFirst K (T.cls c) (.type ty) = true
/-! ### e.f -/
def dFld (c : Nat) (ns : List Str) (f : Str) : D → Option D
  | .obj c' ds => if c' = c then (ns.zip ds).lookup f else none
  | _ => none
theorem zip_look {K : PySem.W.Frag} {T : CT} {F : Hp} {f : Str} {d : D} : ∀ {ns : List Str} {xs : List V} {ds : List D}, DvA K T F xs ds → (ns.zip ds).lookup f = some d → f ∈ ns ∧ ∃ v, (ns.zip xs).lookup f = some v ∧ Dv K T F v d
  | [], _, _, _, h => by simp at h
  | n :: ns, _, _, .nil, h => by simp at h
  | n :: ns, _, _, .cons (v := v) (vs := vs) (d := d1) (ds := ds1) a b, h => by
    rw [List.zip_cons_cons, List.lookup_cons] at h ⊢
    cases e : f == n with
    | true =>
      rw [e] at h
      cases h
      exact ⟨by rw [eq_of_beq e]; exact List.mem_cons_self, v, rfl, a⟩
    | false =>
      rw [e] at h
      obtain ⟨h1, v', h2, h3⟩ := zip_look b h
      exact ⟨List.mem_cons_of_mem _ h1, v', h2, h3⟩
theorem dv_obj {K : PySem.W.Frag} {T : CT} {F : Hp} {v : V} {c : Nat} {ds : List D} (h : Dv K T F v (.obj c ds)) : ∃ a dx xs, v = .ref a ∧ F a = some (.ins (T.cls c) dx ((T.nam c).zip xs)) ∧ xs.length = (T.nam c).length ∧ DvA K T F xs ds := by
  cases h with
  | obj a b e => exact ⟨_, _, _, rfl, a, b, e⟩
section
variable {G : Fam} {T : CT} {a b : Expr} {f g : XE} {p pos apos : Pos} {c : Nat} {ns : List Str}
theorem ce_fld {x : Str} (O : ClsOk G.K T c ns) (ha : CE G T a f) (hb : ∀ i, attributeBase a x (G.X i).env (eval a (G.X i).env) = eval a (G.X i).env := by intro _; rfl) : CE G T (.Attribute a x pos) (xUn (dFld c ns x) f) := by
  obtain ⟨ta, ha, va⟩ := ha
  refine ⟨tFld G.K ta x, fun i => by rw [← G.hK i]; exact pe_fld (ha i) (hb i), fun s σ F H d hx hs hf F1 H1 e1 Q q => ?_⟩
  unfold xUn at hf
  obtain ⟨y, h1, h2⟩ := Option.bind_eq_some_iff.mp hf
  unfold dFld at h2
  split at h2
  case h_2 => cases h2
  split at h2
  case isFalse => cases h2
  rename_i c' ds hc
  subst hc
  refine va s σ F H _ hx hs h1 F1 H1 e1 _ fun v F2 H2 e2 rv => ?_
  obtain ⟨p, dx, xs, rfl, h3, h4, h5⟩ := dv_obj rv
  rw [O.nam] at h3
  obtain ⟨h6, w, h7, h8⟩ := zip_look h5 h2
  exact ⟨p, _, dx, _, w, rfl, e2.sub _ _ h3, O.cls, O.no x h6, h7, q w F2 H2 e2 h8⟩
/-! ### isinstance(e, C) -/
def dIsO (c : Nat) : D → Option D
  | .obj c' _ => if c' = c then some (.bl true) else none
  | d => if (dTy d).isSome then some (.bl false) else none
theorem dTy_six {d : D} {ty : String} (h : dTy d = some ty) : ty ∈ ["NoneType", "bool", "int", "str", "list", "tuple"] := by
  cases d <;> simp only [dTy, Option.some.injEq] at h <;> first | (subst h; decide) | cases h
theorem ce_isO {y : Str} {p3 : Pos} (O : ClsOk G.K T c ns) (hmy : G.mg y = some (.ref (T.cls c))) (ha : CE G T a f) (hm : G.mg "isinstance" = none) (hg : ∀ i, Gl (G.X i) "isinstance" := by intro _; rfl) (hgy : ∀ i, Gl (G.X i) y := by intro _; rfl)
    (hdy : (y == ("__debug__" : Str)) = false := by decide)
    (he : ∀ i, starEach [a, .Name y p3] (G.X i).env = (false, eval a (G.X i).env) :: starEach [.Name y p3] (G.X i).env := by intro _; rfl) (hpl : ∀ i, (backTo pos (starEach [.Name y p3] (G.X i).env)).any (·.1) = false := by intro _; rfl)
    (he2 : ∀ i, starEach [.Name y p3] (G.X i).env = (false, eval (.Name y p3) (G.X i).env) :: starEach [] (G.X i).env := by intro _; rfl) :
    CE G T (.Call (.Name "isinstance" p) [a, .Name y p3] [] pos) (xUn (dIsO c) f) := by
  obtain ⟨ta, ha, va⟩ := ha
  refine ⟨tCB (rIsi G.K) (tCons ta (tCons (tC (.ref (T.cls c))) tNil)), fun i => by
    rw [← G.hK i]
    exact pe_callB call_isi (hg i) (by rw [G.hm i]; exact hm) (by decide +kernel) (pa_cons (ha i) (pa_cons (pe_glob (hgy i) (by rw [G.hm i]; exact hmy) rfl hdy) pa_nil (he2 i)) (he i)) (by decide) (by decide) (he i) (hpl i), fun s σ F0 H d hx hs hf F1 H1 e1 Q q => ?_⟩
  unfold xUn at hf
  obtain ⟨x, h1, h2⟩ := Option.bind_eq_some_iff.mp hf
  refine va s σ F0 H x hx hs h1 F1 H1 e1 _ fun v F2 H2 e2 rv => ?_
  have old : ∀ ty, dTy x = some ty → d = .bl false → rIsi G.K [v, .ref (T.cls c)] H2 Q := fun ty h3 h4 => by
    subst h4
    exact ⟨v, _, _, _, false, rfl, .own _, tyx_of e2.sub rv h3, O.ko ty (dTy_six h3), q _ F2 H2 e2 (.bl false)⟩
  cases x with
  | obj c' ds =>
    simp only [dIsO] at h2
    split at h2
    case isFalse => cases h2
    rename_i hc
    subst hc
    cases h2
    obtain ⟨p, dx, xs, rfl, h3, h4, h5⟩ := dv_obj rv
    exact ⟨_, _, _, _, true, rfl, .own _, .base (.ins (e2.sub _ _ h3) O.cls O.ha O.hn O.htk O.hm), O.koS, q _ F2 H2 e2 (.bl true)⟩
  | non => cases h2; exact old _ rfl rfl
  | bl k => cases h2; exact old _ rfl rfl
  | int k => cases h2; exact old _ rfl rfl
  | str k => cases h2; exact old _ rfl rfl
  | lst k => cases h2; exact old _ rfl rfl
  | tup k => cases h2; exact old _ rfl rfl
end
/-! ### methods -/
theorem zip_mem {f : Str} {v : V} : ∀ {ns : List Str} {xs : List V}, (ns.zip xs).lookup f = some v → f ∈ ns
  | [], _, h => by simp at h
  | n :: ns, [], h => by simp at h
  | n :: ns, x :: xs, h => by
    rw [List.zip_cons_cons, List.lookup_cons] at h
    cases e : f == n with
    | true => rw [eq_of_beq e]; exact List.mem_cons_self
    | false => rw [e] at h; exact List.mem_cons_of_mem _ (zip_mem h)
def CalM (P : Program) (w : World) (K : PySem.W.Frag) (mg : Str → Option Value) (base : Heap) (T : CT) (c : Nat) (m : Str) (k : Nat) (ps : List Str) (mm : List D → Option FR) : Prop :=
  ∃ f fd, FnOk P w K mg base (L2.CX P w) k f fd ps (spM K T mm) ∧ Meth K (T.cls c) m f ∧ Binds K fd ps []
def isObj (c : Nat) : D → Bool
  | .obj c' _ => decide (c' = c)
  | _ => false
def xMeth0 (c : Nat) (mm : List D → Option FR) (f : XE) : XE := fun s => (f s).bind fun d => if isObj c d then (mm [d]).bind frD else none
section
variable {G : Fam} {T : CT} {a b : Expr} {f g : XE} {p pos apos : Pos} {c : Nat} {ns : List Str}
theorem ce_meth0 {m : Str} {k : Nat} {ps : List Str} {mm : List D → Option FR} (O : ClsOk G.K T c ns) (C : CalM G.P G.w G.K G.mg G.base T c m k ps mm) (hku : k ≤ G.u) (hx : ∀ i, Passes (L2.CX G.P G.w) (G.X i) E0) (ha : CE G T a f) (hnf : m ∉ ns := by decide)
    (ht : ∀ i, ∃ pl : Sem Bool, eval (.Call (.Attribute a m apos) [] [] pos) (G.X i).env = (do
      let ov ← eval a (G.X i).env
      standAt apos.atName
      let (f, first) ← holding [ov] (getMethod ov m pl)
      callWith pos f first (backTo pos (starEach [] (G.X i).env)) (backToKw pos (keywordEach [] (G.X i).env))) := by intro _; exact ⟨_, rfl⟩) :
    CE G T (.Call (.Attribute a m apos) [] [] pos) (xMeth0 c mm f) := by
  obtain ⟨ta, ha, va⟩ := ha
  obtain ⟨fa, fd, Fo, hM, hB⟩ := C
  refine ⟨tMeth (T.cls c) m (spM G.K T mm) [] E0 ta tNil, fun i => by
    obtain ⟨pl, hpl⟩ := ht i
    exact pe_meth0 (pl := pl) (ha i) (by rw [G.hK i]; exact O.cls) (by rw [G.hK i]; exact hM) (Fam.fn Fo i) ((G.hr i).mono hku) (by rw [G.hK i]; exact hB) .nil (hx i) hpl, fun s σ F H d hx hs hf F1 H1 e1 Q q => ?_⟩
  unfold xMeth0 at hf
  obtain ⟨y, h1, h2⟩ := Option.bind_eq_some_iff.mp hf
  split at h2
  case isFalse => cases h2
  rename_i ho
  obtain ⟨r, h3, h4⟩ := Option.bind_eq_some_iff.mp h2
  refine va s σ F H y hx hs h1 F1 H1 e1 _ fun v F2 H2 e2 rv => ?_
  cases y <;> simp only [isObj, decide_eq_true_eq] at ho
  all_goals try (cases ho; done)
  rename_i c' ds'
  subst ho
  obtain ⟨p, dx, xs, rfl, h5, h6, h7⟩ := dv_obj rv
  have hl : ((T.nam c').zip xs).lookup m = none := by
    rw [O.nam]
    cases e : (ns.zip xs).lookup m with
    | none => rfl
    | some v =>
      exact absurd (zip_mem e) hnf
  unfold frD at h4
  split at h4
  · cases h4
    exact ⟨p, dx, _, rfl, e2.sub _ _ h5, hl, F2, _, _, e2.sub, .cons rv .nil, h3, fun v F' H' e3 rv => q v F' H' (e2.trans e3) rv⟩
  · cases h4
end
/-! ### a == b, a of a class with its own == -/
theorem looks_ty {X : Cx} {pins : List (Addr × Obj)} {σ : L2.St} {H F : Hp} {s : Shared} {T : CT} {v : V} {u : Value} {d : D} {ty : String} (I : Inv X pins σ H s) (hx : Ex F H) (r : RelV v u) (h : Dv X.K T F v d) (e : dTy d = some ty) : PySem.W.Looks (model X.prog X.w) s.heap (typeOf u) (.type ty) := by
  cases h with
  | non => cases e; cases (show u = Value.none from r); exact fun A Q E s k q => wpAny_typeOf (T := "NoneType") rfl q
  | bl b => cases e; cases (show u = Value.bool b from r); exact fun A Q E s k q => wpAny_typeOf (T := "bool") rfl q
  | int b => cases e; obtain ⟨t, z⟩ := (show ∃ t, u = Value.int b t from r); cases z; exact fun A Q E s k q => wpAny_typeOf (T := "int") rfl q
  | str b => cases e; obtain ⟨t, z⟩ := (show ∃ t, u = Value.str b t from r); cases z; exact fun A Q E s k q => wpAny_typeOf (T := "str") rfl q
  | @lst a xs ds h1 h2 =>
    cases e
    cases (show u = Value.ref a from r)
    obtain ⟨_, _, n, _, h3⟩ := (show ObjOk X.prog X.w H s.heap a (.lst xs) from I.hok a _ (hx _ _ h1))
    exact fun A Q E s k q => wpAny_typeOf_ref (k _ _ h3) q
  | @tup a xs ds h1 h2 =>
    cases e
    cases (show u = Value.ref a from r)
    have hc : ∃ o, s.heap.get? a = some o ∧ o.cls = .type "tuple" := by
      rcases h1 with (h1 | ⟨ob, h1⟩) | ⟨o, its, n, h1, h3, _⟩
      · obtain ⟨_, _, _, o, h3, h4, _⟩ := (show ObjOk X.prog X.w H s.heap a (.tup xs) from I.hok a _ (hx _ _ h1))
        exact ⟨o, h3, h4⟩
      · obtain ⟨_, _, _, _, o, h3, h4, _⟩ := (show ObjOk X.prog X.w H s.heap a (.frz ob (.tup xs)) from I.hok a _ (hx _ _ h1))
        exact ⟨o, h3, h4⟩
      · exact ⟨o, I.kIn _ _ h1, h3⟩
    obtain ⟨o, h3, h4⟩ := hc
    exact fun A Q E s k q => wpAny_typeOf_ref (k _ _ h3) (by rw [h4]; exact q)
  | obj _ _ _ => cases e
/-- an own == called -/
def rOwnEq (K : PySem.W.Frag) (T : CT) (c : Nat) (sp : Sp) : R2 := fun x y H Q => ∃ F ds d, Ex F H ∧ Dv K T F x (.obj c ds) ∧ Dv K T F y d ∧ ((dTy d).isSome ∨ isObj c d = true) ∧ sp [x, y] H (fun v H' => (∃ b, v = .bl b) ∧ Q v H') E0
theorem op_ownEq {X : Cx} {T : CT} {c : Nat} {ns : List Str} {sp : Sp} {k : Nat} {f : Addr} {fd : FuncData} {ps : List Str} {CXc : CXT} (O : ClsOk X.K T c ns) (F : FnOk X.prog X.w X.K X.mg X.base CXc k f fd ps sp) (hM : Meth X.K (T.cls c) "__eq__" f) (hB : Binds X.K fd ps [])
    (hr : Room k X.A) (hx : Passes CXc X E0) : OpR X (compareOp .Eq) (rOwnEq X.K T c sp) := by
  intro pins s σ H x y v u Q I rx ry hq
  obtain ⟨F0, ds, d, hF, dx, dy, hd, q⟩ := hq
  show wpAny (model X.prog X.w) X.A (richCompare .Eq v u) (EP X pins σ Q) X.xe s
  obtain ⟨a, ax, xs, rfl, h1, _, _⟩ := dv_obj dx
  cases (show v = Value.ref a from rx)
  obtain ⟨mA, J, _⟩ := ins_get I.hok (hF _ _ h1)
  obtain ⟨od, J, _⟩ := J.look
  obtain ⟨m, hFr⟩ := I.fr
  have fin : ∀ tb, PySem.W.Looks (model X.prog X.w) s.heap (typeOf u) tb → PySem.W.notFirst X.K (T.cls c) tb = true → wpAny (model X.prog X.w) X.A (richCompare .Eq (.ref a) u) (EP X pins σ Q) X.xe s := fun tb hl hn => by
    refine PySem.W.cmp_K (op := .Eq) (tb := tb) hr.units0 hFr I.ok.mod.kin J hl hn hM.at_ hM.fn ?_
    refine wpAny_mono (run_fn (us := [.ref a, u]) (vs := [.ref a, y]) (dvs := []) F hr hB .nil hx I (.cons rfl (.cons ry .nil)) (by rw [List.append_nil]; exact q)) (fun w s' z => ?_) fun _ _ x => x
    obtain ⟨z', H', I', rz, ⟨b, eb⟩, qz⟩ := z
    subst eb
    cases (show w = Value.bool b from rz)
    exact ⟨.bl b, H', I', rfl, qz⟩
  rcases hd with hd | hd
  · obtain ⟨ty, e⟩ := Option.isSome_iff_exists.mp hd
    exact fin _ (looks_ty I hF ry dy e) (O.nf ty (dTy_six e))
  · cases d <;> simp only [isObj, decide_eq_true_eq] at hd
    all_goals try (cases hd; done)
    rename_i c' ds'
    subst hd
    obtain ⟨b, bx, ys, rfl, h2, _, _⟩ := dv_obj dy
    cases (show u = Value.ref b from ry)
    obtain ⟨mB, J', _⟩ := ins_get I.hok (hF _ _ h2)
    obtain ⟨od', J', _⟩ := J'.look
    exact fin _ J'.type (by simp [PySem.W.notFirst])
def dEqO (c : Nat) (mm : List D → Option FR) : D → D → Option D := fun x y => if isObj c x then (if (dTy y).isSome || isObj c y then ((mm [x, y]).bind frD).bind fun d => match d with | .bl b => some (.bl b) | _ => none else none) else dEq x y
section
variable {G : Fam} {T : CT} {a b : Expr} {f g : XE} {p pos apos : Pos} {c : Nat} {ns : List Str} {mm : List D → Option FR}
theorem isObj_some {d : D} (h : isObj c d = true) : ∃ ds, d = .obj c ds := by
  cases d <;> simp only [isObj, decide_eq_true_eq] at h
  all_goals try (cases h; done)
  subst h
  exact ⟨_, rfl⟩
theorem rv_ownEq {K : PySem.W.Frag} : RvV K T (fun x y H Q => rOwnEq K T c (spM K T mm) x y H Q ∨ rEqD K x y H Q) (dEqO c mm) := by
  intro x y d1 d2 d F1 H1 s rx ry h Q q
  unfold dEqO at h
  split at h
  case isFalse => exact .inr (rv_eq x y d1 d2 d F1 H1 s rx ry h Q q)
  rename_i ho
  split at h
  case isFalse => cases h
  rename_i hd
  obtain ⟨d3, h3, h4⟩ := Option.bind_eq_some_iff.mp h
  obtain ⟨r, h5, h6⟩ := Option.bind_eq_some_iff.mp h3
  obtain ⟨ds, rfl⟩ := isObj_some ho
  split at h4
  case h_2 => cases h4
  cases h4
  unfold frD at h6
  split at h6
  case h_2 => cases h6
  cases h6
  refine .inl ⟨F1, ds, d2, s, rx, ry, ?_, F1, _, _, s, .cons rx (.cons ry .nil), h5, fun v F' H' e rv => ⟨⟨_, dv_bl rv⟩, q v F' H' e rv⟩⟩
  simpa using hd
theorem ce_eqO {k : Nat} {ps : List Str} (O : ClsOk G.K T c ns) (C : CalM G.P G.w G.K G.mg G.base T c "__eq__" k ps mm) (hku : k ≤ G.u) (hx : ∀ i, Passes (L2.CX G.P G.w) (G.X i) E0) (ha : CE G T a f) (hb : CE G T b g) : CE G T (.Compare a [.Eq] [b] pos) (xOp (dEqO c mm) f g) := by
  obtain ⟨fa, fd, Fo, hM, hB⟩ := C
  refine ce_cmp (fun i => OpR.or2 ?_ (by rw [← G.hK i]; exact op_eqD (G.hr i).units)) rv_ownEq ha hb (nomark _)
  have h := op_ownEq (X := G.X i) (by rw [G.hK i]; exact O) (Fam.fn Fo i) (by rw [G.hK i]; exact hM) (by rw [G.hK i]; exact hB) ((G.hr i).mono hku) (hx i)
  rw [G.hK i] at h
  exact h
end
end Mr

set_option Elab.async false
set_option linter.all false
set_option maxRecDepth 100000
set_option maxHeartbeats 2000000
/-! instances made: an __init__ that stores its fields one by one -/
namespace Mr
open PySem PySem.Spec PyProof.Rows L2
open Evl (Ex)
/-- within an __init__: the instance lies at a, new, not frozen yet, with the fields dn stored -/
structure InI (K : PySem.W.Frag) (T : CT) (F0 HB : Hp) (a dx C : Addr) (dn : List Str) (F H : Hp) (s : S) (σ : L2.St) (xs : List V) (ds : List D) : Prop where
  hx : Ex F H
  e0 : Ext F0 HB F H
  sl : Sl K T F s σ
  s0 : ∀ d, s[0]? ≠ some (some d)
  z0 : σ[0]? = some (some (.ref a))
  fa : F a = none
  ba : HB a = none
  ha : H a = some (.ins C dx (dn.zip xs))
  lx : xs.length = dn.length
  hd : DvA K T F xs ds
def FinI (K : PySem.W.Frag) (T : CT) (F0 HB : Hp) (a : Addr) (Nx : Hp → Prop) (E : XK) : FR → Prop
  | .ret d => ∀ F' H', Ext F0 HB F' H' → Dv K T F' (.ref a) d → Nx H'
  | .exc c x => ∀ dd v F' H', Ext F0 HB F' H' → H' dd = some (.xd [(("value" : Str), v)]) → Dv K T F' v x → E (.ref (T.exc c)) (some dd) H'
def CSI (G : Fam) (T : CT) (E : XK) (c : Nat) (dn : List Str) (sts : List Stmt) (M : S → List D → Option FR) : Prop := ∃ t : TS, (∀ i, PSs (G.X i) sts t) ∧
  ∀ F0 HB a dx F H s σ xs ds r (Dn : Ends), InI G.K T F0 HB a dx (T.cls c) dn F H s σ xs ds → M s ds = some r → FinI G.K T F0 HB a (fun H' => ∀ σ, Dn.nx σ H') E r → t Dn σ H
theorem putF_new {x : Str} {v : V} : ∀ {dn : List Str} {xs : List V}, x ∉ dn → xs.length = dn.length → putF x v (dn.zip xs) = (dn ++ [x]).zip (xs ++ [v])
  | [], [], _, _ => rfl
  | n :: dn, y :: xs, h, hl => by
    have h1 : n ≠ x := fun e => h (by rw [e]; exact List.mem_cons_self)
    show (if n = x then _ else _) = _
    rw [if_neg h1]
    exact congrArg ((n, y) :: ·) (putF_new (fun z => h (List.mem_cons_of_mem _ z)) (by simpa using hl))
section
variable {G : Fam} {T : CT} {E : XK} {c : Nat} {ns dn : List Str} {st : Stmt} {sts : List Stmt} {e : Expr} {f : XE} {g : S → Option Out} {M : S → List D → Option FR} {p pos pos' : Pos}
def iNil (c : Nat) : S → List D → Option FR := fun _ ds => some (.ret (.obj c ds))
def iFld (f : XE) (M : S → List D → Option FR) : S → List D → Option FR := fun s ds => (f s).bind fun d => M s (ds ++ [d])
def iSt (g : S → Option Out) (M : S → List D → Option FR) : S → List D → Option FR := fun s ds => (g s).bind fun o => match o with
  | .nx s' => M (wipeS s' [0]) ds
  | .ex c x => some (.exc c x)
  | _ => none
theorem csi_nil (O : ClsOk G.K T c ns) : CSI G T E c ns [] (iNil c) := by
  refine ⟨tNext, fun i => pss_nil, fun F0 HB a dx F H s σ xs ds r Dn I hm hf => ?_⟩
  cases hm
  refine hf (upd F a (.ins (T.cls c) dx (ns.zip xs))) H ⟨I.e0.fz.trans (Evl.Ex.new I.fa), fun q u h => ?_, fun q u h1 h2 => ?_⟩ (.obj (by rw [upd_same, O.nam]) (by rw [O.nam]; exact I.lx) (dva_mono (Evl.Ex.new I.fa) _ _ I.hd)) σ
  · by_cases hq : q = a
    · subst hq; rw [upd_same] at h; cases h; exact I.ha
    · rw [upd_ne hq] at h; exact I.hx q u h
  · have hq : q ≠ a := ne_of_none h2 I.ba
    rw [upd_ne hq]
    exact I.e0.own q u h1 h2
theorem csi_fld {x sf : Str} (O : ClsOk G.K T c ns) (he : CE G T e f) (hr : CSI G T E c (dn ++ [x]) sts M) (hxn : x ∈ ns := by decide) (hdn : x ∉ dn := by decide) (hl : dn.length < 1000 := by decide) (hN : ∀ i, (G.X i).N[0]? = some sf := by intro _; rfl)
    (hv : ∀ i, Vis (G.X i).env.scope sf := by intro _; first | exact Or.inl rfl | exact Or.inr (Or.inl rfl) | exact Or.inr (Or.inr rfl)) (hd : (sf == ("__debug__" : Str)) = false := by decide) (hcd : (sf == ("__classdict__" : Str)) = false := by decide)
    (hs : ∀ i, swapsWith e (some (.Attribute (.Name sf p) x pos')) pos.line (G.X i).env = pure false := by intro _; rfl) :
    CSI G T E c dn (.Assign [.Attribute (.Name sf p) x pos'] e pos :: sts) (iFld f M) := by
  obtain ⟨te, he, ve⟩ := he
  obtain ⟨t, ht, hev⟩ := hr
  refine ⟨tSeq (sFld G.K (tVar 0) te x) t, fun i => pss_cons (by rw [← G.hK i]; exact ps_fld (pe_var (hN i) (hv i) hd hcd) (he i) (hs i)) (ht i), fun F0 HB a dx F H s σ xs ds r Dn I hm hf => ?_⟩
  obtain ⟨d, h1, h2⟩ := Option.bind_eq_some_iff.mp hm
  refine ve s σ F H d I.hx I.sl h1 F H (Ext.refl I.hx) _ fun v F2 H2 e2 rv => ?_
  obtain ⟨h3, h4⟩ := e2.own a _ I.fa I.ha
  refine ⟨_, I.z0, a, T.cls c, dx, dn.zip xs, rfl, h4, O.cls, O.no x hxn, ?_, ?_⟩
  · rw [List.length_zip]
    omega
  refine hev F0 HB a dx F2 _ s σ (xs ++ [v]) (ds ++ [d]) r Dn ⟨fun q u h => ?_, ⟨I.e0.fz.trans e2.fz, fun q u h => ?_, fun q u h5 h6 => ?_⟩, ⟨I.sl.len, fun i d hi => ?_⟩, I.s0, I.z0, h3, I.ba, ?_, ?_, ?_⟩ h2 hf
  · rw [upd_ne (ne_of_none h h3)]; exact e2.sub q u h
  · rw [upd_ne (ne_of_none h h3)]; exact e2.sub q u h
  · have hq : q ≠ a := ne_of_none h6 I.ba
    rw [upd_ne hq]
    obtain ⟨h7, h8⟩ := I.e0.own q u h5 h6
    exact e2.own q u h7 h8
  · obtain ⟨w, h5, h6⟩ := I.sl.at_ i d hi
    exact ⟨w, h5, dv_mono e2.fz _ _ h6⟩
  · rw [upd_same, putF_new hdn I.lx]
  · rw [List.length_append, List.length_append, I.lx]
    rfl
  · exact dva_app (dva_mono e2.fz _ _ I.hd) (.cons rv .nil)
theorem csi_st (hs : CS G T E [0] [0] st g) (hr : CSI G T E c dn sts M) : CSI G T E c dn (st :: sts) (iSt g M) := by
  obtain ⟨t1, h1, hv⟩ := hs
  obtain ⟨t, ht, hev⟩ := hr
  refine ⟨tSeq t1 t, fun i => pss_cons (h1 i) (ht i), fun F0 HB a dx F H s σ xs ds r Dn I hm hf => ?_⟩
  obtain ⟨o, h3, h4⟩ := Option.bind_eq_some_iff.mp hm
  have z : ∀ i, i ∈ [0] → i = 0 := fun i hi => by simpa using hi
  refine hv F H (fun i => if i = 0 then some a else none) s σ F H o { Dn with nx := t Dn } (fun i hi => if_neg (by simpa using hi)) ⟨I.hx, Ext.refl I.hx, I.sl.len, fun i d _ h => I.sl.at_ i d h, fun i d hi h => ?_, fun i j _ d _ hi hj _ h => ?_, fun i b hi h => ?_⟩ h3 ?_
  · rw [z i hi] at h; exact absurd h (I.s0 d)
  · rw [z i hi] at h; exact absurd h (I.s0 d)
  · have := z i hi
    subst this
    cases h
    exact I.z0
  · cases o with
    | nx s' =>
      intro F1 H1 σ1 _ r1
      obtain ⟨h5, h6⟩ := r1.e0.own a _ I.fa I.ha
      refine hev F0 HB a dx F1 H1 (wipeS s' [0]) σ1 xs ds r Dn ⟨r1.hx, I.e0.trans r1.e0, r1.sl, fun d h => ?_, r1.ga_ 0 a (by simp) rfl, h5, I.ba, h6, I.lx, dva_mono r1.e0.fz _ _ I.hd⟩ h4 hf
      exact (wipeS_some h).2 (by simp)
    | ex c' x =>
      cases h4
      exact fun dd v F1 H1 e1 hH rv => hf dd v F1 H1 (I.e0.trans e1) hH rv
    | rt d s' => cases h4
    | bk s' => cases h4
    | ct s' => cases h4
end
/-- what an __init__ promises: m of its other arguments tells the fields, or what is raised -/
def spI (K : PySem.W.Frag) (T : CT) (c : Nat) (m : List D → Option FR) : Sp := fun us H Qi E => ∃ a dx vs HB F0 ds r, us = .ref a :: vs ∧ H = upd (upd HB dx (.own a)) a (.ins (T.cls c) dx []) ∧ HB a = none ∧ HB dx = none ∧ dx ≠ a ∧ Ex F0 HB ∧ DvA K T F0 vs ds ∧ m ds = some r ∧
  FinI K T F0 HB a (fun H' => Qi .non H') E r
def defI (n slots : Nat) (M : S → List D → Option FR) : List D → Option FR := fun ds => if ds.length + 1 = n then M (none :: (ds.map some ++ List.replicate (slots - n) none)) [] else none
def CalK (P : Program) (w : World) (K : PySem.W.Frag) (mg : Str → Option Value) (base : Heap) (T : CT) (c : Nat) (x : Str) (k : Nat) (ps : List Str) (m : List D → Option FR) : Prop :=
  ∃ f fd, FnOk P w K mg base (L2.CX P w) k f fd ps (spI K T c m) ∧ Mk K (T.cls c) f ∧ mg x = some (.ref (T.cls c)) ∧ Binds K fd ps []
section
variable {P : Program} {w : World} {K : PySem.W.Frag} {mg : Str → Option Value} {base : Heap} {T : CT} {c : Nat} {ns : List Str}
theorem init_mirror {x qual : Str} {st : Stmt} {f : Addr} {fd : FuncData} {N ps : List Str} {k : Nat} {M : S → List D → Option FR} (F : Fun K x qual st f fd) (Sc : FnScope N ps (defScope st)) (hp0 : 0 < ps.length) (hlen : ps.length ≤ N.length)
    (hb : ∀ cdv A outer s H E hr, CSI (fam P w K mg base N qual (defScope st) f k cdv A outer s H E hr) T E c [] (defBody st) M) : FnOk P w K mg base (L2.CX P w) (k + 1) f fd ps (spI K T c (defI ps.length N.length M)) := by
  have hl : ∀ vs H Q E, spI K T c (defI ps.length N.length M) vs H Q E → vs.length = ps.length := fun us H Q E ⟨a, dx, vs, HB, F0, ds, r, h1, _, _, _, _, _, h2, h3, h4⟩ => by
    unfold defI at h3
    split at h3
    · rename_i hq
      rw [h1, List.length_cons, dva_len h2]; assumption
    · cases h3
  refine F.okX Sc hl fun cdv A outer s H vs Q E hr h => ?_
  have hvl := hl vs H Q E h
  obtain ⟨a, dx, vs, HB, F0, ds, r, rfl, rfl, ba, bd, hne, hx, hd, hm, hfin⟩ := h
  obtain ⟨t, ht, hev⟩ := hb cdv A outer s _ E hr
  refine ⟨t, ht (), ?_⟩
  unfold defI at hm
  split at hm
  case isFalse => cases hm
  rename_i hdl
  have fa : F0 a = none := free0 hx ba
  have up : ∀ q u, HB q = some u → (upd (upd HB dx (.own a)) a (.ins (T.cls c) dx [])) q = some u := fun q u h => by
    rw [upd_ne (ne_of_none h ba), upd_ne (ne_of_none h bd)]; exact h
  refine hev F0 HB a dx F0 _ _ (L2.start N (.ref a :: vs)) [] [] r _ ⟨fun q u h => up q u (hx q u h), ⟨Evl.Ex.refl _, fun q u h => up q u (hx q u h), fun q u h1 h2 => ⟨h1, up q u h2⟩⟩, ⟨?_, fun i d hi => ?_⟩, fun d h => (by cases h), rfl, fa, ba, upd_same, rfl, .nil⟩ hm ?_
  · unfold L2.start
    simp only [List.length_append, List.length_map, List.length_replicate, List.length_cons] at hvl ⊢
    have := dva_len hd
    omega
  · cases i with
    | zero => cases hi
    | succ k =>
      rw [List.getElem?_cons_succ] at hi
      by_cases hlt : k < ds.length
      · rw [List.getElem?_append_left (by rw [List.length_map]; exact hlt), List.getElem?_map] at hi
        obtain ⟨d', h3, h4⟩ := Option.map_eq_some_iff.mp hi
        cases h4
        obtain ⟨v, h5, h6⟩ := dva_get' hd h3
        refine ⟨v, ?_, h6⟩
        unfold L2.start
        rw [List.getElem?_append_left (by rw [List.length_map, List.length_cons, dva_len hd]; omega), List.getElem?_map, List.getElem?_cons_succ, h5]
        rfl
      · rw [List.getElem?_append_right (by rw [List.length_map]; omega), List.getElem?_replicate] at hi
        split at hi <;> cases hi
  · cases r with
    | ret d => exact fun F' H' e rv _ => hfin F' H' e rv
    | exc c' x' => exact hfin
end
section
variable {G : Fam} {T : CT} {c : Nat} {ns : List Str} {e : Expr} {es : List Expr} {fa : XA} {p pos : Pos}
theorem ce_make {x : Str} {ps : List Str} {k : Nat} {m : List D → Option FR} (C : CalK G.P G.w G.K G.mg G.base T c x k ps m) (hku : k + 1 ≤ G.u) (hx : ∀ i, Passes (L2.CX G.P G.w) (G.X i) E0) (ha : CA G T (e :: es) fa) (hg : ∀ i, Gl (G.X i) x := by intro _; rfl) (hdb : (x == ("__debug__" : Str)) = false := by decide)
    (he : ∀ i, starEach (e :: es) (G.X i).env = (false, eval e (G.X i).env) :: starEach es (G.X i).env := by intro _; rfl) (hpl : ∀ i, (backTo pos (starEach es (G.X i).env)).any (·.1) = false := by intro _; rfl) :
    CE G T (.Call (.Name x p) (e :: es) [] pos) (xCall m fa) := by
  obtain ⟨f, fd, F, M, hm, hb⟩ := C
  obtain ⟨ta, ha, va⟩ := ha
  refine ⟨tMake (T.cls c) (spI G.K T c m) [] E0 ta, fun i => pe_make (by rw [G.hK i]; exact M) (Fam.fn F i) ((G.hr i).mono hku) (hg i) (by rw [G.hm i]; exact hm) (by rw [G.hK i]; exact hb) .nil (hx i) (ha i) hdb (he i) (hpl i), fun s σ F0 H d hx hs hf F1 H1 e1 Q q => ?_⟩
  unfold xCall at hf
  simp only [Option.bind_eq_some_iff] at hf
  obtain ⟨ds, h1, r, h2, h3⟩ := hf
  refine va s σ F0 H ds hx hs h1 F1 H1 e1 _ fun vs F2 H2 e2 rs a dx n1 n2 hne => ?_
  unfold frD at h3
  split at h3
  · cases h3
    exact ⟨a, dx, vs ++ [], H2, F2, ds, _, rfl, rfl, n1, n2, hne, e2.sub, by rw [List.append_nil]; exact rs, h2, fun F' H' e3 rv => ⟨rfl, q _ F' H' (e2.trans e3) rv⟩⟩
  · cases h3
end
end Mr

set_option Elab.async false
set_option linter.all false
set_option maxRecDepth 100000
set_option maxHeartbeats 2000000
/-! defs that are called while no list is being shown (repr asks for that); repr; is -/
namespace Mr
open PySem PySem.Spec PyProof.Rows L2
open Evl (Ex)
/-- as FnOk, called where nothing is being shown -/
structure FnG (P : Program) (w : World) (K : PySem.W.Frag) (mg : Str → Option Value) (base : Heap) (CX : CXT) (k : Nat) (f : Addr) (fd : FuncData) (ps : List Str) (sp : Sp) : Prop where
  len : ∀ vs H Q E, sp vs H Q E → vs.length = ps.length
  run : ∀ (A : Around) (outer : List Env) (s : Shared) (H : Hp) (args : Args) (us : List Value) (vs : List V) (Q : VK) (E : XK), A.guards = some [] → Room k A → Env0 P w K mg base A outer s H → BindsTo s fd args (ps.zip us) → Vals vs us → sp vs H Q E →
    codeAny (model P w) A (.call (.ref f) args) (CR CX outer P w H s Q E) s
theorem FnG.of {P : Program} {w : World} {K : PySem.W.Frag} {mg : Str → Option Value} {base : Heap} {CX : CXT} {k : Nat} {f : Addr} {fd : FuncData} {ps : List Str} {sp : Sp} (F : FnOk P w K mg base CX k f fd ps sp) : FnG P w K mg base CX k f fd ps sp :=
  ⟨F.len, fun A outer s H args us vs Q E _ => F.run A outer s H args us vs Q E⟩
theorem FnG.okX {P : Program} {w : World} {K : PySem.W.Frag} {mg : Str → Option Value} {base : Heap} {CX : CXT} {x qual : Str} {st : Stmt} {f : Addr} {fd : FuncData} {N ps : List Str} {k : Nat} {sp : Sp} (F : Fun K x qual st f fd) (S : FnScope N ps (defScope st)) (len : ∀ vs H Q E, sp vs H Q E → vs.length = ps.length)
    (hbody : ∀ (cdv : Value) (A : Around) (outer : List Env) (s : Shared) (H : Hp) (vs : List V) (Q : VK) (E : XK), A.guards = some [] → Room k (A.deeper (envOfC qual (defScope st) s.heap.objs.size f cdv)) → sp vs H Q E →
      ∃ t, PSs (cxOf CX P w K mg base N qual (defScope st) f cdv A outer s H E) (defBody st) t ∧ t { nx := fun _ H' => Q .non H', rt := Q } (start N vs) H) : FnG P w K mg base CX (k + 1) f fd ps sp := by
  obtain ⟨oc, od, kV, doc, pm, an, cdv, ct, osl, rfl, lk, hcd⟩ := F.ex
  refine ⟨len, fun A outer s H args us vs Q E hgd hr e0 hb r hsp => ?_⟩
  have hl := len _ _ _ _ hsp
  have KX : K.In s.heap := e0.mod.kin.keeps fun b o e => (e0.bs b o e).1
  have lim : s.heap.NoLimit := e0.mod.nolimit.keeps fun b o e => (e0.bs b o e).1
  have par : ∀ y ∈ ps.zip us, (defScope st).names.lookup y.1 = some .local ∨ ((defScope st).names.lookup y.1 = some .cell ∧ ((cellsFrom (s.heap.objs.size + 1) (defScope st).names []).lookup y.1).isSome = true) := fun y hy => by
    rcases S.par y.1 (List.of_mem_zip (show (y.1, y.2) ∈ _ from hy)).1 with q | q
    · exact .inl q
    · exact .inr ⟨q, PySem.W.cellsFrom_some _ _ _ (.inl q)⟩
  refine codeAny_call_function hr.depth (KX _ _ lk) rfl S.co S.gen rfl (PySem.W.codeRec_of KX hcd) (hb _ _ _ _ ?_)
  refine wpAny_newFunctionEnv_cells S.kind par fun env he s1 x1 => ?_
  subst he
  refine ⟨lim.keeps x1.toInCall.keep, codeAny_func ?_⟩
  obtain ⟨t, ht, hq⟩ := hbody cdv A outer s H vs Q E hgd (hr.deeper _) hsp
  refine wpAny_mono (ht.run [] s1 (start N vs) H _ (inv_start S hr.hd e0 hl r x1) hq) (fun fl s' hs => ?_) fun e s' hs => hs
  cases fl with
  | ret u =>
    obtain ⟨v, σ', H', J, rv, q⟩ := hs
    exact ⟨v, H', J.os, J.bare, J.base, J.hok, rv, q⟩
  | next =>
    obtain ⟨σ', H', J, q⟩ := hs
    exact ⟨V.non, H', J.os, J.bare, J.base, J.hok, rfl, q⟩
  | brk => exact hs.elim fun _ h => h.elim fun _ h => h.2.elim
  | cont => exact hs.elim fun _ h => h.elim fun _ h => h.2.elim
section
variable {X : Cx} {CX : CXT} {k : Nat} {f : Addr} {fd : FuncData} {ps : List Str} {sp : Sp} {E : XK} {x : Str} {p pos : Pos} {e : Expr} {es : List Expr} {t : TA}
theorem run_fnG {pins : List (Addr × Obj)} {σ : L2.St} {H : Hp} {s : Shared} {Q : VK} {us : List Value} {vs : List V} (F : FnG X.prog X.w X.K X.mg X.base CX k f fd ps sp) (hgd : X.A.guards = some []) (hr : Room k X.A) (hb : L2.Binds X.K fd ps []) (hx : Passes CX X E)
    (I : Inv X pins σ H s) (r : Vals vs us) (h : sp vs H Q E) : wpAny (model X.prog X.w) X.A (call (.ref f) us) (EP X pins σ Q) X.xe s := by
  have hl : (us ++ ([] : List Value)).length = ps.length := by rw [List.append_nil, ← r.length]; exact F.len _ _ _ _ h
  have hbt := hb s us I.kIn hl
  rw [List.append_nil] at hbt
  refine wpAny_call (codeAny_mono (F.run X.A X.stack s H ⟨us, []⟩ us vs Q E hgd hr I.env0 hbt r h) fun r s' hq => ?_)
  cases r with
  | error e => exact hx pins σ H s e s' I hq
  | ok fl =>
    cases fl with
    | ret u => exact I.after hq
    | next => exact hq.elim
    | brk => exact hq.elim
    | cont => exact hq.elim
theorem pe_callGd (F : FnG X.prog X.w X.K X.mg X.base CX k f fd ps sp) (hgd : X.A.guards = some []) (hr : Room k X.A) (hg : Gl X x) (hm : X.mg x = some (.ref f)) (hk : PySem.W.keepIn X.K (.ref f) = true) (hb : L2.Binds X.K fd ps []) (hx : Passes CX X E)
    (ha : PA X (e :: es) t) (hdb : (x == ("__debug__" : Str)) = false := by decide) (he : starEach (e :: es) X.env = (false, eval e X.env) :: starEach es X.env := by rfl) (hpl : (backTo pos (starEach es X.env)).any (·.1) = false := by rfl) :
    PE X (.Call (.Name x p) (e :: es) [] pos) (tCall sp [] E t) := by
  refine ⟨fun pins s σ H Q I h => ?_⟩
  refine wpAny_Call_Name_kw (ld_glob I hg hm ?_ hdb)
  refine PySem.W.callWith_K (h₀ := X.base) I.ok.mod.kin hk (thn (ha.run pos pins s σ H _ I h) fun us s1 ⟨vs, H1, I1, r, q⟩ => ⟨I1.kIn, ?_⟩) he hpl
  exact run_fnG F hgd hr hb hx I1 r (by have q' : sp (vs ++ []) H1 Q E := q; rw [List.append_nil] at q'; exact q')
/-! ### repr -/
def rRepr (K : PySem.W.Frag) : List V → Hp → VK → Prop := fun xs H Q => ∃ x d, xs = [x] ∧ Dp K H x d ∧ d.showable = true ∧ d.hasDict = false ∧ d.depth ≤ 100 ∧ d.shown.length ≤ sizeLine ∧ Q (.str d.shown) H
theorem call_repr (hgd : X.A.guards = some []) (hr : Room 0 X.A) : CallR X (.builtin "repr") (rRepr X.K) := by
  intro pins s σ H xs us Q I r h
  obtain ⟨x, d, rfl, hd, h1, h2, h3, h4, q⟩ := h
  cases r with
  | cons rx rn =>
    rename_i u _
    cases rn
    have un := hr.un
    obtain ⟨as, hR⟩ := Dp.reads I d x u hd rx
    cases hR with
    | list a b c e => exact repr_of_reads' (.list a b c e) h1 (fun z => by rw [h2] at z; cases z) hgd (by omega) (fun _ _ e => e) (fun h' u tk hk => ⟨.str _, H, I.kept hk, ⟨_, rfl⟩, q⟩) h4
    | tuple a b c e => exact repr_of_reads' (.tuple a b c e) h1 (fun z => by rw [h2] at z; cases z) hgd (by omega) (fun _ _ e => e) (fun h' u tk hk => ⟨.str _, H, I.kept hk, ⟨_, rfl⟩, q⟩) h4
    | dict a b c e g => exact repr_of_reads' (.dict a b c e g) h1 (fun z => by rw [h2] at z; cases z) hgd (by omega) (fun _ _ e => e) (fun h' u tk hk => ⟨.str _, H, I.kept hk, ⟨_, rfl⟩, q⟩) h4
    | none => exact PySem.P.repr_of_none ⟨.str _, H, I.tok _, ⟨_, rfl⟩, q⟩
    | bool b => exact PySem.P.repr_of_bool ⟨.str _, H, I.tok _, ⟨_, rfl⟩, q⟩
    | int i t => exact PySem.P.repr_of_int (by simpa [PyData.showable] using h1) ⟨.str _, H, I.tok _, ⟨_, rfl⟩, q⟩
    | str y t => exact PySem.P.repr_of_str ⟨.str _, H, I.tok _, ⟨_, rfl⟩, q⟩ h4
end
def dRepr : D → Option D := fun d => d.py.bind fun p => if p.showable = true ∧ p.hasDict = false ∧ p.depth ≤ 100 ∧ p.shown.length ≤ 100000 then some (.str p.shown) else none
section
variable {K : PySem.W.Frag} {T : CT}
theorem rc_repr : RcV K T (rRepr K) (on1 dRepr) := by
  intro vs ds d F1 H1 s hs h Q q
  replace h := on1_some h; obtain ⟨x, rfl, h⟩ := h
  obtain ⟨v, rfl, rx⟩ := dva1 hs
  obtain ⟨p, h1, h2⟩ := Option.bind_eq_some_iff.mp h
  split at h2
  case isFalse => cases h2
  rename_i hc
  cases h2
  exact ⟨v, p, rfl, dp_of _ _ _ (dv_mono s _ _ rx) h1, hc.1, hc.2.1, hc.2.2.1, Nat.le_trans hc.2.2.2 (by decide), q _ F1 H1 (Ext.refl s) (.str _)⟩
/-! ### is -/
def dNone (neg : Bool) : D → Option D
  | .non => some (.bl (!neg))
  | _ => some (.bl neg)
theorem dv_none {F : Hp} {v : V} {d : D} (h : Dv K T F v d) : (d = .non ∧ v = .non) ∨ (dNone false d = some (.bl false) ∧ dNone true d = some (.bl true) ∧ v ≠ .non) := by
  cases h <;> first | exact .inl ⟨rfl, rfl⟩ | exact .inr ⟨rfl, rfl, fun z => by cases z⟩
def dIs : D → D → Option D
  | .bl a, .bl b => some (.bl (decide (a = b)))
  | _, _ => none
def dIsNot : D → D → Option D
  | .bl a, .bl b => some (.bl (!decide (a = b)))
  | _, _ => none
theorem rv_is : RvV K T rIsB dIs := by
  intro x y d1 d2 d F1 H1 s rx ry h Q q
  unfold dIs at h; split at h
  case h_2 => cases h
  cases h
  exact ⟨_, _, dv_bl rx, dv_bl ry, q _ F1 H1 (Ext.refl s) (.bl _)⟩
theorem rv_isnot : RvV K T rNotB dIsNot := by
  intro x y d1 d2 d F1 H1 s rx ry h Q q
  unfold dIsNot at h; split at h
  case h_2 => cases h
  cases h
  exact ⟨_, _, dv_bl rx, dv_bl ry, q _ F1 H1 (Ext.refl s) (.bl _)⟩
end
section
variable {G : Fam} {T : CT} {a b e : Expr} {es : List Expr} {f g : XE} {fa : XA} {p pos apos pos' : Pos} {c : Nat} {ns : List Str} {mm : List D → Option FR}
theorem ce_repr (B : Bi G.mg) (hgd : ∀ i, (G.X i).A.guards = some []) (ha : CA G T [a] fa) (hg : ∀ i, Gl (G.X i) "repr" := by intro _; rfl) (he : ∀ i, starEach [a] (G.X i).env = (false, eval a (G.X i).env) :: starEach [] (G.X i).env := by intro _; rfl) (hpl : ∀ i, (backTo pos (starEach [] (G.X i).env)).any (·.1) = false := by intro _; rfl) : CE G T (.Call (.Name "repr" p) [a] [] pos) (xB (on1 dRepr) fa) :=
  ce_B (fun i => by rw [← G.hK i]; exact call_repr (hgd i) ((G.hr i).mono (Nat.zero_le _))) rc_repr B.repr (by decide +kernel) ha hg (by decide) (by decide) he hpl
theorem ce_is (ha : CE G T a f) (hb : CE G T b g) (hm : behindInMarks .Is b = false := by rfl) : CE G T (.Compare a [.Is] [b] pos) (xOp dIs f g) := ce_cmp (fun i => op_isBl) rv_is ha hb hm
theorem ce_isnot (ha : CE G T a f) (hb : CE G T b g) (hm : behindInMarks .IsNot b = false := by rfl) : CE G T (.Compare a [.IsNot] [b] pos) (xOp dIsNot f g) := ce_cmp (fun i => op_notBl) rv_isnot ha hb hm
theorem ct_is (ha : CE G T a f) (hb : CE G T b g) (hm : behindInMarks .Is b = false := by rfl) : CT_ G T (.Compare a [.Is] [b] pos) (xBl (xOp dIs f g)) := ct_cmp (fun i => op_isBl) rv_is ha hb hm
theorem ct_isnot (ha : CE G T a f) (hb : CE G T b g) (hm : behindInMarks .IsNot b = false := by rfl) : CT_ G T (.Compare a [.IsNot] [b] pos) (xBl (xOp dIsNot f g)) := ct_cmp (fun i => op_notBl) rv_isnot ha hb hm
theorem ev_isN {te : TE} (ve : ∀ s σ F H d, Ex F H → Sl G.K T F s σ → f s = some d → EvV G.K T te σ F H d) (s : S) (σ : L2.St) (F H : Hp) (d : D) (hx : Ex F H) (hs : Sl G.K T F s σ) (hf : xUn (dNone false) f s = some d) : EvV G.K T (tIsN te) σ F H d := by
  obtain ⟨y, h1, h2⟩ := Option.bind_eq_some_iff.mp hf
  intro F1 H1 e1 Q q
  refine ve s σ F H y hx hs h1 F1 H1 e1 _ fun v F2 H2 e2 rv => ?_
  rcases dv_none rv with ⟨rfl, rfl⟩ | ⟨h3, _, h4⟩
  · cases h2; exact q _ F2 H2 e2 (.bl true)
  · rw [h3] at h2; cases h2
    rw [decide_eq_false h4]
    exact q _ F2 H2 e2 (.bl false)
theorem ev_notN {te : TE} (ve : ∀ s σ F H d, Ex F H → Sl G.K T F s σ → f s = some d → EvV G.K T te σ F H d) (s : S) (σ : L2.St) (F H : Hp) (d : D) (hx : Ex F H) (hs : Sl G.K T F s σ) (hf : xUn (dNone true) f s = some d) : EvV G.K T (tNotN te) σ F H d := by
  obtain ⟨y, h1, h2⟩ := Option.bind_eq_some_iff.mp hf
  intro F1 H1 e1 Q q
  refine ve s σ F H y hx hs h1 F1 H1 e1 _ fun v F2 H2 e2 rv => ?_
  rcases dv_none rv with ⟨rfl, rfl⟩ | ⟨_, h3, h4⟩
  · cases h2; exact q _ F2 H2 e2 (.bl false)
  · rw [h3] at h2; cases h2
    rw [decide_eq_false h4]
    exact q _ F2 H2 e2 (.bl true)
theorem ce_isN {j : Nat} (ha : CE G T a f) : CE G T (.Compare a [.Is] [.Constant .none j pos'] pos) (xUn (dNone false) f) := by
  obtain ⟨te, h1, h2⟩ := ha
  exact ⟨tIsN te, fun i => pe_cmp (pc_isN (h1 i)), ev_isN h2⟩
theorem ce_notN {j : Nat} (ha : CE G T a f) : CE G T (.Compare a [.IsNot] [.Constant .none j pos'] pos) (xUn (dNone true) f) := by
  obtain ⟨te, h1, h2⟩ := ha
  exact ⟨tNotN te, fun i => pe_cmp (pc_notN (h1 i)), ev_notN h2⟩
theorem ct_B {t : TE} {fe : XE} (hp : ∀ i, PT (G.X i) e (tB t)) (hv : ∀ s σ F H d, Ex F H → Sl G.K T F s σ → fe s = some d → EvV G.K T t σ F H d) : CT_ G T e (xBl fe) := by
  refine ⟨tB t, hp, fun s σ F H k hx hs hf F1 H1 e1 Q q => ?_⟩
  unfold xBl at hf
  obtain ⟨z, h0, h4⟩ := Option.bind_eq_some_iff.mp hf
  split at h4
  · cases h4
    exact hv s σ F H _ hx hs h0 F1 H1 e1 _ fun v F2 H2 e2 rv => ⟨_, dv_bl rv, q F2 H2 e2⟩
  · cases h4
theorem ct_isN {j : Nat} (ha : CE G T a f) : CT_ G T (.Compare a [.Is] [.Constant .none j pos'] pos) (xBl (xUn (dNone false) f)) := by
  obtain ⟨te, h1, h2⟩ := ha
  exact ct_B (fun i => pt_cmp (pc_isN (h1 i))) (ev_isN h2)
theorem ct_notN {j : Nat} (ha : CE G T a f) : CT_ G T (.Compare a [.IsNot] [.Constant .none j pos'] pos) (xBl (xUn (dNone true) f)) := by
  obtain ⟨te, h1, h2⟩ := ha
  exact ct_B (fun i => pt_cmp (pc_notN (h1 i))) (ev_notN h2)
theorem ct_eqO {k : Nat} {ps : List Str} (O : ClsOk G.K T c ns) (C : CalM G.P G.w G.K G.mg G.base T c "__eq__" k ps mm) (hku : k ≤ G.u) (hx : ∀ i, Passes (L2.CX G.P G.w) (G.X i) E0) (ha : CE G T a f) (hb : CE G T b g) : CT_ G T (.Compare a [.Eq] [b] pos) (xBl (xOp (dEqO c mm) f g)) := by
  obtain ⟨fa, fd, Fo, hM, hB⟩ := C
  refine ct_cmp (fun i => OpR.or2 ?_ (by rw [← G.hK i]; exact op_eqD (G.hr i).units)) rv_ownEq ha hb (nomark _)
  have h := op_ownEq (X := G.X i) (by rw [G.hK i]; exact O) (Fam.fn Fo i) (by rw [G.hK i]; exact hM) (by rw [G.hK i]; exact hB) ((G.hr i).mono hku) (hx i)
  rw [G.hK i] at h
  exact h
end
/-! ### defs that show -/
def CalGd (P : Program) (w : World) (K : PySem.W.Frag) (mg : Str → Option Value) (base : Heap) (T : CT) (x : Str) (k : Nat) (ps : List Str) (m : List D → Option FR) : Prop :=
  ∃ ad fd, FnG P w K mg base (L2.CX P w) k ad fd ps (spM K T m) ∧ mg x = some (.ref ad) ∧ PySem.W.keepIn K (.ref ad) = true ∧ L2.Binds K fd ps []
def CalGG (P : Program) (w : World) (K : PySem.W.Frag) (mg : Str → Option Value) (base : Heap) (T : CT) (x : Str) (k : Nat) (ps : List Str) (m : List D → List D → Option (D × List D)) : Prop :=
  ∃ ad fd, FnG P w K mg base (L2.CX P w) k ad fd ps (spG K T m) ∧ mg x = some (.ref ad) ∧ PySem.W.keepIn K (.ref ad) = true ∧ L2.Binds K fd ps []
section
variable {P : Program} {w : World} {K : PySem.W.Frag} {mg : Str → Option Value} {base : Heap} {T : CT} {E : XK}
theorem cal_mirrorGd {x : Str} {st : Stmt} {N ps : List Str} {k k' : Nat} {own : List Nat} {g : S → Option Out} {m : List D → Option FR} (F : Def0 K mg x st ps) (Sc : FnScope N ps (defScope st)) (hown : ∀ i ∈ own, ps.length ≤ i) (hlen : ps.length ≤ N.length) (hk : k' = k + 1) (hm : m = defM ps.length N.length g)
    (hb : ∀ f cdv A outer s H E hr, A.guards = some [] → CSs (fam P w K mg base N x (defScope st) f k cdv A outer s H E hr) T E [] own (defBody st) g) : CalGd P w K mg base T x k' ps m := by
  subst hk hm
  obtain ⟨ad, fd, F, hm, hb'⟩ := F
  exact ⟨ad, fd, FnG.okX F Sc spM_len fun cdv A outer s H vs Q E hgd hr h => body_mirror hown hlen (hb ad cdv A outer s H E hr hgd) h, hm, F.kp, hb'⟩
theorem cal_mirrorGG {x : Str} {st : Stmt} {N ps : List Str} {k k' : Nat} {oth : List Nat} {g : S → Option Out} {m : List D → List D → Option (D × List D)} (F : Def0 K mg x st ps) (Sc : FnScope N ps (defScope st)) (hown : ∀ i ∈ oth, ps.length ≤ i) (hp0 : 0 < ps.length) (hlen : ps.length ≤ N.length) (hk : k' = k + 1) (hm : m = defG ps.length N.length g)
    (hb : ∀ f cdv A outer s H E hr, A.guards = some [] → CSs (fam P w K mg base N x (defScope st) f k cdv A outer s H E hr) T E [0] (oth ++ [0]) (defBody st) g) : CalGG P w K mg base T x k' ps m := by
  subst hk hm
  obtain ⟨ad, fd, F, hm, hb'⟩ := F
  exact ⟨ad, fd, FnG.okX F Sc spG_len fun cdv A outer s H vs Q E hgd hr h => body_mirrorG hown hp0 hlen (hb ad cdv A outer s H E hr hgd) h, hm, F.kp, hb'⟩
end
section
variable {G : Fam} {T : CT} {e : Expr} {es : List Expr} {fa : XA} {p pos : Pos}
theorem ce_calGd {x : Str} {ps : List Str} {k : Nat} {m : List D → Option FR} (C : CalGd G.P G.w G.K G.mg G.base T x k ps m) (hgd : ∀ i, (G.X i).A.guards = some []) (hku : k ≤ G.u) (hx : ∀ i, Passes (L2.CX G.P G.w) (G.X i) E0) (ha : CA G T (e :: es) fa) (hg : ∀ i, Gl (G.X i) x := by intro _; rfl) (hdb : (x == ("__debug__" : Str)) = false := by decide)
    (he : ∀ i, starEach (e :: es) (G.X i).env = (false, eval e (G.X i).env) :: starEach es (G.X i).env := by intro _; rfl) (hpl : ∀ i, (backTo pos (starEach es (G.X i).env)).any (·.1) = false := by intro _; rfl) :
    CE G T (.Call (.Name x p) (e :: es) [] pos) (xCall m fa) := by
  obtain ⟨ad, fd, F, hm, hk, hb⟩ := C
  obtain ⟨ta, ha, va⟩ := ha
  have F' : ∀ i, FnG (G.X i).prog (G.X i).w (G.X i).K (G.X i).mg (G.X i).base (L2.CX G.P G.w) k ad fd ps (spM G.K T m) := fun i => by rw [G.hP i, G.hw i, G.hK i, G.hm i, G.hb i]; exact F
  refine ⟨tCall (spM G.K T m) [] E0 ta, fun i => pe_callGd (F' i) (hgd i) ((G.hr i).mono hku) (hg i) (by rw [G.hm i]; exact hm) (by rw [G.hK i]; exact hk) (by rw [G.hK i]; exact hb) (hx i) (ha i) hdb (he i) (hpl i), fun s σ F0 H d hx hs hf F1 H1 e1 Q q => ?_⟩
  unfold xCall at hf
  simp only [Option.bind_eq_some_iff] at hf
  obtain ⟨ds, h1, r, h2, h3⟩ := hf
  refine va s σ F0 H ds hx hs h1 F1 H1 e1 _ fun vs F2 H2 e2 rs => ?_
  unfold frD at h3
  split at h3
  · cases h3
    exact ⟨F2, ds, _, e2.sub, by rw [List.append_nil]; exact rs, h2, fun v F' H' e3 rv => q v F' H' (e2.trans e3) rv⟩
  · cases h3
end
end Mr
namespace Mr
open PySem PySem.Spec PyProof.Rows L2
/-! ### methods of the text -/
def DefM (K : PySem.W.Frag) (T : CT) (c : Nat) (x qual : Str) (st : Stmt) (ps : List Str) : Prop := ∃ ad fd, Fun K x qual st ad fd ∧ Meth K (T.cls c) x ad ∧ L2.Binds K fd ps []
def DefI (K : PySem.W.Frag) (T : CT) (mg : Str → Option Value) (c : Nat) (cn qual : Str) (st : Stmt) (ps : List Str) : Prop := ∃ ad fd, Fun K "__init__" qual st ad fd ∧ Mk K (T.cls c) ad ∧ mg cn = some (.ref (T.cls c)) ∧ L2.Binds K fd ps []
section
variable {P : Program} {w : World} {K : PySem.W.Frag} {mg : Str → Option Value} {base : Heap} {T : CT} {E : XK}
theorem calm_mirror {c : Nat} {x qual : Str} {st : Stmt} {N ps : List Str} {k k' : Nat} {own : List Nat} {g : S → Option Out} {m : List D → Option FR} (F : DefM K T c x qual st ps) (Sc : FnScope N ps (defScope st)) (hown : ∀ i ∈ own, ps.length ≤ i) (hlen : ps.length ≤ N.length) (hk : k' = k + 1) (hm : m = defM ps.length N.length g)
    (hb : ∀ f cdv A outer s H E hr, CSs (fam P w K mg base N qual (defScope st) f k cdv A outer s H E hr) T E [] own (defBody st) g) : CalM P w K mg base T c x k' ps m := by
  subst hk hm
  obtain ⟨ad, fd, F, hm, hb'⟩ := F
  exact ⟨ad, fd, fn_mirror F Sc hown hlen (hb ad), hm, hb'⟩
theorem calk_mirror {c : Nat} {cn qual : Str} {st : Stmt} {N ps : List Str} {k k' : Nat} {M : S → List D → Option FR} {m : List D → Option FR} (F : DefI K T mg c cn qual st ps) (Sc : FnScope N ps (defScope st)) (hp0 : 0 < ps.length) (hlen : ps.length ≤ N.length) (hk : k' = k + 1) (hm : m = defI ps.length N.length M)
    (hb : ∀ f cdv A outer s H E hr, CSI (fam P w K mg base N qual (defScope st) f k cdv A outer s H E hr) T E c [] (defBody st) M) : CalK P w K mg base T c cn k' ps m := by
  subst hk hm
  obtain ⟨ad, fd, F, hm, hg, hb'⟩ := F
  exact ⟨ad, fd, init_mirror F Sc hp0 hlen (hb ad), hm, hg, hb'⟩
end
end Mr

set_option Elab.async false
set_option linter.all false
set_option maxRecDepth 100000
set_option maxHeartbeats 2000000
/-! an instance made in a try: _law_made -/
namespace Mr
open PySem PySem.Spec PyProof.Rows L2
open Evl (Ex)
section
variable {X : Cx} {CX : CXT} {k : Nat} {f C : Addr} {fd : FuncData} {ps : List Str} {sp : Sp} {E : L2.St → XK} {x : Str} {p pos : Pos} {e : Expr} {es : List Expr} {t : TA}
/-- C(..), what it raises wished for at the caller's slots -/
def tMakeS (C : Addr) (sp : Sp) (E : L2.St → XK) (t : TA) : TE := fun σ H Q => t σ H fun vs H1 => ∀ x dx, H1 x = none → H1 dx = none → dx ≠ x → sp (.ref x :: vs) (upd (upd H1 dx (.own x)) x (.ins C dx [])) (fun v H2 => v = .non ∧ Q (.ref x) H2) (E σ)
theorem pe_makeS (M : Mk X.K C f) (F : FnOk X.prog X.w X.K X.mg X.base CX k f fd ps sp) (hr : Room (k + 1) X.A) (hg : Gl X x) (hm : X.mg x = some (.ref C)) (hb : L2.Binds X.K fd ps []) (hx : ∀ σ, PassesAt CX X σ (E σ))
    (ha : PA X (e :: es) t) (hdb : (x == ("__debug__" : Str)) = false := by decide) (he : starEach (e :: es) X.env = (false, eval e X.env) :: starEach es X.env := by rfl) (hpl : (backTo pos (starEach es X.env)).any (·.1) = false := by rfl) :
    PE X (.Call (.Name x p) (e :: es) [] pos) (tMakeS C sp E t) := by
  refine ⟨fun pins s σ H Q I h => ?_⟩
  refine wpAny_Call_Name_kw (ld_glob I hg hm ?_ hdb)
  refine PySem.W.callWith_K (h₀ := X.base) I.ok.mod.kin M.kp (thn (ha.run pos pins s σ H _ I h) fun us s1 ⟨vs, H1, I1, r, q⟩ => ⟨I1.kIn, ?_⟩) he hpl
  have hq := q (s1.heap.objs.size + 1) s1.heap.objs.size (I1.hok.fresh (Nat.le_succ _)) (I1.hok.fresh (Nat.le_refl _)) (Nat.ne_of_lt (Nat.lt_succ_self _))
  have I2 := Inv.made (C := C) I1
  have r2 : Vals (V.ref (s1.heap.objs.size + 1) :: vs) (Value.ref (s1.heap.objs.size + 1) :: us) := .cons rfl r
  have hl : (Value.ref (s1.heap.objs.size + 1) :: us ++ ([] : List Value)).length = ps.length := by
    have e := r2.length
    rw [F.len _ _ _ _ hq] at e
    rw [List.append_nil]
    exact e.symm
  have hbt := hb _ (Value.ref (s1.heap.objs.size + 1) :: us) I2.kIn hl
  rw [List.append_nil] at hbt
  refine wpAny_call (make_map (f := f) I1.kIn M.makes M.init (beq_iff_eq.mp M.fn) (codeAny_mono (F.run _ X.stack _ _ ⟨Value.ref (s1.heap.objs.size + 1) :: us, []⟩ (Value.ref (s1.heap.objs.size + 1) :: us) _ _ (E σ) (hr.make C us []) (I2.env0.make C us []) hbt r2 hq) fun r s' hq' => ?_))
  cases r with
  | error e => exact hx σ pins _ _ e s' I2 hq'
  | ok fl =>
    cases fl with
    | ret u =>
      obtain ⟨v, H', I3, rv, ev, q3⟩ := I2.after hq'
      subst ev
      exact ⟨rv, ⟨V.ref (s1.heap.objs.size + 1), H', I3, rfl, q3⟩⟩
    | next => exact hq'.elim
    | brk => exact hq'.elim
    | cont => exact hq'.elim
/-- isinstance(e, C), e the exception that the suite holds, of just this class -/
def rIsX (C a : Addr) (cls : Value) : List V → Hp → VK → Prop := fun xs H Q => xs = [.ref a, .ref C] ∧ cls = .ref C ∧ Q (.bl true) H
theorem call_isX {a : Addr} {oe : Obj} {cls : Value} {d : Option Addr} {pn : List (Addr × Obj)} (hz : Zc cls d oe) : CallR (X.suite a ((a, oe) :: pn)) (.builtin "isinstance") (rIsX C a cls) := by
  intro pins s σ H xs us Q I r h
  obtain ⟨rfl, hc, q⟩ := h
  obtain ⟨u1, u2, rfl, r1, r2⟩ := vals2 r
  cases (show u1 = Value.ref a from r1)
  cases (show u2 = Value.ref C from r2)
  obtain ⟨hget, _⟩ := I.pin (a, oe) (List.mem_append.mpr (.inl List.mem_cons_self))
  refine PyProof.Rows.call_isinstance_of ?_ (fun z => nomatch z)
  unfold Builtin.«isinstance.nested»
  refine wpAny_bind (wpAny_typeOf_ref hget ?_)
  have ec : oe.cls = .ref C := hz.1.trans hc
  rw [if_pos (by rw [ec]; simp)]
  have h : EP (X.suite a ((a, oe) :: pn)) pins σ Q (.bool true) s := ⟨.bl true, H, I, rfl, q⟩
  first
    | exact wpAny_pure h
    | exact wpAny_bind (wpAny_rule h)
    | exact wpAny_bind (wpAny_rule (wpAny_pure h))
theorem call_reprU (hgd : X.A.guards = some []) (hu : X.A.units + 200 < cLine) : CallR X (.builtin "repr") (rRepr X.K) := by
  intro pins s σ H xs us Q I r h
  obtain ⟨x, d, rfl, hd, h1, h2, h3, h4, q⟩ := h
  cases r with
  | cons rx rn =>
    rename_i u _
    cases rn
    obtain ⟨as, hR⟩ := Dp.reads I d x u hd rx
    cases hR with
    | list a b c e => exact repr_of_reads' (.list a b c e) h1 (fun z => by rw [h2] at z; cases z) hgd (by omega) (fun _ _ e => e) (fun h' u tk hk => ⟨.str _, H, I.kept hk, ⟨_, rfl⟩, q⟩) h4
    | tuple a b c e => exact repr_of_reads' (.tuple a b c e) h1 (fun z => by rw [h2] at z; cases z) hgd (by omega) (fun _ _ e => e) (fun h' u tk hk => ⟨.str _, H, I.kept hk, ⟨_, rfl⟩, q⟩) h4
    | dict a b c e g => exact repr_of_reads' (.dict a b c e g) h1 (fun z => by rw [h2] at z; cases z) hgd (by omega) (fun _ _ e => e) (fun h' u tk hk => ⟨.str _, H, I.kept hk, ⟨_, rfl⟩, q⟩) h4
    | none => exact PySem.P.repr_of_none ⟨.str _, H, I.tok _, ⟨_, rfl⟩, q⟩
    | bool b => exact PySem.P.repr_of_bool ⟨.str _, H, I.tok _, ⟨_, rfl⟩, q⟩
    | int i t => exact PySem.P.repr_of_int (by simpa [PyData.showable] using h1) ⟨.str _, H, I.tok _, ⟨_, rfl⟩, q⟩
    | str y t => exact PySem.P.repr_of_str ⟨.str _, H, I.tok _, ⟨_, rfl⟩, q⟩ h4
end
/-! ### try: found = C(p, value); except B as error: if not isinstance(error, D) or repr(error.value) != repr(value): return "wrong" -/
def tSuiteM (K : PySem.W.Frag) (C : Addr) : Addr → Value → Option Addr → TS := fun a cls d =>
  tSeq (tIfS (tOr (tNot (fun σ H Q => tCB (rIsX C a cls) (tCons (tVar 3) (tCons (tC (.ref C)) tNil)) σ H fun x H' => ∃ k, TruV K x H' k ∧ Q k H'))
      (tTest (tOp (rNeD K) (tCB (rRepr K) (tCons (tXf a cls d C "value" (tVar 3)) tNil)) (tCB (rRepr K) (tCons (tVar 1) tNil)))))
    (tSeq (tRet (tC (.str "wrong"))) tNext) tNext) tNext
def tMadeB (K : PySem.W.Frag) (T : CT) (c : Nat) (mi : List D → Option FR) (W : WX) : TS := tSeq (tAsg (tMakeS (T.cls c) (spI K T c mi) (WE W) (tCons (tVar 0) (tCons (tVar 1) tNil))) (gName 2)) tNext
def tMade (K : PySem.W.Frag) (T : CT) (c : Nat) (mi : List D → Option FR) (B C : Addr) : TS := tSeq (tAsg (tC .non) (gName 2)) (tSeq (fun D σ H => tMadeB K T c mi (wAs K (.ref B) 3 (tSuiteM K C) (fun _ _ _ _ => False) D) D σ H) (tSeq (tRet (tVar 2)) tNext))
def mMade (mi : List D → Option FR) (cE : Nat) : List D → Option FR := fun ds => match ds with
  | [p, v] => (mi [p, v]).bind fun r => match r with
    | .ret d => some (.ret d)
    | .exc c x => if c = cE then (dRepr x).bind fun a => (dRepr v).bind fun b => (dNe a b).bind fun k => match k with | .bl false => some (.ret .non) | _ => none else none
  | _ => none
theorem dRepr_some {d r : D} (h : dRepr d = some r) : ∃ p, d.py = some p ∧ r = .str p.shown ∧ p.showable = true ∧ p.hasDict = false ∧ p.depth ≤ 100 ∧ p.shown.length ≤ sizeLine := by
  obtain ⟨p, h1, h2⟩ := Option.bind_eq_some_iff.mp h
  split at h2
  case isFalse => cases h2
  rename_i hc
  cases h2
  exact ⟨p, h1, rfl, hc.1, hc.2.1, hc.2.2.1, Nat.le_trans hc.2.2.2 (by decide)⟩
theorem made_run {K : PySem.W.Frag} {T : CT} {c : Nat} {mi : List D → Option FR} {cE : Nat} {B : Addr} {n0 n1 n2 n3 : Str} (exm : PySem.W.exmOne K (.ref (T.exc cE)) (.ref B) = some true) {vs : List V} {H : Hp} {Q : VK} {E : XK} (h : spM K T (mMade mi cE) vs H Q E) :
    tMade K T c mi B (T.exc cE) { nx := fun _ H' => Q .non H', rt := Q } (L2.start [n0, n1, n2, n3] vs) H := by
  obtain ⟨F, ds, r, hx, hd, hm, hfin⟩ := h
  unfold mMade at hm
  split at hm
  case h_2 => cases hm
  rename_i p v
  obtain ⟨vp, vs1, rfl, hp, hd1⟩ : ∃ a b, vs = a :: b ∧ Dv K T F a p ∧ DvA K T F b [v] := by cases hd with | cons a b => exact ⟨_, _, rfl, a, b⟩
  obtain ⟨vv, rfl, hv⟩ : ∃ a, vs1 = [a] ∧ Dv K T F a v := by cases hd1 with | cons a b => cases b; exact ⟨_, rfl, a⟩
  obtain ⟨r0, h0, h1⟩ := Option.bind_eq_some_iff.mp hm
  refine ⟨_, rfl, _, rfl, fun x dx n1 n2 hne => ?_⟩
  refine ⟨x, dx, _, H, F, _, r0, rfl, rfl, n1, n2, hne, hx, hd, h0, ?_⟩
  cases r0 with
  | ret d =>
    cases h1
    exact fun F' H' e rv => ⟨rfl, _, rfl, hfin _ F' H' e rv⟩
  | exc c' x' =>
    dsimp only at h1
    split at h1
    case isFalse => cases h1
    rename_i hc
    subst hc
    obtain ⟨ra, h2, h3⟩ := Option.bind_eq_some_iff.mp h1
    obtain ⟨rb, h4, h5⟩ := Option.bind_eq_some_iff.mp h3
    obtain ⟨k, h6, h7⟩ := Option.bind_eq_some_iff.mp h5
    split at h7
    case h_2 => cases h7
    cases h7
    obtain ⟨pa, a1, rfl, a2, a3, a4, a5⟩ := dRepr_some h2
    obtain ⟨pb, b1, rfl, b2, b3, b4, b5⟩ := dRepr_some h4
    refine fun dd w F' H' e hH rv => ⟨true, exm, fun _ a _ => ?_, fun q => Bool.noConfusion q⟩
    refine ⟨_, rfl, rfl, rfl, true, rfl, ?_⟩
    have dw : Dp K H' w pa := dp_of _ _ _ (dv_mono e.sub _ _ rv) a1
    have dv' : Dp K H' vv pb := dp_of _ _ _ (dv_mono (e.fz.trans e.sub) _ _ hv) b1
    unfold dNe at h6
    simp only [Option.map_eq_some_iff] at h6
    obtain ⟨k', h6, hk⟩ := h6
    obtain ⟨p', r', e1, e2, s1, s2, e3⟩ := dEqB_some h6
    cases e1
    cases e2
    refine ⟨_, rfl, rfl, rfl, dd, _, w, rfl, hH, rfl, w, pa, rfl, dw, a2, a3, a4, a5, _, rfl, vv, pb, rfl, dv', b2, b3, b4, b5, _, _, .str _, .str _, s1, s2, _, rfl, ?_⟩
    subst e3
    have hk' : (!PyData.eqv (.str pa.shown) (.str pb.shown)) = false := by
      injection hk
    rw [hk', if_neg Bool.false_ne_true]
    exact ⟨_, rfl, hfin _ F' H' e .non⟩
theorem made_len {K : PySem.W.Frag} {T : CT} {mi : List D → Option FR} {cE : Nat} : ∀ vs H Q E, spM K T (mMade mi cE) vs H Q E → vs.length = 2 := by
  intro vs H Q E ⟨F, ds, r, hx, hd, hm, hfin⟩
  unfold mMade at hm
  split at hm
  case h_2 => cases hm
  rw [dva_len hd]
  rfl
end Mr

set_option Elab.async false
set_option linter.all false
set_option maxRecDepth 100000
set_option maxHeartbeats 2000000
/-! what is made while lists of one's own are read, and holds no list; lists that a method gives anew; keywords -/
namespace Mr
open PySem PySem.Spec PyProof.Rows L2
open Evl (Ex)
mutual
def lfB : D → Bool
  | .lst _ => false
  | .tup ds => lfA ds
  | .obj _ ds => lfA ds
  | _ => true
def lfA : List D → Bool
  | [] => true
  | d :: ds => lfB d && lfA ds
end
section
variable {K : PySem.W.Frag} {T : CT} {F F' : Hp}
mutual
theorem dv_cut (h : ∀ p o, F p = some o → (∀ xs, o ≠ .lst xs) → F' p = some o) : ∀ (d : D) (v : V), lfB d = true → Dv K T F v d → Dv K T F' v d
  | .non, _, _, z => by cases z; exact .non
  | .bl _, _, _, z => by cases z; exact .bl _
  | .int _, _, _, z => by cases z; exact .int _
  | .str _, _, _, z => by cases z; exact .str _
  | .lst ds, _, l, _ => by simp [lfB] at l
  | .tup ds, _, l, z => by
    cases z with
    | tup a b =>
      simp only [lfB] at l
      refine .tup ?_ (dva_cut h ds _ l b)
      rcases a with (a | ⟨o, a⟩) | a
      · exact .inl (.inl (h _ _ a fun xs e => by cases e))
      · exact .inl (.inr ⟨o, h _ _ a fun xs e => by cases e⟩)
      · exact .inr a
  | .obj c ds, _, l, z => by
    cases z with
    | obj a n b =>
      simp only [lfB] at l
      exact .obj (h _ _ a fun xs e => by cases e) n (dva_cut h ds _ l b)
theorem dva_cut (h : ∀ p o, F p = some o → (∀ xs, o ≠ .lst xs) → F' p = some o) : ∀ (ds : List D) (vs : List V), lfA ds = true → DvA K T F vs ds → DvA K T F' vs ds
  | [], _, _, z => by cases z; exact .nil
  | d :: ds, _, l, z => by
    cases z with
    | cons a b =>
      simp only [lfA, Bool.and_eq_true] at l
      exact .cons (dv_cut h d _ l.1 a) (dva_cut h ds _ l.2 b)
end
end
def sSetL (j : Nat) (f : XE) : S → Option Out := fun s => (f s).bind fun d => if lfB d = true then some (.nx (s.set j (some d))) else none
section
variable {G : Fam} {T : CT} {E : XK} {gs own : List Nat} {e : Expr} {f : XE} {pos : Pos}
/-- the lists of one's own, frozen for a while, are let go again -/
theorem Rel.thaw {K : PySem.W.Frag} {F0 H0 F H F' F2 H2 : Hp} {ga : Nat → Option Addr} {s : S} {σ : L2.St} (r : Rel K T F0 H0 ga own F H s σ) (e' : Ex F F') (r' : Rel K T F0 H0 ga [] F' H s σ) (e2 : Ext F' H F2 H2) :
    ∃ F3, Ex F F3 ∧ Ex F3 F2 ∧ Rel K T F0 H0 ga own F3 H2 s σ ∧ ∀ p o, F2 p = some o → (∀ xs, o ≠ .lst xs) → F3 p = some o := by
  classical
  have own_at : ∀ i d, i ∈ own → s[i]? = some (some d) → ∃ a xs ds, σ[i]? = some (some (.ref a)) ∧ d = .lst ds ∧ F a = none ∧ H0 a = none ∧ H2 a = some (.lst xs) ∧ F2 a = some (.lst xs) ∧ DvA K T F xs ds := fun i d hi h => by
    obtain ⟨a, xs, ds, h1, rfl, h3, h4, h5, h6⟩ := r.ow i d hi h
    obtain ⟨v, h7, h8⟩ := r'.sh i _ (by simp) h
    rw [h1] at h7
    cases h7
    obtain ⟨a', xs', ea, h9, _⟩ := dv_lst h8
    cases ea
    have h10 := r'.hx _ _ h9
    rw [h5] at h10
    cases h10
    exact ⟨a, xs, ds, h1, rfl, h3, h4, e2.sub _ _ (e2.fz _ _ h9), e2.fz _ _ h9, h6⟩
  let F3 : Hp := fun p => if (∃ i d, i ∈ own ∧ s[i]? = some (some d) ∧ σ[i]? = some (some (.ref p))) then none else F2 p
  have nown : ∀ p o, F p = some o → ¬ ∃ i d, i ∈ own ∧ s[i]? = some (some d) ∧ σ[i]? = some (some (.ref p)) := fun p o h ⟨i, d, h1, h2, h3⟩ => by
    obtain ⟨a, xs, ds, h4, _, h5, _⟩ := own_at i d h1 h2
    rw [h3] at h4
    cases h4
    rw [h] at h5
    cases h5
  have eF : Ex F F3 := fun p o h => by
    show (if _ then none else F2 p) = _
    rw [if_neg (nown p o h)]
    exact e2.fz p o (e' p o h)
  have h32 : Ex F3 F2 := fun p o h => by
    have h' : (if (∃ i d, i ∈ own ∧ s[i]? = some (some d) ∧ σ[i]? = some (some (.ref p))) then none else F2 p) = some o := h
    split at h'
    · cases h'
    · exact h'
  refine ⟨F3, eF, h32, ⟨h32.trans e2.sub, ⟨r.e0.fz.trans eF, h32.trans e2.sub, fun p o h5 h6 => ?_⟩, r.len, fun i d hi h => ?_, fun i d hi h => ?_, r.dj, r.ga_⟩, fun p o h hn => ?_⟩
  · obtain ⟨h7, h8⟩ := r'.e0.own p o h5 h6
    obtain ⟨h9, h10⟩ := e2.own p o h7 h8
    refine ⟨?_, h10⟩
    show (if _ then none else F2 p) = none
    rw [h9]
    split <;> rfl
  · obtain ⟨v, h1, h2⟩ := r.sh i d hi h
    exact ⟨v, h1, dv_mono eF _ _ h2⟩
  · obtain ⟨a, xs, ds, h1, h2, h3, h4, h5, h6, h7⟩ := own_at i d hi h
    refine ⟨a, xs, ds, h1, h2, ?_, h4, h5, dva_mono eF _ _ h7⟩
    show (if _ then none else F2 a) = none
    rw [if_pos ⟨i, d, hi, h, h1⟩]
  · show (if _ then none else F2 p) = some o
    rw [if_neg, h]
    rintro ⟨i, d, h1, h2, h3⟩
    obtain ⟨a, xs, ds, h4, _, _, _, _, h5, _⟩ := own_at i d h1 h2
    rw [h3] at h4
    cases h4
    rw [h] at h5
    cases h5
    exact hn _ rfl
theorem Rel.freezeAll {K : PySem.W.Frag} {F0 H0 F H : Hp} {ga : Nat → Option Addr} {s : S} {σ : L2.St} (r : Rel K T F0 H0 ga own F H s σ) : ∃ F', Ex F F' ∧ Rel K T F0 H0 ga [] F' H s σ := Rel.freezeTo (oth := own) (gs := []) (by rw [List.append_nil]; exact r)
/-- x = f, f reads lists of one's own and tells data without lists -/
theorem cs_setL (j : Nat) {x : Str} {px : Pos} (he : CE G T e f) (hNd : ∀ i, (G.X i).N.Nodup) (hj : j ∉ own := by decide) (hN : ∀ i, (G.X i).N[j]? = some x := by intro _; rfl) (hx : ∀ i, Loc (G.X i).env.scope x := by intro _; first | exact Or.inl rfl | exact Or.inr rfl)
    (hs : ∀ i, swapsWith e (some (.Name x px)) pos.line (G.X i).env = pure false := by intro _; rfl) (hf : ∀ i, (G.X i).fn x = true ∨ (G.X i).env.scope.names.lookup x = some .local := by intro _; first | exact .inl rfl | exact .inr rfl) : CS G T E gs own (.Assign [.Name x px] e pos) (sSetL j f) := by
  obtain ⟨te, h1, h2⟩ := he
  refine ⟨tAsg te (gName j), fun i => ps_set (hNd i) (hN i) (hx i) (h1 i) (hs i) (hf i), fun F0 H0 ga s σ F H o Dn hga r hg hp => ?_⟩
  unfold sSetL at hg
  obtain ⟨d, h3, h4⟩ := Option.bind_eq_some_iff.mp hg
  split at h4
  case isFalse => cases h4
  rename_i hl
  cases h4
  obtain ⟨F', e', r'⟩ := r.freezeAll
  refine h2 s σ F' H d r'.hx r'.sl h3 F' H (Ext.refl r'.hx) _ fun v F2 H2 e2 rv => ?_
  obtain ⟨F3, e3, _, r3, hc⟩ := r.thaw e' r' e2
  exact hp F3 H2 _ e3 (r3.set hj (dv_cut hc _ _ hl rv))
end
end Mr

set_option Elab.async false
set_option linter.all false
set_option maxRecDepth 100000
set_option maxHeartbeats 2000000
/-! methods that give a new list; two lists stored at once; C(k = v, ..) -/
namespace Mr
open PySem PySem.Spec PyProof.Rows L2
open Evl (Ex)
/-- a promise: a list that is new -/
def spN (K : PySem.W.Frag) (T : CT) (mn : List D → Option (List D)) : Sp := fun vs H Q _ => ∃ F ds r, Ex F H ∧ DvA K T F vs ds ∧ mn ds = some r ∧ ∀ p xs F' H', Ext F H F' H' → H p = none → F' p = none → H' p = some (.lst xs) → DvA K T F' xs r → Q (.ref p) H'
def CalMN (P : Program) (w : World) (K : PySem.W.Frag) (mg : Str → Option Value) (base : Heap) (T : CT) (c : Nat) (m : Str) (k : Nat) (ps : List Str) (mn : List D → Option (List D)) : Prop :=
  ∃ f fd, FnOk P w K mg base (L2.CX P w) k f fd ps (spN K T mn) ∧ Meth K (T.cls c) m f ∧ L2.Binds K fd ps []
theorem sl_start {K : PySem.W.Frag} {T : CT} {F : Hp} {N : List Str} {vs : List V} {ds : List D} (hd : DvA K T F vs ds) : Sl K T F (ds.map some ++ List.replicate (N.length - ds.length) none) (L2.start N vs) := by
  refine ⟨?_, fun i d hs => ?_⟩
  · unfold L2.start
    simp only [List.length_append, List.length_map, List.length_replicate, dva_len hd]
  · by_cases hlt : i < ds.length
    · rw [List.getElem?_append_left (by rw [List.length_map]; exact hlt), List.getElem?_map] at hs
      obtain ⟨d', h3, h4⟩ := Option.map_eq_some_iff.mp hs
      cases h4
      obtain ⟨v, h5, h6⟩ := dva_get' hd h3
      refine ⟨v, ?_, h6⟩
      unfold L2.start
      rw [List.getElem?_append_left (by rw [List.length_map, dva_len hd]; exact hlt), List.getElem?_map, h5]
      rfl
    · rw [List.getElem?_append_right (by rw [List.length_map]; omega), List.getElem?_replicate] at hs
      split at hs <;> cases hs
def defN (n slots : Nat) (fn : XN) : List D → Option (List D) := fun ds => if ds.length = n then fn (ds.map some ++ List.replicate (slots - ds.length) none) else none
section
variable {P : Program} {w : World} {K : PySem.W.Frag} {mg : Str → Option Value} {base : Heap} {T : CT} {E : XK}
theorem calmn_mirror {c : Nat} {x qual : Str} {st : Stmt} {N ps : List Str} {k k' : Nat} {e : Expr} {pos : Pos} {fn : XN} {mn : List D → Option (List D)} (F : DefM K T c x qual st ps) (Sc : FnScope N ps (defScope st)) (hbd : defBody st = [.Return (some e) pos]) (hk : k' = k + 1) (hm : mn = defN ps.length N.length fn)
    (hb : ∀ f cdv A outer s H E hr, CN (fam P w K mg base N qual (defScope st) f k cdv A outer s H E hr) T e fn) : CalMN P w K mg base T c x k' ps mn := by
  subst hk hm
  obtain ⟨ad, fd, F, hM, hb'⟩ := F
  refine ⟨ad, fd, F.okX Sc (fun vs H Q E h => ?_) fun cdv A outer s H vs Q E hr h => ?_, hM, hb'⟩
  · obtain ⟨F0, ds, r, h1, h2, h3, _⟩ := h
    unfold defN at h3
    split at h3
    · rw [dva_len h2]; assumption
    · cases h3
  obtain ⟨F0, ds, r, h1, h2, h3, h4⟩ := h
  unfold defN at h3
  split at h3
  case isFalse => cases h3
  obtain ⟨te, he, hv⟩ := hb ad cdv A outer s H E hr
  refine ⟨tRet te, by rw [hbd]; exact pss_one (ps_ret (he ())), ?_⟩
  exact hv _ _ F0 H r h1 (sl_start h2) h3 F0 H (Ext.refl h1) _ fun p xs F2 H2 e2 n1 n2 hH hd => h4 p xs F2 H2 e2 n1 n2 hH hd
end
def nMeth0 (c : Nat) (mn : List D → Option (List D)) (f : XE) : XN := fun s => (f s).bind fun d => if isObj c d then mn [d] else none
def sParN (i j : Nat) (fn gn : XN) : S → Option Out := fun s => (fn s).bind fun xs => (gn s).bind fun ys => if lfA xs = true ∧ lfA ys = true then some (.nx ((s.set i (some (.lst xs))).set j (some (.lst ys)))) else none
section
variable {G : Fam} {T : CT} {E : XK} {gs own : List Nat} {a b : Expr} {f g : XE} {fn gn : XN} {p pos apos : Pos} {c : Nat} {ns : List Str}
theorem cn_meth0 {m : Str} {k : Nat} {ps : List Str} {mn : List D → Option (List D)} (O : ClsOk G.K T c ns) (C : CalMN G.P G.w G.K G.mg G.base T c m k ps mn) (hku : k ≤ G.u) (hx : ∀ i, Passes (L2.CX G.P G.w) (G.X i) E0) (ha : CE G T a f) (hnf : m ∉ ns := by decide)
    (ht : ∀ i, ∃ pl : Sem Bool, eval (.Call (.Attribute a m apos) [] [] pos) (G.X i).env = (do
      let ov ← eval a (G.X i).env
      standAt apos.atName
      let (f, first) ← holding [ov] (getMethod ov m pl)
      callWith pos f first (backTo pos (starEach [] (G.X i).env)) (backToKw pos (keywordEach [] (G.X i).env))) := by intro _; exact ⟨_, rfl⟩) :
    CN G T (.Call (.Attribute a m apos) [] [] pos) (nMeth0 c mn f) := by
  obtain ⟨ta, ha, va⟩ := ha
  obtain ⟨fa, fd, Fo, hM, hB⟩ := C
  refine ⟨tMeth (T.cls c) m (spN G.K T mn) [] E0 ta tNil, fun i => by
    obtain ⟨pl, hpl⟩ := ht i
    exact pe_meth0 (pl := pl) (ha i) (by rw [G.hK i]; exact O.cls) (by rw [G.hK i]; exact hM) (Fam.fn Fo i) ((G.hr i).mono hku) (by rw [G.hK i]; exact hB) .nil (hx i) hpl, fun s σ F H d hx hs hf F1 H1 e1 Q q => ?_⟩
  unfold nMeth0 at hf
  obtain ⟨y, h1, h2⟩ := Option.bind_eq_some_iff.mp hf
  split at h2
  case isFalse => cases h2
  rename_i ho
  obtain ⟨ds, rfl⟩ := isObj_some ho
  refine va s σ F H _ hx hs h1 F1 H1 e1 _ fun v F2 H2 e2 rv => ?_
  obtain ⟨p, dx, xs, rfl, h5, h6, h7⟩ := dv_obj rv
  have hl : ((T.nam c).zip xs).lookup m = none := by
    rw [O.nam]
    cases e : (ns.zip xs).lookup m with
    | none => rfl
    | some v => exact absurd (zip_mem e) hnf
  exact ⟨p, dx, _, rfl, e2.sub _ _ h5, hl, F2, _, d, e2.sub, .cons rv .nil, h2, fun q' xs F' H' e3 n1 n2 hH hd => q q' xs F' H' (e2.trans e3) (back_none e1.sub e2 n1) n2 hH hd⟩
/-- x, y = new, new: x a list of one's own, y kept for good; both may read lists of one's own -/
theorem cs_parN (i j : Nat) {x y : Str} {px py pt : Pos} {kt k2 : Nat} {pt2 : Pos} (ha : CN G T a fn) (hb : CN G T b gn) (hNd : ∀ i, (G.X i).N.Nodup) (hij : i ≠ j := by decide) (hi : i ∈ own := by decide) (hig : i ∉ gs := by decide) (hj : j ∉ own := by decide) (hNi : ∀ n, (G.X n).N[i]? = some x := by intro _; rfl) (hNj : ∀ n, (G.X n).N[j]? = some y := by intro _; rfl)
    (hx : ∀ n, (G.X n).env.scope.names.lookup x = some .local := by intro _; rfl) (hy : ∀ n, (G.X n).env.scope.names.lookup y = some .local := by intro _; rfl)
    (hst : ∀ n, starEach [a, b] (G.X n).env = (false, eval a (G.X n).env) :: starEach [b] (G.X n).env := by intro _; rfl) (hst2 : ∀ n, starEach [b] (G.X n).env = (false, eval b (G.X n).env) :: starEach [] (G.X n).env := by intro _; rfl)
    (hw : ∀ n, swappedStores [.Tuple [.Name x px, .Name y py] kt pt] (.Tuple [a, b] k2 pt2) (G.X n).env = pure (some [x, y]) := by intro _; rfl)
    (hs : ∀ n, swapsWithSole [.Tuple [.Name x px, .Name y py] kt pt] (.Tuple [a, b] k2 pt2) pos.line (G.X n).env = pure false := by intro _; rfl) :
    CS G T E gs own (.Assign [.Tuple [.Name x px, .Name y py] kt pt] (.Tuple [a, b] k2 pt2) pos) (sParN i j fn gn) := by
  obtain ⟨ta, ha, va⟩ := ha
  obtain ⟨tb, hb, vb⟩ := hb
  refine ⟨tPar i j (tCons ta (tCons tb tNil)), fun n => ps_par (G.hc n) (hNd n) (hNi n) (hNj n) hij (hx n) (hy n) (pa_cons (ha n) (pa_cons (hb n) pa_nil (hst2 n)) (hst n)) (hw n) (hs n), fun F0 H0 ga s σ F H o Dn hga r hg hp => ?_⟩
  unfold sParN at hg
  obtain ⟨d1, h1, h2⟩ := Option.bind_eq_some_iff.mp hg
  obtain ⟨d2, h3, h4⟩ := Option.bind_eq_some_iff.mp h2
  split at h4
  case isFalse => cases h4
  rename_i hl
  cases h4
  obtain ⟨F', e', r'⟩ := r.freezeAll
  refine va s σ F' H d1 r'.hx r'.sl h1 F' H (Ext.refl r'.hx) _ fun p1 xs F2 H2 e2 n1 n2 hH2 hd1 => vb s σ F' H d2 r'.hx r'.sl h3 F2 H2 e2 _ fun p2 ys F3 H3 e3 m1 m2 hH3 hd2 => ⟨_, _, rfl, ?_⟩
  obtain ⟨F4, e4, e43, r4, hc⟩ := r.thaw e' r' (e2.trans e3)
  have n3 : F4 p1 = none := by
    cases q : F4 p1 with
    | none => rfl
    | some o => exact absurd (e43 p1 o q) (by rw [(e3.own p1 _ n2 hH2).1]; exact fun z => by cases z)
  have m3 : F4 p2 = none := by
    cases q : F4 p2 with
    | none => rfl
    | some o => exact absurd (e43 p2 o q) (by rw [m2]; exact fun z => by cases z)
  have o1 : H3 p1 = some (.lst xs) := (e3.own p1 _ n2 hH2).2
  have hne : p2 ≠ p1 := fun z => by rw [z, hH2] at m1; cases m1
  have z1 : H0 p1 = none := by
    cases q : H0 p1 with
    | none => rfl
    | some o =>
      cases q0 : F0 p1 with
      | none => rw [(r.e0.own p1 o q0 q).2] at n1; cases n1
      | some o' => rw [r.hx _ _ (r.e0.fz _ _ q0)] at n1; cases n1
  have z2 : H0 p2 = none := by
    have m0 : H p2 = none := back_none r'.hx e2 m1
    cases q : H0 p2 with
    | none => rfl
    | some o =>
      cases q0 : F0 p2 with
      | none => rw [(r.e0.own p2 o q0 q).2] at m0; cases m0
      | some o' => rw [r.hx _ _ (r.e0.fz _ _ q0)] at m0; cases m0
  have fresh : ∀ k a, k ∈ own → (∃ d, s[k]? = some (some d)) → σ[k]? = some (some (.ref a)) → a ≠ p1 ∧ a ≠ p2 := fun k a hk ⟨d, hd⟩ ha => by
    obtain ⟨a', zs, es, q1, _, _, _, q2, _⟩ := r.ow k d hk hd
    rw [ha] at q1
    cases q1
    exact ⟨fun z => (by rw [z, n1] at q2; cases q2), fun z => (by rw [z, back_none r'.hx e2 m1] at q2; cases q2)⟩
  have r5 := r4.addF (p := p2) m3 z2 hH3 fun k a d hk hd ha => (fresh k a hk ⟨d, hd⟩ ha).2
  have e45 : Ex F4 (upd F4 p2 (.lst ys)) := Evl.Ex.new m3
  have x1 : DvA G.K T F4 xs d1 := dva_cut hc _ _ hl.1 (dva_mono e3.fz _ _ hd1)
  have x2 : DvA G.K T F4 ys d2 := dva_cut hc _ _ hl.2 hd2
  have r6 := r5.setOwn (j := i) (ds := d1) (xs := xs) (p := p1) hi (hga i hig) (by rw [upd_ne (Ne.symm hne)]; exact n3) z1 o1 (dva_mono e45 _ _ x1) fun k a hk _ hd ha => (fresh k a hk hd ha).1
  exact hp _ H3 _ (e4.trans e45) (r6.set hj (.lst upd_same (dva_mono e45 _ _ x2)))
end
/-! ### C(k = v, k2 = v2) -/
def CalKK (P : Program) (w : World) (K : PySem.W.Frag) (mg : Str → Option Value) (base : Heap) (T : CT) (c : Nat) (x : Str) (k : Nat) (ps ks : List Str) (gp : {α : Type} → List α → List α → List α) (m : List D → Option FR) : Prop :=
  ∃ f fd, FnOk P w K mg base (L2.CX P w) k f fd ps (spI K T c m) ∧ Mk K (T.cls c) f ∧ mg x = some (.ref (T.cls c)) ∧ KBn K fd ps 1 ks (fun us ws => gp us ws) (fun vs zs => gp vs zs)
section
variable {G : Fam} {T : CT} {a b : Expr} {f g : XE} {p pos q1 q2 : Pos} {c : Nat} {ns : List Str}
/-- two keywords in the reverse of the parameters' order, or in it: sw tells -/
def swp (sw : Bool) {α : Type} : List α → List α → List α := fun us ws => match ws with
  | [x, y] => us ++ (if sw then [y, x] else [x, y])
  | _ => us
def xMake2 (sw : Bool) (m : List D → Option FR) (f g : XE) : XE := fun s => (f s).bind fun x => (g s).bind fun y => (m (if sw then [y, x] else [x, y])).bind frD
theorem ce_makeK {x k1 k2 : Str} {ps : List Str} {k : Nat} {sw : Bool} {m : List D → Option FR} (C : CalKK G.P G.w G.K G.mg G.base T c x k ps [k1, k2] (fun us ws => swp sw us ws) m) (hku : k + 1 ≤ G.u) (hx : ∀ i, Passes (L2.CX G.P G.w) (G.X i) E0) (ha : CE G T a f) (hb : CE G T b g) (hg : ∀ i, Gl (G.X i) x := by intro _; rfl)
    (hdb : (x == ("__debug__" : Str)) = false := by decide)
    (hall : ∀ i, (backToKw pos (keywordEach [⟨some k1, a, q1⟩, ⟨some k2, b, q2⟩] (G.X i).env)).all (·.1.isSome) = true := by intro _; rfl) (hks : ∀ i, (backToKw pos (keywordEach [⟨some k1, a, q1⟩, ⟨some k2, b, q2⟩] (G.X i).env)).filterMap (·.1) = [k1, k2] := by intro _; rfl)
    (hpl : ∀ i, ((backTo pos (starEach [] (G.X i).env)).any (·.1) || (backToKw pos (keywordEach [⟨some k1, a, q1⟩, ⟨some k2, b, q2⟩] (G.X i).env)).any (·.1.isNone)) = false := by intro _; rfl) :
    CE G T (.Call (.Name x p) [] [⟨some k1, a, q1⟩, ⟨some k2, b, q2⟩] pos) (xMake2 sw m f g) := by
  obtain ⟨fa, fd, F, M, hm, hb'⟩ := C
  obtain ⟨ta, ha, va⟩ := ha
  obtain ⟨tb, hb, vb⟩ := hb
  refine ⟨tMakeK (T.cls c) 0 2 (spI G.K T c m) (fun vs zs => swp sw vs zs) E0 tNil (tCons ta (tCons tb tNil)), fun i => pe_makeK0 (ks := [k1, k2]) (by rw [G.hK i]; exact M) (Fam.fn F i) ((G.hr i).mono hku) (hg i) (by rw [G.hm i]; exact hm) (by rw [G.hK i]; exact hb') (hx i) (pk_cons (ha i) (pk_cons (hb i) pk_nil)) (hall i) (hks i) hdb (hpl i), fun s σ F0 H d hx hs hf F1 H1 e1 Q q => ?_⟩
  unfold xMake2 at hf
  obtain ⟨d1, h1, h2⟩ := Option.bind_eq_some_iff.mp hf
  obtain ⟨d2, h3, h4⟩ := Option.bind_eq_some_iff.mp h2
  obtain ⟨r, h5, h6⟩ := Option.bind_eq_some_iff.mp h4
  refine va s σ F0 H d1 hx hs h1 F1 H1 e1 _ fun v F2 H2 e2 rv => vb s σ F0 H d2 hx hs h3 F2 H2 (e1.trans e2) _ fun w F3 H3 e3 rw' => ⟨rfl, rfl, fun x dx n1 n2 hne => ?_⟩
  unfold frD at h6
  split at h6
  case h_2 => cases h6
  cases h6
  have rv' := dv_mono e3.fz _ _ rv
  cases sw with
  | true => exact ⟨x, dx, [w, v], H3, F3, [d2, d1], _, rfl, rfl, n1, n2, hne, e3.sub, .cons rw' (.cons rv' .nil), h5, fun F' H' e4 rv => ⟨rfl, q _ F' H' ((e2.trans e3).trans e4) rv⟩⟩
  | false => exact ⟨x, dx, [v, w], H3, F3, [d1, d2], _, rfl, rfl, n1, n2, hne, e3.sub, .cons rv' (.cons rw' .nil), h5, fun F' H' e4 rv => ⟨rfl, q _ F' H' ((e2.trans e3).trans e4) rv⟩⟩
end
end Mr

set_option Elab.async false
set_option linter.all false
set_option maxRecDepth 100000
set_option maxHeartbeats 2000000
/-! a def that writes a list of its caller's and sets it right again -/
namespace Mr
open PySem PySem.Spec PyProof.Rows L2
open Evl (Ex)
theorem css_never {G : Fam} {T : CT} {E : XK} {gs own : List Nat} {sts : List Stmt} : CSs G T E gs own sts (fun _ => none) := ⟨fun _ _ _ => False, fun i => ⟨fun _ _ _ _ _ _ h => h.elim⟩, fun F0 H0 ga s σ F H o Dn hga r hg hp => by cases hg⟩
theorem scal_det {K : PySem.W.Frag} {T : CT} {F F' : Hp} {v v' : V} {d : D} (h : scalB d = true) (a : Dv K T F v d) (b : Dv K T F' v' d) : v = v' := by
  cases a <;> cases b <;> first | rfl | (simp [scalB] at h)
theorem scal_dets {K : PySem.W.Frag} {T : CT} {F F' : Hp} : ∀ {ds : List D} {vs ws : List V}, ds.all scalB = true → DvA K T F vs ds → DvA K T F' ws ds → vs = ws
  | [], _, _, _, .nil, .nil => rfl
  | d :: ds, _, _, h, .cons a b, .cons a' b' => by
    rw [List.all_cons, Bool.and_eq_true] at h
    rw [scal_det h.1 a a', scal_dets h.2 b b']
theorem scal_lf {d : D} (h : scalB d = true) : lfB d = true := by cases d <;> first | rfl | (simp [scalB] at h)
theorem scal_lfA : ∀ {ds : List D}, ds.all scalB = true → lfA ds = true
  | [], _ => rfl
  | d :: ds, h => by
    rw [List.all_cons, Bool.and_eq_true] at h
    simp only [lfA, Bool.and_eq_true]
    exact ⟨scal_lf h.1, scal_lfA h.2⟩
section
variable {P : Program} {w : World} {K : PySem.W.Frag} {mg : Str → Option Value} {base : Heap} {T : CT}
theorem body_mirrorL {qual : Str} {st : Stmt} {f : Addr} {N ps : List Str} {k : Nat} {oth : List Nat} {g : S → Option Out} {j : Nat} (hown : ∀ i ∈ oth, ps.length ≤ i) (hj : j < ps.length) (hlen : ps.length ≤ N.length) {cdv : Value} {A : Around} {outer : List Env} {s : Shared} {H : Hp} {E : XK} {hr : Room k (A.deeper (envOfC qual (defScope st) s.heap.objs.size f cdv))}
    (hb : CSs (fam P w K mg base N qual (defScope st) f k cdv A outer s H E hr) T E [j] (oth ++ [j]) (defBody st) g) {vs : List V} {Q : VK} {F : Hp} {ds gs : List D} {d : D} {s' : S} (hx : Ex F H) (hd : DvA K T F vs ds) (hn : ds.length = ps.length) (hl : ds[j]? = some (.lst gs)) (hgs : gs.all scalB = true)
    (ho : ∀ i e, i ≠ j → ds[i]? = some e → lfB e = true) (hg : g (ds.map some ++ List.replicate (N.length - ds.length) none) = some (.rt d s')) (hs' : s'[j]? = some (some (.lst gs))) (hfin : ∀ v F' H', Ext F H F' H' → Dv K T F' v d → Q v H') :
    ∃ t, PSs (cxOf (L2.CX P w) P w K mg base N qual (defScope st) f cdv A outer s H E) (defBody st) t ∧ t { nx := fun _ H' => Q .non H', rt := Q } (L2.start N vs) H := by
  obtain ⟨t, ht, hev⟩ := hb
  refine ⟨t, ht (), ?_⟩
  have sl := sl_start (N := N) hd
  have hjl : (ds.map some ++ List.replicate (N.length - ds.length) none)[j]? = some (some (.lst gs)) := by
    rw [List.getElem?_append_left (by rw [List.length_map]; omega), List.getElem?_map, hl]; rfl
  obtain ⟨v, h1, h2⟩ := sl.at_ j _ hjl
  obtain ⟨a, xs, rfl, h3, h4⟩ := dv_lst h2
  have cut : ∀ p o, F p = some o → (∀ xs, o ≠ .lst xs) → del F a p = some o := fun p o h hn => by
    have : p ≠ a := fun z => by rw [z, h3] at h; cases h; exact hn _ rfl
    rw [del_ne this]; exact h
  have dead : ∀ i d, i ∈ oth → (ds.map some ++ List.replicate (N.length - ds.length) none)[i]? = some (some d) → False := fun i d hi hs => by
    have := hown i hi
    rw [List.getElem?_append_right (by rw [List.length_map]; omega), List.getElem?_replicate] at hs
    split at hs <;> cases hs
  have ex' : Ex (del F a) H := fun p o h => by
    by_cases hp : p = a
    · rw [hp, del_same] at h; cases h
    · rw [del_ne hp] at h; exact hx p o h
  refine hev (del F a) (del H a) (fun i => if i = j then some a else none) _ (L2.start N vs) (del F a) H (.rt d s') _ (fun i hi => if_neg (by simpa using hi)) ⟨ex', ⟨Evl.Ex.refl _, ex', fun p o h5 h6 => ?_⟩, sl.len, fun i e hi hs => ?_, fun i e hi hs => ?_, fun i k b e e' hi hk hne hs1 hs2 => ?_, fun i b hi hga => ?_⟩ hg ?_
  · by_cases hp : p = a
    · rw [hp, del_same] at h6; cases h6
    · rw [del_ne hp] at h6; exact ⟨h5, h6⟩
  · have hij : i ≠ j := fun z => hi (by simp [z])
    obtain ⟨v, h5, h6⟩ := sl.at_ i e hs
    refine ⟨v, h5, dv_cut cut _ _ (ho i e hij ?_) h6⟩
    by_cases hlt : i < ds.length
    · rw [List.getElem?_append_left (by rw [List.length_map]; exact hlt), List.getElem?_map] at hs
      obtain ⟨d', h7, h8⟩ := Option.map_eq_some_iff.mp hs
      cases h8
      exact h7
    · rw [List.getElem?_append_right (by rw [List.length_map]; omega), List.getElem?_replicate] at hs
      split at hs <;> cases hs
  · rcases List.mem_append.mp hi with hi | hi
    · exact (dead i e hi hs).elim
    · have : i = j := by simpa using hi
      subst this
      rw [hjl] at hs
      cases hs
      exact ⟨a, xs, gs, h1, rfl, del_same, del_same, hx _ _ h3, dva_cut cut _ _ (scal_lfA hgs) h4⟩
  · rcases List.mem_append.mp hi with hi | hi
    · exact (dead i _ hi hs1).elim
    · rcases List.mem_append.mp hk with hk | hk
      · exact (dead k _ hk hs2).elim
      · have e1 : i = j := by simpa using hi
        have e2 : k = j := by simpa using hk
        exact absurd (e1.trans e2.symm) hne
  · split at hga
    · rename_i e
      subst e
      cases hga
      exact h1
    · cases hga
  · intro v F1 H1 σ1 r rv
    obtain ⟨b, ys, es, q1, q2, q3, q4, q5, q6⟩ := r.ow j _ (by simp) hs'
    rw [r.ga_ j a (by simp) (if_pos rfl)] at q1
    cases q1
    cases q2
    have e := scal_dets hgs q6 h4
    subst e
    refine hfin v (upd F1 a (.lst ys)) H1 ⟨fun p o h => ?_, fun p o h => ?_, fun p o h5 h6 => ?_⟩ (dv_mono (Evl.Ex.new q3) _ _ rv)
    · by_cases hp : p = a
      · subst hp; rw [h3] at h; cases h; exact upd_same
      · rw [upd_ne hp]; exact r.e0.fz p o (by rw [del_ne hp]; exact h)
    · by_cases hp : p = a
      · subst hp; rw [upd_same] at h; cases h; exact q5
      · rw [upd_ne hp] at h; exact r.hx p o h
    · have hp : p ≠ a := fun z => by rw [z, h3] at h5; cases h5
      rw [upd_ne hp]
      exact r.e0.own p o (by rw [del_ne hp]; exact h5) (by rw [del_ne hp]; exact h6)
end
end Mr
namespace Mr
open PySem PySem.Spec PyProof.Rows L2
open Evl (Ex)
open Classical in
/-- a def that, handed a list of scalars at j, writes it and sets it right again (bA); handed else (bB) -/
noncomputable def mLent (n slots j : Nat) (bA bB : S → Option Out) : List D → Option FR := fun ds => if ds.length = n then (match ds[j]? with
  | some (.lst gs) => if gs.all scalB = true ∧ (∀ i e, i ≠ j → ds[i]? = some e → lfB e = true) then (match bA (ds.map some ++ List.replicate (slots - ds.length) none) with
      | some (.rt d s') => if s'[j]? = some (some (.lst gs)) then some (.ret d) else none
      | _ => none) else none
  | _ => defM n slots bB ds) else none
section
variable {P : Program} {w : World} {K : PySem.W.Frag} {mg : Str → Option Value} {base : Heap} {T : CT} {E : XK}
theorem mLent_len {n slots j : Nat} {bA bB : S → Option Out} : ∀ vs H Q E, spM K T (mLent n slots j bA bB) vs H Q E → vs.length = n := by
  intro vs H Q E ⟨F, ds, r, hx, hd, hm, hfin⟩
  unfold mLent at hm
  split at hm
  case isFalse => cases hm
  rename_i h
  rw [dva_len hd, h]
theorem cal_mirrorGdL {x : Str} {st : Stmt} {N ps : List Str} {k k' : Nat} {oth othB : List Nat} {j : Nat} {gA gB : S → Option Out} {m : List D → Option FR} (F : Def0 K mg x st ps) (Sc : FnScope N ps (defScope st)) (hown : ∀ i ∈ oth, ps.length ≤ i) (hownB : ∀ i ∈ othB, ps.length ≤ i) (hj : j < ps.length) (hlen : ps.length ≤ N.length) (hk : k' = k + 1) (hm : m = mLent ps.length N.length j gA gB)
    (hA : ∀ f cdv A outer s H E hr, A.guards = some [] → CSs (fam P w K mg base N x (defScope st) f k cdv A outer s H E hr) T E [j] (oth ++ [j]) (defBody st) gA)
    (hB : ∀ f cdv A outer s H E hr, A.guards = some [] → CSs (fam P w K mg base N x (defScope st) f k cdv A outer s H E hr) T E [] othB (defBody st) gB) : CalGd P w K mg base T x k' ps m := by
  subst hk hm
  obtain ⟨ad, fd, F, hm, hb'⟩ := F
  refine ⟨ad, fd, FnG.okX F Sc mLent_len fun cdv A outer s H vs Q E hgd hr h => ?_, hm, F.kp, hb'⟩
  obtain ⟨F0, ds, r, hx, hd, hm', hfin⟩ := h
  unfold mLent at hm'
  split at hm'
  case isFalse => cases hm'
  rename_i hn
  split at hm'
  · rename_i gs hl
    split at hm'
    case isFalse => cases hm'
    rename_i hc
    split at hm'
    case h_2 => cases hm'
    rename_i d s' hg
    split at hm'
    case isFalse => cases hm'
    rename_i hs'
    cases hm'
    exact body_mirrorL hown hj hlen (hA ad cdv A outer s H E hr hgd) hx hd hn hl hc.1 hc.2 hg hs' hfin
  · exact body_mirror hownB hlen (hB ad cdv A outer s H E hr hgd) ⟨F0, ds, r, hx, hd, hm', hfin⟩
end
end Mr

set_option Elab.async false
set_option linter.all false
set_option maxRecDepth 100000
set_option maxHeartbeats 2000000
/-! the end of a law whose defs show -/
namespace Mr
open PySem PySem.Spec PyProof.Rows L2
open Evl (Ex)
/-- what is tracked at the law's entry: the script alone, if it isn't the written part's own -/
theorem script_heap {P : Program} {w : World} {K : PySem.W.Frag} {h : Heap} {a : Addr} {vs : List Value} {ns : List Int} (KX : K.In h) (ha : h.get? a = some { cls := .type "list", data := .seq vs.toArray }) (hi : IntsAre vs ns) (hl : ns.length ≤ sizeLine) :
    ∃ H : Hp, SqL K H a (ns.map V.int) ∧ Only H ∧ (∀ b u, H b = some u → b = a ∧ K.lookup a = none) ∧ HOk P w H h := by
  have rv := vals_ints hi
  have hlen := hi.length
  cases hk : K.lookup a with
  | some o =>
    have e := KX a o hk
    rw [e] at ha
    injection ha with ha
    subst ha
    exact ⟨fun _ => none, .inr ⟨_, _, _, hk, rfl, rfl, rfl, by rw [List.size_toArray, hlen]; exact hl, by simpa using rv⟩, fun _ => .inl rfl, fun b u z => (by cases z), fun b u z => (by cases z)⟩
  | none =>
    refine ⟨upd (fun _ => none) a (.frz { cls := .type "list", data := .seq vs.toArray } (.lst (ns.map V.int))), .inl (.inr ⟨_, upd_same⟩), fun b => ?_, fun b u z => ?_, fun b u z => ?_⟩
    · by_cases hb : b = a
      · subst hb; exact .inr ⟨_, _, upd_same⟩
      · exact .inl (upd_ne hb)
    · by_cases hb : b = a
      · exact ⟨hb, rfl⟩
      · rw [upd_ne hb] at z; cases z
    · by_cases hb : b = a
      · subst hb
        rw [upd_same] at z
        cases z
        exact ⟨ha, by rw [List.length_map]; exact hl, vs, _, rv, ha⟩
      · rw [upd_ne hb] at z; cases z
theorem law_callG {P : Program} {w : World} {K : PySem.W.Frag} {mg mb : Str → Option Value} {CX : CXT} {k : Nat} {fa a : Addr} {fd : FuncData} {x : Str} {sp : Sp} {s₁ : Shared} {vs : List Value} {ns : List Int}
    (KX : K.In s₁.heap) (hns : s₁.heap.Ns mainGlobals mg) (hb : s₁.heap.Ns builtinsNs mb) (hbb : ∀ x : Str, x ≠ "__name__" → mb x = bootBuiltins x) (hlim : s₁.heap.NoLimit) (hg : s₁.gens = #[])
    (ha : s₁.heap.get? a = some { cls := .type "list", data := .seq vs.toArray }) (hi : IntsAre vs ns) (hl : ns.length ≤ sizeLine) (hr : Room k callerA)
    (F : ∀ base : Heap, K.In base → base.Ns mainGlobals mg → FnG P w K mg base CX k fa fd [x] sp) (hbind : ∀ (s : Shared) (u : Value), BindsTo s fd ⟨[u], []⟩ [(x, u)])
    (hsp : ∀ H : Hp, Only H → SqL K H a (ns.map V.int) → sp [.ref a] H (fun v _ => v = .bl true) fun _ _ _ => False)
    (hCX : ∀ H e s', CX [] H s₁ (fun _ _ _ => False) e s' → False) :
    codeAny (model P w) callerA (.call (.ref fa) ⟨[.ref a], []⟩) (fun r s' => r = .ok (.ret (.bool true)) ∧ OldK s₁.heap s'.heap ∧ s'.os = s₁.os ∧ AllBare s'.gens) s₁ := by
  obtain ⟨H, hS, hO, hA, hok⟩ := script_heap (P := P) (w := w) KX ha hi hl
  -- what isn't tracked is the ground
  have low : ∀ {b : Addr} {o : Obj}, s₁.heap.get? b = some o → (b ≠ a ∨ K.lookup a ≠ none) → (hidT s₁.heap H).get? b = some o := fun {b o} e n => hidT_get e (by
    cases q : H b with
    | none => rfl
    | some u =>
      obtain ⟨q1, q2⟩ := hA b u q
      rcases n with n | n
      · exact absurd q1 n
      · exact absurd q2 n)
  have lowNs : ∀ {b : Addr} {m : Str → Option Value}, s₁.heap.Ns b m → (hidT s₁.heap H).Ns b m := fun {b m} ⟨o, es, ep, e, d, r⟩ => ⟨o, es, ep, low e (.inl fun z => by
    rw [z, ha] at e
    injection e with e
    rw [← e] at d
    cases d), d, r⟩
  have lowK : K.In (hidT s₁.heap H) := fun b o e => low (KX b o e) (by
    by_cases z : b = a
    · exact .inr (by rw [← z, e]; exact fun q => by cases q)
    · exact .inl z)
  have md : Mod K mg (hidT s₁.heap H) := ⟨lowK, lowNs hns, ⟨mb, lowNs hb, hbb⟩, hlim.elim fun mc h => ⟨mc, lowNs h.1, h.2⟩⟩
  have env : Env0 P w K mg (hidT s₁.heap H) callerA [] s₁ H := ⟨rfl, md, fun b o e => of_hidT e, Nat.le_of_eq (hidT_size _ _), trivial, fun b z => (by cases z), hok, .of_eq hg⟩
  refine codeAny_mono ((F _ lowK (lowNs hns)).run callerA [] s₁ H ⟨[.ref a], []⟩ [.ref a] [.ref a] _ _ rfl hr env (hbind s₁ (.ref a)) (.cons rfl .nil) (hsp H hO hS)) fun r s' h => ?_
  match r, h with
  | .error e, h => exact (hCX H e s' h).elim
  | .ok (.ret u), ⟨v, H', os, bare, un, hok', rv, q⟩ =>
    cases (show v = .bl true from q)
    cases (show u = Value.bool true from rv)
    refine ⟨rfl, OldK.of_keep fun b o e => ?_, os, bare⟩
    cases q : H b with
    | none => exact un.keep b o e q (fun z => by cases z) (fun z => by cases z)
    | some u =>
      rcases hO b with z | ⟨ob, xs, z⟩
      · rw [q] at z; cases z
      · have g1 := (hok b _ z).1
        rw [e] at g1
        cases g1
        exact (hok' b _ (un.frzs b _ _ z)).1
  | .ok .next, h => exact h.elim
  | .ok .brk, h => exact h.elim
  | .ok .cont, h => exact h.elim
theorem walk_ofG {l : PySem.W.OpenLaw} {n k : Nat} {q : Program} {loose : List Str} {XP : (Str → Option Value) → Heap → Prop} {YP : World → Heap → Prop} {d : DefRec} {K : Params → PySem.W.Frag} {CX : World → CXT} {sp : World → Sp} {x : Str}
    (hn : l.most = some n) (hn2 : n ≤ sizeLine) (hdf : d.params.defaults = []) (hr : Room k callerA)
    (hY : ∀ (w : World) (h : Heap), YP w h → (K w.params).In h)
    (F : ∀ (w : World) (mg : Str → Option Value) (fa : Addr) (h : Heap), (K w.params).In h → h.Ns mainGlobals mg → mg d.name = some (.ref fa) →
      ∃ fd : FuncData, (∀ (s : Shared) (u : Value), BindsTo s fd ⟨[u], []⟩ [(x, u)]) ∧
        ∀ base : Heap, (K w.params).In base → base.Ns mainGlobals mg → FnG l.prog w (K w.params) mg base (CX w) k fa fd [x] (sp w))
    (hsp : ∀ (w : World) (H : Hp) (a : Addr) (ns : List Int), ns.length ≤ n → Only H → SqL (K w.params) H a (ns.map V.int) → sp w [.ref a] H (fun v _ => v = .bl true) fun _ _ _ => False)
    (hCX : ∀ (w : World) (H : Hp) (s : Shared) (e : Value) (s' : Shared), CX w [] H s (fun _ _ _ => False) e s' → False) :
    PySem.W.WalkO q loose XP YP l.row.toRowW d [] (fun f vs => PySem.call f vs) := by
  refine Att.attach_call hn hdf fun w s₀ s₁ mg mb fa o pm cd doc a vs ns G Y ho hd hcd hmg hobj hints hlen hg => ?_
  obtain ⟨fd, hb, hF⟩ := F w mg fa _ (hY w _ Y) G.T.g hmg
  exact law_callG (hY w _ Y) G.T.g G.T.b G.T.builtins G.T.nolimit hg hobj hints (Nat.le_trans hlen hn2) hr hF hb (fun H z1 z2 => hsp w H a ns hlen z1 z2) fun H e s' => hCX w H s₁ e s'
/-- the same, the promise told by the written part alone -/
theorem walk_ofGK {l : PySem.W.OpenLaw} {n k : Nat} {q : Program} {loose : List Str} {XP : (Str → Option Value) → Heap → Prop} {YP : World → Heap → Prop} {d : DefRec} {K : Params → PySem.W.Frag} {sp : PySem.W.Frag → Sp} {x : Str}
    (hn : l.most = some n) (hn2 : n ≤ sizeLine) (hdf : d.params.defaults = []) (hr : Room k callerA)
    (hY : ∀ (w : World) (h : Heap), YP w h → (K w.params).In h)
    (F : ∀ (w : World) (mg : Str → Option Value) (fa : Addr) (h : Heap), (K w.params).In h → h.Ns mainGlobals mg → mg d.name = some (.ref fa) →
      ∃ fd : FuncData, (∀ (s : Shared) (u : Value), BindsTo s fd ⟨[u], []⟩ [(x, u)]) ∧
        ∀ base : Heap, (K w.params).In base → base.Ns mainGlobals mg → FnG l.prog w (K w.params) mg base (L2.CX l.prog w) k fa fd [x] (sp (K w.params)))
    (hsp : ∀ (K : PySem.W.Frag) (H : Hp) (a : Addr) (ns : List Int), ns.length ≤ n → SqL K H a (ns.map V.int) → sp K [.ref a] H (fun v _ => v = .bl true) fun _ _ _ => False) :
    PySem.W.WalkO q loose XP YP l.row.toRowW d [] (fun f vs => PySem.call f vs) :=
  walk_ofG (K := K) (CX := fun w => L2.CX l.prog w) (sp := fun w => sp (K w.params)) hn hn2 hdf hr hY F (fun w H a ns h1 _ h3 => hsp (K w.params) H a ns h1 h3) fun _ _ _ _ _ ⟨_, _, _, _, _, z⟩ => z.2.2.2.2.2.2.2
end Mr

set_option Elab.async false
set_option linter.all false
set_option maxRecDepth 100000
set_option maxHeartbeats 2000000
/-! the law's top: for index in range(n): if not right(generator(script, index)): return False; return E -/
namespace Mr
open PySem PySem.Spec PyProof.Rows L2
open Evl (Ex)
def spGenB (K : PySem.W.Frag) : Sp := fun vs H Q E => (∃ l, ∃ j : Nat, vs = [l, .int (j : Nat)] ∧ j < 1000) ∧ spGenS K glD vs H Q E
def spLawT (K : PySem.W.Frag) (n : Nat) (right : List D → List D → Option (D × List D)) : Sp := fun vs H Q _ => ∃ (l : Addr) (ns : List Int), vs = [V.ref l] ∧ SqL K H l (ns.map V.int) ∧ (∀ j, j < n → ∃ gs', right ((glD (cellD ns j) j).map D.int) [] = some (.bl true, gs')) ∧ ∀ H2, Q (.bl true) H2
def tTurnT (K : PySem.W.Frag) (T : CT) (right : List D → List D → Option (D × List D)) : TS :=
  tSeq (tIfS (tNot (fun σ H Q => tCall (spG K T right) [] E0 (tCons (tCall (spGenB K) [] E0 (tCons (tVar 0) (tCons (tVar 1) tNil))) tNil) σ H fun x H' => ∃ k, TruV K x H' k ∧ Q k H')) (tSeq (tRet (tC (.bl false))) tNext) tNext) tNext
def tLawT (K : PySem.W.Frag) (T : CT) (n : Nat) (right : List D → List D → Option (D × List D)) (te : TE) : TS := tSeq (tFor (iRng1 (tCons (tC (.int (n : Nat))) tNil)) (gName 1) (tTurnT K T right)) (tSeq (tRet te) tNext)
theorem law_runT {K : PySem.W.Frag} {T : CT} {n : Nat} {right : List D → List D → Option (D × List D)} {te : TE} {n0 n1 : Str} (hn : n < 1000) (hte : ∀ σ : L2.St, σ.length = 2 → ∀ H, EvV K T te σ (fun _ => none) H (.bl true)) {vs : List V} {H : Hp} {Q : VK} {E : XK} (h : spLawT K n right vs H Q E) :
    tLawT K T n right te { nx := fun _ H' => Q .non H', rt := Q } (L2.start [n0, n1] vs) H := by
  obtain ⟨l, ns, rfl, hs, hg, q⟩ := h
  refine ⟨(n : Nat), rfl, by omega, by omega, ?_⟩
  refine for_range (lo := 0) (n := ((n : Nat) : Int).toNat) (fun i σ H' => ∃ v, σ = [some (V.ref l), v] ∧ Ex H H') ⟨none, rfl, Ex.refl H⟩ (fun i σ H1 hi ⟨v, hσ, e1⟩ => ?_) fun σ H1 ⟨v, hσ, e1⟩ => ?_
  · subst hσ
    have hi' : i < n := by simpa using hi
    obtain ⟨gs', hr⟩ := hg i hi'
    refine ⟨_, rfl, _, rfl, ⟨_, i, by rw [Int.zero_add]; rfl, by omega⟩, l, ns, i, by rw [Int.zero_add]; rfl, SqL.ext hs e1, fun p H2 e2 hp hH => ?_⟩
    refine ⟨fun _ => none, p, _, _, [], [], .bl true, gs', rfl, fun _ _ z => (by cases z), rfl, hH, ints_dva _, .nil, hr, fun v F' H' xs' e n1 hH' hd rv => ?_⟩
    cases dv_bl rv
    refine ⟨true, rfl, ?_⟩
    show if false = true then _ else _
    rw [if_neg Bool.false_ne_true]
    refine ⟨_, rfl, fun b o hb => ?_⟩
    have hb1 := e1 b o hb
    have hne : b ≠ p := fun z => by rw [z, hp] at hb1; cases hb1
    exact Ext.all (F := fun _ => none) (fun _ _ z => by cases z) e b o (by rw [del_ne hne]; exact e2 b o hb1)
  · subst hσ
    exact hte _ rfl H1 (fun _ => none) H1 (Ext.refl fun _ _ z => (by cases z)) _ fun v F2 H2 e2 rv => by
      cases dv_bl rv
      exact q H2
theorem lawT_len {K : PySem.W.Frag} {n : Nat} {right : List D → List D → Option (D × List D)} : ∀ vs H Q E, spLawT K n right vs H Q E → vs.length = 1 := by
  intro vs H Q E ⟨l, ns, h, _⟩
  rw [h]
  rfl
end Mr

set_option Elab.async false
set_option linter.all false
set_option maxRecDepth 100000
set_option maxHeartbeats 2000000
/-! the program's errors: one __init__(self, value=None) that stores value -/
namespace Mr
open PySem PySem.Spec PyProof.Rows L2
open Evl (Ex)
section
variable {P : Program} {w : World} {K : PySem.W.Frag} {mg : Str → Option Value} {base : Heap}
def tErrI (K : PySem.W.Frag) : TS := tOst K "value" (tVar 0) (tVar 1)
theorem errI_ok {CX : CXT} {x qual : Str} {params : Arguments} {body : List Stmt} {scope : Scope} {dvs : List V} {kws : List (Str × V)} {f : Addr} {fd : FuncData} {n0 n1 : Str} (F : FunD K x qual params body scope dvs kws f fd) (S : FnScope [n0, n1] [n0, n1] scope)
    (hb : ∀ X : Cx, X.N = [n0, n1] → X.env.scope = scope → X.K = K → PSs X body (tErrI K)) : FnOk P w K mg base CX 1 f fd [n0, n1] (spInit K) := by
  refine F.ok S (fun vs H Q E h => ?_) fun cdv A outer s H vs Q E hr h => ⟨tErrI K, hb _ rfl rfl rfl, ?_⟩
  · obtain ⟨a, C, v, rfl, _⟩ := h
    rfl
  · obtain ⟨a, C, v, rfl, ⟨o1, o2⟩, h1, q⟩ := h
    exact ⟨v, rfl, .ref a, rfl, a, C, rfl, o1, o2, .inl ⟨h1, fun dx n1 n2 => q dx n1 n2⟩⟩
end
theorem err_mk {P : Program} {w : World} {K : PySem.W.Frag} {mg : Str → Option Value} {base : Heap} {x : Str} {C fI : Addr} {fd : FuncData} {n0 n1 : Str} (O : OexC K C) (no : PySem.W.findIn K (.ref C) "value" = some none) (iC : PySem.W.findIn K (.ref C) "__init__" = some (some (.ref fI))) (tI : PySem.W.typeIn K (.ref fI) = some (.type "function"))
    (hm : mg x = some (.ref C)) (hdb : (x == ("__debug__" : Str)) = false) (F1 : FnOk P w K mg base CX0 1 fI fd [n0, n1] (spInit K)) (hb : L2.Binds K fd [n0, n1] []) : Err P w K mg base x C :=
  ⟨⟨O, no⟩, fun X hP hw hK hmg hbase hr hg => by
    subst hP hw hK hmg hbase
    exact pmkV O iC tI F1 hr hb pass0 hg hm hdb⟩
theorem rel_int (n : Int) (t : Tok) : RelV (V.int n) (Value.int n t) := ⟨t, rfl⟩
theorem swp_rel {sw : Bool} {vs : List V} {us : List Value} {zs : List V} {ws : List Value} (h1 : Vals vs us) (h2 : Vals zs ws) : Vals (swp sw vs zs) (swp sw us ws) := by
  cases h2 with
  | nil => exact h1
  | cons a t =>
    cases t with
    | nil => exact h1
    | cons b t2 =>
      cases t2 with
      | nil =>
        cases sw with
        | true => exact h1.append (.cons b (.cons a .nil))
        | false => exact h1.append (.cons a (.cons b .nil))
      | cons c t3 => exact h1
end Mr

set_option Elab.async false
set_option linter.all false
set_option maxRecDepth 100000
set_option maxHeartbeats 2000000
/-! xs[i] += e in a list of one's own; bool(a list) -/
namespace Mr
open PySem PySem.Spec PyProof.Rows L2
open Evl (Ex)
theorem get_listP {X : Cx} : PGet X (rIxL X.K) := by
  intro pins s σ H o i ov iv Q I ro ri h
  obtain ⟨p, xs, k, z, rfl, rfl, hq, he, q⟩ := h
  cases ro
  obtain ⟨t, rfl⟩ := ri
  obtain ⟨its, r, pl, hz⟩ := I.list hq
  obtain ⟨j, h1, h2, h3, h4, h5⟩ := atI_get he
  obtain ⟨w, ew, rw'⟩ := r.get h2
  have hl := r.length
  have hn := line63
  have fin : EP X pins σ Q w s := ⟨z, H, I, rw', q⟩
  by_cases h0 : 0 ≤ k
  · have hj : k.toNat = j := by
      rw [seqIndex_of h0 h5] at h1
      exact Option.some.inj h1
    exact wpAny_getItem_list pl.isList h0 (by omega) (by rw [hj]; simpa using ew) fin
  · have hj : (k + (its.toArray.size : Int)).toNat = j := by
      rw [seqIndex_neg (by omega) h4] at h1
      rw [List.size_toArray, ← hl]
      exact Option.some.inj h1
    exact wpAny_getItem_list_neg pl.isList (by omega) (by rw [List.size_toArray] <;> omega) (by omega) (by rw [hj]; simpa using ew) fin
def sAugSto (j : Nat) (op : Int → Int → Int) (fi f : XE) : S → Option Out := fun s => match (s[j]?).join, fi s, f s with
  | some (.lst ds), some (.int k), some (.int b) => (ixN ds.length k).bind fun m => match ds[m]? with
    | some (.int a) => some (.nx (s.set j (some (.lst (ds.set m (.int (op a b)))))))
    | _ => none
  | _, _, _ => none
section
variable {G : Fam} {T : CT} {E : XK} {gs own : List Nat} {e a b c : Expr} {es : List Expr} {f g : XE} {p pos p2 apos : Pos}
theorem cs_augStoAdd (j : Nat) {x : Str} {px sp : Pos} {k : Expr} {fi : XE} (he : CE G T e f) (hk : CE G T k fi) (hj : j ∈ own := by decide) (hN : ∀ i, (G.X i).N[j]? = some x := by intro _; rfl) (hv : ∀ i, Vis (G.X i).env.scope x := by intro _; first | exact Or.inl rfl | exact Or.inr (Or.inl rfl) | exact Or.inr (Or.inr rfl))
    (ha : ∀ ov iv new, augStore k ov iv new = (do holding [new, ov, iv] (setItem ov iv new); release [new, ov, iv] []; pure .next) := by intros; rfl)
    (hd : (x == ("__debug__" : Str)) = false := by decide) (hcd : (x == ("__classdict__" : Str)) = false := by decide) : CS G T E gs own (.AugAssign (.Subscript (.Name x px) k sp) .Add e pos) (sAugSto j (fun i j => i + j) fi f) := by
  obtain ⟨te, h1, h2⟩ := he
  obtain ⟨tk, hk1, hk2⟩ := hk
  refine ⟨tAugS (tVar j) tk te (rIxL G.K) (ipI fun i j => i + j) rSetL, fun i => ps_augS (pe_var (hN i) (hv i) hd hcd) (hk1 i) (by rw [← G.hK i]; exact get_listP) (h1 i) ip_add set_list ha, fun F0 H0 ga s σ F H o Dn hga r hg hp => ?_⟩
  unfold sAugSto at hg
  split at hg
  · rename_i ds kk bb h3 h5 h4
    obtain ⟨m, h6, h7⟩ := Option.bind_eq_some_iff.mp hg
    split at h7
    · rename_i aa h8
      cases h7
      rw [Option.join_eq_some_iff] at h3
      obtain ⟨l, xs, ds', g1, g2, g3, g0, g4, g5⟩ := r.ow j _ hj h3
      cases g2
      refine ⟨_, g1, hk2 s σ H H _ (Evl.Ex.refl H) r.slH h5 H H (Ext.refl (Evl.Ex.refl H)) _ fun w F2 H2 e2 rw' => ?_⟩
      have hH : H2 l = some (.lst xs) := e2.sub _ _ (e2.fz _ _ g4)
      obtain ⟨v, hv1, hv2⟩ := dva_get' g5 h8
      cases dv_int rw'
      cases dv_int hv2
      have hat : atI xs kk = some (.int aa) := by
        unfold atI
        rw [dva_len g5, h6]
        exact hv1
      refine ⟨l, xs, kk, _, rfl, rfl, SqL.of hH, hat, ?_⟩
      refine h2 s σ H H _ (Evl.Ex.refl H) r.slH h4 F2 H2 e2 _ fun v F3 H3 e3 rv => ?_
      cases dv_int rv
      have e23 := e2.trans e3
      have hH3 : H3 l = some (.lst xs) := e23.sub _ _ (e23.fz _ _ g4)
      exact ⟨_, _, rfl, rfl, l, xs, kk, m, rfl, rfl, hH3, by rw [dva_len g5]; exact h6, hp F _ _ (Evl.Ex.refl F) ((r.extH e23).write hj h3 g1 (dva_set (.int _) _ g5))⟩
    · cases h7
  · cases hg
end
/-! ### bool(..) -/
def dBool : D → Option D
  | .lst ds => some (.bl (!ds.isEmpty))
  | .int i => some (.bl (i != 0))
  | .bl k => some (.bl k)
  | _ => none
def rBool (K : PySem.W.Frag) : List V → Hp → VK → Prop := fun xs H Q => (∃ (a : Addr) (zs : List V), xs = [.ref a] ∧ SqL K H a zs ∧ Q (.bl (!zs.isEmpty)) H) ∨ (∃ i, xs = [.int i] ∧ Q (.bl (i != 0)) H) ∨ ∃ k, xs = [.bl k] ∧ Q (.bl k) H
theorem call_boolA {X : Cx} : CallR X (.type "bool") (rBool X.K) := by
  intro pins s σ H xs us Q I r h
  rcases h with h | h
  · exact call_boolL pins s σ H xs us Q I r h
  · exact call_bool1 pins s σ H xs us Q I r h
section
variable {K : PySem.W.Frag} {T : CT}
theorem rc_bool : RcV K T (rBool K) (on1 dBool) := by
  intro vs ds d F1 H1 s hs h Q q
  replace h := on1_some h; obtain ⟨x, rfl, h⟩ := h
  obtain ⟨v, rfl, rx⟩ := dva1 hs
  cases x with
  | lst es =>
    cases h
    obtain ⟨a, xs, rfl, ha, da⟩ := dv_lst rx
    have e : es.isEmpty = xs.isEmpty := by
      have := dva_len da
      cases es <;> cases xs <;> first | rfl | (simp at this)
    rw [e] at q
    exact .inl ⟨a, xs, rfl, SqL.of (s _ _ ha), q _ F1 H1 (Ext.refl s) (.bl _)⟩
  | int i => cases h; cases dv_int rx; exact .inr (.inl ⟨i, rfl, q _ F1 H1 (Ext.refl s) (.bl _)⟩)
  | bl k => cases h; cases dv_bl rx; exact .inr (.inr ⟨k, rfl, q _ F1 H1 (Ext.refl s) (.bl _)⟩)
  | non => cases h
  | str _ => cases h
  | tup _ => cases h
  | obj _ _ => cases h
end
section
variable {G : Fam} {T : CT} {a b : Expr} {f g : XE} {fa : XA} {p pos : Pos}
theorem ce_boolC (B : Bi G.mg) (ha : CA G T [a] fa) (hg : ∀ i, Gl (G.X i) "bool" := by intro _; rfl) (he : ∀ i, starEach [a] (G.X i).env = (false, eval a (G.X i).env) :: starEach [] (G.X i).env := by intro _; rfl) (hpl : ∀ i, (backTo pos (starEach [] (G.X i).env)).any (·.1) = false := by intro _; rfl) : CE G T (.Call (.Name "bool" p) [a] [] pos) (xB (on1 dBool) fa) :=
  ce_Ty (fun i => by rw [← G.hK i]; exact call_boolA) rc_bool B.bool (by decide +kernel) ha hg (by decide) (by decide) he hpl
end
end Mr

set_option Elab.async false
set_option linter.all false
set_option maxRecDepth 100000
set_option maxHeartbeats 2000000
/-! attributes as targets; three fields stored off a list -/
namespace Mr
open PySem PySem.Spec PyProof.Rows L2
open Evl (Ex)
def gFld (K : PySem.W.Frag) (to : TE) (f : Str) : TG := fun v σ H Q => to σ H fun o H1 => ∃ a C dx fs, o = .ref a ∧ H1 a = some (.ins C dx fs) ∧ Cls K C ∧ NoAttr K C f ∧ fs.length < 1000 ∧ Q σ (upd H1 a (.ins C dx (putF f v fs)))
theorem pg_fld {X : Cx} {o : Expr} {to : TE} {f : Str} {pos : Pos} (ho : PE X o to) : PG X (.Attribute o f pos) (gFld X.K to f) := by
  refine ⟨fun pins s σ H v u Q I r h => ?_⟩
  rw [PySem.assign_Attribute]
  refine wpAny_bind (wpAny_holding (thn (ho.run pins s σ H _ I h) fun ov s1 ⟨x1, H1, I1, r1, a, C, dx, fs, e1, ea, c, n, l, q⟩ => ?_))
  subst e1
  obtain rfl : ov = Value.ref a := r1
  refine wpAny_bind (wpAny_standAt (wpAny_bind (wpAny_holding (setattr_ok I1 ea c n l r fun s2 I2 => ?_))))
  exact wpAny_release ⟨σ, _, I2, q⟩
theorem InI.ext {K : PySem.W.Frag} {T : CT} {F0 HB F H F2 H2 : Hp} {a dx C : Addr} {dn : List Str} {s : S} {σ : L2.St} {xs : List V} {ds : List D} (I : InI K T F0 HB a dx C dn F H s σ xs ds) (e2 : Ext F H F2 H2) : InI K T F0 HB a dx C dn F2 H2 s σ xs ds := by
  obtain ⟨h3, h4⟩ := e2.own a _ I.fa I.ha
  refine ⟨e2.sub, I.e0.trans e2, ⟨I.sl.len, fun i d hi => ?_⟩, I.s0, I.z0, h3, I.ba, h4, I.lx, dva_mono e2.fz _ _ I.hd⟩
  obtain ⟨w, h5, h6⟩ := I.sl.at_ i d hi
  exact ⟨w, h5, dv_mono e2.fz _ _ h6⟩
theorem InI.put {K : PySem.W.Frag} {T : CT} {F0 HB F H : Hp} {a dx C : Addr} {dn : List Str} {s : S} {σ : L2.St} {xs : List V} {ds : List D} {x : Str} {v : V} {d : D} (I : InI K T F0 HB a dx C dn F H s σ xs ds) (rv : Dv K T F v d) (hdn : x ∉ dn) :
    InI K T F0 HB a dx C (dn ++ [x]) F (upd H a (.ins C dx (putF x v (dn.zip xs)))) s σ (xs ++ [v]) (ds ++ [d]) := by
  refine ⟨fun q u h => ?_, ⟨I.e0.fz, fun q u h => ?_, fun q u h5 h6 => ?_⟩, I.sl, I.s0, I.z0, I.fa, I.ba, ?_, ?_, dva_app I.hd (.cons rv .nil)⟩
  · rw [upd_ne (ne_of_none h I.fa)]; exact I.hx q u h
  · rw [upd_ne (ne_of_none h I.fa)]; exact I.hx q u h
  · rw [upd_ne (ne_of_none h6 I.ba)]
    exact I.e0.own q u h5 h6
  · rw [upd_same, putF_new hdn I.lx]
  · rw [List.length_append, List.length_append, I.lx]
    rfl
def iFld3 (f : XE) (M : S → List D → Option FR) : S → List D → Option FR := fun s ds => (f s).bind fun d => match d with
  | .lst [a, b, c] => M s (ds ++ [a] ++ [b] ++ [c])
  | _ => none
section
variable {G : Fam} {T : CT} {E : XK} {c : Nat} {ns dn : List Str} {sts : List Stmt} {e : Expr} {f : XE} {M : S → List D → Option FR} {p1 p2 p3 q1 q2 q3 tp pos : Pos}
theorem csi_fld3 {x y z sf : Str} {kt : Nat} (O : ClsOk G.K T c ns) (he : CE G T e f) (hr : CSI G T E c (dn ++ [x] ++ [y] ++ [z]) sts M) (hxn : x ∈ ns := by decide) (hyn : y ∈ ns := by decide) (hzn : z ∈ ns := by decide) (hx : x ∉ dn := by decide) (hy : y ∉ dn ++ [x] := by decide) (hz : z ∉ dn ++ [x] ++ [y] := by decide) (hl : dn.length < 900 := by decide) (hN : ∀ i, (G.X i).N[0]? = some sf := by intro _; rfl)
    (hv : ∀ i, Vis (G.X i).env.scope sf := by intro _; first | exact Or.inl rfl | exact Or.inr (Or.inl rfl) | exact Or.inr (Or.inr rfl)) (hd : (sf == ("__debug__" : Str)) = false := by decide) (hcd : (sf == ("__classdict__" : Str)) = false := by decide)
    (hs : ∀ i, swapsWithSole [.Tuple [.Attribute (.Name sf p1) x q1, .Attribute (.Name sf p2) y q2, .Attribute (.Name sf p3) z q3] kt tp] e pos.line (G.X i).env = pure false := by intro _; rfl)
    (hw : ∀ i, swappedStores [.Tuple [.Attribute (.Name sf p1) x q1, .Attribute (.Name sf p2) y q2, .Attribute (.Name sf p3) z q3] kt tp] e (G.X i).env = pure none := by intro _; rfl)
    (h1a : ∀ i, (assignEach [.Tuple [.Attribute (.Name sf p1) x q1, .Attribute (.Name sf p2) y q2, .Attribute (.Name sf p3) z q3] kt tp] (G.X i).env).map (·.2) = [assign (.Tuple [.Attribute (.Name sf p1) x q1, .Attribute (.Name sf p2) y q2, .Attribute (.Name sf p3) z q3] kt tp) (G.X i).env] := by intro _; rfl)
    (hn : ∀ i, (assignEach [.Attribute (.Name sf p1) x q1, .Attribute (.Name sf p2) y q2, .Attribute (.Name sf p3) z q3] (G.X i).env).length = 3 := by intro _; rfl)
    (hst : ∀ i, (assignEach [.Attribute (.Name sf p1) x q1, .Attribute (.Name sf p2) y q2, .Attribute (.Name sf p3) z q3] (G.X i).env).findIdx? (·.1) = none := by intro _; rfl) :
    CSI G T E c dn (.Assign [.Tuple [.Attribute (.Name sf p1) x q1, .Attribute (.Name sf p2) y q2, .Attribute (.Name sf p3) z q3] kt tp] e pos :: sts) (iFld3 f M) := by
  obtain ⟨te, he, ve⟩ := he
  obtain ⟨t, ht, hev⟩ := hr
  refine ⟨tSeq (tAsg te (gUnl G.K 3 (gCons (gFld G.K (tVar 0) x) (gCons (gFld G.K (tVar 0) y) (gCons (gFld G.K (tVar 0) z) gNil))))) t, fun i => pss_cons (ps_asg (he i) ?_ (hs i) (hw i) (h1a i)) (ht i), fun F0 HB a dx F H s σ xs ds r Dn I hm hf => ?_⟩
  · have hk := G.hK i
    have v0 : PE (G.X i) (.Name sf p1) (tVar 0) := pe_var (hN i) (hv i) hd hcd
    have v1 : PE (G.X i) (.Name sf p2) (tVar 0) := pe_var (hN i) (hv i) hd hcd
    have v2 : PE (G.X i) (.Name sf p3) (tVar 0) := pe_var (hN i) (hv i) hd hcd
    rw [← hk]
    exact pg_unl (G.hc i) (pgs_cons (pg_fld v0) (pgs_cons (pg_fld v1) (pgs_cons (pg_fld v2) pgs_nil (by rfl)) (by rfl)) (by rfl)) (hn i) (hst i)
  obtain ⟨d, h1, h2⟩ := Option.bind_eq_some_iff.mp hm
  refine ve s σ F H d I.hx I.sl h1 F H (Ext.refl I.hx) _ fun v F2 H2 e2 rv => ?_
  split at h2
  case h_2 => cases h2
  rename_i da db dc
  obtain ⟨l, ws, rfl, hl1, hl2⟩ := dv_lst rv
  cases hl2 with
  | cons r1 t1 =>
  cases t1 with
  | cons r2 t2 =>
  cases t2 with
  | cons r3 t3 =>
  cases t3
  rename_i w1 w2 w3
  have I2 := I.ext e2
  have I3 := I2.put r1 hx
  have I4 := I3.put r2 hy
  have I5 := I4.put r3 hz
  have lz : ∀ (n : List Str) (m : List V), m.length = n.length → n.length < 1000 → (n.zip m).length < 1000 := fun n m h1 h2 => by rw [List.length_zip]; omega
  refine ⟨l, [w1, w2, w3], rfl, SqL.of (e2.sub _ _ hl1), rfl, w1, _, rfl, ?_⟩
  refine ⟨_, I2.z0, a, T.cls c, dx, _, rfl, I2.ha, O.cls, O.no x hxn, lz _ _ I2.lx (by omega), w2, _, rfl, ?_⟩
  refine ⟨_, I3.z0, a, T.cls c, dx, _, rfl, I3.ha, O.cls, O.no y hyn, lz _ _ I3.lx (by rw [List.length_append]; simp; omega), w3, _, rfl, ?_⟩
  refine ⟨_, I4.z0, a, T.cls c, dx, _, rfl, I4.ha, O.cls, O.no z hzn, lz _ _ I4.lx (by rw [List.length_append, List.length_append]; simp; omega), rfl, ?_⟩
  exact hev F0 HB a dx F2 _ s σ _ _ r Dn I5 h2 hf
end
end Mr

set_option Elab.async false
set_option linter.all false
set_option maxRecDepth 100000
set_option maxHeartbeats 2000000
/-! a != b of a class with its own ==; the truth of an object with its own bool -/
namespace Mr
open PySem PySem.Spec PyProof.Rows L2 PySem.W
open Evl (Ex)
section
variable {prog : Program} {w : World} {A : Around} {E : Value → Shared → Prop} {s : Shared} {K : PySem.W.Frag} {x y C L f : Addr} {h₀ : Heap} {m : Str → Option Value} {ox oy : Obj} {od ody : Option Obj}
theorem ne_bound {M : Model} {args : List Value} {Q : Option Value → Shared → Prop} (X : K.In s.heap) (I : PySem.W.InstAt s.heap x ox C od) (hs : PySem.W.findIn K (.ref C) "__ne__" = some (some (.builtin "object.__ne__")))
    (h : wpAny M A (call (.builtin "object.__ne__") (.ref x :: args)) (fun v => Q (some v)) E s) : wpAny M A (callSpecialIfBound? (.ref x) "__ne__" args) Q E s := by
  unfold callSpecialIfBound? bindSpecialIfBound?
  refine wpAny_holding (wpAny_bind (wpAny_bind (wpAny_bind (I.type.here ((looks_findIn X hs).here ?_)))))
  dsimp only
  rw [PySem.F.cmp_object.ne.bind]
  refine wpAny_bind (wpAny_askSetting (wpAny_ite ?_))
  have z : wpAny M A (call (.builtin "object.__ne__") ([.ref x] ++ args) >>= fun v => pure (some v)) Q E s := wpAny_bind (wpAny_mono h (fun _ _ q => wpAny_pure q) fun _ _ q => q)
  split <;> first | exact wpAny_bind (wpAny_pure (wpAny_pure z)) | exact wpAny_tryCatch (wpAny_bind (wpAny_pure (wpAny_pure z)))
theorem ne_obj {Q : Value → Shared → Prop} (hu : A.units + 1 < cLine) (F : Fr h₀ L s.heap m) (X₀ : K.In h₀) (I : PySem.W.InstAt s.heap x ox C od) (J : PySem.W.InstAt s.heap y oy C ody)
    (hne : PySem.W.findIn K (.ref C) "__ne__" = some (some (.builtin "object.__ne__"))) (hm : PySem.W.mroIn K C (.type "object") = some true)
    (hs : PySem.W.findIn K (.ref C) "__eq__" = some (some (.ref f))) (hf : PySem.W.isFn K (.ref f) = true)
    (h : wpAny (model prog w) A.in1 (call (.ref f) [.ref x, .ref y]) (fun v s' => ∃ b, v = .bool b ∧ Q (.bool (!b)) s') E s) : wpAny (model prog w) A (richCompare .NotEq (.ref x) (.ref y)) Q E s := by
  have X := X₀.keeps F.keep
  have body : ∀ {Q2 : Fin → Shared → Prop}, (∀ b s', Q (.bool b) s' → Q2 (.done (.ret (.bool b))) s') → wpAny (model prog w) A.in1 (Builtin.«object.__ne__» ⟨[.ref x, .ref y], []⟩) Q2 E s := fun {Q2} hq => by
    unfold Builtin.«object.__ne__»
    repeat (first
      | with_reducible refine wpAny_cRoomFor hu ?_
      | (refine wpAny_bind (m := callSpecialIfBound? (.ref x) (Str.ofString "__eq__") [.ref y]) (ifBound_K X I hs hf (wpAny_mono h (fun r s' hr => by
          obtain ⟨b, rfl, hz⟩ := hr
          repeat (first | exact hq _ _ hz | (refine wpAny_bind (m := truthy (.bool _)) (wpAny_truthy_bool ?_)) | exact wpAny_pure (hq _ _ hz) | wp_step)) fun _ _ e => e)))
      | wp_step)
  have inst : Looks (model prog w) s.heap (isInstance (.ref x) (.type "object")) true := I.type.andThen (looks_mroIn X hm)
  have one : wpAny (model prog w) A (tryCompare (.ref x) "__ne__" (.ref y)) (fun r s' => ∃ v, r = some v ∧ Q v s') E s := by
    unfold tryCompare
    refine wpAny_bind (ne_bound X I hne (wpAny_call (codeAny_call_builtin PySem.F.cmp_object.ne.plain PySem.F.cmpEntry_ne
      (check_slot PySem.F.cmpKind_ne PySem.F.cmpSplit_ne inst (PySem.F.cmpArgs_ne _ _) (body fun b s' hz => ?_)))))
    first | exact ⟨_, rfl, wpAny_pure ⟨_, rfl, hz⟩⟩ | exact wpAny_pure ⟨_, rfl, hz⟩ | skip
  unfold richCompare
  simp only [oneThing_ref]
  refine wpAny_holding (wpAny_bind (wpAny_cRoomFor (Nat.lt_of_succ_lt hu) (wpAny_bind (I.type.here (wpAny_bind (J.type.here ?_))))))
  rw [show (Value.ref C != Value.ref C) = false from by simp]
  refine wpAny_bind (wpAny_pure ?_)
  simp only [Bool.false_eq_true, if_false]
  exact wpAny_bind (wpAny_mono one (fun r s' ⟨v, e, hq⟩ => by subst e; exact wpAny_pure hq) fun _ _ e => e)
end
/-- what the written part says of != of the class c: the object's own -/
def NeOk (K : PySem.W.Frag) (T : CT) (c : Nat) : Prop := PySem.W.findIn K (.ref (T.cls c)) "__ne__" = some (some (.builtin "object.__ne__"))
/-- a call one frame further in -/
theorem run_in1 {X : Cx} {CXc : CXT} {k : Nat} {f : Addr} {fd : FuncData} {ps : List Str} {sp : Sp} {pins : List (Addr × Obj)} {σ : L2.St} {H : Hp} {s : Shared} {Q : VK} {us : List Value} {vs : List V} (F : FnOk X.prog X.w X.K X.mg X.base CXc k f fd ps sp) (hr : Room k X.A.in1) (hb : Binds X.K fd ps []) (hx : Passes CXc X E0)
    (I : Inv X pins σ H s) (r : Vals vs us) (h : sp vs H Q E0) : wpAny (model X.prog X.w) X.A.in1 (call (.ref f) us) (EP X pins σ Q) X.xe s := by
  have r2 : Vals (vs ++ []) (us ++ []) := r.append .nil
  have hl : (us ++ []).length = ps.length := by rw [← r2.length, List.append_nil]; exact F.len _ _ _ _ h
  refine wpAny_call (codeAny_mono (F.run X.A.in1 X.stack s H ⟨us, []⟩ (us ++ []) (vs ++ []) Q E0 hr I.env0.in1 (hb s us I.kIn hl) r2 (by rw [List.append_nil]; exact h)) fun r s' hq => ?_)
  cases r with
  | error e => exact hx pins σ H s e s' I hq
  | ok fl =>
    cases fl with
    | ret u => exact I.after hq
    | next => exact False.elim hq
    | brk => exact False.elim hq
    | cont => exact False.elim hq
def rOwnNe (K : PySem.W.Frag) (T : CT) (c : Nat) (sp : Sp) : R2 := fun x y H Q => ∃ F ds es, Ex F H ∧ Dv K T F x (.obj c ds) ∧ Dv K T F y (.obj c es) ∧ sp [x, y] H (fun v H' => ∃ b, v = .bl b ∧ Q (.bl (!b)) H') E0
theorem op_ownNe {X : Cx} {T : CT} {c : Nat} {ns : List Str} {sp : Sp} {k : Nat} {f : Addr} {fd : FuncData} {ps : List Str} {CXc : CXT} (O : ClsOk X.K T c ns) (N : NeOk X.K T c) (F : FnOk X.prog X.w X.K X.mg X.base CXc k f fd ps sp) (hM : Meth X.K (T.cls c) "__eq__" f) (hB : Binds X.K fd ps [])
    (hr : Room (k + 1) X.A) (hx : Passes CXc X E0) : OpR X (compareOp .NotEq) (rOwnNe X.K T c sp) := by
  intro pins s σ H x y v u Q I rx ry hq
  obtain ⟨F0, ds, es, hF, dx, dy, q⟩ := hq
  show wpAny (model X.prog X.w) X.A (richCompare .NotEq v u) (EP X pins σ Q) X.xe s
  obtain ⟨a, ax, xs, rfl, h1, _, _⟩ := dv_obj dx
  cases (show v = Value.ref a from rx)
  obtain ⟨b, bx, ys, rfl, h2, _, _⟩ := dv_obj dy
  cases (show u = Value.ref b from ry)
  obtain ⟨mA, J, _⟩ := ins_get I.hok (hF _ _ h1)
  obtain ⟨od, J, _⟩ := J.look
  obtain ⟨mB, J', _⟩ := ins_get I.hok (hF _ _ h2)
  obtain ⟨od', J', _⟩ := J'.look
  obtain ⟨m, hFr⟩ := I.fr
  have hu : X.A.units + 1 < cLine := by have := hr.un; omega
  refine ne_obj hu hFr I.ok.mod.kin J J' N O.hm hM.at_ hM.fn ?_
  refine wpAny_mono (run_in1 (us := [.ref a, .ref b]) (vs := [.ref a, .ref b]) F hr.in1 hB hx I (.cons rfl (.cons rfl .nil)) q) (fun w s' z => ?_) fun _ _ x => x
  obtain ⟨z', H', I', rz, b', eb, qz⟩ := z
  subst eb
  cases (show w = Value.bool b' from rz)
  exact ⟨b', rfl, .bl (!b'), H', I', rfl, qz⟩
def dNeO (c : Nat) (mm : List D → Option FR) : D → D → Option D := fun x y => if isObj c x then (if isObj c y then ((mm [x, y]).bind frD).bind fun d => match d with | .bl b => some (.bl (!b)) | _ => none else none) else dNe x y
theorem rv_ownNe {K : PySem.W.Frag} {T : CT} {c : Nat} {mm : List D → Option FR} : RvV K T (fun x y H Q => rOwnNe K T c (spM K T mm) x y H Q ∨ rNeD K x y H Q) (dNeO c mm) := by
  intro x y d1 d2 d F1 H1 s rx ry h Q q
  unfold dNeO at h
  split at h
  case isFalse => exact .inr (rv_ne x y d1 d2 d F1 H1 s rx ry h Q q)
  rename_i ho
  split at h
  case isFalse => cases h
  rename_i hd
  obtain ⟨d3, h3, h4⟩ := Option.bind_eq_some_iff.mp h
  obtain ⟨r, h5, h6⟩ := Option.bind_eq_some_iff.mp h3
  obtain ⟨ds, rfl⟩ := isObj_some ho
  obtain ⟨es, rfl⟩ := isObj_some hd
  split at h4
  case h_2 => cases h4
  cases h4
  unfold frD at h6
  split at h6
  case h_2 => cases h6
  cases h6
  exact .inl ⟨F1, ds, es, s, rx, ry, F1, _, _, s, .cons rx (.cons ry .nil), h5, fun v F' H' e rv => ⟨_, dv_bl rv, q _ F' H' e (.bl _)⟩⟩
section
variable {G : Fam} {T : CT} {a b : Expr} {f g : XE} {p pos apos : Pos} {c : Nat} {ns : List Str} {mm : List D → Option FR}
theorem ce_neO {k : Nat} {ps : List Str} (O : ClsOk G.K T c ns) (N : NeOk G.K T c) (C : CalM G.P G.w G.K G.mg G.base T c "__eq__" k ps mm) (hku : k + 1 ≤ G.u) (hx : ∀ i, Passes (L2.CX G.P G.w) (G.X i) E0) (ha : CE G T a f) (hb : CE G T b g) : CE G T (.Compare a [.NotEq] [b] pos) (xOp (dNeO c mm) f g) := by
  obtain ⟨fa, fd, Fo, hM, hB⟩ := C
  refine ce_cmp (fun i => OpR.or2 ?_ (by rw [← G.hK i]; exact op_neD (G.hr i).units)) rv_ownNe ha hb (nomark _)
  have h := op_ownNe (X := G.X i) (by rw [G.hK i]; exact O) (by rw [G.hK i]; exact N) (Fam.fn Fo i) (by rw [G.hK i]; exact hM) (by rw [G.hK i]; exact hB) ((G.hr i).mono hku) (hx i)
  rw [G.hK i] at h
  exact h
end
/-! ### truth -/
def rTruO (K : PySem.W.Frag) (T : CT) (c : Nat) (sp : Sp) : V → Hp → (Bool → Hp → Prop) → Prop := fun x H Q => (∃ F ds, Ex F H ∧ Dv K T F x (.obj c ds) ∧ sp [x] H (fun v H' => ∃ b, v = .bl b ∧ Q b H') E0) ∨ ∃ k, TruV K x H k ∧ Q k H
theorem tru_own {X : Cx} {T : CT} {c : Nat} {ns : List Str} {sp : Sp} {k : Nat} {f : Addr} {fd : FuncData} {ps : List Str} {CXc : CXT} (O : ClsOk X.K T c ns) (F : FnOk X.prog X.w X.K X.mg X.base CXc k f fd ps sp) (hM : Meth X.K (T.cls c) "__bool__" f) (hB : Binds X.K fd ps [])
    (hr : Room k X.A) (hx : Passes CXc X E0) : TruR X (rTruO X.K T c sp) := by
  intro pins s σ H x v Q I rx hq
  rcases hq with ⟨F0, ds, hF, dx, q⟩ | hq
  · obtain ⟨a, ax, xs, rfl, h1, _, _⟩ := dv_obj dx
    cases (show v = Value.ref a from rx)
    obtain ⟨mA, J, _⟩ := ins_get I.hok (hF _ _ h1)
    obtain ⟨od, J, _⟩ := J.look
    obtain ⟨m, hFr⟩ := I.fr
    refine truthy_K hFr I.ok.mod.kin J hM.at_ hM.fn ?_
    refine wpAny_mono (run_fn (us := [.ref a]) (vs := [.ref a]) (dvs := []) F hr hB .nil hx I (.cons rfl .nil) (by rw [List.append_nil]; exact q)) (fun w s' z => ?_) fun _ _ x => x
    obtain ⟨z', H', I', rz, b', eb, qz⟩ := z
    subst eb
    cases (show w = Value.bool b' from rz)
    exact ⟨H', I', qz⟩
  · exact tru_ok pins s σ H x v Q I rx hq
def xTruO (c : Nat) (mm : List D → Option FR) (f : XE) : XT := fun s => (f s).bind fun d => if isObj c d then ((mm [d]).bind frD).bind fun e => match e with | .bl b => some b | _ => none else dTru d
section
variable {G : Fam} {T : CT} {a b : Expr} {f g : XE} {p pos apos : Pos} {c : Nat} {ns : List Str} {mm : List D → Option FR}
theorem ct_truO {k : Nat} {ps : List Str} (O : ClsOk G.K T c ns) (C : CalM G.P G.w G.K G.mg G.base T c "__bool__" k ps mm) (hku : k ≤ G.u) (hx : ∀ i, Passes (L2.CX G.P G.w) (G.X i) E0) (ha : CE G T a f)
    (he : ∀ i (whole : Sem Value), isTrue a (G.X i).env whole = (do let v ← whole; standAt a.pos; holding [v] (truthy v)) := by intro _ _; rfl) : CT_ G T a (xTruO c mm f) := by
  obtain ⟨fa, fd, Fo, hM, hB⟩ := C
  obtain ⟨ta, ha, va⟩ := ha
  refine ⟨fun σ H Q => ta σ H fun x H' => rTruO G.K T c (spM G.K T mm) x H' Q, fun i => by
    have h := tru_own (X := G.X i) (by rw [G.hK i]; exact O) (Fam.fn Fo i) (by rw [G.hK i]; exact hM) (by rw [G.hK i]; exact hB) ((G.hr i).mono hku) (hx i)
    rw [G.hK i] at h
    exact pt_truthR (ha i) h (he i), fun s σ F H d hx hs hf F1 H1 e1 Q q => ?_⟩
  unfold xTruO at hf
  obtain ⟨x, h1, h2⟩ := Option.bind_eq_some_iff.mp hf
  refine va s σ F H x hx hs h1 F1 H1 e1 _ fun v F2 H2 e2 rv => ?_
  split at h2
  · rename_i ho
    obtain ⟨d3, h3, h4⟩ := Option.bind_eq_some_iff.mp h2
    obtain ⟨r, h5, h6⟩ := Option.bind_eq_some_iff.mp h3
    obtain ⟨ds, rfl⟩ := isObj_some ho
    split at h4
    case h_2 => cases h4
    cases h4
    unfold frD at h6
    split at h6
    case h_2 => cases h6
    cases h6
    exact .inl ⟨F2, ds, e2.sub, rv, F2, _, _, e2.sub, .cons rv .nil, h5, fun v F' H' e rv => ⟨_, dv_bl rv, q F' H' (e2.trans e)⟩⟩
  · right
    have hd : dTru x = some d := h2
    unfold dTru at hd
    split at hd <;> first | (cases hd; done) | skip
    · cases hd; rw [dv_non rv]; exact ⟨false, rfl, q F2 H2 e2⟩
    · cases hd; rw [dv_bl rv]; exact ⟨_, rfl, q F2 H2 e2⟩
    · cases hd; rw [dv_int rv]; exact ⟨_, rfl, q F2 H2 e2⟩
    · cases hd
      obtain ⟨a, xs, rfl, hl, hd⟩ := dv_lst rv
      refine ⟨_, .inl ⟨xs, SqL.of (e2.sub _ _ hl), ?_⟩, q F2 H2 e2⟩
      cases hd <;> rfl
    · cases hd
      obtain ⟨a, xs, rfl, hl, hd⟩ := dv_tup rv
      refine ⟨_, .inr (.inl ⟨xs, Evl.ex_t e2.sub hl, ?_⟩), q F2 H2 e2⟩
      cases hd <;> rfl
end
end Mr

set_option Elab.async false
set_option linter.all false
set_option maxRecDepth 100000
set_option maxHeartbeats 2000000
/-! a new instance whose fields are written anew before it is handed out -/
namespace Mr
open PySem PySem.Spec PyProof.Rows L2
open Evl (Ex)
mutual
/-- within d only instances of the class c' stand -/
def onlyC (c' : Nat) : D → Bool
  | .obj c ds => decide (c = c') && onlyCs c' ds
  | .lst ds => onlyCs c' ds
  | .tup ds => onlyCs c' ds
  | .non => true
  | .bl _ => true
  | .int _ => true
  | .str _ => true
def onlyCs (c' : Nat) : List D → Bool
  | [] => true
  | d :: ds => onlyC c' d && onlyCs c' ds
end
def cutH (a : Addr) (F : Hp) : Hp := fun q => if q = a then none else F q
theorem cut_at {a : Addr} {F : Hp} : cutH a F a = none := if_pos rfl
theorem cut_ne {a q : Addr} {F : Hp} (h : q ≠ a) : cutH a F q = F q := if_neg h
theorem zip_fst : ∀ {ns : List Str} {xs : List V}, xs.length = ns.length → (ns.zip xs).map (·.1) = ns
  | [], [], _ => rfl
  | n :: ns, x :: xs, h => by
    rw [List.zip_cons_cons, List.map_cons, zip_fst (by simpa using h)]
section
variable {K : PySem.W.Frag} {T : CT} {F : Hp} {a dx : Addr} {C : Addr} {ns : List Str} {ys : List V} {c' : Nat}
mutual
theorem dv_cutN (ha : F a = some (.ins C dx (ns.zip ys))) (hl : ys.length = ns.length) (hne : T.nam c' ≠ ns) : ∀ (d : D) (v : V), Dv K T F v d → onlyC c' d = true → Dv K T (cutH a F) v d
  | .non, _, h, _ => by cases h; exact .non
  | .bl _, _, h, _ => by cases h; exact .bl _
  | .int _, _, h, _ => by cases h; exact .int _
  | .str _, _, h, _ => by cases h; exact .str _
  | .lst ds, _, h, o => by
    cases h with
    | lst h1 h2 => exact .lst (by rw [cut_ne (fun e => by rw [e, ha] at h1; cases h1)]; exact h1) (dva_cutN ha hl hne ds _ h2 o)
  | .tup ds, _, h, o => by
    cases h with
    | tup h1 h2 =>
      refine .tup ?_ (dva_cutN ha hl hne ds _ h2 o)
      rcases h1 with (h1 | ⟨ob, h1⟩) | h1
      · exact .inl (.inl (by rw [cut_ne (fun e => by rw [e, ha] at h1; cases h1)]; exact h1))
      · exact .inl (.inr ⟨ob, by rw [cut_ne (fun e => by rw [e, ha] at h1; cases h1)]; exact h1⟩)
      · exact .inr h1
  | .obj c ds, _, h, o => by
    cases h with
    | obj h1 h2 h3 =>
      have o1 : c = c' ∧ onlyCs c' ds = true := by
        have z : (decide (c = c') && onlyCs c' ds) = true := o
        simpa using z
      refine .obj (Eq.trans (cut_ne ?_) h1) h2 (dva_cutN ha hl hne ds _ h3 o1.2)
      · intro e
        rw [e, ha] at h1
        cases o1.1
        have e1 := congrArg (fun o : Option _ => o) h1
        injection h1 with h1
        injection h1 with _ _ h4
        exact hne (by rw [← zip_fst h2, ← h4, zip_fst hl])
theorem dva_cutN (ha : F a = some (.ins C dx (ns.zip ys))) (hl : ys.length = ns.length) (hne : T.nam c' ≠ ns) : ∀ (ds : List D) (vs : List V), DvA K T F vs ds → onlyCs c' ds = true → DvA K T (cutH a F) vs ds
  | [], _, h, _ => by cases h; exact .nil
  | d :: ds, _, h, o => by
    have o1 : onlyC c' d = true ∧ onlyCs c' ds = true := by
      have z : (onlyC c' d && onlyCs c' ds) = true := o
      simpa using z
    cases h with
    | cons h1 h2 => exact .cons (dv_cutN ha hl hne d _ h1 o1.1) (dva_cutN ha hl hne ds _ h2 o1.2)
end
end
/-- the field f anew -/
def putA {α : Type} (f : Str) (v : α) : List Str → List α → List α
  | n :: ns, x :: xs => if n = f then v :: xs else x :: putA f v ns xs
  | _, xs => xs
theorem putA_len {α : Type} {f : Str} {v : α} : ∀ {ns : List Str} {xs : List α}, (putA f v ns xs).length = xs.length
  | [], xs => by cases xs <;> rfl
  | n :: ns, [] => rfl
  | n :: ns, x :: xs => by
    unfold putA
    split
    · rfl
    · rw [List.length_cons, List.length_cons, putA_len]
theorem putF_old {f : Str} {v : V} : ∀ {ns : List Str} {xs : List V}, f ∈ ns → xs.length = ns.length → putF f v (ns.zip xs) = ns.zip (putA f v ns xs)
  | [], _, h, _ => by cases h
  | n :: ns, [], _, h => by cases h
  | n :: ns, x :: xs, h, hl => by
    unfold putA
    show (if n = f then _ else _) = _
    by_cases e : n = f
    · rw [if_pos e, if_pos e]; rfl
    · rw [if_neg e, if_neg e]
      have z := putF_old (v := v) (ns := ns) (xs := xs) (by rcases List.mem_cons.mp h with h | h; exact absurd h.symm e; exact h) (by simpa using hl)
      exact congrArg ((n, x) :: ·) z
theorem dva_putA {K : PySem.W.Frag} {T : CT} {F : Hp} {f : Str} {v : V} {d : D} (hd : Dv K T F v d) : ∀ {ns : List Str} {xs : List V} {ds : List D}, DvA K T F xs ds → DvA K T F (putA f v ns xs) (putA f d ns ds)
  | [], _, _, h => by cases h with
    | nil => exact .nil
    | cons a b => exact .cons a b
  | n :: ns, _, _, .nil => .nil
  | n :: ns, _, _, .cons a b => by
    unfold putA
    by_cases e : n = f
    · rw [if_pos e, if_pos e]; exact .cons hd b
    · rw [if_neg e, if_neg e]; exact .cons a (dva_putA hd b)
/-- x = C(..); x.f, x.g, x.h = e; return x -/
def sMake3 (c c' j : Nat) (ns : List Str) (f1 f2 f3 : Str) (m : List D → Option FR) (fa : XA) (f : XE) : S → Option Out := fun s => (fa s).bind fun ds => (m ds).bind fun r => match r with
  | .ret (.obj k es) => if k = c ∧ j < s.length ∧ onlyCs c' es = true then (f (s.set j none)).bind fun d => match d with
    | .lst [a, b, w] => some (.rt (.obj c (putA f3 w ns (putA f2 b ns (putA f1 a ns es)))) (s.set j none))
    | _ => none
    else none
  | _ => none
section
variable {G : Fam} {T : CT} {E : XK} {c c' : Nat} {ns ns' : List Str} {e0 e : Expr} {es : List Expr} {f : XE} {fa : XA} {pv p p1 p2 p3 p4 q1 q2 q3 tp cpos pos1 pos2 pos3 : Pos}
theorem css_make3 (j : Nat) {v x y z cn : Str} {kt k : Nat} {ps : List Str} {m : List D → Option FR} (O : ClsOk G.K T c ns) (O' : ClsOk G.K T c' ns') (C : CalK G.P G.w G.K G.mg G.base T c cn k ps m) (hku : k + 1 ≤ G.u) (hxE : ∀ i, Passes (L2.CX G.P G.w) (G.X i) E0)
    (ha : CA G T (e0 :: es) fa) (he : CE G T e f) (hNd : ∀ i, (G.X i).N.Nodup)
    (hne : ns' ≠ ns := by decide) (hxn : x ∈ ns := by decide) (hyn : y ∈ ns := by decide) (hzn : z ∈ ns := by decide) (hl : ns.length < 900 := by decide)
    (hgc : ∀ i, Gl (G.X i) cn := by intro _; rfl) (hdb : (cn == ("__debug__" : Str)) = false := by decide)
    (hea : ∀ i, starEach (e0 :: es) (G.X i).env = (false, eval e0 (G.X i).env) :: starEach es (G.X i).env := by intro _; rfl) (hpl : ∀ i, (backTo cpos (starEach es (G.X i).env)).any (·.1) = false := by intro _; rfl)
    (hN : ∀ i, (G.X i).N[j]? = some v := by intro _; rfl) (hlo : ∀ i, Loc (G.X i).env.scope v := by intro _; first | exact Or.inl rfl | exact Or.inr rfl)
    (hs1 : ∀ i, swapsWith (.Call (.Name cn p) (e0 :: es) [] cpos) (some (.Name v pv)) pos1.line (G.X i).env = pure false := by intro _; rfl) (hf : ∀ i, (G.X i).fn v = true ∨ (G.X i).env.scope.names.lookup v = some .local := by intro _; first | exact .inl rfl | exact .inr rfl)
    (hv : ∀ i, Vis (G.X i).env.scope v := by intro _; first | exact Or.inl rfl | exact Or.inr (Or.inl rfl) | exact Or.inr (Or.inr rfl)) (hd : (v == ("__debug__" : Str)) = false := by decide) (hcd : (v == ("__classdict__" : Str)) = false := by decide)
    (hs : ∀ i, swapsWithSole [.Tuple [.Attribute (.Name v p1) x q1, .Attribute (.Name v p2) y q2, .Attribute (.Name v p3) z q3] kt tp] e pos2.line (G.X i).env = pure false := by intro _; rfl)
    (hw : ∀ i, swappedStores [.Tuple [.Attribute (.Name v p1) x q1, .Attribute (.Name v p2) y q2, .Attribute (.Name v p3) z q3] kt tp] e (G.X i).env = pure none := by intro _; rfl)
    (h1a : ∀ i, (assignEach [.Tuple [.Attribute (.Name v p1) x q1, .Attribute (.Name v p2) y q2, .Attribute (.Name v p3) z q3] kt tp] (G.X i).env).map (·.2) = [assign (.Tuple [.Attribute (.Name v p1) x q1, .Attribute (.Name v p2) y q2, .Attribute (.Name v p3) z q3] kt tp) (G.X i).env] := by intro _; rfl)
    (hn : ∀ i, (assignEach [.Attribute (.Name v p1) x q1, .Attribute (.Name v p2) y q2, .Attribute (.Name v p3) z q3] (G.X i).env).length = 3 := by intro _; rfl)
    (hst : ∀ i, (assignEach [.Attribute (.Name v p1) x q1, .Attribute (.Name v p2) y q2, .Attribute (.Name v p3) z q3] (G.X i).env).findIdx? (·.1) = none := by intro _; rfl) :
    CSs G T E [] [] [.Assign [.Name v pv] (.Call (.Name cn p) (e0 :: es) [] cpos) pos1, .Assign [.Tuple [.Attribute (.Name v p1) x q1, .Attribute (.Name v p2) y q2, .Attribute (.Name v p3) z q3] kt tp] e pos2, .Return (some (.Name v p4)) pos3]
      (sMake3 c c' j ns x y z m fa f) := by
  obtain ⟨fn, fd, Fo, M, hm, hb⟩ := C
  obtain ⟨ta, ha, va⟩ := ha
  obtain ⟨te, he, ve⟩ := he
  refine ⟨tSeq (tAsg (tMake (T.cls c) (spI G.K T c m) [] E0 ta) (gName j)) (tSeq (tAsg te (gUnl G.K 3 (gCons (gFld G.K (tVar j) x) (gCons (gFld G.K (tVar j) y) (gCons (gFld G.K (tVar j) z) gNil))))) (tSeq (tRet (tVar j)) tNext)), fun i => ?_, fun F0 H0 ga s σ F H o Dn hga r hg hp => ?_⟩
  · have hk := G.hK i
    have vv : ∀ p, PE (G.X i) (.Name v p) (tVar j) := fun p => pe_var (hN i) (hv i) hd hcd
    refine pss_cons (ps_set (hNd i) (hN i) (hlo i) (pe_make (by rw [hk]; exact M) (Fam.fn Fo i) ((G.hr i).mono hku) (hgc i) (by rw [G.hm i]; exact hm) (by rw [hk]; exact hb) .nil (hxE i) (ha i) hdb (hea i) (hpl i)) (hs1 i) (hf i)) (pss_cons (ps_asg (he i) ?_ (hs i) (hw i) (h1a i)) (pss_cons (ps_ret (vv _)) pss_nil))
    rw [← hk]
    exact pg_unl (G.hc i) (pgs_cons (pg_fld (vv _)) (pgs_cons (pg_fld (vv _)) (pgs_cons (pg_fld (vv _)) pgs_nil (by rfl)) (by rfl)) (by rfl)) (hn i) (hst i)
  unfold sMake3 at hg
  obtain ⟨ds, h1, hg⟩ := Option.bind_eq_some_iff.mp hg
  obtain ⟨fr, h2, hg⟩ := Option.bind_eq_some_iff.mp hg
  split at hg
  case h_2 => cases hg
  rename_i fr' kk ess
  split at hg
  case isFalse => cases hg
  rename_i hko
  obtain ⟨rfl, hjs, hon⟩ := hko
  obtain ⟨d, h3, hg⟩ := Option.bind_eq_some_iff.mp hg
  split at hg
  case h_2 => cases hg
  rename_i dd da db dc
  cases hg
  have sl0 : Sl G.K T F s σ := r.sl
  refine va s σ F H ds r.hx sl0 h1 F H (Ext.refl r.hx) _ fun vs F2 H2 e2 rs a dx n1 n2 hne2 => ?_
  refine ⟨a, dx, vs ++ [], H2, F2, ds, _, rfl, rfl, n1, n2, hne2, e2.sub, by rw [List.append_nil]; exact rs, h2, fun F' H' e3 rv => ⟨rfl, ?_⟩⟩
  obtain ⟨a', dx', xs, e4, h4, h5, h6⟩ := dv_obj rv
  cases e4
  have hA : H' a = some (.ins (T.cls kk) dx' ((T.nam kk).zip xs)) := e3.sub _ _ h4
  have hnam : T.nam c' ≠ T.nam kk := by rw [O.nam, O'.nam]; exact hne
  have F2a : F2 a = none := free0 e2.sub n1
  have hC : Ext F2 H2 (cutH a F') H' := ⟨fun q u h => by rw [cut_ne (ne_of_none h F2a)]; exact e3.fz q u h, fun q u h => by
      by_cases hq : q = a
      · rw [hq, cut_at] at h; cases h
      · rw [cut_ne hq] at h; exact e3.sub q u h, fun q u h h' => by
      obtain ⟨h7, h8⟩ := e3.own q u h h'
      exact ⟨by rw [cut_ne (ne_of_none h' n1)]; exact h7, h8⟩⟩
  have eFC : Ext F H (cutH a F') H' := e2.trans hC
  have hd6 : DvA G.K T (cutH a F') xs ess := dva_cutN h4 h5 hnam ess xs h6 hon
  have sl1 : Sl G.K T (cutH a F') (s.set j none) (σ.set j (some (.ref a))) := ⟨by rw [List.length_set, List.length_set]; exact sl0.len, fun i d hi => by
      have hji : j ≠ i := by
        intro e
        subst e
        by_cases hl : j < s.length
        · rw [List.getElem?_set_self hl] at hi; cases hi
        · rw [List.getElem?_eq_none (by rw [List.length_set]; omega)] at hi; cases hi
      rw [List.getElem?_set_ne hji] at hi
      obtain ⟨w, h7, h8⟩ := sl0.at_ i d hi
      exact ⟨w, by rw [List.getElem?_set_ne hji]; exact h7, dv_mono eFC.fz _ _ h8⟩⟩
  have hjl : j < σ.length := by rw [← r.len]; exact hjs
  have z0 : (σ.set j (some (V.ref a)))[j]? = some (some (.ref a)) := List.getElem?_set_self hjl
  refine ve (s.set j none) (σ.set j (some (.ref a))) (cutH a F') H' _ hC.sub sl1 h3 (cutH a F') H' (Ext.refl hC.sub) _ fun w F3 H3 e5 rw_ => ?_
  obtain ⟨g1, g2⟩ := e5.own a _ cut_at hA
  obtain ⟨l, ws, rfl, hl1, hl2⟩ := dv_lst rw_
  cases hl2 with
  | cons r1 t1 =>
  cases t1 with
  | cons r2 t2 =>
  cases t2 with
  | cons r3 t3 =>
  cases t3
  rename_i w1 w2 w3
  rw [O.nam] at g2 h5
  have lz : ∀ m : List V, m.length = ns.length → (ns.zip m).length < 1000 := fun m h => by rw [List.length_zip]; omega
  have m1 : (putA x w1 ns xs).length = ns.length := by rw [putA_len]; exact h5
  have m2 : (putA y w2 ns (putA x w1 ns xs)).length = ns.length := by rw [putA_len]; exact m1
  have m3 : (putA z w3 ns (putA y w2 ns (putA x w1 ns xs))).length = ns.length := by rw [putA_len]; exact m2
  refine ⟨l, [w1, w2, w3], rfl, SqL.of (e5.sub _ _ hl1), rfl, w1, _, rfl, ?_⟩
  refine ⟨_, z0, a, T.cls kk, dx', _, rfl, g2, O.cls, O.no x hxn, lz _ h5, w2, _, rfl, ?_⟩
  rw [putF_old hxn h5]
  refine ⟨_, z0, a, T.cls kk, dx', _, rfl, upd_same, O.cls, O.no y hyn, lz _ m1, w3, _, rfl, ?_⟩
  rw [putF_old hyn m1]
  refine ⟨_, z0, a, T.cls kk, dx', _, rfl, upd_same, O.cls, O.no z hzn, lz _ m2, rfl, ?_⟩
  rw [putF_old hzn m2]
  show ∃ v, _ ∧ _
  refine ⟨_, z0, ?_⟩
  have E3 : Ext F0 H0 F3 H3 := ((r.e0.trans e2).trans hC).trans e5
  have up : ∀ (h1 h2 h3 : HO) (q : Addr), q ≠ a → upd (upd (upd H3 a h1) a h2) a h3 q = H3 q := fun h1 h2 h3 q hq => by rw [upd_ne hq, upd_ne hq, upd_ne hq]
  have ef : Ex F3 (upd F3 a (.ins (T.cls kk) dx' (ns.zip (putA z w3 ns (putA y w2 ns (putA x w1 ns xs)))))) := Evl.Ex.new g1
  refine hp (.ref a) (upd F3 a (.ins (T.cls kk) dx' (ns.zip (putA z w3 ns (putA y w2 ns (putA x w1 ns xs)))))) _ (σ.set j (some (.ref a))) ⟨fun q u h => ?_, ⟨E3.fz.trans ef, fun q u h => ?_, fun q u h h' => ?_⟩, sl1.len, fun i d _ hi => ?_, fun i d hi => absurd hi (by simp), fun i k b d e hi => absurd hi (by simp), fun i b hi => absurd hi (by simp)⟩ ?_
  · by_cases hq : q = a
    · subst hq; rw [upd_same] at h; cases h; exact upd_same
    · rw [upd_ne hq] at h; rw [up _ _ _ _ hq]; exact e5.sub q u h
  · by_cases hq : q = a
    · subst hq; rw [upd_same] at h; cases h; exact upd_same
    · rw [upd_ne hq] at h; rw [up _ _ _ _ hq]; exact e5.sub q u h
  · obtain ⟨i1, i2⟩ := (r.e0.trans e2).own q u h h'
    have hq : q ≠ a := ne_of_none i2 n1
    obtain ⟨i3, i4⟩ := E3.own q u h h'
    rw [upd_ne hq, up _ _ _ _ hq]
    exact ⟨i3, i4⟩
  · obtain ⟨w, h7, h8⟩ := sl1.at_ i d hi
    exact ⟨w, h7, dv_mono (e5.fz.trans ef) _ _ h8⟩
  · refine .obj (xs := putA z w3 ns (putA y w2 ns (putA x w1 ns xs))) (by rw [upd_same, O.nam]) (by rw [O.nam]; exact m3) ?_
    exact dva_mono ef _ _ (dva_putA r3 (dva_putA r2 (dva_putA r1 (dva_mono e5.fz _ _ hd6))))
end
end Mr

set_option Elab.async false
set_option linter.all false
set_option maxRecDepth 100000
set_option maxHeartbeats 2000000
/-! abs -/
namespace Mr
open PySem PySem.Spec PyProof.Rows L2
open Evl (Ex)
def dAbs : D → Option D
  | .int i => some (.int (if i < 0 then -i else i))
  | _ => none
theorem rc_abs {K : PySem.W.Frag} {T : CT} : RcV K T (fun xs H Q => ∃ i, xs = [.int i] ∧ Q (.int (if i < 0 then -i else i)) H) (on1 dAbs) := by
  intro vs ds d F1 H1 s hs h Q q
  replace h := on1_some h; obtain ⟨x, rfl, h⟩ := h
  obtain ⟨v, rfl, rx⟩ := dva1 hs
  unfold dAbs at h; split at h
  case h_2 => cases h
  cases h
  cases dv_int rx
  exact ⟨_, rfl, q _ F1 H1 (Ext.refl s) (.int _)⟩
section
variable {G : Fam} {T : CT} {a b : Expr} {f g : XE} {fa : XA} {p pos : Pos}
theorem ce_absC (Z : G.mg "abs" = none) (ha : CA G T [a] fa) (hg : ∀ i, Gl (G.X i) "abs" := by intro _; rfl) (he : ∀ i, starEach [a] (G.X i).env = (false, eval a (G.X i).env) :: starEach [] (G.X i).env := by intro _; rfl) (hpl : ∀ i, (backTo pos (starEach [] (G.X i).env)).any (·.1) = false := by intro _; rfl) : CE G T (.Call (.Name "abs" p) [a] [] pos) (xB (on1 dAbs) fa) :=
  ce_B (fun i => call_abs) rc_abs Z (by decide +kernel) ha hg (by decide) (by decide) he hpl
end
/-! the tests a != b, a == b of a class with its own == -/
section
variable {G : Fam} {T : CT} {a b : Expr} {f g : XE} {p pos apos : Pos} {c : Nat} {ns : List Str} {mm : List D → Option FR}
theorem ct_neO {k : Nat} {ps : List Str} (O : ClsOk G.K T c ns) (N : NeOk G.K T c) (C : CalM G.P G.w G.K G.mg G.base T c "__eq__" k ps mm) (hku : k + 1 ≤ G.u) (hx : ∀ i, Passes (L2.CX G.P G.w) (G.X i) E0) (ha : CE G T a f) (hb : CE G T b g) : CT_ G T (.Compare a [.NotEq] [b] pos) (xBl (xOp (dNeO c mm) f g)) := by
  obtain ⟨fa, fd, Fo, hM, hB⟩ := C
  refine ct_cmp (fun i => OpR.or2 ?_ (by rw [← G.hK i]; exact op_neD (G.hr i).units)) rv_ownNe ha hb (nomark _)
  have h := op_ownNe (X := G.X i) (by rw [G.hK i]; exact O) (by rw [G.hK i]; exact N) (Fam.fn Fo i) (by rw [G.hK i]; exact hM) (by rw [G.hK i]; exact hB) ((G.hr i).mono hku) (hx i)
  rw [G.hK i] at h
  exact h
end
end Mr

set_option Elab.async false
set_option linter.all false
set_option maxRecDepth 100000
set_option maxHeartbeats 2000000
/-! range with a step of -1; own lists from displays with draws, written at drawn places, made anew from themselves; tests that draw; keyword calls -/
namespace Mr
open PySem PySem.Spec PyProof.Rows L2
open Evl (Ex)
/-! ### range(a, b, -1) -/
def dDown (i : Int) (n : Nat) : List D := (List.range n).map fun k => .int (i - (k : Nat))
def dRng3 : List D → Option (List D)
  | [.int i, .int j, .int c] => if c = -1 ∧ i ≤ 100000 ∧ -100000 ≤ i ∧ j ≤ 100000 ∧ -100000 ≤ j then some (dDown i (i - j).toNat) else none
  | _ => none
theorem dDown_len (i : Int) (n : Nat) : (dDown i n).length = n := by unfold dDown; rw [List.length_map, List.length_range]
section
variable {G : Fam} {T : CT} {a b c tg : Expr} {f : XE} {fa : XA} {p pos : Pos}
theorem ci_rng3 (ha : CA G T [a, b, c] fa) (hm : G.mg "range" = none) (hg : ∀ i, Gl (G.X i) "range" := by intro _; rfl) (hst : ∀ i, starEach [a, b, c] (G.X i).env = (false, eval a (G.X i).env) :: starEach [b, c] (G.X i).env := by intro _; rfl) (hpl : ∀ i, (backTo pos (starEach [b, c] (G.X i).env)).any (·.1) = false := by intro _; rfl) :
    CI G T tg (.Call (.Name "range" p) [a, b, c] [] pos) (xi dRng3 fa) := by
  obtain ⟨ta, ha, va⟩ := ha
  refine ⟨iRng3 ta, fun i => pi_range3 (hg i) (by rw [G.hm i]; exact hm) (ha i) (hst i) (hpl i), fun s σ F H d hx hs hf F1 H1 e1 R q => ?_⟩
  unfold xi at hf
  obtain ⟨x, h1, h2⟩ := Option.bind_eq_some_iff.mp hf
  refine va s σ F H x hx hs h1 F1 H1 e1 _ fun vs F2 H2 e2 rs => ?_
  unfold dRng3 at h2
  split at h2
  case h_2 => cases h2
  rename_i i j k
  split at h2
  case isFalse => cases h2
  rename_i hc
  obtain ⟨rfl, c1, c2, c3, c4⟩ := hc
  cases h2
  cases rs with
  | cons r1 t1 =>
  cases t1 with
  | cons r2 t2 =>
  cases t2 with
  | cons r3 t3 =>
  cases t3
  refine ⟨i, j, -1, (i - j).toNat, by rw [dv_int r1, dv_int r2, dv_int r3], RgC.neg (by omega) (by omega) (by omega) (by omega), q _ F2 H2 e2 ⟨fun m H hi _ => ?_, fun H _ => ?_, fun m F3 H3 x H4 hi e3 e4 y => ?_⟩⟩
  · rw [dDown_len] at hi
    exact walk_rangeC.goes m H hi trivial
  · rw [dDown_len]
    exact walk_rangeC.stops H trivial
  · rw [dDown_len] at hi
    obtain ⟨rfl, rfl⟩ := walk_rangeC.yields m H3 x H4 hi trivial y
    refine ⟨F3, .int (i - (m : Nat)), Ext.refl e4, ?_, ?_⟩
    · unfold dDown
      rw [List.getElem?_map, List.getElem?_range hi]
      rfl
    · have e5 : i + ((m : Nat) : Int) * (-1) = i - (m : Nat) := by omega
      show Dv G.K T F3 (V.int (i + ((m : Nat) : Int) * (-1))) _
      rw [e5]
      exact .int _
end
/-! ### own lists and draws -/
theorem Rel.h0none {K : PySem.W.Frag} {T : CT} {F0 H0 F H : Hp} {ga : Nat → Option Addr} {own : List Nat} {s : S} {σ : L2.St} (r : Rel K T F0 H0 ga own F H s σ) {p : Addr} (n1 : H p = none) : H0 p = none := by
  cases hq : H0 p with
  | none => rfl
  | some o =>
    cases hf : F0 p with
    | none => rw [(r.e0.own p o hf hq).2] at n1; cases n1
    | some u => rw [r.hx p u (r.e0.fz p u hf)] at n1; cases n1
section
variable {G : Fam} {T : CT} {E : XK} {gs own oth : List Nat} {j : Nat} {e a b c tg iter elt : Expr} {es : List Expr} {f g : XS} {fa : XSA} {p pos p2 lp : Pos} {t : XT} {tz : S → Option (Bool × List D)}
/-- x = [..drawn..], x a list of one's own -/
theorem cs_setZO (k : Nat) {x : Str} {px : Pos} (hr : CAs G T own j es fa) (hNd : ∀ i, (G.X i).N.Nodup) (hk : k ∈ own := by decide) (hkg : k ∉ gs := by decide) (hN : ∀ i, (G.X i).N[k]? = some x := by intro _; rfl) (hx : ∀ i, Loc (G.X i).env.scope x := by intro _; first | exact Or.inl rfl | exact Or.inr rfl)
    (hs : ∀ i, swapsWith (.List es lp) (some (.Name x px)) pos.line (G.X i).env = pure false := by intro _; rfl) (hf : ∀ i, (G.X i).fn x = true ∨ (G.X i).env.scope.names.lookup x = some .local := by intro _; first | exact .inl rfl | exact .inr rfl) : CS G T E gs own (.Assign [.Name x px] (.List es lp) pos) (sSetZ j k (zLst fa)) := by
  obtain ⟨tr, hr, vr⟩ := hr
  refine ⟨tAsg (tLst tr) (gName k), fun i => ps_set (hNd i) (hN i) (hx i) (pe_lst (hr i)) (hs i) (hf i), fun F0 H0 ga s σ F H o Dn hga r hg hp => ?_⟩
  unfold sSetZ zLst at hg
  simp only [Option.bind_eq_some_iff, Option.map_eq_some_iff] at hg
  obtain ⟨⟨d, g1⟩, ⟨⟨xs, g2⟩, h1, z, h2, h3⟩, rfl⟩ := hg
  cases h3
  obtain ⟨hz, rfl⟩ := lim_some h2
  refine vr s σ xs _ h1 F0 H0 ga F H r _ fun vs F2 H2 e2 r2 rs => ⟨by rw [dva_len rs]; exact hz, fun p hpn => ?_⟩
  have r3 := r2.extH (F2 := H2) (H2 := upd H2 p (.lst vs)) ⟨Evl.Ex.refl _, Evl.Ex.new hpn, fun q u h h' => by rw [h] at h'; cases h'⟩
  exact hp F2 _ _ e2 (r3.setOwn hk (hga k hkg) (free0 r2.hx hpn) (r2.h0none hpn) upd_same rs fun i a hi hik ⟨d, hd⟩ ha => by
    obtain ⟨a', ys, es, q1, rfl, q3, q0, q4, q5⟩ := r2.ow i d hi hd
    rw [ha] at q1
    cases q1
    exact ne_of_none q4 hpn)
/-- x[i] = e, both may draw -/
def sStoZ (j k : Nat) (fi f : XS) : S → Option Out := fun s => (f s).bind fun x => (fi (gset j s x.2)).bind fun y => match (s[k]?).join, y.1 with
  | some (.lst ds), .int kk => (ixN ds.length kk).map fun m => .nx ((gset j s y.2).set k (some (.lst (ds.set m x.1))))
  | _, _ => none
theorem cs_stoZ (k : Nat) {x : Str} {px sp : Pos} {ie : Expr} {fi : XS} (he : CEs G T own j e f) (hi : CEs G T own j ie fi) (hk : k ∈ own := by decide) (hkj : k ≠ j := by decide) (hN : ∀ i, (G.X i).N[k]? = some x := by intro _; rfl) (hv : ∀ i, Vis (G.X i).env.scope x := by intro _; first | exact Or.inl rfl | exact Or.inr (Or.inl rfl) | exact Or.inr (Or.inr rfl))
    (ha : ∀ i v, assign (.Subscript (.Name x px) ie sp) (G.X i).env v = (do
      let ov ← holding [v] (eval (.Name x px) (G.X i).env)
      let iv ← holding [v, ov] (eval ie (G.X i).env)
      standAt sp
      holding [v, ov, iv] (setItem ov iv v)
      release [v, ov, iv] []) := by intro _ _; rfl)
    (hs : ∀ i, swapsWithSole [.Subscript (.Name x px) ie sp] e pos.line (G.X i).env = pure false := by intro _; rfl) (hw : ∀ i, swappedStores [.Subscript (.Name x px) ie sp] e (G.X i).env = pure none := by intro _; rfl)
    (h1a : ∀ i, (assignEach [.Subscript (.Name x px) ie sp] (G.X i).env).map (·.2) = [assign (.Subscript (.Name x px) ie sp) (G.X i).env] := by intro _; rfl)
    (hd : (x == ("__debug__" : Str)) = false := by decide) (hcd : (x == ("__classdict__" : Str)) = false := by decide) : CS G T E gs own (.Assign [.Subscript (.Name x px) ie sp] e pos) (sStoZ j k fi f) := by
  obtain ⟨te, h1, h2⟩ := he
  obtain ⟨tk, hk1, hk2⟩ := hi
  refine ⟨tAsg te (gSub (tVar k) tk rSetL), fun i => ps_asg (h1 i) (pg_sub (pe_var (hN i) (hv i) hd hcd) (hk1 i) set_list (ha i)) (hs i) (hw i) (h1a i), fun F0 H0 ga s σ F H o Dn hga r hg hp => ?_⟩
  unfold sStoZ at hg
  simp only [Option.bind_eq_some_iff] at hg
  obtain ⟨⟨d, g1⟩, h3, ⟨y, g2⟩, h4, h5⟩ := hg
  dsimp only at h4 h5
  split at h5
  case h_2 => cases h5
  rename_i ds kk h6
  obtain ⟨m, h8, rfl⟩ := Option.map_eq_some_iff.mp h5
  rw [Option.join_eq_some_iff] at h6
  obtain ⟨l, xs, ds', q1, q2, q3, q0, q4, q5⟩ := r.ow k _ hk h6
  cases q2
  refine h2 s σ d g1 h3 F0 H0 ga F H r _ fun v F2 H2 e2 r2 rv => ⟨_, q1, hk2 _ σ _ g2 h4 F0 H0 ga F2 H2 r2 _ fun w F3 H3 e3 r3 rw' => ?_⟩
  rw [gset_gset] at r3
  have hks : (gset j s g2)[k]? = some (some (.lst ds)) := by unfold gset; rw [List.getElem?_set_ne (Ne.symm hkj)]; exact h6
  obtain ⟨l', xs', ds', q1', q2', q3', q0', q4', q5'⟩ := r3.ow k _ hk hks
  cases q2'
  rw [q1] at q1'
  cases q1'
  exact ⟨l, xs', kk, m, rfl, dv_int rw', q4', by rw [dva_len q5']; exact h8, hp F3 _ _ (e2.trans e3) (r3.write hk hks q1 (dva_set (dv_mono e3 _ _ rv) _ q5'))⟩
/-- a, .. = e, e may draw -/
def sAsgZ (j : Nat) (bind : D → S → Option S) (f : XS) : S → Option Out := fun s => (f s).bind fun x => (bind x.1 (gset j s x.2)).map .nx
theorem cs_asgZ {bind : D → S → Option S} (he : CEs G T own j e f) (hg : CGS G T own tg bind) (hs : ∀ n, swapsWithSole [tg] e pos.line (G.X n).env = pure false := by intro _; rfl) (hw : ∀ n, swappedStores [tg] e (G.X n).env = pure none := by intro _; rfl)
    (h1 : ∀ n, (assignEach [tg] (G.X n).env).map (·.2) = [assign tg (G.X n).env] := by intro _; rfl) : CS G T E gs own (.Assign [tg] e pos) (sAsgZ j bind f) := by
  obtain ⟨te, h2, h3⟩ := he
  obtain ⟨gt, h4, h5⟩ := hg
  refine ⟨tAsg te gt, fun n => ps_asg (h2 n) (h4 n) (hs n) (hw n) (h1 n), fun F0 H0 ga s σ F H o Dn hga r hg hp => ?_⟩
  unfold sAsgZ at hg
  obtain ⟨⟨d, g1⟩, h6, h7⟩ := Option.bind_eq_some_iff.mp hg
  obtain ⟨s', h8, rfl⟩ := Option.map_eq_some_iff.mp h7
  exact h3 s σ d g1 h6 F0 H0 ga F H r _ fun v F2 H2 e2 r2 rv => h5 F0 H0 ga _ s' σ F2 H2 d v r2 rv h8 _ fun σ' r' => hp F2 H2 σ' e2 r'
/-- t or z: t read as it stands (own lists too), z may draw -/
def ztOr (j : Nat) (t : XT) (z : S → Option (Bool × List D)) : S → Option (Bool × List D) := fun s => (gget j s).bind fun g => (t s).bind fun k => if k then some (true, g) else z s
theorem ctz_or (h0 : CT_ G T a t) (h1 : CTz G T own j b tz) : CTz G T own j (.BoolOp .Or [a, b] pos) (ztOr j t tz) := by
  obtain ⟨ta, ha, va⟩ := h0
  obtain ⟨tb, hb, vb⟩ := h1
  refine ⟨tOr ta tb, fun i => (pw_or (ha i) (pw_or1 (hb i))).pt, fun s σ k g' hf F0 H0 ga F H r Q q => ?_⟩
  unfold ztOr at hf
  obtain ⟨g, h2, hf⟩ := Option.bind_eq_some_iff.mp hf
  obtain ⟨k1, h3, hf⟩ := Option.bind_eq_some_iff.mp hf
  refine va s σ H H k1 (Evl.Ex.refl H) r.slH h3 H H (Ext.refl (Evl.Ex.refl H)) _ fun F2 H2 e2 => ?_
  have r2 := r.extH e2
  cases k1 with
  | true =>
    simp only [if_true] at hf ⊢
    cases hf
    exact q F H2 (Evl.Ex.refl F) (by rw [gset_same (gget_some h2)]; exact r2)
  | false =>
    simp only [Bool.false_eq_true, if_false] at hf ⊢
    exact vb s σ k g' hf F0 H0 ga F H2 r2 Q q
end
/-! ### an own list made anew from itself -/
theorem Rel.thaw1 {K : PySem.W.Frag} {T : CT} {F0 H0 F H : Hp} {ga : Nat → Option Addr} {own oth : List Nat} {s : S} {σ : L2.St} {j : Nat} (r : Rel K T F0 H0 ga oth F H s σ) (h1 : ∀ i ∈ own, i = j ∨ i ∈ oth) (h2 : ∀ i ∈ oth, i ∈ own) (hj : j ∈ own) (hgj : ga j = none) : Rel K T F0 H0 ga own F H (s.set j none) σ := by
  have at_ : ∀ i d, (s.set j none)[i]? = some (some d) → i ≠ j ∧ s[i]? = some (some d) := fun i d h => by
    by_cases e : j = i
    · subst e
      by_cases hl : j < s.length
      · rw [List.getElem?_set_self hl] at h; cases h
      · rw [List.getElem?_eq_none (by rw [List.length_set]; omega)] at h; cases h
    · rw [List.getElem?_set_ne e] at h
      exact ⟨fun z => e z.symm, h⟩
  have dn : ∀ i, i ∈ own → i ≠ j → i ∈ oth := fun i hi hn => (h1 i hi).resolve_left hn
  refine ⟨r.hx, r.e0, by rw [List.length_set]; exact r.len, fun i d hi h => ?_, fun i d hi h => ?_, fun i k a d e hi hk hik h h' ha hb => ?_, fun i a hi hga => ?_⟩
  · exact r.sh i d (fun z => hi (h2 i z)) (at_ i d h).2
  · obtain ⟨z1, z2⟩ := at_ i d h
    exact r.ow i d (dn i hi z1) z2
  · obtain ⟨z1, z2⟩ := at_ i d h
    obtain ⟨z3, z4⟩ := at_ k e h'
    exact r.dj i k a d e (dn i hi z1) (dn k hk z3) hik z2 z4 ha hb
  · by_cases e : i = j
    · subst e; rw [hgj] at hga; cases hga
    · exact r.ga_ i a (dn i hi e) hga
theorem Rel.cons {K : PySem.W.Frag} {T : CT} {F0 H0 F H : Hp} {ga : Nat → Option Addr} {own own' : List Nat} {s : S} {σ : L2.St} (r : Rel K T F0 H0 ga own F H s σ) (h : ∀ i, i ∈ own' ↔ i ∈ own) : Rel K T F0 H0 ga own' F H s σ :=
  ⟨r.hx, r.e0, r.len, fun i d hi => r.sh i d (fun z => hi ((h i).mpr z)), fun i d hi => r.ow i d ((h i).mp hi), fun i k a d e hi hk => r.dj i k a d e ((h i).mp hi) ((h k).mp hk), fun i a hi => r.ga_ i a ((h i).mp hi)⟩
section
variable {G : Fam} {T : CT} {E : XK} {gs own : List Nat} {tg : Expr} {f : XE} {pos : Pos}
theorem cs_setLcS (oth : List Nat) (j : Nat) {x : Str} {px : Pos} {iter elt : Expr} {ifs : List Expr} {scope : Scope} {cpos : Pos} {it : XA} {bind : D → S → Option S} {test : XT} (N0 : List Str) (sc0 : Scope) (ownc : List (Str × Nat)) (hi : CI G T tg iter it) (hg : CG (G.blk scope) T tg (ownc.map (·.2)) bind) (ht : CTs (G.blk scope) T ifs test) (he : CE (G.blk scope) T elt f)
    (hNd : ∀ i, (G.X i).N.Nodup) (hj : j ∈ own := by decide) (hjg : j ∉ gs := by decide) (ho1 : ∀ i ∈ own, i = j ∨ i ∈ oth := by decide) (ho2 : ∀ i ∈ oth, i ∈ own := by decide) (hN : ∀ i, (G.X i).N[j]? = some x := by intro _; rfl) (hx : ∀ i, (G.X i).env.scope.names.lookup x = some .local := by intro _; rfl)
    (hbl : blkC N0 sc0 scope ownc = true := by decide +kernel) (hN0 : ∀ i, (G.X i).N = N0 := by intro _; rfl) (hsc : ∀ i, (G.X i).env.scope = sc0 := by intro _; rfl)
    (hfs : ∀ i x, foldedSetIterable iter (G.X i).env x = pure x := by intro _ _; rfl)
    (hsw : ∀ i, swapsWith (.ListComp elt [⟨tg, iter, ifs, 0⟩] scope cpos) (some (.Name x px)) pos.line (G.X i).env = pure true := by intro _; exact sw_true rfl rfl rfl (by decide +kernel)) :
    CS G T E gs own (.Assign [.Name x px] (.ListComp elt [⟨tg, iter, ifs, 0⟩] scope cpos) pos) (sSetO oth j (nComp it bind (ownc.map (·.2)) test f)) := by
  obtain ⟨wi, hi, vi⟩ := hi
  obtain ⟨g, hg, vg⟩ := hg
  obtain ⟨tt, ht, vt⟩ := ht
  obtain ⟨te, he, ve⟩ := he
  refine ⟨tAsg (tLc wi g tt te (ownc.map (·.2))) (gName j), fun i => ps_setLc (G.hc i) (hNd i) (hN i) (hx i) (hsw i) (hi i) (by rw [hN0 i, hsc i]; exact blkOk_by hbl) (fun s H C cl fp => hg ⟨i, s, H, C, cl, fp⟩) (fun s H C cl fp => ht ⟨i, s, H, C, cl, fp⟩) (fun s H C cl fp => he ⟨i, s, H, C, cl, fp⟩) (hfs i), fun F0 H0 ga s σ F H o Dn hga r hg hp => ?_⟩
  unfold sSetO at hg
  obtain ⟨z, h3, rfl⟩ := Option.map_eq_some_iff.mp hg
  unfold nComp at h3
  simp only [Option.bind_eq_some_iff] at h3
  obtain ⟨ds, h1, z', h2, h3⟩ := h3
  have hz : ds.length ≤ 100000 ∧ z' = z := by
    unfold lim2 at h3
    split at h3
    · exact ⟨by assumption, Option.some.inj h3⟩
    · cases h3
  obtain ⟨hz, rfl⟩ := hz
  have r0 : Rel G.K T F0 H0 ga (j :: oth) F H s σ := r.cons fun i => ⟨fun h => (List.mem_cons.mp h).elim (fun e => e ▸ hj) (ho2 i), fun h => List.mem_cons.mpr (ho1 i h)⟩
  obtain ⟨F1, e1, r1⟩ := r0.freeze1
  refine tLc_evN (G := G) (iter := iter) (elt := elt) (fun R hR => vi _ σ F1 H ds r1.hx r1.sl h1 F1 H (Ext.refl r1.hx) R hR) r1.hx r1.sl vg vt ve h2 hz _ fun p xs F2 H2 e2 n1 n2 hH hd => ?_
  have r2 := (r1.thaw1 (j := j) ho1 ho2 hj (hga j hjg)).ext e2
  have r3 := r2.setOwn hj (hga j hjg) n2 (r1.h0none n1) hH hd fun i a hi hij hs' ha => by
    obtain ⟨d, hs'⟩ := hs'
    obtain ⟨a', ys, es, g1, rfl, g3, g0, g4, g5⟩ := (r1.thaw1 (j := j) ho1 ho2 hj (hga j hjg)).ow i d hi hs'
    rw [ha] at g1
    cases g1
    exact ne_of_none g4 n1
  rw [List.set_set] at r3
  exact hp F2 H2 _ (e1.trans e2.fz) r3
/-! ### a, b = a list of two -/
def bPairL (j k : Nat) : D → S → Option S := fun d s => match d with
  | .lst [a, b] => some ((s.set j (some a)).set k (some b))
  | _ => none
theorem cgs_pairL (j k : Nat) {x y : Str} {kk : Nat} {p1 p2 : Pos} (hNd : ∀ i, (G.X i).N.Nodup) (hj : j ∉ own := by decide) (hk : k ∉ own := by decide) (hN : ∀ i, (G.X i).N[j]? = some x := by intro _; rfl) (hx : ∀ i, Loc (G.X i).env.scope x := by intro _; first | exact Or.inl rfl | exact Or.inr rfl)
    (hf : ∀ i, (G.X i).fn x = true ∨ (G.X i).env.scope.names.lookup x = some .local := by intro _; first | exact .inl rfl | exact .inr rfl)
    (hN2 : ∀ i, (G.X i).N[k]? = some y := by intro _; rfl) (hx2 : ∀ i, Loc (G.X i).env.scope y := by intro _; first | exact Or.inl rfl | exact Or.inr rfl)
    (hf2 : ∀ i, (G.X i).fn y = true ∨ (G.X i).env.scope.names.lookup y = some .local := by intro _; first | exact .inl rfl | exact .inr rfl)
    (hn : ∀ i, (assignEach [.Name x p1, .Name y p2] (G.X i).env).length = 2 := by intro _; rfl) (hst : ∀ i, (assignEach [.Name x p1, .Name y p2] (G.X i).env).findIdx? (·.1) = none := by intro _; rfl)
    (hs1 : ∀ i, (assignEach [.Name x p1, .Name y p2] (G.X i).env).map (·.2) = assign (.Name x p1) (G.X i).env :: (assignEach [.Name y p2] (G.X i).env).map (·.2) := by intro _; rfl)
    (hs2 : ∀ i, (assignEach [.Name y p2] (G.X i).env).map (·.2) = assign (.Name y p2) (G.X i).env :: (assignEach [] (G.X i).env).map (·.2) := by intro _; rfl) :
    CGS G T own (.Tuple [.Name x p1, .Name y p2] kk pos) (bPairL j k) :=
  ⟨gUnl G.K 2 (gCons (gName j) (gCons (gName k) gNil)), fun i => by
    rw [← G.hK i]
    exact pg_unl (G.hc i) (pgs_cons (pg_name (hNd i) (hN i) (hx i) (hf i)) (pgs_cons (pg_name (hNd i) (hN2 i) (hx2 i) (hf2 i)) pgs_nil (hs2 i)) (hs1 i)) (hn i) (hst i), fun F0 H0 ga s s' σ F H d v r rv hb Q q => by
    unfold bPairL at hb
    split at hb
    · cases hb
      obtain ⟨l, xs, rfl, hl, hd⟩ := dv_lst rv
      obtain ⟨v1, v2, rfl, r1, r2⟩ := dva2 hd
      exact ⟨l, _, rfl, SqL.of (r.hx _ _ hl), rfl, v1, [v2], rfl, v2, [], rfl, rfl, q _ ((r.set hj r1).set hk r2)⟩
    · cases hb⟩
end
end Mr

set_option Elab.async false
set_option linter.all false
set_option maxRecDepth 100000
set_option maxHeartbeats 2000000
/-! f(k = e) of a def with one parameter -/
namespace Mr
open PySem PySem.Spec PyProof.Rows L2
open Evl (Ex)
section
variable {X : Cx} {CX : CXT} {k : Nat} {f : Addr} {fd : FuncData} {ps ks : List Str} {sp : Sp} {E : XK} {x : Str} {p pos : Pos} {kws : List Keyword} {tk : TA} {g : List Value → List Value → List Value} {gV : List V → List V → List V}
theorem pe_callK0 (F : FnOk X.prog X.w X.K X.mg X.base CX k f fd ps sp) (hr : Room k X.A) (hg : Gl X x) (hm : X.mg x = some (.ref f)) (hk : PySem.W.keepIn X.K (.ref f) = true) (hb : KBinds X.K fd ps ks g gV) (hx : Passes CX X E)
    (hkw : PK X kws tk) (hall : (backToKw pos (keywordEach kws X.env)).all (·.1.isSome) = true := by rfl) (hks : (backToKw pos (keywordEach kws X.env)).filterMap (·.1) = ks := by rfl)
    (hdb : (x == ("__debug__" : Str)) = false := by decide) (hpl : ((backTo pos (starEach [] X.env)).any (·.1) || (backToKw pos (keywordEach kws X.env)).any (·.1.isNone)) = false := by rfl) :
    PE X (.Call (.Name x p) [] kws pos) (tCallK sp gV E tNil tk) := by
  refine ⟨fun pins s σ H Q I h => ?_⟩
  refine wpAny_Call_Name_kw (ld_glob I hg hm ?_ hdb)
  refine PySem.W.callWith_KW0 (h₀ := X.base) I.ok.mod.kin hk hall ?_ hpl
  refine thn (hkw.run pos pins s σ H _ I h) fun ws s2 ⟨zs, H2, I2, rz, q2⟩ => ⟨I2.kIn, ?_⟩
  rw [hks]
  exact run_fnk (us := []) (vs := []) F hr hb hx I2 .nil rz q2
end
def CalW (P : Program) (w : World) (K : PySem.W.Frag) (mg : Str → Option Value) (base : Heap) (T : CT) (x : Str) (k : Nat) (pn : Str) (m : List D → Option FR) : Prop :=
  ∃ ad fd, FnOk P w K mg base (L2.CX P w) k ad fd [pn] (spM K T m) ∧ mg x = some (.ref ad) ∧ PySem.W.keepIn K (.ref ad) = true ∧ KBinds K fd [pn] [pn] (fun us ws => us ++ ws) (fun us ws => us ++ ws)
def xCall1 (m : List D → Option FR) (f : XE) : XE := fun s => (f s).bind fun d => (m [d]).bind frD
section
variable {G : Fam} {T : CT} {a : Expr} {f : XE} {p pos q1 : Pos}
theorem ce_calW {x pn : Str} {k : Nat} {m : List D → Option FR} (C : CalW G.P G.w G.K G.mg G.base T x k pn m) (hku : k ≤ G.u) (hx : ∀ i, Passes (L2.CX G.P G.w) (G.X i) E0) (ha : CE G T a f) (hg : ∀ i, Gl (G.X i) x := by intro _; rfl)
    (hdb : (x == ("__debug__" : Str)) = false := by decide)
    (hall : ∀ i, (backToKw pos (keywordEach [⟨some pn, a, q1⟩] (G.X i).env)).all (·.1.isSome) = true := by intro _; rfl) (hks : ∀ i, (backToKw pos (keywordEach [⟨some pn, a, q1⟩] (G.X i).env)).filterMap (·.1) = [pn] := by intro _; rfl)
    (hpl : ∀ i, ((backTo pos (starEach [] (G.X i).env)).any (·.1) || (backToKw pos (keywordEach [⟨some pn, a, q1⟩] (G.X i).env)).any (·.1.isNone)) = false := by intro _; rfl) :
    CE G T (.Call (.Name x p) [] [⟨some pn, a, q1⟩] pos) (xCall1 m f) := by
  obtain ⟨fa, fd, F, hm, hk, hb⟩ := C
  obtain ⟨ta, ha, va⟩ := ha
  refine ⟨tCallK (spM G.K T m) (fun us ws => us ++ ws) E0 tNil (tCons ta tNil), fun i => pe_callK0 (ks := [pn]) (Fam.fn F i) ((G.hr i).mono hku) (hg i) (by rw [G.hm i]; exact hm) (by rw [G.hK i]; exact hk) (by rw [G.hK i]; exact hb) (hx i) (pk_cons (ha i) pk_nil) (hall i) (hks i) hdb (hpl i), fun s σ F0 H d hx hs hf F1 H1 e1 Q q => ?_⟩
  unfold xCall1 at hf
  obtain ⟨d1, h1, h2⟩ := Option.bind_eq_some_iff.mp hf
  obtain ⟨r, h5, h6⟩ := Option.bind_eq_some_iff.mp h2
  refine va s σ F0 H d1 hx hs h1 F1 H1 e1 _ fun v F2 H2 e2 rv => ?_
  unfold frD at h6
  split at h6
  case h_2 => cases h6
  cases h6
  exact ⟨F2, [d1], _, e2.sub, .cons rv .nil, h5, fun v F' H' e3 rv => q v F' H' (e2.trans e3) rv⟩
end
def reScope (outer scope : Scope) : Scope := { scope with names := scope.names.map fun (n, k) => if (k == .free && outer.kind == .function && outer.names.lookup n == some .cell) then (n, .cell) else (n, k) }
theorem relabel_re (scope : Scope) (env : Env) : relabel scope env = reScope env.scope scope := rfl
/-! a comprehension within a comprehension; drawing tests by == -/
section
variable {G : Fam} {T : CT} {scope0 scope : Scope} {tg iter elt a b : Expr} {ifs : List Expr} {pos : Pos} {f : XE} {it : XA} {bind : D → S → Option S} {test : XT} {own : List Nat} {j : Nat} {fz gz : XS}
theorem ce_compB (N0 : List Str) (outer : Scope) (ownc : List (Str × Nat)) (hi : CI (G.blk scope0) T tg iter it) (hg : CG ((G.blk scope0).blk scope) T tg (ownc.map (·.2)) bind) (ht : CTs ((G.blk scope0).blk scope) T ifs test) (he : CE ((G.blk scope0).blk scope) T elt f)
    (hbl : blkC N0 (reScope outer scope0) scope ownc = true := by decide +kernel) (hNd : ∀ i, ((G.blk scope0).X i).N.Nodup) (hN0 : ∀ i, ((G.blk scope0).X i).N = N0 := by intro _; rfl) (hsc : ∀ i, (G.X i).env.scope = outer := by intro _; rfl)
    (hfs : ∀ i x, foldedSetIterable iter ((G.blk scope0).X i).env x = pure x := by intro _ _; rfl) : CE (G.blk scope0) T (.ListComp elt [⟨tg, iter, ifs, 0⟩] scope pos) (xComp it bind (ownc.map (·.2)) test f) :=
  ce_comp N0 (reScope outer scope0) ownc hi hg ht he hbl hNd hN0 (fun i => by
    show relabel scope0 (G.X i.1).env = _
    rw [relabel_re, hsc]) hfs
theorem ctz_eq (ha : CEs G T own j a fz) (hb : CEs G T own j b gz) : CTz G T own j (.Compare a [.Eq] [b] pos) (zBl (zOp j dEq fz gz)) := ctz_cmp (fun i => by rw [← G.hK i]; exact op_eqD (G.hr i).units) rv_eq ha hb (nomark _)
theorem ctz_ne (ha : CEs G T own j a fz) (hb : CEs G T own j b gz) : CTz G T own j (.Compare a [.NotEq] [b] pos) (zBl (zOp j dNe fz gz)) := ctz_cmp (fun i => by rw [← G.hK i]; exact op_neD (G.hr i).units) rv_ne ha hb (nomark _)
end
end Mr

set_option Elab.async false
set_option linter.all false
set_option maxRecDepth 100000
set_option maxHeartbeats 2000000
/-! the law's top with statements behind the loop -/
namespace Mr
open PySem PySem.Spec PyProof.Rows L2
open Evl (Ex)
def isRt : Option Out → Bool
  | some (.rt (.bl b) _) => b
  | _ => false
def tLawT2 (K : PySem.W.Frag) (T : CT) (n : Nat) (right : List D → List D → Option (D × List D)) (tt : TS) : TS := tSeq (tFor (iRng1 (tCons (tC (.int (n : Nat))) tNil)) (gName 1) (tTurnT K T right)) tt
theorem law_runT2 {K : PySem.W.Frag} {T : CT} {n : Nat} {right : List D → List D → Option (D × List D)} {tt : TS} {n0 n1 : Str} {N : List Str} (hn : n < 1000) {E0' : XK} {g : S → Option Out} (ht : EvS K T E0' [] [] tt g) (hg0 : isRt (g (none :: none :: List.replicate N.length none)) = true) {vs : List V} {H : Hp} {Q : VK} {E : XK} (h : spLawT K n right vs H Q E) :
    tLawT2 K T n right tt { nx := fun _ H' => Q .non H', rt := Q } (L2.start (n0 :: n1 :: N) vs) H := by
  obtain ⟨l, ns, rfl, hs, hg, q⟩ := h
  have hst : L2.start (n0 :: n1 :: N) [V.ref l] = some (V.ref l) :: none :: List.replicate N.length none := by
    unfold L2.start
    simp only [List.map_cons, List.map_nil, List.length_cons, List.length_nil]
    rfl
  rw [hst]
  refine ⟨(n : Nat), rfl, by omega, by omega, ?_⟩
  refine for_range (lo := 0) (n := ((n : Nat) : Int).toNat) (fun i σ H' => ∃ v, σ = some (V.ref l) :: v :: List.replicate N.length none ∧ Ex H H') ⟨none, rfl, Ex.refl H⟩ (fun i σ H1 hi ⟨v, hσ, e1⟩ => ?_) fun σ H1 ⟨v, hσ, e1⟩ => ?_
  · subst hσ
    have hi' : i < n := by simpa using hi
    obtain ⟨gs', hr⟩ := hg i hi'
    refine ⟨_, rfl, _, rfl, ⟨_, i, by rw [Int.zero_add]; rfl, by omega⟩, l, ns, i, by rw [Int.zero_add]; rfl, SqL.ext hs e1, fun p H2 e2 hp hH => ?_⟩
    refine ⟨fun _ => none, p, _, _, [], [], .bl true, gs', rfl, fun _ _ z => (by cases z), rfl, hH, ints_dva _, .nil, hr, fun v F' H' xs' e n1 hH' hd rv => ?_⟩
    cases dv_bl rv
    refine ⟨true, rfl, ?_⟩
    show if false = true then _ else _
    rw [if_neg Bool.false_ne_true]
    refine ⟨_, rfl, fun b o hb => ?_⟩
    have hb1 := e1 b o hb
    have hne : b ≠ p := fun z => by rw [z, hp] at hb1; cases hb1
    exact Ext.all (F := fun _ => none) (fun _ _ z => by cases z) e b o (by rw [del_ne hne]; exact e2 b o hb1)
  · subst hσ
    cases hgo : g (none :: none :: List.replicate N.length none) with
    | none => rw [hgo] at hg0; cases hg0
    | some o =>
      rw [hgo] at hg0
      have no : ∀ i d, (none :: none :: List.replicate N.length (none : Option D))[i]? ≠ some (some d) := fun i d hi => by
        have : some d ∈ (none :: none :: List.replicate N.length (none : Option D)) := List.mem_of_getElem? hi
        simp at this
      refine ht (fun _ => none) H1 (fun _ => none) _ _ (fun _ => none) H1 o _ (fun _ _ => rfl) ⟨fun _ _ z => (by cases z), Ext.refl fun _ _ z => (by cases z), by simp, fun i d _ hi => absurd hi (no i d), fun i d hi => absurd hi (by simp), fun i k a d e hi => absurd hi (by simp), fun i a hi => absurd hi (by simp)⟩ hgo ?_
      cases o with
      | rt d s' =>
        cases d with
        | bl b =>
          obtain rfl : b = true := hg0
          exact fun v F2 H2 σ2 _ rv => by
            cases dv_bl rv
            exact q H2
        | _ => cases hg0
      | _ => cases hg0
end Mr

set_option Elab.async false
set_option linter.all false
set_option maxRecDepth 100000
set_option maxHeartbeats 2000000
/-! any of a list of Booleans; max of a list of ints -/
namespace Mr
open PySem PySem.Spec PyProof.Rows L2
open Evl (Ex)
def dAny : D → Option D
  | .lst ds => (dBls ds).map fun ns => .bl (ns.any id)
  | _ => none
theorem rc_any {K : PySem.W.Frag} {T : CT} : RcV K T (rAny K) (on1 dAny) := by
  intro vs ds d F1 H1 s hs h Q q
  replace h := on1_some h; obtain ⟨x, rfl, h⟩ := h
  obtain ⟨v, rfl, rx⟩ := dva1 hs
  unfold dAny at h; split at h
  case h_2 => cases h
  all_goals simp only [Option.map_eq_some_iff] at h
  obtain ⟨ns, h1, rfl⟩ := h
  obtain ⟨a, xs, rfl, ha, da⟩ := dv_lst rx
  rw [dBls_some h1] at da
  have e := dva_bls da
  subst e
  exact ⟨a, ns, rfl, SqL.of (s _ _ ha), q _ F1 H1 (Ext.refl s) (.bl _)⟩
def maxI : Int → List Int → Int
  | m, [] => m
  | m, n :: ns => maxI (if n > m then n else m) ns
theorem maxI_ge : ∀ (ns : List Int) (m : Int), m ≤ maxI m ns ∧ ∀ y ∈ ns, y ≤ maxI m ns
  | [], m => ⟨Int.le_refl _, fun y h => by cases h⟩
  | n :: ns, m => by
    obtain ⟨h1, h2⟩ := maxI_ge ns (if n > m then n else m)
    show m ≤ maxI _ ns ∧ ∀ y ∈ n :: ns, y ≤ maxI _ ns
    refine ⟨?_, fun y hy => ?_⟩
    · split at h1 <;> rename_i h <;> simp only [h, if_true, if_false] <;> omega
    · rcases List.mem_cons.mp hy with rfl | hy
      · split at h1 <;> rename_i h <;> simp only [h, if_true, if_false] <;> omega
      · exact h2 y hy
theorem maxI_mem : ∀ (ns : List Int) (m : Int), maxI m ns ∈ m :: ns
  | [], m => List.mem_cons_self
  | n :: ns, m => by
    have h := maxI_mem ns (if n > m then n else m)
    show maxI _ ns ∈ _
    rcases List.mem_cons.mp h with h | h
    · rw [h]; split
      · exact List.mem_cons_of_mem _ List.mem_cons_self
      · exact List.mem_cons_self
    · exact List.mem_cons_of_mem _ (List.mem_cons_of_mem _ h)
def dMaxL : D → Option D
  | .lst ds => (dInts ds).bind fun ns => match ns with
    | [] => none
    | n :: ns => some (.int (maxI n ns))
  | _ => none
theorem rc_maxL {K : PySem.W.Frag} {T : CT} : RcV K T (rMax K) (on1 dMaxL) := by
  intro vs ds d F1 H1 s hs h Q q
  replace h := on1_some h; obtain ⟨x, rfl, h⟩ := h
  obtain ⟨v, rfl, rx⟩ := dva1 hs
  unfold dMaxL at h; split at h
  case h_2 => cases h
  obtain ⟨ns, h1, h2⟩ := Option.bind_eq_some_iff.mp h
  obtain ⟨a, xs, rfl, ha, da⟩ := dv_lst rx
  rw [dInts_some h1] at da
  have e := dva_ints da
  subst e
  cases ns with
  | nil => cases h2
  | cons n ns =>
    cases h2
    refine ⟨a, n :: ns, rfl, SqL.of (s _ _ ha), Nat.succ_pos _, fun m hm hy => ?_⟩
    have e1 := hy _ (maxI_mem ns n)
    have e2 : m ≤ maxI n ns := by
      rcases List.mem_cons.mp hm with rfl | hm
      · exact (maxI_ge ns _).1
      · exact (maxI_ge ns n).2 m hm
    have e3 : m = maxI n ns := Int.le_antisymm e2 e1
    rw [e3]
    exact q _ F1 H1 (Ext.refl s) (.int _)
section
variable {G : Fam} {T : CT} {a b : Expr} {f g : XE} {fa : XA} {p pos : Pos}
theorem ce_anyC (Z : G.mg "any" = none) (ha : CA G T [a] fa) (hg : ∀ i, Gl (G.X i) "any" := by intro _; rfl) (he : ∀ i, starEach [a] (G.X i).env = (false, eval a (G.X i).env) :: starEach [] (G.X i).env := by intro _; rfl) (hpl : ∀ i, (backTo pos (starEach [] (G.X i).env)).any (·.1) = false := by intro _; rfl) : CE G T (.Call (.Name "any" p) [a] [] pos) (xB (on1 dAny) fa) :=
  ce_B (fun i => by rw [← G.hK i]; exact cr_any (G.hc i)) rc_any Z (by decide +kernel) ha hg (by decide) (by decide) he hpl
theorem ce_maxL (B : Bi G.mg) (ha : CA G T [a] fa) (hg : ∀ i, Gl (G.X i) "max" := by intro _; rfl) (he : ∀ i, starEach [a] (G.X i).env = (false, eval a (G.X i).env) :: starEach [] (G.X i).env := by intro _; rfl) (hpl : ∀ i, (backTo pos (starEach [] (G.X i).env)).any (·.1) = false := by intro _; rfl) : CE G T (.Call (.Name "max" p) [a] [] pos) (xB (on1 dMaxL) fa) :=
  ce_B (fun i => by rw [← G.hK i]; exact cr_max (G.hc i)) rc_maxL B.max (by decide +kernel) ha hg (by decide) (by decide) he hpl
end
end Mr

set_option Elab.async false
set_option linter.all false
set_option maxRecDepth 100000
set_option maxHeartbeats 2000000
/-! min of two; what is left open; a part of an own list written anew -/
namespace Mr
open PySem PySem.Spec PyProof.Rows L2
open Evl (Ex)
def dMin : D → D → Option D
  | .int i, .int j => some (.int (if j < i then j else i))
  | _, _ => none
theorem rc_min {K : PySem.W.Frag} {T : CT} : RcV K T (fun xs H Q => ∃ i j, xs = [.int i, .int j] ∧ Q (.int (if j < i then j else i)) H) (on2 dMin) := by
  intro vs ds d F1 H1 s hs h Q q
  replace h := on2_some h; obtain ⟨x, y, rfl, h⟩ := h
  obtain ⟨v, w, rfl, rx, ry⟩ := dva2 hs
  unfold dMin at h; split at h
  case h_2 => cases h
  all_goals simp only [Option.some.injEq] at h
  subst h
  exact ⟨_, _, by rw [dv_int rx, dv_int ry], q _ F1 H1 (Ext.refl s) (.int _)⟩
section
variable {G : Fam} {T : CT} {E : XK} {gs own : List Nat} {a b c e : Expr} {f g fc : XE} {fn : XN} {fa : XA} {p p2 pos : Pos}
theorem ce_minC (B : Bi G.mg) (ha : CA G T [a, b] fa) (hg : ∀ i, Gl (G.X i) "min" := by intro _; rfl) (he : ∀ i, starEach [a, b] (G.X i).env = (false, eval a (G.X i).env) :: starEach [b] (G.X i).env := by intro _; rfl) (hpl : ∀ i, (backTo pos (starEach [b] (G.X i).env)).any (·.1) = false := by intro _; rfl) : CE G T (.Call (.Name "min" p) [a, b] [] pos) (xB (on2 dMin) fa) :=
  ce_B (fun i => call_min2 (G.hc i)) rc_min B.min (by decide +kernel) ha hg (by decide) (by decide) he hpl
/-- nothing is said of an expression -/
def xOpen : XE := fun _ => none
theorem ce_open : CE G T e xOpen := ⟨fun _ _ _ => False, fun _ => ⟨fun _ _ _ _ _ _ h => h.elim⟩, fun _ _ _ _ _ _ _ h => by cases h⟩
/-- nothing is said of what stands behind -/
def gSlc (to ta tc : TE) : TG := fun v σ H Q => to σ H fun o H1 => ta σ H1 fun x H2 => tc σ H2 fun y H3 => ∃ (l b : Addr) (xs ys : List V) (i j : Int), o = .ref l ∧ v = .ref b ∧ x = .int i ∧ y = .int j ∧ H3 l = some (.lst xs) ∧ H3 b = some (.lst ys) ∧ l ≠ b ∧ 0 ≤ i ∧ i ≤ j ∧ j ≤ (xs.length : Int) ∧ xs.length + ys.length ≤ sizeLine ∧ Q σ (upd H3 l (.lst (xs.take i.toNat ++ ys ++ xs.drop j.toNat)))
theorem pg_slc {X : Cx} {o : Expr} {to ta tc : TE} (ho : PE X o to) (h1 : PE X a ta) (h2 : PE X c tc)
    (ha : ∀ v, assign (.Subscript o (.Slice (some a) (some c) none p2) pos) X.env v = (do
      let ov ← holding [v] (eval o X.env)
      let iv ← holding [v, ov] (eval (.Slice (some a) (some c) none p2) X.env)
      standAt pos
      holding [v, ov, iv] (setItem ov iv v)
      release [iv, v, ov] [])) : PG X (.Subscript o (.Slice (some a) (some c) none p2) pos) (gSlc to ta tc) := by
  refine ⟨fun pins s σ H v u Q I r h => ?_⟩
  rw [ha u]
  refine wpAny_bind (wpAny_holding (thn (ho.run pins s σ H _ I h) fun ov s1 z => ?_))
  obtain ⟨o', H1, I1, r1, q1⟩ := z
  refine wpAny_bind (wpAny_holding (wpAny_Slice ?_))
  rw [evalPart_some]
  refine thn (h1.run pins s1 σ H1 _ I1 q1) fun lv s2 z => ?_
  obtain ⟨x, H2, I2, r2, q2⟩ := z
  rw [evalPart_some]
  refine thn (h2.run pins s2 σ H2 _ I2 q2) fun uv s3 z => ?_
  obtain ⟨y, H3, I3, r3, l, b, xs, ys, i, j, rfl, rfl, rfl, rfl, g1, g2, g3, g4, g5, g6, g7, q3⟩ := z
  rw [evalPart_none]
  refine wpAny_pure ?_
  have I4 := Inv.kept (t' := s3.toks) I3 fun b ob q => Heap.get?_push_of_some { cls := Value.type "slice", data := Data.fields #[lv, uv, Value.none] } q
  refine wpAny_bind (wpAny_standAt (wpAny_bind (wpAny_holding ?_)))
  cases (show ov = Value.ref l from r1)
  cases (show u = Value.ref b from r)
  refine thn (set_slice I4 g1 g2 g3 (Heap.IsSliceOf.new s3.heap lv uv Value.none) r2 r3 g4 g5 g6 g7 (Q := fun _ s' => L2.Inv X pins σ (upd H3 l (.lst (xs.take i.toNat ++ ys ++ xs.drop j.toNat))) s') fun s' h => h) fun _ s4 I5 => ?_
  exact wpAny_release ⟨σ, _, I5, q3⟩
theorem cn_comp {tg iter elt : Expr} {ifs : List Expr} {scope : Scope} {it : XA} {bind : D → S → Option S} {test : XT} (N0 : List Str) (sc0 : Scope) (own : List (Str × Nat)) (hi : CI G T tg iter it) (hg : CG (G.blk scope) T tg (own.map (·.2)) bind) (ht : CTs (G.blk scope) T ifs test) (he : CE (G.blk scope) T elt f)
    (hbl : blkC N0 sc0 scope own = true := by decide +kernel) (hNd : ∀ i, (G.X i).N.Nodup) (hN0 : ∀ i, (G.X i).N = N0 := by intro _; rfl) (hsc : ∀ i, (G.X i).env.scope = sc0 := by intro _; rfl)
    (hfs : ∀ i x, foldedSetIterable iter (G.X i).env x = pure x := by intro _ _; rfl) : CN G T (.ListComp elt [⟨tg, iter, ifs, 0⟩] scope pos) (nComp it bind (own.map (·.2)) test f) := by
  obtain ⟨wi, hi, vi⟩ := hi
  obtain ⟨g, hg, vg⟩ := hg
  obtain ⟨tt, ht, vt⟩ := ht
  obtain ⟨te, he, ve⟩ := he
  refine ⟨tLc wi g tt te (own.map (·.2)), fun i => pe_lc (G.hc i) (hNd i) (hi i) (by rw [hN0 i, hsc i]; exact blkOk_by hbl) (fun s H C cl fp => hg ⟨i, s, H, C, cl, fp⟩) (fun s H C cl fp => ht ⟨i, s, H, C, cl, fp⟩) (fun s H C cl fp => he ⟨i, s, H, C, cl, fp⟩) (hfs i), fun s σ F H d hx hs hf F1 H1 e1 Q q => ?_⟩
  unfold nComp at hf
  simp only [Option.bind_eq_some_iff] at hf
  obtain ⟨ds, h1, z', h2, h3⟩ := hf
  have hz : ds.length ≤ 100000 ∧ z' = d := by
    unfold lim2 at h3
    split at h3
    · exact ⟨by assumption, Option.some.inj h3⟩
    · cases h3
  obtain ⟨hz, rfl⟩ := hz
  exact tLc_evN (G := G) (iter := iter) (elt := elt) (fun R hR => vi s σ F H ds hx hs h1 F1 H1 e1 R hR) e1.sub (hs.mono e1.fz) vg vt ve h2 hz _ fun p xs F2 H2 e2 n1 n2 hH hd => q p xs F2 H2 e2 n1 n2 hH hd
def sSlc (j : Nat) (fa fc : XE) (fn : XN) : S → Option Out := fun s => match (s[j]?).join, fn s, fa s, fc s with
  | some (.lst ds), some es, some (.int x), some (.int y) => if es.all scalB = true ∧ 0 ≤ x ∧ x ≤ y ∧ y ≤ (ds.length : Int) ∧ ds.length + es.length ≤ 100000 then some (.nx (s.set j (some (.lst (ds.take x.toNat ++ es ++ ds.drop y.toNat))))) else none
  | _, _, _, _ => none
theorem dva_scalA {K : PySem.W.Frag} {T : CT} {F F' : Hp} : ∀ {vs : List V} {ds : List D}, DvA K T F vs ds → ds.all scalB = true → DvA K T F' vs ds
  | [], [], _, _ => .nil
  | v :: vs, d :: ds, .cons a b, h => by
    rw [List.all_cons, Bool.and_eq_true] at h
    exact .cons (dv_scal a h.1) (dva_scalA b h.2)
theorem dva_app2 {K : PySem.W.Frag} {T : CT} {F : Hp} : ∀ {vs ws : List V} {ds es : List D}, DvA K T F vs ds → DvA K T F ws es → DvA K T F (vs ++ ws) (ds ++ es)
  | [], _, [], _, _, h => h
  | v :: vs, _, d :: ds, _, .cons a b, h => .cons a (dva_app2 b h)
theorem dva_take2 {K : PySem.W.Frag} {T : CT} {F : Hp} : ∀ {vs : List V} {ds : List D} (n : Nat), DvA K T F vs ds → DvA K T F (vs.take n) (ds.take n)
  | _, _, 0, _ => .nil
  | [], [], _ + 1, _ => .nil
  | v :: vs, d :: ds, n + 1, .cons a b => .cons a (dva_take2 n b)
theorem dva_drop2 {K : PySem.W.Frag} {T : CT} {F : Hp} : ∀ {vs : List V} {ds : List D} (n : Nat), DvA K T F vs ds → DvA K T F (vs.drop n) (ds.drop n)
  | _, _, 0, h => h
  | [], [], _ + 1, _ => .nil
  | v :: vs, d :: ds, n + 1, .cons a b => dva_drop2 n b
theorem cs_slc (j : Nat) {x : Str} {px sp : Pos} (he : CN G T e fn) (hka : CE G T a f) (hkc : CE G T c fc) (hj : j ∈ own := by decide) (hN : ∀ i, (G.X i).N[j]? = some x := by intro _; rfl) (hv : ∀ i, Vis (G.X i).env.scope x := by intro _; first | exact Or.inl rfl | exact Or.inr (Or.inl rfl) | exact Or.inr (Or.inr rfl))
    (ha : ∀ i v, assign (.Subscript (.Name x px) (.Slice (some a) (some c) none p2) sp) (G.X i).env v = (do
      let ov ← holding [v] (eval (.Name x px) (G.X i).env)
      let iv ← holding [v, ov] (eval (.Slice (some a) (some c) none p2) (G.X i).env)
      standAt sp
      holding [v, ov, iv] (setItem ov iv v)
      release [iv, v, ov] []) := by intro _ _; rfl)
    (hs : ∀ i, swapsWithSole [.Subscript (.Name x px) (.Slice (some a) (some c) none p2) sp] e pos.line (G.X i).env = pure false := by intro _; rfl) (hw : ∀ i, swappedStores [.Subscript (.Name x px) (.Slice (some a) (some c) none p2) sp] e (G.X i).env = pure none := by intro _; rfl)
    (h1a : ∀ i, (assignEach [.Subscript (.Name x px) (.Slice (some a) (some c) none p2) sp] (G.X i).env).map (·.2) = [assign (.Subscript (.Name x px) (.Slice (some a) (some c) none p2) sp) (G.X i).env] := by intro _; rfl)
    (hd : (x == ("__debug__" : Str)) = false := by decide) (hcd : (x == ("__classdict__" : Str)) = false := by decide) : CS G T E gs own (.Assign [.Subscript (.Name x px) (.Slice (some a) (some c) none p2) sp] e pos) (sSlc j f fc fn) := by
  obtain ⟨te, h1, h2⟩ := he
  obtain ⟨ta, ha1, ha2⟩ := hka
  obtain ⟨tc, hc1, hc2⟩ := hkc
  refine ⟨tAsg te (gSlc (tVar j) ta tc), fun i => ps_asg (h1 i) (pg_slc (pe_var (hN i) (hv i) hd hcd) (ha1 i) (hc1 i) (ha i)) (hs i) (hw i) (h1a i), fun F0 H0 ga s σ F H o Dn hga r hg hp => ?_⟩
  unfold sSlc at hg
  split at hg
  case h_2 => cases hg
  rename_i ds es xx yy h3 h4 h5 h6
  split at hg
  case isFalse => cases hg
  rename_i hz
  cases hg
  rw [Option.join_eq_some_iff] at h3
  obtain ⟨l, xs, ds', g1, g2, g3, g0, g4, g5⟩ := r.ow j _ hj h3
  cases g2
  refine h2 s σ H H es (Evl.Ex.refl H) r.slH h4 H H (Ext.refl (Evl.Ex.refl H)) _ fun pp ys F2 H2 e2 hp1 hp2 hp3 ry => ⟨_, g1, ?_⟩
  refine ha2 s σ H H _ (Evl.Ex.refl H) r.slH h5 F2 H2 e2 _ fun v F3 H3 e3 rv => ?_
  refine hc2 s σ H H _ (Evl.Ex.refl H) r.slH h6 F3 H3 (e2.trans e3) _ fun w F4 H4 e4 rw' => ?_
  have e34 := e3.trans e4
  have e24 := e2.trans e34
  have hH : H4 l = some (.lst xs) := e24.sub _ _ (e24.fz _ _ g4)
  have hP := (e34.own pp _ hp2 hp3).2
  have hxl : xs.length = ds.length := dva_len g5
  have hyl : ys.length = es.length := dva_len ry
  refine ⟨l, pp, xs, ys, xx, yy, rfl, rfl, dv_int rv, dv_int rw', hH, hP, fun q => ?_, hz.2.1, hz.2.2.1, by rw [hxl]; exact hz.2.2.2.1, Evl.sz_of (by rw [hxl, hyl]; exact hz.2.2.2.2), ?_⟩
  · subst q; rw [g4] at hp1; cases hp1
  · exact hp F _ _ (Evl.Ex.refl F) ((r.extH e24).write hj h3 g1 (dva_app2 (dva_app2 (dva_take2 _ g5) (dva_scalA ry hz.1)) (dva_drop2 _ g5)))
end
end Mr

set_option Elab.async false
set_option linter.all false
set_option maxRecDepth 100000
set_option maxHeartbeats 4000000
namespace G7
open PySem PySem.Spec PyProof.Rows L2 Mr
def top (i : Nat) : Stmt := PySem.Challenge.pw_curveheads_k07_curves.main.body.getD i (.Pass ⟨0, 0, 0, 0⟩)
def meth (i j : Nat) : Stmt := match top i with
  | .ClassDef _ _ _ body _ _ _ _ _ _ _ => body.getD j (.Pass ⟨0, 0, 0, 0⟩)
  | _ => .Pass ⟨0, 0, 0, 0⟩
abbrev ns_Curve : List Str := ["_prime", "_numbers"]
abbrev d_PRIMES : D := (.tup [(.int 3), (.int 5), (.int 7), (.int 11), (.int 13)])
abbrev d_SHORT_FACTOR : D := (.int 12)
abbrev d_SHORT_QUOTIENT : D := (.int 100)
abbrev d_BLOCK : D := (.int 60)
abbrev d_WIDTH : D := (.int 6)
abbrev d_POWERS : D := (.tup [(.int 1), (.int 3), (.int 5), (.int 7)])
abbrev c_InvalidPrime : Nat := 0
abbrev c_InvalidPolynomial : Nat := 1
noncomputable section
variable {P : Program} {w : World} {K : PySem.W.Frag} {mg : Str → Option Value} {base : Heap} {T : CT}
/-! is_whole -/
abbrev s_is_whole : Stmt := top 11
abbrev N_is_whole : List Str := ["value"]
theorem sc_is_whole : FnScope N_is_whole ["value"] (defScope s_is_whole) := ⟨rfl, rfl, rfl, by decide +kernel, rfl, by decide +kernel, by decide +kernel⟩
def b_is_whole : S → Option Out := (sRet [] (xAnd (xUn (dIsi "int") (xVar 0)) (xNot (xUn (dIsi "bool") (xVar 0)))))
def m_is_whole : List D → Option FR := defM 1 1 b_is_whole
theorem ok_is_whole (B : Bi mg) (F : Def0 K mg "is_whole" s_is_whole ["value"])  : Cal P w K mg base T "is_whole" 1 ["value"] m_is_whole :=
  cal_mirror (own := []) (k := 0) (g := (sRet [] (xAnd (xUn (dIsi "int") (xVar 0)) (xNot (xUn (dIsi "bool") (xVar 0)))))) F sc_is_whole (by decide) (by decide) rfl rfl fun f cdv A outer s H E hr => (css_one (cs_ret [] (ce_and (ce_isi (ce_var 0) B.isinstance B.int (by decide +kernel)) (ce_one (ce_not (ce_isi (ce_var 0) B.isinstance B.bool (by decide +kernel)))))))
/-! is_number -/
abbrev s_is_number : Stmt := top 12
abbrev N_is_number : List Str := ["p", "value"]
theorem sc_is_number : FnScope N_is_number ["p", "value"] (defScope s_is_number) := ⟨rfl, rfl, rfl, by decide +kernel, rfl, by decide +kernel, by decide +kernel⟩
def b_is_number : S → Option Out := (sRet [] (xAnd (xCall m_is_whole (xCons (xVar 1) xNil)) (xChain (dCmp pLe) (dCmp pLt) (xC (.int 0)) (xVar 1) (xVar 0))))
def m_is_number : List D → Option FR := defM 2 2 b_is_number
theorem ok_is_number (B : Bi mg) (F : Def0 K mg "is_number" s_is_number ["p", "value"]) (K_is_whole : Cal P w K mg base T "is_whole" 1 ["value"] m_is_whole) : Cal P w K mg base T "is_number" 2 ["p", "value"] m_is_number :=
  cal_mirror (own := []) (k := 1) (g := (sRet [] (xAnd (xCall m_is_whole (xCons (xVar 1) xNil)) (xChain (dCmp pLe) (dCmp pLt) (xC (.int 0)) (xVar 1) (xVar 0))))) F sc_is_number (by decide) (by decide) rfl rfl fun f cdv A outer s H E hr => (css_one (cs_ret [] (ce_and (ce_cal K_is_whole (Nat.le_of_ble_eq_true rfl) (fun _ => passL) (ca_cons (ce_var 1) ca_nil)) (ce_one (ce_chain (fun _ => op_le) (fun _ => op_lt) rv_cmp rv_cmp ce_int (ce_var 1) (ce_var 0))))))
/-! is_polynomial -/
abbrev s_is_polynomial : Stmt := top 13
abbrev N_is_polynomial : List Str := ["p", "value", "item"]
theorem sc_is_polynomial : FnScope N_is_polynomial ["p", "value"] (defScope s_is_polynomial) := ⟨rfl, rfl, rfl, by decide +kernel, rfl, by decide +kernel, by decide +kernel⟩
def b_is_polynomial : S → Option Out := (sSeq (sIf (xtNot (xTru (xUn (dIsi "list") (xVar 1)))) (sRet [] (xC (.bl false))) sNil) (sRet [] (xAnd (xB (on1 dAll) (xCons (xComp (xiL (xVar 1)) (bName 2) [2] xYes (xCall m_is_number (xCons (xVar 0) (xCons (xVar 2) xNil)))) xNil)) (xOp (dNe) (xSl (xVar 1) (xoS (xUn dNeg (xC (.int 1)))) xoN) (xLst (xCons (xC (.int 0)) xNil))))))
def m_is_polynomial : List D → Option FR := defM 2 3 b_is_polynomial
theorem ok_is_polynomial (B : Bi mg) (F : Def0 K mg "is_polynomial" s_is_polynomial ["p", "value"]) (K_is_number : Cal P w K mg base T "is_number" 2 ["p", "value"] m_is_number) : Cal P w K mg base T "is_polynomial" 3 ["p", "value"] m_is_polynomial :=
  cal_mirror (own := []) (k := 2) (g := (sSeq (sIf (xtNot (xTru (xUn (dIsi "list") (xVar 1)))) (sRet [] (xC (.bl false))) sNil) (sRet [] (xAnd (xB (on1 dAll) (xCons (xComp (xiL (xVar 1)) (bName 2) [2] xYes (xCall m_is_number (xCons (xVar 0) (xCons (xVar 2) xNil)))) xNil)) (xOp (dNe) (xSl (xVar 1) (xoS (xUn dNeg (xC (.int 1)))) xoN) (xLst (xCons (xC (.int 0)) xNil))))))) F sc_is_polynomial (by decide) (by decide) rfl rfl fun f cdv A outer s H E hr => (css_cons (cs_if (ct_not (ct_tru (ce_isi (ce_var 1) B.isinstance B.list (by decide +kernel)))) (css_one (cs_ret [] ce_bl)) css_nil) (css_one (cs_ret [] (ce_and (ce_allC B (ca_cons (ce_comp N_is_polynomial (defScope s_is_polynomial) [("item", 2)] (ci_list (ce_var 1)) (cg_name 2 (fun _ => sc_is_polynomial.nd)) cts_nil (ce_cal K_is_number (Nat.le_of_ble_eq_true rfl) (fun _ => passL) (ca_cons (ce_var 0) (ca_cons (ce_var 2) ca_nil))) (hNd := fun _ => sc_is_polynomial.nd)) ca_nil)) (ce_one (ce_ne (ce_sl (ce_var 1) (co_s (ce_neg ce_int)) co_n) (ce_lst (ca_cons ce_int ca_nil))))))))
/-! poly_trimmed -/
abbrev s_poly_trimmed : Stmt := top 16
abbrev N_poly_trimmed : List Str := ["numbers", "size"]
theorem sc_poly_trimmed : FnScope N_poly_trimmed ["numbers"] (defScope s_poly_trimmed) := ⟨rfl, rfl, rfl, by decide +kernel, rfl, by decide +kernel, by decide +kernel⟩
def b_poly_trimmed : S → Option Out := (sSeq (sSet [] 1 (xB (on1 dLen) (xCons (xVar 0) xNil))) (sSeq (whileM (xtAnd (xBl (xOp (dCmp pGt) (xVar 1) (xC (.int 0)))) (xBl (xOp (dEq) (xOp dIx (xVar 0) (xOp dSub (xVar 1) (xC (.int 1)))) (xC (.int 0))))) (sAug 1 (fun i j => i - j) (xC (.int 1))) 100000) (sRet [] (xSl (xVar 0) xoN (xoS (xVar 1))))))
def m_poly_trimmed : List D → Option FR := defM 1 2 b_poly_trimmed
theorem ok_poly_trimmed (B : Bi mg) (F : Def0 K mg "poly_trimmed" s_poly_trimmed ["numbers"])  : Cal P w K mg base T "poly_trimmed" 1 ["numbers"] m_poly_trimmed :=
  cal_mirror (own := []) (k := 0) (g := (sSeq (sSet [] 1 (xB (on1 dLen) (xCons (xVar 0) xNil))) (sSeq (whileM (xtAnd (xBl (xOp (dCmp pGt) (xVar 1) (xC (.int 0)))) (xBl (xOp (dEq) (xOp dIx (xVar 0) (xOp dSub (xVar 1) (xC (.int 1)))) (xC (.int 0))))) (sAug 1 (fun i j => i - j) (xC (.int 1))) 100000) (sRet [] (xSl (xVar 0) xoN (xoS (xVar 1))))))) F sc_poly_trimmed (by decide) (by decide) rfl rfl fun f cdv A outer s H E hr => (css_cons (cs_set 1 (ce_len B (ca_cons (ce_var 0) ca_nil)) (fun _ => sc_poly_trimmed.nd)) (css_cons (cs_while 100000 (cw_ct (cw_and (ct_gt (ce_var 1) ce_int) (cw_and1 (ct_eq (ce_ix (ce_var 0) (ce_sub (ce_var 1) ce_int)) ce_int)))) (css_one (cs_augSub 1 ce_int (fun _ => sc_poly_trimmed.nd))) (fun _ => passes_of rfl)) (css_one (cs_ret [] (ce_sl (ce_var 0) co_n (co_s (ce_var 1)))))))
/-! inverse -/
abbrev s_inverse : Stmt := top 15
abbrev N_inverse : List Str := ["p", "number", "other"]
theorem sc_inverse : FnScope N_inverse ["p", "number"] (defScope s_inverse) := ⟨rfl, rfl, rfl, by decide +kernel, rfl, by decide +kernel, by decide +kernel⟩
def b_inverse : S → Option Out := (sRet [] (xOp dIx (xComp (xi dRng2 (xCons (xC (.int 1)) (xCons (xVar 0) xNil))) (bName 2) [2] (xBl (xOp (dEq) (xOp dMod (xOp dMul (xVar 1) (xVar 2)) (xVar 0)) (xC (.int 1)))) (xVar 2)) (xC (.int 0))))
def m_inverse : List D → Option FR := defM 2 3 b_inverse
theorem ok_inverse (B : Bi mg) (F : Def0 K mg "inverse" s_inverse ["p", "number"])  : Cal P w K mg base T "inverse" 1 ["p", "number"] m_inverse :=
  cal_mirror (own := []) (k := 0) (g := (sRet [] (xOp dIx (xComp (xi dRng2 (xCons (xC (.int 1)) (xCons (xVar 0) xNil))) (bName 2) [2] (xBl (xOp (dEq) (xOp dMod (xOp dMul (xVar 1) (xVar 2)) (xVar 0)) (xC (.int 1)))) (xVar 2)) (xC (.int 0))))) F sc_inverse (by decide) (by decide) rfl rfl fun f cdv A outer s H E hr => (css_one (cs_ret [] (ce_ix (ce_comp N_inverse (defScope s_inverse) [("other", 2)] (ci_rng2 (ca_cons ce_int (ca_cons (ce_var 0) ca_nil)) B.range) (cg_name 2 (fun _ => sc_inverse.nd)) (cts_one (ct_eq (ce_mod (ce_mul (ce_var 1) (ce_var 2)) (ce_var 0)) ce_int)) (ce_var 2) (hNd := fun _ => sc_inverse.nd)) ce_int)))
/-! poly_monic -/
abbrev s_poly_monic : Stmt := top 17
abbrev N_poly_monic : List Str := ["p", "one", "turn", "number"]
theorem sc_poly_monic : FnScope N_poly_monic ["p", "one"] (defScope s_poly_monic) := ⟨rfl, rfl, rfl, by decide +kernel, rfl, by decide +kernel, by decide +kernel⟩
def b_poly_monic : S → Option Out := (sSeq (sSet [] 2 (xCall m_inverse (xCons (xVar 0) (xCons (xOp dIx (xVar 1) (xUn dNeg (xC (.int 1)))) xNil)))) (sRet [] (xComp (xiL (xVar 1)) (bName 3) [3] xYes (xOp dMod (xOp dMul (xVar 3) (xVar 2)) (xVar 0)))))
def m_poly_monic : List D → Option FR := defM 2 4 b_poly_monic
theorem ok_poly_monic (B : Bi mg) (F : Def0 K mg "poly_monic" s_poly_monic ["p", "one"]) (K_inverse : Cal P w K mg base T "inverse" 1 ["p", "number"] m_inverse) : Cal P w K mg base T "poly_monic" 2 ["p", "one"] m_poly_monic :=
  cal_mirror (own := []) (k := 1) (g := (sSeq (sSet [] 2 (xCall m_inverse (xCons (xVar 0) (xCons (xOp dIx (xVar 1) (xUn dNeg (xC (.int 1)))) xNil)))) (sRet [] (xComp (xiL (xVar 1)) (bName 3) [3] xYes (xOp dMod (xOp dMul (xVar 3) (xVar 2)) (xVar 0)))))) F sc_poly_monic (by decide) (by decide) rfl rfl fun f cdv A outer s H E hr => (css_cons (cs_set 2 (ce_cal K_inverse (Nat.le_of_ble_eq_true rfl) (fun _ => passL) (ca_cons (ce_var 0) (ca_cons (ce_ix (ce_var 1) (ce_neg ce_int)) ca_nil))) (fun _ => sc_poly_monic.nd)) (css_one (cs_ret [] (ce_comp N_poly_monic (defScope s_poly_monic) [("number", 3)] (ci_list (ce_var 1)) (cg_name 3 (fun _ => sc_poly_monic.nd)) cts_nil (ce_mod (ce_mul (ce_var 3) (ce_var 2)) (ce_var 0)) (hNd := fun _ => sc_poly_monic.nd)))))
/-! poly_divided -/
abbrev s_poly_divided : Stmt := top 20
abbrev N_poly_divided : List Str := ["p", "one", "other", "steps", "size", "rest", "turn", "quotient", "at", "times", "left", "number"]
theorem sc_poly_divided : FnScope N_poly_divided ["p", "one", "other"] (defScope s_poly_divided) := ⟨rfl, rfl, rfl, by decide +kernel, rfl, by decide +kernel, by decide +kernel⟩
def b_poly_divided : S → Option Out := (sSeq (sPar [7, 5] 3 4 (xOp dAdd (xOp dSub (xB (on1 dLen) (xCons (xVar 1) xNil)) (xB (on1 dLen) (xCons (xVar 2) xNil))) (xC (.int 1))) (xB (on1 dLen) (xCons (xVar 2) xNil))) (sSeq (sIf (xBl (xOp (dCmp pGt) (xB (on2 dMin) (xCons (xVar 3) (xCons (xVar 4) xNil))) (xC d_SHORT_QUOTIENT))) (sRet [] xOpen) sNil) (sSeq (sSetO [7, 5] 5 (nList (xVar 1))) (sSeq (sSet [7, 5] 6 (xCall m_inverse (xCons (xVar 0) (xCons (xOp dIx (xVar 2) (xUn dNeg (xC (.int 1)))) xNil)))) (sSeq (sSetO [7, 5] 7 (nRep (xLst (xCons (xC (.int 0)) xNil)) (xVar 3))) (sSeq (sFor [7, 5] (xiRev (xVar 3)) (bName 8) (sSeq (sSetC 9 (xOp dMod (xOp dMul (xOp dIx (xVar 5) (xOp dSub (xOp dAdd (xVar 8) (xVar 4)) (xC (.int 1)))) (xVar 6)) (xVar 0))) (sSeq (sStoC 7 (xVar 8) (xVar 9)) (sIf (xTru (xVar 9)) (sSlc 5 (xVar 8) (xOp dAdd (xVar 8) (xVar 4)) (nComp (xi dZip (xCons (xSl (xVar 5) (xoS (xVar 8)) (xoS (xOp dAdd (xVar 8) (xVar 4)))) (xCons (xVar 2) xNil))) (bPair 10 11) [10, 11] xYes (xOp dMod (xOp dSub (xVar 10) (xOp dMul (xVar 9) (xVar 11))) (xVar 0)))) sNil)))) (sRet [] (xTup (xCons (xVar 7) (xCons (xCall m_poly_trimmed (xCons (xSl (xVar 5) xoN (xoS (xOp dSub (xVar 4) (xC (.int 1))))) xNil)) xNil))))))))))
def m_poly_divided : List D → Option FR := defM 3 12 b_poly_divided
theorem ok_poly_divided (B : Bi mg) (F : Def0 K mg "poly_divided" s_poly_divided ["p", "one", "other"]) (K_inverse : Cal P w K mg base T "inverse" 1 ["p", "number"] m_inverse) (K_poly_trimmed : Cal P w K mg base T "poly_trimmed" 1 ["numbers"] m_poly_trimmed) (C_SHORT_QUOTIENT : Con0 K T mg "SHORT_QUOTIENT" d_SHORT_QUOTIENT) : Cal P w K mg base T "poly_divided" 2 ["p", "one", "other"] m_poly_divided :=
  cal_mirror (own := [7, 5]) (k := 1) (g := (sSeq (sPar [7, 5] 3 4 (xOp dAdd (xOp dSub (xB (on1 dLen) (xCons (xVar 1) xNil)) (xB (on1 dLen) (xCons (xVar 2) xNil))) (xC (.int 1))) (xB (on1 dLen) (xCons (xVar 2) xNil))) (sSeq (sIf (xBl (xOp (dCmp pGt) (xB (on2 dMin) (xCons (xVar 3) (xCons (xVar 4) xNil))) (xC d_SHORT_QUOTIENT))) (sRet [] xOpen) sNil) (sSeq (sSetO [7, 5] 5 (nList (xVar 1))) (sSeq (sSet [7, 5] 6 (xCall m_inverse (xCons (xVar 0) (xCons (xOp dIx (xVar 2) (xUn dNeg (xC (.int 1)))) xNil)))) (sSeq (sSetO [7, 5] 7 (nRep (xLst (xCons (xC (.int 0)) xNil)) (xVar 3))) (sSeq (sFor [7, 5] (xiRev (xVar 3)) (bName 8) (sSeq (sSetC 9 (xOp dMod (xOp dMul (xOp dIx (xVar 5) (xOp dSub (xOp dAdd (xVar 8) (xVar 4)) (xC (.int 1)))) (xVar 6)) (xVar 0))) (sSeq (sStoC 7 (xVar 8) (xVar 9)) (sIf (xTru (xVar 9)) (sSlc 5 (xVar 8) (xOp dAdd (xVar 8) (xVar 4)) (nComp (xi dZip (xCons (xSl (xVar 5) (xoS (xVar 8)) (xoS (xOp dAdd (xVar 8) (xVar 4)))) (xCons (xVar 2) xNil))) (bPair 10 11) [10, 11] xYes (xOp dMod (xOp dSub (xVar 10) (xOp dMul (xVar 9) (xVar 11))) (xVar 0)))) sNil)))) (sRet [] (xTup (xCons (xVar 7) (xCons (xCall m_poly_trimmed (xCons (xSl (xVar 5) xoN (xoS (xOp dSub (xVar 4) (xC (.int 1))))) xNil)) xNil))))))))))) F sc_poly_divided (by decide) (by decide) rfl rfl fun f cdv A outer s H E hr => (css_cons (cs_par 3 4 (ce_add (ce_sub (ce_len B (ca_cons (ce_var 1) ca_nil)) (ce_len B (ca_cons (ce_var 2) ca_nil))) ce_int) (ce_len B (ca_cons (ce_var 2) ca_nil)) (fun _ => sc_poly_divided.nd)) (css_cons (cs_if (ct_gt (ce_minC B (ca_cons (ce_var 3) (ca_cons (ce_var 4) ca_nil))) (ce_con C_SHORT_QUOTIENT)) (css_one (cs_ret [7, 5] ce_open)) css_nil) (css_cons (cs_setO 5 (cn_list rfl (ce_var 1) B.list) (fun _ => sc_poly_divided.nd)) (css_cons (cs_set 6 (ce_cal K_inverse (Nat.le_of_ble_eq_true rfl) (fun _ => passL) (ca_cons (ce_var 0) (ca_cons (ce_ix (ce_var 2) (ce_neg ce_int)) ca_nil))) (fun _ => sc_poly_divided.nd)) (css_cons (cs_setO 7 (cn_rep (ce_lst (ca_cons ce_int ca_nil)) (ce_var 3)) (fun _ => sc_poly_divided.nd)) (css_cons (cs_for (ci_rev1 B (ce_var 3)) (cgs_name 8 (fun _ => sc_poly_divided.nd)) (css_cons (cs_setC 9 (ce_mod (ce_mul (ce_ix (ce_var 5) (ce_sub (ce_add (ce_var 8) (ce_var 4)) ce_int)) (ce_var 6)) (ce_var 0)) (fun _ => sc_poly_divided.nd)) (css_cons (cs_stoC 7 (ce_var 9) (ce_var 8)) (css_one (cs_if (ct_tru (ce_var 9)) (css_one (cs_slc 5 (cn_comp N_poly_divided (defScope s_poly_divided) [("left", 10), ("number", 11)] (ci_zip (ca_cons (ce_sl (ce_var 5) (co_s (ce_var 8)) (co_s (ce_add (ce_var 8) (ce_var 4)))) (ca_cons (ce_var 2) ca_nil)) B.zip) (cg_pair 10 11 (fun _ => sc_poly_divided.nd)) cts_nil (ce_mod (ce_sub (ce_var 10) (ce_mul (ce_var 9) (ce_var 11))) (ce_var 0)) (hNd := (fun _ => sc_poly_divided.nd))) (ce_var 8) (ce_add (ce_var 8) (ce_var 4)))) css_nil)))) (fun _ => passes_of rfl)) (css_one (cs_ret [7, 5] (ce_tup (ca_cons (ce_var 7) (ca_cons (ce_cal K_poly_trimmed (Nat.le_of_ble_eq_true rfl) (fun _ => passL) (ca_cons (ce_sl (ce_var 5) co_n (co_s (ce_sub (ce_var 4) ce_int))) ca_nil)) ca_nil)))))))))))
/-! poly_common -/
abbrev s_poly_common : Stmt := top 26
abbrev N_poly_common : List Str := ["p", "one", "other"]
theorem sc_poly_common : FnScope N_poly_common ["p", "one", "other"] (defScope s_poly_common) := ⟨rfl, rfl, rfl, by decide +kernel, rfl, by decide +kernel, by decide +kernel⟩
def b_poly_common : S → Option Out := (sSeq (whileM (xTru (xVar 2)) (sPar [] 1 2 (xVar 2) (xOp dIx (xCall m_poly_divided (xCons (xVar 0) (xCons (xVar 1) (xCons (xVar 2) xNil)))) (xC (.int 1)))) 100000) (sRet [] (xCall m_poly_monic (xCons (xVar 0) (xCons (xVar 1) xNil)))))
def m_poly_common : List D → Option FR := defM 3 3 b_poly_common
theorem ok_poly_common (B : Bi mg) (F : Def0 K mg "poly_common" s_poly_common ["p", "one", "other"]) (K_poly_divided : Cal P w K mg base T "poly_divided" 2 ["p", "one", "other"] m_poly_divided) (K_poly_monic : Cal P w K mg base T "poly_monic" 2 ["p", "one"] m_poly_monic) : Cal P w K mg base T "poly_common" 3 ["p", "one", "other"] m_poly_common :=
  cal_mirror (own := []) (k := 2) (g := (sSeq (whileM (xTru (xVar 2)) (sPar [] 1 2 (xVar 2) (xOp dIx (xCall m_poly_divided (xCons (xVar 0) (xCons (xVar 1) (xCons (xVar 2) xNil)))) (xC (.int 1)))) 100000) (sRet [] (xCall m_poly_monic (xCons (xVar 0) (xCons (xVar 1) xNil)))))) F sc_poly_common (by decide) (by decide) rfl rfl fun f cdv A outer s H E hr => (css_cons (cs_while 100000 (ct_tru (ce_var 2)) (css_one (cs_par 1 2 (ce_var 2) (ce_ix (ce_cal K_poly_divided (Nat.le_of_ble_eq_true rfl) (fun _ => passL) (ca_cons (ce_var 0) (ca_cons (ce_var 1) (ca_cons (ce_var 2) ca_nil)))) ce_int) (fun _ => sc_poly_common.nd))) (fun _ => passes_of rfl)) (css_one (cs_ret [] (ce_cal K_poly_monic (Nat.le_of_ble_eq_true rfl) (fun _ => passL) (ca_cons (ce_var 0) (ca_cons (ce_var 1) ca_nil))))))
/-! poly_slope -/
abbrev s_poly_slope : Stmt := top 27
abbrev N_poly_slope : List Str := ["p", "one", "at", "number"]
theorem sc_poly_slope : FnScope N_poly_slope ["p", "one"] (defScope s_poly_slope) := ⟨rfl, rfl, rfl, by decide +kernel, rfl, by decide +kernel, by decide +kernel⟩
def b_poly_slope : S → Option Out := (sRet [] (xCall m_poly_trimmed (xCons (xSl (xComp (xi dEnum (xCons (xVar 1) xNil)) (bPair 2 3) [2, 3] xYes (xOp dMod (xOp dMul (xVar 2) (xVar 3)) (xVar 0))) (xoS (xC (.int 1))) xoN) xNil)))
def m_poly_slope : List D → Option FR := defM 2 4 b_poly_slope
theorem ok_poly_slope (B : Bi mg) (F : Def0 K mg "poly_slope" s_poly_slope ["p", "one"]) (K_poly_trimmed : Cal P w K mg base T "poly_trimmed" 1 ["numbers"] m_poly_trimmed) : Cal P w K mg base T "poly_slope" 2 ["p", "one"] m_poly_slope :=
  cal_mirror (own := []) (k := 1) (g := (sRet [] (xCall m_poly_trimmed (xCons (xSl (xComp (xi dEnum (xCons (xVar 1) xNil)) (bPair 2 3) [2, 3] xYes (xOp dMod (xOp dMul (xVar 2) (xVar 3)) (xVar 0))) (xoS (xC (.int 1))) xoN) xNil)))) F sc_poly_slope (by decide) (by decide) rfl rfl fun f cdv A outer s H E hr => (css_one (cs_ret [] (ce_cal K_poly_trimmed (Nat.le_of_ble_eq_true rfl) (fun _ => passL) (ca_cons (ce_sl (ce_comp N_poly_slope (defScope s_poly_slope) [("at", 2), ("number", 3)] (ci_enum (ca_cons (ce_var 1) ca_nil) B.enumerate) (cg_pair 2 3 (fun _ => sc_poly_slope.nd)) cts_nil (ce_mod (ce_mul (ce_var 2) (ce_var 3)) (ce_var 0)) (hNd := fun _ => sc_poly_slope.nd)) (co_s ce_int) co_n) ca_nil))))
/-! is_curve_polynomial -/
abbrev s_is_curve_polynomial : Stmt := top 30
abbrev N_is_curve_polynomial : List Str := ["p", "f"]
theorem sc_is_curve_polynomial : FnScope N_is_curve_polynomial ["p", "f"] (defScope s_is_curve_polynomial) := ⟨rfl, rfl, rfl, by decide +kernel, rfl, by decide +kernel, by decide +kernel⟩
def b_is_curve_polynomial : S → Option Out := (sSeq (sIf (xtOr (xtNot (xTru (xCall m_is_polynomial (xCons (xVar 0) (xCons (xVar 1) xNil))))) (xtOr (xBl (xOp (dIn true) (xOp dSub (xB (on1 dLen) (xCons (xVar 1) xNil)) (xC (.int 1))) (xC d_POWERS))) (xBl (xOp (dNe) (xOp dIx (xVar 1) (xUn dNeg (xC (.int 1)))) (xC (.int 1)))))) (sRet [] (xC (.bl false))) sNil) (sRet [] (xOp (dEq) (xCall m_poly_common (xCons (xVar 0) (xCons (xVar 1) (xCons (xCall m_poly_slope (xCons (xVar 0) (xCons (xVar 1) xNil))) xNil)))) (xLst (xCons (xC (.int 1)) xNil)))))
def m_is_curve_polynomial : List D → Option FR := defM 2 2 b_is_curve_polynomial
theorem ok_is_curve_polynomial (B : Bi mg) (F : Def0 K mg "is_curve_polynomial" s_is_curve_polynomial ["p", "f"]) (K_is_polynomial : Cal P w K mg base T "is_polynomial" 3 ["p", "value"] m_is_polynomial) (K_poly_slope : Cal P w K mg base T "poly_slope" 2 ["p", "one"] m_poly_slope) (K_poly_common : Cal P w K mg base T "poly_common" 3 ["p", "one", "other"] m_poly_common) (C_POWERS : Con0 K T mg "POWERS" d_POWERS) : Cal P w K mg base T "is_curve_polynomial" 4 ["p", "f"] m_is_curve_polynomial :=
  cal_mirror (own := []) (k := 3) (g := (sSeq (sIf (xtOr (xtNot (xTru (xCall m_is_polynomial (xCons (xVar 0) (xCons (xVar 1) xNil))))) (xtOr (xBl (xOp (dIn true) (xOp dSub (xB (on1 dLen) (xCons (xVar 1) xNil)) (xC (.int 1))) (xC d_POWERS))) (xBl (xOp (dNe) (xOp dIx (xVar 1) (xUn dNeg (xC (.int 1)))) (xC (.int 1)))))) (sRet [] (xC (.bl false))) sNil) (sRet [] (xOp (dEq) (xCall m_poly_common (xCons (xVar 0) (xCons (xVar 1) (xCons (xCall m_poly_slope (xCons (xVar 0) (xCons (xVar 1) xNil))) xNil)))) (xLst (xCons (xC (.int 1)) xNil)))))) F sc_is_curve_polynomial (by decide) (by decide) rfl rfl fun f cdv A outer s H E hr => (css_cons (cs_if (cw_ct (cw_or (ct_not (ct_tru (ce_cal K_is_polynomial (Nat.le_of_ble_eq_true rfl) (fun _ => passL) (ca_cons (ce_var 0) (ca_cons (ce_var 1) ca_nil))))) (cw_or (ct_nin (ce_sub (ce_len B (ca_cons (ce_var 1) ca_nil)) ce_int) (ce_con C_POWERS)) (cw_or1 (ct_ne (ce_ix (ce_var 1) (ce_neg ce_int)) ce_int))))) (css_one (cs_ret [] ce_bl)) css_nil) (css_one (cs_ret [] (ce_eq (ce_cal K_poly_common (Nat.le_of_ble_eq_true rfl) (fun _ => passL) (ca_cons (ce_var 0) (ca_cons (ce_var 1) (ca_cons (ce_cal K_poly_slope (Nat.le_of_ble_eq_true rfl) (fun _ => passL) (ca_cons (ce_var 0) (ca_cons (ce_var 1) ca_nil))) ca_nil)))) (ce_lst (ca_cons ce_int ca_nil))))))
/-! check_prime -/
abbrev s_check_prime : Stmt := top 14
abbrev N_check_prime : List Str := ["p"]
theorem sc_check_prime : FnScope N_check_prime ["p"] (defScope s_check_prime) := ⟨rfl, rfl, rfl, by decide +kernel, rfl, by decide +kernel, by decide +kernel⟩
def b_check_prime : S → Option Out := (sIf (xtOr (xtNot (xTru (xCall m_is_whole (xCons (xVar 0) xNil)))) (xBl (xOp (dIn true) (xVar 0) (xC d_PRIMES)))) (sRaise c_InvalidPrime [] (xVar 0)) sNil)
def m_check_prime : List D → Option FR := defM 1 1 b_check_prime
theorem ok_check_prime (B : Bi mg) (F : Def0 K mg "check_prime" s_check_prime ["p"]) (K_is_whole : Cal P w K mg base T "is_whole" 1 ["value"] m_is_whole) (C_PRIMES : Con0 K T mg "PRIMES" d_PRIMES) (R_InvalidPrime : Err P w K mg base "InvalidPrime" (T.exc c_InvalidPrime)) : Cal P w K mg base T "check_prime" 3 ["p"] m_check_prime :=
  cal_mirror (own := []) (k := 2) (g := (sIf (xtOr (xtNot (xTru (xCall m_is_whole (xCons (xVar 0) xNil)))) (xBl (xOp (dIn true) (xVar 0) (xC d_PRIMES)))) (sRaise c_InvalidPrime [] (xVar 0)) sNil)) F sc_check_prime (by decide) (by decide) rfl rfl fun f cdv A outer s H E hr => (css_one (cs_if (cw_ct (cw_or (ct_not (ct_tru (ce_cal K_is_whole (Nat.le_of_ble_eq_true rfl) (fun _ => passL) (ca_cons (ce_var 0) ca_nil)))) (cw_or1 (ct_nin (ce_var 0) (ce_con C_PRIMES))))) (css_one (cs_raise (c_InvalidPrime) R_InvalidPrime.1 (ce_var 0) (fun _ => R_InvalidPrime.2 _ rfl rfl rfl rfl rfl (hr.mono (by decide)) rfl) (fun _ => takes_of rfl rfl rfl rfl))) css_nil))
/-! Curve.__init__ -/
abbrev s_Curve___init__ : Stmt := meth 31 0
abbrev N_Curve___init__ : List Str := ["self", "p", "f"]
theorem sc_Curve___init__ : FnScope N_Curve___init__ ["self", "p", "f"] (defScope s_Curve___init__) := ⟨rfl, rfl, rfl, by decide +kernel, rfl, by decide +kernel, by decide +kernel⟩
def b_Curve___init__ : S → List D → Option FR := (iSt (sCallX m_check_prime [0] (xCons (xVar 1) xNil)) (iSt (sIf (xtNot (xTru (xCall m_is_curve_polynomial (xCons (xVar 1) (xCons (xVar 2) xNil))))) (sRaise c_InvalidPolynomial [0] (xVar 2)) sNil) (iFld (xVar 1) (iFld (xB (on1 dTuple) (xCons (xVar 2) xNil)) (iNil 0)))))
def m_Curve___init__ : List D → Option FR := defI 3 3 b_Curve___init__
theorem ok_Curve___init__ (B : Bi mg) (F : DefI K T mg 0 "Curve" "Curve.__init__" s_Curve___init__ ["self", "p", "f"]) (K_check_prime : Cal P w K mg base T "check_prime" 3 ["p"] m_check_prime) (K_is_curve_polynomial : Cal P w K mg base T "is_curve_polynomial" 4 ["p", "f"] m_is_curve_polynomial) (R_InvalidPolynomial : Err P w K mg base "InvalidPolynomial" (T.exc c_InvalidPolynomial)) (O_Curve : ClsOk K T 0 ns_Curve) : CalK P w K mg base T 0 "Curve" 5 ["self", "p", "f"] m_Curve___init__ :=
  calk_mirror (k := 4) (M := (iSt (sCallX m_check_prime [0] (xCons (xVar 1) xNil)) (iSt (sIf (xtNot (xTru (xCall m_is_curve_polynomial (xCons (xVar 1) (xCons (xVar 2) xNil))))) (sRaise c_InvalidPolynomial [0] (xVar 2)) sNil) (iFld (xVar 1) (iFld (xB (on1 dTuple) (xCons (xVar 2) xNil)) (iNil 0)))))) F sc_Curve___init__ (by decide) (by decide) rfl rfl fun f cdv A outer s H E hr => (csi_st (cs_calX K_check_prime (Nat.le_of_ble_eq_true rfl) (fun _ => passes_call (takes_of rfl rfl rfl rfl) (fun _ _ _ _ h => h)) (ca_cons (ce_var 1) ca_nil)) (csi_st (cs_if (ct_not (ct_tru (ce_cal K_is_curve_polynomial (Nat.le_of_ble_eq_true rfl) (fun _ => passL) (ca_cons (ce_var 1) (ca_cons (ce_var 2) ca_nil))))) (css_one (cs_raise (c_InvalidPolynomial) R_InvalidPolynomial.1 (ce_var 2) (fun _ => R_InvalidPolynomial.2 _ rfl rfl rfl rfl rfl (hr.mono (by decide)) rfl) (fun _ => takes_of rfl rfl rfl rfl))) css_nil) (csi_fld O_Curve (ce_var 1) (csi_fld O_Curve (ce_tupleC B (ca_cons (ce_var 2) ca_nil)) (csi_nil O_Curve)))))
theorem fn_Curve___init__ (B : Bi mg) {ad : Addr} {fd : FuncData} (U : Fun K "__init__" "Curve.__init__" s_Curve___init__ ad fd) (K_check_prime : Cal P w K mg base T "check_prime" 3 ["p"] m_check_prime) (K_is_curve_polynomial : Cal P w K mg base T "is_curve_polynomial" 4 ["p", "f"] m_is_curve_polynomial) (R_InvalidPolynomial : Err P w K mg base "InvalidPolynomial" (T.exc c_InvalidPolynomial)) (O_Curve : ClsOk K T 0 ns_Curve) : FnOk P w K mg base (L2.CX P w) 5 ad fd ["self", "p", "f"] (spI K T 0 m_Curve___init__) :=
  init_mirror (k := 4) (M := (iSt (sCallX m_check_prime [0] (xCons (xVar 1) xNil)) (iSt (sIf (xtNot (xTru (xCall m_is_curve_polynomial (xCons (xVar 1) (xCons (xVar 2) xNil))))) (sRaise c_InvalidPolynomial [0] (xVar 2)) sNil) (iFld (xVar 1) (iFld (xB (on1 dTuple) (xCons (xVar 2) xNil)) (iNil 0)))))) U sc_Curve___init__ (by decide) (by decide) fun cdv A outer s H E hr => (csi_st (cs_calX K_check_prime (Nat.le_of_ble_eq_true rfl) (fun _ => passes_call (takes_of rfl rfl rfl rfl) (fun _ _ _ _ h => h)) (ca_cons (ce_var 1) ca_nil)) (csi_st (cs_if (ct_not (ct_tru (ce_cal K_is_curve_polynomial (Nat.le_of_ble_eq_true rfl) (fun _ => passL) (ca_cons (ce_var 1) (ca_cons (ce_var 2) ca_nil))))) (css_one (cs_raise (c_InvalidPolynomial) R_InvalidPolynomial.1 (ce_var 2) (fun _ => R_InvalidPolynomial.2 _ rfl rfl rfl rfl rfl (hr.mono (by decide)) rfl) (fun _ => takes_of rfl rfl rfl rfl))) css_nil) (csi_fld O_Curve (ce_var 1) (csi_fld O_Curve (ce_tupleC B (ca_cons (ce_var 2) ca_nil)) (csi_nil O_Curve)))))
/-! Curve.prime -/
abbrev s_Curve_prime : Stmt := meth 31 1
abbrev N_Curve_prime : List Str := ["self"]
theorem sc_Curve_prime : FnScope N_Curve_prime ["self"] (defScope s_Curve_prime) := ⟨rfl, rfl, rfl, by decide +kernel, rfl, by decide +kernel, by decide +kernel⟩
def b_Curve_prime : S → Option Out := (sRet [] (xUn (dFld 0 ns_Curve "_prime") (xVar 0)))
def m_Curve_prime : List D → Option FR := defM 1 1 b_Curve_prime
theorem ok_Curve_prime (B : Bi mg) (F : DefM K T 0 "prime" "Curve.prime" s_Curve_prime ["self"]) (O_Curve : ClsOk K T 0 ns_Curve) : CalM P w K mg base T 0 "prime" 1 ["self"] m_Curve_prime :=
  calm_mirror (own := []) (k := 0) (g := (sRet [] (xUn (dFld 0 ns_Curve "_prime") (xVar 0)))) F sc_Curve_prime (by decide) (by decide) rfl rfl fun f cdv A outer s H E hr => (css_one (cs_ret [] (ce_fld O_Curve (ce_var 0))))
/-! Curve.polynomial -/
abbrev s_Curve_polynomial : Stmt := meth 31 2
abbrev N_Curve_polynomial : List Str := ["self"]
theorem sc_Curve_polynomial : FnScope N_Curve_polynomial ["self"] (defScope s_Curve_polynomial) := ⟨rfl, rfl, rfl, by decide +kernel, rfl, by decide +kernel, by decide +kernel⟩
def b_Curve_polynomial : S → Option Out := (sRet [] (xB (on1 dList) (xCons (xUn (dFld 0 ns_Curve "_numbers") (xVar 0)) xNil)))
def m_Curve_polynomial : List D → Option FR := defM 1 1 b_Curve_polynomial
theorem ok_Curve_polynomial (B : Bi mg) (F : DefM K T 0 "polynomial" "Curve.polynomial" s_Curve_polynomial ["self"]) (O_Curve : ClsOk K T 0 ns_Curve) : CalM P w K mg base T 0 "polynomial" 1 ["self"] m_Curve_polynomial :=
  calm_mirror (own := []) (k := 0) (g := (sRet [] (xB (on1 dList) (xCons (xUn (dFld 0 ns_Curve "_numbers") (xVar 0)) xNil)))) F sc_Curve_polynomial (by decide) (by decide) rfl rfl fun f cdv A outer s H E hr => (css_one (cs_ret [] (ce_listC B (ca_cons (ce_fld O_Curve (ce_var 0)) ca_nil))))
def nb_Curve_polynomial : XN := (nList (xUn (dFld 0 ns_Curve "_numbers") (xVar 0)))
def mN_Curve_polynomial : List D → Option (List D) := defN 1 1 nb_Curve_polynomial
theorem okN_Curve_polynomial (B : Bi mg) (F : DefM K T 0 "polynomial" "Curve.polynomial" s_Curve_polynomial ["self"]) (O_Curve : ClsOk K T 0 ns_Curve) : CalMN P w K mg base T 0 "polynomial" 1 ["self"] mN_Curve_polynomial :=
  calmn_mirror (k := 0) (fn := (nList (xUn (dFld 0 ns_Curve "_numbers") (xVar 0)))) F sc_Curve_polynomial rfl rfl rfl fun f cdv A outer s H E hr => (cn_list rfl (ce_fld O_Curve (ce_var 0)) B.list)
/-! Curve.genus -/
abbrev s_Curve_genus : Stmt := meth 31 3
abbrev N_Curve_genus : List Str := ["self"]
theorem sc_Curve_genus : FnScope N_Curve_genus ["self"] (defScope s_Curve_genus) := ⟨rfl, rfl, rfl, by decide +kernel, rfl, by decide +kernel, by decide +kernel⟩
def b_Curve_genus : S → Option Out := (sRet [] (xOp dFdiv (xOp dSub (xB (on1 dLen) (xCons (xUn (dFld 0 ns_Curve "_numbers") (xVar 0)) xNil)) (xC (.int 2))) (xC (.int 2))))
def m_Curve_genus : List D → Option FR := defM 1 1 b_Curve_genus
theorem ok_Curve_genus (B : Bi mg) (F : DefM K T 0 "genus" "Curve.genus" s_Curve_genus ["self"]) (O_Curve : ClsOk K T 0 ns_Curve) : CalM P w K mg base T 0 "genus" 1 ["self"] m_Curve_genus :=
  calm_mirror (own := []) (k := 0) (g := (sRet [] (xOp dFdiv (xOp dSub (xB (on1 dLen) (xCons (xUn (dFld 0 ns_Curve "_numbers") (xVar 0)) xNil)) (xC (.int 2))) (xC (.int 2))))) F sc_Curve_genus (by decide) (by decide) rfl rfl fun f cdv A outer s H E hr => (css_one (cs_ret [] (ce_fdiv (ce_sub (ce_len B (ca_cons (ce_fld O_Curve (ce_var 0)) ca_nil)) ce_int) ce_int)))
/-! Curve.__eq__ -/
abbrev s_Curve___eq__ : Stmt := meth 31 4
abbrev N_Curve___eq__ : List Str := ["self", "other"]
theorem sc_Curve___eq__ : FnScope N_Curve___eq__ ["self", "other"] (defScope s_Curve___eq__) := ⟨rfl, rfl, rfl, by decide +kernel, rfl, by decide +kernel, by decide +kernel⟩
def b_Curve___eq__ : S → Option Out := (sRet [] (xAnd (xUn (dIsO 0) (xVar 1)) (xAnd (xOp (dEq) (xUn (dFld 0 ns_Curve "_prime") (xVar 0)) (xUn (dFld 0 ns_Curve "_prime") (xVar 1))) (xOp (dEq) (xUn (dFld 0 ns_Curve "_numbers") (xVar 0)) (xUn (dFld 0 ns_Curve "_numbers") (xVar 1))))))
def m_Curve___eq__ : List D → Option FR := defM 2 2 b_Curve___eq__
theorem ok_Curve___eq__ (B : Bi mg) (F : DefM K T 0 "__eq__" "Curve.__eq__" s_Curve___eq__ ["self", "other"]) (O_Curve : ClsOk K T 0 ns_Curve) (HC_Curve : mg "Curve" = some (.ref (T.cls 0))) : CalM P w K mg base T 0 "__eq__" 1 ["self", "other"] m_Curve___eq__ :=
  calm_mirror (own := []) (k := 0) (g := (sRet [] (xAnd (xUn (dIsO 0) (xVar 1)) (xAnd (xOp (dEq) (xUn (dFld 0 ns_Curve "_prime") (xVar 0)) (xUn (dFld 0 ns_Curve "_prime") (xVar 1))) (xOp (dEq) (xUn (dFld 0 ns_Curve "_numbers") (xVar 0)) (xUn (dFld 0 ns_Curve "_numbers") (xVar 1))))))) F sc_Curve___eq__ (by decide) (by decide) rfl rfl fun f cdv A outer s H E hr => (css_one (cs_ret [] (ce_and (ce_isO O_Curve HC_Curve (ce_var 1) B.isinstance) (ce_and (ce_eq (ce_fld O_Curve (ce_var 0)) (ce_fld O_Curve (ce_var 1))) (ce_one (ce_eq (ce_fld O_Curve (ce_var 0)) (ce_fld O_Curve (ce_var 1))))))))
/-! _law_hash -/
abbrev s_Lhash : Stmt := top 33
abbrev N_Lhash : List Str := ["_law_seed", "_law_index", "_law_mixed"]
theorem sc_Lhash : FnScope N_Lhash ["_law_seed", "_law_index"] (defScope s_Lhash) := ⟨rfl, rfl, rfl, by decide +kernel, rfl, by decide +kernel, by decide +kernel⟩
def b_Lhash : S → Option Out := (sSeq (sSet [] 2 (xOp dMod (xB (on1 dInt) (xCons (xOp dAdd (xOp dAdd (xOp dAdd (xOp dMul (xVar 0) (xC (.int 1140671))) (xOp dMul (xOp dMul (xC (.int 27644437)) (xVar 1)) (xVar 1))) (xOp dMul (xC (.int 131)) (xVar 1))) (xC (.int 19))) xNil)) (xC (.int 2147483629)))) (sSeq (sSet [] 2 (xOp dMod (xB (on1 dInt) (xCons (xOp dAdd (xOp dAdd (xOp dMul (xVar 2) (xVar 2)) (xOp dMul (xC (.int 62089)) (xVar 1))) (xC (.int 32416187))) xNil)) (xC (.int 2147483587)))) (sRet [] (xOp dMod (xB (on1 dInt) (xCons (xOp dMul (xVar 2) (xC (.int 48271))) xNil)) (xC (.int 2147483647))))))
def m_Lhash : List D → Option FR := defM 2 3 b_Lhash
theorem ok_Lhash (B : Bi mg) (F : Def0 K mg "_law_hash" s_Lhash ["_law_seed", "_law_index"])  : Cal P w K mg base T "_law_hash" 1 ["_law_seed", "_law_index"] m_Lhash :=
  cal_mirror (own := []) (k := 0) (g := (sSeq (sSet [] 2 (xOp dMod (xB (on1 dInt) (xCons (xOp dAdd (xOp dAdd (xOp dAdd (xOp dMul (xVar 0) (xC (.int 1140671))) (xOp dMul (xOp dMul (xC (.int 27644437)) (xVar 1)) (xVar 1))) (xOp dMul (xC (.int 131)) (xVar 1))) (xC (.int 19))) xNil)) (xC (.int 2147483629)))) (sSeq (sSet [] 2 (xOp dMod (xB (on1 dInt) (xCons (xOp dAdd (xOp dAdd (xOp dMul (xVar 2) (xVar 2)) (xOp dMul (xC (.int 62089)) (xVar 1))) (xC (.int 32416187))) xNil)) (xC (.int 2147483587)))) (sRet [] (xOp dMod (xB (on1 dInt) (xCons (xOp dMul (xVar 2) (xC (.int 48271))) xNil)) (xC (.int 2147483647))))))) F sc_Lhash (by decide) (by decide) rfl rfl fun f cdv A outer s H E hr => (css_cons (cs_set 2 (ce_mod (ce_intC B (ca_cons (ce_add (ce_add (ce_add (ce_mul (ce_var 0) ce_int) (ce_mul (ce_mul ce_int (ce_var 1)) (ce_var 1))) (ce_mul ce_int (ce_var 1))) ce_int) ca_nil)) ce_int) (fun _ => sc_Lhash.nd)) (css_cons (cs_set 2 (ce_mod (ce_intC B (ca_cons (ce_add (ce_add (ce_mul (ce_var 2) (ce_var 2)) (ce_mul ce_int (ce_var 1))) ce_int) ca_nil)) ce_int) (fun _ => sc_Lhash.nd)) (css_one (cs_ret [] (ce_mod (ce_intC B (ca_cons (ce_mul (ce_var 2) ce_int) ca_nil)) ce_int)))))
/-! _law_random -/
abbrev s_Lrandom : Stmt := top 34
abbrev N_Lrandom : List Str := ["_law_generator_here", "_law_bound", "_law_drawn", "_law_turn"]
theorem sc_Lrandom : FnScope N_Lrandom ["_law_generator_here", "_law_bound"] (defScope s_Lrandom) := ⟨rfl, rfl, rfl, by decide +kernel, rfl, by decide +kernel, by decide +kernel⟩
def b_Lrandom : S → Option Out := (sSeq (sIf (xBl (xOp (dCmp pGt) (xOp dIx (xVar 0) (xC (.int 0))) (xC (.int 0)))) (sSeq (sSetC 2 (xOp dMod (xB (on1 dInt) (xCons (xOp dIx (xVar 0) (xC (.int 0))) xNil)) (xVar 1))) (sSeq (sStoC 0 (xC (.int 0)) (xOp dFdiv (xOp dIx (xVar 0) (xC (.int 0))) (xVar 1))) (sRet [0] (xVar 2)))) sNil) (sSeq (sSet [0] 2 (xC (.int 0))) (sSeq (sFor [0] (xi dRng1 (xCons (xOp dAdd (xC (.int 1)) (xOp dFdiv (xUn dBits (xVar 1)) (xC (.int 30)))) xNil)) (bName 3) (sSeq (sStoC 0 (xC (.int 2)) (xOp dAdd (xOp dIx (xVar 0) (xC (.int 2))) (xC (.int 1)))) (sSetC 2 (xOp dAdd (xOp dMul (xVar 2) (xC (.int 2147483587))) (xCall m_Lhash (xCons (xOp dIx (xVar 0) (xC (.int 1))) (xCons (xOp dIx (xVar 0) (xC (.int 2))) xNil))))))) (sRet [0] (xOp dMod (xB (on1 dInt) (xCons (xVar 2) xNil)) (xVar 1))))))
def m_Lrandom : List D → List D → Option (D × List D) := defG 2 4 b_Lrandom
theorem ok_Lrandom (B : Bi mg) (F : Def0 K mg "_law_random" s_Lrandom ["_law_generator_here", "_law_bound"]) (K_Lhash : Cal P w K mg base T "_law_hash" 1 ["_law_seed", "_law_index"] m_Lhash) : CalG P w K mg base T "_law_random" 2 ["_law_generator_here", "_law_bound"] m_Lrandom :=
  cal_mirrorG (oth := []) (k := 1) (g := (sSeq (sIf (xBl (xOp (dCmp pGt) (xOp dIx (xVar 0) (xC (.int 0))) (xC (.int 0)))) (sSeq (sSetC 2 (xOp dMod (xB (on1 dInt) (xCons (xOp dIx (xVar 0) (xC (.int 0))) xNil)) (xVar 1))) (sSeq (sStoC 0 (xC (.int 0)) (xOp dFdiv (xOp dIx (xVar 0) (xC (.int 0))) (xVar 1))) (sRet [0] (xVar 2)))) sNil) (sSeq (sSet [0] 2 (xC (.int 0))) (sSeq (sFor [0] (xi dRng1 (xCons (xOp dAdd (xC (.int 1)) (xOp dFdiv (xUn dBits (xVar 1)) (xC (.int 30)))) xNil)) (bName 3) (sSeq (sStoC 0 (xC (.int 2)) (xOp dAdd (xOp dIx (xVar 0) (xC (.int 2))) (xC (.int 1)))) (sSetC 2 (xOp dAdd (xOp dMul (xVar 2) (xC (.int 2147483587))) (xCall m_Lhash (xCons (xOp dIx (xVar 0) (xC (.int 1))) (xCons (xOp dIx (xVar 0) (xC (.int 2))) xNil))))))) (sRet [0] (xOp dMod (xB (on1 dInt) (xCons (xVar 2) xNil)) (xVar 1))))))) F sc_Lrandom (by decide) (by decide) (by decide) rfl rfl fun f cdv A outer s H E hr => (css_cons (cs_if (ct_gt (ce_ix (ce_var 0) ce_int) ce_int) (css_cons (cs_setC 2 (ce_mod (ce_intC B (ca_cons (ce_ix (ce_var 0) ce_int) ca_nil)) (ce_var 1)) (fun _ => sc_Lrandom.nd)) (css_cons (cs_stoC 0 (ce_fdiv (ce_ix (ce_var 0) ce_int) (ce_var 1)) ce_int) (css_one (cs_ret [] (ce_var 2))))) css_nil) (css_cons (cs_set 2 ce_int (fun _ => sc_Lrandom.nd)) (css_cons (cs_for (ci_rng1 (ca_cons (ce_add ce_int (ce_fdiv (ce_bits (ce_var 1)) ce_int)) ca_nil) B.range) (cgs_name 3 (fun _ => sc_Lrandom.nd)) (css_cons (cs_stoC 0 (ce_add (ce_ix (ce_var 0) ce_int) ce_int) ce_int) (css_one (cs_setC 2 (ce_add (ce_mul (ce_var 2) ce_int) (ce_cal K_Lhash (Nat.le_of_ble_eq_true rfl) (fun _ => passL) (ca_cons (ce_ix (ce_var 0) ce_int) (ca_cons (ce_ix (ce_var 0) ce_int) ca_nil)))) (fun _ => sc_Lrandom.nd)))) (fun _ => passes_of rfl)) (css_one (cs_ret [] (ce_mod (ce_intC B (ca_cons (ce_var 2) ca_nil)) (ce_var 1)))))))
/-! _law_cell -/
abbrev s_L_cell : Stmt := top 35
theorem sc_L_cell : FnScope ["_law_script", "_law_index"] ["_law_script", "_law_index"] (defScope s_L_cell) := ⟨rfl, rfl, rfl, by decide +kernel, rfl, by decide +kernel, by decide +kernel⟩
theorem ok_L_cell (B : Bi mg) (F : Def0 K mg "_law_cell" s_L_cell ["_law_script", "_law_index"]) : CalS P w K mg base "_law_cell" 1 ["_law_script", "_law_index"] (spCellS K) :=
  cal_cell F sc_L_cell rfl fun f cdv A outer s H E hr i =>
    pss_cons (ps_if (pt_cmp (pc_lt (pe_var (i := 1) rfl (Or.inl rfl)) (pe_callB call_len_seq rfl B.len PySem.boot_len (pa_cons (pe_var (i := 0) rfl (Or.inl rfl)) pa_nil))))
      (pss_cons (ps_ret (pe_ix ix_seq (pe_var (i := 0) rfl (Or.inl rfl)) (pe_var (i := 1) rfl (Or.inl rfl)) fun _ _ => rfl)) pss_nil) pss_nil)
    (pss_cons (ps_ret (pe_op op_mod (pe_callB (cr_sum rfl) rfl B.sum (by decide +kernel) (pa_cons (pe_slice sl_list (pe_var (i := 0) rfl (Or.inl rfl)) po_none (po_some pe_int)) pa_nil)) pe_int)) pss_nil)

/-! _law_generator -/
abbrev s_L_generator : Stmt := top 36
theorem sc_L_generator : FnScope ["_law_script", "_law_index", "_law_seed"] ["_law_script", "_law_index"] (defScope s_L_generator) := ⟨rfl, rfl, rfl, by decide +kernel, rfl, by decide +kernel, by decide +kernel⟩
theorem ok_L_generator (B : Bi mg) (F : Def0 K mg "_law_generator" s_L_generator ["_law_script", "_law_index"]) (C : CalS P w K mg base "_law_cell" 1 ["_law_script", "_law_index"] (spCellS K)) : CalS P w K mg base "_law_generator" 2 ["_law_script", "_law_index"] (fun vs H Q E => (∃ l, ∃ j : Nat, vs = [l, .int (j : Nat)] ∧ j < 1000) ∧ spGenS K glD vs H Q E) := by
  obtain ⟨ac, fc, Fc, hmc, hkc, hbc⟩ := C
  exact cal_gen (T := ⟨fun _ => 0, fun _ => [], fun _ => 0⟩) F sc_L_generator rfl rfl rfl Mr.gen_eq
    (fun f cdv A outer s H E hr i => ps_set sc_L_generator.nd rfl (Or.inl rfl) (pe_call Fc hr rfl hmc hkc hbc .nil passL (pa_cons (pe_var (i := 0) rfl (Or.inl rfl)) (pa_cons (pe_var (i := 1) rfl (Or.inl rfl)) pa_nil))))
    (fun f cdv A outer s H E hr => (css_one (cs_ret [] (ce_lst (ca_cons (ce_mod (ce_intC B (ca_cons (ce_maxC B (ca_cons (ce_sub (ce_var 2) (ce_powB ce_int ce_int)) (ca_cons ce_int ca_nil))) ca_nil)) (ce_powB (ce_powB ce_int ce_int) ce_int)) (ca_cons (ce_mod (ce_intC B (ca_cons (ce_var 2) ca_nil)) ce_int) (ca_cons (ce_mul ce_int (ce_var 1)) ca_nil)))))))

/-! _law_prime -/
abbrev s_Lprime : Stmt := top 37
abbrev N_Lprime : List Str := ["_law_generator_here"]
theorem sc_Lprime : FnScope N_Lprime ["_law_generator_here"] (defScope s_Lprime) := ⟨rfl, rfl, rfl, by decide +kernel, rfl, by decide +kernel, by decide +kernel⟩
def b_Lprime : S → Option Out := (sRetZ 0 (zOp 0 dIx (zPure [0] 0 (xLst (xCons (xC (.int 3)) (xCons (xC (.int 5)) (xCons (xC (.int 7)) (xCons (xC (.int 11)) (xCons (xC (.int 13)) xNil))))))) (zDraw 0 m_Lrandom (zCons 0 (zPure [0] 0 (xC (.int 5))) (zNil 0)))))
def m_Lprime : List D → List D → Option (D × List D) := defG 1 1 b_Lprime
theorem ok_Lprime (B : Bi mg) (F : Def0 K mg "_law_prime" s_Lprime ["_law_generator_here"]) (K_Lrandom : CalG P w K mg base T "_law_random" 2 ["_law_generator_here", "_law_bound"] m_Lrandom) : CalG P w K mg base T "_law_prime" 3 ["_law_generator_here"] m_Lprime :=
  cal_mirrorG (oth := []) (k := 2) (g := (sRetZ 0 (zOp 0 dIx (zPure [0] 0 (xLst (xCons (xC (.int 3)) (xCons (xC (.int 5)) (xCons (xC (.int 7)) (xCons (xC (.int 11)) (xCons (xC (.int 13)) xNil))))))) (zDraw 0 m_Lrandom (zCons 0 (zPure [0] 0 (xC (.int 5))) (zNil 0)))))) F sc_Lprime (by decide) (by decide) (by decide) rfl rfl fun f cdv A outer s H E hr => (css_one (cs_retZ [] (ces_ix (ces_pure (ce_lst (ca_cons ce_int (ca_cons ce_int (ca_cons ce_int (ca_cons ce_int (ca_cons ce_int ca_nil))))))) (ces_draw K_Lrandom (Nat.le_of_ble_eq_true rfl) (fun _ => passL) (cas_cons (ces_pure ce_int) cas_nil)))))
/-! _law_trim -/
abbrev s_Ltrim : Stmt := top 38
abbrev N_Ltrim : List Str := ["_law_p", "_law_numbers", "_law_found", "_law_number"]
theorem sc_Ltrim : FnScope N_Ltrim ["_law_p", "_law_numbers"] (defScope s_Ltrim) := ⟨rfl, rfl, rfl, by decide +kernel, rfl, by decide +kernel, by decide +kernel⟩
def b_Ltrim : S → Option Out := (sSeq (sSetO [2] 2 (nComp (xiL (xVar 1)) (bName 3) [3] xYes (xOp dMod (xB (on1 dInt) (xCons (xVar 3) xNil)) (xVar 0)))) (sSeq (whileM (xtAnd (xBl (xOp (dNe) (xVar 2) (xLst xNil))) (xBl (xOp (dEq) (xOp dIx (xVar 2) (xUn dNeg (xC (.int 1)))) (xC (.int 0))))) (sPop 2) 100000) (sRet [] (xVar 2))))
def m_Ltrim : List D → Option FR := defM 2 4 b_Ltrim
theorem ok_Ltrim (B : Bi mg) (F : Def0 K mg "_law_trim" s_Ltrim ["_law_p", "_law_numbers"])  : Cal P w K mg base T "_law_trim" 1 ["_law_p", "_law_numbers"] m_Ltrim :=
  cal_mirror (own := [2]) (k := 0) (g := (sSeq (sSetO [2] 2 (nComp (xiL (xVar 1)) (bName 3) [3] xYes (xOp dMod (xB (on1 dInt) (xCons (xVar 3) xNil)) (xVar 0)))) (sSeq (whileM (xtAnd (xBl (xOp (dNe) (xVar 2) (xLst xNil))) (xBl (xOp (dEq) (xOp dIx (xVar 2) (xUn dNeg (xC (.int 1)))) (xC (.int 0))))) (sPop 2) 100000) (sRet [] (xVar 2))))) F sc_Ltrim (by decide) (by decide) rfl rfl fun f cdv A outer s H E hr => (css_cons (cs_setLcO 2 N_Ltrim (defScope s_Ltrim) [("_law_number", 3)] (ci_list (ce_var 1)) (cg_name 3 (fun _ => sc_Ltrim.nd)) cts_nil (ce_mod (ce_intC B (ca_cons (ce_var 3) ca_nil)) (ce_var 0)) (hNd := (fun _ => sc_Ltrim.nd))) (css_cons (cs_while 100000 (cw_ct (cw_and (ct_ne (ce_var 2) (ce_lst ca_nil)) (cw_and1 (ct_eq (ce_ix (ce_var 2) (ce_neg ce_int)) ce_int)))) (css_one (cs_pop 2)) (fun _ => passes_of rfl)) (css_one (cs_ret [2] (ce_var 2)))))
/-! _law_plus -/
abbrev s_Lplus : Stmt := top 39
abbrev N_Lplus : List Str := ["_law_p", "_law_one", "_law_other", "_law_factor", "_law_size", "_law_low", "_law_high", "_law_at"]
theorem sc_Lplus : FnScope N_Lplus ["_law_p", "_law_one", "_law_other", "_law_factor"] (defScope s_Lplus) := ⟨rfl, rfl, rfl, by decide +kernel, rfl, by decide +kernel, by decide +kernel⟩
def b_Lplus : S → Option Out := (sSeq (sSet [] 4 (xB (on2 dMax) (xCons (xB (on1 dLen) (xCons (xVar 1) xNil)) (xCons (xB (on1 dLen) (xCons (xVar 2) xNil)) xNil)))) (sSeq (sAsgT [] (bPair 5 6) (xTup (xCons (xOp dAdd (xVar 1) (xOp dMul (xLst (xCons (xC (.int 0)) xNil)) (xOp dSub (xVar 4) (xB (on1 dLen) (xCons (xVar 1) xNil))))) (xCons (xOp dAdd (xVar 2) (xOp dMul (xLst (xCons (xC (.int 0)) xNil)) (xOp dSub (xVar 4) (xB (on1 dLen) (xCons (xVar 2) xNil))))) xNil)))) (sRet [] (xCall m_Ltrim (xCons (xVar 0) (xCons (xComp (xi dRng1 (xCons (xVar 4) xNil)) (bName 7) [7] xYes (xOp dAdd (xOp dIx (xVar 5) (xVar 7)) (xOp dMul (xVar 3) (xOp dIx (xVar 6) (xVar 7))))) xNil))))))
def m_Lplus : List D → Option FR := defM 4 8 b_Lplus
theorem ok_Lplus (B : Bi mg) (F : Def0 K mg "_law_plus" s_Lplus ["_law_p", "_law_one", "_law_other", "_law_factor"]) (K_Ltrim : Cal P w K mg base T "_law_trim" 1 ["_law_p", "_law_numbers"] m_Ltrim) : Cal P w K mg base T "_law_plus" 2 ["_law_p", "_law_one", "_law_other", "_law_factor"] m_Lplus :=
  cal_mirror (own := []) (k := 1) (g := (sSeq (sSet [] 4 (xB (on2 dMax) (xCons (xB (on1 dLen) (xCons (xVar 1) xNil)) (xCons (xB (on1 dLen) (xCons (xVar 2) xNil)) xNil)))) (sSeq (sAsgT [] (bPair 5 6) (xTup (xCons (xOp dAdd (xVar 1) (xOp dMul (xLst (xCons (xC (.int 0)) xNil)) (xOp dSub (xVar 4) (xB (on1 dLen) (xCons (xVar 1) xNil))))) (xCons (xOp dAdd (xVar 2) (xOp dMul (xLst (xCons (xC (.int 0)) xNil)) (xOp dSub (xVar 4) (xB (on1 dLen) (xCons (xVar 2) xNil))))) xNil)))) (sRet [] (xCall m_Ltrim (xCons (xVar 0) (xCons (xComp (xi dRng1 (xCons (xVar 4) xNil)) (bName 7) [7] xYes (xOp dAdd (xOp dIx (xVar 5) (xVar 7)) (xOp dMul (xVar 3) (xOp dIx (xVar 6) (xVar 7))))) xNil))))))) F sc_Lplus (by decide) (by decide) rfl rfl fun f cdv A outer s H E hr => (css_cons (cs_set 4 (ce_maxC B (ca_cons (ce_len B (ca_cons (ce_var 1) ca_nil)) (ca_cons (ce_len B (ca_cons (ce_var 2) ca_nil)) ca_nil))) (fun _ => sc_Lplus.nd)) (css_cons (cs_asgT (ce_tup (ca_cons (ce_add (ce_var 1) (ce_mul (ce_lst (ca_cons ce_int ca_nil)) (ce_sub (ce_var 4) (ce_len B (ca_cons (ce_var 1) ca_nil))))) (ca_cons (ce_add (ce_var 2) (ce_mul (ce_lst (ca_cons ce_int ca_nil)) (ce_sub (ce_var 4) (ce_len B (ca_cons (ce_var 2) ca_nil))))) ca_nil))) (cgs_pair 5 6 (fun _ => sc_Lplus.nd))) (css_one (cs_ret [] (ce_cal K_Ltrim (Nat.le_of_ble_eq_true rfl) (fun _ => passL) (ca_cons (ce_var 0) (ca_cons (ce_comp N_Lplus (defScope s_Lplus) [("_law_at", 7)] (ci_rng1 (ca_cons (ce_var 4) ca_nil) B.range) (cg_name 7 (fun _ => sc_Lplus.nd)) cts_nil (ce_add (ce_ix (ce_var 5) (ce_var 7)) (ce_mul (ce_var 3) (ce_ix (ce_var 6) (ce_var 7)))) (hNd := fun _ => sc_Lplus.nd)) ca_nil)))))))
/-! _law_times -/
abbrev s_Ltimes : Stmt := top 40
abbrev N_Ltimes : List Str := ["_law_p", "_law_one", "_law_other", "_law_found", "_law_at", "_law_low", "_law_place", "_law_high"]
theorem sc_Ltimes : FnScope N_Ltimes ["_law_p", "_law_one", "_law_other"] (defScope s_Ltimes) := ⟨rfl, rfl, rfl, by decide +kernel, rfl, by decide +kernel, by decide +kernel⟩
def b_Ltimes : S → Option Out := (sSeq (sSetO [3] 3 (nRep (xLst (xCons (xC (.int 0)) xNil)) (xOp dAdd (xB (on1 dLen) (xCons (xVar 1) xNil)) (xB (on1 dLen) (xCons (xVar 2) xNil))))) (sSeq (sFor [3] (xi dEnum (xCons (xVar 1) xNil)) (bPair 4 5) (sFor [3] (xi dEnum (xCons (xVar 2) xNil)) (bPair 6 7) (sStoC 3 (xOp dAdd (xVar 4) (xVar 6)) (xOp dAdd (xOp dIx (xVar 3) (xOp dAdd (xVar 4) (xVar 6))) (xOp dMul (xVar 5) (xVar 7)))))) (sRet [] (xCall m_Ltrim (xCons (xVar 0) (xCons (xVar 3) xNil))))))
def m_Ltimes : List D → Option FR := defM 3 8 b_Ltimes
theorem ok_Ltimes (B : Bi mg) (F : Def0 K mg "_law_times" s_Ltimes ["_law_p", "_law_one", "_law_other"]) (K_Ltrim : Cal P w K mg base T "_law_trim" 1 ["_law_p", "_law_numbers"] m_Ltrim) : Cal P w K mg base T "_law_times" 2 ["_law_p", "_law_one", "_law_other"] m_Ltimes :=
  cal_mirror (own := [3]) (k := 1) (g := (sSeq (sSetO [3] 3 (nRep (xLst (xCons (xC (.int 0)) xNil)) (xOp dAdd (xB (on1 dLen) (xCons (xVar 1) xNil)) (xB (on1 dLen) (xCons (xVar 2) xNil))))) (sSeq (sFor [3] (xi dEnum (xCons (xVar 1) xNil)) (bPair 4 5) (sFor [3] (xi dEnum (xCons (xVar 2) xNil)) (bPair 6 7) (sStoC 3 (xOp dAdd (xVar 4) (xVar 6)) (xOp dAdd (xOp dIx (xVar 3) (xOp dAdd (xVar 4) (xVar 6))) (xOp dMul (xVar 5) (xVar 7)))))) (sRet [] (xCall m_Ltrim (xCons (xVar 0) (xCons (xVar 3) xNil))))))) F sc_Ltimes (by decide) (by decide) rfl rfl fun f cdv A outer s H E hr => (css_cons (cs_setO 3 (cn_rep (ce_lst (ca_cons ce_int ca_nil)) (ce_add (ce_len B (ca_cons (ce_var 1) ca_nil)) (ce_len B (ca_cons (ce_var 2) ca_nil)))) (fun _ => sc_Ltimes.nd)) (css_cons (cs_for (ci_enum (ca_cons (ce_var 1) ca_nil) B.enumerate) (cgs_pair 4 5 (fun _ => sc_Ltimes.nd)) (css_one (cs_for (ci_enum (ca_cons (ce_var 2) ca_nil) B.enumerate) (cgs_pair 6 7 (fun _ => sc_Ltimes.nd)) (css_one (cs_stoC 3 (ce_add (ce_ix (ce_var 3) (ce_add (ce_var 4) (ce_var 6))) (ce_mul (ce_var 5) (ce_var 7))) (ce_add (ce_var 4) (ce_var 6)))) (fun _ => passes_of rfl))) (fun _ => passes_of rfl)) (css_one (cs_ret [3] (ce_cal K_Ltrim (Nat.le_of_ble_eq_true rfl) (fun _ => passL) (ca_cons (ce_var 0) (ca_cons (ce_var 3) ca_nil)))))))
/-! _law_back -/
abbrev s_Lback : Stmt := top 41
abbrev N_Lback : List Str := ["_law_p", "_law_number", "_law_low"]
theorem sc_Lback : FnScope N_Lback ["_law_p", "_law_number"] (defScope s_Lback) := ⟨rfl, rfl, rfl, by decide +kernel, rfl, by decide +kernel, by decide +kernel⟩
def b_Lback : S → Option Out := (sRet [] (xOp dIx (xComp (xi dRng1 (xCons (xVar 0) xNil)) (bName 2) [2] (xBl (xOp (dEq) (xOp dMod (xB (on1 dInt) (xCons (xOp dMul (xVar 2) (xVar 1)) xNil)) (xVar 0)) (xC (.int 1)))) (xVar 2)) (xC (.int 0))))
def m_Lback : List D → Option FR := defM 2 3 b_Lback
theorem ok_Lback (B : Bi mg) (F : Def0 K mg "_law_back" s_Lback ["_law_p", "_law_number"])  : Cal P w K mg base T "_law_back" 1 ["_law_p", "_law_number"] m_Lback :=
  cal_mirror (own := []) (k := 0) (g := (sRet [] (xOp dIx (xComp (xi dRng1 (xCons (xVar 0) xNil)) (bName 2) [2] (xBl (xOp (dEq) (xOp dMod (xB (on1 dInt) (xCons (xOp dMul (xVar 2) (xVar 1)) xNil)) (xVar 0)) (xC (.int 1)))) (xVar 2)) (xC (.int 0))))) F sc_Lback (by decide) (by decide) rfl rfl fun f cdv A outer s H E hr => (css_one (cs_ret [] (ce_ix (ce_comp N_Lback (defScope s_Lback) [("_law_low", 2)] (ci_rng1 (ca_cons (ce_var 0) ca_nil) B.range) (cg_name 2 (fun _ => sc_Lback.nd)) (cts_one (ct_eq (ce_mod (ce_intC B (ca_cons (ce_mul (ce_var 2) (ce_var 1)) ca_nil)) (ce_var 0)) ce_int)) (ce_var 2) (hNd := fun _ => sc_Lback.nd)) ce_int)))
/-! _law_parted -/
abbrev s_Lparted : Stmt := top 42
abbrev N_Lparted : List Str := ["_law_p", "_law_one", "_law_other", "_law_rest_here", "_law_quotient", "_law_back_here", "_law_term"]
theorem sc_Lparted : FnScope N_Lparted ["_law_p", "_law_one", "_law_other"] (defScope s_Lparted) := ⟨rfl, rfl, rfl, by decide +kernel, rfl, by decide +kernel, by decide +kernel⟩
def b_Lparted : S → Option Out := (sSeq (sPar3 [] 3 4 5 (xB (on1 dList) (xCons (xVar 1) xNil)) (xLst xNil) (xCall m_Lback (xCons (xVar 0) (xCons (xOp dIx (xVar 2) (xUn dNeg (xC (.int 1)))) xNil)))) (sSeq (whileM (xBl (xOp (dCmp pGe) (xB (on1 dLen) (xCons (xVar 3) xNil)) (xB (on1 dLen) (xCons (xVar 2) xNil)))) (sSeq (sSet [] 6 (xOp dAdd (xOp dMul (xLst (xCons (xC (.int 0)) xNil)) (xOp dSub (xB (on1 dLen) (xCons (xVar 3) xNil)) (xB (on1 dLen) (xCons (xVar 2) xNil)))) (xLst (xCons (xOp dMod (xB (on1 dInt) (xCons (xOp dMul (xOp dIx (xVar 3) (xUn dNeg (xC (.int 1)))) (xVar 5)) xNil)) (xVar 0)) xNil)))) (sSeq (sSet [] 4 (xCall m_Lplus (xCons (xVar 0) (xCons (xVar 4) (xCons (xVar 6) (xCons (xC (.int 1)) xNil)))))) (sSet [] 3 (xCall m_Lplus (xCons (xVar 0) (xCons (xVar 3) (xCons (xCall m_Ltimes (xCons (xVar 0) (xCons (xVar 6) (xCons (xVar 2) xNil)))) (xCons (xUn dNeg (xC (.int 1))) xNil)))))))) 100000) (sRet [] (xTup (xCons (xVar 4) (xCons (xVar 3) xNil))))))
def m_Lparted : List D → Option FR := defM 3 7 b_Lparted
theorem ok_Lparted (B : Bi mg) (F : Def0 K mg "_law_parted" s_Lparted ["_law_p", "_law_one", "_law_other"]) (K_Lback : Cal P w K mg base T "_law_back" 1 ["_law_p", "_law_number"] m_Lback) (K_Lplus : Cal P w K mg base T "_law_plus" 2 ["_law_p", "_law_one", "_law_other", "_law_factor"] m_Lplus) (K_Ltimes : Cal P w K mg base T "_law_times" 2 ["_law_p", "_law_one", "_law_other"] m_Ltimes) : Cal P w K mg base T "_law_parted" 3 ["_law_p", "_law_one", "_law_other"] m_Lparted :=
  cal_mirror (own := []) (k := 2) (g := (sSeq (sPar3 [] 3 4 5 (xB (on1 dList) (xCons (xVar 1) xNil)) (xLst xNil) (xCall m_Lback (xCons (xVar 0) (xCons (xOp dIx (xVar 2) (xUn dNeg (xC (.int 1)))) xNil)))) (sSeq (whileM (xBl (xOp (dCmp pGe) (xB (on1 dLen) (xCons (xVar 3) xNil)) (xB (on1 dLen) (xCons (xVar 2) xNil)))) (sSeq (sSet [] 6 (xOp dAdd (xOp dMul (xLst (xCons (xC (.int 0)) xNil)) (xOp dSub (xB (on1 dLen) (xCons (xVar 3) xNil)) (xB (on1 dLen) (xCons (xVar 2) xNil)))) (xLst (xCons (xOp dMod (xB (on1 dInt) (xCons (xOp dMul (xOp dIx (xVar 3) (xUn dNeg (xC (.int 1)))) (xVar 5)) xNil)) (xVar 0)) xNil)))) (sSeq (sSet [] 4 (xCall m_Lplus (xCons (xVar 0) (xCons (xVar 4) (xCons (xVar 6) (xCons (xC (.int 1)) xNil)))))) (sSet [] 3 (xCall m_Lplus (xCons (xVar 0) (xCons (xVar 3) (xCons (xCall m_Ltimes (xCons (xVar 0) (xCons (xVar 6) (xCons (xVar 2) xNil)))) (xCons (xUn dNeg (xC (.int 1))) xNil)))))))) 100000) (sRet [] (xTup (xCons (xVar 4) (xCons (xVar 3) xNil))))))) F sc_Lparted (by decide) (by decide) rfl rfl fun f cdv A outer s H E hr => (css_cons (cs_par3 3 4 5 (ce_listC B (ca_cons (ce_var 1) ca_nil)) (ce_lst ca_nil) (ce_cal K_Lback (Nat.le_of_ble_eq_true rfl) (fun _ => passL) (ca_cons (ce_var 0) (ca_cons (ce_ix (ce_var 2) (ce_neg ce_int)) ca_nil))) (fun _ => sc_Lparted.nd)) (css_cons (cs_while 100000 (ct_ge (ce_len B (ca_cons (ce_var 3) ca_nil)) (ce_len B (ca_cons (ce_var 2) ca_nil))) (css_cons (cs_set 6 (ce_add (ce_mul (ce_lst (ca_cons ce_int ca_nil)) (ce_sub (ce_len B (ca_cons (ce_var 3) ca_nil)) (ce_len B (ca_cons (ce_var 2) ca_nil)))) (ce_lst (ca_cons (ce_mod (ce_intC B (ca_cons (ce_mul (ce_ix (ce_var 3) (ce_neg ce_int)) (ce_var 5)) ca_nil)) (ce_var 0)) ca_nil))) (fun _ => sc_Lparted.nd)) (css_cons (cs_set 4 (ce_cal K_Lplus (Nat.le_of_ble_eq_true rfl) (fun _ => passL) (ca_cons (ce_var 0) (ca_cons (ce_var 4) (ca_cons (ce_var 6) (ca_cons ce_int ca_nil))))) (fun _ => sc_Lparted.nd)) (css_one (cs_set 3 (ce_cal K_Lplus (Nat.le_of_ble_eq_true rfl) (fun _ => passL) (ca_cons (ce_var 0) (ca_cons (ce_var 3) (ca_cons (ce_cal K_Ltimes (Nat.le_of_ble_eq_true rfl) (fun _ => passL) (ca_cons (ce_var 0) (ca_cons (ce_var 6) (ca_cons (ce_var 2) ca_nil)))) (ca_cons (ce_neg ce_int) ca_nil))))) (fun _ => sc_Lparted.nd))))) (fun _ => passes_of rfl)) (css_one (cs_ret [] (ce_tup (ca_cons (ce_var 4) (ca_cons (ce_var 3) ca_nil)))))))
/-! _law_rest -/
abbrev s_Lrest : Stmt := top 43
abbrev N_Lrest : List Str := ["_law_p", "_law_one", "_law_other"]
theorem sc_Lrest : FnScope N_Lrest ["_law_p", "_law_one", "_law_other"] (defScope s_Lrest) := ⟨rfl, rfl, rfl, by decide +kernel, rfl, by decide +kernel, by decide +kernel⟩
def b_Lrest : S → Option Out := (sRet [] (xOp dIx (xCall m_Lparted (xCons (xVar 0) (xCons (xVar 1) (xCons (xVar 2) xNil)))) (xC (.int 1))))
def m_Lrest : List D → Option FR := defM 3 3 b_Lrest
theorem ok_Lrest (B : Bi mg) (F : Def0 K mg "_law_rest" s_Lrest ["_law_p", "_law_one", "_law_other"]) (K_Lparted : Cal P w K mg base T "_law_parted" 3 ["_law_p", "_law_one", "_law_other"] m_Lparted) : Cal P w K mg base T "_law_rest" 4 ["_law_p", "_law_one", "_law_other"] m_Lrest :=
  cal_mirror (own := []) (k := 3) (g := (sRet [] (xOp dIx (xCall m_Lparted (xCons (xVar 0) (xCons (xVar 1) (xCons (xVar 2) xNil)))) (xC (.int 1))))) F sc_Lrest (by decide) (by decide) rfl rfl fun f cdv A outer s H E hr => (css_one (cs_ret [] (ce_ix (ce_cal K_Lparted (Nat.le_of_ble_eq_true rfl) (fun _ => passL) (ca_cons (ce_var 0) (ca_cons (ce_var 1) (ca_cons (ce_var 2) ca_nil)))) ce_int)))
/-! _law_monics -/
abbrev s_Lmonics : Stmt := top 44
abbrev N_Lmonics : List Str := ["_law_p", "_law_power", "_law_found", "_law_turn", "_law_longer", "_law_one", "_law_number"]
theorem sc_Lmonics : FnScope N_Lmonics ["_law_p", "_law_power"] (defScope s_Lmonics) := ⟨rfl, rfl, rfl, by decide +kernel, rfl, by decide +kernel, by decide +kernel⟩
def b_Lmonics : S → Option Out := (sSeq (sSet [] 2 (xLst (xCons (xLst xNil) xNil))) (sSeq (sFor [] (xi dRng1 (xCons (xVar 1) xNil)) (bName 3) (sSeq (sSet [] 4 (xLst xNil)) (sSeq (sFor [] (xiL (xVar 2)) (bName 5) (sSet [] 4 (xOp dAdd (xVar 4) (xComp (xi dRng1 (xCons (xVar 0) xNil)) (bName 6) [6] xYes (xOp dAdd (xVar 5) (xLst (xCons (xVar 6) xNil))))))) (sSet [] 2 (xVar 4))))) (sRet [] (xComp (xiL (xVar 2)) (bName 5) [5] xYes (xOp dAdd (xVar 5) (xLst (xCons (xC (.int 1)) xNil)))))))
def m_Lmonics : List D → Option FR := defM 2 7 b_Lmonics
theorem ok_Lmonics (B : Bi mg) (F : Def0 K mg "_law_monics" s_Lmonics ["_law_p", "_law_power"])  : Cal P w K mg base T "_law_monics" 1 ["_law_p", "_law_power"] m_Lmonics :=
  cal_mirror (own := []) (k := 0) (g := (sSeq (sSet [] 2 (xLst (xCons (xLst xNil) xNil))) (sSeq (sFor [] (xi dRng1 (xCons (xVar 1) xNil)) (bName 3) (sSeq (sSet [] 4 (xLst xNil)) (sSeq (sFor [] (xiL (xVar 2)) (bName 5) (sSet [] 4 (xOp dAdd (xVar 4) (xComp (xi dRng1 (xCons (xVar 0) xNil)) (bName 6) [6] xYes (xOp dAdd (xVar 5) (xLst (xCons (xVar 6) xNil))))))) (sSet [] 2 (xVar 4))))) (sRet [] (xComp (xiL (xVar 2)) (bName 5) [5] xYes (xOp dAdd (xVar 5) (xLst (xCons (xC (.int 1)) xNil)))))))) F sc_Lmonics (by decide) (by decide) rfl rfl fun f cdv A outer s H E hr => (css_cons (cs_set 2 (ce_lst (ca_cons (ce_lst ca_nil) ca_nil)) (fun _ => sc_Lmonics.nd)) (css_cons (cs_for (ci_rng1 (ca_cons (ce_var 1) ca_nil) B.range) (cgs_name 3 (fun _ => sc_Lmonics.nd)) (css_cons (cs_set 4 (ce_lst ca_nil) (fun _ => sc_Lmonics.nd)) (css_cons (cs_for (ci_list (ce_var 2)) (cgs_name 5 (fun _ => sc_Lmonics.nd)) (css_one (cs_set 4 (ce_add (ce_var 4) (ce_comp N_Lmonics (defScope s_Lmonics) [("_law_number", 6)] (ci_rng1 (ca_cons (ce_var 0) ca_nil) B.range) (cg_name 6 (fun _ => sc_Lmonics.nd)) cts_nil (ce_add (ce_var 5) (ce_lst (ca_cons (ce_var 6) ca_nil))) (hNd := fun _ => sc_Lmonics.nd))) (fun _ => sc_Lmonics.nd))) (fun _ => passes_of rfl)) (css_one (cs_set 2 (ce_var 4) (fun _ => sc_Lmonics.nd))))) (fun _ => passes_of rfl)) (css_one (cs_ret [] (ce_comp N_Lmonics (defScope s_Lmonics) [("_law_one", 5)] (ci_list (ce_var 2)) (cg_name 5 (fun _ => sc_Lmonics.nd)) cts_nil (ce_add (ce_var 5) (ce_lst (ca_cons ce_int ca_nil))) (hNd := fun _ => sc_Lmonics.nd))))))
/-! _law_common -/
abbrev s_Lcommon : Stmt := top 45
abbrev N_Lcommon : List Str := ["_law_p", "_law_one", "_law_other", "_law_low", "_law_high"]
theorem sc_Lcommon : FnScope N_Lcommon ["_law_p", "_law_one", "_law_other"] (defScope s_Lcommon) := ⟨rfl, rfl, rfl, by decide +kernel, rfl, by decide +kernel, by decide +kernel⟩
def b_Lcommon : S → Option Out := (sSeq (sPar [] 3 4 (xB (on1 dList) (xCons (xVar 1) xNil)) (xB (on1 dList) (xCons (xVar 2) xNil))) (sSeq (whileM (xBl (xOp (dNe) (xVar 4) (xLst xNil))) (sPar [] 3 4 (xVar 4) (xCall m_Lrest (xCons (xVar 0) (xCons (xVar 3) (xCons (xVar 4) xNil))))) 100000) (sRet [] (xVar 3))))
def m_Lcommon : List D → Option FR := defM 3 5 b_Lcommon
theorem ok_Lcommon (B : Bi mg) (F : Def0 K mg "_law_common" s_Lcommon ["_law_p", "_law_one", "_law_other"]) (K_Lrest : Cal P w K mg base T "_law_rest" 4 ["_law_p", "_law_one", "_law_other"] m_Lrest) : Cal P w K mg base T "_law_common" 5 ["_law_p", "_law_one", "_law_other"] m_Lcommon :=
  cal_mirror (own := []) (k := 4) (g := (sSeq (sPar [] 3 4 (xB (on1 dList) (xCons (xVar 1) xNil)) (xB (on1 dList) (xCons (xVar 2) xNil))) (sSeq (whileM (xBl (xOp (dNe) (xVar 4) (xLst xNil))) (sPar [] 3 4 (xVar 4) (xCall m_Lrest (xCons (xVar 0) (xCons (xVar 3) (xCons (xVar 4) xNil))))) 100000) (sRet [] (xVar 3))))) F sc_Lcommon (by decide) (by decide) rfl rfl fun f cdv A outer s H E hr => (css_cons (cs_par 3 4 (ce_listC B (ca_cons (ce_var 1) ca_nil)) (ce_listC B (ca_cons (ce_var 2) ca_nil)) (fun _ => sc_Lcommon.nd)) (css_cons (cs_while 100000 (ct_ne (ce_var 4) (ce_lst ca_nil)) (css_one (cs_par 3 4 (ce_var 4) (ce_cal K_Lrest (Nat.le_of_ble_eq_true rfl) (fun _ => passL) (ca_cons (ce_var 0) (ca_cons (ce_var 3) (ca_cons (ce_var 4) ca_nil)))) (fun _ => sc_Lcommon.nd))) (fun _ => passes_of rfl)) (css_one (cs_ret [] (ce_var 3)))))
/-! _law_is_double -/
abbrev s_Lis_double : Stmt := top 47
abbrev N_Lis_double : List Str := ["_law_p", "_law_one", "_law_power", "_law_low"]
theorem sc_Lis_double : FnScope N_Lis_double ["_law_p", "_law_one"] (defScope s_Lis_double) := ⟨rfl, rfl, rfl, by decide +kernel, rfl, by decide +kernel, by decide +kernel⟩
def b_Lis_double : S → Option Out := (sSeq (sFor [] (xi dRng2 (xCons (xC (.int 1)) (xCons (xOp dAdd (xOp dFdiv (xB (on1 dLen) (xCons (xVar 1) xNil)) (xC (.int 2))) (xC (.int 1))) xNil))) (bName 2) (sFor [] (xiL (xCall m_Lmonics (xCons (xVar 0) (xCons (xVar 2) xNil)))) (bName 3) (sIf (xtAnd (xBl (xOp (dCmp pLt) (xOp dMul (xC (.int 2)) (xVar 2)) (xB (on1 dLen) (xCons (xVar 1) xNil)))) (xBl (xOp (dEq) (xCall m_Lrest (xCons (xVar 0) (xCons (xVar 1) (xCons (xCall m_Ltimes (xCons (xVar 0) (xCons (xVar 3) (xCons (xVar 3) xNil)))) xNil)))) (xLst xNil)))) (sRet [] (xC (.bl true))) sNil))) (sRet [] (xC (.bl false))))
def m_Lis_double : List D → Option FR := defM 2 4 b_Lis_double
theorem ok_Lis_double (B : Bi mg) (F : Def0 K mg "_law_is_double" s_Lis_double ["_law_p", "_law_one"]) (K_Lmonics : Cal P w K mg base T "_law_monics" 1 ["_law_p", "_law_power"] m_Lmonics) (K_Ltimes : Cal P w K mg base T "_law_times" 2 ["_law_p", "_law_one", "_law_other"] m_Ltimes) (K_Lrest : Cal P w K mg base T "_law_rest" 4 ["_law_p", "_law_one", "_law_other"] m_Lrest) : Cal P w K mg base T "_law_is_double" 5 ["_law_p", "_law_one"] m_Lis_double :=
  cal_mirror (own := []) (k := 4) (g := (sSeq (sFor [] (xi dRng2 (xCons (xC (.int 1)) (xCons (xOp dAdd (xOp dFdiv (xB (on1 dLen) (xCons (xVar 1) xNil)) (xC (.int 2))) (xC (.int 1))) xNil))) (bName 2) (sFor [] (xiL (xCall m_Lmonics (xCons (xVar 0) (xCons (xVar 2) xNil)))) (bName 3) (sIf (xtAnd (xBl (xOp (dCmp pLt) (xOp dMul (xC (.int 2)) (xVar 2)) (xB (on1 dLen) (xCons (xVar 1) xNil)))) (xBl (xOp (dEq) (xCall m_Lrest (xCons (xVar 0) (xCons (xVar 1) (xCons (xCall m_Ltimes (xCons (xVar 0) (xCons (xVar 3) (xCons (xVar 3) xNil)))) xNil)))) (xLst xNil)))) (sRet [] (xC (.bl true))) sNil))) (sRet [] (xC (.bl false))))) F sc_Lis_double (by decide) (by decide) rfl rfl fun f cdv A outer s H E hr => (css_cons (cs_for (ci_rng2 (ca_cons ce_int (ca_cons (ce_add (ce_fdiv (ce_len B (ca_cons (ce_var 1) ca_nil)) ce_int) ce_int) ca_nil)) B.range) (cgs_name 2 (fun _ => sc_Lis_double.nd)) (css_one (cs_for (ci_list (ce_cal K_Lmonics (Nat.le_of_ble_eq_true rfl) (fun _ => passL) (ca_cons (ce_var 0) (ca_cons (ce_var 2) ca_nil)))) (cgs_name 3 (fun _ => sc_Lis_double.nd)) (css_one (cs_if (cw_ct (cw_and (ct_lt (ce_mul ce_int (ce_var 2)) (ce_len B (ca_cons (ce_var 1) ca_nil))) (cw_and1 (ct_eq (ce_cal K_Lrest (Nat.le_of_ble_eq_true rfl) (fun _ => passL) (ca_cons (ce_var 0) (ca_cons (ce_var 1) (ca_cons (ce_cal K_Ltimes (Nat.le_of_ble_eq_true rfl) (fun _ => passL) (ca_cons (ce_var 0) (ca_cons (ce_var 3) (ca_cons (ce_var 3) ca_nil)))) ca_nil)))) (ce_lst ca_nil))))) (css_one (cs_ret [] ce_bl)) css_nil)) (fun _ => passes_of rfl))) (fun _ => passes_of rfl)) (css_one (cs_ret [] ce_bl)))
/-! _law_simple -/
abbrev s_Lsimple : Stmt := top 48
abbrev N_Lsimple : List Str := ["_law_p", "_law_one", "_law_slope", "_law_at", "_law_number"]
theorem sc_Lsimple : FnScope N_Lsimple ["_law_p", "_law_one"] (defScope s_Lsimple) := ⟨rfl, rfl, rfl, by decide +kernel, rfl, by decide +kernel, by decide +kernel⟩
def b_Lsimple : S → Option Out := (sSeq (sSet [] 2 (xCall m_Ltrim (xCons (xVar 0) (xCons (xSl (xComp (xi dEnum (xCons (xVar 1) xNil)) (bPair 3 4) [3, 4] xYes (xOp dMul (xVar 3) (xVar 4))) (xoS (xC (.int 1))) xoN) xNil)))) (sRet [] (xOp (dEq) (xB (on1 dLen) (xCons (xCall m_Lcommon (xCons (xVar 0) (xCons (xVar 1) (xCons (xVar 2) xNil)))) xNil)) (xC (.int 1)))))
def m_Lsimple : List D → Option FR := defM 2 5 b_Lsimple
theorem ok_Lsimple (B : Bi mg) (F : Def0 K mg "_law_simple" s_Lsimple ["_law_p", "_law_one"]) (K_Ltrim : Cal P w K mg base T "_law_trim" 1 ["_law_p", "_law_numbers"] m_Ltrim) (K_Lcommon : Cal P w K mg base T "_law_common" 5 ["_law_p", "_law_one", "_law_other"] m_Lcommon) : Cal P w K mg base T "_law_simple" 6 ["_law_p", "_law_one"] m_Lsimple :=
  cal_mirror (own := []) (k := 5) (g := (sSeq (sSet [] 2 (xCall m_Ltrim (xCons (xVar 0) (xCons (xSl (xComp (xi dEnum (xCons (xVar 1) xNil)) (bPair 3 4) [3, 4] xYes (xOp dMul (xVar 3) (xVar 4))) (xoS (xC (.int 1))) xoN) xNil)))) (sRet [] (xOp (dEq) (xB (on1 dLen) (xCons (xCall m_Lcommon (xCons (xVar 0) (xCons (xVar 1) (xCons (xVar 2) xNil)))) xNil)) (xC (.int 1)))))) F sc_Lsimple (by decide) (by decide) rfl rfl fun f cdv A outer s H E hr => (css_cons (cs_set 2 (ce_cal K_Ltrim (Nat.le_of_ble_eq_true rfl) (fun _ => passL) (ca_cons (ce_var 0) (ca_cons (ce_sl (ce_comp N_Lsimple (defScope s_Lsimple) [("_law_at", 3), ("_law_number", 4)] (ci_enum (ca_cons (ce_var 1) ca_nil) B.enumerate) (cg_pair 3 4 (fun _ => sc_Lsimple.nd)) cts_nil (ce_mul (ce_var 3) (ce_var 4)) (hNd := fun _ => sc_Lsimple.nd)) (co_s ce_int) co_n) ca_nil))) (fun _ => sc_Lsimple.nd)) (css_one (cs_ret [] (ce_eq (ce_len B (ca_cons (ce_cal K_Lcommon (Nat.le_of_ble_eq_true rfl) (fun _ => passL) (ca_cons (ce_var 0) (ca_cons (ce_var 1) (ca_cons (ce_var 2) ca_nil)))) ca_nil)) ce_int))))
/-! _law_made -/
abbrev s_L_made : Stmt := top 46
abbrev N_L_made : List Str := ["_law_p", "_law_value", "_law_found", "error"]
theorem sc_L_made : FnScope N_L_made ["_law_p", "_law_value"] (defScope s_L_made) := ⟨rfl, rfl, rfl, by decide +kernel, rfl, by decide +kernel, by decide +kernel⟩
theorem ok_L_made {CB : Addr} (B : Bi mg) (F : Def0 K mg "_law_made" s_L_made ["_law_p", "_law_value"]) (C : CalK P w K mg base T 0 "Curve" 5 ["self", "p", "f"] m_Curve___init__) (HB : mg "CurveError" = some (.ref CB)) (HE : mg "InvalidPolynomial" = some (.ref (T.exc 1)))
    (XF : XfC K (T.exc 1)) (no : PySem.W.findIn K (.ref (T.exc 1)) "value" = some none) (exm : PySem.W.exmOne K (.ref (T.exc 1)) (.ref CB) = some true) : CalGd P w K mg base T "_law_made" 7 ["_law_p", "_law_value"] (mMade m_Curve___init__ 1) := by
  obtain ⟨ad, fd, F, hm, hb⟩ := F
  obtain ⟨fi, fdi, Fi, M, hC, bi⟩ := C
  refine ⟨ad, fd, FnG.okX F sc_L_made made_len fun cdv A outer s H vs Q E hgd hr h => ⟨tMade K T 0 m_Curve___init__ CB (T.exc 1), ?_, made_run exm h⟩, hm, F.kp, hb⟩
  have hu : (A.deeper (envOfC "_law_made" (defScope s_L_made) s.heap.objs.size ad cdv)).units + 200 < cLine := by have := hr.un; omega
  exact pss_cons (ps_set (i := 2) sc_L_made.nd rfl (Or.inl rfl) pe_non)
    (pss_cons (ps_try_as (i := 3) (tb := fun W => tMadeB K T 0 m_Curve___init__ W) (ts := tSuiteM K (T.exc 1)) (Wout := fun _ _ _ _ => False) rfl rfl sc_L_made.nd rfl rfl ⟨rfl, by decide, Or.inl HB⟩ takes0
      (fun W pn xe tk _ => pss_cons (ps_set (i := 2) sc_L_made.nd rfl (Or.inl rfl) (pe_makeS M Fi hr rfl hC bi (fun σ => passAt tk σ) (pa_cons (pv 0) (pa_cons (pv 1) pa_nil)))) pss_nil)
      (fun a oe cls d pn hz hf => pss_cons (ps_if (PW.pt (pw_or (pt_not (pt_truth (pe_callB (call_isX hz) rfl B.isinstance (by decide +kernel) (pa_cons (pv 3) (pa_cons (pe_glob rfl HE rfl) pa_nil))) fun _ => rfl))
        (pw_or1 (pt_cmpR (op_neD (by show A.units + 3 + 64 < cLine; have := hr.un; have e : (A.deeper (envOfC "_law_made" (defScope s_L_made) s.heap.objs.size ad cdv)).units = A.units + 3 := rfl; omega)) (pe_callB (call_reprU hgd hu) rfl B.repr (by decide +kernel) (pa_cons (pe_xf XF no hz hf (pv 3)) pa_nil)) (pe_callB (call_reprU hgd hu) rfl B.repr (by decide +kernel) (pa_cons (pv 1) pa_nil)) (nomark _)))))
        (pss_cons (ps_ret pe_str) pss_nil) pss_nil) pss_nil))
    (pss_cons (ps_ret (pv 2)) pss_nil))

/-! _law_curve_right -/
abbrev s_Lcurve_right : Stmt := top 49
abbrev N_Lcurve_right : List Str := ["_law_p", "_law_value", "_law_due", "_law_before", "_law_found", "_law_given", "_law_kept", "_law_same"]
theorem sc_Lcurve_right : FnScope N_Lcurve_right ["_law_p", "_law_value", "_law_due"] (defScope s_Lcurve_right) := ⟨rfl, rfl, rfl, by decide +kernel, rfl, by decide +kernel, by decide +kernel⟩
def bA_Lcurve_right : S → Option Out := (sSeq (sSetC 3 (xB (on1 dRepr) (xCons (xVar 1) xNil))) (sSeq (sSetL 4 (xCall (mMade m_Curve___init__ 1) (xCons (xVar 0) (xCons (xVar 1) xNil)))) (sSeq (sIf (xBl (xOp (dNeO 0 m_Curve___eq__) (xB (on1 dRepr) (xCons (xVar 1) xNil)) (xVar 3))) (sRet [1] (xC (.bl false))) sNil) (sSeq (sIf (xtOr (xBl (xOp (dEqO 0 m_Curve___eq__) (xVar 4) (xC (.str "wrong")))) (xBl (xOp (dEqO 0 m_Curve___eq__) (xUn (dNone false) (xVar 4)) (xVar 2)))) (sRet [1] (xC (.bl false))) sNil) (sSeq (sIf (xBl (xUn (dNone false) (xVar 4))) (sRet [1] (xC (.bl true))) sNil) (sSeq (sParN 5 6 (nMeth0 0 mN_Curve_polynomial (xVar 4)) (nList (xVar 1))) (sSeq (sApp [5, 1] 5 (xC .non)) (sSeq (sIf (xtOr (xBl (xOp (dNeO 0 m_Curve___eq__) (xMeth0 0 m_Curve_polynomial (xVar 4)) (xVar 6))) (xtOr (xBl (xOp (dNeO 0 m_Curve___eq__) (xVar 5) (xOp dAdd (xVar 6) (xLst (xCons (xC .non) xNil))))) (xtOr (xBl (xOp (dNeO 0 m_Curve___eq__) (xMeth0 0 m_Curve_prime (xVar 4)) (xVar 0))) (xBl (xOp (dNeO 0 m_Curve___eq__) (xB (on1 dRepr) (xCons (xMeth0 0 m_Curve_genus (xVar 4)) xNil)) (xB (on1 dRepr) (xCons (xOp dFdiv (xOp dSub (xB (on1 dLen) (xCons (xVar 6) xNil)) (xC (.int 2))) (xC (.int 2))) xNil))))))) (sRet [1] (xC (.bl false))) sNil) (sSeq (sApp [5, 1] 1 (xC (.int 1))) (sSeq (sSet [5, 1] 7 (xAnd (xOp (dEqO 0 m_Curve___eq__) (xMeth0 0 m_Curve_polynomial (xVar 4)) (xVar 6)) (xAnd (xOp dIs (xOp (dEqO 0 m_Curve___eq__) (xMake2 true m_Curve___init__ (xVar 6) (xVar 0)) (xVar 4)) (xC (.bl true))) (xOp dIs (xOp (dEqO 0 m_Curve___eq__) (xVar 4) (xVar 6)) (xC (.bl false)))))) (sSeq (sPop 1) (sRet [1] (xVar 7)))))))))))))
def bB_Lcurve_right : S → Option Out := (sSeq (sSet [] 3 (xB (on1 dRepr) (xCons (xVar 1) xNil))) (sSeq (sSet [] 4 (xCall (mMade m_Curve___init__ 1) (xCons (xVar 0) (xCons (xVar 1) xNil)))) (sSeq (sIf (xBl (xOp (dNeO 0 m_Curve___eq__) (xB (on1 dRepr) (xCons (xVar 1) xNil)) (xVar 3))) (sRet [] (xC (.bl false))) sNil) (sSeq (sIf (xtOr (xBl (xOp (dEqO 0 m_Curve___eq__) (xVar 4) (xC (.str "wrong")))) (xBl (xOp (dEqO 0 m_Curve___eq__) (xUn (dNone false) (xVar 4)) (xVar 2)))) (sRet [] (xC (.bl false))) sNil) (sSeq (sIf (xBl (xUn (dNone false) (xVar 4))) (sRet [] (xC (.bl true))) sNil) (sSeq (sPar [] 5 6 (xMeth0 0 m_Curve_polynomial (xVar 4)) (xB (on1 dList) (xCons (xVar 1) xNil))) (fun _ => none)))))))
def m_Lcurve_right : List D → Option FR := mLent 3 8 1 bA_Lcurve_right bB_Lcurve_right
theorem ok_Lcurve_right (B : Bi mg) (F : Def0 K mg "_law_curve_right" s_Lcurve_right ["_law_p", "_law_value", "_law_due"]) (K_Lmade : CalGd P w K mg base T "_law_made" 7 ["_law_p", "_law_value"] (mMade m_Curve___init__ 1)) (K_Curve___eq__ : CalM P w K mg base T 0 "__eq__" 1 ["self", "other"] m_Curve___eq__) (K_Curve_polynomial : CalM P w K mg base T 0 "polynomial" 1 ["self"] m_Curve_polynomial) (K_Curve_prime : CalM P w K mg base T 0 "prime" 1 ["self"] m_Curve_prime) (K_Curve_genus : CalM P w K mg base T 0 "genus" 1 ["self"] m_Curve_genus) (O_Curve : ClsOk K T 0 ns_Curve) (NE_Curve : NeOk K T 0) (KN_Curve_polynomial : CalMN P w K mg base T 0 "polynomial" 1 ["self"] mN_Curve_polynomial) (KK_Curve___init__ : CalKK P w K mg base T 0 "Curve" 5 ["self", "p", "f"] ["f", "p"] (fun us ws => swp true us ws) m_Curve___init__) : CalGd P w K mg base T "_law_curve_right" 8 ["_law_p", "_law_value", "_law_due"] m_Lcurve_right :=
  cal_mirrorGdL (oth := [5]) (othB := []) (j := 1) (k := 7) (gA := (sSeq (sSetC 3 (xB (on1 dRepr) (xCons (xVar 1) xNil))) (sSeq (sSetL 4 (xCall (mMade m_Curve___init__ 1) (xCons (xVar 0) (xCons (xVar 1) xNil)))) (sSeq (sIf (xBl (xOp (dNeO 0 m_Curve___eq__) (xB (on1 dRepr) (xCons (xVar 1) xNil)) (xVar 3))) (sRet [1] (xC (.bl false))) sNil) (sSeq (sIf (xtOr (xBl (xOp (dEqO 0 m_Curve___eq__) (xVar 4) (xC (.str "wrong")))) (xBl (xOp (dEqO 0 m_Curve___eq__) (xUn (dNone false) (xVar 4)) (xVar 2)))) (sRet [1] (xC (.bl false))) sNil) (sSeq (sIf (xBl (xUn (dNone false) (xVar 4))) (sRet [1] (xC (.bl true))) sNil) (sSeq (sParN 5 6 (nMeth0 0 mN_Curve_polynomial (xVar 4)) (nList (xVar 1))) (sSeq (sApp [5, 1] 5 (xC .non)) (sSeq (sIf (xtOr (xBl (xOp (dNeO 0 m_Curve___eq__) (xMeth0 0 m_Curve_polynomial (xVar 4)) (xVar 6))) (xtOr (xBl (xOp (dNeO 0 m_Curve___eq__) (xVar 5) (xOp dAdd (xVar 6) (xLst (xCons (xC .non) xNil))))) (xtOr (xBl (xOp (dNeO 0 m_Curve___eq__) (xMeth0 0 m_Curve_prime (xVar 4)) (xVar 0))) (xBl (xOp (dNeO 0 m_Curve___eq__) (xB (on1 dRepr) (xCons (xMeth0 0 m_Curve_genus (xVar 4)) xNil)) (xB (on1 dRepr) (xCons (xOp dFdiv (xOp dSub (xB (on1 dLen) (xCons (xVar 6) xNil)) (xC (.int 2))) (xC (.int 2))) xNil))))))) (sRet [1] (xC (.bl false))) sNil) (sSeq (sApp [5, 1] 1 (xC (.int 1))) (sSeq (sSet [5, 1] 7 (xAnd (xOp (dEqO 0 m_Curve___eq__) (xMeth0 0 m_Curve_polynomial (xVar 4)) (xVar 6)) (xAnd (xOp dIs (xOp (dEqO 0 m_Curve___eq__) (xMake2 true m_Curve___init__ (xVar 6) (xVar 0)) (xVar 4)) (xC (.bl true))) (xOp dIs (xOp (dEqO 0 m_Curve___eq__) (xVar 4) (xVar 6)) (xC (.bl false)))))) (sSeq (sPop 1) (sRet [1] (xVar 7)))))))))))))) (gB := (sSeq (sSet [] 3 (xB (on1 dRepr) (xCons (xVar 1) xNil))) (sSeq (sSet [] 4 (xCall (mMade m_Curve___init__ 1) (xCons (xVar 0) (xCons (xVar 1) xNil)))) (sSeq (sIf (xBl (xOp (dNeO 0 m_Curve___eq__) (xB (on1 dRepr) (xCons (xVar 1) xNil)) (xVar 3))) (sRet [] (xC (.bl false))) sNil) (sSeq (sIf (xtOr (xBl (xOp (dEqO 0 m_Curve___eq__) (xVar 4) (xC (.str "wrong")))) (xBl (xOp (dEqO 0 m_Curve___eq__) (xUn (dNone false) (xVar 4)) (xVar 2)))) (sRet [] (xC (.bl false))) sNil) (sSeq (sIf (xBl (xUn (dNone false) (xVar 4))) (sRet [] (xC (.bl true))) sNil) (sSeq (sPar [] 5 6 (xMeth0 0 m_Curve_polynomial (xVar 4)) (xB (on1 dList) (xCons (xVar 1) xNil))) (fun _ => none)))))))) F sc_Lcurve_right (by decide) (by decide) (by decide) (by decide) rfl rfl (fun f cdv A outer s H E hr hgd => (css_cons (cs_setC 3 (ce_repr B (fun _ => hgd) (ca_cons (ce_var 1) ca_nil)) (fun _ => sc_Lcurve_right.nd)) (css_cons (cs_setL 4 (ce_calGd K_Lmade (fun _ => hgd) (Nat.le_of_ble_eq_true rfl) (fun _ => passL) (ca_cons (ce_var 0) (ca_cons (ce_var 1) ca_nil))) (fun _ => sc_Lcurve_right.nd)) (css_cons (cs_if (ct_neO O_Curve NE_Curve K_Curve___eq__ (Nat.le_of_ble_eq_true rfl) (fun _ => passL) (ce_repr B (fun _ => hgd) (ca_cons (ce_var 1) ca_nil)) (ce_var 3)) (css_one (cs_ret [5] ce_bl)) css_nil) (css_cons (cs_if (cw_ct (cw_or (ct_eqO O_Curve K_Curve___eq__ (Nat.le_of_ble_eq_true rfl) (fun _ => passL) (ce_var 4) ce_str) (cw_or1 (ct_eqO O_Curve K_Curve___eq__ (Nat.le_of_ble_eq_true rfl) (fun _ => passL) (ce_isN (ce_var 4)) (ce_var 2))))) (css_one (cs_ret [5] ce_bl)) css_nil) (css_cons (cs_if (ct_isN (ce_var 4)) (css_one (cs_ret [5] ce_bl)) css_nil) (css_cons (cs_parN 5 6 (cn_meth0 O_Curve KN_Curve_polynomial (Nat.le_of_ble_eq_true rfl) (fun _ => passL) (ce_var 4)) (cn_list rfl (ce_var 1) B.list) (fun _ => sc_Lcurve_right.nd)) (css_cons (cs_app 5 ce_non) (css_cons (cs_if (cw_ct (cw_or (ct_neO O_Curve NE_Curve K_Curve___eq__ (Nat.le_of_ble_eq_true rfl) (fun _ => passL) (ce_meth0 O_Curve K_Curve_polynomial (Nat.le_of_ble_eq_true rfl) (fun _ => passL) (ce_var 4)) (ce_var 6)) (cw_or (ct_neO O_Curve NE_Curve K_Curve___eq__ (Nat.le_of_ble_eq_true rfl) (fun _ => passL) (ce_var 5) (ce_add (ce_var 6) (ce_lst (ca_cons ce_non ca_nil)))) (cw_or (ct_neO O_Curve NE_Curve K_Curve___eq__ (Nat.le_of_ble_eq_true rfl) (fun _ => passL) (ce_meth0 O_Curve K_Curve_prime (Nat.le_of_ble_eq_true rfl) (fun _ => passL) (ce_var 4)) (ce_var 0)) (cw_or1 (ct_neO O_Curve NE_Curve K_Curve___eq__ (Nat.le_of_ble_eq_true rfl) (fun _ => passL) (ce_repr B (fun _ => hgd) (ca_cons (ce_meth0 O_Curve K_Curve_genus (Nat.le_of_ble_eq_true rfl) (fun _ => passL) (ce_var 4)) ca_nil)) (ce_repr B (fun _ => hgd) (ca_cons (ce_fdiv (ce_sub (ce_len B (ca_cons (ce_var 6) ca_nil)) ce_int) ce_int) ca_nil)))))))) (css_one (cs_ret [5] ce_bl)) css_nil) (css_cons (cs_app 1 ce_int) (css_cons (cs_set 7 (ce_and (ce_eqO O_Curve K_Curve___eq__ (Nat.le_of_ble_eq_true rfl) (fun _ => passL) (ce_meth0 O_Curve K_Curve_polynomial (Nat.le_of_ble_eq_true rfl) (fun _ => passL) (ce_var 4)) (ce_var 6)) (ce_and (ce_is (ce_eqO O_Curve K_Curve___eq__ (Nat.le_of_ble_eq_true rfl) (fun _ => passL) (ce_makeK KK_Curve___init__ (Nat.le_of_ble_eq_true rfl) (fun _ => passL) (ce_var 6) (ce_var 0)) (ce_var 4)) ce_bl) (ce_one (ce_is (ce_eqO O_Curve K_Curve___eq__ (Nat.le_of_ble_eq_true rfl) (fun _ => passL) (ce_var 4) (ce_var 6)) ce_bl)))) (fun _ => sc_Lcurve_right.nd)) (css_cons (cs_pop 1) (css_one (cs_ret [5] (ce_var 7))))))))))))))) (fun f cdv A outer s H E hr hgd => (css_cons (cs_set 3 (ce_repr B (fun _ => hgd) (ca_cons (ce_var 1) ca_nil)) (fun _ => sc_Lcurve_right.nd)) (css_cons (cs_set 4 (ce_calGd K_Lmade (fun _ => hgd) (Nat.le_of_ble_eq_true rfl) (fun _ => passL) (ca_cons (ce_var 0) (ca_cons (ce_var 1) ca_nil))) (fun _ => sc_Lcurve_right.nd)) (css_cons (cs_if (ct_neO O_Curve NE_Curve K_Curve___eq__ (Nat.le_of_ble_eq_true rfl) (fun _ => passL) (ce_repr B (fun _ => hgd) (ca_cons (ce_var 1) ca_nil)) (ce_var 3)) (css_one (cs_ret [] ce_bl)) css_nil) (css_cons (cs_if (cw_ct (cw_or (ct_eqO O_Curve K_Curve___eq__ (Nat.le_of_ble_eq_true rfl) (fun _ => passL) (ce_var 4) ce_str) (cw_or1 (ct_eqO O_Curve K_Curve___eq__ (Nat.le_of_ble_eq_true rfl) (fun _ => passL) (ce_isN (ce_var 4)) (ce_var 2))))) (css_one (cs_ret [] ce_bl)) css_nil) (css_cons (cs_if (ct_isN (ce_var 4)) (css_one (cs_ret [] ce_bl)) css_nil) (css_cons (cs_par 5 6 (ce_meth0 O_Curve K_Curve_polynomial (Nat.le_of_ble_eq_true rfl) (fun _ => passL) (ce_var 4)) (ce_listC B (ca_cons (ce_var 1) ca_nil)) (fun _ => sc_Lcurve_right.nd)) css_never)))))))
/-! _law_right -/
abbrev s_Lright : Stmt := top 50
abbrev N_Lright : List Str := ["_law_generator_here", "_law_p", "_law_size", "_law_one", "_law_low", "_law_twice", "_law_at", "_law_other", "_law_longer", "_law_value", "_law_turn", "_law_item"]
theorem sc_Lright : FnScope N_Lright ["_law_generator_here"] (defScope s_Lright) := ⟨rfl, rfl, rfl, by decide +kernel, rfl, by decide +kernel, by decide +kernel⟩
def b_Lright : S → Option Out := (sSeq (sSetZ 0 1 (zDraw 0 m_Lprime (zNil 0))) (sSeq (sSetZ 0 2 (zOp 0 dIx (zPure [0] 0 (xLst (xCons (xC (.int 1)) (xCons (xC (.int 3)) (xCons (xC (.int 5)) (xCons (xC (.int 7)) xNil)))))) (zDraw 0 m_Lrandom (zCons 0 (zPure [0] 0 (xC (.int 4))) (zNil 0))))) (sSeq (sSetZ 0 3 (zOp 0 dAdd (zComp 0 [] (ziPure [0] 0 (xi dRng1 (xCons (xVar 2) xNil))) (bName 10) [10] (zDraw 0 m_Lrandom (zCons 0 (zPure [0] 0 (xVar 1)) (zNil 0)))) (zPure [0] 0 (xLst (xCons (xC (.int 1)) xNil))))) (sSeq (sSetZ 0 4 (zLst (zCons 0 (zDraw 0 m_Lrandom (zCons 0 (zPure [0] 0 (xVar 1)) (zNil 0))) (zCons 0 (zPure [0] 0 (xC (.int 1))) (zNil 0))))) (sSeq (sSetZ 0 5 (zCall m_Ltimes (zCons 0 (zPure [0] 0 (xVar 1)) (zCons 0 (zPure [0] 0 (xCall m_Ltimes (xCons (xVar 1) (xCons (xVar 4) (xCons (xVar 4) xNil))))) (zCons 0 (zIf [0] 0 (xBl (xOp (dCmp pLt) (xVar 2) (xC (.int 5)))) (zLst (zCons 0 (zDraw 0 m_Lrandom (zCons 0 (zPure [0] 0 (xVar 1)) (zNil 0))) (zCons 0 (zPure [0] 0 (xC (.int 1))) (zNil 0)))) (zOp 0 dAdd (zComp 0 [] (ziPure [0] 0 (xi dRng1 (xCons (xC (.int 3)) xNil))) (bName 10) [10] (zDraw 0 m_Lrandom (zCons 0 (zPure [0] 0 (xVar 1)) (zNil 0)))) (zPure [0] 0 (xLst (xCons (xC (.int 1)) xNil))))) (zNil 0)))))) (sSeq (sIf (xtOr (xtNot (xTru (xCall m_Lcurve_right (xCons (xVar 1) (xCons (xVar 3) (xCons (xCall m_Lsimple (xCons (xVar 1) (xCons (xVar 3) xNil))) xNil)))))) (xtAnd (xBl (xOp (dCmp pLt) (xVar 1) (xC (.int 7)))) (xtAnd (xBl (xOp (dCmp pLt) (xVar 2) (xC (.int 6)))) (xBl (xOp (dEqO 0 m_Curve___eq__) (xCall m_Lsimple (xCons (xVar 1) (xCons (xVar 3) xNil))) (xCall m_Lis_double (xCons (xVar 1) (xCons (xVar 3) xNil)))))))) (sRet [0] (xC (.bl false))) sNil) (sSeq (sIf (xtNot (xTru (xCall m_Lcurve_right (xCons (xVar 1) (xCons (xVar 5) (xCons (xC (.bl false)) xNil)))))) (sRet [0] (xC (.bl false))) sNil) (sSeq (sSetZ 0 6 (zDraw 0 m_Lrandom (zCons 0 (zPure [0] 0 (xVar 2)) (zNil 0)))) (sSeq (sSetZ 0 7 (zOp 0 dAdd (zOp 0 dAdd (zPure [0] 0 (xSl (xVar 3) xoN (xoS (xVar 6)))) (zLst (zCons 0 (zDraw 0 m_Lrandom (zCons 0 (zPure [0] 0 (xVar 1)) (zNil 0))) (zNil 0)))) (zPure [0] 0 (xSl (xVar 3) (xoS (xOp dAdd (xVar 6) (xC (.int 1)))) xoN)))) (sSeq (sIf (xtAnd (xTru (xCall m_Lsimple (xCons (xVar 1) (xCons (xVar 3) xNil)))) (xtAnd (xTru (xCall m_Lsimple (xCons (xVar 1) (xCons (xVar 7) xNil)))) (xBl (xOp (dNeO 0 m_Curve___eq__) (xOp (dEqO 0 m_Curve___eq__) (xCall m_Curve___init__ (xCons (xVar 1) (xCons (xVar 3) xNil))) (xCall m_Curve___init__ (xCons (xVar 1) (xCons (xVar 7) xNil)))) (xOp (dEqO 0 m_Curve___eq__) (xVar 3) (xVar 7)))))) (sRet [0] (xC (.bl false))) sNil) (sSeq (sSet [0] 8 (xLst (xCons (xOp dAdd (xOp dAdd (xVar 3) (xOp dMul (xLst (xCons (xC (.int 0)) xNil)) (xOp dSub (xC (.int 8)) (xVar 2)))) (xLst (xCons (xC (.int 1)) xNil))) (xCons (xOp dAdd (xOp dAdd (xVar 3) (xOp dMul (xLst (xCons (xC (.int 0)) xNil)) (xOp dSub (xC (.int 10)) (xVar 2)))) (xLst (xCons (xC (.int 1)) xNil))) (xCons (xOp dAdd (xOp dAdd (xVar 3) (xOp dMul (xLst (xCons (xC (.int 0)) xNil)) (xOp dSub (xC (.int 58)) (xVar 2)))) (xLst (xCons (xC (.int 1)) xNil))) xNil))))) (sSeq (sFor [0] (xiL (xOp dAdd (xVar 8) (xLst (xCons (xSl (xVar 3) (xoS (xC (.int 1))) xoN) (xCons (xOp dAdd (xVar 3) (xLst (xCons (xC (.int 1)) xNil))) (xCons (xOp dAdd (xSl (xVar 3) xoN (xoS (xUn dNeg (xC (.int 1))))) (xLst (xCons (xC (.int 2)) xNil))) (xCons (xLst xNil) (xCons (xLst (xCons (xC (.int 1)) xNil)) (xCons (xC .non) (xCons (xB (on1 dTuple) (xCons (xVar 3) xNil)) (xCons (xC (.str "11")) (xCons (xOp dMul (xLst (xCons (xC .non) xNil)) (xOp dAdd (xVar 2) (xC (.int 1)))) (xCons (xOp dMul (xLst (xCons (xC (.bl true)) xNil)) (xOp dAdd (xVar 2) (xC (.int 1)))) (xCons (xOp dAdd (xLst (xCons (xVar 1) xNil)) (xSl (xVar 3) (xoS (xC (.int 1))) xoN)) (xCons (xOp dAdd (xOp dAdd (xOp dAdd (xSl (xVar 3) xoN (xoS (xC (.int 1)))) (xLst (xCons (xUn dNeg (xC (.int 1))) xNil))) (xOp dMul (xLst (xCons (xC (.int 0)) xNil)) (xOp dSub (xVar 2) (xC (.int 2))))) (xLst (xCons (xC (.int 1)) xNil))) xNil))))))))))))))) (bName 9) (sSeq (sIf (xtAnd (xTru (xUn (dIsi "list") (xVar 9))) (xtAnd (xBl (xOp (dIn false) (xB (on1 dLen) (xCons (xVar 9) xNil)) (xLst (xCons (xC (.int 2)) (xCons (xC (.int 4)) (xCons (xC (.int 6)) (xCons (xC (.int 8)) xNil))))))) (xtAnd (xBl (xOp (dEqO 0 m_Curve___eq__) (xOp dIx (xVar 9) (xUn dNeg (xC (.int 1)))) (xC (.int 1)))) (xBl (xOp (dEqO 0 m_Curve___eq__) (xComp (xiL (xVar 9)) (bName 11) [11] (xtOr (xTru (xUn (dIsi "bool") (xVar 11))) (xtOr (xtNot (xTru (xUn (dIsi "int") (xVar 11)))) (xtNot (xBl (xChain (dCmp pLe) (dCmp pLt) (xC (.int 0)) (xVar 11) (xVar 1)))))) (xVar 11)) (xLst xNil)))))) (fun s => some (.ct s)) sNil) (sIf (xtNot (xTru (xCall m_Lcurve_right (xCons (xVar 1) (xCons (xVar 9) (xCons (xC (.bl false)) xNil)))))) (sRet [0] (xC (.bl false))) sNil))) (sRet [0] (xC (.bl true)))))))))))))))
def m_Lright : List D → List D → Option (D × List D) := defG 1 12 b_Lright
theorem ok_Lright (B : Bi mg) (F : Def0 K mg "_law_right" s_Lright ["_law_generator_here"]) (K_Lprime : CalG P w K mg base T "_law_prime" 3 ["_law_generator_here"] m_Lprime) (K_Lrandom : CalG P w K mg base T "_law_random" 2 ["_law_generator_here", "_law_bound"] m_Lrandom) (K_Ltimes : Cal P w K mg base T "_law_times" 2 ["_law_p", "_law_one", "_law_other"] m_Ltimes) (K_Lsimple : Cal P w K mg base T "_law_simple" 6 ["_law_p", "_law_one"] m_Lsimple) (K_Lcurve_right : CalGd P w K mg base T "_law_curve_right" 8 ["_law_p", "_law_value", "_law_due"] m_Lcurve_right) (K_Lis_double : Cal P w K mg base T "_law_is_double" 5 ["_law_p", "_law_one"] m_Lis_double) (K_Curve___eq__ : CalM P w K mg base T 0 "__eq__" 1 ["self", "other"] m_Curve___eq__) (K_Curve___init__ : CalK P w K mg base T 0 "Curve" 5 ["self", "p", "f"] m_Curve___init__) (O_Curve : ClsOk K T 0 ns_Curve) (NE_Curve : NeOk K T 0) : CalGG P w K mg base T "_law_right" 9 ["_law_generator_here"] m_Lright :=
  cal_mirrorGG (oth := []) (k := 8) (g := (sSeq (sSetZ 0 1 (zDraw 0 m_Lprime (zNil 0))) (sSeq (sSetZ 0 2 (zOp 0 dIx (zPure [0] 0 (xLst (xCons (xC (.int 1)) (xCons (xC (.int 3)) (xCons (xC (.int 5)) (xCons (xC (.int 7)) xNil)))))) (zDraw 0 m_Lrandom (zCons 0 (zPure [0] 0 (xC (.int 4))) (zNil 0))))) (sSeq (sSetZ 0 3 (zOp 0 dAdd (zComp 0 [] (ziPure [0] 0 (xi dRng1 (xCons (xVar 2) xNil))) (bName 10) [10] (zDraw 0 m_Lrandom (zCons 0 (zPure [0] 0 (xVar 1)) (zNil 0)))) (zPure [0] 0 (xLst (xCons (xC (.int 1)) xNil))))) (sSeq (sSetZ 0 4 (zLst (zCons 0 (zDraw 0 m_Lrandom (zCons 0 (zPure [0] 0 (xVar 1)) (zNil 0))) (zCons 0 (zPure [0] 0 (xC (.int 1))) (zNil 0))))) (sSeq (sSetZ 0 5 (zCall m_Ltimes (zCons 0 (zPure [0] 0 (xVar 1)) (zCons 0 (zPure [0] 0 (xCall m_Ltimes (xCons (xVar 1) (xCons (xVar 4) (xCons (xVar 4) xNil))))) (zCons 0 (zIf [0] 0 (xBl (xOp (dCmp pLt) (xVar 2) (xC (.int 5)))) (zLst (zCons 0 (zDraw 0 m_Lrandom (zCons 0 (zPure [0] 0 (xVar 1)) (zNil 0))) (zCons 0 (zPure [0] 0 (xC (.int 1))) (zNil 0)))) (zOp 0 dAdd (zComp 0 [] (ziPure [0] 0 (xi dRng1 (xCons (xC (.int 3)) xNil))) (bName 10) [10] (zDraw 0 m_Lrandom (zCons 0 (zPure [0] 0 (xVar 1)) (zNil 0)))) (zPure [0] 0 (xLst (xCons (xC (.int 1)) xNil))))) (zNil 0)))))) (sSeq (sIf (xtOr (xtNot (xTru (xCall m_Lcurve_right (xCons (xVar 1) (xCons (xVar 3) (xCons (xCall m_Lsimple (xCons (xVar 1) (xCons (xVar 3) xNil))) xNil)))))) (xtAnd (xBl (xOp (dCmp pLt) (xVar 1) (xC (.int 7)))) (xtAnd (xBl (xOp (dCmp pLt) (xVar 2) (xC (.int 6)))) (xBl (xOp (dEqO 0 m_Curve___eq__) (xCall m_Lsimple (xCons (xVar 1) (xCons (xVar 3) xNil))) (xCall m_Lis_double (xCons (xVar 1) (xCons (xVar 3) xNil)))))))) (sRet [0] (xC (.bl false))) sNil) (sSeq (sIf (xtNot (xTru (xCall m_Lcurve_right (xCons (xVar 1) (xCons (xVar 5) (xCons (xC (.bl false)) xNil)))))) (sRet [0] (xC (.bl false))) sNil) (sSeq (sSetZ 0 6 (zDraw 0 m_Lrandom (zCons 0 (zPure [0] 0 (xVar 2)) (zNil 0)))) (sSeq (sSetZ 0 7 (zOp 0 dAdd (zOp 0 dAdd (zPure [0] 0 (xSl (xVar 3) xoN (xoS (xVar 6)))) (zLst (zCons 0 (zDraw 0 m_Lrandom (zCons 0 (zPure [0] 0 (xVar 1)) (zNil 0))) (zNil 0)))) (zPure [0] 0 (xSl (xVar 3) (xoS (xOp dAdd (xVar 6) (xC (.int 1)))) xoN)))) (sSeq (sIf (xtAnd (xTru (xCall m_Lsimple (xCons (xVar 1) (xCons (xVar 3) xNil)))) (xtAnd (xTru (xCall m_Lsimple (xCons (xVar 1) (xCons (xVar 7) xNil)))) (xBl (xOp (dNeO 0 m_Curve___eq__) (xOp (dEqO 0 m_Curve___eq__) (xCall m_Curve___init__ (xCons (xVar 1) (xCons (xVar 3) xNil))) (xCall m_Curve___init__ (xCons (xVar 1) (xCons (xVar 7) xNil)))) (xOp (dEqO 0 m_Curve___eq__) (xVar 3) (xVar 7)))))) (sRet [0] (xC (.bl false))) sNil) (sSeq (sSet [0] 8 (xLst (xCons (xOp dAdd (xOp dAdd (xVar 3) (xOp dMul (xLst (xCons (xC (.int 0)) xNil)) (xOp dSub (xC (.int 8)) (xVar 2)))) (xLst (xCons (xC (.int 1)) xNil))) (xCons (xOp dAdd (xOp dAdd (xVar 3) (xOp dMul (xLst (xCons (xC (.int 0)) xNil)) (xOp dSub (xC (.int 10)) (xVar 2)))) (xLst (xCons (xC (.int 1)) xNil))) (xCons (xOp dAdd (xOp dAdd (xVar 3) (xOp dMul (xLst (xCons (xC (.int 0)) xNil)) (xOp dSub (xC (.int 58)) (xVar 2)))) (xLst (xCons (xC (.int 1)) xNil))) xNil))))) (sSeq (sFor [0] (xiL (xOp dAdd (xVar 8) (xLst (xCons (xSl (xVar 3) (xoS (xC (.int 1))) xoN) (xCons (xOp dAdd (xVar 3) (xLst (xCons (xC (.int 1)) xNil))) (xCons (xOp dAdd (xSl (xVar 3) xoN (xoS (xUn dNeg (xC (.int 1))))) (xLst (xCons (xC (.int 2)) xNil))) (xCons (xLst xNil) (xCons (xLst (xCons (xC (.int 1)) xNil)) (xCons (xC .non) (xCons (xB (on1 dTuple) (xCons (xVar 3) xNil)) (xCons (xC (.str "11")) (xCons (xOp dMul (xLst (xCons (xC .non) xNil)) (xOp dAdd (xVar 2) (xC (.int 1)))) (xCons (xOp dMul (xLst (xCons (xC (.bl true)) xNil)) (xOp dAdd (xVar 2) (xC (.int 1)))) (xCons (xOp dAdd (xLst (xCons (xVar 1) xNil)) (xSl (xVar 3) (xoS (xC (.int 1))) xoN)) (xCons (xOp dAdd (xOp dAdd (xOp dAdd (xSl (xVar 3) xoN (xoS (xC (.int 1)))) (xLst (xCons (xUn dNeg (xC (.int 1))) xNil))) (xOp dMul (xLst (xCons (xC (.int 0)) xNil)) (xOp dSub (xVar 2) (xC (.int 2))))) (xLst (xCons (xC (.int 1)) xNil))) xNil))))))))))))))) (bName 9) (sSeq (sIf (xtAnd (xTru (xUn (dIsi "list") (xVar 9))) (xtAnd (xBl (xOp (dIn false) (xB (on1 dLen) (xCons (xVar 9) xNil)) (xLst (xCons (xC (.int 2)) (xCons (xC (.int 4)) (xCons (xC (.int 6)) (xCons (xC (.int 8)) xNil))))))) (xtAnd (xBl (xOp (dEqO 0 m_Curve___eq__) (xOp dIx (xVar 9) (xUn dNeg (xC (.int 1)))) (xC (.int 1)))) (xBl (xOp (dEqO 0 m_Curve___eq__) (xComp (xiL (xVar 9)) (bName 11) [11] (xtOr (xTru (xUn (dIsi "bool") (xVar 11))) (xtOr (xtNot (xTru (xUn (dIsi "int") (xVar 11)))) (xtNot (xBl (xChain (dCmp pLe) (dCmp pLt) (xC (.int 0)) (xVar 11) (xVar 1)))))) (xVar 11)) (xLst xNil)))))) (fun s => some (.ct s)) sNil) (sIf (xtNot (xTru (xCall m_Lcurve_right (xCons (xVar 1) (xCons (xVar 9) (xCons (xC (.bl false)) xNil)))))) (sRet [0] (xC (.bl false))) sNil))) (sRet [0] (xC (.bl true)))))))))))))))) F sc_Lright (by decide) (by decide) (by decide) rfl rfl fun f cdv A outer s H E hr hgd => (css_cons (cs_setZ 1 (ces_draw K_Lprime (Nat.le_of_ble_eq_true rfl) (fun _ => passL) cas_nil) (fun _ => sc_Lright.nd)) (css_cons (cs_setZ 2 (ces_ix (ces_pure (ce_lst (ca_cons ce_int (ca_cons ce_int (ca_cons ce_int (ca_cons ce_int ca_nil)))))) (ces_draw K_Lrandom (Nat.le_of_ble_eq_true rfl) (fun _ => passL) (cas_cons (ces_pure ce_int) cas_nil))) (fun _ => sc_Lright.nd)) (css_cons (cs_setZ 3 (ces_add (ces_comp N_Lright (defScope s_Lright) [("_law_turn", 10)] [] (ciz_pure' (ci_rng1 (ca_cons (ce_var 2) ca_nil) B.range)) (cgz_name 10 (fun _ => sc_Lright.nd)) (ces_draw K_Lrandom (Nat.le_of_ble_eq_true rfl) (fun _ => passL) (cas_cons (ces_pure (ce_var 1)) cas_nil)) (hNd := (fun _ => sc_Lright.nd))) (ces_pure (ce_lst (ca_cons ce_int ca_nil)))) (fun _ => sc_Lright.nd)) (css_cons (cs_setZ 4 (ces_lst (cas_cons (ces_draw K_Lrandom (Nat.le_of_ble_eq_true rfl) (fun _ => passL) (cas_cons (ces_pure (ce_var 1)) cas_nil)) (cas_cons (ces_pure ce_int) cas_nil))) (fun _ => sc_Lright.nd)) (css_cons (cs_setZ 5 (ces_cal K_Ltimes (Nat.le_of_ble_eq_true rfl) (fun _ => passL) (cas_cons (ces_pure (ce_var 1)) (cas_cons (ces_pure (ce_cal K_Ltimes (Nat.le_of_ble_eq_true rfl) (fun _ => passL) (ca_cons (ce_var 1) (ca_cons (ce_var 4) (ca_cons (ce_var 4) ca_nil))))) (cas_cons (ces_if (ct_lt (ce_var 2) ce_int) (ces_lst (cas_cons (ces_draw K_Lrandom (Nat.le_of_ble_eq_true rfl) (fun _ => passL) (cas_cons (ces_pure (ce_var 1)) cas_nil)) (cas_cons (ces_pure ce_int) cas_nil))) (ces_add (ces_comp N_Lright (defScope s_Lright) [("_law_turn", 10)] [] (ciz_pure' (ci_rng1 (ca_cons ce_int ca_nil) B.range)) (cgz_name 10 (fun _ => sc_Lright.nd)) (ces_draw K_Lrandom (Nat.le_of_ble_eq_true rfl) (fun _ => passL) (cas_cons (ces_pure (ce_var 1)) cas_nil)) (hNd := (fun _ => sc_Lright.nd))) (ces_pure (ce_lst (ca_cons ce_int ca_nil))))) cas_nil)))) (fun _ => sc_Lright.nd)) (css_cons (cs_if (cw_ct (cw_or (ct_not (ct_tru (ce_calGd K_Lcurve_right (fun _ => hgd) (Nat.le_of_ble_eq_true rfl) (fun _ => passL) (ca_cons (ce_var 1) (ca_cons (ce_var 3) (ca_cons (ce_cal K_Lsimple (Nat.le_of_ble_eq_true rfl) (fun _ => passL) (ca_cons (ce_var 1) (ca_cons (ce_var 3) ca_nil))) ca_nil)))))) (cw_or1 (cw_ct (cw_and (ct_lt (ce_var 1) ce_int) (cw_and (ct_lt (ce_var 2) ce_int) (cw_and1 (ct_eqO O_Curve K_Curve___eq__ (Nat.le_of_ble_eq_true rfl) (fun _ => passL) (ce_cal K_Lsimple (Nat.le_of_ble_eq_true rfl) (fun _ => passL) (ca_cons (ce_var 1) (ca_cons (ce_var 3) ca_nil))) (ce_cal K_Lis_double (Nat.le_of_ble_eq_true rfl) (fun _ => passL) (ca_cons (ce_var 1) (ca_cons (ce_var 3) ca_nil))))))))))) (css_one (cs_ret [] ce_bl)) css_nil) (css_cons (cs_if (ct_not (ct_tru (ce_calGd K_Lcurve_right (fun _ => hgd) (Nat.le_of_ble_eq_true rfl) (fun _ => passL) (ca_cons (ce_var 1) (ca_cons (ce_var 5) (ca_cons ce_bl ca_nil)))))) (css_one (cs_ret [] ce_bl)) css_nil) (css_cons (cs_setZ 6 (ces_draw K_Lrandom (Nat.le_of_ble_eq_true rfl) (fun _ => passL) (cas_cons (ces_pure (ce_var 2)) cas_nil)) (fun _ => sc_Lright.nd)) (css_cons (cs_setZ 7 (ces_add (ces_add (ces_pure (ce_sl (ce_var 3) co_n (co_s (ce_var 6)))) (ces_lst (cas_cons (ces_draw K_Lrandom (Nat.le_of_ble_eq_true rfl) (fun _ => passL) (cas_cons (ces_pure (ce_var 1)) cas_nil)) cas_nil))) (ces_pure (ce_sl (ce_var 3) (co_s (ce_add (ce_var 6) ce_int)) co_n))) (fun _ => sc_Lright.nd)) (css_cons (cs_if (cw_ct (cw_and (ct_tru (ce_cal K_Lsimple (Nat.le_of_ble_eq_true rfl) (fun _ => passL) (ca_cons (ce_var 1) (ca_cons (ce_var 3) ca_nil)))) (cw_and (ct_tru (ce_cal K_Lsimple (Nat.le_of_ble_eq_true rfl) (fun _ => passL) (ca_cons (ce_var 1) (ca_cons (ce_var 7) ca_nil)))) (cw_and1 (ct_neO O_Curve NE_Curve K_Curve___eq__ (Nat.le_of_ble_eq_true rfl) (fun _ => passL) (ce_eqO O_Curve K_Curve___eq__ (Nat.le_of_ble_eq_true rfl) (fun _ => passL) (ce_make K_Curve___init__ (Nat.le_of_ble_eq_true rfl) (fun _ => passL) (ca_cons (ce_var 1) (ca_cons (ce_var 3) ca_nil))) (ce_make K_Curve___init__ (Nat.le_of_ble_eq_true rfl) (fun _ => passL) (ca_cons (ce_var 1) (ca_cons (ce_var 7) ca_nil)))) (ce_eqO O_Curve K_Curve___eq__ (Nat.le_of_ble_eq_true rfl) (fun _ => passL) (ce_var 3) (ce_var 7))))))) (css_one (cs_ret [] ce_bl)) css_nil) (css_cons (cs_set 8 (ce_lst (ca_cons (ce_add (ce_add (ce_var 3) (ce_mul (ce_lst (ca_cons ce_int ca_nil)) (ce_sub ce_int (ce_var 2)))) (ce_lst (ca_cons ce_int ca_nil))) (ca_cons (ce_add (ce_add (ce_var 3) (ce_mul (ce_lst (ca_cons ce_int ca_nil)) (ce_sub ce_int (ce_var 2)))) (ce_lst (ca_cons ce_int ca_nil))) (ca_cons (ce_add (ce_add (ce_var 3) (ce_mul (ce_lst (ca_cons ce_int ca_nil)) (ce_sub ce_int (ce_var 2)))) (ce_lst (ca_cons ce_int ca_nil))) ca_nil)))) (fun _ => sc_Lright.nd)) (css_cons (cs_for (ci_list (ce_add (ce_var 8) (ce_lst (ca_cons (ce_sl (ce_var 3) (co_s ce_int) co_n) (ca_cons (ce_add (ce_var 3) (ce_lst (ca_cons ce_int ca_nil))) (ca_cons (ce_add (ce_sl (ce_var 3) co_n (co_s (ce_neg ce_int))) (ce_lst (ca_cons ce_int ca_nil))) (ca_cons (ce_lst ca_nil) (ca_cons (ce_lst (ca_cons ce_int ca_nil)) (ca_cons ce_non (ca_cons (ce_tupleC B (ca_cons (ce_var 3) ca_nil)) (ca_cons ce_str (ca_cons (ce_mul (ce_lst (ca_cons ce_non ca_nil)) (ce_add (ce_var 2) ce_int)) (ca_cons (ce_mul (ce_lst (ca_cons ce_bl ca_nil)) (ce_add (ce_var 2) ce_int)) (ca_cons (ce_add (ce_lst (ca_cons (ce_var 1) ca_nil)) (ce_sl (ce_var 3) (co_s ce_int) co_n)) (ca_cons (ce_add (ce_add (ce_add (ce_sl (ce_var 3) co_n (co_s ce_int)) (ce_lst (ca_cons (ce_neg ce_int) ca_nil))) (ce_mul (ce_lst (ca_cons ce_int ca_nil)) (ce_sub (ce_var 2) ce_int))) (ce_lst (ca_cons ce_int ca_nil))) ca_nil))))))))))))))) (cgs_name 9 (fun _ => sc_Lright.nd)) (css_cons (cs_if (cw_ct (cw_and (ct_tru (ce_isi (ce_var 9) B.isinstance B.list (by decide +kernel))) (cw_and (ct_in (ce_len B (ca_cons (ce_var 9) ca_nil)) (ce_lst (ca_cons ce_int (ca_cons ce_int (ca_cons ce_int (ca_cons ce_int ca_nil)))))) (cw_and (ct_eqO O_Curve K_Curve___eq__ (Nat.le_of_ble_eq_true rfl) (fun _ => passL) (ce_ix (ce_var 9) (ce_neg ce_int)) ce_int) (cw_and1 (ct_eqO O_Curve K_Curve___eq__ (Nat.le_of_ble_eq_true rfl) (fun _ => passL) (ce_comp N_Lright (defScope s_Lright) [("_law_item", 11)] (ci_list (ce_var 9)) (cg_name 11 (fun _ => sc_Lright.nd)) (cts_one (cw_ct (cw_or (ct_tru (ce_isi (ce_var 11) B.isinstance B.bool (by decide +kernel))) (cw_or (ct_not (ct_tru (ce_isi (ce_var 11) B.isinstance B.int (by decide +kernel)))) (cw_or1 (ct_not (ct_chain (fun _ => op_le) (fun _ => op_lt) rv_cmp rv_cmp ce_int (ce_var 11) (ce_var 1)))))))) (ce_var 11) (hNd := fun _ => sc_Lright.nd)) (ce_lst ca_nil))))))) (css_one cs_cont) css_nil) (css_one (cs_if (ct_not (ct_tru (ce_calGd K_Lcurve_right (fun _ => hgd) (Nat.le_of_ble_eq_true rfl) (fun _ => passL) (ca_cons (ce_var 1) (ca_cons (ce_var 9) (ca_cons ce_bl ca_nil)))))) (css_one (cs_ret [] ce_bl)) css_nil))) (fun _ => passes_of rfl)) (css_one (cs_ret [] ce_bl))))))))))))))
/-! law -/
abbrev s_law : Stmt := top 51
abbrev N_law : List Str := ["_law_script", "_law_index"]
theorem sc_law : FnScope N_law ["_law_script"] (defScope s_law) := ⟨rfl, rfl, rfl, by decide +kernel, rfl, by decide +kernel, by decide +kernel⟩
def e_law : Expr := match defBody s_law with
  | [_, .Return (some e) _] => e
  | _ => .Constant .none 0 ⟨0, 0, 0, 0⟩
def f_law : XE := (xAnd (xOp dIs (xOp (dEqO 0 m_Curve___eq__) (xCall m_Curve___init__ (xCons (xC (.int 3)) (xCons (xLst (xCons (xC (.int 0)) (xCons (xC (.int 1)) xNil))) xNil))) (xCall m_Curve___init__ (xCons (xC (.int 5)) (xCons (xLst (xCons (xC (.int 0)) (xCons (xC (.int 1)) xNil))) xNil)))) (xC (.bl false))) (xAnd (xOp (dEqO 0 m_Curve___eq__) (xMeth0 0 m_Curve_genus (xCall m_Curve___init__ (xCons (xC (.int 7)) (xCons (xLst (xCons (xC (.int 3)) (xCons (xC (.int 1)) xNil))) xNil)))) (xC (.int 0))) (xOp (dEqO 0 m_Curve___eq__) (xMeth0 0 m_Curve_genus (xCall m_Curve___init__ (xCons (xC (.int 13)) (xCons (xLst (xCons (xC (.int 1)) (xCons (xC (.int 0)) (xCons (xC (.int 0)) (xCons (xC (.int 0)) (xCons (xC (.int 0)) (xCons (xC (.int 0)) (xCons (xC (.int 0)) (xCons (xC (.int 1)) xNil))))))))) xNil)))) (xC (.int 3)))))
theorem ok_law (B : Bi mg) {ad : Addr} {fd : FuncData} (F : Fun K "law" "law" s_law ad fd) (KR : CalGG P w K mg base T "_law_right" 9 ["_law_generator_here"] m_Lright) (KG : CalS P w K mg base "_law_generator" 2 ["_law_script", "_law_index"] (spGenB K)) (K_Curve___init__ : CalK P w K mg base T 0 "Curve" 5 ["self", "p", "f"] m_Curve___init__) (K_Curve___eq__ : CalM P w K mg base T 0 "__eq__" 1 ["self", "other"] m_Curve___eq__) (K_Curve_genus : CalM P w K mg base T 0 "genus" 1 ["self"] m_Curve_genus) (O_Curve : ClsOk K T 0 ns_Curve)
    (hret : f_law [none, none] = some (.bl true)) : FnG P w K mg base (L2.CX P w) 10 ad fd ["_law_script"] (spLawT K 3 m_Lright) := by
  obtain ⟨ar, fr, Fr, hmr, hkr, hbr⟩ := KR
  obtain ⟨ag, fg, Fg, hmg, hkg, hbg⟩ := KG
  refine FnG.okX F sc_law lawT_len fun cdv A outer s H vs Q E hgd hr h => ?_
  have hce : CE (fam P w K mg base N_law "law" (defScope s_law) ad 9 cdv A outer s H E hr) T e_law f_law := (ce_and (ce_is (ce_eqO O_Curve K_Curve___eq__ (Nat.le_of_ble_eq_true rfl) (fun _ => passL) (ce_make K_Curve___init__ (Nat.le_of_ble_eq_true rfl) (fun _ => passL) (ca_cons ce_int (ca_cons (ce_lst (ca_cons ce_int (ca_cons ce_int ca_nil))) ca_nil))) (ce_make K_Curve___init__ (Nat.le_of_ble_eq_true rfl) (fun _ => passL) (ca_cons ce_int (ca_cons (ce_lst (ca_cons ce_int (ca_cons ce_int ca_nil))) ca_nil)))) ce_bl) (ce_and (ce_eqO O_Curve K_Curve___eq__ (Nat.le_of_ble_eq_true rfl) (fun _ => passL) (ce_meth0 O_Curve K_Curve_genus (Nat.le_of_ble_eq_true rfl) (fun _ => passL) (ce_make K_Curve___init__ (Nat.le_of_ble_eq_true rfl) (fun _ => passL) (ca_cons ce_int (ca_cons (ce_lst (ca_cons ce_int (ca_cons ce_int ca_nil))) ca_nil)))) ce_int) (ce_one (ce_eqO O_Curve K_Curve___eq__ (Nat.le_of_ble_eq_true rfl) (fun _ => passL) (ce_meth0 O_Curve K_Curve_genus (Nat.le_of_ble_eq_true rfl) (fun _ => passL) (ce_make K_Curve___init__ (Nat.le_of_ble_eq_true rfl) (fun _ => passL) (ca_cons ce_int (ca_cons (ce_lst (ca_cons ce_int (ca_cons ce_int (ca_cons ce_int (ca_cons ce_int (ca_cons ce_int (ca_cons ce_int (ca_cons ce_int (ca_cons ce_int ca_nil))))))))) ca_nil)))) ce_int))))
  obtain ⟨te, hte, hv⟩ := hce
  refine ⟨tLawT K T 3 m_Lright te, ?_, law_runT (by decide) (fun σ hl H => hv [none, none] σ (fun _ => none) H _ (fun _ _ z => (by cases z)) ⟨by rw [hl]; rfl, fun i d hi => by rcases i with _ | _ | i <;> simp at hi⟩ hret) h⟩
  exact pss_cons (ps_for (passes_of rfl) rfl (pi_range1 rfl B.range (pa_cons pe_int pa_nil)) (pg_name (i := 1) sc_law.nd rfl (Or.inl rfl))
      (pss_cons (ps_if (pt_not (pt_truth (pe_callGd Fr hgd (hr.mono (Nat.le_of_ble_eq_true rfl)) rfl hmr hkr hbr passL (pa_cons (pe_call Fg (hr.mono (Nat.le_of_ble_eq_true rfl)) rfl hmg hkg hbg .nil passL (pa_cons (pv 0) (pa_cons (pv 1) pa_nil))) pa_nil)) fun _ => rfl))
        (pss_cons (ps_ret pe_bl) pss_nil) pss_nil) pss_nil))
    (pss_cons (ps_ret (hte ())) pss_nil)
end
end G7

set_option Elab.async false
set_option linter.all false
set_option maxRecDepth 100000
set_option maxHeartbeats 4000000
namespace G7
open PySem PySem.Spec PyProof.Rows L2 Mr
theorem f_law_true : f_law [none, none] = some (.bl true) := by kernel_rfl
theorem all_mk {P : Program} {w : World} {K : PySem.W.Frag} {h : Heap} {mg : Str → Option Value} (X : K.In h) (G : h.Ns mainGlobals mg) {C CB E0 E1 fI tD : Addr} {f_is_whole : Addr} {od_is_whole an_is_whole : Option Addr} {sl_is_whole : Array (Option Value)} {oc_is_whole kV_is_whole dc_is_whole pm_is_whole cd_is_whole ct_is_whole : Value} {f_is_number : Addr} {od_is_number an_is_number : Option Addr} {sl_is_number : Array (Option Value)} {oc_is_number kV_is_number dc_is_number pm_is_number cd_is_number ct_is_number : Value} {f_is_polynomial : Addr} {od_is_polynomial an_is_polynomial : Option Addr} {sl_is_polynomial : Array (Option Value)} {oc_is_polynomial kV_is_polynomial dc_is_polynomial pm_is_polynomial cd_is_polynomial ct_is_polynomial : Value} {f_poly_trimmed : Addr} {od_poly_trimmed an_poly_trimmed : Option Addr} {sl_poly_trimmed : Array (Option Value)} {oc_poly_trimmed kV_poly_trimmed dc_poly_trimmed pm_poly_trimmed cd_poly_trimmed ct_poly_trimmed : Value} {f_inverse : Addr} {od_inverse an_inverse : Option Addr} {sl_inverse : Array (Option Value)} {oc_inverse kV_inverse dc_inverse pm_inverse cd_inverse ct_inverse : Value} {f_poly_monic : Addr} {od_poly_monic an_poly_monic : Option Addr} {sl_poly_monic : Array (Option Value)} {oc_poly_monic kV_poly_monic dc_poly_monic pm_poly_monic cd_poly_monic ct_poly_monic : Value} {f_poly_divided : Addr} {od_poly_divided an_poly_divided : Option Addr} {sl_poly_divided : Array (Option Value)} {oc_poly_divided kV_poly_divided dc_poly_divided pm_poly_divided cd_poly_divided ct_poly_divided : Value} {f_poly_common : Addr} {od_poly_common an_poly_common : Option Addr} {sl_poly_common : Array (Option Value)} {oc_poly_common kV_poly_common dc_poly_common pm_poly_common cd_poly_common ct_poly_common : Value} {f_poly_slope : Addr} {od_poly_slope an_poly_slope : Option Addr} {sl_poly_slope : Array (Option Value)} {oc_poly_slope kV_poly_slope dc_poly_slope pm_poly_slope cd_poly_slope ct_poly_slope : Value} {f_is_curve_polynomial : Addr} {od_is_curve_polynomial an_is_curve_polynomial : Option Addr} {sl_is_curve_polynomial : Array (Option Value)} {oc_is_curve_polynomial kV_is_curve_polynomial dc_is_curve_polynomial pm_is_curve_polynomial cd_is_curve_polynomial ct_is_curve_polynomial : Value} {f_check_prime : Addr} {od_check_prime an_check_prime : Option Addr} {sl_check_prime : Array (Option Value)} {oc_check_prime kV_check_prime dc_check_prime pm_check_prime cd_check_prime ct_check_prime : Value} {f_Curve___init__ : Addr} {od_Curve___init__ an_Curve___init__ : Option Addr} {sl_Curve___init__ : Array (Option Value)} {oc_Curve___init__ kV_Curve___init__ dc_Curve___init__ pm_Curve___init__ cd_Curve___init__ ct_Curve___init__ : Value} {f_Curve_prime : Addr} {od_Curve_prime an_Curve_prime : Option Addr} {sl_Curve_prime : Array (Option Value)} {oc_Curve_prime kV_Curve_prime dc_Curve_prime pm_Curve_prime cd_Curve_prime ct_Curve_prime : Value} {f_Curve_polynomial : Addr} {od_Curve_polynomial an_Curve_polynomial : Option Addr} {sl_Curve_polynomial : Array (Option Value)} {oc_Curve_polynomial kV_Curve_polynomial dc_Curve_polynomial pm_Curve_polynomial cd_Curve_polynomial ct_Curve_polynomial : Value} {f_Curve_genus : Addr} {od_Curve_genus an_Curve_genus : Option Addr} {sl_Curve_genus : Array (Option Value)} {oc_Curve_genus kV_Curve_genus dc_Curve_genus pm_Curve_genus cd_Curve_genus ct_Curve_genus : Value} {f_Curve___eq__ : Addr} {od_Curve___eq__ an_Curve___eq__ : Option Addr} {sl_Curve___eq__ : Array (Option Value)} {oc_Curve___eq__ kV_Curve___eq__ dc_Curve___eq__ pm_Curve___eq__ cd_Curve___eq__ ct_Curve___eq__ : Value} {f_Lhash : Addr} {od_Lhash an_Lhash : Option Addr} {sl_Lhash : Array (Option Value)} {oc_Lhash kV_Lhash dc_Lhash pm_Lhash cd_Lhash ct_Lhash : Value} {f_Lrandom : Addr} {od_Lrandom an_Lrandom : Option Addr} {sl_Lrandom : Array (Option Value)} {oc_Lrandom kV_Lrandom dc_Lrandom pm_Lrandom cd_Lrandom ct_Lrandom : Value} {f_L_cell : Addr} {od_L_cell an_L_cell : Option Addr} {sl_L_cell : Array (Option Value)} {oc_L_cell kV_L_cell dc_L_cell pm_L_cell cd_L_cell ct_L_cell : Value} {f_L_generator : Addr} {od_L_generator an_L_generator : Option Addr} {sl_L_generator : Array (Option Value)} {oc_L_generator kV_L_generator dc_L_generator pm_L_generator cd_L_generator ct_L_generator : Value} {f_Lprime : Addr} {od_Lprime an_Lprime : Option Addr} {sl_Lprime : Array (Option Value)} {oc_Lprime kV_Lprime dc_Lprime pm_Lprime cd_Lprime ct_Lprime : Value} {f_Ltrim : Addr} {od_Ltrim an_Ltrim : Option Addr} {sl_Ltrim : Array (Option Value)} {oc_Ltrim kV_Ltrim dc_Ltrim pm_Ltrim cd_Ltrim ct_Ltrim : Value} {f_Lplus : Addr} {od_Lplus an_Lplus : Option Addr} {sl_Lplus : Array (Option Value)} {oc_Lplus kV_Lplus dc_Lplus pm_Lplus cd_Lplus ct_Lplus : Value} {f_Ltimes : Addr} {od_Ltimes an_Ltimes : Option Addr} {sl_Ltimes : Array (Option Value)} {oc_Ltimes kV_Ltimes dc_Ltimes pm_Ltimes cd_Ltimes ct_Ltimes : Value} {f_Lback : Addr} {od_Lback an_Lback : Option Addr} {sl_Lback : Array (Option Value)} {oc_Lback kV_Lback dc_Lback pm_Lback cd_Lback ct_Lback : Value} {f_Lparted : Addr} {od_Lparted an_Lparted : Option Addr} {sl_Lparted : Array (Option Value)} {oc_Lparted kV_Lparted dc_Lparted pm_Lparted cd_Lparted ct_Lparted : Value} {f_Lrest : Addr} {od_Lrest an_Lrest : Option Addr} {sl_Lrest : Array (Option Value)} {oc_Lrest kV_Lrest dc_Lrest pm_Lrest cd_Lrest ct_Lrest : Value} {f_Lmonics : Addr} {od_Lmonics an_Lmonics : Option Addr} {sl_Lmonics : Array (Option Value)} {oc_Lmonics kV_Lmonics dc_Lmonics pm_Lmonics cd_Lmonics ct_Lmonics : Value} {f_Lcommon : Addr} {od_Lcommon an_Lcommon : Option Addr} {sl_Lcommon : Array (Option Value)} {oc_Lcommon kV_Lcommon dc_Lcommon pm_Lcommon cd_Lcommon ct_Lcommon : Value} {f_Lis_double : Addr} {od_Lis_double an_Lis_double : Option Addr} {sl_Lis_double : Array (Option Value)} {oc_Lis_double kV_Lis_double dc_Lis_double pm_Lis_double cd_Lis_double ct_Lis_double : Value} {f_Lsimple : Addr} {od_Lsimple an_Lsimple : Option Addr} {sl_Lsimple : Array (Option Value)} {oc_Lsimple kV_Lsimple dc_Lsimple pm_Lsimple cd_Lsimple ct_Lsimple : Value} {f_L_made : Addr} {od_L_made an_L_made : Option Addr} {sl_L_made : Array (Option Value)} {oc_L_made kV_L_made dc_L_made pm_L_made cd_L_made ct_L_made : Value} {f_Lcurve_right : Addr} {od_Lcurve_right an_Lcurve_right : Option Addr} {sl_Lcurve_right : Array (Option Value)} {oc_Lcurve_right kV_Lcurve_right dc_Lcurve_right pm_Lcurve_right cd_Lcurve_right ct_Lcurve_right : Value} {f_Lright : Addr} {od_Lright an_Lright : Option Addr} {sl_Lright : Array (Option Value)} {oc_Lright kV_Lright dc_Lright pm_Lright cd_Lright ct_Lright : Value} {f_law : Addr} {od_law an_law : Option Addr} {sl_law : Array (Option Value)} {oc_law kV_law dc_law pm_law cd_law ct_law : Value} {odI anI : Option Addr} {slI : Array (Option Value)} {ocI kVI dcI pmI cdI ctI : Value} {oD : Obj} {mD : Nat} {nm0 q0 : Str} {N0 : Addr} {bs0 bm0 : List Value} {sn0 : List Str} {sub0 : List Value} {ab0 : Bool} {col0 : Option Bool} {dd0 : Option Addr} {m00 m10 m20 m30 m50 : Option Value} {nm1 q1 : Str} {N1 : Addr} {bs1 bm1 : List Value} {sn1 : List Str} {sub1 : List Value} {ab1 : Bool} {col1 : Option Bool} {dd1 : Option Addr} {m01 m11 m21 m31 m51 : Option Value} {t_PRIMES : Addr} {o_PRIMES : Obj} {u_PRIMES : Nat} {wPRIMES0 : Tok} {wPRIMES1 : Tok} {wPRIMES2 : Tok} {wPRIMES3 : Tok} {wPRIMES4 : Tok} {wSHORT_QUOTIENT : Tok} {t_POWERS : Addr} {o_POWERS : Obj} {u_POWERS : Nat} {wPOWERS0 : Tok} {wPOWERS1 : Tok} {wPOWERS2 : Tok} {wPOWERS3 : Tok}
    (z_len : PySem.W.nsIn K mainGlobals "len" = some none)
    (z_list : PySem.W.nsIn K mainGlobals "list" = some none)
    (z_tuple : PySem.W.nsIn K mainGlobals "tuple" = some none)
    (z_range : PySem.W.nsIn K mainGlobals "range" = some none)
    (z_enumerate : PySem.W.nsIn K mainGlobals "enumerate" = some none)
    (z_zip : PySem.W.nsIn K mainGlobals "zip" = some none)
    (z_reversed : PySem.W.nsIn K mainGlobals "reversed" = some none)
    (z_int : PySem.W.nsIn K mainGlobals "int" = some none)
    (z_bool : PySem.W.nsIn K mainGlobals "bool" = some none)
    (z_isinstance : PySem.W.nsIn K mainGlobals "isinstance" = some none)
    (z_all : PySem.W.nsIn K mainGlobals "all" = some none)
    (z_sum : PySem.W.nsIn K mainGlobals "sum" = some none)
    (z_max : PySem.W.nsIn K mainGlobals "max" = some none)
    (z_min : PySem.W.nsIn K mainGlobals "min" = some none)
    (z_repr : PySem.W.nsIn K mainGlobals "repr" = some none)
    (cln : PySem.W.specialIn  K (.builtin "object.__class__") "__get__" = some (some (.builtin "getset_descriptor.__get__")))
    (clt : PySem.W.takesIn  K (.builtin "object.__class__") = some true)
    (gC : PySem.W.nsIn K mainGlobals "Curve" = some (some (.ref C)))
    (pg : PySem.W.plainGet K C Str.empty = true)
    (hd : PySem.W.hasDictIn K C = true)
    (po : PySem.W.plainOver K C = true)
    (sa : PySem.W.findIn K (.ref C) "__setattr__" = some (some (.builtin "object.__setattr__")))
    (kC : PySem.W.keepIn K (.ref C) = true)
    (mC : PySem.W.makesIn K C = true)
    (cla : PySem.W.findIn K (.ref C) "__class__" = some (some (.builtin "object.__class__")))
    (clm : PySem.W.mroIn K C (.type "object") = some true)
    (koS : PySem.W.kitOne K (.ref C) (.ref C) = some true)
    (no_prime : PySem.W.findIn K (.ref C) "_prime" = some none)
    (no_numbers : PySem.W.findIn K (.ref C) "_numbers" = some none)
    (ko_NoneType : PySem.W.kitOne K (.type "NoneType") (.ref C) = some false)
    (nf_NoneType : PySem.W.notFirst K C (.type "NoneType") = true)
    (ko_bool : PySem.W.kitOne K (.type "bool") (.ref C) = some false)
    (nf_bool : PySem.W.notFirst K C (.type "bool") = true)
    (ko_int : PySem.W.kitOne K (.type "int") (.ref C) = some false)
    (nf_int : PySem.W.notFirst K C (.type "int") = true)
    (ko_str : PySem.W.kitOne K (.type "str") (.ref C) = some false)
    (nf_str : PySem.W.notFirst K C (.type "str") = true)
    (ko_list : PySem.W.kitOne K (.type "list") (.ref C) = some false)
    (nf_list : PySem.W.notFirst K C (.type "list") = true)
    (ko_tuple : PySem.W.kitOne K (.type "tuple") (.ref C) = some false)
    (nf_tuple : PySem.W.notFirst K C (.type "tuple") = true)
    (neC : PySem.W.findIn K (.ref C) "__ne__" = some (some (.builtin "object.__ne__")))
    (a_is_whole : PySem.W.nsIn K mainGlobals "is_whole" = some (some (.ref f_is_whole)))
    (l_is_whole : K.lookup f_is_whole = some ⟨oc_is_whole, od_is_whole, .func (PySem.W.fnOf "is_whole" "is_whole" (defArgs s_is_whole) (defBody s_is_whole) (defScope s_is_whole) .none kV_is_whole dc_is_whole pm_is_whole an_is_whole cd_is_whole ct_is_whole), sl_is_whole⟩)
    (c_is_whole : PySem.W.codeIn K cd_is_whole "is_whole" = true)
    (k_is_whole : PySem.W.keepIn K (.ref f_is_whole) = true)
    (a_is_number : PySem.W.nsIn K mainGlobals "is_number" = some (some (.ref f_is_number)))
    (l_is_number : K.lookup f_is_number = some ⟨oc_is_number, od_is_number, .func (PySem.W.fnOf "is_number" "is_number" (defArgs s_is_number) (defBody s_is_number) (defScope s_is_number) .none kV_is_number dc_is_number pm_is_number an_is_number cd_is_number ct_is_number), sl_is_number⟩)
    (c_is_number : PySem.W.codeIn K cd_is_number "is_number" = true)
    (k_is_number : PySem.W.keepIn K (.ref f_is_number) = true)
    (a_is_polynomial : PySem.W.nsIn K mainGlobals "is_polynomial" = some (some (.ref f_is_polynomial)))
    (l_is_polynomial : K.lookup f_is_polynomial = some ⟨oc_is_polynomial, od_is_polynomial, .func (PySem.W.fnOf "is_polynomial" "is_polynomial" (defArgs s_is_polynomial) (defBody s_is_polynomial) (defScope s_is_polynomial) .none kV_is_polynomial dc_is_polynomial pm_is_polynomial an_is_polynomial cd_is_polynomial ct_is_polynomial), sl_is_polynomial⟩)
    (c_is_polynomial : PySem.W.codeIn K cd_is_polynomial "is_polynomial" = true)
    (k_is_polynomial : PySem.W.keepIn K (.ref f_is_polynomial) = true)
    (a_poly_trimmed : PySem.W.nsIn K mainGlobals "poly_trimmed" = some (some (.ref f_poly_trimmed)))
    (l_poly_trimmed : K.lookup f_poly_trimmed = some ⟨oc_poly_trimmed, od_poly_trimmed, .func (PySem.W.fnOf "poly_trimmed" "poly_trimmed" (defArgs s_poly_trimmed) (defBody s_poly_trimmed) (defScope s_poly_trimmed) .none kV_poly_trimmed dc_poly_trimmed pm_poly_trimmed an_poly_trimmed cd_poly_trimmed ct_poly_trimmed), sl_poly_trimmed⟩)
    (c_poly_trimmed : PySem.W.codeIn K cd_poly_trimmed "poly_trimmed" = true)
    (k_poly_trimmed : PySem.W.keepIn K (.ref f_poly_trimmed) = true)
    (a_inverse : PySem.W.nsIn K mainGlobals "inverse" = some (some (.ref f_inverse)))
    (l_inverse : K.lookup f_inverse = some ⟨oc_inverse, od_inverse, .func (PySem.W.fnOf "inverse" "inverse" (defArgs s_inverse) (defBody s_inverse) (defScope s_inverse) .none kV_inverse dc_inverse pm_inverse an_inverse cd_inverse ct_inverse), sl_inverse⟩)
    (c_inverse : PySem.W.codeIn K cd_inverse "inverse" = true)
    (k_inverse : PySem.W.keepIn K (.ref f_inverse) = true)
    (a_poly_monic : PySem.W.nsIn K mainGlobals "poly_monic" = some (some (.ref f_poly_monic)))
    (l_poly_monic : K.lookup f_poly_monic = some ⟨oc_poly_monic, od_poly_monic, .func (PySem.W.fnOf "poly_monic" "poly_monic" (defArgs s_poly_monic) (defBody s_poly_monic) (defScope s_poly_monic) .none kV_poly_monic dc_poly_monic pm_poly_monic an_poly_monic cd_poly_monic ct_poly_monic), sl_poly_monic⟩)
    (c_poly_monic : PySem.W.codeIn K cd_poly_monic "poly_monic" = true)
    (k_poly_monic : PySem.W.keepIn K (.ref f_poly_monic) = true)
    (a_poly_divided : PySem.W.nsIn K mainGlobals "poly_divided" = some (some (.ref f_poly_divided)))
    (l_poly_divided : K.lookup f_poly_divided = some ⟨oc_poly_divided, od_poly_divided, .func (PySem.W.fnOf "poly_divided" "poly_divided" (defArgs s_poly_divided) (defBody s_poly_divided) (defScope s_poly_divided) .none kV_poly_divided dc_poly_divided pm_poly_divided an_poly_divided cd_poly_divided ct_poly_divided), sl_poly_divided⟩)
    (c_poly_divided : PySem.W.codeIn K cd_poly_divided "poly_divided" = true)
    (k_poly_divided : PySem.W.keepIn K (.ref f_poly_divided) = true)
    (a_poly_common : PySem.W.nsIn K mainGlobals "poly_common" = some (some (.ref f_poly_common)))
    (l_poly_common : K.lookup f_poly_common = some ⟨oc_poly_common, od_poly_common, .func (PySem.W.fnOf "poly_common" "poly_common" (defArgs s_poly_common) (defBody s_poly_common) (defScope s_poly_common) .none kV_poly_common dc_poly_common pm_poly_common an_poly_common cd_poly_common ct_poly_common), sl_poly_common⟩)
    (c_poly_common : PySem.W.codeIn K cd_poly_common "poly_common" = true)
    (k_poly_common : PySem.W.keepIn K (.ref f_poly_common) = true)
    (a_poly_slope : PySem.W.nsIn K mainGlobals "poly_slope" = some (some (.ref f_poly_slope)))
    (l_poly_slope : K.lookup f_poly_slope = some ⟨oc_poly_slope, od_poly_slope, .func (PySem.W.fnOf "poly_slope" "poly_slope" (defArgs s_poly_slope) (defBody s_poly_slope) (defScope s_poly_slope) .none kV_poly_slope dc_poly_slope pm_poly_slope an_poly_slope cd_poly_slope ct_poly_slope), sl_poly_slope⟩)
    (c_poly_slope : PySem.W.codeIn K cd_poly_slope "poly_slope" = true)
    (k_poly_slope : PySem.W.keepIn K (.ref f_poly_slope) = true)
    (a_is_curve_polynomial : PySem.W.nsIn K mainGlobals "is_curve_polynomial" = some (some (.ref f_is_curve_polynomial)))
    (l_is_curve_polynomial : K.lookup f_is_curve_polynomial = some ⟨oc_is_curve_polynomial, od_is_curve_polynomial, .func (PySem.W.fnOf "is_curve_polynomial" "is_curve_polynomial" (defArgs s_is_curve_polynomial) (defBody s_is_curve_polynomial) (defScope s_is_curve_polynomial) .none kV_is_curve_polynomial dc_is_curve_polynomial pm_is_curve_polynomial an_is_curve_polynomial cd_is_curve_polynomial ct_is_curve_polynomial), sl_is_curve_polynomial⟩)
    (c_is_curve_polynomial : PySem.W.codeIn K cd_is_curve_polynomial "is_curve_polynomial" = true)
    (k_is_curve_polynomial : PySem.W.keepIn K (.ref f_is_curve_polynomial) = true)
    (a_check_prime : PySem.W.nsIn K mainGlobals "check_prime" = some (some (.ref f_check_prime)))
    (l_check_prime : K.lookup f_check_prime = some ⟨oc_check_prime, od_check_prime, .func (PySem.W.fnOf "check_prime" "check_prime" (defArgs s_check_prime) (defBody s_check_prime) (defScope s_check_prime) .none kV_check_prime dc_check_prime pm_check_prime an_check_prime cd_check_prime ct_check_prime), sl_check_prime⟩)
    (c_check_prime : PySem.W.codeIn K cd_check_prime "check_prime" = true)
    (k_check_prime : PySem.W.keepIn K (.ref f_check_prime) = true)
    (a_Curve___init__ : PySem.W.findIn K (.ref C) "__init__" = some (some (.ref f_Curve___init__)))
    (l_Curve___init__ : K.lookup f_Curve___init__ = some ⟨oc_Curve___init__, od_Curve___init__, .func (PySem.W.fnOf "__init__" "Curve.__init__" (defArgs s_Curve___init__) (defBody s_Curve___init__) (defScope s_Curve___init__) .none kV_Curve___init__ dc_Curve___init__ pm_Curve___init__ an_Curve___init__ cd_Curve___init__ ct_Curve___init__), sl_Curve___init__⟩)
    (c_Curve___init__ : PySem.W.codeIn K cd_Curve___init__ "Curve.__init__" = true)
    (k_Curve___init__ : PySem.W.keepIn K (.ref f_Curve___init__) = true)
    (i_Curve___init__ : PySem.W.isFn K (.ref f_Curve___init__) = true)
    (a_Curve_prime : PySem.W.findIn K (.ref C) "prime" = some (some (.ref f_Curve_prime)))
    (l_Curve_prime : K.lookup f_Curve_prime = some ⟨oc_Curve_prime, od_Curve_prime, .func (PySem.W.fnOf "prime" "Curve.prime" (defArgs s_Curve_prime) (defBody s_Curve_prime) (defScope s_Curve_prime) .none kV_Curve_prime dc_Curve_prime pm_Curve_prime an_Curve_prime cd_Curve_prime ct_Curve_prime), sl_Curve_prime⟩)
    (c_Curve_prime : PySem.W.codeIn K cd_Curve_prime "Curve.prime" = true)
    (k_Curve_prime : PySem.W.keepIn K (.ref f_Curve_prime) = true)
    (i_Curve_prime : PySem.W.isFn K (.ref f_Curve_prime) = true)
    (a_Curve_polynomial : PySem.W.findIn K (.ref C) "polynomial" = some (some (.ref f_Curve_polynomial)))
    (l_Curve_polynomial : K.lookup f_Curve_polynomial = some ⟨oc_Curve_polynomial, od_Curve_polynomial, .func (PySem.W.fnOf "polynomial" "Curve.polynomial" (defArgs s_Curve_polynomial) (defBody s_Curve_polynomial) (defScope s_Curve_polynomial) .none kV_Curve_polynomial dc_Curve_polynomial pm_Curve_polynomial an_Curve_polynomial cd_Curve_polynomial ct_Curve_polynomial), sl_Curve_polynomial⟩)
    (c_Curve_polynomial : PySem.W.codeIn K cd_Curve_polynomial "Curve.polynomial" = true)
    (k_Curve_polynomial : PySem.W.keepIn K (.ref f_Curve_polynomial) = true)
    (i_Curve_polynomial : PySem.W.isFn K (.ref f_Curve_polynomial) = true)
    (a_Curve_genus : PySem.W.findIn K (.ref C) "genus" = some (some (.ref f_Curve_genus)))
    (l_Curve_genus : K.lookup f_Curve_genus = some ⟨oc_Curve_genus, od_Curve_genus, .func (PySem.W.fnOf "genus" "Curve.genus" (defArgs s_Curve_genus) (defBody s_Curve_genus) (defScope s_Curve_genus) .none kV_Curve_genus dc_Curve_genus pm_Curve_genus an_Curve_genus cd_Curve_genus ct_Curve_genus), sl_Curve_genus⟩)
    (c_Curve_genus : PySem.W.codeIn K cd_Curve_genus "Curve.genus" = true)
    (k_Curve_genus : PySem.W.keepIn K (.ref f_Curve_genus) = true)
    (i_Curve_genus : PySem.W.isFn K (.ref f_Curve_genus) = true)
    (a_Curve___eq__ : PySem.W.findIn K (.ref C) "__eq__" = some (some (.ref f_Curve___eq__)))
    (l_Curve___eq__ : K.lookup f_Curve___eq__ = some ⟨oc_Curve___eq__, od_Curve___eq__, .func (PySem.W.fnOf "__eq__" "Curve.__eq__" (defArgs s_Curve___eq__) (defBody s_Curve___eq__) (defScope s_Curve___eq__) .none kV_Curve___eq__ dc_Curve___eq__ pm_Curve___eq__ an_Curve___eq__ cd_Curve___eq__ ct_Curve___eq__), sl_Curve___eq__⟩)
    (c_Curve___eq__ : PySem.W.codeIn K cd_Curve___eq__ "Curve.__eq__" = true)
    (k_Curve___eq__ : PySem.W.keepIn K (.ref f_Curve___eq__) = true)
    (i_Curve___eq__ : PySem.W.isFn K (.ref f_Curve___eq__) = true)
    (a_Lhash : PySem.W.nsIn K mainGlobals "_law_hash" = some (some (.ref f_Lhash)))
    (l_Lhash : K.lookup f_Lhash = some ⟨oc_Lhash, od_Lhash, .func (PySem.W.fnOf "_law_hash" "_law_hash" (defArgs s_Lhash) (defBody s_Lhash) (defScope s_Lhash) .none kV_Lhash dc_Lhash pm_Lhash an_Lhash cd_Lhash ct_Lhash), sl_Lhash⟩)
    (c_Lhash : PySem.W.codeIn K cd_Lhash "_law_hash" = true)
    (k_Lhash : PySem.W.keepIn K (.ref f_Lhash) = true)
    (a_Lrandom : PySem.W.nsIn K mainGlobals "_law_random" = some (some (.ref f_Lrandom)))
    (l_Lrandom : K.lookup f_Lrandom = some ⟨oc_Lrandom, od_Lrandom, .func (PySem.W.fnOf "_law_random" "_law_random" (defArgs s_Lrandom) (defBody s_Lrandom) (defScope s_Lrandom) .none kV_Lrandom dc_Lrandom pm_Lrandom an_Lrandom cd_Lrandom ct_Lrandom), sl_Lrandom⟩)
    (c_Lrandom : PySem.W.codeIn K cd_Lrandom "_law_random" = true)
    (k_Lrandom : PySem.W.keepIn K (.ref f_Lrandom) = true)
    (a_L_cell : PySem.W.nsIn K mainGlobals "_law_cell" = some (some (.ref f_L_cell)))
    (l_L_cell : K.lookup f_L_cell = some ⟨oc_L_cell, od_L_cell, .func (PySem.W.fnOf "_law_cell" "_law_cell" (defArgs s_L_cell) (defBody s_L_cell) (defScope s_L_cell) .none kV_L_cell dc_L_cell pm_L_cell an_L_cell cd_L_cell ct_L_cell), sl_L_cell⟩)
    (c_L_cell : PySem.W.codeIn K cd_L_cell "_law_cell" = true)
    (k_L_cell : PySem.W.keepIn K (.ref f_L_cell) = true)
    (a_L_generator : PySem.W.nsIn K mainGlobals "_law_generator" = some (some (.ref f_L_generator)))
    (l_L_generator : K.lookup f_L_generator = some ⟨oc_L_generator, od_L_generator, .func (PySem.W.fnOf "_law_generator" "_law_generator" (defArgs s_L_generator) (defBody s_L_generator) (defScope s_L_generator) .none kV_L_generator dc_L_generator pm_L_generator an_L_generator cd_L_generator ct_L_generator), sl_L_generator⟩)
    (c_L_generator : PySem.W.codeIn K cd_L_generator "_law_generator" = true)
    (k_L_generator : PySem.W.keepIn K (.ref f_L_generator) = true)
    (a_Lprime : PySem.W.nsIn K mainGlobals "_law_prime" = some (some (.ref f_Lprime)))
    (l_Lprime : K.lookup f_Lprime = some ⟨oc_Lprime, od_Lprime, .func (PySem.W.fnOf "_law_prime" "_law_prime" (defArgs s_Lprime) (defBody s_Lprime) (defScope s_Lprime) .none kV_Lprime dc_Lprime pm_Lprime an_Lprime cd_Lprime ct_Lprime), sl_Lprime⟩)
    (c_Lprime : PySem.W.codeIn K cd_Lprime "_law_prime" = true)
    (k_Lprime : PySem.W.keepIn K (.ref f_Lprime) = true)
    (a_Ltrim : PySem.W.nsIn K mainGlobals "_law_trim" = some (some (.ref f_Ltrim)))
    (l_Ltrim : K.lookup f_Ltrim = some ⟨oc_Ltrim, od_Ltrim, .func (PySem.W.fnOf "_law_trim" "_law_trim" (defArgs s_Ltrim) (defBody s_Ltrim) (defScope s_Ltrim) .none kV_Ltrim dc_Ltrim pm_Ltrim an_Ltrim cd_Ltrim ct_Ltrim), sl_Ltrim⟩)
    (c_Ltrim : PySem.W.codeIn K cd_Ltrim "_law_trim" = true)
    (k_Ltrim : PySem.W.keepIn K (.ref f_Ltrim) = true)
    (a_Lplus : PySem.W.nsIn K mainGlobals "_law_plus" = some (some (.ref f_Lplus)))
    (l_Lplus : K.lookup f_Lplus = some ⟨oc_Lplus, od_Lplus, .func (PySem.W.fnOf "_law_plus" "_law_plus" (defArgs s_Lplus) (defBody s_Lplus) (defScope s_Lplus) .none kV_Lplus dc_Lplus pm_Lplus an_Lplus cd_Lplus ct_Lplus), sl_Lplus⟩)
    (c_Lplus : PySem.W.codeIn K cd_Lplus "_law_plus" = true)
    (k_Lplus : PySem.W.keepIn K (.ref f_Lplus) = true)
    (a_Ltimes : PySem.W.nsIn K mainGlobals "_law_times" = some (some (.ref f_Ltimes)))
    (l_Ltimes : K.lookup f_Ltimes = some ⟨oc_Ltimes, od_Ltimes, .func (PySem.W.fnOf "_law_times" "_law_times" (defArgs s_Ltimes) (defBody s_Ltimes) (defScope s_Ltimes) .none kV_Ltimes dc_Ltimes pm_Ltimes an_Ltimes cd_Ltimes ct_Ltimes), sl_Ltimes⟩)
    (c_Ltimes : PySem.W.codeIn K cd_Ltimes "_law_times" = true)
    (k_Ltimes : PySem.W.keepIn K (.ref f_Ltimes) = true)
    (a_Lback : PySem.W.nsIn K mainGlobals "_law_back" = some (some (.ref f_Lback)))
    (l_Lback : K.lookup f_Lback = some ⟨oc_Lback, od_Lback, .func (PySem.W.fnOf "_law_back" "_law_back" (defArgs s_Lback) (defBody s_Lback) (defScope s_Lback) .none kV_Lback dc_Lback pm_Lback an_Lback cd_Lback ct_Lback), sl_Lback⟩)
    (c_Lback : PySem.W.codeIn K cd_Lback "_law_back" = true)
    (k_Lback : PySem.W.keepIn K (.ref f_Lback) = true)
    (a_Lparted : PySem.W.nsIn K mainGlobals "_law_parted" = some (some (.ref f_Lparted)))
    (l_Lparted : K.lookup f_Lparted = some ⟨oc_Lparted, od_Lparted, .func (PySem.W.fnOf "_law_parted" "_law_parted" (defArgs s_Lparted) (defBody s_Lparted) (defScope s_Lparted) .none kV_Lparted dc_Lparted pm_Lparted an_Lparted cd_Lparted ct_Lparted), sl_Lparted⟩)
    (c_Lparted : PySem.W.codeIn K cd_Lparted "_law_parted" = true)
    (k_Lparted : PySem.W.keepIn K (.ref f_Lparted) = true)
    (a_Lrest : PySem.W.nsIn K mainGlobals "_law_rest" = some (some (.ref f_Lrest)))
    (l_Lrest : K.lookup f_Lrest = some ⟨oc_Lrest, od_Lrest, .func (PySem.W.fnOf "_law_rest" "_law_rest" (defArgs s_Lrest) (defBody s_Lrest) (defScope s_Lrest) .none kV_Lrest dc_Lrest pm_Lrest an_Lrest cd_Lrest ct_Lrest), sl_Lrest⟩)
    (c_Lrest : PySem.W.codeIn K cd_Lrest "_law_rest" = true)
    (k_Lrest : PySem.W.keepIn K (.ref f_Lrest) = true)
    (a_Lmonics : PySem.W.nsIn K mainGlobals "_law_monics" = some (some (.ref f_Lmonics)))
    (l_Lmonics : K.lookup f_Lmonics = some ⟨oc_Lmonics, od_Lmonics, .func (PySem.W.fnOf "_law_monics" "_law_monics" (defArgs s_Lmonics) (defBody s_Lmonics) (defScope s_Lmonics) .none kV_Lmonics dc_Lmonics pm_Lmonics an_Lmonics cd_Lmonics ct_Lmonics), sl_Lmonics⟩)
    (c_Lmonics : PySem.W.codeIn K cd_Lmonics "_law_monics" = true)
    (k_Lmonics : PySem.W.keepIn K (.ref f_Lmonics) = true)
    (a_Lcommon : PySem.W.nsIn K mainGlobals "_law_common" = some (some (.ref f_Lcommon)))
    (l_Lcommon : K.lookup f_Lcommon = some ⟨oc_Lcommon, od_Lcommon, .func (PySem.W.fnOf "_law_common" "_law_common" (defArgs s_Lcommon) (defBody s_Lcommon) (defScope s_Lcommon) .none kV_Lcommon dc_Lcommon pm_Lcommon an_Lcommon cd_Lcommon ct_Lcommon), sl_Lcommon⟩)
    (c_Lcommon : PySem.W.codeIn K cd_Lcommon "_law_common" = true)
    (k_Lcommon : PySem.W.keepIn K (.ref f_Lcommon) = true)
    (a_Lis_double : PySem.W.nsIn K mainGlobals "_law_is_double" = some (some (.ref f_Lis_double)))
    (l_Lis_double : K.lookup f_Lis_double = some ⟨oc_Lis_double, od_Lis_double, .func (PySem.W.fnOf "_law_is_double" "_law_is_double" (defArgs s_Lis_double) (defBody s_Lis_double) (defScope s_Lis_double) .none kV_Lis_double dc_Lis_double pm_Lis_double an_Lis_double cd_Lis_double ct_Lis_double), sl_Lis_double⟩)
    (c_Lis_double : PySem.W.codeIn K cd_Lis_double "_law_is_double" = true)
    (k_Lis_double : PySem.W.keepIn K (.ref f_Lis_double) = true)
    (a_Lsimple : PySem.W.nsIn K mainGlobals "_law_simple" = some (some (.ref f_Lsimple)))
    (l_Lsimple : K.lookup f_Lsimple = some ⟨oc_Lsimple, od_Lsimple, .func (PySem.W.fnOf "_law_simple" "_law_simple" (defArgs s_Lsimple) (defBody s_Lsimple) (defScope s_Lsimple) .none kV_Lsimple dc_Lsimple pm_Lsimple an_Lsimple cd_Lsimple ct_Lsimple), sl_Lsimple⟩)
    (c_Lsimple : PySem.W.codeIn K cd_Lsimple "_law_simple" = true)
    (k_Lsimple : PySem.W.keepIn K (.ref f_Lsimple) = true)
    (a_L_made : PySem.W.nsIn K mainGlobals "_law_made" = some (some (.ref f_L_made)))
    (l_L_made : K.lookup f_L_made = some ⟨oc_L_made, od_L_made, .func (PySem.W.fnOf "_law_made" "_law_made" (defArgs s_L_made) (defBody s_L_made) (defScope s_L_made) .none kV_L_made dc_L_made pm_L_made an_L_made cd_L_made ct_L_made), sl_L_made⟩)
    (c_L_made : PySem.W.codeIn K cd_L_made "_law_made" = true)
    (k_L_made : PySem.W.keepIn K (.ref f_L_made) = true)
    (a_Lcurve_right : PySem.W.nsIn K mainGlobals "_law_curve_right" = some (some (.ref f_Lcurve_right)))
    (l_Lcurve_right : K.lookup f_Lcurve_right = some ⟨oc_Lcurve_right, od_Lcurve_right, .func (PySem.W.fnOf "_law_curve_right" "_law_curve_right" (defArgs s_Lcurve_right) (defBody s_Lcurve_right) (defScope s_Lcurve_right) .none kV_Lcurve_right dc_Lcurve_right pm_Lcurve_right an_Lcurve_right cd_Lcurve_right ct_Lcurve_right), sl_Lcurve_right⟩)
    (c_Lcurve_right : PySem.W.codeIn K cd_Lcurve_right "_law_curve_right" = true)
    (k_Lcurve_right : PySem.W.keepIn K (.ref f_Lcurve_right) = true)
    (a_Lright : PySem.W.nsIn K mainGlobals "_law_right" = some (some (.ref f_Lright)))
    (l_Lright : K.lookup f_Lright = some ⟨oc_Lright, od_Lright, .func (PySem.W.fnOf "_law_right" "_law_right" (defArgs s_Lright) (defBody s_Lright) (defScope s_Lright) .none kV_Lright dc_Lright pm_Lright an_Lright cd_Lright ct_Lright), sl_Lright⟩)
    (c_Lright : PySem.W.codeIn K cd_Lright "_law_right" = true)
    (k_Lright : PySem.W.keepIn K (.ref f_Lright) = true)
    (a_law : PySem.W.nsIn K mainGlobals "law" = some (some (.ref f_law)))
    (l_law : K.lookup f_law = some ⟨oc_law, od_law, .func (PySem.W.fnOf "law" "law" (defArgs s_law) (defBody s_law) (defScope s_law) .none kV_law dc_law pm_law an_law cd_law ct_law), sl_law⟩)
    (c_law : PySem.W.codeIn K cd_law "law" = true)
    (k_law : PySem.W.keepIn K (.ref f_law) = true)
    (gB : PySem.W.nsIn K mainGlobals "CurveError" = some (some (.ref CB)))
    (lI : K.lookup fI = some ⟨ocI, odI, .func (PySem.W.fnOf "__init__" "CurveError.__init__" (defArgs (meth 1 0)) (defBody (meth 1 0)) (defScope (meth 1 0)) (.ref tD) kVI dcI pmI anI cdI ctI), slI⟩)
    (cI : PySem.W.codeIn K cdI "CurveError.__init__" = true)
    (kI : PySem.W.keepIn K (.ref fI) = true)
    (lD : K.lookup tD = some oD)
    (dD : oD.data = .seq ([Value.none] : List Value).toArray mD)
    (tI : PySem.W.typeIn K (.ref fI) = some (.type "function"))
    (g0 : PySem.W.nsIn K mainGlobals "InvalidPrime" = some (some (.ref E0)))
    (x0 : K.lookup E0 = some (excClassObj nm0 q0 E0 N0 bs0 bm0 true sn0 sub0 ab0 col0 dd0 m00 m10 m20 m30 m50 "ValueError.__new__"))
    (r0 : PySem.HandSPX.refsVE bm0 = true)
    (sa0 : PySem.W.findIn K (.ref E0) "__setattr__" = some (some (.builtin "object.__setattr__")))
    (e0 : PySem.W.subIn K (.ref E0) (.type "BaseException") = some true)
    (t0 : PySem.W.typeIn K (.ref E0) = some (.type "type"))
    (kE0 : PySem.W.keepIn K (.ref E0) = true)
    (no0 : PySem.W.findIn K (.ref E0) "value" = some none)
    (i0 : PySem.W.findIn K (.ref E0) "__init__" = some (some (.ref fI)))
    (g1 : PySem.W.nsIn K mainGlobals "InvalidPolynomial" = some (some (.ref E1)))
    (x1 : K.lookup E1 = some (excClassObj nm1 q1 E1 N1 bs1 bm1 true sn1 sub1 ab1 col1 dd1 m01 m11 m21 m31 m51 "ValueError.__new__"))
    (r1 : PySem.HandSPX.refsVE bm1 = true)
    (sa1 : PySem.W.findIn K (.ref E1) "__setattr__" = some (some (.builtin "object.__setattr__")))
    (e1 : PySem.W.subIn K (.ref E1) (.type "BaseException") = some true)
    (t1 : PySem.W.typeIn K (.ref E1) = some (.type "type"))
    (kE1 : PySem.W.keepIn K (.ref E1) = true)
    (no1 : PySem.W.findIn K (.ref E1) "value" = some none)
    (i1 : PySem.W.findIn K (.ref E1) "__init__" = some (some (.ref fI)))
    (xga : PySem.W.findIn K (.ref E1) "__getattribute__" = some (some (.builtin "BaseException.__getattribute__")))
    (xgg : PySem.W.findIn K (.ref E1) "__getattr__" = some none)
    (xhd : PySem.W.hasDictIn K E1 = true)
    (exm : PySem.W.exmOne K (.ref E1) (.ref CB) = some true)
    (ac_PRIMES : PySem.W.nsIn K mainGlobals "PRIMES" = some (some (.ref t_PRIMES)))
    (lc_PRIMES : K.lookup t_PRIMES = some o_PRIMES)
    (tc_PRIMES : o_PRIMES.cls = .type "tuple")
    (dc_PRIMES : o_PRIMES.data = .seq ([.int 3 wPRIMES0, .int 5 wPRIMES1, .int 7 wPRIMES2, .int 11 wPRIMES3, .int 13 wPRIMES4] : List Value).toArray u_PRIMES)
    (ac_SHORT_QUOTIENT : PySem.W.nsIn K mainGlobals "SHORT_QUOTIENT" = some (some (.int 100 wSHORT_QUOTIENT)))
    (ac_POWERS : PySem.W.nsIn K mainGlobals "POWERS" = some (some (.ref t_POWERS)))
    (lc_POWERS : K.lookup t_POWERS = some o_POWERS)
    (tc_POWERS : o_POWERS.cls = .type "tuple")
    (dc_POWERS : o_POWERS.data = .seq ([.int 1 wPOWERS0, .int 3 wPOWERS1, .int 5 wPOWERS2, .int 7 wPOWERS3] : List Value).toArray u_POWERS) :
    ∃ fd : FuncData, (∀ (s : Shared) (u : Value), BindsTo s fd ⟨[u], []⟩ [("_law_script", u)]) ∧ ∀ base : Heap, K.In base → base.Ns mainGlobals mg → FnG P w K mg base (L2.CX P w) 10 f_law fd ["_law_script"] (spLawT K 3 m_Lright) := by
  have B : Bi mg := ⟨PySem.W.mg_none_of X G z_len, PySem.W.mg_none_of X G z_list, PySem.W.mg_none_of X G z_tuple, PySem.W.mg_none_of X G z_range, PySem.W.mg_none_of X G z_enumerate, PySem.W.mg_none_of X G z_zip, PySem.W.mg_none_of X G z_reversed, PySem.W.mg_none_of X G z_int, PySem.W.mg_none_of X G z_bool, PySem.W.mg_none_of X G z_isinstance, PySem.W.mg_none_of X G z_all, PySem.W.mg_none_of X G z_sum, PySem.W.mg_none_of X G z_max, PySem.W.mg_none_of X G z_min, PySem.W.mg_none_of X G z_repr⟩
  let T : CT := ⟨fun i => [C].getD i 0, fun i => [ns_Curve].getD i [], fun i => [E0, E1].getD i 0⟩
  have O_Curve : ClsOk K T 0 ns_Curve := ⟨rfl, by decide, ⟨pg, hd, po, sa⟩, fun f hf => (by simp only [ns_Curve, List.mem_cons, List.not_mem_nil, or_false] at hf; rcases hf with rfl | rfl <;> assumption), cla, cln, clt, clm, koS, fun t ht => (by simp only [List.mem_cons, List.not_mem_nil, or_false] at ht; rcases ht with rfl | rfl | rfl | rfl | rfl | rfl <;> assumption), fun t ht => (by simp only [List.mem_cons, List.not_mem_nil, or_false] at ht; rcases ht with rfl | rfl | rfl | rfl | rfl | rfl <;> assumption)⟩
  have HC_Curve : mg "Curve" = some (.ref (T.cls 0)) := PySem.W.mg_of X G gC
  have NE_Curve : NeOk K T 0 := neC
  have U_is_whole : Fun K "is_whole" "is_whole" s_is_whole _ _ := fun_mk l_is_whole c_is_whole k_is_whole
  have b_is_whole : L2.Binds K _ ["value"] [] := U_is_whole.binds fun _ _ _ _ _ _ us hl => match us, hl with | [_], _ => rfl
  have U_is_number : Fun K "is_number" "is_number" s_is_number _ _ := fun_mk l_is_number c_is_number k_is_number
  have b_is_number : L2.Binds K _ ["p", "value"] [] := U_is_number.binds fun _ _ _ _ _ _ us hl => match us, hl with | [_, _], _ => rfl
  have U_is_polynomial : Fun K "is_polynomial" "is_polynomial" s_is_polynomial _ _ := fun_mk l_is_polynomial c_is_polynomial k_is_polynomial
  have b_is_polynomial : L2.Binds K _ ["p", "value"] [] := U_is_polynomial.binds fun _ _ _ _ _ _ us hl => match us, hl with | [_, _], _ => rfl
  have U_poly_trimmed : Fun K "poly_trimmed" "poly_trimmed" s_poly_trimmed _ _ := fun_mk l_poly_trimmed c_poly_trimmed k_poly_trimmed
  have b_poly_trimmed : L2.Binds K _ ["numbers"] [] := U_poly_trimmed.binds fun _ _ _ _ _ _ us hl => match us, hl with | [_], _ => rfl
  have U_inverse : Fun K "inverse" "inverse" s_inverse _ _ := fun_mk l_inverse c_inverse k_inverse
  have b_inverse : L2.Binds K _ ["p", "number"] [] := U_inverse.binds fun _ _ _ _ _ _ us hl => match us, hl with | [_, _], _ => rfl
  have U_poly_monic : Fun K "poly_monic" "poly_monic" s_poly_monic _ _ := fun_mk l_poly_monic c_poly_monic k_poly_monic
  have b_poly_monic : L2.Binds K _ ["p", "one"] [] := U_poly_monic.binds fun _ _ _ _ _ _ us hl => match us, hl with | [_, _], _ => rfl
  have U_poly_divided : Fun K "poly_divided" "poly_divided" s_poly_divided _ _ := fun_mk l_poly_divided c_poly_divided k_poly_divided
  have b_poly_divided : L2.Binds K _ ["p", "one", "other"] [] := U_poly_divided.binds fun _ _ _ _ _ _ us hl => match us, hl with | [_, _, _], _ => rfl
  have U_poly_common : Fun K "poly_common" "poly_common" s_poly_common _ _ := fun_mk l_poly_common c_poly_common k_poly_common
  have b_poly_common : L2.Binds K _ ["p", "one", "other"] [] := U_poly_common.binds fun _ _ _ _ _ _ us hl => match us, hl with | [_, _, _], _ => rfl
  have U_poly_slope : Fun K "poly_slope" "poly_slope" s_poly_slope _ _ := fun_mk l_poly_slope c_poly_slope k_poly_slope
  have b_poly_slope : L2.Binds K _ ["p", "one"] [] := U_poly_slope.binds fun _ _ _ _ _ _ us hl => match us, hl with | [_, _], _ => rfl
  have U_is_curve_polynomial : Fun K "is_curve_polynomial" "is_curve_polynomial" s_is_curve_polynomial _ _ := fun_mk l_is_curve_polynomial c_is_curve_polynomial k_is_curve_polynomial
  have b_is_curve_polynomial : L2.Binds K _ ["p", "f"] [] := U_is_curve_polynomial.binds fun _ _ _ _ _ _ us hl => match us, hl with | [_, _], _ => rfl
  have U_check_prime : Fun K "check_prime" "check_prime" s_check_prime _ _ := fun_mk l_check_prime c_check_prime k_check_prime
  have b_check_prime : L2.Binds K _ ["p"] [] := U_check_prime.binds fun _ _ _ _ _ _ us hl => match us, hl with | [_], _ => rfl
  have U_Curve___init__ : Fun K "__init__" "Curve.__init__" s_Curve___init__ _ _ := fun_mk l_Curve___init__ c_Curve___init__ k_Curve___init__
  have b_Curve___init__ : L2.Binds K _ ["self", "p", "f"] [] := U_Curve___init__.binds fun _ _ _ _ _ _ us hl => match us, hl with | [_, _, _], _ => rfl
  have U_Curve_prime : Fun K "prime" "Curve.prime" s_Curve_prime _ _ := fun_mk l_Curve_prime c_Curve_prime k_Curve_prime
  have b_Curve_prime : L2.Binds K _ ["self"] [] := U_Curve_prime.binds fun _ _ _ _ _ _ us hl => match us, hl with | [_], _ => rfl
  have U_Curve_polynomial : Fun K "polynomial" "Curve.polynomial" s_Curve_polynomial _ _ := fun_mk l_Curve_polynomial c_Curve_polynomial k_Curve_polynomial
  have b_Curve_polynomial : L2.Binds K _ ["self"] [] := U_Curve_polynomial.binds fun _ _ _ _ _ _ us hl => match us, hl with | [_], _ => rfl
  have U_Curve_genus : Fun K "genus" "Curve.genus" s_Curve_genus _ _ := fun_mk l_Curve_genus c_Curve_genus k_Curve_genus
  have b_Curve_genus : L2.Binds K _ ["self"] [] := U_Curve_genus.binds fun _ _ _ _ _ _ us hl => match us, hl with | [_], _ => rfl
  have U_Curve___eq__ : Fun K "__eq__" "Curve.__eq__" s_Curve___eq__ _ _ := fun_mk l_Curve___eq__ c_Curve___eq__ k_Curve___eq__
  have b_Curve___eq__ : L2.Binds K _ ["self", "other"] [] := U_Curve___eq__.binds fun _ _ _ _ _ _ us hl => match us, hl with | [_, _], _ => rfl
  have U_Lhash : Fun K "_law_hash" "_law_hash" s_Lhash _ _ := fun_mk l_Lhash c_Lhash k_Lhash
  have b_Lhash : L2.Binds K _ ["_law_seed", "_law_index"] [] := U_Lhash.binds fun _ _ _ _ _ _ us hl => match us, hl with | [_, _], _ => rfl
  have U_Lrandom : Fun K "_law_random" "_law_random" s_Lrandom _ _ := fun_mk l_Lrandom c_Lrandom k_Lrandom
  have b_Lrandom : L2.Binds K _ ["_law_generator_here", "_law_bound"] [] := U_Lrandom.binds fun _ _ _ _ _ _ us hl => match us, hl with | [_, _], _ => rfl
  have U_L_cell : Fun K "_law_cell" "_law_cell" s_L_cell _ _ := fun_mk l_L_cell c_L_cell k_L_cell
  have b_L_cell : L2.Binds K _ ["_law_script", "_law_index"] [] := U_L_cell.binds fun _ _ _ _ _ _ us hl => match us, hl with | [_, _], _ => rfl
  have U_L_generator : Fun K "_law_generator" "_law_generator" s_L_generator _ _ := fun_mk l_L_generator c_L_generator k_L_generator
  have b_L_generator : L2.Binds K _ ["_law_script", "_law_index"] [] := U_L_generator.binds fun _ _ _ _ _ _ us hl => match us, hl with | [_, _], _ => rfl
  have U_Lprime : Fun K "_law_prime" "_law_prime" s_Lprime _ _ := fun_mk l_Lprime c_Lprime k_Lprime
  have b_Lprime : L2.Binds K _ ["_law_generator_here"] [] := U_Lprime.binds fun _ _ _ _ _ _ us hl => match us, hl with | [_], _ => rfl
  have U_Ltrim : Fun K "_law_trim" "_law_trim" s_Ltrim _ _ := fun_mk l_Ltrim c_Ltrim k_Ltrim
  have b_Ltrim : L2.Binds K _ ["_law_p", "_law_numbers"] [] := U_Ltrim.binds fun _ _ _ _ _ _ us hl => match us, hl with | [_, _], _ => rfl
  have U_Lplus : Fun K "_law_plus" "_law_plus" s_Lplus _ _ := fun_mk l_Lplus c_Lplus k_Lplus
  have b_Lplus : L2.Binds K _ ["_law_p", "_law_one", "_law_other", "_law_factor"] [] := U_Lplus.binds fun _ _ _ _ _ _ us hl => match us, hl with | [_, _, _, _], _ => rfl
  have U_Ltimes : Fun K "_law_times" "_law_times" s_Ltimes _ _ := fun_mk l_Ltimes c_Ltimes k_Ltimes
  have b_Ltimes : L2.Binds K _ ["_law_p", "_law_one", "_law_other"] [] := U_Ltimes.binds fun _ _ _ _ _ _ us hl => match us, hl with | [_, _, _], _ => rfl
  have U_Lback : Fun K "_law_back" "_law_back" s_Lback _ _ := fun_mk l_Lback c_Lback k_Lback
  have b_Lback : L2.Binds K _ ["_law_p", "_law_number"] [] := U_Lback.binds fun _ _ _ _ _ _ us hl => match us, hl with | [_, _], _ => rfl
  have U_Lparted : Fun K "_law_parted" "_law_parted" s_Lparted _ _ := fun_mk l_Lparted c_Lparted k_Lparted
  have b_Lparted : L2.Binds K _ ["_law_p", "_law_one", "_law_other"] [] := U_Lparted.binds fun _ _ _ _ _ _ us hl => match us, hl with | [_, _, _], _ => rfl
  have U_Lrest : Fun K "_law_rest" "_law_rest" s_Lrest _ _ := fun_mk l_Lrest c_Lrest k_Lrest
  have b_Lrest : L2.Binds K _ ["_law_p", "_law_one", "_law_other"] [] := U_Lrest.binds fun _ _ _ _ _ _ us hl => match us, hl with | [_, _, _], _ => rfl
  have U_Lmonics : Fun K "_law_monics" "_law_monics" s_Lmonics _ _ := fun_mk l_Lmonics c_Lmonics k_Lmonics
  have b_Lmonics : L2.Binds K _ ["_law_p", "_law_power"] [] := U_Lmonics.binds fun _ _ _ _ _ _ us hl => match us, hl with | [_, _], _ => rfl
  have U_Lcommon : Fun K "_law_common" "_law_common" s_Lcommon _ _ := fun_mk l_Lcommon c_Lcommon k_Lcommon
  have b_Lcommon : L2.Binds K _ ["_law_p", "_law_one", "_law_other"] [] := U_Lcommon.binds fun _ _ _ _ _ _ us hl => match us, hl with | [_, _, _], _ => rfl
  have U_Lis_double : Fun K "_law_is_double" "_law_is_double" s_Lis_double _ _ := fun_mk l_Lis_double c_Lis_double k_Lis_double
  have b_Lis_double : L2.Binds K _ ["_law_p", "_law_one"] [] := U_Lis_double.binds fun _ _ _ _ _ _ us hl => match us, hl with | [_, _], _ => rfl
  have U_Lsimple : Fun K "_law_simple" "_law_simple" s_Lsimple _ _ := fun_mk l_Lsimple c_Lsimple k_Lsimple
  have b_Lsimple : L2.Binds K _ ["_law_p", "_law_one"] [] := U_Lsimple.binds fun _ _ _ _ _ _ us hl => match us, hl with | [_, _], _ => rfl
  have U_L_made : Fun K "_law_made" "_law_made" s_L_made _ _ := fun_mk l_L_made c_L_made k_L_made
  have b_L_made : L2.Binds K _ ["_law_p", "_law_value"] [] := U_L_made.binds fun _ _ _ _ _ _ us hl => match us, hl with | [_, _], _ => rfl
  have U_Lcurve_right : Fun K "_law_curve_right" "_law_curve_right" s_Lcurve_right _ _ := fun_mk l_Lcurve_right c_Lcurve_right k_Lcurve_right
  have b_Lcurve_right : L2.Binds K _ ["_law_p", "_law_value", "_law_due"] [] := U_Lcurve_right.binds fun _ _ _ _ _ _ us hl => match us, hl with | [_, _, _], _ => rfl
  have U_Lright : Fun K "_law_right" "_law_right" s_Lright _ _ := fun_mk l_Lright c_Lright k_Lright
  have b_Lright : L2.Binds K _ ["_law_generator_here"] [] := U_Lright.binds fun _ _ _ _ _ _ us hl => match us, hl with | [_], _ => rfl
  have U_law : Fun K "law" "law" s_law _ _ := fun_mk l_law c_law k_law
  have b_law : L2.Binds K _ ["_law_script"] [] := U_law.binds fun _ _ _ _ _ _ us hl => match us, hl with | [_], _ => rfl
  have C_PRIMES : Con0 K T mg "PRIMES" d_PRIMES := ⟨.ref t_PRIMES, _, PySem.W.mg_of X G ac_PRIMES, rfl, fun F => .tup (.inr ⟨_, _, _, lc_PRIMES, tc_PRIMES, dc_PRIMES, by show 5 ≤ sizeLine; decide, .cons (rel_int 3 _) (.cons (rel_int 5 _) (.cons (rel_int 7 _) (.cons (rel_int 11 _) (.cons (rel_int 13 _) (.nil)))))⟩) (ints_dva [3, 5, 7, 11, 13])⟩
  have C_SHORT_QUOTIENT : Con0 K T mg "SHORT_QUOTIENT" d_SHORT_QUOTIENT := ⟨.int 100, .int _ wSHORT_QUOTIENT, PySem.W.mg_of X G ac_SHORT_QUOTIENT, ⟨_, rfl⟩, fun F => .int _⟩
  have C_POWERS : Con0 K T mg "POWERS" d_POWERS := ⟨.ref t_POWERS, _, PySem.W.mg_of X G ac_POWERS, rfl, fun F => .tup (.inr ⟨_, _, _, lc_POWERS, tc_POWERS, dc_POWERS, by show 4 ≤ sizeLine; decide, .cons (rel_int 1 _) (.cons (rel_int 3 _) (.cons (rel_int 5 _) (.cons (rel_int 7 _) (.nil))))⟩) (ints_dva [1, 3, 5, 7])⟩
  have FI : FunD K "__init__" "CurveError.__init__" (defArgs (meth 1 0)) (defBody (meth 1 0)) (defScope (meth 1 0)) [V.non] [] fI _ := ⟨⟨_, _, _, _, _, _, _, _, _, _, rfl, lI, cI, .inr ⟨by simp, tD, oD, [Value.none], _, rfl, lD, dD, .cons rfl .nil⟩, .inl rfl⟩, kI⟩
  have scI : FnScope ["self", "value"] ["self", "value"] (defScope (meth 1 0)) := ⟨rfl, rfl, rfl, by decide +kernel, rfl, by decide +kernel, by decide +kernel⟩
  have bI : L2.Binds K (PySem.W.fnOf "__init__" "CurveError.__init__" (defArgs (meth 1 0)) (defBody (meth 1 0)) (defScope (meth 1 0)) (.ref tD) kVI dcI pmI anI cdI ctI) ["self", "value"] [] := by
    obtain ⟨ds, h1, h2⟩ := FI.binds1 (ps := ["self", "value"]) 2 1 (by simp) rfl fun T kV doc pm an cdv ct us its h1 h2 => match us, h1, its, h2 with | [_, _], _, [_], _ => ⟨_, rfl, rfl⟩
    cases h1
    exact h2
  refine ⟨PySem.W.fnOf "law" "law" (defArgs s_law) (defBody s_law) (defScope s_law) .none kV_law dc_law pm_law an_law cd_law ct_law, fun s u => (show BindsTo s _ ⟨[u], []⟩ ((["_law_script"] : List Str).zip [u]) from .of_eq rfl), fun base hKb hGb => ?_⟩
  have F1 : FnOk P w K mg base CX0 1 fI _ ["self", "value"] (spInit K) := errI_ok FI scI fun Y h1 h2 h3 => (by subst h3; exact pss_one (ps_ost (pe_var (i := 0) (by rw [h1]; rfl) (by rw [h2]; exact Or.inl rfl)) (pe_var (i := 1) (by rw [h1]; rfl) (by rw [h2]; exact Or.inl rfl))))
  have R_InvalidPrime : Err P w K mg base "InvalidPrime" (T.exc c_InvalidPrime) := err_mk ⟨⟨_, _, _, _, _, _, _, _, _, _, _, _, _, _, _, x0, r0⟩, sa0, e0, t0, kE0⟩ no0 i0 tI (PySem.W.mg_of X G g0) (by decide) F1 bI
  have R_InvalidPolynomial : Err P w K mg base "InvalidPolynomial" (T.exc c_InvalidPolynomial) := err_mk ⟨⟨_, _, _, _, _, _, _, _, _, _, _, _, _, _, _, x1, r1⟩, sa1, e1, t1, kE1⟩ no1 i1 tI (PySem.W.mg_of X G g1) (by decide) F1 bI
  have K_is_whole := ok_is_whole (P := P) (w := w) (base := base) (T := T) B ⟨_, _, U_is_whole, PySem.W.mg_of X G a_is_whole, b_is_whole⟩ 
  have K_is_number := ok_is_number (P := P) (w := w) (base := base) (T := T) B ⟨_, _, U_is_number, PySem.W.mg_of X G a_is_number, b_is_number⟩ K_is_whole
  have K_is_polynomial := ok_is_polynomial (P := P) (w := w) (base := base) (T := T) B ⟨_, _, U_is_polynomial, PySem.W.mg_of X G a_is_polynomial, b_is_polynomial⟩ K_is_number
  have K_poly_trimmed := ok_poly_trimmed (P := P) (w := w) (base := base) (T := T) B ⟨_, _, U_poly_trimmed, PySem.W.mg_of X G a_poly_trimmed, b_poly_trimmed⟩ 
  have K_inverse := ok_inverse (P := P) (w := w) (base := base) (T := T) B ⟨_, _, U_inverse, PySem.W.mg_of X G a_inverse, b_inverse⟩ 
  have K_poly_monic := ok_poly_monic (P := P) (w := w) (base := base) (T := T) B ⟨_, _, U_poly_monic, PySem.W.mg_of X G a_poly_monic, b_poly_monic⟩ K_inverse
  have K_poly_divided := ok_poly_divided (P := P) (w := w) (base := base) (T := T) B ⟨_, _, U_poly_divided, PySem.W.mg_of X G a_poly_divided, b_poly_divided⟩ K_inverse K_poly_trimmed C_SHORT_QUOTIENT
  have K_poly_common := ok_poly_common (P := P) (w := w) (base := base) (T := T) B ⟨_, _, U_poly_common, PySem.W.mg_of X G a_poly_common, b_poly_common⟩ K_poly_divided K_poly_monic
  have K_poly_slope := ok_poly_slope (P := P) (w := w) (base := base) (T := T) B ⟨_, _, U_poly_slope, PySem.W.mg_of X G a_poly_slope, b_poly_slope⟩ K_poly_trimmed
  have K_is_curve_polynomial := ok_is_curve_polynomial (P := P) (w := w) (base := base) (T := T) B ⟨_, _, U_is_curve_polynomial, PySem.W.mg_of X G a_is_curve_polynomial, b_is_curve_polynomial⟩ K_is_polynomial K_poly_slope K_poly_common C_POWERS
  have K_check_prime := ok_check_prime (P := P) (w := w) (base := base) (T := T) B ⟨_, _, U_check_prime, PySem.W.mg_of X G a_check_prime, b_check_prime⟩ K_is_whole C_PRIMES R_InvalidPrime
  have K_Curve___init__ := ok_Curve___init__ (P := P) (w := w) (base := base) (T := T) B ⟨_, _, U_Curve___init__, ⟨mC, a_Curve___init__, i_Curve___init__, kC⟩, PySem.W.mg_of X G gC, b_Curve___init__⟩ K_check_prime K_is_curve_polynomial R_InvalidPolynomial O_Curve
  have KK_Curve___init__ : CalKK P w K mg base T 0 "Curve" 5 ["self", "p", "f"] ["f", "p"] (fun us ws => swp true us ws) m_Curve___init__ := ⟨_, _, fn_Curve___init__ (P := P) (w := w) (base := base) (T := T) B U_Curve___init__ K_check_prime K_is_curve_polynomial R_InvalidPolynomial O_Curve, ⟨mC, a_Curve___init__, i_Curve___init__, kC⟩, PySem.W.mg_of X G gC, ⟨fun s us ws _ h1 h2 => match us, h1, ws, h2 with | [_], _, [_, _], _ => .of_eq rfl, fun r1 r2 => swp_rel r1 r2⟩⟩
  have K_Curve_prime := ok_Curve_prime (P := P) (w := w) (base := base) (T := T) B ⟨_, _, U_Curve_prime, ⟨a_Curve_prime, i_Curve_prime, k_Curve_prime⟩, b_Curve_prime⟩ O_Curve
  have K_Curve_polynomial := ok_Curve_polynomial (P := P) (w := w) (base := base) (T := T) B ⟨_, _, U_Curve_polynomial, ⟨a_Curve_polynomial, i_Curve_polynomial, k_Curve_polynomial⟩, b_Curve_polynomial⟩ O_Curve
  have KN_Curve_polynomial := okN_Curve_polynomial (P := P) (w := w) (base := base) (T := T) B ⟨_, _, U_Curve_polynomial, ⟨a_Curve_polynomial, i_Curve_polynomial, k_Curve_polynomial⟩, b_Curve_polynomial⟩ O_Curve
  have K_Curve_genus := ok_Curve_genus (P := P) (w := w) (base := base) (T := T) B ⟨_, _, U_Curve_genus, ⟨a_Curve_genus, i_Curve_genus, k_Curve_genus⟩, b_Curve_genus⟩ O_Curve
  have K_Curve___eq__ := ok_Curve___eq__ (P := P) (w := w) (base := base) (T := T) B ⟨_, _, U_Curve___eq__, ⟨a_Curve___eq__, i_Curve___eq__, k_Curve___eq__⟩, b_Curve___eq__⟩ O_Curve HC_Curve
  have K_Lhash := ok_Lhash (P := P) (w := w) (base := base) (T := T) B ⟨_, _, U_Lhash, PySem.W.mg_of X G a_Lhash, b_Lhash⟩ 
  have K_Lrandom := ok_Lrandom (P := P) (w := w) (base := base) (T := T) B ⟨_, _, U_Lrandom, PySem.W.mg_of X G a_Lrandom, b_Lrandom⟩ K_Lhash
  have K_L_cell := ok_L_cell (P := P) (w := w) (base := base) B ⟨_, _, U_L_cell, PySem.W.mg_of X G a_L_cell, b_L_cell⟩
  have K_L_generator := ok_L_generator (P := P) (w := w) (base := base) B ⟨_, _, U_L_generator, PySem.W.mg_of X G a_L_generator, b_L_generator⟩ K_L_cell
  have K_Lprime := ok_Lprime (P := P) (w := w) (base := base) (T := T) B ⟨_, _, U_Lprime, PySem.W.mg_of X G a_Lprime, b_Lprime⟩ K_Lrandom
  have K_Ltrim := ok_Ltrim (P := P) (w := w) (base := base) (T := T) B ⟨_, _, U_Ltrim, PySem.W.mg_of X G a_Ltrim, b_Ltrim⟩ 
  have K_Lplus := ok_Lplus (P := P) (w := w) (base := base) (T := T) B ⟨_, _, U_Lplus, PySem.W.mg_of X G a_Lplus, b_Lplus⟩ K_Ltrim
  have K_Ltimes := ok_Ltimes (P := P) (w := w) (base := base) (T := T) B ⟨_, _, U_Ltimes, PySem.W.mg_of X G a_Ltimes, b_Ltimes⟩ K_Ltrim
  have K_Lback := ok_Lback (P := P) (w := w) (base := base) (T := T) B ⟨_, _, U_Lback, PySem.W.mg_of X G a_Lback, b_Lback⟩ 
  have K_Lparted := ok_Lparted (P := P) (w := w) (base := base) (T := T) B ⟨_, _, U_Lparted, PySem.W.mg_of X G a_Lparted, b_Lparted⟩ K_Lback K_Lplus K_Ltimes
  have K_Lrest := ok_Lrest (P := P) (w := w) (base := base) (T := T) B ⟨_, _, U_Lrest, PySem.W.mg_of X G a_Lrest, b_Lrest⟩ K_Lparted
  have K_Lmonics := ok_Lmonics (P := P) (w := w) (base := base) (T := T) B ⟨_, _, U_Lmonics, PySem.W.mg_of X G a_Lmonics, b_Lmonics⟩ 
  have K_Lcommon := ok_Lcommon (P := P) (w := w) (base := base) (T := T) B ⟨_, _, U_Lcommon, PySem.W.mg_of X G a_Lcommon, b_Lcommon⟩ K_Lrest
  have K_Lis_double := ok_Lis_double (P := P) (w := w) (base := base) (T := T) B ⟨_, _, U_Lis_double, PySem.W.mg_of X G a_Lis_double, b_Lis_double⟩ K_Lmonics K_Ltimes K_Lrest
  have K_Lsimple := ok_Lsimple (P := P) (w := w) (base := base) (T := T) B ⟨_, _, U_Lsimple, PySem.W.mg_of X G a_Lsimple, b_Lsimple⟩ K_Ltrim K_Lcommon
  have K_Lmade := ok_L_made (P := P) (w := w) (base := base) (T := T) B ⟨_, _, U_L_made, PySem.W.mg_of X G a_L_made, b_L_made⟩ K_Curve___init__ (PySem.W.mg_of X G gB) (PySem.W.mg_of X G g1) ⟨xga, xgg, e1, xhd⟩ no1 exm
  have K_Lcurve_right := ok_Lcurve_right (P := P) (w := w) (base := base) (T := T) B ⟨_, _, U_Lcurve_right, PySem.W.mg_of X G a_Lcurve_right, b_Lcurve_right⟩ K_Lmade K_Curve___eq__ K_Curve_polynomial K_Curve_prime K_Curve_genus O_Curve NE_Curve KN_Curve_polynomial KK_Curve___init__
  have K_Lright := ok_Lright (P := P) (w := w) (base := base) (T := T) B ⟨_, _, U_Lright, PySem.W.mg_of X G a_Lright, b_Lright⟩ K_Lprime K_Lrandom K_Ltimes K_Lsimple K_Lcurve_right K_Lis_double K_Curve___eq__ K_Curve___init__ O_Curve NE_Curve
  exact ok_law (P := P) (w := w) (base := base) (T := T) B U_law K_Lright K_L_generator K_Curve___init__ K_Curve___eq__ K_Curve_genus O_Curve f_law_true
end G7
-- goals: z_len z_list z_tuple z_range z_enumerate z_zip z_reversed z_int z_bool z_isinstance z_all z_sum z_max z_min z_repr cln clt gC pg hd po sa kC mC cla clm koS no_prime no_numbers ko_NoneType nf_NoneType ko_bool nf_bool ko_int nf_int ko_str nf_str ko_list nf_list ko_tuple nf_tuple neC a_is_whole l_is_whole c_is_whole k_is_whole a_is_number l_is_number c_is_number k_is_number a_is_polynomial l_is_polynomial c_is_polynomial k_is_polynomial a_poly_trimmed l_poly_trimmed c_poly_trimmed k_poly_trimmed a_inverse l_inverse c_inverse k_inverse a_poly_monic l_poly_monic c_poly_monic k_poly_monic a_poly_divided l_poly_divided c_poly_divided k_poly_divided a_poly_common l_poly_common c_poly_common k_poly_common a_poly_slope l_poly_slope c_poly_slope k_poly_slope a_is_curve_polynomial l_is_curve_polynomial c_is_curve_polynomial k_is_curve_polynomial a_check_prime l_check_prime c_check_prime k_check_prime a_Curve___init__ l_Curve___init__ c_Curve___init__ k_Curve___init__ i_Curve___init__ a_Curve_prime l_Curve_prime c_Curve_prime k_Curve_prime i_Curve_prime a_Curve_polynomial l_Curve_polynomial c_Curve_polynomial k_Curve_polynomial i_Curve_polynomial a_Curve_genus l_Curve_genus c_Curve_genus k_Curve_genus i_Curve_genus a_Curve___eq__ l_Curve___eq__ c_Curve___eq__ k_Curve___eq__ i_Curve___eq__ a_Lhash l_Lhash c_Lhash k_Lhash a_Lrandom l_Lrandom c_Lrandom k_Lrandom a_L_cell l_L_cell c_L_cell k_L_cell a_L_generator l_L_generator c_L_generator k_L_generator a_Lprime l_Lprime c_Lprime k_Lprime a_Ltrim l_Ltrim c_Ltrim k_Ltrim a_Lplus l_Lplus c_Lplus k_Lplus a_Ltimes l_Ltimes c_Ltimes k_Ltimes a_Lback l_Lback c_Lback k_Lback a_Lparted l_Lparted c_Lparted k_Lparted a_Lrest l_Lrest c_Lrest k_Lrest a_Lmonics l_Lmonics c_Lmonics k_Lmonics a_Lcommon l_Lcommon c_Lcommon k_Lcommon a_Lis_double l_Lis_double c_Lis_double k_Lis_double a_Lsimple l_Lsimple c_Lsimple k_Lsimple a_L_made l_L_made c_L_made k_L_made a_Lcurve_right l_Lcurve_right c_Lcurve_right k_Lcurve_right a_Lright l_Lright c_Lright k_Lright a_law l_law c_law k_law gB lI cI kI lD dD tI g0 x0 r0 sa0 e0 t0 kE0 no0 i0 g1 x1 r1 sa1 e1 t1 kE1 no1 i1 xga xgg xhd exm ac_PRIMES lc_PRIMES tc_PRIMES dc_PRIMES ac_SHORT_QUOTIENT ac_POWERS lc_POWERS tc_POWERS dc_POWERS

set_option Elab.async false
set_option linter.all false
set_option maxRecDepth 100000
set_option maxHeartbeats 1000000
/-! lists of numbers as data; loops of mirrors by invariants -/
namespace Mr
open PySem PySem.Spec PyProof.Rows L2

abbrev li (xs : List Int) : D := .lst (xs.map D.int)

theorem ixN_nat {n i : Nat} (h : i < n) : ixN n (i : Int) = some i := by
  unfold ixN
  rw [if_pos (by omega), if_pos (by omega)]
  simp
theorem atI_nat {α : Type} {xs : List α} {i : Nat} (h : i < xs.length) : atI xs (i : Int) = some xs[i] := by
  unfold atI
  rw [ixN_nat h]
  simp [h]
theorem dIx_li {xs : List Int} {k : Int} {i : Nat} (hk : k = (i : Nat)) (h : i < xs.length) : dIx (li xs) (.int k) = some (.int (xs.getD i 0)) := by
  subst hk
  show atI (xs.map D.int) (i : Int) = _
  rw [atI_nat (by simpa using h)]
  simp [h]
theorem dIx_last {xs : List Int} (h : xs ≠ []) : dIx (li xs) (.int (-1)) = some (.int (xs.getLast h)) := by
  show atI (xs.map D.int) (-1) = _
  have hl : 0 < xs.length := List.length_pos_iff.mpr h
  unfold atI ixN
  rw [if_neg (by decide), List.length_map, if_pos (by omega)]
  show (some (-1 + (xs.length : Int)).toNat).bind _ = _
  have e : (-1 + (xs.length : Int)).toNat = xs.length - 1 := by omega
  rw [e]
  simp [List.getLast_eq_getElem, hl]
theorem dLen_li (xs : List Int) : dLen (li xs) = some (.int xs.length) := by simp [dLen, li]
theorem dInts_map (xs : List Int) : dInts (xs.map D.int) = some xs := by
  induction xs with
  | nil => rfl
  | cons x xs ih => simp [dInts, ih]
theorem dBls_map (xs : List Bool) : dBls (xs.map D.bl) = some xs := by
  induction xs with
  | nil => rfl
  | cons x xs ih => simp [dBls, ih]

/-! ### == of lists of numbers -/
theorem pys_ints (xs : List Int) : D.pys (xs.map D.int) = some (xs.map PyData.int) := by
  induction xs with
  | nil => rfl
  | cons x xs ih => simp [D.pys, D.py, ih]
theorem py_li (xs : List Int) : D.py (li xs) = some (.list (xs.map PyData.int)) := by
  show (D.pys (xs.map D.int)).map PyData.list = _
  rw [pys_ints]; rfl
theorem canLay_ints (xs : List Int) : PyData.canLayAll0 (xs.map PyData.int) = true := by
  induction xs with
  | nil => rfl
  | cons x xs ih => simp [PyData.canLayAll0, PyData.canLay0, ih]
theorem depth_ints (xs : List Int) : PyData.depthAll (xs.map PyData.int) = 0 := by
  induction xs with
  | nil => rfl
  | cons x xs ih => simp [PyData.depthAll, PyData.depth, ih]
theorem shaped_ints (xs : List Int) : SeqAt.shaped (.list (xs.map PyData.int)) = true := by
  unfold SeqAt.shaped
  simp [PyData.canLay0, PyData.depth, canLay_ints, depth_ints]
theorem eqvAll_ints : ∀ (xs ys : List Int), PyData.eqvAll (xs.map PyData.int) (ys.map PyData.int) = (xs == ys)
  | [], [] => rfl
  | [], y :: ys => rfl
  | x :: xs, [] => rfl
  | x :: xs, y :: ys => by
    show (PyData.eqv (.int x) (.int y) && PyData.eqvAll (xs.map PyData.int) (ys.map PyData.int)) = _
    rw [eqvAll_ints xs ys]
    simp [PyData.eqv]
theorem dEqB_li (xs ys : List Int) : dEqB (li xs) (li ys) = some (xs == ys) := by
  unfold dEqB
  rw [py_li, py_li]
  simp only [Option.bind_some, shaped_ints, Bool.and_self, if_true]
  show some (PyData.eqvAll _ _) = _
  rw [eqvAll_ints]
theorem dEq_li (xs ys : List Int) : dEq (li xs) (li ys) = some (.bl (xs == ys)) := by simp [dEq, dEqB_li]
theorem dNe_li (xs ys : List Int) : dNe (li xs) (li ys) = some (.bl (!(xs == ys))) := by simp [dNe, dEqB_li]
theorem dEqB_int (a b : Int) : dEqB (.int a) (.int b) = some (a == b) := by
  simp [dEqB, D.py, SeqAt.shaped, PyData.canLay0, PyData.depth, PyData.eqv]
theorem dEq_int (a b : Int) : dEq (.int a) (.int b) = some (.bl (a == b)) := by simp [dEq, dEqB_int]
theorem dNe_int (a b : Int) : dNe (.int a) (.int b) = some (.bl (!(a == b))) := by simp [dNe, dEqB_int]

theorem dAdd_int (a b : Int) : dAdd (.int a) (.int b) = some (.int (a + b)) := rfl
theorem dAdd_li {a b : List Int} (h : a.length + b.length ≤ 100000) : dAdd (li a) (li b) = some (li (a ++ b)) := by
  show lim ((a.map D.int).length + (b.map D.int).length) (.lst (a.map D.int ++ b.map D.int)) = _
  unfold lim
  rw [if_pos (by simpa using h), ← List.map_append]
theorem rep_ints (k : Nat) (c : Int) : (List.replicate k [D.int c]).flatten = List.map D.int (List.replicate k c) := by
  induction k with
  | zero => rfl
  | succ k ih => rw [List.replicate_succ, List.replicate_succ, List.flatten_cons, ih]; rfl
theorem dMul_rep {k : Int} {n : Nat} {c : Int} (hk : k.toNat = n) (h1 : -100000 ≤ k) (h2 : k ≤ 100000) : dMul (.lst [.int c]) (.int k) = some (li (List.replicate n c)) := by
  show (if -1000000 ≤ k ∧ k ≤ 1000000 then lim _ _ else none) = _
  rw [if_pos ⟨by omega, by omega⟩, hk, rep_ints]
  unfold lim
  rw [if_pos (by simp; omega)]
theorem li_set (xs : List Int) (n : Nat) (c : Int) : D.lst ((xs.map D.int).set n (D.int c)) = li (xs.set n c) := by rw [li, List.map_set]
/-! ### slices -/
theorem cut_map {α β : Type} (f : α → β) (xs : List α) (lo hi : Option Int) : cutL (xs.map f) lo hi = (cutL xs lo hi).map f := by
  unfold cutL
  rw [List.length_map, ← List.map_drop, ← List.map_take]
theorem dSl_li (xs : List Int) (lo hi : Option Int) : dSl lo hi (li xs) = some (li (cutL xs lo hi)) := by
  show some (D.lst (cutL (xs.map D.int) lo hi)) = _
  rw [cut_map]
theorem cut_to {α : Type} (xs : List α) (n : Nat) : cutL xs none (some (n : Int)) = xs.take n := by
  unfold cutL
  rw [HT.sIx_none, HT.sIx_nat]
  simp
theorem cut_from {α : Type} (xs : List α) (n : Nat) : cutL xs (some (n : Int)) none = xs.drop n := by
  unfold cutL
  rw [HT.sIx_none, HT.sIx_nat]
  by_cases h : n ≤ xs.length
  · rw [Nat.min_eq_left h]
    exact List.take_of_length_le (by simp)
  · rw [Nat.min_eq_right (by omega)]
    simp [List.drop_eq_nil_of_le (Nat.le_of_lt (Nat.lt_of_not_le h))]

/-! ### comprehensions -/
theorem compL_map {α : Type} {bind : D → S → Option S} {test : XT} {elt : XE} {s : S} {g : α → D} {t : α → Bool} {f : α → D} : ∀ {xs : List α}, (∀ x ∈ xs, ∃ s', bind (g x) s = some s' ∧ test s' = some (t x) ∧ (t x = true → elt s' = some (f x))) →
    compL bind test elt s (xs.map g) = some ((xs.filter t).map f)
  | [], _ => rfl
  | x :: xs, h => by
    obtain ⟨s', h1, h2, h3⟩ := h x (List.mem_cons_self ..)
    have ih := compL_map (xs := xs) fun y hy => h y (List.mem_cons_of_mem _ hy)
    show ((bind (g x) s).bind _) = _
    rw [h1]
    show ((test s').bind _) = _
    rw [h2]
    show (if t x = true then _ else _) = _
    cases ht : t x with
    | true =>
      rw [if_pos rfl, h3 ht, ih]
      simp [ht]
    | false =>
      rw [if_neg (by decide), ih]
      simp [ht]
/-- no test -/
theorem compL_all {α : Type} {bind : D → S → Option S} {elt : XE} {s : S} {g : α → D} {f : α → D} {xs : List α} (h : ∀ x ∈ xs, ∃ s', bind (g x) s = some s' ∧ elt s' = some (f x)) :
    compL bind xYes elt s (xs.map g) = some (xs.map f) := by
  have := compL_map (test := xYes) (t := fun _ => true) (f := f) (xs := xs) fun x hx => let ⟨s', h1, h2⟩ := h x hx; ⟨s', h1, rfl, fun _ => h2⟩
  rw [this, List.filter_eq_self.mpr fun _ _ => rfl]

/-! ### loops -/
theorem forM_inv {bind : D → S → Option S} {b : S → Option Out} (I : Nat → S → Prop) : ∀ {ds : List D} {k : Nat} {s : S}, I k s →
    (∀ i d s, ds[i]? = some d → I (k + i) s → ∃ s1 s2, bind d s = some s1 ∧ (b s1 = some (.nx s2) ∨ b s1 = some (.ct s2)) ∧ I (k + i + 1) s2) → ∃ s', forM bind b ds s = some (.nx s') ∧ I (k + ds.length) s'
  | [], k, s, h, _ => ⟨s, rfl, h⟩
  | d :: ds, k, s, h, step => by
    obtain ⟨s1, s2, h1, h2, h3⟩ := step 0 d s rfl h
    obtain ⟨s', h4, h5⟩ := forM_inv I (ds := ds) (k := k + 1) (s := s2) h3 fun i d' s hd hi => by
      have := step (i + 1) d' s (by simpa using hd) (by rw [← Nat.add_assoc, Nat.add_right_comm]; exact hi)
      rw [← Nat.add_assoc k i 1, Nat.add_right_comm k i 1] at this
      exact this
    refine ⟨s', ?_, by rw [List.length_cons, Nat.add_comm ds.length 1, ← Nat.add_assoc]; exact h5⟩
    show ((bind d s).bind _) = _
    rw [h1]
    show ((b s1).bind _) = _
    rcases h2 with h2 | h2
    · rw [h2]; exact h4
    · rw [h2]; exact h4
theorem whileM_inv {c : XT} {b : S → Option Out} (I : Nat → S → Prop) (Q : S → Prop) (step : ∀ n s, I n s → (c s = some false ∧ Q s) ∨ (c s = some true ∧ ∃ s' m, b s = some (.nx s') ∧ m < n ∧ I m s')) : ∀ {fuel n : Nat} {s : S}, n < fuel → I n s → ∃ s', whileM c b fuel s = some (.nx s') ∧ Q s'
  | 0, n, s, h, _ => absurd h (Nat.not_lt_zero _)
  | fuel + 1, n, s, h, hi => by
    rcases step n s hi with ⟨h1, h2⟩ | ⟨h1, s', m, h2, h3, h4⟩
    · refine ⟨s, ?_, h2⟩
      show ((c s).bind _) = _
      rw [h1]; rfl
    · obtain ⟨s2, h5, h6⟩ := whileM_inv I Q step (fuel := fuel) (n := m) (s := s') (by omega) h4
      refine ⟨s2, ?_, h6⟩
      unfold whileM
      rw [h1]
      simp only [Option.bind_some, if_true, h2]
      exact h5
/-- a loop that may return d: no turn returns, or one does -/
theorem forM_find {α : Type} {bind : D → S → Option S} {b : S → Option Out} {g : α → D} {t : α → Bool} {d : D} (I : S → Prop) : ∀ {xs : List α} {s : S}, I s →
    (∀ x ∈ xs, ∀ s, I s → ∃ s1, bind (g x) s = some s1 ∧ (if t x = true then ∃ s2, b s1 = some (.rt d s2) else ∃ s2, b s1 = some (.nx s2) ∧ I s2)) →
    if xs.any t = true then ∃ s', forM bind b (xs.map g) s = some (.rt d s') else ∃ s', forM bind b (xs.map g) s = some (.nx s') ∧ I s'
  | [], s, h, _ => ⟨s, rfl, h⟩
  | x :: xs, s, h, step => by
    obtain ⟨s1, h1, h2⟩ := step x (List.mem_cons_self ..) s h
    rw [List.any_cons]
    cases ht : t x with
    | true =>
      rw [ht, if_pos rfl] at h2
      obtain ⟨s2, h2⟩ := h2
      rw [Bool.true_or, if_pos rfl]
      refine ⟨s2, ?_⟩
      show ((bind (g x) s).bind _) = _
      rw [h1]
      show ((b s1).bind _) = _
      rw [h2]; rfl
    | false =>
      rw [ht, if_neg (by decide)] at h2
      obtain ⟨s2, h2, h3⟩ := h2
      have ih := forM_find I (xs := xs) (s := s2) h3 fun y hy => step y (List.mem_cons_of_mem _ hy)
      have e : forM bind b (g x :: xs.map g) s = forM bind b (xs.map g) s2 := by
        show ((bind (g x) s).bind _) = _
        rw [h1]
        show ((b s1).bind _) = _
        rw [h2]; rfl
      rw [Bool.false_or, List.map_cons, e]
      exact ih
end Mr

set_option Elab.async false
set_option linter.all false
set_option maxRecDepth 100000
set_option maxHeartbeats 1000000
/-! polynomials over the numbers modulo a prime as lists: what the mirrors work out -/
namespace Mr

def trimI : List Int → List Int
  | [] => []
  | x :: xs => match trimI xs with
    | [] => if x = 0 then [] else [x]
    | y :: ys => x :: y :: ys
theorem trimI_cons_ne {x : Int} {xs : List Int} (h : trimI xs ≠ []) : trimI (x :: xs) = x :: trimI xs := by
  show (match trimI xs with | [] => _ | y :: ys => _) = _
  cases e : trimI xs with
  | nil => exact absurd e h
  | cons y ys => rfl
theorem trimI_cons_nil {x : Int} {xs : List Int} (h : trimI xs = []) : trimI (x :: xs) = if x = 0 then [] else [x] := by
  show (match trimI xs with | [] => _ | y :: ys => _) = _
  rw [h]
theorem trimI_snoc0 : ∀ xs : List Int, trimI (xs ++ [0]) = trimI xs
  | [] => rfl
  | x :: xs => by
    have ih := trimI_snoc0 xs
    show trimI (x :: (xs ++ [0])) = _
    by_cases h : trimI xs = []
    · rw [trimI_cons_nil h, trimI_cons_nil (by rw [ih, h])]
    · rw [trimI_cons_ne h, trimI_cons_ne (by rw [ih]; exact h), ih]
theorem trimI_snoc {c : Int} (hc : c ≠ 0) : ∀ xs : List Int, trimI (xs ++ [c]) = xs ++ [c]
  | [] => by simp [trimI, hc]
  | x :: xs => by
    have ih := trimI_snoc hc xs
    show trimI (x :: (xs ++ [c])) = _
    rw [trimI_cons_ne (by rw [ih]; simp), ih]; rfl
theorem getD_snoc (xs : List Int) (c : Int) (i : Nat) : (xs ++ [c]).getD i 0 = if i < xs.length then xs.getD i 0 else if i = xs.length then c else 0 := by
  simp only [List.getD_eq_getElem?_getD]
  by_cases h : i < xs.length
  · rw [if_pos h, List.getElem?_append_left h]
  · rw [if_neg h, List.getElem?_append_right (Nat.le_of_not_lt h)]
    by_cases e : i = xs.length
    · subst e; simp
    · rw [if_neg e]
      have : ([c] : List Int)[i - xs.length]? = none := List.getElem?_eq_none (by simp; omega)
      rw [this]; rfl
theorem trimI_getD (i : Nat) : ∀ xs : List Int, (trimI xs).getD i 0 = xs.getD i 0 := by
  intro xs
  induction xs generalizing i with
  | nil => rfl
  | cons x xs ih =>
    by_cases h : trimI xs = []
    · rw [trimI_cons_nil h]
      have e : ∀ j, xs.getD j 0 = 0 := fun j => by rw [← ih j, h]; rfl
      cases i with
      | zero => by_cases hx : x = 0 <;> simp [hx]
      | succ i =>
        have := e i
        by_cases hx : x = 0 <;> simp [hx] <;> simpa using this.symm
    · rw [trimI_cons_ne h]
      cases i with
      | zero => rfl
      | succ i => simpa using ih i
/-- the last number isn't 0 -/
def Tr (xs : List Int) : Prop := ∀ ys : List Int, xs ≠ ys ++ [0]
theorem tr_nil : Tr [] := fun ys h => by cases ys <;> cases h
theorem tr_snoc {xs : List Int} {c : Int} (h : c ≠ 0) : Tr (xs ++ [c]) := fun ys e => h (by
  have := congrArg List.getLast? e
  simpa using this)
theorem trimI_tr (xs : List Int) : Tr (trimI xs) := by
  induction xs with
  | nil => exact tr_nil
  | cons x xs ih =>
    by_cases h : trimI xs = []
    · rw [trimI_cons_nil h]
      by_cases hx : x = 0
      · rw [if_pos hx]; exact tr_nil
      · rw [if_neg hx]; exact tr_snoc (xs := []) hx
    · rw [trimI_cons_ne h]
      intro ys e
      cases ys with
      | nil =>
        rw [List.nil_append] at e
        injection e with e1 e2
        exact h e2
      | cons y ys =>
        rw [List.cons_append] at e
        injection e with e1 e2
        exact ih ys e2
theorem trimI_of {xs : List Int} (h : Tr xs) : trimI xs = xs := by
  rcases List.eq_nil_or_concat xs with rfl | ⟨ys, c, rfl⟩
  · rfl
  · rw [List.concat_eq_append] at *
    exact trimI_snoc (fun z => h ys (by rw [z])) ys
theorem tr_ext : ∀ {xs ys : List Int}, Tr xs → Tr ys → (∀ i, xs.getD i 0 = ys.getD i 0) → xs.length ≤ ys.length → xs = ys := by
  intro xs ys hx hy h hl
  rcases List.eq_nil_or_concat ys with rfl | ⟨zs, c, rfl⟩
  · cases xs with
    | nil => rfl
    | cons x xs => simp at hl
  · rw [List.concat_eq_append] at *
    have hc : c ≠ 0 := fun z => hy zs (by rw [z])
    have e := h zs.length
    rw [getD_snoc, if_neg (Nat.lt_irrefl _), if_pos rfl] at e
    have hlen : xs.length = (zs ++ [c]).length := by
      rw [List.length_append] at *
      by_cases q : zs.length < xs.length
      · have : ([c] : List Int).length = 1 := rfl
        omega
      · rw [List.getD_eq_getElem?_getD, List.getElem?_eq_none (Nat.le_of_not_lt q)] at e
        exact absurd e.symm hc
    apply List.ext_getElem hlen
    intro i h1 h2
    have := h i
    simpa [List.getD_eq_getElem?_getD, List.getElem?_eq_getElem h1, List.getElem?_eq_getElem h2] using this
theorem trimI_ext {xs ys : List Int} (h : ∀ i, xs.getD i 0 = ys.getD i 0) : trimI xs = trimI ys := by
  have e : ∀ i, (trimI xs).getD i 0 = (trimI ys).getD i 0 := fun i => by rw [trimI_getD, trimI_getD, h]
  rcases Nat.le_total (trimI xs).length (trimI ys).length with q | q
  · exact tr_ext (trimI_tr _) (trimI_tr _) e q
  · exact (tr_ext (trimI_tr _) (trimI_tr _) (fun i => (e i).symm) q).symm
theorem trimI_len (xs : List Int) : (trimI xs).length ≤ xs.length := by
  induction xs with
  | nil => exact Nat.le_refl _
  | cons x xs ih =>
    by_cases h : trimI xs = []
    · rw [trimI_cons_nil h]; split <;> simp
    · rw [trimI_cons_ne h]; simpa using ih
def Num (p : Int) (xs : List Int) : Prop := ∀ x ∈ xs, 0 ≤ x ∧ x < p
theorem Num.getD {p : Int} {xs : List Int} (h : Num p xs) (hp : 0 < p) (i : Nat) : 0 ≤ xs.getD i 0 ∧ xs.getD i 0 < p := by
  rw [List.getD_eq_getElem?_getD]
  cases e : xs[i]? with
  | none => exact ⟨Int.le_refl _, hp⟩
  | some x => exact h x (List.mem_of_getElem? e)
theorem num_of_getD {p : Int} {xs : List Int} (h : ∀ i, i < xs.length → 0 ≤ xs.getD i 0 ∧ xs.getD i 0 < p) : Num p xs := fun x hx => by
  obtain ⟨i, hi, rfl⟩ := List.mem_iff_getElem.mp hx
  have := h i hi
  simpa [List.getD_eq_getElem?_getD, hi] using this
theorem Num.trim {p : Int} {xs : List Int} (hp : 0 < p) (h : Num p xs) : Num p (trimI xs) := num_of_getD fun i _ => by rw [trimI_getD]; exact h.getD hp i
theorem Num.take {p : Int} {xs : List Int} (h : Num p xs) (n : Nat) : Num p (xs.take n) := fun x hx => h x (List.mem_of_mem_take hx)
theorem Num.drop {p : Int} {xs : List Int} (h : Num p xs) (n : Nat) : Num p (xs.drop n) := fun x hx => h x (List.mem_of_mem_drop hx)
theorem Num.append {p : Int} {xs ys : List Int} (h : Num p xs) (k : Num p ys) : Num p (xs ++ ys) := fun x hx => by
  rcases List.mem_append.mp hx with q | q
  · exact h x q
  · exact k x q
theorem num_mod {p : Int} (hp : 0 < p) (xs : List Int) : Num p (xs.map (· % p)) := fun x hx => by
  obtain ⟨y, _, rfl⟩ := List.mem_map.mp hx
  exact ⟨Int.emod_nonneg _ (by omega), Int.emod_lt_of_pos _ hp⟩
theorem Num.mod {p : Int} {xs : List Int} (h : Num p xs) : xs.map (· % p) = xs := by
  conv => rhs; rw [← List.map_id xs]
  exact List.map_congr_left fun x hx => Int.emod_eq_of_lt (h x hx).1 (h x hx).2
theorem getD_map_mod {p : Int} (xs : List Int) (i : Nat) : (xs.map (· % p)).getD i 0 = xs.getD i 0 % p := by
  simp only [List.getD_eq_getElem?_getD, List.getElem?_map]
  cases xs[i]? <;> simp
theorem getD_set (xs : List Int) (n : Nat) (c : Int) (i : Nat) : (xs.set n c).getD i 0 = if i = n ∧ n < xs.length then c else xs.getD i 0 := by
  simp only [List.getD_eq_getElem?_getD, List.getElem?_set]
  by_cases h : n = i
  · subst h
    by_cases q : n < xs.length
    · simp [q]
    · simp [q, List.getElem?_eq_none (Nat.le_of_not_lt q)]
  · rw [if_neg h, if_neg (fun z => h z.1.symm)]

/-! ### a multiple added at a place -/
/-- g : what becomes of the number there and of the multiple -/
def actAt (g : Int → Int → Int) (t : Int) : List Int → Nat → List Int → List Int
  | [], _, r => r
  | c :: cs, n, r => actAt g t cs (n + 1) (r.set n (g (r.getD n 0) (t * c)))
theorem actAt_len {g : Int → Int → Int} {t : Int} : ∀ (b : List Int) (n : Nat) (r : List Int), (actAt g t b n r).length = r.length
  | [], _, _ => rfl
  | c :: cs, n, r => by
    show (actAt g t cs (n + 1) _).length = _
    rw [actAt_len cs, List.length_set]
theorem actAt_snoc {g : Int → Int → Int} {t c : Int} : ∀ (b : List Int) (n : Nat) (r : List Int), actAt g t (b ++ [c]) n r = (actAt g t b n r).set (n + b.length) (g ((actAt g t b n r).getD (n + b.length) 0) (t * c))
  | [], n, r => rfl
  | d :: b, n, r => by
    show actAt g t (b ++ [c]) (n + 1) _ = _
    rw [actAt_snoc b (n + 1)]
    have e : n + 1 + b.length = n + (d :: b).length := by rw [List.length_cons]; omega
    rw [e]
    rfl
theorem actAt_getD {g : Int → Int → Int} {t : Int} : ∀ (b : List Int) (n : Nat) (r : List Int) (i : Nat), n + b.length ≤ r.length → (actAt g t b n r).getD i 0 = if n ≤ i ∧ i < n + b.length then g (r.getD i 0) (t * b.getD (i - n) 0) else r.getD i 0
  | [], n, r, i, _ => by
    rw [if_neg (by simp)]; rfl
  | c :: cs, n, r, i, h => by
    rw [List.length_cons] at h
    show (actAt g t cs (n + 1) _).getD i 0 = _
    rw [actAt_getD cs (n + 1) _ i (by rw [List.length_set]; omega), getD_set, List.length_cons]
    by_cases e : i = n
    · subst e
      rw [if_neg (by omega), if_pos ⟨rfl, by omega⟩, if_pos (by omega)]
      simp
    · by_cases q : n + 1 ≤ i ∧ i < n + 1 + cs.length
      · rw [if_pos q, if_neg (fun z => e z.1), if_pos (by omega)]
        have : i - n = (i - (n + 1)) + 1 := by omega
        rw [this]
        simp
      · rw [if_neg q, if_neg (fun z => e z.1), if_neg (by omega)]
def gSub (p : Int) : Int → Int → Int := fun x y => (x - y) % p
def gAdd : Int → Int → Int := fun x y => x + y
abbrev subAt (p t : Int) := actAt (gSub p) t
abbrev addAt (t : Int) := actAt gAdd t
theorem subAt_snoc {p t c : Int} (b : List Int) (n : Nat) (r : List Int) : subAt p t (b ++ [c]) n r = (subAt p t b n r).set (n + b.length) (((subAt p t b n r).getD (n + b.length) 0 - t * c) % p) := actAt_snoc b n r
theorem addAt_snoc {t c : Int} (b : List Int) (n : Nat) (r : List Int) : addAt t (b ++ [c]) n r = (addAt t b n r).set (n + b.length) ((addAt t b n r).getD (n + b.length) 0 + t * c) := actAt_snoc b n r
theorem actAt_num {p t : Int} (hp : 0 < p) {b : List Int} {n : Nat} {r : List Int} (h : Num p r) (hl : n + b.length ≤ r.length) : Num p (subAt p t b n r) := num_of_getD fun i _ => by
  rw [actAt_getD b n r i hl]
  split
  · exact ⟨Int.emod_nonneg _ (by omega), Int.emod_lt_of_pos _ hp⟩
  · exact h.getD hp i
theorem list_ext {xs ys : List Int} (hl : xs.length = ys.length) (h : ∀ i, xs.getD i 0 = ys.getD i 0) : xs = ys := by
  apply List.ext_getElem hl
  intro i h1 h2
  have := h i
  simpa [List.getD_eq_getElem?_getD, List.getElem?_eq_getElem h1, List.getElem?_eq_getElem h2] using this
theorem subAt_zero {p : Int} (hp : 0 < p) {b : List Int} {n : Nat} {r : List Int} (h : Num p r) (hl : n + b.length ≤ r.length) : subAt p 0 b n r = r :=
  list_ext (actAt_len _ _ _) fun i => by
    rw [actAt_getD b n r i hl]
    split
    · show (_ - 0 * _) % p = _
      rw [Int.zero_mul, Int.sub_zero]
      exact Int.emod_eq_of_lt (h.getD hp i).1 (h.getD hp i).2
    · rfl
theorem addAt_zero {b : List Int} {n : Nat} {r : List Int} (hl : n + b.length ≤ r.length) : addAt 0 b n r = r :=
  list_ext (actAt_len _ _ _) fun i => by
    rw [actAt_getD b n r i hl]
    split
    · show _ + 0 * _ = _
      rw [Int.zero_mul, Int.add_zero]
    · rfl

/-! ### products -/
def mulAcc (b : List Int) : List Int → Nat → List Int → List Int
  | [], _, r => r
  | t :: ts, n, r => mulAcc b ts (n + 1) (addAt t b n r)
def mulI (a b : List Int) : List Int := mulAcc b a 0 (List.replicate (a.length + b.length) 0)
theorem mulAcc_len (b : List Int) : ∀ (a : List Int) (n : Nat) (r : List Int), (mulAcc b a n r).length = r.length
  | [], _, _ => rfl
  | t :: ts, n, r => by
    show (mulAcc b ts (n + 1) _).length = _
    rw [mulAcc_len b ts, actAt_len]
theorem mulAcc_snoc (b : List Int) (t : Int) : ∀ (a : List Int) (n : Nat) (r : List Int), mulAcc b (a ++ [t]) n r = addAt t b (n + a.length) (mulAcc b a n r)
  | [], _, _ => rfl
  | c :: a, n, r => by
    show mulAcc b (a ++ [t]) (n + 1) _ = _
    rw [mulAcc_snoc b t a (n + 1)]
    have e : n + 1 + a.length = n + (c :: a).length := by rw [List.length_cons]; omega
    rw [e]
    rfl
theorem mulAcc_zero (b : List Int) : ∀ (k n : Nat) (r : List Int), n + k + b.length ≤ r.length + 1 → mulAcc b (List.replicate k 0) n r = r
  | 0, _, _, _ => rfl
  | k + 1, n, r, h => by
    show mulAcc b (List.replicate k 0) (n + 1) (addAt 0 b n r) = r
    rw [addAt_zero (by omega), mulAcc_zero b k (n + 1) r (by omega)]
theorem mulI_mono (b : List Int) (k : Nat) (t : Int) : mulI (List.replicate k 0 ++ [t]) b = addAt t b k (List.replicate (k + 1 + b.length) 0) := by
  unfold mulI
  rw [mulAcc_snoc, mulAcc_zero b k 0 _ (by simp; omega)]
  simp

/-! ### division -/
def stepAt (p inv : Int) (b : List Int) (n : Nat) (r : List Int) : List Int := subAt p (r.getD (n + b.length - 1) 0 * inv % p) b n r
def divR (p inv : Int) (b : List Int) : Nat → List Int → List Int
  | 0, r => r
  | n + 1, r => divR p inv b n (stepAt p inv b n r)
def divQ (p inv : Int) (b : List Int) : Nat → List Int → List Int → List Int
  | 0, _, q => q
  | n + 1, r, q => divQ p inv b n (stepAt p inv b n r) (q.set n (r.getD (n + b.length - 1) 0 * inv % p))
def remI (p inv : Int) (a b : List Int) : List Int := trimI ((divR p inv b (a.length + 1 - b.length) a).take (b.length - 1))
theorem stepAt_len {p inv : Int} {b : List Int} {n : Nat} {r : List Int} : (stepAt p inv b n r).length = r.length := actAt_len _ _ _
theorem divR_len {p inv : Int} {b : List Int} : ∀ (n : Nat) (r : List Int), (divR p inv b n r).length = r.length
  | 0, _ => rfl
  | n + 1, r => by
    show (divR p inv b n _).length = _
    rw [divR_len n, stepAt_len]
theorem divR_num {p inv : Int} (hp : 0 < p) {b : List Int} : ∀ (n : Nat) (r : List Int), n + b.length ≤ r.length + 1 → Num p r → Num p (divR p inv b n r)
  | 0, _, _, h => h
  | n + 1, r, hl, h => divR_num hp n _ (by rw [stepAt_len]; omega) (actAt_num hp h (by omega))
/-- nothing from k on -/
def Zf (k : Nat) (r : List Int) : Prop := ∀ i, k ≤ i → r.getD i 0 = 0
theorem zf_len {r : List Int} {k : Nat} (h : r.length ≤ k) : Zf k r := fun i hi => by
  rw [List.getD_eq_getElem?_getD, List.getElem?_eq_none (by omega)]; rfl
theorem getD_take (r : List Int) (k i : Nat) : (r.take k).getD i 0 = if i < k then r.getD i 0 else 0 := by
  simp only [List.getD_eq_getElem?_getD, List.getElem?_take]
  split <;> rfl
theorem trim_take {k : Nat} {r : List Int} (h : Zf k r) : trimI (r.take k) = trimI r := trimI_ext fun i => by
  rw [getD_take]
  split
  · rfl
  · rw [h i (by omega)]
theorem getD_last {b : List Int} (h : b ≠ []) : b.getD (b.length - 1) 0 = b.getLast h := by
  have : 0 < b.length := List.length_pos_iff.mpr h
  rw [List.getLast_eq_getElem, List.getD_eq_getElem?_getD, List.getElem?_eq_getElem (by omega)]; rfl
theorem stepAt_zf {p inv : Int} (hp : 0 < p) {b : List Int} (hb : b ≠ []) (hinv : (b.getLast hb * inv) % p = 1) {n : Nat} {r : List Int} (hr : Num p r) (hl : n + b.length ≤ r.length) (h : Zf (n + b.length) r) : Zf (n + b.length - 1) (stepAt p inv b n r) := fun i hi => by
  have hbl : 0 < b.length := List.length_pos_iff.mpr hb
  unfold stepAt
  rw [actAt_getD b n r i hl]
  by_cases e : i = n + b.length - 1
  · subst e
    rw [if_pos (by omega)]
    have e2 : n + b.length - 1 - n = b.length - 1 := by omega
    rw [e2, getD_last hb]
    generalize r.getD (n + b.length - 1) 0 = x
    generalize b.getLast hb = c at *
    show (x - x * inv % p * c) % p = 0
    have h1 : (x * inv % p * c) % p = x % p := by
      rw [Int.mul_emod, Int.emod_emod_of_dvd _ (Int.dvd_refl p), ← Int.mul_emod, Int.mul_assoc, Int.mul_comm inv c, Int.mul_emod, hinv, Int.mul_one, Int.emod_emod_of_dvd _ (Int.dvd_refl p)]
    rw [Int.sub_emod, h1, Int.sub_self, Int.zero_emod]
  · rw [if_neg (by omega)]
    exact h i (by omega)
theorem divR_zf {p inv : Int} (hp : 0 < p) {b : List Int} (hb : b ≠ []) (hinv : (b.getLast hb * inv) % p = 1) : ∀ (n : Nat) (r : List Int), n + b.length ≤ r.length + 1 → Num p r → Zf (n + b.length - 1) r → Zf (b.length - 1) (divR p inv b n r)
  | 0, r, _, _, h => by rw [Nat.zero_add] at h; exact h
  | n + 1, r, hl, hr, h => by
    have e : n + 1 + b.length - 1 = n + b.length := by omega
    rw [e] at h
    exact divR_zf hp hb hinv n _ (by rw [stepAt_len]; omega) (actAt_num hp hr (by omega)) (stepAt_zf hp hb hinv hr (by omega) h)
theorem remI_eq {p inv : Int} (hp : 0 < p) {a b : List Int} (hb : b ≠ []) (hinv : (b.getLast hb * inv) % p = 1) (ha : Num p a) : remI p inv a b = trimI (divR p inv b (a.length + 1 - b.length) a) := by
  have hbl : 0 < b.length := List.length_pos_iff.mpr hb
  unfold remI
  apply trim_take
  by_cases q : b.length ≤ a.length + 1
  · exact divR_zf hp hb hinv _ _ (by omega) ha (zf_len (by omega))
  · have : a.length + 1 - b.length = 0 := by omega
    rw [this]
    exact zf_len (r := a) (by omega)
theorem remI_num {p inv : Int} (hp : 0 < p) {a b : List Int} (hb : b ≠ []) (ha : Num p a) : Num p (remI p inv a b) := by
  have hbl : 0 < b.length := List.length_pos_iff.mpr hb
  unfold remI
  apply Num.trim hp
  apply Num.take
  by_cases q : b.length ≤ a.length + 1
  · exact divR_num hp _ _ (by omega) ha
  · have : a.length + 1 - b.length = 0 := by omega
    rw [this]; exact ha
theorem remI_len {p inv : Int} {a b : List Int} (hb : b ≠ []) : (remI p inv a b).length < b.length := by
  have hbl : 0 < b.length := List.length_pos_iff.mpr hb
  unfold remI
  have h1 := trimI_len ((divR p inv b (a.length + 1 - b.length) a).take (b.length - 1))
  have h2 := List.length_take_le (b.length - 1) (divR p inv b (a.length + 1 - b.length) a)
  omega
theorem remI_tr {p inv : Int} {a b : List Int} : Tr (remI p inv a b) := trimI_tr _
end Mr

set_option Elab.async false
set_option linter.all false
set_option maxRecDepth 100000
set_option maxHeartbeats 1000000
/-! a part of a list written anew, on numbers -/
namespace Mr
open PySem PySem.Spec PyProof.Rows L2
theorem getD_app (a b : List Int) (i : Nat) : (a ++ b).getD i 0 = if i < a.length then a.getD i 0 else b.getD (i - a.length) 0 := by
  simp only [List.getD_eq_getElem?_getD]
  by_cases h : i < a.length
  · rw [if_pos h, List.getElem?_append_left h]
  · rw [if_neg h, List.getElem?_append_right (Nat.le_of_not_lt h)]
theorem getD_drop' (a : List Int) (n i : Nat) : (a.drop n).getD i 0 = a.getD (n + i) 0 := by
  simp only [List.getD_eq_getElem?_getD, List.getElem?_drop]
theorem getD_zw (h : Int → Int → Int) (a b : List Int) (i : Nat) (h1 : i < a.length) (h2 : i < b.length) : (List.zipWith h a b).getD i 0 = h (a.getD i 0) (b.getD i 0) := by
  simp only [List.getD_eq_getElem?_getD, List.getElem?_zipWith, List.getElem?_eq_getElem h1, List.getElem?_eq_getElem h2]
  rfl
theorem splice_eq {g h : Int → Int → Int} {t : Int} (hh : ∀ x y, h x y = g x (t * y)) {b r : List Int} {n : Nat} (hl : n + b.length ≤ r.length) : r.take n ++ List.zipWith h (r.drop n) b ++ r.drop (n + b.length) = actAt g t b n r := by
  have l1 : (r.take n).length = n := by rw [List.length_take]; omega
  have l2 : (List.zipWith h (r.drop n) b).length = b.length := by rw [List.length_zipWith, List.length_drop]; omega
  refine list_ext ?_ fun i => ?_
  · rw [actAt_len, List.length_append, List.length_append, l1, l2, List.length_drop]; omega
  · rw [actAt_getD b n r i hl, getD_app, List.length_append, l1, l2, getD_app, l1]
    by_cases h1 : i < n
    · rw [if_pos (by omega), if_pos h1, if_neg (by omega), getD_take, if_pos h1]
    · by_cases h2 : i < n + b.length
      · rw [if_pos h2, if_neg h1, if_pos ⟨by omega, h2⟩, getD_zw _ _ _ _ (by rw [List.length_drop]; omega) (by omega), getD_drop', hh, show n + (i - n) = i by omega]
      · rw [if_neg h2, if_neg (by omega), getD_drop', show n + b.length + (i - (n + b.length)) = i by omega]
theorem zip_map (h : Int → Int → Int) (a b : List Int) : ((a.zip b).map fun q => D.int (h q.1 q.2)) = (List.zipWith h a b).map D.int := by
  rw [List.zip, List.map_zipWith, List.map_zipWith]
theorem zip_take {a b : List Int} : (a.take b.length).zip b = a.zip b := by
  apply List.ext_getElem
  · simp only [List.length_zip, List.length_take]; omega
  · intro i h1 h2
    simp
theorem cut_mid {α : Type} (xs : List α) {n m : Nat} (h : n ≤ m) (h2 : m ≤ xs.length) : cutL xs (some (n : Int)) (some (m : Int)) = (xs.drop n).take (m - n) := by
  unfold cutL
  rw [HT.sIx_nat, HT.sIx_nat, show min n xs.length = n by omega, show min m xs.length = m by omega]
theorem dZip_li (a b : List Int) : dZip [li a, li b] = some ((a.zip b).map fun q => .tup [.int q.1, .int q.2]) := by
  show some (List.zipWith _ (a.map D.int) (b.map D.int)) = _
  rw [List.zipWith_map, List.zip, List.map_zipWith]
theorem zip_cut {r b : List Int} {n m : Nat} (hm : m = n + b.length) (hl : m ≤ r.length) : dZip [li (cutL r (some (n : Int)) (some (m : Int))), li b] = some (((r.drop n).zip b).map fun q => .tup [.int q.1, .int q.2]) := by
  rw [cut_mid r (by omega) hl, dZip_li, show m - n = b.length by omega, zip_take]
theorem scal_ints (xs : List Int) : (xs.map D.int).all scalB = true := by
  rw [List.all_eq_true]
  intro x hx
  obtain ⟨y, _, rfl⟩ := List.mem_map.mp hx
  rfl
/-- the store's answer -/
theorem slc_ints {g h : Int → Int → Int} {t : Int} (hh : ∀ x y, h x y = g x (t * y)) {b r : List Int} {n m : Nat} (hm : m = n + b.length) (hl : m ≤ r.length) (hr : r.length ≤ 40000) (j : Nat) (s : S) (fa fc : XE) (fn : XN) (h1 : (s[j]?).join = some (li r)) (h2 : fn s = some ((List.zipWith h (r.drop n) b).map D.int)) (h3 : fa s = some (.int (n : Nat))) (h4 : fc s = some (.int (m : Nat))) :
    sSlc j fa fc fn s = some (.nx (s.set j (some (li (actAt g t b n r))))) := by
  unfold sSlc
  rw [h1, h2, h3, h4]
  have hz : ((List.zipWith h (r.drop n) b).map D.int).all scalB = true ∧ 0 ≤ (n : Int) ∧ (n : Int) ≤ (m : Int) ∧ (m : Int) ≤ ((r.map D.int).length : Int) ∧ (r.map D.int).length + ((List.zipWith h (r.drop n) b).map D.int).length ≤ 100000 := by
    refine ⟨scal_ints _, by omega, by omega, by rw [List.length_map]; omega, ?_⟩
    rw [List.length_map, List.length_map, List.length_zipWith, List.length_drop]; omega
  show (if _ then _ else _) = _
  rw [if_pos hz]
  have e : (r.map D.int).take (n : Int).toNat ++ (List.zipWith h (r.drop n) b).map D.int ++ (r.map D.int).drop (m : Int).toNat = (actAt g t b n r).map D.int := by
    rw [← splice_eq hh (show n + b.length ≤ r.length by omega), List.map_append, List.map_append, List.map_take, List.map_drop, ← hm]
    simp
  rw [e]
theorem dNeO_str {c : Nat} {mm : List D → Option FR} (x : Str) (y : D) : dNeO c mm (.str x) y = dNe (.str x) y := rfl
theorem dNeO_lst {c : Nat} {mm : List D → Option FR} (x : List D) (y : D) : dNeO c mm (.lst x) y = dNe (.lst x) y := rfl
theorem dNeO_li {c : Nat} {mm : List D → Option FR} (x : List Int) (y : D) : dNeO c mm (li x) y = dNe (li x) y := rfl
theorem dNeO_tup {c : Nat} {mm : List D → Option FR} (x : List D) (y : D) : dNeO c mm (.tup x) y = dNe (.tup x) y := rfl
theorem dNeO_int {c : Nat} {mm : List D → Option FR} (x : Int) (y : D) : dNeO c mm (.int x) y = dNe (.int x) y := rfl
theorem dNeO_bl {c : Nat} {mm : List D → Option FR} (x : Bool) (y : D) : dNeO c mm (.bl x) y = dNe (.bl x) y := rfl
end Mr

set_option Elab.async false
set_option linter.all false
set_option maxRecDepth 100000
set_option maxHeartbeats 1000000
/-! the program's polynomials: what their mirrors answer -/
namespace G7
open PySem PySem.Spec PyProof.Rows L2 Mr
theorem trimmed_ok (xs : List Int) (h : xs.length < 100000) : m_poly_trimmed [li xs] = some (.ret (li (trimI xs))) := by
  unfold m_poly_trimmed defM
  obtain ⟨s', h1, h2⟩ := whileM_inv (c := (xtAnd (xBl (xOp (dCmp pGt) (xVar 1) (xC (.int 0)))) (xBl (xOp (dEq) (xOp dIx (xVar 0) (xOp dSub (xVar 1) (xC (.int 1)))) (xC (.int 0)))))) (b := (sAug 1 (fun i j => i - j) (xC (.int 1)))) (fun n s => s = [some (li xs), some (.int (n : Nat))] ∧ n ≤ xs.length ∧ trimI (xs.take n) = trimI xs) (fun s => ∃ n : Nat, s = [some (li xs), some (.int n)] ∧ n ≤ xs.length ∧ xs.take n = trimI xs) (by
    rintro n s ⟨rfl, hn, ht⟩
    cases n with
    | zero =>
      refine .inl ⟨?_, 0, rfl, hn, ?_⟩
      · simp [xtAnd, xBl, xOp, xVar, xC, dCmp]
      · rw [← ht]; rfl
    | succ n =>
      have e1 : xs.take (n + 1) = xs.take n ++ [xs.getD n 0] := by
        rw [List.take_succ, List.getElem?_eq_getElem (by omega)]; simp [List.getD_eq_getElem?_getD, List.getElem?_eq_getElem (show n < xs.length by omega)]
      have e2 : dIx (li xs) (.int (n : Nat)) = some (.int (xs.getD n 0)) := dIx_li rfl (by omega)
      have e3 : (((n + 1 : Nat) : Int) - 1) = (n : Nat) := by omega
      have e4 : decide ((0 : Int) < ((n + 1 : Nat) : Int)) = true := by simp
      by_cases q : xs.getD n 0 = 0
      · refine .inr ⟨?_, _, n, ?_, Nat.lt_succ_self n, rfl, by omega, ?_⟩
        · simp only [sSeq, sSet, sSetC, sSetO, sRet, sIf, sNil, sFor, sStoC, sApp, sAug, sPop, sPar, sPar3, sAsgT, sRaise, sCallX, wipeS, scalB, xVar, xC, xOp, xUn, xChain, xAnd, xOr, xNot, xIf, xTru, xtAnd, xtOr, xtNot, xNil, xCons, xLst, xTup, xB, xSl, xoN, xoS, xBl, xYes, xiL, xi, xiRev, xCall, frD, on1, on2, bName, bPair, nList, nRep, nComp, dLs, dSub, dAdd_int, dCmp, dNeg, dInt, dTru, dMax, lim, lim2, List.map_cons, List.map_nil, List.length_cons, List.length_nil, List.append_eq, List.cons_append, List.nil_append, List.replicate, List.getElem?_cons_zero, List.getElem?_cons_succ, Option.join_some, Option.join_none, Option.bind_some, Option.map_some, Option.bind_none, Option.map_none, List.set_cons_succ, List.set_cons_zero, if_true, Nat.reduceAdd, Nat.reduceSub, Nat.reduceLeDiff, Bool.false_eq_true, if_false, dLen_li, dSl_li, cut_to, cut_from, dEq_int, dNe_int, dEq_li, dNe_li, reduceIte, li_set, e3, e2, e4]
          rw [q]; rfl
        · simp only [sSeq, sSet, sSetC, sSetO, sRet, sIf, sNil, sFor, sStoC, sApp, sAug, sPop, sPar, sPar3, sAsgT, sRaise, sCallX, wipeS, scalB, xVar, xC, xOp, xUn, xChain, xAnd, xOr, xNot, xIf, xTru, xtAnd, xtOr, xtNot, xNil, xCons, xLst, xTup, xB, xSl, xoN, xoS, xBl, xYes, xiL, xi, xiRev, xCall, frD, on1, on2, bName, bPair, nList, nRep, nComp, dLs, dSub, dAdd_int, dCmp, dNeg, dInt, dTru, dMax, lim, lim2, List.map_cons, List.map_nil, List.length_cons, List.length_nil, List.append_eq, List.cons_append, List.nil_append, List.replicate, List.getElem?_cons_zero, List.getElem?_cons_succ, Option.join_some, Option.join_none, Option.bind_some, Option.map_some, Option.bind_none, Option.map_none, List.set_cons_succ, List.set_cons_zero, if_true, Nat.reduceAdd, Nat.reduceSub, Nat.reduceLeDiff, Bool.false_eq_true, if_false, dLen_li, dSl_li, cut_to, cut_from, dEq_int, dNe_int, dEq_li, dNe_li, reduceIte, li_set, e3]
        · rw [e1, q, trimI_snoc0] at ht
          exact ht
      · refine .inl ⟨?_, n + 1, rfl, hn, ?_⟩
        · simp only [sSeq, sSet, sSetC, sSetO, sRet, sIf, sNil, sFor, sStoC, sApp, sAug, sPop, sPar, sPar3, sAsgT, sRaise, sCallX, wipeS, scalB, xVar, xC, xOp, xUn, xChain, xAnd, xOr, xNot, xIf, xTru, xtAnd, xtOr, xtNot, xNil, xCons, xLst, xTup, xB, xSl, xoN, xoS, xBl, xYes, xiL, xi, xiRev, xCall, frD, on1, on2, bName, bPair, nList, nRep, nComp, dLs, dSub, dAdd_int, dCmp, dNeg, dInt, dTru, dMax, lim, lim2, List.map_cons, List.map_nil, List.length_cons, List.length_nil, List.append_eq, List.cons_append, List.nil_append, List.replicate, List.getElem?_cons_zero, List.getElem?_cons_succ, Option.join_some, Option.join_none, Option.bind_some, Option.map_some, Option.bind_none, Option.map_none, List.set_cons_succ, List.set_cons_zero, if_true, Nat.reduceAdd, Nat.reduceSub, Nat.reduceLeDiff, Bool.false_eq_true, if_false, dLen_li, dSl_li, cut_to, cut_from, dEq_int, dNe_int, dEq_li, dNe_li, reduceIte, li_set, e3, e2, e4, beq_eq_false_iff_ne.mpr q]
        · rw [← ht, e1, trimI_snoc q]) (fuel := 100000) (n := xs.length) (s := [some (li xs), some (.int (xs.length : Nat))]) h ⟨rfl, Nat.le_refl _, by rw [List.take_length]⟩
  obtain ⟨n, rfl, hn, ht⟩ := h2
  simp only [b_poly_trimmed, sSeq, sSet, sSetC, sSetO, sRet, sIf, sNil, sFor, sStoC, sApp, sAug, sPop, sPar, sPar3, sAsgT, sRaise, sCallX, wipeS, scalB, xVar, xC, xOp, xUn, xChain, xAnd, xOr, xNot, xIf, xTru, xtAnd, xtOr, xtNot, xNil, xCons, xLst, xTup, xB, xSl, xoN, xoS, xBl, xYes, xiL, xi, xiRev, xCall, frD, on1, on2, bName, bPair, nList, nRep, nComp, dLs, dSub, dAdd_int, dCmp, dNeg, dInt, dTru, dMax, lim, lim2, List.map_cons, List.map_nil, List.length_cons, List.length_nil, List.append_eq, List.cons_append, List.nil_append, List.replicate, List.getElem?_cons_zero, List.getElem?_cons_succ, Option.join_some, Option.join_none, Option.bind_some, Option.map_some, Option.bind_none, Option.map_none, List.set_cons_succ, List.set_cons_zero, if_true, Nat.reduceAdd, Nat.reduceSub, Nat.reduceLeDiff, Bool.false_eq_true, if_false, dLen_li, dSl_li, cut_to, cut_from, dEq_int, dNe_int, dEq_li, dNe_li, reduceIte, li_set, h1, ht]
def Pr (p : Int) : Prop := p = 3 ∨ p = 5 ∨ p = 7 ∨ p = 11 ∨ p = 13
theorem Pr.pos {p : Int} (h : Pr p) : 0 < p := by rcases h with rfl | rfl | rfl | rfl | rfl <;> decide
theorem Pr.le {p : Int} (h : Pr p) : p ≤ 13 := by rcases h with rfl | rfl | rfl | rfl | rfl <;> decide
theorem Pr.ge {p : Int} (h : Pr p) : 3 ≤ p := by rcases h with rfl | rfl | rfl | rfl | rfl <;> decide
def invI (p c : Int) : Int := ((c.toNat ^ (p.toNat - 2) % p.toNat : Nat) : Int)
theorem num_cases (P : Int → Int → Prop) (h : ∀ p ∈ [(3 : Int), 5, 7, 11, 13], ∀ i ∈ List.range (p.toNat - 1), P p ((i + 1 : Nat) : Int)) {p c : Int} (hp : Pr p) (h0 : 0 < c) (h1 : c < p) : P p c := by
  have hm : p ∈ [(3 : Int), 5, 7, 11, 13] := by rcases hp with rfl | rfl | rfl | rfl | rfl <;> decide
  have := h p hm (c.toNat - 1) (List.mem_range.mpr (by omega))
  have e : ((c.toNat - 1 + 1 : Nat) : Int) = c := by omega
  rwa [e] at this
theorem invI_ok {p c : Int} (hp : Pr p) (h0 : 0 < c) (h1 : c < p) : (c * invI p c) % p = 1 :=
  num_cases (fun p c => (c * invI p c) % p = 1) (by decide +kernel) hp h0 h1
def isInt (r : Option FR) (v : Int) : Bool := match r with
  | some (.ret (.int x)) => x == v
  | _ => false
theorem of_isInt {r : Option FR} {v : Int} (h : isInt r v = true) : r = some (.ret (.int v)) := by
  unfold isInt at h
  split at h
  · rw [eq_of_beq h]
  · cases h
theorem inverse_ok {p c : Int} (hp : Pr p) (h0 : 0 < c) (h1 : c < p) : m_inverse [.int p, .int c] = some (.ret (.int (invI p c))) :=
  of_isInt (num_cases (fun p c => isInt (m_inverse [.int p, .int c]) (invI p c) = true) (by decide +kernel) hp h0 h1)
theorem Lback_ok {p c : Int} (hp : Pr p) (h0 : 0 < c) (h1 : c < p) : m_Lback [.int p, .int c] = some (.ret (.int (invI p c))) :=
  of_isInt (num_cases (fun p c => isInt (m_Lback [.int p, .int c]) (invI p c) = true) (by decide +kernel) hp h0 h1)
theorem dMod_int {a b : Int} (h : 0 < b) : dMod (.int a) (.int b) = some (.int (a % b)) := by
  show (if 0 < b then _ else _) = _
  rw [if_pos h]
theorem dMul_int {a b : Int} (h : CMul a b) : dMul (.int a) (.int b) = some (.int (a * b)) := by
  show (if CMul a b then _ else _) = _
  rw [if_pos h]
theorem cmul_l {a b : Int} (h0 : -100000 < a) (h1 : a < 100000) : CMul a b := .inl ⟨by omega, by omega⟩
theorem cmul_r {a b : Int} (h0 : -100000 < b) (h1 : b < 100000) : CMul a b := .inr ⟨by omega, by omega⟩
theorem Num.last {p : Int} {b : List Int} (h : Num p b) (hb : b ≠ []) : 0 ≤ b.getLast hb ∧ b.getLast hb < p := h _ (List.getLast_mem hb)
theorem tr_last {b : List Int} (h : Tr b) (hb : b ≠ []) : b.getLast hb ≠ 0 := fun z => h b.dropLast (by rw [← z]; exact (List.dropLast_concat_getLast hb).symm)
theorem monic_ok {p : Int} (hp : Pr p) {a : List Int} (ha : Num p a) (hn : a ≠ []) (ht : Tr a) (hl : a.length ≤ 100000) : m_poly_monic [.int p, li a] = some (.ret (li (a.map fun x => x * invI p (a.getLast hn) % p))) := by
  have h1 := Num.last ha hn
  have h2 := tr_last ht hn
  have h3 := inverse_ok hp (show 0 < a.getLast hn by omega) h1.2
  have h4 := dIx_last hn
  have h5 := compL_all (bind := bName 3) (elt := (xOp dMod (xOp dMul (xVar 3) (xVar 2)) (xVar 0))) (s := [some (.int p), some (li a), some (.int (invI p (a.getLast hn))), none]) (g := D.int) (f := fun x => D.int (x * invI p (a.getLast hn) % p)) (xs := a) (fun x hx => ⟨_, rfl, by
    have := ha x hx
    have := hp.le
    simp only [sSeq, sSet, sSetC, sSetO, sRet, sIf, sNil, sFor, sStoC, sApp, sAug, sPop, sPar, sPar3, sAsgT, sRaise, sCallX, wipeS, scalB, xVar, xC, xOp, xUn, xChain, xAnd, xOr, xNot, xIf, xTru, xtAnd, xtOr, xtNot, xNil, xCons, xLst, xTup, xB, xSl, xoN, xoS, xBl, xYes, xiL, xi, xiRev, xCall, frD, on1, on2, bName, bPair, nList, nRep, nComp, dLs, dSub, dAdd_int, dCmp, dNeg, dInt, dTru, dMax, lim, lim2, List.map_cons, List.map_nil, List.length_cons, List.length_nil, List.append_eq, List.cons_append, List.nil_append, List.replicate, List.getElem?_cons_zero, List.getElem?_cons_succ, Option.join_some, Option.join_none, Option.bind_some, Option.map_some, Option.bind_none, Option.map_none, List.set_cons_succ, List.set_cons_zero, if_true, Nat.reduceAdd, Nat.reduceSub, Nat.reduceLeDiff, Bool.false_eq_true, if_false, dLen_li, dSl_li, cut_to, cut_from, dEq_int, dNe_int, dEq_li, dNe_li, reduceIte, li_set, dMul_int (cmul_l (a := x) (b := invI p (a.getLast hn)) (by omega) (by omega)), dMod_int hp.pos]⟩)
  unfold m_poly_monic defM
  simp only [b_poly_monic, sSeq, sSet, sSetC, sSetO, sRet, sIf, sNil, sFor, sStoC, sApp, sAug, sPop, sPar, sPar3, sAsgT, sRaise, sCallX, wipeS, scalB, xVar, xC, xOp, xUn, xChain, xAnd, xOr, xNot, xIf, xTru, xtAnd, xtOr, xtNot, xNil, xCons, xLst, xTup, xB, xSl, xoN, xoS, xBl, xYes, xiL, xi, xiRev, xCall, frD, on1, on2, bName, bPair, nList, nRep, nComp, dLs, dSub, dAdd_int, dCmp, dNeg, dInt, dTru, dMax, lim, lim2, List.map_cons, List.map_nil, List.length_cons, List.length_nil, List.append_eq, List.cons_append, List.nil_append, List.replicate, List.getElem?_cons_zero, List.getElem?_cons_succ, Option.join_some, Option.join_none, Option.bind_some, Option.map_some, Option.bind_none, Option.map_none, List.set_cons_succ, List.set_cons_zero, if_true, Nat.reduceAdd, Nat.reduceSub, Nat.reduceLeDiff, Bool.false_eq_true, if_false, dLen_li, dSl_li, cut_to, cut_from, dEq_int, dNe_int, dEq_li, dNe_li, reduceIte, li_set, h4, h3, xComp, h5, List.length_map, hl, List.map_map, li]
  rfl
end G7

set_option Elab.async false
set_option linter.all false
set_option maxRecDepth 100000
set_option maxHeartbeats 1000000
/-! division by the program -/
namespace G7
open PySem PySem.Spec PyProof.Rows L2 Mr
theorem enum_get {b : List Int} {i : Nat} {d : D} {ds : List D} (h : dEnum [li b] = some ds) (hd : ds[i]? = some d) : i < b.length ∧ d = .tup [.int (i : Nat), .int (b.getD i 0)] := by
  unfold dEnum at h
  cases h
  rw [List.getElem?_zipWith, List.length_map] at hd
  by_cases q : i < b.length
  · refine ⟨q, ?_⟩
    simp [List.getElem?_range q, List.getElem?_map, List.getElem?_eq_getElem q] at hd
    rw [← hd]; simp [List.getD_eq_getElem?_getD, List.getElem?_eq_getElem q]
  · simp [List.getElem?_eq_none (Nat.le_of_not_lt q), List.getElem?_map] at hd
theorem enum_len {b : List Int} {ds : List D} (h : dEnum [li b] = some ds) : ds.length = b.length := by
  unfold dEnum at h
  cases h
  simp
theorem enum_some (b : List Int) : ∃ ds, dEnum [li b] = some ds := ⟨_, rfl⟩
theorem ixN_len {n i : Nat} {k : Int} (hk : k = (i : Nat)) (h : i < n) : ixN n k = some i := by rw [hk]; exact ixN_nat h
theorem take_snoc {b : List Int} {i : Nat} (h : i < b.length) : b.take (i + 1) = b.take i ++ [b.getD i 0] := by
  rw [List.take_succ, List.getElem?_eq_getElem h]; simp [List.getD_eq_getElem?_getD, List.getElem?_eq_getElem h]
theorem dRevL_succ (n : Nat) : dRevL (n + 1) = .int (n : Nat) :: dRevL n := by
  unfold dRevL
  rw [List.range_succ_eq_map, List.map_cons, List.map_map]
  congr 1
  · simp
  · apply List.map_congr_left
    intro i _
    simp only [Function.comp]
    congr 1
    omega
theorem invI_num {p c : Int} (hp : Pr p) (h0 : 0 < c) (h1 : c < p) : 0 ≤ invI p c ∧ invI p c < 13 + 1 := by
  have := Int.emod_lt_of_pos ((c.toNat ^ (p.toNat - 2) : Nat) : Int) hp.pos
  have h2 := hp.le
  have h3 : 0 < p.toNat := by have := hp.pos; omega
  have h4 : c.toNat ^ (p.toNat - 2) % p.toNat < p.toNat := Nat.mod_lt _ h3
  unfold invI
  omega
def bOut : S → Option Out := (sSeq (sSetC 9 (xOp dMod (xOp dMul (xOp dIx (xVar 5) (xOp dSub (xOp dAdd (xVar 8) (xVar 4)) (xC (.int 1)))) (xVar 6)) (xVar 0))) (sSeq (sStoC 7 (xVar 8) (xVar 9)) (sIf (xTru (xVar 9)) (sSlc 5 (xVar 8) (xOp dAdd (xVar 8) (xVar 4)) (nComp (xi dZip (xCons (xSl (xVar 5) (xoS (xVar 8)) (xoS (xOp dAdd (xVar 8) (xVar 4)))) (xCons (xVar 2) xNil))) (bPair 10 11) [10, 11] xYes (xOp dMod (xOp dSub (xVar 10) (xOp dMul (xVar 9) (xVar 11))) (xVar 0)))) sNil)))
theorem outer_ok {p inv st : Int} (hp : Pr p) (hi0 : 0 ≤ inv) (hi1 : inv < 14) {a b : List Int} (hb : Num p b) (hbn : b ≠ []) : ∀ (n : Nat) (r q : List Int) (x8 x9 : Option D), Num p r → n + b.length ≤ r.length + 1 → n ≤ q.length → r.length ≤ 40000 →
    ∃ y8 y9, forM (bName 8) bOut (dRevL n) [some (.int p), some (li a), some (li b), some (.int st), some (.int b.length), some (li r), some (.int inv), some (li q), x8, x9, none, none] = some (.nx [some (.int p), some (li a), some (li b), some (.int st), some (.int b.length), some (li (divR p inv b n r)), some (.int inv), some (li (divQ p inv b n r q)), y8, y9, none, none])
  | 0, r, q, x8, x9, _, _, _, _ => ⟨x8, x9, rfl⟩
  | n + 1, r, q, x8, x9, hr, hl, hq, hr4 => by
    have hbl : 0 < b.length := List.length_pos_iff.mpr hbn
    have hpos := hp.pos
    have hle := hp.le
    obtain ⟨t, ht⟩ : ∃ t, t = r.getD (n + b.length - 1) 0 * inv % p := ⟨_, rfl⟩
    have ht0 : 0 ≤ t := by rw [ht]; exact Int.emod_nonneg _ (by omega)
    have ht1 : t < p := by rw [ht]; exact Int.emod_lt_of_pos _ hpos
    have hrn : Num p (stepAt p inv b n r) := actAt_num hpos hr (by omega)
    obtain ⟨m, hm⟩ : ∃ m, m = n + b.length := ⟨_, rfl⟩
    have e1 : (n : Int) + (b.length : Int) = ((m : Nat) : Int) := by omega
    have e1s : ((m : Nat) : Int) - 1 = ((n + b.length - 1 : Nat) : Int) := by omega
    have e2 : dIx (li r) (.int ((n + b.length - 1 : Nat) : Int)) = some (.int (r.getD (n + b.length - 1) 0)) := dIx_li rfl (by omega)
    have e3 : ixN (List.map D.int q).length (n : Int) = some n := ixN_nat (by rw [List.length_map]; omega)
    have e4 : CMul (r.getD (n + b.length - 1) 0) inv := cmul_r (by omega) (by omega)
    have key : bOut [some (.int p), some (li a), some (li b), some (.int st), some (.int b.length), some (li r), some (.int inv), some (li q), some (.int (n : Nat)), x9, none, none] = some (.nx [some (.int p), some (li a), some (li b), some (.int st), some (.int b.length), some (li (stepAt p inv b n r)), some (.int inv), some (li (q.set n t)), some (.int (n : Nat)), some (.int t), none, none]) := by
      by_cases q0 : t = 0
      · have e5 : stepAt p inv b n r = r := by
          unfold stepAt
          rw [← ht, q0]
          exact subAt_zero hpos hr (by omega)
        have e6 : (t != 0) = false := by simp [q0]
        simp only [bOut, sSeq, sSet, sSetC, sSetO, sRet, sIf, sNil, sFor, sStoC, sApp, sAug, sPop, sPar, sPar3, sAsgT, sRaise, sCallX, wipeS, scalB, xVar, xC, xOp, xUn, xChain, xAnd, xOr, xNot, xIf, xTru, xtAnd, xtOr, xtNot, xNil, xCons, xLst, xTup, xB, xSl, xoN, xoS, xBl, xYes, xiL, xi, xiRev, xCall, frD, on1, on2, bName, bPair, nList, nRep, nComp, dLs, dSub, dAdd_int, dCmp, dNeg, dInt, dTru, dMax, lim, lim2, List.map_cons, List.map_nil, List.length_cons, List.length_nil, List.append_eq, List.cons_append, List.nil_append, List.replicate, List.getElem?_cons_zero, List.getElem?_cons_succ, Option.join_some, Option.join_none, Option.bind_some, Option.map_some, Option.bind_none, Option.map_none, List.set_cons_succ, List.set_cons_zero, if_true, Nat.reduceAdd, Nat.reduceSub, Nat.reduceLeDiff, Bool.false_eq_true, if_false, dLen_li, dSl_li, cut_to, cut_from, dEq_int, dNe_int, dEq_li, dNe_li, reduceIte, li_set, e1, e1s, e2, e3, dMul_int e4, dMod_int hpos, ← ht, e6]
        rw [e5]
      · have e6 : (t != 0) = true := by simp [q0]
        have z1 : compL (bPair 10 11) xYes (xOp dMod (xOp dSub (xVar 10) (xOp dMul (xVar 9) (xVar 11))) (xVar 0)) [some (.int p), some (li a), some (li b), some (.int st), some (.int b.length), some (li r), some (.int inv), some (li (q.set n t)), some (.int (n : Nat)), some (.int t), none, none] (((r.drop n).zip b).map fun q => D.tup [.int q.1, .int q.2]) = some (((r.drop n).zip b).map fun q => D.int ((q.1 - t * q.2) % p)) := compL_all fun q hq => ⟨_, rfl, by
          have e4 : CMul t q.2 := cmul_l (by omega) (by omega)
          simp only [sSeq, sSet, sSetC, sSetO, sRet, sIf, sNil, sFor, sStoC, sApp, sAug, sPop, sPar, sPar3, sAsgT, sRaise, sCallX, wipeS, scalB, xVar, xC, xOp, xUn, xChain, xAnd, xOr, xNot, xIf, xTru, xtAnd, xtOr, xtNot, xNil, xCons, xLst, xTup, xB, xSl, xoN, xoS, xBl, xYes, xiL, xi, xiRev, xCall, frD, on1, on2, bName, bPair, nList, nRep, nComp, dLs, dSub, dAdd_int, dCmp, dNeg, dInt, dTru, dMax, lim, lim2, List.map_cons, List.map_nil, List.length_cons, List.length_nil, List.append_eq, List.cons_append, List.nil_append, List.replicate, List.getElem?_cons_zero, List.getElem?_cons_succ, Option.join_some, Option.join_none, Option.bind_some, Option.map_some, Option.bind_none, Option.map_none, List.set_cons_succ, List.set_cons_zero, if_true, Nat.reduceAdd, Nat.reduceSub, Nat.reduceLeDiff, Bool.false_eq_true, if_false, dLen_li, dSl_li, cut_to, cut_from, dEq_int, dNe_int, dEq_li, dNe_li, reduceIte, li_set, dMul_int e4, dMod_int hpos]⟩
        rw [zip_map (fun x y => (x - t * y) % p)] at z1
        have l1 : (((r.drop n).zip b).map fun q => D.tup [.int q.1, .int q.2]).length ≤ 100000 := by simp only [List.length_map, List.length_zip, List.length_drop]; omega
        have zc := zip_cut (r := r) hm (by omega)
        have hs := slc_ints (g := gSub p) (h := fun x y => (x - t * y) % p) (t := t) (fun x y => rfl) (b := b) (r := r) hm (by omega) hr4 5 [some (.int p), some (li a), some (li b), some (.int st), some (.int b.length), some (li r), some (.int inv), some (li (q.set n t)), some (.int (n : Nat)), some (.int t), none, none] (xVar 8) (xOp dAdd (xVar 8) (xVar 4)) (nComp (xi dZip (xCons (xSl (xVar 5) (xoS (xVar 8)) (xoS (xOp dAdd (xVar 8) (xVar 4)))) (xCons (xVar 2) xNil))) (bPair 10 11) [10, 11] xYes (xOp dMod (xOp dSub (xVar 10) (xOp dMul (xVar 9) (xVar 11))) (xVar 0))) rfl
          (by simp only [nComp, sSeq, sSet, sSetC, sSetO, sRet, sIf, sNil, sFor, sStoC, sApp, sAug, sPop, sPar, sPar3, sAsgT, sRaise, sCallX, wipeS, scalB, xVar, xC, xOp, xUn, xChain, xAnd, xOr, xNot, xIf, xTru, xtAnd, xtOr, xtNot, xNil, xCons, xLst, xTup, xB, xSl, xoN, xoS, xBl, xYes, xiL, xi, xiRev, xCall, frD, on1, on2, bName, bPair, nList, nRep, nComp, dLs, dSub, dAdd_int, dCmp, dNeg, dInt, dTru, dMax, lim, lim2, List.map_cons, List.map_nil, List.length_cons, List.length_nil, List.append_eq, List.cons_append, List.nil_append, List.replicate, List.getElem?_cons_zero, List.getElem?_cons_succ, Option.join_some, Option.join_none, Option.bind_some, Option.map_some, Option.bind_none, Option.map_none, List.set_cons_succ, List.set_cons_zero, if_true, Nat.reduceAdd, Nat.reduceSub, Nat.reduceLeDiff, Bool.false_eq_true, if_false, dLen_li, dSl_li, cut_to, cut_from, dEq_int, dNe_int, dEq_li, dNe_li, reduceIte, li_set, e1, zc, z1, l1]) rfl (by simp only [sSeq, sSet, sSetC, sSetO, sRet, sIf, sNil, sFor, sStoC, sApp, sAug, sPop, sPar, sPar3, sAsgT, sRaise, sCallX, wipeS, scalB, xVar, xC, xOp, xUn, xChain, xAnd, xOr, xNot, xIf, xTru, xtAnd, xtOr, xtNot, xNil, xCons, xLst, xTup, xB, xSl, xoN, xoS, xBl, xYes, xiL, xi, xiRev, xCall, frD, on1, on2, bName, bPair, nList, nRep, nComp, dLs, dSub, dAdd_int, dCmp, dNeg, dInt, dTru, dMax, lim, lim2, List.map_cons, List.map_nil, List.length_cons, List.length_nil, List.append_eq, List.cons_append, List.nil_append, List.replicate, List.getElem?_cons_zero, List.getElem?_cons_succ, Option.join_some, Option.join_none, Option.bind_some, Option.map_some, Option.bind_none, Option.map_none, List.set_cons_succ, List.set_cons_zero, if_true, Nat.reduceAdd, Nat.reduceSub, Nat.reduceLeDiff, Bool.false_eq_true, if_false, dLen_li, dSl_li, cut_to, cut_from, dEq_int, dNe_int, dEq_li, dNe_li, reduceIte, li_set, e1])
        simp only [bOut, sSeq, sSet, sSetC, sSetO, sRet, sIf, sNil, sFor, sStoC, sApp, sAug, sPop, sPar, sPar3, sAsgT, sRaise, sCallX, wipeS, scalB, xVar, xC, xOp, xUn, xChain, xAnd, xOr, xNot, xIf, xTru, xtAnd, xtOr, xtNot, xNil, xCons, xLst, xTup, xB, xSl, xoN, xoS, xBl, xYes, xiL, xi, xiRev, xCall, frD, on1, on2, bName, bPair, nList, nRep, nComp, dLs, dSub, dAdd_int, dCmp, dNeg, dInt, dTru, dMax, lim, lim2, List.map_cons, List.map_nil, List.length_cons, List.length_nil, List.append_eq, List.cons_append, List.nil_append, List.replicate, List.getElem?_cons_zero, List.getElem?_cons_succ, Option.join_some, Option.join_none, Option.bind_some, Option.map_some, Option.bind_none, Option.map_none, List.set_cons_succ, List.set_cons_zero, if_true, Nat.reduceAdd, Nat.reduceSub, Nat.reduceLeDiff, Bool.false_eq_true, if_false, dLen_li, dSl_li, cut_to, cut_from, dEq_int, dNe_int, dEq_li, dNe_li, reduceIte, li_set, e1, e1s, e2, e3, dMul_int e4, dMod_int hpos, ← ht, e6]
        refine hs.trans ?_
        rw [stepAt, ← ht]
        rfl
    obtain ⟨y8, y9, h⟩ := outer_ok (st := st) (a := a) hp hi0 hi1 hb hbn n (stepAt p inv b n r) (q.set n t) (some (.int (n : Nat))) (some (.int t)) hrn (by rw [stepAt_len]; omega) (by rw [List.length_set]; omega) (by rw [stepAt_len]; omega)
    refine ⟨y8, y9, ?_⟩
    rw [dRevL_succ]
    unfold Mr.forM
    simp only [bName, sSeq, sSet, sSetC, sSetO, sRet, sIf, sNil, sFor, sStoC, sApp, sAug, sPop, sPar, sPar3, sAsgT, sRaise, sCallX, wipeS, scalB, xVar, xC, xOp, xUn, xChain, xAnd, xOr, xNot, xIf, xTru, xtAnd, xtOr, xtNot, xNil, xCons, xLst, xTup, xB, xSl, xoN, xoS, xBl, xYes, xiL, xi, xiRev, xCall, frD, on1, on2, bName, bPair, nList, nRep, nComp, dLs, dSub, dAdd_int, dCmp, dNeg, dInt, dTru, dMax, lim, lim2, List.map_cons, List.map_nil, List.length_cons, List.length_nil, List.append_eq, List.cons_append, List.nil_append, List.replicate, List.getElem?_cons_zero, List.getElem?_cons_succ, Option.join_some, Option.join_none, Option.bind_some, Option.map_some, Option.bind_none, Option.map_none, List.set_cons_succ, List.set_cons_zero, if_true, Nat.reduceAdd, Nat.reduceSub, Nat.reduceLeDiff, Bool.false_eq_true, if_false, dLen_li, dSl_li, cut_to, cut_from, dEq_int, dNe_int, dEq_li, dNe_li, reduceIte, li_set, key, h, divR, divQ, ← ht]
theorem b_div_eq : b_poly_divided = (sSeq (sPar [7, 5] 3 4 (xOp dAdd (xOp dSub (xB (on1 dLen) (xCons (xVar 1) xNil)) (xB (on1 dLen) (xCons (xVar 2) xNil))) (xC (.int 1))) (xB (on1 dLen) (xCons (xVar 2) xNil))) (sSeq (sIf (xBl (xOp (dCmp pGt) (xB (on2 dMin) (xCons (xVar 3) (xCons (xVar 4) xNil))) (xC d_SHORT_QUOTIENT))) (sRet [] xOpen) sNil) (sSeq (sSetO [7, 5] 5 (nList (xVar 1))) (sSeq (sSet [7, 5] 6 (xCall m_inverse (xCons (xVar 0) (xCons (xOp dIx (xVar 2) (xUn dNeg (xC (.int 1)))) xNil)))) (sSeq (sSetO [7, 5] 7 (nRep (xLst (xCons (xC (.int 0)) xNil)) (xVar 3))) (sSeq (sFor [7, 5] (xiRev (xVar 3)) (bName 8) bOut) (sRet [] (xTup (xCons (xVar 7) (xCons (xCall m_poly_trimmed (xCons (xSl (xVar 5) xoN (xoS (xOp dSub (xVar 4) (xC (.int 1))))) xNil)) xNil)))))))))) := rfl
theorem divided_ok {p : Int} (hp : Pr p) {a b : List Int} (ha : Num p a) (hb : Num p b) (hbn : b ≠ []) (hbt : Tr b) (hla : a.length < 100000) (hlb : b.length < 100000) (hl1 : a.length ≤ 20000) (hl2 : a.length ≤ 200 ∨ b.length ≤ 100) (hl3 : b.length ≤ 20000) :
    m_poly_divided [.int p, li a, li b] = some (.ret (.tup [li (divQ p (invI p (b.getLast hbn)) b (a.length + 1 - b.length) a (List.replicate (a.length + 1 - b.length) 0)), li (remI p (invI p (b.getLast hbn)) a b)])) := by
  have hbl : 0 < b.length := List.length_pos_iff.mpr hbn
  have h1 := Num.last hb hbn
  have h2 := tr_last hbt hbn
  have h3 := inverse_ok hp (show 0 < b.getLast hbn by omega) h1.2
  have h4 := dIx_last hbn
  have h5 := invI_num hp (show 0 < b.getLast hbn by omega) h1.2
  have hn : ((a.length : Int) - (b.length : Int) + 1).toNat = a.length + 1 - b.length := by omega
  have e1 : (List.replicate (a.length + 1 - b.length) [D.int 0]).flatten = List.map D.int (List.replicate (a.length + 1 - b.length) 0) := rep_ints _ _
  have hz : -1000000 ≤ (a.length : Int) - (b.length : Int) + 1 ∧ (a.length : Int) - (b.length : Int) + 1 ≤ 1000000 := by omega
  have hz2 : 1 * (a.length + 1 - b.length) ≤ 100000 := by omega
  have hz3 : (a.length : Int) - (b.length : Int) + 1 ≤ 100000 ∧ -100000 ≤ (a.length : Int) - (b.length : Int) + 1 := by omega
  have e2 : (b.length : Int) - 1 = ((b.length - 1 : Nat) : Int) := by omega
  have e3 := trimmed_ok ((divR p (invI p (b.getLast hbn)) b (a.length + 1 - b.length) a).take (b.length - 1)) (by rw [List.length_take]; omega)
  have em : dMin (.int ((a.length : Int) - (b.length : Int) + 1)) (.int (b.length : Int)) = some (.int (if (b.length : Int) < (a.length : Int) - (b.length : Int) + 1 then (b.length : Int) else (a.length : Int) - (b.length : Int) + 1)) := rfl
  have eg : pGt (if (b.length : Int) < (a.length : Int) - (b.length : Int) + 1 then (b.length : Int) else (a.length : Int) - (b.length : Int) + 1) 100 = false := decide_eq_false (by split <;> omega)
  have dl : nList (xVar 1) = nList (xVar 1) := rfl
  obtain ⟨y8, y9, h6⟩ : ∃ y8 y9, Mr.forM (bName 8) bOut (dRevL (a.length + 1 - b.length)) [some (.int p), some (li a), some (li b), some (.int ((a.length : Int) - (b.length : Int) + 1)), some (.int b.length), some (li a), some (.int (invI p (b.getLast hbn))), some (li (List.replicate (a.length + 1 - b.length) 0)), none, none, none, none] = some (.nx [some (.int p), some (li a), some (li b), some (.int ((a.length : Int) - (b.length : Int) + 1)), some (.int b.length), some (li (divR p (invI p (b.getLast hbn)) b (a.length + 1 - b.length) a)), some (.int (invI p (b.getLast hbn))), some (li (divQ p (invI p (b.getLast hbn)) b (a.length + 1 - b.length) a (List.replicate (a.length + 1 - b.length) 0))), y8, y9, none, none]) := by
    by_cases q : b.length ≤ a.length + 1
    · exact outer_ok hp h5.1 h5.2 hb hbn (a.length + 1 - b.length) a (List.replicate (a.length + 1 - b.length) 0) none none ha (by omega) (by simp) (by omega)
    · have : a.length + 1 - b.length = 0 := by omega
      rw [this]
      exact ⟨_, _, rfl⟩
  unfold m_poly_divided defM
  simp only [b_div_eq, sSeq, sSet, sSetC, sSetO, sRet, sIf, sNil, sFor, sStoC, sApp, sAug, sPop, sPar, sPar3, sAsgT, sRaise, sCallX, wipeS, scalB, xVar, xC, xOp, xUn, xChain, xAnd, xOr, xNot, xIf, xTru, xtAnd, xtOr, xtNot, xNil, xCons, xLst, xTup, xB, xSl, xoN, xoS, xBl, xYes, xiL, xi, xiRev, xCall, frD, on1, on2, bName, bPair, nList, nRep, nComp, dLs, dSub, dAdd_int, dCmp, dNeg, dInt, dTru, dMax, lim, lim2, List.map_cons, List.map_nil, List.length_cons, List.length_nil, List.append_eq, List.cons_append, List.nil_append, List.replicate, List.getElem?_cons_zero, List.getElem?_cons_succ, Option.join_some, Option.join_none, Option.bind_some, Option.map_some, Option.bind_none, Option.map_none, List.set_cons_succ, List.set_cons_zero, if_true, Nat.reduceAdd, Nat.reduceSub, Nat.reduceLeDiff, Bool.false_eq_true, if_false, dLen_li, dSl_li, cut_to, cut_from, dEq_int, dNe_int, dEq_li, dNe_li, reduceIte, li_set, em, eg, h3, h4, hz, hz2, hz3, and_self, e1, hn, dRevN, h6, e2, e3, remI]
end G7

set_option Elab.async false
set_option linter.all false
set_option maxRecDepth 100000
set_option maxHeartbeats 1000000
/-! common factors, slopes, what is a polynomial, by the program -/
namespace G7
open PySem PySem.Spec PyProof.Rows L2 Mr
def gcdL (p : Int) : Nat → List Int → List Int → List Int
  | 0, a, _ => a
  | n + 1, a, b => if h : b = [] then a else gcdL p n b (remI p (invI p (b.getLast h)) a b)
theorem gcdL_nil (p : Int) (n : Nat) (a : List Int) : gcdL p n a [] = a := by cases n <;> rfl
theorem gcdL_step {p : Int} {n : Nat} {a b : List Int} (h : b ≠ []) : gcdL p (n + 1) a b = gcdL p n b (remI p (invI p (b.getLast h)) a b) := by
  show (if h : b = [] then _ else _) = _
  rw [dif_neg h]
structure Pol (p : Int) (a : List Int) : Prop where
  num : Num p a
  tr : Tr a
theorem pol_nil (p : Int) : Pol p [] := ⟨fun _ h => (by cases h), tr_nil⟩
theorem pol_rem {p inv : Int} (hp : 0 < p) {a b : List Int} (hb : b ≠ []) (ha : Num p a) : Pol p (remI p inv a b) := ⟨remI_num hp hb ha, remI_tr⟩
theorem gcdL_pol {p : Int} (hp : 0 < p) : ∀ (n : Nat) (a b : List Int), Pol p a → Pol p b → a ≠ [] → Pol p (gcdL p n a b) ∧ gcdL p n a b ≠ []
  | 0, a, b, ha, _, h => ⟨ha, h⟩
  | n + 1, a, b, ha, hb, h => by
    by_cases q : b = []
    · subst q; rw [gcdL_nil]; exact ⟨ha, h⟩
    · rw [gcdL_step q]
      exact gcdL_pol hp n b _ hb (pol_rem hp q ha.num) q
abbrev monI (p : Int) (g : List Int) : List Int := if h : g = [] then [] else g.map fun x => x * invI p (g.getLast h) % p
theorem dTru_li (xs : List Int) : dTru (li xs) = some (!xs.isEmpty) := by cases xs <;> rfl
theorem common_ok {p : Int} (hp : Pr p) {a b : List Int} (ha : Pol p a) (hb : Pol p b) (hn : a ≠ []) (hla : a.length ≤ 200) (hlb : b.length ≤ 200) :
    m_poly_common [.int p, li a, li b] = some (.ret (li (monI p (gcdL p b.length a b)))) := by
  obtain ⟨s', h1, h2⟩ := whileM_inv (c := (xTru (xVar 2))) (b := (sPar [] 1 2 (xVar 2) (xOp dIx (xCall m_poly_divided (xCons (xVar 0) (xCons (xVar 1) (xCons (xVar 2) xNil)))) (xC (.int 1)))))
    (fun n s => ∃ x y, s = [some (.int p), some (li x), some (li y)] ∧ y.length ≤ n ∧ x.length ≤ 200 ∧ y.length ≤ 200 ∧ gcdL p n x y = gcdL p b.length a b ∧ Pol p x ∧ Pol p y ∧ x ≠ []) (fun s => ∃ y, s = [some (.int p), some (li (gcdL p b.length a b)), y] ∧ (gcdL p b.length a b).length ≤ 200) (by
      rintro n s ⟨x, y, rfl, h1, h2, h3, h4, h5, h6, h7⟩
      by_cases q : y = []
      · subst q
        rw [gcdL_nil] at h4
        exact .inl ⟨rfl, _, by rw [h4], by rw [← h4]; exact h2⟩
      · have hyl : 0 < y.length := List.length_pos_iff.mpr q
        have e1 : y.isEmpty = false := by cases y with | nil => exact absurd rfl q | cons _ _ => rfl
        refine .inr ⟨?_, ?_⟩
        · simp only [sSeq, sSet, sSetC, sSetO, sRet, sIf, sNil, sFor, sStoC, sApp, sAug, sPop, sPar, sPar3, sAsgT, sRaise, sCallX, wipeS, scalB, xVar, xC, xOp, xUn, xChain, xAnd, xOr, xNot, xIf, xTru, xtAnd, xtOr, xtNot, xNil, xCons, xLst, xTup, xB, xSl, xoN, xoS, xBl, xYes, xiL, xi, xiRev, xCall, frD, on1, on2, bName, bPair, nList, nRep, nComp, dLs, dSub, dAdd_int, dCmp, dNeg, dInt, dTru, dMax, lim, lim2, List.map_cons, List.map_nil, List.length_cons, List.length_nil, List.append_eq, List.cons_append, List.nil_append, List.replicate, List.getElem?_cons_zero, List.getElem?_cons_succ, Option.join_some, Option.join_none, Option.bind_some, Option.map_some, Option.bind_none, Option.map_none, List.set_cons_succ, List.set_cons_zero, if_true, Nat.reduceAdd, Nat.reduceSub, Nat.reduceLeDiff, Bool.false_eq_true, if_false, dLen_li, dSl_li, cut_to, cut_from, dEq_int, dNe_int, dEq_li, dNe_li, reduceIte, li_set, List.isEmpty_map, e1, Bool.not_false]
        · obtain ⟨m, rfl⟩ : ∃ m, n = m + 1 := ⟨n - 1, by omega⟩
          rw [gcdL_step q] at h4
          have hr := pol_rem (inv := invI p (y.getLast q)) hp.pos q h5.num
          have hl := remI_len (p := p) (inv := invI p (y.getLast q)) (a := x) q
          refine ⟨_, m, ?_, Nat.lt_succ_self m, y, remI p (invI p (y.getLast q)) x y, rfl, by omega, h3, by omega, h4, h6, hr, q⟩
          have e2 : ∀ u v : D, dIx (.tup [u, v]) (.int 1) = some v := fun u v => rfl
          simp only [sSeq, sSet, sSetC, sSetO, sRet, sIf, sNil, sFor, sStoC, sApp, sAug, sPop, sPar, sPar3, sAsgT, sRaise, sCallX, wipeS, scalB, xVar, xC, xOp, xUn, xChain, xAnd, xOr, xNot, xIf, xTru, xtAnd, xtOr, xtNot, xNil, xCons, xLst, xTup, xB, xSl, xoN, xoS, xBl, xYes, xiL, xi, xiRev, xCall, frD, on1, on2, bName, bPair, nList, nRep, nComp, dLs, dSub, dAdd_int, dCmp, dNeg, dInt, dTru, dMax, lim, lim2, List.map_cons, List.map_nil, List.length_cons, List.length_nil, List.append_eq, List.cons_append, List.nil_append, List.replicate, List.getElem?_cons_zero, List.getElem?_cons_succ, Option.join_some, Option.join_none, Option.bind_some, Option.map_some, Option.bind_none, Option.map_none, List.set_cons_succ, List.set_cons_zero, if_true, Nat.reduceAdd, Nat.reduceSub, Nat.reduceLeDiff, Bool.false_eq_true, if_false, dLen_li, dSl_li, cut_to, cut_from, dEq_int, dNe_int, dEq_li, dNe_li, reduceIte, li_set, divided_ok hp h5.num h6.num q h6.tr (Nat.lt_of_le_of_lt h2 (by decide)) (Nat.lt_of_le_of_lt h3 (by decide)) (Nat.le_trans h2 (by decide)) (.inl h2) (Nat.le_trans h3 (by decide)), e2]) (fuel := 100000) (n := b.length) (s := [some (.int p), some (li a), some (li b)]) (Nat.lt_of_le_of_lt hlb (by decide)) ⟨a, b, rfl, Nat.le_refl _, hla, hlb, rfl, ha, hb, hn⟩
  obtain ⟨y, rfl, hl⟩ := h2
  obtain ⟨hg, hgn⟩ := gcdL_pol hp.pos b.length a b ha hb hn
  unfold m_poly_common defM
  simp only [b_poly_common, sSeq, sSet, sSetC, sSetO, sRet, sIf, sNil, sFor, sStoC, sApp, sAug, sPop, sPar, sPar3, sAsgT, sRaise, sCallX, wipeS, scalB, xVar, xC, xOp, xUn, xChain, xAnd, xOr, xNot, xIf, xTru, xtAnd, xtOr, xtNot, xNil, xCons, xLst, xTup, xB, xSl, xoN, xoS, xBl, xYes, xiL, xi, xiRev, xCall, frD, on1, on2, bName, bPair, nList, nRep, nComp, dLs, dSub, dAdd_int, dCmp, dNeg, dInt, dTru, dMax, lim, lim2, List.map_cons, List.map_nil, List.length_cons, List.length_nil, List.append_eq, List.cons_append, List.nil_append, List.replicate, List.getElem?_cons_zero, List.getElem?_cons_succ, Option.join_some, Option.join_none, Option.bind_some, Option.map_some, Option.bind_none, Option.map_none, List.set_cons_succ, List.set_cons_zero, if_true, Nat.reduceAdd, Nat.reduceSub, Nat.reduceLeDiff, Bool.false_eq_true, if_false, dLen_li, dSl_li, cut_to, cut_from, dEq_int, dNe_int, dEq_li, dNe_li, reduceIte, li_set, h1, monic_ok hp hg.num hgn hg.tr (Nat.le_trans hl (by decide))]
  rw [monI, dif_neg hgn]
/-! ### slopes -/
theorem mulmod_ok {p : Int} {u : Option D} (hpos : 0 < p) (k : Int) (y : Int) (h0 : -100000 < y) (h1 : y < 100000) : (xOp dMod (xOp dMul (xVar 2) (xVar 3)) (xVar 0)) [some (.int p), u, some (.int k), some (.int y)] = some (.int (k * y % p)) := by
  have h2 := dMul_int (cmul_r (a := k) (b := y) h0 h1)
  simp only [sSeq, sSet, sSetC, sSetO, sRet, sIf, sNil, sFor, sStoC, sApp, sAug, sPop, sPar, sPar3, sAsgT, sRaise, sCallX, wipeS, scalB, xVar, xC, xOp, xUn, xChain, xAnd, xOr, xNot, xIf, xTru, xtAnd, xtOr, xtNot, xNil, xCons, xLst, xTup, xB, xSl, xoN, xoS, xBl, xYes, xiL, xi, xiRev, xCall, frD, on1, on2, bName, bPair, nList, nRep, nComp, dLs, dSub, dAdd_int, dCmp, dNeg, dInt, dTru, dMax, lim, lim2, List.map_cons, List.map_nil, List.length_cons, List.length_nil, List.append_eq, List.cons_append, List.nil_append, List.replicate, List.getElem?_cons_zero, List.getElem?_cons_succ, Option.join_some, Option.join_none, Option.bind_some, Option.map_some, Option.bind_none, Option.map_none, List.set_cons_succ, List.set_cons_zero, if_true, Nat.reduceAdd, Nat.reduceSub, Nat.reduceLeDiff, Bool.false_eq_true, if_false, dLen_li, dSl_li, cut_to, cut_from, dEq_int, dNe_int, dEq_li, dNe_li, reduceIte, li_set, h2, dMod_int hpos]
def slI (p : Int) (a : List Int) : List Int := trimI ((a.mapIdx fun i x => (i : Int) * x % p).drop 1)
theorem slope_ok {p : Int} (hp : Pr p) {a : List Int} (ha : Num p a) (hl : a.length < 100000) : m_poly_slope [.int p, li a] = some (.ret (li (slI p a))) := by
  have hpos := hp.pos
  have hle := hp.le
  have e0 : dEnum [li a] = some ((a.zipIdx).map fun x => D.tup [.int (x.2 : Nat), .int x.1]) := by
    show some (List.zipWith (fun (i : Nat) d => D.tup [.int (i : Nat), d]) (List.range (a.map D.int).length) (a.map D.int)) = _
    congr 1
    apply List.ext_getElem
    · simp
    · intro i h1 h2
      simp
  have h5 := compL_all (bind := bPair 2 3) (elt := (xOp dMod (xOp dMul (xVar 2) (xVar 3)) (xVar 0))) (s := [some (.int p), some (li a), none, none]) (g := fun x : Int × Nat => D.tup [.int (x.2 : Nat), .int x.1]) (f := fun x => D.int ((x.2 : Int) * x.1 % p)) (xs := a.zipIdx) (fun x hx => ⟨_, rfl, by
    have h1 := ha x.1 (by
      obtain ⟨y, i⟩ := x
      have := List.mem_zipIdx' hx
      rw [this.2]
      exact List.getElem_mem _)
    exact mulmod_ok hpos _ _ (by omega) (by omega)⟩)
  have e1 : (a.zipIdx).map (fun x => D.int ((x.2 : Int) * x.1 % p)) = (a.mapIdx fun i x => (i : Int) * x % p).map D.int := by
    apply List.ext_getElem
    · simp
    · intro i h1 h2
      simp
  have hlen : (List.map (fun x => D.tup [.int ((x : Int × Nat).2 : Nat), .int x.1]) a.zipIdx).length ≤ 100000 := by simp; omega
  have e2 := trimmed_ok ((a.mapIdx fun i x => (i : Int) * x % p).drop 1) (by simp; omega)
  have e3 : cutL (a.mapIdx fun i x => (i : Int) * x % p) (some 1) none = (a.mapIdx fun i x => (i : Int) * x % p).drop 1 := by
    have := cut_from (a.mapIdx fun i x => (i : Int) * x % p) 1
    rw [← this]
    rfl
  unfold m_poly_slope defM
  simp only [b_poly_slope, sSeq, sSet, sSetC, sSetO, sRet, sIf, sNil, sFor, sStoC, sApp, sAug, sPop, sPar, sPar3, sAsgT, sRaise, sCallX, wipeS, scalB, xVar, xC, xOp, xUn, xChain, xAnd, xOr, xNot, xIf, xTru, xtAnd, xtOr, xtNot, xNil, xCons, xLst, xTup, xB, xSl, xoN, xoS, xBl, xYes, xiL, xi, xiRev, xCall, frD, on1, on2, bName, bPair, nList, nRep, nComp, dLs, dSub, dAdd_int, dCmp, dNeg, dInt, dTru, dMax, lim, lim2, List.map_cons, List.map_nil, List.length_cons, List.length_nil, List.append_eq, List.cons_append, List.nil_append, List.replicate, List.getElem?_cons_zero, List.getElem?_cons_succ, Option.join_some, Option.join_none, Option.bind_some, Option.map_some, Option.bind_none, Option.map_none, List.set_cons_succ, List.set_cons_zero, if_true, Nat.reduceAdd, Nat.reduceSub, Nat.reduceLeDiff, Bool.false_eq_true, if_false, dLen_li, dSl_li, cut_to, cut_from, dEq_int, dNe_int, dEq_li, dNe_li, reduceIte, li_set, e0, xComp, h5, e1, hlen, e3, e2, slI]
end G7

set_option Elab.async false
set_option linter.all false
set_option maxRecDepth 100000
set_option maxHeartbeats 1000000
/-! the law's polynomials -/
namespace G7
open PySem PySem.Spec PyProof.Rows L2 Mr
def ltTest : XT := (xtAnd (xBl (xOp (dNe) (xVar 2) (xLst xNil))) (xBl (xOp (dEq) (xOp dIx (xVar 2) (xUn dNeg (xC (.int 1)))) (xC (.int 0)))))
theorem Ltrim_ok {p : Int} (hp : 0 < p) (xs : List Int) (h : xs.length < 100000) : m_Ltrim [.int p, li xs] = some (.ret (li (trimI (xs.map (· % p))))) := by
  have h5 : ∀ w, compL (bName 3) xYes (xOp dMod (xB (on1 dInt) (xCons (xVar 3) xNil)) (xVar 0)) [some (.int p), some (li xs), w, none] (xs.map D.int) = some (xs.map fun x => D.int (x % p)) := fun w => compL_all (fun x hx => ⟨_, rfl, by
    simp only [sSeq, sSet, sSetC, sSetO, sRet, sIf, sNil, sFor, sStoC, sApp, sAug, sPop, sPar, sPar3, sAsgT, sRaise, sCallX, wipeS, scalB, xVar, xC, xOp, xUn, xChain, xAnd, xOr, xNot, xIf, xTru, xtAnd, xtOr, xtNot, xNil, xCons, xLst, xTup, xB, xSl, xoN, xoS, xBl, xYes, xiL, xi, xiRev, xCall, frD, on1, on2, bName, bPair, nList, nRep, nComp, dLs, dSub, dAdd_int, dCmp, dNeg, dInt, dTru, dMax, lim, lim2, List.map_cons, List.map_nil, List.length_cons, List.length_nil, List.append_eq, List.cons_append, List.nil_append, List.replicate, List.getElem?_cons_zero, List.getElem?_cons_succ, Option.join_some, Option.join_none, Option.bind_some, Option.map_some, Option.bind_none, Option.map_none, List.set_cons_succ, List.set_cons_zero, if_true, Nat.reduceAdd, Nat.reduceSub, Nat.reduceLeDiff, Bool.false_eq_true, if_false, dLen_li, dSl_li, cut_to, cut_from, dEq_int, dNe_int, dEq_li, dNe_li, reduceIte, li_set, dMod_int hp]⟩)
  have e1 : (xs.map fun x => D.int (x % p)) = (xs.map (· % p)).map D.int := by rw [List.map_map]; rfl
  obtain ⟨s', h1, h2⟩ := whileM_inv (c := ltTest) (b := sPop 2) (fun n s => ∃ ys, s = [some (.int p), some (li xs), some (li ys), none] ∧ ys.length = n ∧ trimI ys = trimI (xs.map (· % p))) (fun s => ∃ y, s = [some (.int p), some (li xs), some (li (trimI (xs.map (· % p)))), none]) (by
    rintro n s ⟨ys, rfl, hn, ht⟩
    rcases List.eq_nil_or_concat ys with rfl | ⟨zs, c, rfl⟩
    · refine .inl ⟨?_, 0, ?_⟩
      · have : dNe (li []) (.lst []) = some (.bl false) := dNe_li [] []
        simp only [ltTest, sSeq, sSet, sSetC, sSetO, sRet, sIf, sNil, sFor, sStoC, sApp, sAug, sPop, sPar, sPar3, sAsgT, sRaise, sCallX, wipeS, scalB, xVar, xC, xOp, xUn, xChain, xAnd, xOr, xNot, xIf, xTru, xtAnd, xtOr, xtNot, xNil, xCons, xLst, xTup, xB, xSl, xoN, xoS, xBl, xYes, xiL, xi, xiRev, xCall, frD, on1, on2, bName, bPair, nList, nRep, nComp, dLs, dSub, dAdd_int, dCmp, dNeg, dInt, dTru, dMax, lim, lim2, List.map_cons, List.map_nil, List.length_cons, List.length_nil, List.append_eq, List.cons_append, List.nil_append, List.replicate, List.getElem?_cons_zero, List.getElem?_cons_succ, Option.join_some, Option.join_none, Option.bind_some, Option.map_some, Option.bind_none, Option.map_none, List.set_cons_succ, List.set_cons_zero, if_true, Nat.reduceAdd, Nat.reduceSub, Nat.reduceLeDiff, Bool.false_eq_true, if_false, dLen_li, dSl_li, cut_to, cut_from, dEq_int, dNe_int, dEq_li, dNe_li, reduceIte, li_set, this]
      · rw [← ht]; rfl
    · rw [List.concat_eq_append] at *
      have hne : zs ++ [c] ≠ [] := by simp
      have a1 : dNe (li (zs ++ [c])) (.lst []) = some (.bl true) := by
        have := dNe_li (zs ++ [c]) []
        rw [show (zs ++ [c] == []) = false from beq_eq_false_iff_ne.mpr hne] at this
        exact this
      have a2 : dIx (li (zs ++ [c])) (.int (-1)) = some (.int c) := by rw [dIx_last hne]; simp
      by_cases q : c = 0
      · subst q
        refine .inr ⟨?_, _, zs.length, ?_, ?_, zs, rfl, rfl, ?_⟩
        · simp only [ltTest, sSeq, sSet, sSetC, sSetO, sRet, sIf, sNil, sFor, sStoC, sApp, sAug, sPop, sPar, sPar3, sAsgT, sRaise, sCallX, wipeS, scalB, xVar, xC, xOp, xUn, xChain, xAnd, xOr, xNot, xIf, xTru, xtAnd, xtOr, xtNot, xNil, xCons, xLst, xTup, xB, xSl, xoN, xoS, xBl, xYes, xiL, xi, xiRev, xCall, frD, on1, on2, bName, bPair, nList, nRep, nComp, dLs, dSub, dAdd_int, dCmp, dNeg, dInt, dTru, dMax, lim, lim2, List.map_cons, List.map_nil, List.length_cons, List.length_nil, List.append_eq, List.cons_append, List.nil_append, List.replicate, List.getElem?_cons_zero, List.getElem?_cons_succ, Option.join_some, Option.join_none, Option.bind_some, Option.map_some, Option.bind_none, Option.map_none, List.set_cons_succ, List.set_cons_zero, if_true, Nat.reduceAdd, Nat.reduceSub, Nat.reduceLeDiff, Bool.false_eq_true, if_false, dLen_li, dSl_li, cut_to, cut_from, dEq_int, dNe_int, dEq_li, dNe_li, reduceIte, li_set, a1, a2]; rfl
        · have b1 : List.map D.int (zs ++ [0]) ≠ [] := by simp
          have b2 : (List.map D.int (zs ++ [0])).dropLast = zs.map D.int := by simp
          simp only [sSeq, sSet, sSetC, sSetO, sRet, sIf, sNil, sFor, sStoC, sApp, sAug, sPop, sPar, sPar3, sAsgT, sRaise, sCallX, wipeS, scalB, xVar, xC, xOp, xUn, xChain, xAnd, xOr, xNot, xIf, xTru, xtAnd, xtOr, xtNot, xNil, xCons, xLst, xTup, xB, xSl, xoN, xoS, xBl, xYes, xiL, xi, xiRev, xCall, frD, on1, on2, bName, bPair, nList, nRep, nComp, dLs, dSub, dAdd_int, dCmp, dNeg, dInt, dTru, dMax, lim, lim2, List.map_cons, List.map_nil, List.length_cons, List.length_nil, List.append_eq, List.cons_append, List.nil_append, List.replicate, List.getElem?_cons_zero, List.getElem?_cons_succ, Option.join_some, Option.join_none, Option.bind_some, Option.map_some, Option.bind_none, Option.map_none, List.set_cons_succ, List.set_cons_zero, if_true, Nat.reduceAdd, Nat.reduceSub, Nat.reduceLeDiff, Bool.false_eq_true, if_false, dLen_li, dSl_li, cut_to, cut_from, dEq_int, dNe_int, dEq_li, dNe_li, reduceIte, li_set, b1, b2, ne_eq, not_false_eq_true]
        · rw [← hn]; simp
        · rw [← ht, trimI_snoc0]
      · refine .inl ⟨?_, 0, ?_⟩
        · simp only [ltTest, sSeq, sSet, sSetC, sSetO, sRet, sIf, sNil, sFor, sStoC, sApp, sAug, sPop, sPar, sPar3, sAsgT, sRaise, sCallX, wipeS, scalB, xVar, xC, xOp, xUn, xChain, xAnd, xOr, xNot, xIf, xTru, xtAnd, xtOr, xtNot, xNil, xCons, xLst, xTup, xB, xSl, xoN, xoS, xBl, xYes, xiL, xi, xiRev, xCall, frD, on1, on2, bName, bPair, nList, nRep, nComp, dLs, dSub, dAdd_int, dCmp, dNeg, dInt, dTru, dMax, lim, lim2, List.map_cons, List.map_nil, List.length_cons, List.length_nil, List.append_eq, List.cons_append, List.nil_append, List.replicate, List.getElem?_cons_zero, List.getElem?_cons_succ, Option.join_some, Option.join_none, Option.bind_some, Option.map_some, Option.bind_none, Option.map_none, List.set_cons_succ, List.set_cons_zero, if_true, Nat.reduceAdd, Nat.reduceSub, Nat.reduceLeDiff, Bool.false_eq_true, if_false, dLen_li, dSl_li, cut_to, cut_from, dEq_int, dNe_int, dEq_li, dNe_li, reduceIte, li_set, a1, a2, beq_eq_false_iff_ne.mpr q]
        · rw [← ht, trimI_snoc q]) (fuel := 100000) (n := xs.length) (s := [some (.int p), some (li xs), some (li (xs.map (· % p))), none]) h ⟨_, rfl, by simp, rfl⟩
  obtain ⟨y, rfl⟩ := h2
  have hb : b_Ltrim = sSeq (sSetO [2] 2 (nComp (xiL (xVar 1)) (bName 3) [3] xYes (xOp dMod (xB (on1 dInt) (xCons (xVar 3) xNil)) (xVar 0)))) (sSeq (whileM ltTest (sPop 2) 100000) (sRet [] (xVar 2))) := rfl
  have hl : (List.map D.int xs).length ≤ 100000 := by simp; omega
  unfold m_Ltrim defM
  simp only [hb, sSeq, sSet, sSetC, sSetO, sRet, sIf, sNil, sFor, sStoC, sApp, sAug, sPop, sPar, sPar3, sAsgT, sRaise, sCallX, wipeS, scalB, xVar, xC, xOp, xUn, xChain, xAnd, xOr, xNot, xIf, xTru, xtAnd, xtOr, xtNot, xNil, xCons, xLst, xTup, xB, xSl, xoN, xoS, xBl, xYes, xiL, xi, xiRev, xCall, frD, on1, on2, bName, bPair, nList, nRep, nComp, dLs, dSub, dAdd_int, dCmp, dNeg, dInt, dTru, dMax, lim, lim2, List.map_cons, List.map_nil, List.length_cons, List.length_nil, List.append_eq, List.cons_append, List.nil_append, List.replicate, List.getElem?_cons_zero, List.getElem?_cons_succ, Option.join_some, Option.join_none, Option.bind_some, Option.map_some, Option.bind_none, Option.map_none, List.set_cons_succ, List.set_cons_zero, if_true, Nat.reduceAdd, Nat.reduceSub, Nat.reduceLeDiff, Bool.false_eq_true, if_false, dLen_li, dSl_li, cut_to, cut_from, dEq_int, dNe_int, dEq_li, dNe_li, reduceIte, li_set, h5, e1, hl, h1]
def plusI (p f : Int) (a b : List Int) : List Int := trimI ((List.range (max a.length b.length)).map fun i => (a.getD i 0 + f * b.getD i 0) % p)
theorem plusI_getD {p f : Int} (a b : List Int) (i : Nat) : (plusI p f a b).getD i 0 = (a.getD i 0 + f * b.getD i 0) % p := by
  unfold plusI
  rw [trimI_getD]
  by_cases q : i < max a.length b.length
  · simp [List.getD_eq_getElem?_getD, List.getElem?_map, List.getElem?_range q]
  · have h1 : a.getD i 0 = 0 := zf_len (k := a.length) (Nat.le_refl _) i (by omega)
    have h2 : b.getD i 0 = 0 := zf_len (k := b.length) (Nat.le_refl _) i (by omega)
    rw [h1, h2, zf_len (k := max a.length b.length) (by simp) i (by omega)]
    simp
theorem getD_pad (a : List Int) (k i : Nat) : (a ++ List.replicate k 0).getD i 0 = a.getD i 0 := by
  simp only [List.getD_eq_getElem?_getD]
  by_cases h : i < a.length
  · rw [List.getElem?_append_left h]
  · rw [List.getElem?_append_right (Nat.le_of_not_lt h), List.getElem?_eq_none (Nat.le_of_not_lt h)]
    by_cases q : i - a.length < k
    · simp [q]
    · rw [List.getElem?_eq_none (by simp; omega)]
theorem Lplus_ok {p f : Int} (hp : 0 < p) (hf : f = 1 ∨ f = -1) (a b : List Int) (ha : a.length < 50000) (hb : b.length < 50000) :
    m_Lplus [.int p, li a, li b, .int f] = some (.ret (li (plusI p f a b))) := by
  obtain ⟨n, hn⟩ : ∃ n, n = max a.length b.length := ⟨_, rfl⟩
  have hm : (if (b.length : Int) > (a.length : Int) then (b.length : Int) else (a.length : Int)) = (n : Int) := by split <;> omega
  have z3 : (n : Int) ≤ 100000 ∧ -100000 ≤ (n : Int) := by omega
  have m1 : dMul (.lst [.int 0]) (.int ((n : Int) - (a.length : Int))) = some (li (List.replicate (n - a.length) 0)) := dMul_rep (by omega) (by omega) (by omega)
  have m2 : dMul (.lst [.int 0]) (.int ((n : Int) - (b.length : Int))) = some (li (List.replicate (n - b.length) 0)) := dMul_rep (by omega) (by omega) (by omega)
  have a1 : dAdd (li a) (li (List.replicate (n - a.length) 0)) = _ := dAdd_li (by simp; omega)
  have a2 : dAdd (li b) (li (List.replicate (n - b.length) 0)) = _ := dAdd_li (by simp; omega)
  have r1 : dRng1 [.int (n : Int)] = some ((List.range n).map fun i => .int (i : Nat)) := by
    show (if _ then _ else _) = _
    rw [if_pos z3]
    unfold dRng
    simp
  have c1 : compL (bName 7) xYes (xOp dAdd (xOp dIx (xVar 5) (xVar 7)) (xOp dMul (xVar 3) (xOp dIx (xVar 6) (xVar 7)))) [some (.int p), some (li a), some (li b), some (.int f), some (.int (n : Int)), some (li (a ++ List.replicate (n - a.length) 0)), some (li (b ++ List.replicate (n - b.length) 0)), none] ((List.range n).map fun i => D.int (i : Nat)) = some ((List.range n).map fun i => D.int (a.getD i 0 + f * b.getD i 0)) := compL_all (fun i hi => ⟨_, rfl, by
    have hi := List.mem_range.mp hi
    have g1 : dIx (li (a ++ List.replicate (n - a.length) 0)) (.int (i : Nat)) = some (.int (a.getD i 0)) := by
      rw [dIx_li rfl (by simp; omega), getD_pad]
    have g2 : dIx (li (b ++ List.replicate (n - b.length) 0)) (.int (i : Nat)) = some (.int (b.getD i 0)) := by
      rw [dIx_li rfl (by simp; omega), getD_pad]
    have g3 : CMul f (b.getD i 0) := cmul_l (by omega) (by omega)
    simp only [sSeq, sSet, sSetC, sSetO, sRet, sIf, sNil, sFor, sStoC, sApp, sAug, sPop, sPar, sPar3, sAsgT, sRaise, sCallX, wipeS, scalB, xVar, xC, xOp, xUn, xChain, xAnd, xOr, xNot, xIf, xTru, xtAnd, xtOr, xtNot, xNil, xCons, xLst, xTup, xB, xSl, xoN, xoS, xBl, xYes, xiL, xi, xiRev, xCall, frD, on1, on2, bName, bPair, nList, nRep, nComp, dLs, dSub, dAdd_int, dCmp, dNeg, dInt, dTru, dMax, lim, lim2, List.map_cons, List.map_nil, List.length_cons, List.length_nil, List.append_eq, List.cons_append, List.nil_append, List.replicate, List.getElem?_cons_zero, List.getElem?_cons_succ, Option.join_some, Option.join_none, Option.bind_some, Option.map_some, Option.bind_none, Option.map_none, List.set_cons_succ, List.set_cons_zero, if_true, Nat.reduceAdd, Nat.reduceSub, Nat.reduceLeDiff, Bool.false_eq_true, if_false, dLen_li, dSl_li, cut_to, cut_from, dEq_int, dNe_int, dEq_li, dNe_li, reduceIte, li_set, g1, g2, dMul_int g3]⟩)
  have c2 : ((List.range n).map fun i => D.int (a.getD i 0 + f * b.getD i 0)) = ((List.range n).map fun i => a.getD i 0 + f * b.getD i 0).map D.int := by rw [List.map_map]; rfl
  have c3 : (List.map (fun i => D.int (i : Nat)) (List.range n)).length ≤ 100000 := by simp; omega
  have t1 := Ltrim_ok hp ((List.range n).map fun i => a.getD i 0 + f * b.getD i 0) (by simp; omega)
  have t2 : (((List.range n).map fun i => a.getD i 0 + f * b.getD i 0).map (· % p)) = ((List.range n).map fun i => (a.getD i 0 + f * b.getD i 0) % p) := by rw [List.map_map]; rfl
  unfold m_Lplus defM plusI
  rw [← hn]
  simp only [b_Lplus, sSeq, sSet, sSetC, sSetO, sRet, sIf, sNil, sFor, sStoC, sApp, sAug, sPop, sPar, sPar3, sAsgT, sRaise, sCallX, wipeS, scalB, xVar, xC, xOp, xUn, xChain, xAnd, xOr, xNot, xIf, xTru, xtAnd, xtOr, xtNot, xNil, xCons, xLst, xTup, xB, xSl, xoN, xoS, xBl, xYes, xiL, xi, xiRev, xCall, frD, on1, on2, bName, bPair, nList, nRep, nComp, dLs, dSub, dAdd_int, dCmp, dNeg, dInt, dTru, dMax, lim, lim2, List.map_cons, List.map_nil, List.length_cons, List.length_nil, List.append_eq, List.cons_append, List.nil_append, List.replicate, List.getElem?_cons_zero, List.getElem?_cons_succ, Option.join_some, Option.join_none, Option.bind_some, Option.map_some, Option.bind_none, Option.map_none, List.set_cons_succ, List.set_cons_zero, if_true, Nat.reduceAdd, Nat.reduceSub, Nat.reduceLeDiff, Bool.false_eq_true, if_false, dLen_li, dSl_li, cut_to, cut_from, dEq_int, dNe_int, dEq_li, dNe_li, reduceIte, li_set, hm, m1, m2, a1, a2, xComp, r1, c1, c2, c3, t1, t2]
end G7

set_option Elab.async false
set_option linter.all false
set_option maxRecDepth 100000
set_option maxHeartbeats 1000000
/-! products, division and common factors by the law -/
namespace G7
open PySem PySem.Spec PyProof.Rows L2 Mr
def Sm (xs : List Int) : Prop := ∀ x ∈ xs, -100000 < x ∧ x < 100000
theorem Num.sm {p : Int} (hp : Pr p) {xs : List Int} (h : Num p xs) : Sm xs := fun x hx => by
  have := h x hx
  have := hp.le
  omega
theorem Sm.getD {xs : List Int} (h : Sm xs) (i : Nat) : -100000 < xs.getD i 0 ∧ xs.getD i 0 < 100000 := by
  rw [List.getD_eq_getElem?_getD]
  cases e : xs[i]? with
  | none => exact ⟨by decide, by decide⟩
  | some x => exact h x (List.mem_of_getElem? e)
theorem tr_eq {xs ys : List Int} (hx : Tr xs) (hy : Tr ys) (e : ∀ i, xs.getD i 0 = ys.getD i 0) : xs = ys := by
  rcases Nat.le_total xs.length ys.length with q | q
  · exact tr_ext hx hy e q
  · exact (tr_ext hy hx (fun i => (e i).symm) q).symm
def tIn : S → Option Out := (sStoC 3 (xOp dAdd (xVar 4) (xVar 6)) (xOp dAdd (xOp dIx (xVar 3) (xOp dAdd (xVar 4) (xVar 6))) (xOp dMul (xVar 5) (xVar 7))))
theorem tin_ok {p t : Int} {a b r : List Int} (hb : Sm b) {n : Nat} {x6 x7 : Option D} (hl : n + b.length ≤ r.length) {ds : List D} (hds : dEnum [li b] = some ds) :
    ∃ y6 y7, forM (bPair 6 7) tIn ds [some (.int p), some (li a), some (li b), some (li r), some (.int (n : Nat)), some (.int t), x6, x7] = some (.nx [some (.int p), some (li a), some (li b), some (li (addAt t b n r)), some (.int (n : Nat)), some (.int t), y6, y7]) := by
  have hlen := enum_len hds
  obtain ⟨s', h1, y6, y7, h2⟩ := forM_inv (bind := bPair 6 7) (b := tIn) (fun i s => ∃ y6 y7, s = [some (.int p), some (li a), some (li b), some (li (addAt t (b.take i) n r)), some (.int (n : Nat)), some (.int t), y6, y7]) (ds := ds) (k := 0) (s := [some (.int p), some (li a), some (li b), some (li r), some (.int (n : Nat)), some (.int t), x6, x7]) ⟨x6, x7, rfl⟩ (fun i d s hd hi => by
    obtain ⟨y6, y7, rfl⟩ := hi
    obtain ⟨hib, rfl⟩ := enum_get hds hd
    rw [Nat.zero_add]
    have hlr : (addAt t (b.take i) n r).length = r.length := actAt_len _ _ _
    have e1 : (n : Int) + (i : Int) = ((n + i : Nat) : Int) := by omega
    have e2 : dIx (li (addAt t (b.take i) n r)) (.int ((n + i : Nat) : Int)) = some (.int ((addAt t (b.take i) n r).getD (n + i) 0)) := dIx_li rfl (by omega)
    have e3 : ixN (List.map D.int (addAt t (b.take i) n r)).length ((n + i : Nat) : Int) = some (n + i) := ixN_nat (by rw [List.length_map]; omega)
    have hbi := hb.getD i
    have e4 : CMul t (b.getD i 0) := cmul_r (by omega) (by omega)
    refine ⟨_, _, rfl, .inl ?_, some (.int (i : Nat)), some (.int (b.getD i 0)), rfl⟩
    simp only [tIn, sSeq, sSet, sSetC, sSetO, sRet, sIf, sNil, sFor, sStoC, sApp, sAug, sPop, sPar, sPar3, sAsgT, sRaise, sCallX, wipeS, scalB, xVar, xC, xOp, xUn, xChain, xAnd, xOr, xNot, xIf, xTru, xtAnd, xtOr, xtNot, xNil, xCons, xLst, xTup, xB, xSl, xoN, xoS, xBl, xYes, xiL, xi, xiRev, xCall, frD, on1, on2, bName, bPair, nList, nRep, nComp, dLs, dSub, dAdd_int, dCmp, dNeg, dInt, dTru, dMax, lim, lim2, List.map_cons, List.map_nil, List.length_cons, List.length_nil, List.append_eq, List.cons_append, List.nil_append, List.replicate, List.getElem?_cons_zero, List.getElem?_cons_succ, Option.join_some, Option.join_none, Option.bind_some, Option.map_some, Option.bind_none, Option.map_none, List.set_cons_succ, List.set_cons_zero, if_true, Nat.reduceAdd, Nat.reduceSub, Nat.reduceLeDiff, Bool.false_eq_true, if_false, dLen_li, dSl_li, cut_to, cut_from, dEq_int, dNe_int, dEq_li, dNe_li, reduceIte, li_set, e1, e2, e3, dMul_int e4]
    rw [take_snoc hib, addAt_snoc, List.length_take, Nat.min_eq_left (Nat.le_of_lt hib)])
  refine ⟨y6, y7, ?_⟩
  rw [Nat.zero_add, hlen, List.take_length] at h2
  rw [h1, h2]
def tOut : S → Option Out := (sFor [3] (xi dEnum (xCons (xVar 2) xNil)) (bPair 6 7) tIn)
theorem mulAcc_take {b a : List Int} {i : Nat} (h : i < a.length) (r : List Int) : mulAcc b (a.take (i + 1)) 0 r = addAt (a.getD i 0) b i (mulAcc b (a.take i) 0 r) := by
  rw [take_snoc h, mulAcc_snoc, List.length_take, Nat.min_eq_left (Nat.le_of_lt h), Nat.zero_add]
theorem b_times_eq : b_Ltimes = (sSeq (sSetO [3] 3 (nRep (xLst (xCons (xC (.int 0)) xNil)) (xOp dAdd (xB (on1 dLen) (xCons (xVar 1) xNil)) (xB (on1 dLen) (xCons (xVar 2) xNil))))) (sSeq (sFor [3] (xi dEnum (xCons (xVar 1) xNil)) (bPair 4 5) tOut) (sRet [] (xCall m_Ltrim (xCons (xVar 0) (xCons (xVar 3) xNil)))))) := rfl
theorem Ltimes_ok {p : Int} (hp : 0 < p) {a b : List Int} (hb : Sm b) (hla : a.length < 50000) (hlb : b.length < 50000) :
    m_Ltimes [.int p, li a, li b] = some (.ret (li (trimI ((mulI a b).map (· % p))))) := by
  obtain ⟨ds, hds⟩ := enum_some a
  obtain ⟨es, hes⟩ := enum_some b
  have hlen := enum_len hds
  obtain ⟨s', h1, h2⟩ := forM_inv (bind := bPair 4 5) (b := tOut) (fun i s => ∃ y4 y5 y6 y7, s = [some (.int p), some (li a), some (li b), some (li (mulAcc b (a.take i) 0 (List.replicate (a.length + b.length) 0))), y4, y5, y6, y7]) (ds := ds) (k := 0) (s := [some (.int p), some (li a), some (li b), some (li (List.replicate (a.length + b.length) 0)), none, none, none, none]) ⟨none, none, none, none, rfl⟩ (fun i d s hd hi => by
    obtain ⟨y4, y5, y6, y7, rfl⟩ := hi
    obtain ⟨hib, rfl⟩ := enum_get hds hd
    rw [Nat.zero_add]
    obtain ⟨z6, z7, hin⟩ := tin_ok (p := p) (t := a.getD i 0) (a := a) (b := b) (r := mulAcc b (a.take i) 0 (List.replicate (a.length + b.length) 0)) hb (n := i) (x6 := y6) (x7 := y7) (by rw [mulAcc_len]; simp; omega) hes
    refine ⟨_, _, rfl, .inl ?_, some (.int (i : Nat)), some (.int (a.getD i 0)), z6, z7, rfl⟩
    simp only [tOut, sSeq, sSet, sSetC, sSetO, sRet, sIf, sNil, sFor, sStoC, sApp, sAug, sPop, sPar, sPar3, sAsgT, sRaise, sCallX, wipeS, scalB, xVar, xC, xOp, xUn, xChain, xAnd, xOr, xNot, xIf, xTru, xtAnd, xtOr, xtNot, xNil, xCons, xLst, xTup, xB, xSl, xoN, xoS, xBl, xYes, xiL, xi, xiRev, xCall, frD, on1, on2, bName, bPair, nList, nRep, nComp, dLs, dSub, dAdd_int, dCmp, dNeg, dInt, dTru, dMax, lim, lim2, List.map_cons, List.map_nil, List.length_cons, List.length_nil, List.append_eq, List.cons_append, List.nil_append, List.replicate, List.getElem?_cons_zero, List.getElem?_cons_succ, Option.join_some, Option.join_none, Option.bind_some, Option.map_some, Option.bind_none, Option.map_none, List.set_cons_succ, List.set_cons_zero, if_true, Nat.reduceAdd, Nat.reduceSub, Nat.reduceLeDiff, Bool.false_eq_true, if_false, dLen_li, dSl_li, cut_to, cut_from, dEq_int, dNe_int, dEq_li, dNe_li, reduceIte, li_set, hes, hin]
    rw [mulAcc_take hib])
  obtain ⟨y4, y5, y6, y7, rfl⟩ := h2
  rw [Nat.zero_add, hlen, List.take_length] at h1
  have e1 : ((a.length : Int) + (b.length : Int)).toNat = a.length + b.length := by omega
  have z1 : -1000000 ≤ (a.length : Int) + (b.length : Int) ∧ (a.length : Int) + (b.length : Int) ≤ 1000000 := by omega
  have z2 : 1 * (a.length + b.length) ≤ 100000 := by omega
  have t1 := Ltrim_ok hp (mulAcc b a 0 (List.replicate (a.length + b.length) 0)) (by rw [mulAcc_len]; simp; omega)
  unfold m_Ltimes defM mulI
  simp only [b_times_eq, sSeq, sSet, sSetC, sSetO, sRet, sIf, sNil, sFor, sStoC, sApp, sAug, sPop, sPar, sPar3, sAsgT, sRaise, sCallX, wipeS, scalB, xVar, xC, xOp, xUn, xChain, xAnd, xOr, xNot, xIf, xTru, xtAnd, xtOr, xtNot, xNil, xCons, xLst, xTup, xB, xSl, xoN, xoS, xBl, xYes, xiL, xi, xiRev, xCall, frD, on1, on2, bName, bPair, nList, nRep, nComp, dLs, dSub, dAdd_int, dCmp, dNeg, dInt, dTru, dMax, lim, lim2, List.map_cons, List.map_nil, List.length_cons, List.length_nil, List.append_eq, List.cons_append, List.nil_append, List.replicate, List.getElem?_cons_zero, List.getElem?_cons_succ, Option.join_some, Option.join_none, Option.bind_some, Option.map_some, Option.bind_none, Option.map_none, List.set_cons_succ, List.set_cons_zero, if_true, Nat.reduceAdd, Nat.reduceSub, Nat.reduceLeDiff, Bool.false_eq_true, if_false, dLen_li, dSl_li, cut_to, cut_from, dEq_int, dNe_int, dEq_li, dNe_li, reduceIte, li_set, z1, z2, e1, and_self, rep_ints, hds, h1, t1]
/-! ### division -/
def pCond : XT := (xBl (xOp (dCmp pGe) (xB (on1 dLen) (xCons (xVar 3) xNil)) (xB (on1 dLen) (xCons (xVar 2) xNil))))
def pBody : S → Option Out := (sSeq (sSet [] 6 (xOp dAdd (xOp dMul (xLst (xCons (xC (.int 0)) xNil)) (xOp dSub (xB (on1 dLen) (xCons (xVar 3) xNil)) (xB (on1 dLen) (xCons (xVar 2) xNil)))) (xLst (xCons (xOp dMod (xB (on1 dInt) (xCons (xOp dMul (xOp dIx (xVar 3) (xUn dNeg (xC (.int 1)))) (xVar 5)) xNil)) (xVar 0)) xNil)))) (sSeq (sSet [] 4 (xCall m_Lplus (xCons (xVar 0) (xCons (xVar 4) (xCons (xVar 6) (xCons (xC (.int 1)) xNil)))))) (sSet [] 3 (xCall m_Lplus (xCons (xVar 0) (xCons (xVar 3) (xCons (xCall m_Ltimes (xCons (xVar 0) (xCons (xVar 6) (xCons (xVar 2) xNil)))) (xCons (xUn dNeg (xC (.int 1))) xNil))))))))
theorem plusI_len {p f : Int} (a b : List Int) : (plusI p f a b).length ≤ max a.length b.length := by
  unfold plusI
  have := trimI_len ((List.range (max a.length b.length)).map fun i => (a.getD i 0 + f * b.getD i 0) % p)
  simpa using this
theorem trim_full {r : List Int} {k : Nat} (hk : 0 < k) (hl : k ≤ r.length) (h : Zf k r) (hc : r.getD (k - 1) 0 ≠ 0) : trimI r = r.take (k - 1) ++ [r.getD (k - 1) 0] := by
  rw [← trim_take h]
  have e : r.take k = r.take (k - 1) ++ [r.getD (k - 1) 0] := by
    have := take_snoc (b := r) (i := k - 1) (by omega)
    rwa [Nat.sub_add_cancel hk] at this
  rw [e, trimI_snoc hc]
theorem getD_rep0 (n i : Nat) : (List.replicate n (0 : Int)).getD i 0 = 0 := by
  rw [List.getD_eq_getElem?_getD]
  by_cases h : i < n
  · simp [h]
  · rw [List.getElem?_eq_none (by simp; omega)]; rfl
theorem parted_step {p inv : Int} (hp : 0 < p) {b r : List Int} {k : Nat} (hr : Num p r) (hl : k + b.length ≤ r.length) :
    plusI p (-1) (trimI r) (trimI ((mulI (List.replicate k 0 ++ [r.getD (k + b.length - 1) 0 * inv % p]) b).map (· % p))) = trimI (stepAt p inv b k r) := by
  unfold stepAt
  generalize r.getD (k + b.length - 1) 0 * inv % p = t
  have hx : ∀ f a b, Tr (plusI p f a b) := fun _ _ _ => trimI_tr _
  refine tr_eq (hx _ _ _) (trimI_tr _) fun i => ?_
  rw [plusI_getD, trimI_getD, trimI_getD, trimI_getD, getD_map_mod, mulI_mono, actAt_getD b k _ i (by simp), actAt_getD b k r i hl, getD_rep0]
  split
  · show (r.getD i 0 + -1 * ((0 + t * b.getD (i - k) 0) % p)) % p = (r.getD i 0 - t * b.getD (i - k) 0) % p
    rw [Int.zero_add, Int.neg_mul, Int.one_mul, ← Int.sub_eq_add_neg, Int.sub_emod, Int.emod_emod_of_dvd _ (Int.dvd_refl p), ← Int.sub_emod]
  · have := hr.getD hp i
    rw [Int.zero_emod, Int.mul_zero, Int.add_zero, Int.emod_eq_of_lt this.1 this.2]
theorem stepAt_zero {p inv : Int} (hp : 0 < p) {b r : List Int} {k : Nat} (hr : Num p r) (hl : k + b.length ≤ r.length) (hc : r.getD (k + b.length - 1) 0 = 0) : stepAt p inv b k r = r := by
  unfold stepAt
  rw [hc, Int.zero_mul, Int.zero_emod]
  exact subAt_zero hp hr hl
theorem parted_loop {p inv : Int} (hp : Pr p) (hi0 : 0 ≤ inv) (hi1 : inv < 14) {a b : List Int} (hb : Num p b) (hbn : b ≠ []) (hinv : (b.getLast hbn * inv) % p = 1) (hlb : b.length < 10000) : ∀ (n fuel : Nat) (r q : List Int) (x6 : Option D), n < fuel → r.length < 10000 → q.length < 20000 → n + b.length ≤ r.length + 1 → Num p r → Zf (n + b.length - 1) r →
    ∃ q' x, whileM pCond pBody fuel [some (.int p), some (li a), some (li b), some (li (trimI r)), some (li q), some (.int inv), x6] = some (.nx [some (.int p), some (li a), some (li b), some (li (trimI (divR p inv b n r))), some (li q'), some (.int inv), x]) ∧ q'.length < 20000
  | 0, fuel, r, q, x6, hf, hlr, hlq, hl, hr, hz => by
    refine ⟨q, x6, ?_, hlq⟩
    obtain ⟨f, rfl⟩ : ∃ f, fuel = f + 1 := ⟨fuel - 1, by omega⟩
    have hbl : 0 < b.length := List.length_pos_iff.mpr hbn
    have e : (trimI r).length < b.length := by
      rw [Nat.zero_add] at hz
      rw [← trim_take hz]
      have := trimI_len (r.take (b.length - 1))
      have := List.length_take_le (b.length - 1) r
      omega
    have e1 : decide ((b.length : Int) ≤ ((trimI r).length : Int)) = false := by simp; omega
    have e2 : pCond [some (.int p), some (li a), some (li b), some (li (trimI r)), some (li q), some (.int inv), x6] = some false := by simp only [pCond, sSeq, sSet, sSetC, sSetO, sRet, sIf, sNil, sFor, sStoC, sApp, sAug, sPop, sPar, sPar3, sAsgT, sRaise, sCallX, wipeS, scalB, xVar, xC, xOp, xUn, xChain, xAnd, xOr, xNot, xIf, xTru, xtAnd, xtOr, xtNot, xNil, xCons, xLst, xTup, xB, xSl, xoN, xoS, xBl, xYes, xiL, xi, xiRev, xCall, frD, on1, on2, bName, bPair, nList, nRep, nComp, dLs, dSub, dAdd_int, dCmp, dNeg, dInt, dTru, dMax, lim, lim2, List.map_cons, List.map_nil, List.length_cons, List.length_nil, List.append_eq, List.cons_append, List.nil_append, List.replicate, List.getElem?_cons_zero, List.getElem?_cons_succ, Option.join_some, Option.join_none, Option.bind_some, Option.map_some, Option.bind_none, Option.map_none, List.set_cons_succ, List.set_cons_zero, if_true, Nat.reduceAdd, Nat.reduceSub, Nat.reduceLeDiff, Bool.false_eq_true, if_false, dLen_li, dSl_li, cut_to, cut_from, dEq_int, dNe_int, dEq_li, dNe_li, reduceIte, li_set, e1]
    unfold whileM
    rw [e2]; rfl
  | k + 1, fuel, r, q, x6, hf, hlr, hlq, hl, hr, hz => by
    have hbl : 0 < b.length := List.length_pos_iff.mpr hbn
    have ez : k + 1 + b.length - 1 = k + b.length := by omega
    rw [ez] at hz
    have hz2 := stepAt_zf (inv := inv) hp.pos hbn hinv hr (n := k) (by omega) hz
    have hn2 : Num p (stepAt p inv b k r) := actAt_num hp.pos hr (by omega)
    by_cases hc : r.getD (k + b.length - 1) 0 = 0
    · have e := stepAt_zero (inv := inv) hp.pos hr (b := b) (k := k) (by omega) hc
      show ∃ q' x, whileM pCond pBody fuel _ = some (.nx [_, _, _, some (li (trimI (divR p inv b k (stepAt p inv b k r)))), _, _, _]) ∧ _
      rw [e] at hz2 ⊢
      exact parted_loop hp hi0 hi1 hb hbn hinv hlb k fuel r q x6 (by omega) hlr hlq (by omega) hr hz2
    · obtain ⟨f, rfl⟩ : ∃ f, fuel = f + 1 := ⟨fuel - 1, by omega⟩
      have et := trim_full (k := k + b.length) (by omega) (by omega) hz hc
      have hlt : (trimI r).length = k + b.length := by rw [et]; simp; omega
      have hne : trimI r ≠ [] := by rw [et]; simp
      have hlast : (trimI r).getLast hne = r.getD (k + b.length - 1) 0 := by simp [et]
      obtain ⟨t, ht⟩ : ∃ t, t = r.getD (k + b.length - 1) 0 * inv % p := ⟨_, rfl⟩
      have ht0 : 0 ≤ t := by rw [ht]; exact Int.emod_nonneg _ (by have := hp.pos; omega)
      have ht1 : t < p := by rw [ht]; exact Int.emod_lt_of_pos _ hp.pos
      have e1 : decide ((b.length : Int) ≤ ((trimI r).length : Int)) = true := by rw [hlt]; simp; omega
      have e2 : pCond [some (.int p), some (li a), some (li b), some (li (trimI r)), some (li q), some (.int inv), x6] = some true := by simp only [pCond, sSeq, sSet, sSetC, sSetO, sRet, sIf, sNil, sFor, sStoC, sApp, sAug, sPop, sPar, sPar3, sAsgT, sRaise, sCallX, wipeS, scalB, xVar, xC, xOp, xUn, xChain, xAnd, xOr, xNot, xIf, xTru, xtAnd, xtOr, xtNot, xNil, xCons, xLst, xTup, xB, xSl, xoN, xoS, xBl, xYes, xiL, xi, xiRev, xCall, frD, on1, on2, bName, bPair, nList, nRep, nComp, dLs, dSub, dAdd_int, dCmp, dNeg, dInt, dTru, dMax, lim, lim2, List.map_cons, List.map_nil, List.length_cons, List.length_nil, List.append_eq, List.cons_append, List.nil_append, List.replicate, List.getElem?_cons_zero, List.getElem?_cons_succ, Option.join_some, Option.join_none, Option.bind_some, Option.map_some, Option.bind_none, Option.map_none, List.set_cons_succ, List.set_cons_zero, if_true, Nat.reduceAdd, Nat.reduceSub, Nat.reduceLeDiff, Bool.false_eq_true, if_false, dLen_li, dSl_li, cut_to, cut_from, dEq_int, dNe_int, dEq_li, dNe_li, reduceIte, li_set, e1]
      have m1 : dMul (.lst [.int 0]) (.int (((trimI r).length : Int) - (b.length : Int))) = some (li (List.replicate k 0)) := dMul_rep (by omega) (by omega) (by omega)
      have m2 : dIx (li (trimI r)) (.int (-1)) = some (.int (r.getD (k + b.length - 1) 0)) := by rw [dIx_last hne, hlast]
      have m3 : dMul (.int (r.getD (k + b.length - 1) 0)) (.int inv) = _ := dMul_int (cmul_r (by omega) (by omega))
      have m4 : dAdd (li (List.replicate k 0)) (.lst [.int t]) = some (li (List.replicate k 0 ++ [t])) := dAdd_li (a := List.replicate k 0) (b := [t]) (by simp; omega)
      have m5 := Lplus_ok (f := 1) hp.pos (.inl rfl) q (List.replicate k 0 ++ [t]) (by omega) (by simp; omega)
      have m6 := Ltimes_ok hp.pos (a := List.replicate k 0 ++ [t]) (b := b) (Num.sm hp hb) (by simp; omega) (by omega)
      have hl6 : (trimI ((mulI (List.replicate k 0 ++ [t]) b).map (· % p))).length < 50000 := by
        have h1 := trimI_len ((mulI (List.replicate k 0 ++ [t]) b).map (· % p))
        have h2 : ((mulI (List.replicate k 0 ++ [t]) b).map (· % p)).length = k + 1 + b.length := by rw [List.length_map]; unfold mulI; rw [mulAcc_len]; simp
        omega
      have m7 := Lplus_ok (f := -1) hp.pos (.inr rfl) (trimI r) (trimI ((mulI (List.replicate k 0 ++ [t]) b).map (· % p))) (by omega) hl6
      have m8 := parted_step (inv := inv) hp.pos hr (b := b) (k := k) (by omega)
      rw [← ht] at m8
      have key : pBody [some (.int p), some (li a), some (li b), some (li (trimI r)), some (li q), some (.int inv), x6] = some (.nx [some (.int p), some (li a), some (li b), some (li (trimI (stepAt p inv b k r))), some (li (plusI p 1 q (List.replicate k 0 ++ [t]))), some (.int inv), some (li (List.replicate k 0 ++ [t]))]) := by
        simp only [pBody, sSeq, sSet, sSetC, sSetO, sRet, sIf, sNil, sFor, sStoC, sApp, sAug, sPop, sPar, sPar3, sAsgT, sRaise, sCallX, wipeS, scalB, xVar, xC, xOp, xUn, xChain, xAnd, xOr, xNot, xIf, xTru, xtAnd, xtOr, xtNot, xNil, xCons, xLst, xTup, xB, xSl, xoN, xoS, xBl, xYes, xiL, xi, xiRev, xCall, frD, on1, on2, bName, bPair, nList, nRep, nComp, dLs, dSub, dAdd_int, dCmp, dNeg, dInt, dTru, dMax, lim, lim2, List.map_cons, List.map_nil, List.length_cons, List.length_nil, List.append_eq, List.cons_append, List.nil_append, List.replicate, List.getElem?_cons_zero, List.getElem?_cons_succ, Option.join_some, Option.join_none, Option.bind_some, Option.map_some, Option.bind_none, Option.map_none, List.set_cons_succ, List.set_cons_zero, if_true, Nat.reduceAdd, Nat.reduceSub, Nat.reduceLeDiff, Bool.false_eq_true, if_false, dLen_li, dSl_li, cut_to, cut_from, dEq_int, dNe_int, dEq_li, dNe_li, reduceIte, li_set, m1, m2, m3, dMod_int hp.pos, ← ht, m4, m5, m6, m7, m8]
      obtain ⟨q', x, h1, h2⟩ := parted_loop (a := a) hp hi0 hi1 hb hbn hinv hlb k f (stepAt p inv b k r) (plusI p 1 q (List.replicate k 0 ++ [t])) (some (li (List.replicate k 0 ++ [t]))) (by omega) (by rw [stepAt_len]; exact hlr) (by have := plusI_len (p := p) (f := 1) q (List.replicate k 0 ++ [t]); simp at this; omega) (by rw [stepAt_len]; omega) hn2 hz2
      refine ⟨q', x, ?_, h2⟩
      unfold whileM
      rw [e2]
      simp only [Option.bind_some, if_true, key]
      exact h1
theorem b_parted_eq : b_Lparted = (sSeq (sPar3 [] 3 4 5 (xB (on1 dList) (xCons (xVar 1) xNil)) (xLst xNil) (xCall m_Lback (xCons (xVar 0) (xCons (xOp dIx (xVar 2) (xUn dNeg (xC (.int 1)))) xNil)))) (sSeq (whileM pCond pBody 100000) (sRet [] (xTup (xCons (xVar 4) (xCons (xVar 3) xNil)))))) := rfl
theorem Lrest_ok {p : Int} (hp : Pr p) {a b : List Int} (ha : Pol p a) (hb : Pol p b) (hbn : b ≠ []) (hla : a.length < 10000) (hlb : b.length < 10000) :
    m_Lrest [.int p, li a, li b] = some (.ret (li (remI p (invI p (b.getLast hbn)) a b))) := by
  have hbl : 0 < b.length := List.length_pos_iff.mpr hbn
  have h1 := Num.last hb.num hbn
  have h2 := tr_last hb.tr hbn
  have h3 := Lback_ok hp (show 0 < b.getLast hbn by omega) h1.2
  have h4 := dIx_last hbn
  have h5 := invI_num hp (show 0 < b.getLast hbn by omega) h1.2
  have h6 := invI_ok hp (show 0 < b.getLast hbn by omega) h1.2
  obtain ⟨q', x, h7, h8⟩ : ∃ q' x, whileM pCond pBody 100000 [some (.int p), some (li a), some (li b), some (li a), some (li []), some (.int (invI p (b.getLast hbn))), none] = some (.nx [some (.int p), some (li a), some (li b), some (li (remI p (invI p (b.getLast hbn)) a b)), some (li q'), some (.int (invI p (b.getLast hbn))), x]) ∧ q'.length < 20000 := by
    rw [remI_eq hp.pos hbn h6 ha.num]
    by_cases q : b.length ≤ a.length + 1
    · have := parted_loop (a := a) hp h5.1 h5.2 hb.num hbn h6 hlb (a.length + 1 - b.length) 100000 a [] none (by omega) hla (by simp) (by omega) ha.num (zf_len (by omega))
      rwa [trimI_of ha.tr] at this
    · have e0 : a.length + 1 - b.length = 0 := by omega
      rw [e0]
      refine ⟨[], none, ?_, by simp⟩
      have e1 : decide ((b.length : Int) ≤ (a.length : Int)) = false := by simp; omega
      have e2 : pCond [some (.int p), some (li a), some (li b), some (li a), some (li []), some (.int (invI p (b.getLast hbn))), none] = some false := by simp only [pCond, sSeq, sSet, sSetC, sSetO, sRet, sIf, sNil, sFor, sStoC, sApp, sAug, sPop, sPar, sPar3, sAsgT, sRaise, sCallX, wipeS, scalB, xVar, xC, xOp, xUn, xChain, xAnd, xOr, xNot, xIf, xTru, xtAnd, xtOr, xtNot, xNil, xCons, xLst, xTup, xB, xSl, xoN, xoS, xBl, xYes, xiL, xi, xiRev, xCall, frD, on1, on2, bName, bPair, nList, nRep, nComp, dLs, dSub, dAdd_int, dCmp, dNeg, dInt, dTru, dMax, lim, lim2, List.map_cons, List.map_nil, List.length_cons, List.length_nil, List.append_eq, List.cons_append, List.nil_append, List.replicate, List.getElem?_cons_zero, List.getElem?_cons_succ, Option.join_some, Option.join_none, Option.bind_some, Option.map_some, Option.bind_none, Option.map_none, List.set_cons_succ, List.set_cons_zero, if_true, Nat.reduceAdd, Nat.reduceSub, Nat.reduceLeDiff, Bool.false_eq_true, if_false, dLen_li, dSl_li, cut_to, cut_from, dEq_int, dNe_int, dEq_li, dNe_li, reduceIte, li_set, e1]
      show whileM pCond pBody (99999 + 1) _ = _
      unfold whileM
      rw [e2]
      show _ = some (Out.nx [_, _, _, some (li (trimI a)), _, _, _])
      rw [trimI_of ha.tr]; rfl
  have l1 : ∀ ds, dList (.lst ds) = some (.lst ds) := fun _ => rfl
  have e9 : ∀ u v : D, dIx (.tup [u, v]) (.int 1) = some v := fun u v => rfl
  have hp1 : m_Lparted [.int p, li a, li b] = some (.ret (.tup [li q', li (remI p (invI p (b.getLast hbn)) a b)])) := by
    unfold m_Lparted defM
    have h7' : whileM pCond pBody 100000 [some (.int p), some (li a), some (li b), some (li a), some (.lst []), some (.int (invI p (b.getLast hbn))), none] = _ := h7
    simp only [b_parted_eq, sSeq, sSet, sSetC, sSetO, sRet, sIf, sNil, sFor, sStoC, sApp, sAug, sPop, sPar, sPar3, sAsgT, sRaise, sCallX, wipeS, scalB, xVar, xC, xOp, xUn, xChain, xAnd, xOr, xNot, xIf, xTru, xtAnd, xtOr, xtNot, xNil, xCons, xLst, xTup, xB, xSl, xoN, xoS, xBl, xYes, xiL, xi, xiRev, xCall, frD, on1, on2, bName, bPair, nList, nRep, nComp, dLs, dSub, dAdd_int, dCmp, dNeg, dInt, dTru, dMax, lim, lim2, List.map_cons, List.map_nil, List.length_cons, List.length_nil, List.append_eq, List.cons_append, List.nil_append, List.replicate, List.getElem?_cons_zero, List.getElem?_cons_succ, Option.join_some, Option.join_none, Option.bind_some, Option.map_some, Option.bind_none, Option.map_none, List.set_cons_succ, List.set_cons_zero, if_true, Nat.reduceAdd, Nat.reduceSub, Nat.reduceLeDiff, Bool.false_eq_true, if_false, dLen_li, dSl_li, cut_to, cut_from, dEq_int, dNe_int, dEq_li, dNe_li, reduceIte, li_set, h3, h4, l1, Nat.zero_le, h7']
  unfold m_Lrest defM
  simp only [b_Lrest, sSeq, sSet, sSetC, sSetO, sRet, sIf, sNil, sFor, sStoC, sApp, sAug, sPop, sPar, sPar3, sAsgT, sRaise, sCallX, wipeS, scalB, xVar, xC, xOp, xUn, xChain, xAnd, xOr, xNot, xIf, xTru, xtAnd, xtOr, xtNot, xNil, xCons, xLst, xTup, xB, xSl, xoN, xoS, xBl, xYes, xiL, xi, xiRev, xCall, frD, on1, on2, bName, bPair, nList, nRep, nComp, dLs, dSub, dAdd_int, dCmp, dNeg, dInt, dTru, dMax, lim, lim2, List.map_cons, List.map_nil, List.length_cons, List.length_nil, List.append_eq, List.cons_append, List.nil_append, List.replicate, List.getElem?_cons_zero, List.getElem?_cons_succ, Option.join_some, Option.join_none, Option.bind_some, Option.map_some, Option.bind_none, Option.map_none, List.set_cons_succ, List.set_cons_zero, if_true, Nat.reduceAdd, Nat.reduceSub, Nat.reduceLeDiff, Bool.false_eq_true, if_false, dLen_li, dSl_li, cut_to, cut_from, dEq_int, dNe_int, dEq_li, dNe_li, reduceIte, li_set, hp1, e9]
theorem Lcommon_ok {p : Int} (hp : Pr p) {a b : List Int} (ha : Pol p a) (hb : Pol p b) (hla : a.length < 10000) (hlb : b.length < 10000) :
    m_Lcommon [.int p, li a, li b] = some (.ret (li (gcdL p b.length a b))) := by
  obtain ⟨s', h1, h2⟩ := whileM_inv (c := (xBl (xOp (dNe) (xVar 4) (xLst xNil)))) (b := (sPar [] 3 4 (xVar 4) (xCall m_Lrest (xCons (xVar 0) (xCons (xVar 3) (xCons (xVar 4) xNil))))))
    (fun n s => ∃ x y, s = [some (.int p), some (li a), some (li b), some (li x), some (li y)] ∧ y.length ≤ n ∧ x.length < 10000 ∧ y.length < 10000 ∧ gcdL p n x y = gcdL p b.length a b ∧ Pol p x ∧ Pol p y) (fun s => ∃ y, s = [some (.int p), some (li a), some (li b), some (li (gcdL p b.length a b)), y]) (by
      rintro n s ⟨x, y, rfl, h1, h2, h3, h4, h5, h6⟩
      by_cases q : y = []
      · subst q
        rw [gcdL_nil] at h4
        refine .inl ⟨?_, _, by rw [h4]⟩
        have : dNe (li []) (.lst []) = some (.bl false) := dNe_li [] []
        simp only [sSeq, sSet, sSetC, sSetO, sRet, sIf, sNil, sFor, sStoC, sApp, sAug, sPop, sPar, sPar3, sAsgT, sRaise, sCallX, wipeS, scalB, xVar, xC, xOp, xUn, xChain, xAnd, xOr, xNot, xIf, xTru, xtAnd, xtOr, xtNot, xNil, xCons, xLst, xTup, xB, xSl, xoN, xoS, xBl, xYes, xiL, xi, xiRev, xCall, frD, on1, on2, bName, bPair, nList, nRep, nComp, dLs, dSub, dAdd_int, dCmp, dNeg, dInt, dTru, dMax, lim, lim2, List.map_cons, List.map_nil, List.length_cons, List.length_nil, List.append_eq, List.cons_append, List.nil_append, List.replicate, List.getElem?_cons_zero, List.getElem?_cons_succ, Option.join_some, Option.join_none, Option.bind_some, Option.map_some, Option.bind_none, Option.map_none, List.set_cons_succ, List.set_cons_zero, if_true, Nat.reduceAdd, Nat.reduceSub, Nat.reduceLeDiff, Bool.false_eq_true, if_false, dLen_li, dSl_li, cut_to, cut_from, dEq_int, dNe_int, dEq_li, dNe_li, reduceIte, li_set, Nat.zero_le, this]
      · have hyl : 0 < y.length := List.length_pos_iff.mpr q
        have e1 : dNe (li y) (.lst []) = some (.bl true) := by
          have := dNe_li y []
          rw [show (y == []) = false from beq_eq_false_iff_ne.mpr q] at this
          exact this
        refine .inr ⟨?_, ?_⟩
        · simp only [sSeq, sSet, sSetC, sSetO, sRet, sIf, sNil, sFor, sStoC, sApp, sAug, sPop, sPar, sPar3, sAsgT, sRaise, sCallX, wipeS, scalB, xVar, xC, xOp, xUn, xChain, xAnd, xOr, xNot, xIf, xTru, xtAnd, xtOr, xtNot, xNil, xCons, xLst, xTup, xB, xSl, xoN, xoS, xBl, xYes, xiL, xi, xiRev, xCall, frD, on1, on2, bName, bPair, nList, nRep, nComp, dLs, dSub, dAdd_int, dCmp, dNeg, dInt, dTru, dMax, lim, lim2, List.map_cons, List.map_nil, List.length_cons, List.length_nil, List.append_eq, List.cons_append, List.nil_append, List.replicate, List.getElem?_cons_zero, List.getElem?_cons_succ, Option.join_some, Option.join_none, Option.bind_some, Option.map_some, Option.bind_none, Option.map_none, List.set_cons_succ, List.set_cons_zero, if_true, Nat.reduceAdd, Nat.reduceSub, Nat.reduceLeDiff, Bool.false_eq_true, if_false, dLen_li, dSl_li, cut_to, cut_from, dEq_int, dNe_int, dEq_li, dNe_li, reduceIte, li_set, Nat.zero_le, e1]
        · obtain ⟨m, rfl⟩ : ∃ m, n = m + 1 := ⟨n - 1, by omega⟩
          rw [gcdL_step q] at h4
          have hr := pol_rem (inv := invI p (y.getLast q)) hp.pos q h5.num
          have hl := remI_len (p := p) (inv := invI p (y.getLast q)) (a := x) q
          refine ⟨_, m, ?_, Nat.lt_succ_self m, y, remI p (invI p (y.getLast q)) x y, rfl, by omega, h3, by omega, h4, h6, hr⟩
          simp only [sSeq, sSet, sSetC, sSetO, sRet, sIf, sNil, sFor, sStoC, sApp, sAug, sPop, sPar, sPar3, sAsgT, sRaise, sCallX, wipeS, scalB, xVar, xC, xOp, xUn, xChain, xAnd, xOr, xNot, xIf, xTru, xtAnd, xtOr, xtNot, xNil, xCons, xLst, xTup, xB, xSl, xoN, xoS, xBl, xYes, xiL, xi, xiRev, xCall, frD, on1, on2, bName, bPair, nList, nRep, nComp, dLs, dSub, dAdd_int, dCmp, dNeg, dInt, dTru, dMax, lim, lim2, List.map_cons, List.map_nil, List.length_cons, List.length_nil, List.append_eq, List.cons_append, List.nil_append, List.replicate, List.getElem?_cons_zero, List.getElem?_cons_succ, Option.join_some, Option.join_none, Option.bind_some, Option.map_some, Option.bind_none, Option.map_none, List.set_cons_succ, List.set_cons_zero, if_true, Nat.reduceAdd, Nat.reduceSub, Nat.reduceLeDiff, Bool.false_eq_true, if_false, dLen_li, dSl_li, cut_to, cut_from, dEq_int, dNe_int, dEq_li, dNe_li, reduceIte, li_set, Lrest_ok hp h5 h6 q h2 h3]) (fuel := 100000) (n := b.length) (s := [some (.int p), some (li a), some (li b), some (li a), some (li b)]) (by omega) ⟨a, b, rfl, Nat.le_refl _, hla, hlb, rfl, ha, hb⟩
  obtain ⟨y, rfl⟩ := h2
  have l1 : ∀ ds, dList (.lst ds) = some (.lst ds) := fun _ => rfl
  unfold m_Lcommon defM
  simp only [b_Lcommon, sSeq, sSet, sSetC, sSetO, sRet, sIf, sNil, sFor, sStoC, sApp, sAug, sPop, sPar, sPar3, sAsgT, sRaise, sCallX, wipeS, scalB, xVar, xC, xOp, xUn, xChain, xAnd, xOr, xNot, xIf, xTru, xtAnd, xtOr, xtNot, xNil, xCons, xLst, xTup, xB, xSl, xoN, xoS, xBl, xYes, xiL, xi, xiRev, xCall, frD, on1, on2, bName, bPair, nList, nRep, nComp, dLs, dSub, dAdd_int, dCmp, dNeg, dInt, dTru, dMax, lim, lim2, List.map_cons, List.map_nil, List.length_cons, List.length_nil, List.append_eq, List.cons_append, List.nil_append, List.replicate, List.getElem?_cons_zero, List.getElem?_cons_succ, Option.join_some, Option.join_none, Option.bind_some, Option.map_some, Option.bind_none, Option.map_none, List.set_cons_succ, List.set_cons_zero, if_true, Nat.reduceAdd, Nat.reduceSub, Nat.reduceLeDiff, Bool.false_eq_true, if_false, dLen_li, dSl_li, cut_to, cut_from, dEq_int, dNe_int, dEq_li, dNe_li, reduceIte, li_set, l1, h1]
end G7

set_option Elab.async false
set_option linter.all false
set_option maxRecDepth 100000
set_option maxHeartbeats 1000000
/-! repr of flat lists and tuples of small items; lists of scalars -/
namespace Mr
open PySem PySem.Spec PyProof.Rows L2
theorem strOk_of (s : String) : PyData.strOk (Str.ofString s) = true := by
  unfold PyData.strOk
  rw [Str.ofString_eq_toList]
  simp only [List.all_toArray, List.all_eq_true, List.mem_map]
  rintro n ⟨c, _, rfl⟩
  have h := c.valid
  simp only [UInt32.isValidChar, Nat.isValidChar] at h
  have : c.toNat = c.val.toNat := rfl
  simp only [decide_eq_true_eq]
  omega
theorem strOk_app {a b : Str} (ha : PyData.strOk a = true) (hb : PyData.strOk b = true) : PyData.strOk (a ++ b) = true := by
  unfold PyData.strOk at *
  show (a.cps ++ b.cps).all _ = true
  rw [Array.all_append, ha, hb]; rfl
theorem str_len (a b : Str) : (a ++ b).length = a.length + b.length := by
  show (a.cps ++ b.cps).size = _
  rw [Array.size_append]; rfl
theorem text_ok {L : Nat} : ∀ (ts : List Str) (k : Nat) (acc : Str), (∀ t ∈ ts, t.length ≤ L ∧ PyData.strOk t = true) → PyData.strOk acc = true → (textFrom k acc ts).length ≤ acc.length + ts.length * (L + 2) ∧ PyData.strOk (textFrom k acc ts) = true
  | [], k, acc, _, ha => ⟨by show acc.length ≤ _; omega, ha⟩
  | t :: ts, k, acc, h, ha => by
    have ht := h t (List.mem_cons_self ..)
    have hs : PyData.strOk ((if k > 0 then ", " else "" : String) : Str) = true := strOk_of _
    have hl : (((if k > 0 then ", " else "" : String) : Str)).length ≤ 2 := by split <;> decide +kernel
    obtain ⟨h1, h2⟩ := text_ok ts (k + 1) (acc ++ ((if k > 0 then ", " else "" : String) : Str) ++ t) (fun x hx => h x (List.mem_cons_of_mem _ hx)) (strOk_app (strOk_app ha hs) ht.2)
    refine ⟨?_, h2⟩
    show (textFrom (k + 1) _ ts).length ≤ _
    rw [str_len, str_len] at h1
    rw [List.length_cons, Nat.add_mul]
    omega
theorem listText_ok {L : Nat} {ts : List Str} (h : ∀ t ∈ ts, t.length ≤ L ∧ PyData.strOk t = true) : (listText ts).length ≤ ts.length * (L + 2) + 2 ∧ PyData.strOk (listText ts) = true := by
  obtain ⟨h1, h2⟩ := text_ok ts 0 ("[" : String) h (strOk_of _)
  have e1 : (("[" : String) : Str).length = 1 := by decide +kernel
  have e2 : (("]" : String) : Str).length = 1 := by decide +kernel
  unfold listText
  refine ⟨?_, strOk_app h2 (strOk_of _)⟩
  rw [str_len]
  omega
theorem join_ok {L : Nat} : ∀ {ts : List Str}, (∀ t ∈ ts, t.length ≤ L ∧ PyData.strOk t = true) → (Str.join ((", " : String) : Str) ts).length ≤ ts.length * (L + 2) ∧ PyData.strOk (Str.join ((", " : String) : Str) ts) = true
  | [], _ => ⟨by show Str.empty.length ≤ 0 * (L + 2); rw [Nat.zero_mul]; exact Nat.le_refl 0, by decide +kernel⟩
  | [x], h => by
    have := h x (List.mem_cons_self ..)
    exact ⟨by show x.length ≤ _; simp; omega, this.2⟩
  | x :: y :: r, h => by
    have hx := h x (List.mem_cons_self ..)
    obtain ⟨h1, h2⟩ := join_ok (ts := y :: r) fun t ht => h t (List.mem_cons_of_mem _ ht)
    have e : ((", " : String) : Str).length = 2 := by decide +kernel
    show (x ++ ((", " : String) : Str) ++ Str.join _ (y :: r)).length ≤ _ ∧ PyData.strOk (x ++ ((", " : String) : Str) ++ Str.join _ (y :: r)) = true
    refine ⟨?_, strOk_app (strOk_app hx.2 (strOk_of _)) h2⟩
    rw [str_len, str_len, e, List.length_cons, Nat.add_mul]
    omega
theorem tupleText_ok {L : Nat} {ts : List Str} (h : ∀ t ∈ ts, t.length ≤ L ∧ PyData.strOk t = true) : (tupleText ts).length ≤ ts.length * (L + 2) + 3 ∧ PyData.strOk (tupleText ts) = true := by
  obtain ⟨h1, h2⟩ := join_ok h
  have e1 : (("(" : String) : Str).length = 1 := by decide +kernel
  have e2 : (((if ts.length == 1 then ",)" else ")" : String) : Str)).length ≤ 2 := by split <;> decide +kernel
  unfold tupleText
  refine ⟨?_, strOk_app (strOk_app (strOk_of _) h2) (strOk_of _)⟩
  rw [str_len, str_len]
  omega
/-- what is shown in few signs -/
def smB : D → Bool
  | .non => true
  | .bl _ => true
  | .int i => decide (i.natAbs < 1000)
  | _ => false
structure Shw (p : PyData) : Prop where
  sh : p.showable = true
  hd : p.hasDict = false
  dp : p.depth = 0
  ln : p.shown.length ≤ 5
  ok : PyData.strOk p.shown = true
  cl : p.canLay0 = true
theorem smB_ok {d : D} (h : smB d = true) : ∃ p, d.py = some p ∧ Shw p := by
  cases d with
  | non => exact ⟨_, rfl, rfl, rfl, rfl, by decide +kernel, by decide +kernel, rfl⟩
  | bl b => exact ⟨_, rfl, rfl, rfl, rfl, by cases b <;> decide +kernel, by cases b <;> decide +kernel, rfl⟩
  | int i =>
    have hi : i.natAbs < 1000 := of_decide_eq_true h
    refine ⟨_, rfl, ?_, rfl, rfl, ?_, strOk_of _, rfl⟩
    · show decide (i.natAbs.log2 < 1920) = true
      by_cases z : i.natAbs = 0
      · rw [z]; decide +kernel
      · have := (Nat.log2_lt z (k := 1920)).mpr (Nat.lt_of_lt_of_le hi (by decide +kernel))
        simpa using this
    · have := int_text_length_le10 (a := i) (k := 3) (by decide) (by simpa using hi)
      show (Str.ofString (toString i)).length ≤ 5
      rw [Str.ofString_eq_toList]
      show ((toString i).toList.map Char.toNat).toArray.size ≤ 5
      have e : (toString i).length = (toString i).toList.length := by rw [String.length_toList]
      simp only [List.size_toArray, List.length_map]
      omega
  | str _ => cases h
  | lst _ => cases h
  | tup _ => cases h
  | obj _ _ => cases h
theorem smA_ok : ∀ {ds : List D}, ds.all smB = true → ∃ ps, D.pys ds = some ps ∧ ps.length = ds.length ∧ PyData.showableAll ps = true ∧ PyData.hasDictAll ps = false ∧ PyData.depthAll ps = 0 ∧ (∀ t ∈ PyData.shownAll ps, t.length ≤ 5 ∧ PyData.strOk t = true) ∧ (PyData.shownAll ps).length = ds.length ∧ PyData.canLayAll0 ps = true
  | [], _ => ⟨[], rfl, rfl, rfl, rfl, rfl, fun _ h => (by cases h), rfl, rfl⟩
  | d :: ds, h => by
    rw [List.all_cons, Bool.and_eq_true] at h
    obtain ⟨p, h1, h2⟩ := smB_ok h.1
    obtain ⟨ps, g1, g2, g3, g4, g5, g6, g7, g8⟩ := smA_ok h.2
    refine ⟨p :: ps, by simp [D.pys, h1, g1], by simp [g2], by simp [PyData.showableAll, h2.sh, g3], by simp [PyData.hasDictAll, h2.hd, g4], by simp [PyData.depthAll, h2.dp, g5], ?_, by simp [PyData.shownAll, g7], by simp [PyData.canLayAll0, h2.cl, g8]⟩
    intro t ht
    rcases List.mem_cons.mp ht with rfl | ht
    · exact ⟨h2.ln, h2.ok⟩
    · exact g6 t ht
theorem repr_lst {ds : List D} (h : ds.all smB = true) (hl : ds.length ≤ 1000) : ∃ x, dRepr (.lst ds) = some (.str x) ∧ PyData.strOk x = true := by
  obtain ⟨ps, g1, g2, g3, g4, g5, g6, g7, g8⟩ := smA_ok h
  obtain ⟨h1, h2⟩ := listText_ok g6
  refine ⟨listText (PyData.shownAll ps), ?_, h2⟩
  have e : D.py (.lst ds) = some (.list ps) := by show (D.pys ds).map PyData.list = _; rw [g1]; rfl
  unfold dRepr
  rw [e]
  have c : (PyData.list ps).showable = true ∧ (PyData.list ps).hasDict = false ∧ (PyData.list ps).depth ≤ 100 ∧ (PyData.list ps).shown.length ≤ 100000 := ⟨g3, g4, by show PyData.depthAll ps + 1 ≤ 100; omega, by show (listText (PyData.shownAll ps)).length ≤ 100000; omega⟩
  simp only [Option.bind_some]
  rw [if_pos c]
  rfl
theorem repr_tup {ds : List D} (h : ds.all smB = true) (hl : ds.length ≤ 1000) : ∃ x, dRepr (.tup ds) = some (.str x) ∧ PyData.strOk x = true := by
  obtain ⟨ps, g1, g2, g3, g4, g5, g6, g7, g8⟩ := smA_ok h
  obtain ⟨h1, h2⟩ := tupleText_ok g6
  refine ⟨tupleText (PyData.shownAll ps), ?_, h2⟩
  have e : D.py (.tup ds) = some (.tuple ps) := by show (D.pys ds).map PyData.tuple = _; rw [g1]; rfl
  unfold dRepr
  rw [e]
  have c : (PyData.tuple ps).showable = true ∧ (PyData.tuple ps).hasDict = false ∧ (PyData.tuple ps).depth ≤ 100 ∧ (PyData.tuple ps).shown.length ≤ 100000 := ⟨g3, g4, by show PyData.depthAll ps + 1 ≤ 100; omega, by show (tupleText (PyData.shownAll ps)).length ≤ 100000; omega⟩
  simp only [Option.bind_some]
  rw [if_pos c]
  rfl
theorem dNe_str {x : Str} (h : PyData.strOk x = true) : dNe (.str x) (.str x) = some (.bl false) := by
  have hs : SeqAt.shaped (.str x) = true := by
    unfold SeqAt.shaped
    simp [PyData.canLay0, h, PyData.depth]
  unfold dNe dEqB
  simp only [D.py, Option.bind_some, hs, Bool.and_self, if_true]
  simp [PyData.eqv]
theorem ints_sm {xs : List Int} (h : ∀ x ∈ xs, x.natAbs < 1000) : (xs.map D.int).all smB = true := by
  rw [List.all_map, List.all_eq_true]
  intro x hx
  exact decide_eq_true (h x hx)
end Mr

set_option Elab.async false
set_option linter.all false
set_option maxRecDepth 100000
set_option maxHeartbeats 1000000
/-! what is a number, a polynomial, a curve's polynomial -/
namespace G7
open PySem PySem.Spec PyProof.Rows L2 Mr
theorem k_ii : kitB "int" "int" = some true := by decide +kernel
theorem k_ib : kitB "int" "bool" = some false := by decide +kernel
theorem k_bi : kitB "bool" "int" = some true := by decide +kernel
theorem k_bb : kitB "bool" "bool" = some true := by decide +kernel
theorem k_ni : kitB "NoneType" "int" = some false := by decide +kernel
theorem k_nb : kitB "NoneType" "bool" = some false := by decide +kernel
theorem k_ll : kitB "list" "list" = some true := by decide +kernel
theorem k_nl : kitB "NoneType" "list" = some false := by decide +kernel
theorem k_tl : kitB "tuple" "list" = some false := by decide +kernel
theorem k_sl : kitB "str" "list" = some false := by decide +kernel
theorem k_il : kitB "int" "list" = some false := by decide +kernel
theorem k_bl : kitB "bool" "list" = some false := by decide +kernel
theorem dIsi_of {t a : String} {d : D} {b : Bool} (h1 : dTy d = some a) (h2 : kitB a t = some b) : dIsi t d = some (.bl b) := by
  unfold dIsi
  rw [h1, Option.bind_some, h2]; rfl
def numB (p : Int) : D → Bool
  | .int x => decide (0 ≤ x) && decide (x < p)
  | _ => false
theorem whole_int (x : Int) : m_is_whole [.int x] = some (.ret (.bl true)) := by
  have h1 : dIsi "int" (.int x) = _ := dIsi_of rfl k_ii
  have h2 : dIsi "bool" (.int x) = _ := dIsi_of rfl k_ib
  unfold m_is_whole defM
  simp only [b_is_whole, sSeq, sSet, sSetC, sSetO, sRet, sIf, sNil, sFor, sStoC, sApp, sAug, sPop, sPar, sPar3, sAsgT, sRaise, sCallX, wipeS, scalB, xVar, xC, xOp, xUn, xChain, xAnd, xOr, xNot, xIf, xTru, xtAnd, xtOr, xtNot, xNil, xCons, xLst, xTup, xB, xSl, xoN, xoS, xBl, xYes, xiL, xi, xiRev, xCall, frD, on1, on2, bName, bPair, nList, nRep, nComp, dLs, dSub, dAdd_int, dCmp, dNeg, dInt, dTru, dMax, lim, lim2, List.map_cons, List.map_nil, List.length_cons, List.length_nil, List.append_eq, List.cons_append, List.nil_append, List.replicate, List.getElem?_cons_zero, List.getElem?_cons_succ, Option.join_some, Option.join_none, Option.bind_some, Option.map_some, Option.bind_none, Option.map_none, List.set_cons_succ, List.set_cons_zero, if_true, Nat.reduceAdd, Nat.reduceSub, Nat.reduceLeDiff, Bool.false_eq_true, if_false, dLen_li, dSl_li, cut_to, cut_from, dEq_int, dNe_int, dEq_li, dNe_li, reduceIte, li_set, h1, h2, Bool.not_false]
theorem whole_bl (x : Bool) : m_is_whole [.bl x] = some (.ret (.bl false)) := by
  have h1 : dIsi "int" (.bl x) = _ := dIsi_of rfl k_bi
  have h2 : dIsi "bool" (.bl x) = _ := dIsi_of rfl k_bb
  unfold m_is_whole defM
  simp only [b_is_whole, sSeq, sSet, sSetC, sSetO, sRet, sIf, sNil, sFor, sStoC, sApp, sAug, sPop, sPar, sPar3, sAsgT, sRaise, sCallX, wipeS, scalB, xVar, xC, xOp, xUn, xChain, xAnd, xOr, xNot, xIf, xTru, xtAnd, xtOr, xtNot, xNil, xCons, xLst, xTup, xB, xSl, xoN, xoS, xBl, xYes, xiL, xi, xiRev, xCall, frD, on1, on2, bName, bPair, nList, nRep, nComp, dLs, dSub, dAdd_int, dCmp, dNeg, dInt, dTru, dMax, lim, lim2, List.map_cons, List.map_nil, List.length_cons, List.length_nil, List.append_eq, List.cons_append, List.nil_append, List.replicate, List.getElem?_cons_zero, List.getElem?_cons_succ, Option.join_some, Option.join_none, Option.bind_some, Option.map_some, Option.bind_none, Option.map_none, List.set_cons_succ, List.set_cons_zero, if_true, Nat.reduceAdd, Nat.reduceSub, Nat.reduceLeDiff, Bool.false_eq_true, if_false, dLen_li, dSl_li, cut_to, cut_from, dEq_int, dNe_int, dEq_li, dNe_li, reduceIte, li_set, h1, h2, Bool.not_true]
theorem whole_non : m_is_whole [.non] = some (.ret (.bl false)) := by
  have h1 : dIsi "int" .non = _ := dIsi_of rfl k_ni
  unfold m_is_whole defM
  simp only [b_is_whole, sSeq, sSet, sSetC, sSetO, sRet, sIf, sNil, sFor, sStoC, sApp, sAug, sPop, sPar, sPar3, sAsgT, sRaise, sCallX, wipeS, scalB, xVar, xC, xOp, xUn, xChain, xAnd, xOr, xNot, xIf, xTru, xtAnd, xtOr, xtNot, xNil, xCons, xLst, xTup, xB, xSl, xoN, xoS, xBl, xYes, xiL, xi, xiRev, xCall, frD, on1, on2, bName, bPair, nList, nRep, nComp, dLs, dSub, dAdd_int, dCmp, dNeg, dInt, dTru, dMax, lim, lim2, List.map_cons, List.map_nil, List.length_cons, List.length_nil, List.append_eq, List.cons_append, List.nil_append, List.replicate, List.getElem?_cons_zero, List.getElem?_cons_succ, Option.join_some, Option.join_none, Option.bind_some, Option.map_some, Option.bind_none, Option.map_none, List.set_cons_succ, List.set_cons_zero, if_true, Nat.reduceAdd, Nat.reduceSub, Nat.reduceLeDiff, Bool.false_eq_true, if_false, dLen_li, dSl_li, cut_to, cut_from, dEq_int, dNe_int, dEq_li, dNe_li, reduceIte, li_set, h1]
theorem number_ok {p : Int} {d : D} (h : smB d = true) : m_is_number [.int p, d] = some (.ret (.bl (numB p d))) := by
  cases d with
  | non =>
    unfold m_is_number defM
    simp only [b_is_number, sSeq, sSet, sSetC, sSetO, sRet, sIf, sNil, sFor, sStoC, sApp, sAug, sPop, sPar, sPar3, sAsgT, sRaise, sCallX, wipeS, scalB, xVar, xC, xOp, xUn, xChain, xAnd, xOr, xNot, xIf, xTru, xtAnd, xtOr, xtNot, xNil, xCons, xLst, xTup, xB, xSl, xoN, xoS, xBl, xYes, xiL, xi, xiRev, xCall, frD, on1, on2, bName, bPair, nList, nRep, nComp, dLs, dSub, dAdd_int, dCmp, dNeg, dInt, dTru, dMax, lim, lim2, List.map_cons, List.map_nil, List.length_cons, List.length_nil, List.append_eq, List.cons_append, List.nil_append, List.replicate, List.getElem?_cons_zero, List.getElem?_cons_succ, Option.join_some, Option.join_none, Option.bind_some, Option.map_some, Option.bind_none, Option.map_none, List.set_cons_succ, List.set_cons_zero, if_true, Nat.reduceAdd, Nat.reduceSub, Nat.reduceLeDiff, Bool.false_eq_true, if_false, dLen_li, dSl_li, cut_to, cut_from, dEq_int, dNe_int, dEq_li, dNe_li, reduceIte, li_set, whole_non]
    rfl
  | bl b =>
    unfold m_is_number defM
    simp only [b_is_number, sSeq, sSet, sSetC, sSetO, sRet, sIf, sNil, sFor, sStoC, sApp, sAug, sPop, sPar, sPar3, sAsgT, sRaise, sCallX, wipeS, scalB, xVar, xC, xOp, xUn, xChain, xAnd, xOr, xNot, xIf, xTru, xtAnd, xtOr, xtNot, xNil, xCons, xLst, xTup, xB, xSl, xoN, xoS, xBl, xYes, xiL, xi, xiRev, xCall, frD, on1, on2, bName, bPair, nList, nRep, nComp, dLs, dSub, dAdd_int, dCmp, dNeg, dInt, dTru, dMax, lim, lim2, List.map_cons, List.map_nil, List.length_cons, List.length_nil, List.append_eq, List.cons_append, List.nil_append, List.replicate, List.getElem?_cons_zero, List.getElem?_cons_succ, Option.join_some, Option.join_none, Option.bind_some, Option.map_some, Option.bind_none, Option.map_none, List.set_cons_succ, List.set_cons_zero, if_true, Nat.reduceAdd, Nat.reduceSub, Nat.reduceLeDiff, Bool.false_eq_true, if_false, dLen_li, dSl_li, cut_to, cut_from, dEq_int, dNe_int, dEq_li, dNe_li, reduceIte, li_set, whole_bl]
    rfl
  | int x =>
    unfold m_is_number defM
    simp only [b_is_number, sSeq, sSet, sSetC, sSetO, sRet, sIf, sNil, sFor, sStoC, sApp, sAug, sPop, sPar, sPar3, sAsgT, sRaise, sCallX, wipeS, scalB, xVar, xC, xOp, xUn, xChain, xAnd, xOr, xNot, xIf, xTru, xtAnd, xtOr, xtNot, xNil, xCons, xLst, xTup, xB, xSl, xoN, xoS, xBl, xYes, xiL, xi, xiRev, xCall, frD, on1, on2, bName, bPair, nList, nRep, nComp, dLs, dSub, dAdd_int, dCmp, dNeg, dInt, dTru, dMax, lim, lim2, List.map_cons, List.map_nil, List.length_cons, List.length_nil, List.append_eq, List.cons_append, List.nil_append, List.replicate, List.getElem?_cons_zero, List.getElem?_cons_succ, Option.join_some, Option.join_none, Option.bind_some, Option.map_some, Option.bind_none, Option.map_none, List.set_cons_succ, List.set_cons_zero, if_true, Nat.reduceAdd, Nat.reduceSub, Nat.reduceLeDiff, Bool.false_eq_true, if_false, dLen_li, dSl_li, cut_to, cut_from, dEq_int, dNe_int, dEq_li, dNe_li, reduceIte, li_set, whole_int]
    by_cases q : 0 ≤ x
    · have e : pLe 0 x = true := decide_eq_true q
      simp only [e, numB, Option.map_some, Option.bind_some, decide_eq_true q, Bool.true_and]
    · have e : pLe 0 x = false := decide_eq_false q
      simp only [e, numB, Option.map_some, Option.bind_some, decide_eq_false q, Bool.false_and]
  | str _ => cases h
  | lst _ => cases h
  | tup _ => cases h
  | obj _ _ => cases h
theorem all_num {p : Int} : ∀ {ds : List D}, ds.all (numB p) = true → ∃ xs : List Int, ds = xs.map D.int ∧ Num p xs
  | [], _ => ⟨[], rfl, fun _ h => by cases h⟩
  | d :: ds, h => by
    rw [List.all_cons, Bool.and_eq_true] at h
    obtain ⟨xs, rfl, hx⟩ := all_num h.2
    cases d with
    | int x =>
      have h1 := h.1
      simp only [numB, Bool.and_eq_true, decide_eq_true_eq] at h1
      refine ⟨x :: xs, rfl, fun y hy => ?_⟩
      rcases List.mem_cons.mp hy with rfl | hy
      · exact h1
      · exact hx y hy
    | _ => simp [numB] at h
theorem num_all {p : Int} {xs : List Int} (h : Num p xs) : (xs.map D.int).all (numB p) = true := by
  rw [List.all_map, List.all_eq_true]
  intro x hx
  have := h x hx
  simp [numB, this.1, this.2]
theorem polyl_bad {p : Int} {ds : List D} (h : ds.all smB = true) (hl : ds.length ≤ 1000) (hb : ds.all (numB p) = false) : m_is_polynomial [.int p, .lst ds] = some (.ret (.bl false)) := by
  have h1 : dIsi "list" (.lst ds) = _ := dIsi_of rfl k_ll
  have h2 := compL_all (bind := bName 2) (elt := (xCall m_is_number (xCons (xVar 0) (xCons (xVar 2) xNil)))) (s := [some (.int p), some (.lst ds), none]) (g := fun d : D => d) (f := fun d => D.bl (numB p d)) (xs := ds) (fun d hd => ⟨_, rfl, by
    simp only [sSeq, sSet, sSetC, sSetO, sRet, sIf, sNil, sFor, sStoC, sApp, sAug, sPop, sPar, sPar3, sAsgT, sRaise, sCallX, wipeS, scalB, xVar, xC, xOp, xUn, xChain, xAnd, xOr, xNot, xIf, xTru, xtAnd, xtOr, xtNot, xNil, xCons, xLst, xTup, xB, xSl, xoN, xoS, xBl, xYes, xiL, xi, xiRev, xCall, frD, on1, on2, bName, bPair, nList, nRep, nComp, dLs, dSub, dAdd_int, dCmp, dNeg, dInt, dTru, dMax, lim, lim2, List.map_cons, List.map_nil, List.length_cons, List.length_nil, List.append_eq, List.cons_append, List.nil_append, List.replicate, List.getElem?_cons_zero, List.getElem?_cons_succ, Option.join_some, Option.join_none, Option.bind_some, Option.map_some, Option.bind_none, Option.map_none, List.set_cons_succ, List.set_cons_zero, if_true, Nat.reduceAdd, Nat.reduceSub, Nat.reduceLeDiff, Bool.false_eq_true, if_false, dLen_li, dSl_li, cut_to, cut_from, dEq_int, dNe_int, dEq_li, dNe_li, reduceIte, li_set, number_ok (p := p) ((List.all_eq_true.mp h) d hd)]⟩)
  rw [List.map_id'] at h2
  have h3 : dAll (.lst (ds.map fun d => D.bl (numB p d))) = some (.bl false) := by
    have e : (ds.map fun d => D.bl (numB p d)) = (ds.map (numB p)).map D.bl := by rw [List.map_map]; rfl
    rw [e]
    show (dBls _).map _ = _
    rw [dBls_map]
    show some (D.bl (((ds.map (numB p)).all id))) = _
    rw [List.all_map]
    show some (D.bl (ds.all fun d => numB p d)) = _
    rw [hb]
  have h4 : ds.length ≤ 100000 := by omega
  unfold m_is_polynomial defM
  simp only [b_is_polynomial, sSeq, sSet, sSetC, sSetO, sRet, sIf, sNil, sFor, sStoC, sApp, sAug, sPop, sPar, sPar3, sAsgT, sRaise, sCallX, wipeS, scalB, xVar, xC, xOp, xUn, xChain, xAnd, xOr, xNot, xIf, xTru, xtAnd, xtOr, xtNot, xNil, xCons, xLst, xTup, xB, xSl, xoN, xoS, xBl, xYes, xiL, xi, xiRev, xCall, frD, on1, on2, bName, bPair, nList, nRep, nComp, dLs, dSub, dAdd_int, dCmp, dNeg, dInt, dTru, dMax, lim, lim2, List.map_cons, List.map_nil, List.length_cons, List.length_nil, List.append_eq, List.cons_append, List.nil_append, List.replicate, List.getElem?_cons_zero, List.getElem?_cons_succ, Option.join_some, Option.join_none, Option.bind_some, Option.map_some, Option.bind_none, Option.map_none, List.set_cons_succ, List.set_cons_zero, if_true, Nat.reduceAdd, Nat.reduceSub, Nat.reduceLeDiff, Bool.false_eq_true, if_false, dLen_li, dSl_li, cut_to, cut_from, dEq_int, dNe_int, dEq_li, dNe_li, reduceIte, li_set, h1, Bool.not_true, xComp, h2, h3, h4]
theorem last_slice (xs : List Int) : cutL xs (some (-1)) none = xs.drop (xs.length - 1) := by
  unfold cutL
  rw [HT.sIx_none]
  have e : HT.sIx xs.length 0 (some (-1)) = xs.length - 1 := by
    show (if (-1 : Int) < 0 then ((-1 : Int) + (xs.length : Int)).toNat else min (-1 : Int).toNat xs.length) = _
    rw [if_pos (by decide)]
    omega
  rw [e]
  exact List.take_of_length_le (by simp)
theorem polyl_ok {p : Int} {xs : List Int} (h : Num p xs) (hs : ∀ x ∈ xs, x.natAbs < 1000) (hl : xs.length ≤ 1000) : m_is_polynomial [.int p, li xs] = some (.ret (.bl (!(xs.drop (xs.length - 1) == [0])))) := by
  have h1 : dIsi "list" (li xs) = _ := dIsi_of rfl k_ll
  have h2 := compL_all (bind := bName 2) (elt := (xCall m_is_number (xCons (xVar 0) (xCons (xVar 2) xNil)))) (s := [some (.int p), some (li xs), none]) (g := D.int) (f := fun x => D.bl (numB p (.int x))) (xs := xs) (fun x hx => ⟨_, rfl, by
    have : smB (.int x) = true := decide_eq_true (hs x hx)
    simp only [sSeq, sSet, sSetC, sSetO, sRet, sIf, sNil, sFor, sStoC, sApp, sAug, sPop, sPar, sPar3, sAsgT, sRaise, sCallX, wipeS, scalB, xVar, xC, xOp, xUn, xChain, xAnd, xOr, xNot, xIf, xTru, xtAnd, xtOr, xtNot, xNil, xCons, xLst, xTup, xB, xSl, xoN, xoS, xBl, xYes, xiL, xi, xiRev, xCall, frD, on1, on2, bName, bPair, nList, nRep, nComp, dLs, dSub, dAdd_int, dCmp, dNeg, dInt, dTru, dMax, lim, lim2, List.map_cons, List.map_nil, List.length_cons, List.length_nil, List.append_eq, List.cons_append, List.nil_append, List.replicate, List.getElem?_cons_zero, List.getElem?_cons_succ, Option.join_some, Option.join_none, Option.bind_some, Option.map_some, Option.bind_none, Option.map_none, List.set_cons_succ, List.set_cons_zero, if_true, Nat.reduceAdd, Nat.reduceSub, Nat.reduceLeDiff, Bool.false_eq_true, if_false, dLen_li, dSl_li, cut_to, cut_from, dEq_int, dNe_int, dEq_li, dNe_li, reduceIte, li_set, number_ok (p := p) this]⟩)
  have h3 : dAll (.lst (xs.map fun x => D.bl (numB p (.int x)))) = some (.bl true) := by
    have e : (xs.map fun x => D.bl (numB p (.int x))) = (xs.map fun x => numB p (.int x)).map D.bl := by rw [List.map_map]; rfl
    rw [e]
    show (dBls _).map _ = _
    rw [dBls_map]
    have := num_all h
    rw [List.all_map] at this
    show some (D.bl (((xs.map fun x => numB p (.int x)).all id))) = _
    rw [List.all_map]
    show some (D.bl (xs.all fun x => numB p (.int x))) = _
    rw [show (xs.all fun x => numB p (.int x)) = true from this]
  have h4 : (xs.map D.int).length ≤ 100000 := by simp; omega
  have h5 : dNe (li (xs.drop (xs.length - 1))) (.lst [.int 0]) = some (.bl (!(xs.drop (xs.length - 1) == [0]))) := dNe_li _ [0]
  unfold m_is_polynomial defM
  simp only [b_is_polynomial, sSeq, sSet, sSetC, sSetO, sRet, sIf, sNil, sFor, sStoC, sApp, sAug, sPop, sPar, sPar3, sAsgT, sRaise, sCallX, wipeS, scalB, xVar, xC, xOp, xUn, xChain, xAnd, xOr, xNot, xIf, xTru, xtAnd, xtOr, xtNot, xNil, xCons, xLst, xTup, xB, xSl, xoN, xoS, xBl, xYes, xiL, xi, xiRev, xCall, frD, on1, on2, bName, bPair, nList, nRep, nComp, dLs, dSub, dAdd_int, dCmp, dNeg, dInt, dTru, dMax, lim, lim2, List.map_cons, List.map_nil, List.length_cons, List.length_nil, List.append_eq, List.cons_append, List.nil_append, List.replicate, List.getElem?_cons_zero, List.getElem?_cons_succ, Option.join_some, Option.join_none, Option.bind_some, Option.map_some, Option.bind_none, Option.map_none, List.set_cons_succ, List.set_cons_zero, if_true, Nat.reduceAdd, Nat.reduceSub, Nat.reduceLeDiff, Bool.false_eq_true, if_false, dLen_li, dSl_li, cut_to, cut_from, dEq_int, dNe_int, dEq_li, dNe_li, reduceIte, li_set, h1, Bool.not_true, xComp, h2, h3, h4, last_slice, h5]
theorem poly_not_list {p : Int} {d : D} {a : String} (h1 : dTy d = some a) (h2 : kitB a "list" = some false) : m_is_polynomial [.int p, d] = some (.ret (.bl false)) := by
  have h1 := dIsi_of h1 h2
  unfold m_is_polynomial defM
  simp only [b_is_polynomial, sSeq, sSet, sSetC, sSetO, sRet, sIf, sNil, sFor, sStoC, sApp, sAug, sPop, sPar, sPar3, sAsgT, sRaise, sCallX, wipeS, scalB, xVar, xC, xOp, xUn, xChain, xAnd, xOr, xNot, xIf, xTru, xtAnd, xtOr, xtNot, xNil, xCons, xLst, xTup, xB, xSl, xoN, xoS, xBl, xYes, xiL, xi, xiRev, xCall, frD, on1, on2, bName, bPair, nList, nRep, nComp, dLs, dSub, dAdd_int, dCmp, dNeg, dInt, dTru, dMax, lim, lim2, List.map_cons, List.map_nil, List.length_cons, List.length_nil, List.append_eq, List.cons_append, List.nil_append, List.replicate, List.getElem?_cons_zero, List.getElem?_cons_succ, Option.join_some, Option.join_none, Option.bind_some, Option.map_some, Option.bind_none, Option.map_none, List.set_cons_succ, List.set_cons_zero, if_true, Nat.reduceAdd, Nat.reduceSub, Nat.reduceLeDiff, Bool.false_eq_true, if_false, dLen_li, dSl_li, cut_to, cut_from, dEq_int, dNe_int, dEq_li, dNe_li, reduceIte, li_set, h1, Bool.not_false]
theorem tr_drop {xs : List Int} (h : Tr xs) : (xs.drop (xs.length - 1) == [0]) = false := by
  rcases List.eq_nil_or_concat xs with rfl | ⟨ys, c, rfl⟩
  · rfl
  · rw [List.concat_eq_append] at *
    have hc : c ≠ 0 := fun z => h ys (by rw [z])
    have : (ys ++ [c]).drop ((ys ++ [c]).length - 1) = [c] := by simp
    rw [this]
    simpa using hc
/-- no polynomial of a curve -/
theorem curvel_bad {p : Int} {d : D} (h : m_is_polynomial [.int p, d] = some (.ret (.bl false))) : m_is_curve_polynomial [.int p, d] = some (.ret (.bl false)) := by
  unfold m_is_curve_polynomial defM
  simp only [b_is_curve_polynomial, sSeq, sSet, sSetC, sSetO, sRet, sIf, sNil, sFor, sStoC, sApp, sAug, sPop, sPar, sPar3, sAsgT, sRaise, sCallX, wipeS, scalB, xVar, xC, xOp, xUn, xChain, xAnd, xOr, xNot, xIf, xTru, xtAnd, xtOr, xtNot, xNil, xCons, xLst, xTup, xB, xSl, xoN, xoS, xBl, xYes, xiL, xi, xiRev, xCall, frD, on1, on2, bName, bPair, nList, nRep, nComp, dLs, dSub, dAdd_int, dCmp, dNeg, dInt, dTru, dMax, lim, lim2, List.map_cons, List.map_nil, List.length_cons, List.length_nil, List.append_eq, List.cons_append, List.nil_append, List.replicate, List.getElem?_cons_zero, List.getElem?_cons_succ, Option.join_some, Option.join_none, Option.bind_some, Option.map_some, Option.bind_none, Option.map_none, List.set_cons_succ, List.set_cons_zero, if_true, Nat.reduceAdd, Nat.reduceSub, Nat.reduceLeDiff, Bool.false_eq_true, if_false, dLen_li, dSl_li, cut_to, cut_from, dEq_int, dNe_int, dEq_li, dNe_li, reduceIte, li_set, h, Bool.not_false, dTru]
def powB (n : Nat) : Bool := n == 2 || n == 4 || n == 6 || n == 8
theorem pow_in (n : Nat) : dIn true (.int ((n : Int) - 1)) d_POWERS = some (.bl (!powB n)) := by
  have e : inV (V.int ((n : Int) - 1)) [V.int 1, V.int 3, V.int 5, V.int 7] = powB n := by
    show ((1 == (n : Int) - 1) || ((3 == (n : Int) - 1) || ((5 == (n : Int) - 1) || ((7 == (n : Int) - 1) || false)))) = _
    rw [Bool.eq_iff_iff]
    simp only [powB, Bool.or_eq_true, beq_iff_eq, Bool.or_false]
    omega
  show some (D.bl (!inV (V.int ((n : Int) - 1)) [V.int 1, V.int 3, V.int 5, V.int 7])) = _
  rw [e]
/-- a polynomial of a wrong power, or not monic -/
theorem curvel_pow {p : Int} {xs : List Int} (h : Pol p xs) (hp : Pr p) (hl : xs.length ≤ 1000) (hb : powB xs.length = false ∨ ∃ hn : xs ≠ [], xs.getLast hn ≠ 1) : m_is_curve_polynomial [.int p, li xs] = some (.ret (.bl false)) := by
  have hs : ∀ x ∈ xs, x.natAbs < 1000 := fun x hx => by have := h.num x hx; have := hp.le; omega
  have h1 := polyl_ok h.num hs hl
  rw [tr_drop h.tr] at h1
  have h2 := pow_in xs.length
  unfold m_is_curve_polynomial defM
  by_cases q : powB xs.length = false
  · rw [q] at h2
    simp only [b_is_curve_polynomial, sSeq, sSet, sSetC, sSetO, sRet, sIf, sNil, sFor, sStoC, sApp, sAug, sPop, sPar, sPar3, sAsgT, sRaise, sCallX, wipeS, scalB, xVar, xC, xOp, xUn, xChain, xAnd, xOr, xNot, xIf, xTru, xtAnd, xtOr, xtNot, xNil, xCons, xLst, xTup, xB, xSl, xoN, xoS, xBl, xYes, xiL, xi, xiRev, xCall, frD, on1, on2, bName, bPair, nList, nRep, nComp, dLs, dSub, dAdd_int, dCmp, dNeg, dInt, dTru, dMax, lim, lim2, List.map_cons, List.map_nil, List.length_cons, List.length_nil, List.append_eq, List.cons_append, List.nil_append, List.replicate, List.getElem?_cons_zero, List.getElem?_cons_succ, Option.join_some, Option.join_none, Option.bind_some, Option.map_some, Option.bind_none, Option.map_none, List.set_cons_succ, List.set_cons_zero, if_true, Nat.reduceAdd, Nat.reduceSub, Nat.reduceLeDiff, Bool.false_eq_true, if_false, dLen_li, dSl_li, cut_to, cut_from, dEq_int, dNe_int, dEq_li, dNe_li, reduceIte, li_set, h1, Bool.not_false, Bool.not_true, h2]
  · rw [Bool.not_eq_false] at q
    rw [q] at h2
    obtain ⟨hn, h3⟩ := hb.resolve_left (by rw [q]; decide)
    have h4 := dIx_last hn
    have h5 : (xs.getLast hn == 1) = false := beq_eq_false_iff_ne.mpr h3
    simp only [b_is_curve_polynomial, sSeq, sSet, sSetC, sSetO, sRet, sIf, sNil, sFor, sStoC, sApp, sAug, sPop, sPar, sPar3, sAsgT, sRaise, sCallX, wipeS, scalB, xVar, xC, xOp, xUn, xChain, xAnd, xOr, xNot, xIf, xTru, xtAnd, xtOr, xtNot, xNil, xCons, xLst, xTup, xB, xSl, xoN, xoS, xBl, xYes, xiL, xi, xiRev, xCall, frD, on1, on2, bName, bPair, nList, nRep, nComp, dLs, dSub, dAdd_int, dCmp, dNeg, dInt, dTru, dMax, lim, lim2, List.map_cons, List.map_nil, List.length_cons, List.length_nil, List.append_eq, List.cons_append, List.nil_append, List.replicate, List.getElem?_cons_zero, List.getElem?_cons_succ, Option.join_some, Option.join_none, Option.bind_some, Option.map_some, Option.bind_none, Option.map_none, List.set_cons_succ, List.set_cons_zero, if_true, Nat.reduceAdd, Nat.reduceSub, Nat.reduceLeDiff, Bool.false_eq_true, if_false, dLen_li, dSl_li, cut_to, cut_from, dEq_int, dNe_int, dEq_li, dNe_li, reduceIte, li_set, h1, Bool.not_false, Bool.not_true, h2, h4, h5]
/-- whether the curve's polynomial has no double factor -/
def simB (p : Int) (xs : List Int) : Bool := monI p (gcdL p (slI p xs).length xs (slI p xs)) == [1]
theorem curvel_ok {p : Int} {xs : List Int} (h : Pol p xs) (hp : Pr p) (hl : xs.length ≤ 1000) (hn : xs ≠ []) (hb : powB xs.length = true) (h1 : xs.getLast hn = 1) : m_is_curve_polynomial [.int p, li xs] = some (.ret (.bl (simB p xs))) := by
  have hs : ∀ x ∈ xs, x.natAbs < 1000 := fun x hx => by have := h.num x hx; have := hp.le; omega
  have g1 := polyl_ok h.num hs hl
  rw [tr_drop h.tr] at g1
  have g2 := pow_in xs.length
  rw [hb] at g2
  have g4 := dIx_last hn
  rw [h1] at g4
  have g5 := slope_ok hp h.num (by omega)
  have hsl : Pol p (slI p xs) := by
    refine ⟨Num.trim hp.pos (Num.drop (fun x hx => ?_) 1), trimI_tr _⟩
    obtain ⟨i, hi, rfl⟩ := List.mem_mapIdx.mp hx
    exact ⟨Int.emod_nonneg _ (by have := hp.pos; omega), Int.emod_lt_of_pos _ hp.pos⟩
  have hsll : (slI p xs).length ≤ xs.length := by
    unfold slI
    have := trimI_len ((xs.mapIdx fun i x => (i : Int) * x % p).drop 1)
    simp only [List.length_drop, List.length_mapIdx] at this
    omega
  have hl8 : xs.length ≤ 8 := by
    simp only [powB, Bool.or_eq_true, beq_iff_eq] at hb
    omega
  have g6 := common_ok hp h hsl hn (by omega) (by omega)
  have g7 : dEq (li (monI p (gcdL p (slI p xs).length xs (slI p xs)))) (.lst [.int 1]) = some (.bl (simB p xs)) := dEq_li _ [1]
  have g8 : ((1 : Int) == 1) = true := rfl
  unfold m_is_curve_polynomial defM
  simp only [b_is_curve_polynomial, sSeq, sSet, sSetC, sSetO, sRet, sIf, sNil, sFor, sStoC, sApp, sAug, sPop, sPar, sPar3, sAsgT, sRaise, sCallX, wipeS, scalB, xVar, xC, xOp, xUn, xChain, xAnd, xOr, xNot, xIf, xTru, xtAnd, xtOr, xtNot, xNil, xCons, xLst, xTup, xB, xSl, xoN, xoS, xBl, xYes, xiL, xi, xiRev, xCall, frD, on1, on2, bName, bPair, nList, nRep, nComp, dLs, dSub, dAdd_int, dCmp, dNeg, dInt, dTru, dMax, lim, lim2, List.map_cons, List.map_nil, List.length_cons, List.length_nil, List.append_eq, List.cons_append, List.nil_append, List.replicate, List.getElem?_cons_zero, List.getElem?_cons_succ, Option.join_some, Option.join_none, Option.bind_some, Option.map_some, Option.bind_none, Option.map_none, List.set_cons_succ, List.set_cons_zero, if_true, Nat.reduceAdd, Nat.reduceSub, Nat.reduceLeDiff, Bool.false_eq_true, if_false, dLen_li, dSl_li, cut_to, cut_from, dEq_int, dNe_int, dEq_li, dNe_li, reduceIte, li_set, g1, Bool.not_false, Bool.not_true, g2, g4, g5, g6, g7, g8]
theorem slI_pol {p : Int} (hp : 0 < p) (xs : List Int) : Pol p (slI p xs) := by
  refine ⟨Num.trim hp (Num.drop (fun x hx => ?_) 1), trimI_tr _⟩
  obtain ⟨i, hi, rfl⟩ := List.mem_mapIdx.mp hx
  exact ⟨Int.emod_nonneg _ (by omega), Int.emod_lt_of_pos _ hp⟩
theorem slI_len (p : Int) (xs : List Int) : (slI p xs).length ≤ xs.length := by
  unfold slI
  have := trimI_len ((xs.mapIdx fun i x => (i : Int) * x % p).drop 1)
  simp only [List.length_drop, List.length_mapIdx] at this
  omega
/-! ### the curve -/
theorem check_prime_ok {p : Int} (hp : Pr p) : m_check_prime [.int p] = some (.ret .non) := by
  have h1 : dIn true (.int p) d_PRIMES = some (.bl false) := by
    rcases hp with rfl | rfl | rfl | rfl | rfl <;> rfl
  unfold m_check_prime defM
  simp only [b_check_prime, sSeq, sSet, sSetC, sSetO, sRet, sIf, sNil, sFor, sStoC, sApp, sAug, sPop, sPar, sPar3, sAsgT, sRaise, sCallX, wipeS, scalB, xVar, xC, xOp, xUn, xChain, xAnd, xOr, xNot, xIf, xTru, xtAnd, xtOr, xtNot, xNil, xCons, xLst, xTup, xB, xSl, xoN, xoS, xBl, xYes, xiL, xi, xiRev, xCall, frD, on1, on2, bName, bPair, nList, nRep, nComp, dLs, dSub, dAdd_int, dCmp, dNeg, dInt, dTru, dMax, lim, lim2, List.map_cons, List.map_nil, List.length_cons, List.length_nil, List.append_eq, List.cons_append, List.nil_append, List.replicate, List.getElem?_cons_zero, List.getElem?_cons_succ, Option.join_some, Option.join_none, Option.bind_some, Option.map_some, Option.bind_none, Option.map_none, List.set_cons_succ, List.set_cons_zero, if_true, Nat.reduceAdd, Nat.reduceSub, Nat.reduceLeDiff, Bool.false_eq_true, if_false, dLen_li, dSl_li, cut_to, cut_from, dEq_int, dNe_int, dEq_li, dNe_li, reduceIte, li_set, whole_int, Bool.not_true, h1]
abbrev crv (p : Int) (xs : List Int) : D := .obj 0 [.int p, .tup (xs.map D.int)]
theorem init_ok {p : Int} (hp : Pr p) {xs : List Int} (h : m_is_curve_polynomial [.int p, li xs] = some (.ret (.bl true))) : m_Curve___init__ [.int p, li xs] = some (.ret (crv p xs)) := by
  unfold m_Curve___init__ defI
  simp only [b_Curve___init__, iSt, iFld, iNil, sSeq, sSet, sSetC, sSetO, sRet, sIf, sNil, sFor, sStoC, sApp, sAug, sPop, sPar, sPar3, sAsgT, sRaise, sCallX, wipeS, scalB, xVar, xC, xOp, xUn, xChain, xAnd, xOr, xNot, xIf, xTru, xtAnd, xtOr, xtNot, xNil, xCons, xLst, xTup, xB, xSl, xoN, xoS, xBl, xYes, xiL, xi, xiRev, xCall, frD, on1, on2, bName, bPair, nList, nRep, nComp, dLs, dSub, dAdd_int, dCmp, dNeg, dInt, dTru, dMax, lim, lim2, List.map_cons, List.map_nil, List.length_cons, List.length_nil, List.append_eq, List.cons_append, List.nil_append, List.replicate, List.getElem?_cons_zero, List.getElem?_cons_succ, Option.join_some, Option.join_none, Option.bind_some, Option.map_some, Option.bind_none, Option.map_none, List.set_cons_succ, List.set_cons_zero, if_true, Nat.reduceAdd, Nat.reduceSub, Nat.reduceLeDiff, Bool.false_eq_true, if_false, dLen_li, dSl_li, cut_to, cut_from, dEq_int, dNe_int, dEq_li, dNe_li, reduceIte, li_set, check_prime_ok hp, h, Bool.not_true]
  rfl
theorem init_bad {p : Int} (hp : Pr p) {d : D} (h : m_is_curve_polynomial [.int p, d] = some (.ret (.bl false))) : m_Curve___init__ [.int p, d] = some (.exc 1 d) := by
  unfold m_Curve___init__ defI
  simp only [b_Curve___init__, iSt, iFld, iNil, sSeq, sSet, sSetC, sSetO, sRet, sIf, sNil, sFor, sStoC, sApp, sAug, sPop, sPar, sPar3, sAsgT, sRaise, sCallX, wipeS, scalB, xVar, xC, xOp, xUn, xChain, xAnd, xOr, xNot, xIf, xTru, xtAnd, xtOr, xtNot, xNil, xCons, xLst, xTup, xB, xSl, xoN, xoS, xBl, xYes, xiL, xi, xiRev, xCall, frD, on1, on2, bName, bPair, nList, nRep, nComp, dLs, dSub, dAdd_int, dCmp, dNeg, dInt, dTru, dMax, lim, lim2, List.map_cons, List.map_nil, List.length_cons, List.length_nil, List.append_eq, List.cons_append, List.nil_append, List.replicate, List.getElem?_cons_zero, List.getElem?_cons_succ, Option.join_some, Option.join_none, Option.bind_some, Option.map_some, Option.bind_none, Option.map_none, List.set_cons_succ, List.set_cons_zero, if_true, Nat.reduceAdd, Nat.reduceSub, Nat.reduceLeDiff, Bool.false_eq_true, if_false, dLen_li, dSl_li, cut_to, cut_from, dEq_int, dNe_int, dEq_li, dNe_li, reduceIte, li_set, check_prime_ok hp, h, Bool.not_false]
end G7

set_option Elab.async false
set_option linter.all false
set_option maxRecDepth 100000
set_option maxHeartbeats 1000000
/-! the law's look at a curve -/
namespace G7
open PySem PySem.Spec PyProof.Rows L2 Mr
theorem cut_from1 {α : Type} (xs : List α) : cutL xs (some 1) none = xs.drop 1 := cut_from xs 1
theorem simB_len {p : Int} (hp : Pr p) {xs : List Int} (h : Pol p xs) (hn : xs ≠ []) : simB p xs = ((gcdL p (slI p xs).length xs (slI p xs)).length == 1) := by
  obtain ⟨h1, h2⟩ := gcdL_pol hp.pos (slI p xs).length xs (slI p xs) h (slI_pol hp.pos xs) hn
  unfold simB
  generalize gcdL p (slI p xs).length xs (slI p xs) = g at *
  rw [monI, dif_neg h2, Bool.eq_iff_iff, beq_iff_eq, beq_iff_eq]
  constructor
  · intro e
    have := congrArg List.length e
    simpa using this
  · intro e
    obtain ⟨c, rfl⟩ := List.length_eq_one_iff.mp e
    have hc := h1.num c (by simp)
    have hc2 := tr_last h1.tr h2
    simp only [List.getLast_singleton] at hc2 ⊢
    simp only [List.map_cons, List.map_nil, invI_ok hp (show 0 < c by omega) hc.2]
theorem mul34_ok {u v w : Option D} (k y : Int) (h0 : -100000 < y) (h1 : y < 100000) : (xOp dMul (xVar 3) (xVar 4)) [u, v, w, some (.int k), some (.int y)] = some (.int (k * y)) := by
  have h2 := dMul_int (cmul_r (a := k) (b := y) h0 h1)
  simp only [sSeq, sSet, sSetC, sSetO, sRet, sIf, sNil, sFor, sStoC, sApp, sAug, sPop, sPar, sPar3, sAsgT, sRaise, sCallX, wipeS, scalB, xVar, xC, xOp, xUn, xChain, xAnd, xOr, xNot, xIf, xTru, xtAnd, xtOr, xtNot, xNil, xCons, xLst, xTup, xB, xSl, xoN, xoS, xBl, xYes, xiL, xi, xiRev, xCall, frD, on1, on2, bName, bPair, nList, nRep, nComp, dLs, dSub, dAdd_int, dCmp, dNeg, dInt, dTru, dMax, lim, lim2, List.map_cons, List.map_nil, List.length_cons, List.length_nil, List.append_eq, List.cons_append, List.nil_append, List.replicate, List.getElem?_cons_zero, List.getElem?_cons_succ, Option.join_some, Option.join_none, Option.bind_some, Option.map_some, Option.bind_none, Option.map_none, List.set_cons_succ, List.set_cons_zero, if_true, Nat.reduceAdd, Nat.reduceSub, Nat.reduceLeDiff, Bool.false_eq_true, if_false, dLen_li, dSl_li, cut_to, cut_from, dEq_int, dNe_int, dEq_li, dNe_li, reduceIte, li_set, dNeO_str, dNeO_lst, dNeO_li, dNeO_tup, dNeO_int, dNeO_bl, h2]
theorem Lsimple_ok {p : Int} (hp : Pr p) {xs : List Int} (h : Pol p xs) (hn : xs ≠ []) (hl : xs.length ≤ 1000) : m_Lsimple [.int p, li xs] = some (.ret (.bl (simB p xs))) := by
  have e0 : dEnum [li xs] = some ((xs.zipIdx).map fun x => D.tup [.int (x.2 : Nat), .int x.1]) := by
    show some (List.zipWith (fun (i : Nat) d => D.tup [.int (i : Nat), d]) (List.range (xs.map D.int).length) (xs.map D.int)) = _
    congr 1
    apply List.ext_getElem
    · simp
    · intro i h1 h2
      simp
  have h5 := compL_all (bind := bPair 3 4) (elt := (xOp dMul (xVar 3) (xVar 4))) (s := [some (.int p), some (li xs), none, none, none]) (g := fun x : Int × Nat => D.tup [.int (x.2 : Nat), .int x.1]) (f := fun x => D.int ((x.2 : Int) * x.1)) (xs := xs.zipIdx) (fun x hx => ⟨_, rfl, by
    have h1 := h.num x.1 (by
      obtain ⟨y, i⟩ := x
      have := List.mem_zipIdx' hx
      rw [this.2]
      exact List.getElem_mem _)
    have := hp.le
    exact mul34_ok _ _ (by omega) (by omega)⟩)
  have e1 : (xs.zipIdx).map (fun x => D.int ((x.2 : Int) * x.1)) = (xs.mapIdx fun i x => (i : Int) * x).map D.int := by
    apply List.ext_getElem
    · simp
    · intro i h1 h2
      simp
  have hlen : (List.map (fun x => D.tup [.int ((x : Int × Nat).2 : Nat), .int x.1]) xs.zipIdx).length ≤ 100000 := by simp; omega
  have e3 : cutL (xs.mapIdx fun i x => (i : Int) * x) (some 1) none = (xs.mapIdx fun i x => (i : Int) * x).drop 1 := cut_from1 _
  have e2 := Ltrim_ok hp.pos ((xs.mapIdx fun i x => (i : Int) * x).drop 1) (by simp; omega)
  have e4 : ((xs.mapIdx fun i x => (i : Int) * x).drop 1).map (· % p) = (xs.mapIdx fun i x => (i : Int) * x % p).drop 1 := by
    rw [List.map_drop]
    congr 1
    apply List.ext_getElem
    · simp
    · intro i h1 h2
      simp
  rw [e4] at e2
  have e5 := Lcommon_ok hp h (slI_pol hp.pos xs) (by omega) (by have := slI_len p xs; omega)
  unfold slI at e5
  have e6 : (((gcdL p (slI p xs).length xs (slI p xs)).length : Int) == 1) = ((gcdL p (slI p xs).length xs (slI p xs)).length == 1) := by
    rw [Bool.eq_iff_iff, beq_iff_eq, beq_iff_eq]; omega
  unfold slI at e6
  rw [simB_len hp h hn]
  unfold m_Lsimple defM slI
  simp only [b_Lsimple, sSeq, sSet, sSetC, sSetO, sRet, sIf, sNil, sFor, sStoC, sApp, sAug, sPop, sPar, sPar3, sAsgT, sRaise, sCallX, wipeS, scalB, xVar, xC, xOp, xUn, xChain, xAnd, xOr, xNot, xIf, xTru, xtAnd, xtOr, xtNot, xNil, xCons, xLst, xTup, xB, xSl, xoN, xoS, xBl, xYes, xiL, xi, xiRev, xCall, frD, on1, on2, bName, bPair, nList, nRep, nComp, dLs, dSub, dAdd_int, dCmp, dNeg, dInt, dTru, dMax, lim, lim2, List.map_cons, List.map_nil, List.length_cons, List.length_nil, List.append_eq, List.cons_append, List.nil_append, List.replicate, List.getElem?_cons_zero, List.getElem?_cons_succ, Option.join_some, Option.join_none, Option.bind_some, Option.map_some, Option.bind_none, Option.map_none, List.set_cons_succ, List.set_cons_zero, if_true, Nat.reduceAdd, Nat.reduceSub, Nat.reduceLeDiff, Bool.false_eq_true, if_false, dLen_li, dSl_li, cut_to, cut_from, dEq_int, dNe_int, dEq_li, dNe_li, reduceIte, li_set, dNeO_str, dNeO_lst, dNeO_li, dNeO_tup, dNeO_int, dNeO_bl, e0, xComp, h5, e1, hlen, e3, e2, e5, e6]
/-! ### Curve's methods -/
theorem fld_p (p : Int) (xs : List Int) : dFld 0 ns_Curve "_prime" (crv p xs) = some (.int p) := by
  show (ns_Curve.zip [D.int p, D.tup (xs.map D.int)]).lookup ("_prime" : Str) = _
  unfold ns_Curve
  simp only [List.zip_cons_cons, List.zip_nil_right, List.lookup_cons]
  rw [show (("_prime" : Str) == ("_prime" : Str)) = true by decide +kernel]
theorem fld_n (p : Int) (xs : List Int) : dFld 0 ns_Curve "_numbers" (crv p xs) = some (.tup (xs.map D.int)) := by
  show (ns_Curve.zip [D.int p, D.tup (xs.map D.int)]).lookup ("_numbers" : Str) = _
  unfold ns_Curve
  simp only [List.zip_cons_cons, List.zip_nil_right, List.lookup_cons]
  rw [show (("_numbers" : Str) == ("_prime" : Str)) = false by decide +kernel, show (("_numbers" : Str) == ("_numbers" : Str)) = true by decide +kernel]
theorem prime_ok (p : Int) (xs : List Int) : m_Curve_prime [crv p xs] = some (.ret (.int p)) := by
  unfold m_Curve_prime defM
  simp only [b_Curve_prime, sSeq, sSet, sSetC, sSetO, sRet, sIf, sNil, sFor, sStoC, sApp, sAug, sPop, sPar, sPar3, sAsgT, sRaise, sCallX, wipeS, scalB, xVar, xC, xOp, xUn, xChain, xAnd, xOr, xNot, xIf, xTru, xtAnd, xtOr, xtNot, xNil, xCons, xLst, xTup, xB, xSl, xoN, xoS, xBl, xYes, xiL, xi, xiRev, xCall, frD, on1, on2, bName, bPair, nList, nRep, nComp, dLs, dSub, dAdd_int, dCmp, dNeg, dInt, dTru, dMax, lim, lim2, List.map_cons, List.map_nil, List.length_cons, List.length_nil, List.append_eq, List.cons_append, List.nil_append, List.replicate, List.getElem?_cons_zero, List.getElem?_cons_succ, Option.join_some, Option.join_none, Option.bind_some, Option.map_some, Option.bind_none, Option.map_none, List.set_cons_succ, List.set_cons_zero, if_true, Nat.reduceAdd, Nat.reduceSub, Nat.reduceLeDiff, Bool.false_eq_true, if_false, dLen_li, dSl_li, cut_to, cut_from, dEq_int, dNe_int, dEq_li, dNe_li, reduceIte, li_set, dNeO_str, dNeO_lst, dNeO_li, dNeO_tup, dNeO_int, dNeO_bl, fld_p]
theorem polynomial_ok (p : Int) (xs : List Int) : m_Curve_polynomial [crv p xs] = some (.ret (li xs)) := by
  have h1 : dList (.tup (xs.map D.int)) = some (li xs) := rfl
  unfold m_Curve_polynomial defM
  simp only [b_Curve_polynomial, sSeq, sSet, sSetC, sSetO, sRet, sIf, sNil, sFor, sStoC, sApp, sAug, sPop, sPar, sPar3, sAsgT, sRaise, sCallX, wipeS, scalB, xVar, xC, xOp, xUn, xChain, xAnd, xOr, xNot, xIf, xTru, xtAnd, xtOr, xtNot, xNil, xCons, xLst, xTup, xB, xSl, xoN, xoS, xBl, xYes, xiL, xi, xiRev, xCall, frD, on1, on2, bName, bPair, nList, nRep, nComp, dLs, dSub, dAdd_int, dCmp, dNeg, dInt, dTru, dMax, lim, lim2, List.map_cons, List.map_nil, List.length_cons, List.length_nil, List.append_eq, List.cons_append, List.nil_append, List.replicate, List.getElem?_cons_zero, List.getElem?_cons_succ, Option.join_some, Option.join_none, Option.bind_some, Option.map_some, Option.bind_none, Option.map_none, List.set_cons_succ, List.set_cons_zero, if_true, Nat.reduceAdd, Nat.reduceSub, Nat.reduceLeDiff, Bool.false_eq_true, if_false, dLen_li, dSl_li, cut_to, cut_from, dEq_int, dNe_int, dEq_li, dNe_li, reduceIte, li_set, dNeO_str, dNeO_lst, dNeO_li, dNeO_tup, dNeO_int, dNeO_bl, fld_n, h1]
theorem polynomialN_ok (p : Int) (xs : List Int) : mN_Curve_polynomial [crv p xs] = some (xs.map D.int) := by
  unfold mN_Curve_polynomial defN
  simp only [nb_Curve_polynomial, sSeq, sSet, sSetC, sSetO, sRet, sIf, sNil, sFor, sStoC, sApp, sAug, sPop, sPar, sPar3, sAsgT, sRaise, sCallX, wipeS, scalB, xVar, xC, xOp, xUn, xChain, xAnd, xOr, xNot, xIf, xTru, xtAnd, xtOr, xtNot, xNil, xCons, xLst, xTup, xB, xSl, xoN, xoS, xBl, xYes, xiL, xi, xiRev, xCall, frD, on1, on2, bName, bPair, nList, nRep, nComp, dLs, dSub, dAdd_int, dCmp, dNeg, dInt, dTru, dMax, lim, lim2, List.map_cons, List.map_nil, List.length_cons, List.length_nil, List.append_eq, List.cons_append, List.nil_append, List.replicate, List.getElem?_cons_zero, List.getElem?_cons_succ, Option.join_some, Option.join_none, Option.bind_some, Option.map_some, Option.bind_none, Option.map_none, List.set_cons_succ, List.set_cons_zero, if_true, Nat.reduceAdd, Nat.reduceSub, Nat.reduceLeDiff, Bool.false_eq_true, if_false, dLen_li, dSl_li, cut_to, cut_from, dEq_int, dNe_int, dEq_li, dNe_li, reduceIte, li_set, dNeO_str, dNeO_lst, dNeO_li, dNeO_tup, dNeO_int, dNeO_bl, fld_n]
theorem genus_ok (p : Int) (xs : List Int) : m_Curve_genus [crv p xs] = some (.ret (.int (((xs.length : Int) - 2) / 2))) := by
  have h1 : dLen (.tup (xs.map D.int)) = some (.int xs.length) := by simp [dLen]
  have h2 : ∀ a : Int, dFdiv (.int a) (.int 2) = some (.int (a / 2)) := fun a => rfl
  unfold m_Curve_genus defM
  simp only [b_Curve_genus, sSeq, sSet, sSetC, sSetO, sRet, sIf, sNil, sFor, sStoC, sApp, sAug, sPop, sPar, sPar3, sAsgT, sRaise, sCallX, wipeS, scalB, xVar, xC, xOp, xUn, xChain, xAnd, xOr, xNot, xIf, xTru, xtAnd, xtOr, xtNot, xNil, xCons, xLst, xTup, xB, xSl, xoN, xoS, xBl, xYes, xiL, xi, xiRev, xCall, frD, on1, on2, bName, bPair, nList, nRep, nComp, dLs, dSub, dAdd_int, dCmp, dNeg, dInt, dTru, dMax, lim, lim2, List.map_cons, List.map_nil, List.length_cons, List.length_nil, List.append_eq, List.cons_append, List.nil_append, List.replicate, List.getElem?_cons_zero, List.getElem?_cons_succ, Option.join_some, Option.join_none, Option.bind_some, Option.map_some, Option.bind_none, Option.map_none, List.set_cons_succ, List.set_cons_zero, if_true, Nat.reduceAdd, Nat.reduceSub, Nat.reduceLeDiff, Bool.false_eq_true, if_false, dLen_li, dSl_li, cut_to, cut_from, dEq_int, dNe_int, dEq_li, dNe_li, reduceIte, li_set, dNeO_str, dNeO_lst, dNeO_li, dNeO_tup, dNeO_int, dNeO_bl, fld_n, h1, h2]
theorem dEq_tup (xs ys : List Int) : dEq (.tup (xs.map D.int)) (.tup (ys.map D.int)) = some (.bl (xs == ys)) := by
  have e : ∀ zs : List Int, D.py (.tup (zs.map D.int)) = some (.tuple (zs.map PyData.int)) := fun zs => by
    show (D.pys (zs.map D.int)).map PyData.tuple = _
    rw [pys_ints]; rfl
  have s : ∀ zs : List Int, SeqAt.shaped (.tuple (zs.map PyData.int)) = true := fun zs => by
    unfold SeqAt.shaped
    simp [PyData.canLay0, PyData.depth, canLay_ints, depth_ints]
  unfold dEq dEqB
  rw [e, e]
  simp only [Option.bind_some, s, Bool.and_self, if_true, Option.map_some]
  show some (D.bl (PyData.eqvAll _ _)) = _
  rw [eqvAll_ints]
theorem eq_ok (p q : Int) (xs ys : List Int) : m_Curve___eq__ [crv p xs, crv q ys] = some (.ret (.bl ((p == q) && (xs == ys)))) := by
  have h1 : dIsO 0 (crv q ys) = some (.bl true) := rfl
  unfold m_Curve___eq__ defM
  simp only [b_Curve___eq__, sSeq, sSet, sSetC, sSetO, sRet, sIf, sNil, sFor, sStoC, sApp, sAug, sPop, sPar, sPar3, sAsgT, sRaise, sCallX, wipeS, scalB, xVar, xC, xOp, xUn, xChain, xAnd, xOr, xNot, xIf, xTru, xtAnd, xtOr, xtNot, xNil, xCons, xLst, xTup, xB, xSl, xoN, xoS, xBl, xYes, xiL, xi, xiRev, xCall, frD, on1, on2, bName, bPair, nList, nRep, nComp, dLs, dSub, dAdd_int, dCmp, dNeg, dInt, dTru, dMax, lim, lim2, List.map_cons, List.map_nil, List.length_cons, List.length_nil, List.append_eq, List.cons_append, List.nil_append, List.replicate, List.getElem?_cons_zero, List.getElem?_cons_succ, Option.join_some, Option.join_none, Option.bind_some, Option.map_some, Option.bind_none, Option.map_none, List.set_cons_succ, List.set_cons_zero, if_true, Nat.reduceAdd, Nat.reduceSub, Nat.reduceLeDiff, Bool.false_eq_true, if_false, dLen_li, dSl_li, cut_to, cut_from, dEq_int, dNe_int, dEq_li, dNe_li, reduceIte, li_set, dNeO_str, dNeO_lst, dNeO_li, dNeO_tup, dNeO_int, dNeO_bl, h1, fld_p, fld_n, dEq_tup]
  cases p == q
  · rfl
  · simp only [Bool.true_and, sSeq, sSet, sSetC, sSetO, sRet, sIf, sNil, sFor, sStoC, sApp, sAug, sPop, sPar, sPar3, sAsgT, sRaise, sCallX, wipeS, scalB, xVar, xC, xOp, xUn, xChain, xAnd, xOr, xNot, xIf, xTru, xtAnd, xtOr, xtNot, xNil, xCons, xLst, xTup, xB, xSl, xoN, xoS, xBl, xYes, xiL, xi, xiRev, xCall, frD, on1, on2, bName, bPair, nList, nRep, nComp, dLs, dSub, dAdd_int, dCmp, dNeg, dInt, dTru, dMax, lim, lim2, List.map_cons, List.map_nil, List.length_cons, List.length_nil, List.append_eq, List.cons_append, List.nil_append, List.replicate, List.getElem?_cons_zero, List.getElem?_cons_succ, Option.join_some, Option.join_none, Option.bind_some, Option.map_some, Option.bind_none, Option.map_none, List.set_cons_succ, List.set_cons_zero, if_true, Nat.reduceAdd, Nat.reduceSub, Nat.reduceLeDiff, Bool.false_eq_true, if_false, dLen_li, dSl_li, cut_to, cut_from, dEq_int, dNe_int, dEq_li, dNe_li, reduceIte, li_set, dNeO_str, dNeO_lst, dNeO_li, dNeO_tup, dNeO_int, dNeO_bl]
theorem eq_no {p : Int} {xs : List Int} {d : D} (h : dIsO 0 d = some (.bl false)) : m_Curve___eq__ [crv p xs, d] = some (.ret (.bl false)) := by
  unfold m_Curve___eq__ defM
  simp only [b_Curve___eq__, sSeq, sSet, sSetC, sSetO, sRet, sIf, sNil, sFor, sStoC, sApp, sAug, sPop, sPar, sPar3, sAsgT, sRaise, sCallX, wipeS, scalB, xVar, xC, xOp, xUn, xChain, xAnd, xOr, xNot, xIf, xTru, xtAnd, xtOr, xtNot, xNil, xCons, xLst, xTup, xB, xSl, xoN, xoS, xBl, xYes, xiL, xi, xiRev, xCall, frD, on1, on2, bName, bPair, nList, nRep, nComp, dLs, dSub, dAdd_int, dCmp, dNeg, dInt, dTru, dMax, lim, lim2, List.map_cons, List.map_nil, List.length_cons, List.length_nil, List.append_eq, List.cons_append, List.nil_append, List.replicate, List.getElem?_cons_zero, List.getElem?_cons_succ, Option.join_some, Option.join_none, Option.bind_some, Option.map_some, Option.bind_none, Option.map_none, List.set_cons_succ, List.set_cons_zero, if_true, Nat.reduceAdd, Nat.reduceSub, Nat.reduceLeDiff, Bool.false_eq_true, if_false, dLen_li, dSl_li, cut_to, cut_from, dEq_int, dNe_int, dEq_li, dNe_li, reduceIte, li_set, dNeO_str, dNeO_lst, dNeO_li, dNeO_tup, dNeO_int, dNeO_bl, h]
/-! ### _law_curve_right -/
theorem made_bad {p : Int} (hp : Pr p) {d : D} {x : Str} (h : m_is_curve_polynomial [.int p, d] = some (.ret (.bl false))) (hr : dRepr d = some (.str x)) (hx : PyData.strOk x = true) : mMade m_Curve___init__ 1 [.int p, d] = some (.ret .non) := by
  unfold mMade
  simp only [init_bad hp h, Option.bind_some, if_true, hr, dNe_str hx]
theorem made_ok {p : Int} (hp : Pr p) {xs : List Int} (h : m_is_curve_polynomial [.int p, li xs] = some (.ret (.bl true))) : mMade m_Curve___init__ 1 [.int p, li xs] = some (.ret (crv p xs)) := by
  unfold mMade
  simp only [init_ok hp h, Option.bind_some]
theorem q_wrong : dEqO 0 m_Curve___eq__ .non (.str "wrong") = some (.bl false) := by
  show dEq .non (.str "wrong") = _
  unfold dEq dEqB
  simp only [D.py, Option.bind_some]
  rw [show SeqAt.shaped (.str "wrong") = true by decide +kernel, show SeqAt.shaped .none = true by decide +kernel]
  rfl
theorem q_bl (a b : Bool) : dEqO 0 m_Curve___eq__ (.bl a) (.bl b) = some (.bl (a == b)) := by
  show dEq (.bl a) (.bl b) = _
  unfold dEq dEqB
  simp only [D.py, Option.bind_some]
  rw [show ∀ c, SeqAt.shaped (.bool c) = true by decide +kernel, show ∀ c, SeqAt.shaped (.bool c) = true by decide +kernel]
  rfl
theorem smB_scal {ds : List D} (h : ds.all smB = true) : ds.all scalB = true := by
  rw [List.all_eq_true] at *
  intro d hd
  have := h d hd
  cases d <;> simp [smB, scalB] at *
/-- refused, and due to be -/
theorem right_lst {p : Int} (hp : Pr p) {ds : List D} (hs : ds.all smB = true) (hl : ds.length ≤ 1000) (h : m_is_curve_polynomial [.int p, .lst ds] = some (.ret (.bl false))) : m_Lcurve_right [.int p, .lst ds, .bl false] = some (.ret (.bl true)) := by
  obtain ⟨x, h1, h2⟩ := repr_lst hs hl
  have h3 := made_bad hp h h1 h2
  have h4 := dNe_str h2
  have key : bA_Lcurve_right [some (.int p), some (.lst ds), some (.bl false), none, none, none, none, none] = some (.rt (.bl true) [some (.int p), some (.lst ds), some (.bl false), some (.str x), some .non, none, none, none]) := by
    simp only [bA_Lcurve_right, sSetL, sSeq, sSet, sSetC, sSetO, sRet, sIf, sNil, sFor, sStoC, sApp, sAug, sPop, sPar, sPar3, sAsgT, sRaise, sCallX, wipeS, scalB, xVar, xC, xOp, xUn, xChain, xAnd, xOr, xNot, xIf, xTru, xtAnd, xtOr, xtNot, xNil, xCons, xLst, xTup, xB, xSl, xoN, xoS, xBl, xYes, xiL, xi, xiRev, xCall, frD, on1, on2, bName, bPair, nList, nRep, nComp, dLs, dSub, dAdd_int, dCmp, dNeg, dInt, dTru, dMax, lim, lim2, List.map_cons, List.map_nil, List.length_cons, List.length_nil, List.append_eq, List.cons_append, List.nil_append, List.replicate, List.getElem?_cons_zero, List.getElem?_cons_succ, Option.join_some, Option.join_none, Option.bind_some, Option.map_some, Option.bind_none, Option.map_none, List.set_cons_succ, List.set_cons_zero, if_true, Nat.reduceAdd, Nat.reduceSub, Nat.reduceLeDiff, Bool.false_eq_true, if_false, dLen_li, dSl_li, cut_to, cut_from, dEq_int, dNe_int, dEq_li, dNe_li, reduceIte, li_set, dNeO_str, dNeO_lst, dNeO_li, dNeO_tup, dNeO_int, dNeO_bl, h1, h3, h4, lfB, q_wrong, dNone, q_bl, Bool.not_false, Bool.true_eq_false, beq_iff_eq]
  unfold m_Lcurve_right mLent
  simp only [sSeq, sSet, sSetC, sSetO, sRet, sIf, sNil, sFor, sStoC, sApp, sAug, sPop, sPar, sPar3, sAsgT, sRaise, sCallX, wipeS, scalB, xVar, xC, xOp, xUn, xChain, xAnd, xOr, xNot, xIf, xTru, xtAnd, xtOr, xtNot, xNil, xCons, xLst, xTup, xB, xSl, xoN, xoS, xBl, xYes, xiL, xi, xiRev, xCall, frD, on1, on2, bName, bPair, nList, nRep, nComp, dLs, dSub, dAdd_int, dCmp, dNeg, dInt, dTru, dMax, lim, lim2, List.map_cons, List.map_nil, List.length_cons, List.length_nil, List.append_eq, List.cons_append, List.nil_append, List.replicate, List.getElem?_cons_zero, List.getElem?_cons_succ, Option.join_some, Option.join_none, Option.bind_some, Option.map_some, Option.bind_none, Option.map_none, List.set_cons_succ, List.set_cons_zero, if_true, Nat.reduceAdd, Nat.reduceSub, Nat.reduceLeDiff, Bool.false_eq_true, if_false, dLen_li, dSl_li, cut_to, cut_from, dEq_int, dNe_int, dEq_li, dNe_li, reduceIte, li_set, dNeO_str, dNeO_lst, dNeO_li, dNeO_tup, dNeO_int, dNeO_bl]
  rw [if_pos ⟨smB_scal hs, fun i e hi he => by
    match i, he with
    | 0, he => cases he; rfl
    | 1, _ => exact absurd rfl hi
    | 2, he => cases he; rfl⟩, key]
  simp only [sSeq, sSet, sSetC, sSetO, sRet, sIf, sNil, sFor, sStoC, sApp, sAug, sPop, sPar, sPar3, sAsgT, sRaise, sCallX, wipeS, scalB, xVar, xC, xOp, xUn, xChain, xAnd, xOr, xNot, xIf, xTru, xtAnd, xtOr, xtNot, xNil, xCons, xLst, xTup, xB, xSl, xoN, xoS, xBl, xYes, xiL, xi, xiRev, xCall, frD, on1, on2, bName, bPair, nList, nRep, nComp, dLs, dSub, dAdd_int, dCmp, dNeg, dInt, dTru, dMax, lim, lim2, List.map_cons, List.map_nil, List.length_cons, List.length_nil, List.append_eq, List.cons_append, List.nil_append, List.replicate, List.getElem?_cons_zero, List.getElem?_cons_succ, Option.join_some, Option.join_none, Option.bind_some, Option.map_some, Option.bind_none, Option.map_none, List.set_cons_succ, List.set_cons_zero, if_true, Nat.reduceAdd, Nat.reduceSub, Nat.reduceLeDiff, Bool.false_eq_true, if_false, dLen_li, dSl_li, cut_to, cut_from, dEq_int, dNe_int, dEq_li, dNe_li, reduceIte, li_set, dNeO_str, dNeO_lst, dNeO_li, dNeO_tup, dNeO_int, dNeO_bl]
theorem right_oth {p : Int} (hp : Pr p) {d : D} {x : Str} (hd : ∀ gs, d ≠ .lst gs) (h1 : dRepr d = some (.str x)) (h2 : PyData.strOk x = true) (h : m_is_curve_polynomial [.int p, d] = some (.ret (.bl false))) : m_Lcurve_right [.int p, d, .bl false] = some (.ret (.bl true)) := by
  have h3 := made_bad hp h h1 h2
  have h4 := dNe_str h2
  have key : bB_Lcurve_right [some (.int p), some d, some (.bl false), none, none, none, none, none] = some (.rt (.bl true) [some (.int p), some d, some (.bl false), some (.str x), some .non, none, none, none]) := by
    simp only [bB_Lcurve_right, sSeq, sSet, sSetC, sSetO, sRet, sIf, sNil, sFor, sStoC, sApp, sAug, sPop, sPar, sPar3, sAsgT, sRaise, sCallX, wipeS, scalB, xVar, xC, xOp, xUn, xChain, xAnd, xOr, xNot, xIf, xTru, xtAnd, xtOr, xtNot, xNil, xCons, xLst, xTup, xB, xSl, xoN, xoS, xBl, xYes, xiL, xi, xiRev, xCall, frD, on1, on2, bName, bPair, nList, nRep, nComp, dLs, dSub, dAdd_int, dCmp, dNeg, dInt, dTru, dMax, lim, lim2, List.map_cons, List.map_nil, List.length_cons, List.length_nil, List.append_eq, List.cons_append, List.nil_append, List.replicate, List.getElem?_cons_zero, List.getElem?_cons_succ, Option.join_some, Option.join_none, Option.bind_some, Option.map_some, Option.bind_none, Option.map_none, List.set_cons_succ, List.set_cons_zero, if_true, Nat.reduceAdd, Nat.reduceSub, Nat.reduceLeDiff, Bool.false_eq_true, if_false, dLen_li, dSl_li, cut_to, cut_from, dEq_int, dNe_int, dEq_li, dNe_li, reduceIte, li_set, dNeO_str, dNeO_lst, dNeO_li, dNeO_tup, dNeO_int, dNeO_bl, h1, h3, h4, q_wrong, dNone, q_bl, Bool.not_false, Bool.true_eq_false, beq_iff_eq]
  unfold m_Lcurve_right mLent
  simp only [sSeq, sSet, sSetC, sSetO, sRet, sIf, sNil, sFor, sStoC, sApp, sAug, sPop, sPar, sPar3, sAsgT, sRaise, sCallX, wipeS, scalB, xVar, xC, xOp, xUn, xChain, xAnd, xOr, xNot, xIf, xTru, xtAnd, xtOr, xtNot, xNil, xCons, xLst, xTup, xB, xSl, xoN, xoS, xBl, xYes, xiL, xi, xiRev, xCall, frD, on1, on2, bName, bPair, nList, nRep, nComp, dLs, dSub, dAdd_int, dCmp, dNeg, dInt, dTru, dMax, lim, lim2, List.map_cons, List.map_nil, List.length_cons, List.length_nil, List.append_eq, List.cons_append, List.nil_append, List.replicate, List.getElem?_cons_zero, List.getElem?_cons_succ, Option.join_some, Option.join_none, Option.bind_some, Option.map_some, Option.bind_none, Option.map_none, List.set_cons_succ, List.set_cons_zero, if_true, Nat.reduceAdd, Nat.reduceSub, Nat.reduceLeDiff, Bool.false_eq_true, if_false, dLen_li, dSl_li, cut_to, cut_from, dEq_int, dNe_int, dEq_li, dNe_li, reduceIte, li_set, dNeO_str, dNeO_lst, dNeO_li, dNeO_tup, dNeO_int, dNeO_bl]
  split
  · rename_i gs he
    cases he
    exact absurd rfl (hd gs)
  · unfold defM
    simp only [sSeq, sSet, sSetC, sSetO, sRet, sIf, sNil, sFor, sStoC, sApp, sAug, sPop, sPar, sPar3, sAsgT, sRaise, sCallX, wipeS, scalB, xVar, xC, xOp, xUn, xChain, xAnd, xOr, xNot, xIf, xTru, xtAnd, xtOr, xtNot, xNil, xCons, xLst, xTup, xB, xSl, xoN, xoS, xBl, xYes, xiL, xi, xiRev, xCall, frD, on1, on2, bName, bPair, nList, nRep, nComp, dLs, dSub, dAdd_int, dCmp, dNeg, dInt, dTru, dMax, lim, lim2, List.map_cons, List.map_nil, List.length_cons, List.length_nil, List.append_eq, List.cons_append, List.nil_append, List.replicate, List.getElem?_cons_zero, List.getElem?_cons_succ, Option.join_some, Option.join_none, Option.bind_some, Option.map_some, Option.bind_none, Option.map_none, List.set_cons_succ, List.set_cons_zero, if_true, Nat.reduceAdd, Nat.reduceSub, Nat.reduceLeDiff, Bool.false_eq_true, if_false, dLen_li, dSl_li, cut_to, cut_from, dEq_int, dNe_int, dEq_li, dNe_li, reduceIte, li_set, dNeO_str, dNeO_lst, dNeO_li, dNeO_tup, dNeO_int, dNeO_bl, key]
end G7

set_option Elab.async false
set_option linter.all false
set_option maxRecDepth 100000
set_option maxHeartbeats 1000000
/-! the law's look at a curve that is made -/
namespace G7
open PySem PySem.Spec PyProof.Rows L2 Mr
theorem repr_int {i : Int} (h : i.natAbs < 1000) : ∃ x, dRepr (.int i) = some (.str x) ∧ PyData.strOk x = true := by
  obtain ⟨p, h1, h2⟩ := smB_ok (d := .int i) (decide_eq_true h)
  refine ⟨p.shown, ?_, h2.ok⟩
  unfold dRepr
  rw [h1]
  simp only [Option.bind_some]
  rw [if_pos ⟨h2.sh, h2.hd, by rw [h2.dp]; decide, by have := h2.ln; omega⟩]
theorem eqv_self : ∀ {ds : List D} {ps : List PyData}, ds.all smB = true → D.pys ds = some ps → PyData.eqvAll ps ps = true ∧ PyData.canLayAll0 ps = true ∧ PyData.depthAll ps = 0
  | [], ps, _, h => by cases h; exact ⟨rfl, rfl, rfl⟩
  | d :: ds, ps, h, hp => by
    rw [List.all_cons, Bool.and_eq_true] at h
    obtain ⟨p, h1, h2⟩ := smB_ok h.1
    unfold D.pys at hp
    rw [h1, Option.bind_some, Option.map_eq_some_iff] at hp
    obtain ⟨qs, hq, rfl⟩ := hp
    obtain ⟨g1, g2, g3⟩ := eqv_self h.2 hq
    refine ⟨?_, by simp [PyData.canLayAll0, h2.cl, g2], by simp [PyData.depthAll, h2.dp, g3]⟩
    show (PyData.eqv p p && PyData.eqvAll qs qs) = true
    rw [g1, Bool.and_true]
    cases d with
    | non => cases h1; rfl
    | bl b => cases h1; cases b <;> rfl
    | int i => cases h1; simp [PyData.eqv]
    | str _ => cases h.1
    | lst _ => cases h.1
    | tup _ => cases h.1
    | obj _ _ => cases h.1
theorem dNe_self {ds : List D} (h : ds.all smB = true) : dNe (.lst ds) (.lst ds) = some (.bl false) := by
  obtain ⟨ps, g1, _⟩ := smA_ok h
  obtain ⟨h1, h2, h3⟩ := eqv_self h g1
  have e : D.py (.lst ds) = some (.list ps) := by show (D.pys ds).map PyData.list = _; rw [g1]; rfl
  have s : SeqAt.shaped (.list ps) = true := by
    unfold SeqAt.shaped
    simp [PyData.canLay0, PyData.depth, h2, h3]
  unfold dNe dEqB
  rw [e]
  simp only [Option.bind_some, s, Bool.and_self, if_true, Option.map_some]
  show some (D.bl (!PyData.eqvAll ps ps)) = _
  rw [h1]; rfl
theorem lfA_ints : ∀ xs : List Int, lfA (xs.map D.int) = true
  | [] => rfl
  | x :: xs => by
    show (lfB (.int x) && lfA (xs.map D.int)) = true
    rw [lfA_ints xs]; rfl
theorem dEqO_crv (p : Int) (xs : List Int) (d : D) (h : (dTy d).isSome = true) : dEqO 0 m_Curve___eq__ (crv p xs) d = some (.bl false) := by
  have h1 : dIsO 0 d = some (.bl false) := by
    cases d <;> first | rfl | cases h
  unfold dEqO
  rw [if_pos (show Mr.isObj 0 (crv p xs) = true from rfl), h, Bool.true_or, if_pos rfl, eq_no h1]
  rfl
theorem dEqO_two (p q : Int) (xs ys : List Int) : dEqO 0 m_Curve___eq__ (crv p xs) (crv q ys) = some (.bl ((p == q) && (xs == ys))) := by
  unfold dEqO
  rw [if_pos (show Mr.isObj 0 (crv p xs) = true from rfl)]
  have : ((dTy (crv q ys)).isSome || Mr.isObj 0 (crv q ys)) = true := rfl
  rw [this, if_pos rfl, eq_ok]
  rfl
theorem dEqO_li (xs ys : List Int) : dEqO 0 m_Curve___eq__ (li xs) (li ys) = some (.bl (xs == ys)) := dEq_li xs ys
theorem right_good {p : Int} (hp : Pr p) {xs : List Int} (hx : Num p xs) (hl : xs.length ≤ 900) (h : m_is_curve_polynomial [.int p, li xs] = some (.ret (.bl true))) : m_Lcurve_right [.int p, li xs, .bl true] = some (.ret (.bl true)) := by
  have hs : (xs.map D.int).all smB = true := ints_sm fun x h => by have := hx x h; have := hp.le; omega
  have hs2 : (xs.map D.int ++ [D.non]).all smB = true := by rw [List.all_append, hs]; rfl
  obtain ⟨x, h1, h2⟩ := repr_lst hs (by simp; omega)
  obtain ⟨g, e1, e2⟩ := repr_int (i := ((xs.length : Int) - 2) / 2) (by omega)
  have h3 := made_ok hp h
  have h4 := dNe_str h2
  have h5 := dNe_str e2
  have h6 : lfB (crv p xs) = true := by
    show (lfB (.int p) && (lfB (.tup (xs.map D.int)) && lfA [])) = true
    show (true && (lfA (xs.map D.int) && true)) = true
    rw [lfA_ints]; rfl
  have h7 := dEqO_crv p xs (.str "wrong") rfl
  have h8 : dNone false (crv p xs) = some (.bl false) := rfl
  have h9 := q_bl false true
  have f0 : (false == true) = false := rfl
  have f1 : Mr.isObj 0 (crv p xs) = true := rfl
  have f2 : (xs.map D.int).length < 100000 := by simp; omega
  have f3 : dNe (li xs) (li xs) = some (.bl false) := by rw [dNe_li]; simp
  have f4 : dAdd (li xs) (.lst [.non]) = some (.lst (xs.map D.int ++ [.non])) := by
    show lim ((xs.map D.int).length + 1) (.lst (xs.map D.int ++ [.non])) = _
    unfold lim
    rw [if_pos (by simp; omega)]
  have f5 := dNe_self hs2
  have f6 : dNe (.int p) (.int p) = some (.bl false) := by rw [dNe_int]; simp
  have f7 : ∀ a : Int, dFdiv (.int a) (.int 2) = some (.int (a / 2)) := fun a => rfl
  have f8 : dEqO 0 m_Curve___eq__ (li xs) (li xs) = some (.bl true) := by rw [dEqO_li]; simp
  have f9 := init_ok hp h
  have f10 : dEqO 0 m_Curve___eq__ (crv p xs) (crv p xs) = some (.bl true) := by rw [dEqO_two]; simp
  have f11 := dEqO_crv p xs (li xs) rfl
  have f12 : xs.map D.int ++ [D.int 1] ≠ [] := by simp
  have f13 : (xs.map D.int ++ [D.int 1]).dropLast = xs.map D.int := by simp
  have key : bA_Lcurve_right [some (.int p), some (li xs), some (.bl true), none, none, none, none, none] = some (.rt (.bl true) [some (.int p), some (li xs), some (.bl true), some (.str x), some (crv p xs), some (.lst (xs.map D.int ++ [.non])), some (li xs), some (.bl true)]) := by
    simp only [bA_Lcurve_right, sSetL, sParN, nMeth0, xMeth0, xMake2, sSeq, sSet, sSetC, sSetO, sRet, sIf, sNil, sFor, sStoC, sApp, sAug, sPop, sPar, sPar3, sAsgT, sRaise, sCallX, wipeS, scalB, xVar, xC, xOp, xUn, xChain, xAnd, xOr, xNot, xIf, xTru, xtAnd, xtOr, xtNot, xNil, xCons, xLst, xTup, xB, xSl, xoN, xoS, xBl, xYes, xiL, xi, xiRev, xCall, frD, on1, on2, bName, bPair, nList, nRep, nComp, dLs, dSub, dAdd_int, dCmp, dNeg, dInt, dTru, dMax, lim, lim2, List.map_cons, List.map_nil, List.length_cons, List.length_nil, List.append_eq, List.cons_append, List.nil_append, List.replicate, List.getElem?_cons_zero, List.getElem?_cons_succ, Option.join_some, Option.join_none, Option.bind_some, Option.map_some, Option.bind_none, Option.map_none, List.set_cons_succ, List.set_cons_zero, if_true, Nat.reduceAdd, Nat.reduceSub, Nat.reduceLeDiff, Bool.false_eq_true, if_false, dLen_li, dSl_li, cut_to, cut_from, dEq_int, dNe_int, dEq_li, dNe_li, reduceIte, li_set, dNeO_str, dNeO_lst, dNeO_li, dNeO_tup, dNeO_int, dNeO_bl, h1, h3, h4, h6, h7, h8, h9, f0, f1, polynomialN_ok, lfA_ints, and_self, f2, polynomial_ok, f3, f4, f5, prime_ok, f6, genus_ok, f7, e1, h5, f8, f9, f10, f11, dIs, ne_eq, f12, not_false_eq_true, f13, decide_true]
  unfold m_Lcurve_right mLent
  simp only [sSeq, sSet, sSetC, sSetO, sRet, sIf, sNil, sFor, sStoC, sApp, sAug, sPop, sPar, sPar3, sAsgT, sRaise, sCallX, wipeS, scalB, xVar, xC, xOp, xUn, xChain, xAnd, xOr, xNot, xIf, xTru, xtAnd, xtOr, xtNot, xNil, xCons, xLst, xTup, xB, xSl, xoN, xoS, xBl, xYes, xiL, xi, xiRev, xCall, frD, on1, on2, bName, bPair, nList, nRep, nComp, dLs, dSub, dAdd_int, dCmp, dNeg, dInt, dTru, dMax, lim, lim2, List.map_cons, List.map_nil, List.length_cons, List.length_nil, List.append_eq, List.cons_append, List.nil_append, List.replicate, List.getElem?_cons_zero, List.getElem?_cons_succ, Option.join_some, Option.join_none, Option.bind_some, Option.map_some, Option.bind_none, Option.map_none, List.set_cons_succ, List.set_cons_zero, if_true, Nat.reduceAdd, Nat.reduceSub, Nat.reduceLeDiff, Bool.false_eq_true, if_false, dLen_li, dSl_li, cut_to, cut_from, dEq_int, dNe_int, dEq_li, dNe_li, reduceIte, li_set, dNeO_str, dNeO_lst, dNeO_li, dNeO_tup, dNeO_int, dNeO_bl]
  rw [if_pos ⟨smB_scal hs, fun i e hi he => by
    match i, he with
    | 0, he => cases he; rfl
    | 1, _ => exact absurd rfl hi
    | 2, he => cases he; rfl⟩, key]
  simp only [sSeq, sSet, sSetC, sSetO, sRet, sIf, sNil, sFor, sStoC, sApp, sAug, sPop, sPar, sPar3, sAsgT, sRaise, sCallX, wipeS, scalB, xVar, xC, xOp, xUn, xChain, xAnd, xOr, xNot, xIf, xTru, xtAnd, xtOr, xtNot, xNil, xCons, xLst, xTup, xB, xSl, xoN, xoS, xBl, xYes, xiL, xi, xiRev, xCall, frD, on1, on2, bName, bPair, nList, nRep, nComp, dLs, dSub, dAdd_int, dCmp, dNeg, dInt, dTru, dMax, lim, lim2, List.map_cons, List.map_nil, List.length_cons, List.length_nil, List.append_eq, List.cons_append, List.nil_append, List.replicate, List.getElem?_cons_zero, List.getElem?_cons_succ, Option.join_some, Option.join_none, Option.bind_some, Option.map_some, Option.bind_none, Option.map_none, List.set_cons_succ, List.set_cons_zero, if_true, Nat.reduceAdd, Nat.reduceSub, Nat.reduceLeDiff, Bool.false_eq_true, if_false, dLen_li, dSl_li, cut_to, cut_from, dEq_int, dNe_int, dEq_li, dNe_li, reduceIte, li_set, dNeO_str, dNeO_lst, dNeO_li, dNeO_tup, dNeO_int, dNeO_bl]
end G7

set_option Elab.async false
set_option linter.all false
set_option maxRecDepth 100000
set_option maxHeartbeats 1000000
/-! double factors -/
namespace G7
open PySem PySem.Spec PyProof.Rows L2 Mr
def monsL (p : Nat) : Nat → List (List Int)
  | 0 => [[]]
  | k + 1 => (monsL p k).flatMap fun one => (List.range p).map fun (n : Nat) => one ++ [(n : Int)]
def mons (p k : Nat) : List (List Int) := (monsL p k).map (· ++ [1])
theorem monsL_mem {p : Nat} : ∀ (n : Nat) (xs : List Int), xs.length = n → Num p xs → xs ∈ monsL p n
  | 0, xs, h, _ => by
    rw [List.length_eq_zero_iff.mp h]
    exact List.mem_singleton.mpr rfl
  | n + 1, xs, h, hx => by
    rcases List.eq_nil_or_concat xs with rfl | ⟨ys, c, rfl⟩
    · cases h
    · rw [List.concat_eq_append] at *
      have hc := hx c (by simp)
      have ih := monsL_mem n ys (by simpa using h) fun y hy => hx y (by simp [hy])
      refine List.mem_flatMap.mpr ⟨ys, ih, List.mem_map.mpr ⟨c.toNat, List.mem_range.mpr (by omega), ?_⟩⟩
      have : ((c.toNat : Nat) : Int) = c := by omega
      rw [this]
def remL (p : Int) (a b : List Int) : List Int := if h : b = [] then [] else remI p (invI p (b.getLast h)) a b
def sqI (p : Int) (low : List Int) : List Int := trimI ((mulI low low).map (· % p))
def dblB (p : Int) (xs : List Int) : Bool := (List.range (xs.length / 2)).any fun k => (mons p.toNat (k + 1)).any fun low => decide (2 * (k + 1) < xs.length) && (remL p xs (sqI p low) == [])

theorem divR_back {p inv : Int} (hp : 0 < p) {b : List Int} {L : Nat} : ∀ (n : Nat) (r : List Int), n + b.length ≤ r.length + 1 → n + b.length ≤ L + 1 → Num p r → ∃ qs : List Int, qs.length = n ∧ Num p qs ∧ ∀ i, r.getD i 0 = ((divR p inv b n r).getD i 0 + (mulAcc b qs 0 (List.replicate L 0)).getD i 0) % p
  | 0, r, _, _, h => ⟨[], rfl, fun _ h => (by cases h), fun i => by
    have := h.getD hp i
    show r.getD i 0 = (r.getD i 0 + (List.replicate L (0 : Int)).getD i 0) % p
    rw [getD_rep0, Int.add_zero, Int.emod_eq_of_lt this.1 this.2]⟩
  | n + 1, r, hl, hL, h => by
    obtain ⟨t, ht⟩ : ∃ t, t = r.getD (n + b.length - 1) 0 * inv % p := ⟨_, rfl⟩
    have e1 : stepAt p inv b n r = subAt p t b n r := by unfold stepAt; rw [ht]
    obtain ⟨qs, h1, h2, h3⟩ := divR_back (inv := inv) hp (b := b) (L := L) n (stepAt p inv b n r) (by rw [stepAt_len]; omega) (by omega) (actAt_num hp h (by omega))
    refine ⟨qs ++ [t], by simp [h1], Num.append h2 fun x hx => ?_, fun i => ?_⟩
    · rw [List.mem_singleton.mp hx, ht]
      exact ⟨Int.emod_nonneg _ (by omega), Int.emod_lt_of_pos _ hp⟩
    · have g := h3 i
      show r.getD i 0 = ((divR p inv b n (stepAt p inv b n r)).getD i 0 + _) % p
      rw [mulAcc_snoc, h1, Nat.zero_add, actAt_getD b n _ i (by rw [mulAcc_len]; simp; omega)]
      generalize (divR p inv b n (stepAt p inv b n r)).getD i 0 = R at *
      generalize (mulAcc b qs 0 (List.replicate L 0)).getD i 0 = M at *
      rw [e1, actAt_getD b n r i (by omega)] at g
      have hr := h.getD hp i
      by_cases q : n ≤ i ∧ i < n + b.length
      · rw [if_pos q] at g ⊢
        generalize t * b.getD (i - n) 0 = z at *
        replace g : (r.getD i 0 - z) % p = (R + M) % p := g
        show _ = (R + (M + z)) % p
        rw [← Int.add_assoc, ← Int.emod_add_emod, ← g, Int.emod_add_emod, Int.sub_add_cancel, Int.emod_eq_of_lt hr.1 hr.2]
      · rw [if_neg q] at g ⊢
        exact g
theorem rem_back {p : Int} (hp : Pr p) {a b : List Int} (ha : Pol p a) (hb : Pol p b) (hbn : b ≠ []) (hl : b.length ≤ a.length) (h : remL p a b = []) : ∃ qs : List Int, qs.length = a.length + 1 - b.length ∧ Num p qs ∧ a = trimI ((mulI qs b).map (· % p)) := by
  have h1 := Num.last hb.num hbn
  have h2 := tr_last hb.tr hbn
  have h3 := invI_ok hp (show 0 < b.getLast hbn by omega) h1.2
  unfold remL at h
  rw [dif_neg hbn, remI_eq hp.pos hbn h3 ha.num] at h
  obtain ⟨qs, g1, g2, g3⟩ := divR_back (inv := invI p (b.getLast hbn)) (b := b) (L := a.length + 1 - b.length + b.length) hp.pos (a.length + 1 - b.length) a (by omega) (by omega) ha.num
  refine ⟨qs, g1, g2, tr_eq ha.tr (trimI_tr _) fun i => ?_⟩
  have g4 : (divR p (invI p (b.getLast hbn)) b (a.length + 1 - b.length) a).getD i 0 = 0 := by rw [← trimI_getD, h]; rfl
  rw [trimI_getD, getD_map_mod, g3 i, g4, Int.zero_add]
  unfold mulI
  rw [g1]
def chk1 (p : Int) (n k : Nat) : Bool := (mons p.toNat k).all fun low => (monsL p.toNat (n + 2 - (sqI p low).length)).all fun q => decide ((trimI ((mulI q (sqI p low)).map (· % p))).getD n 0 ≠ 1) || !(simB p (trimI ((mulI q (sqI p low)).map (· % p))))
def chk2 (p : Int) (n : Nat) : Bool := (mons p.toNat n).all fun f => simB p f || dblB p f
def chkSq (p : Int) (k : Nat) : Bool := (mons p.toNat k).all fun low => decide (sqI p low ≠ []) && decide ((sqI p low).length = 2 * k + 1)
end G7

set_option Elab.async false
set_option linter.all false
set_option maxRecDepth 100000
set_option maxHeartbeats 1000000
/-! double factors, by the law's trying -/
namespace G7
open PySem PySem.Spec PyProof.Rows L2 Mr
theorem monsL_prop {p : Nat} (hp : 0 < p) : ∀ (n : Nat) (xs : List Int), xs ∈ monsL p n → xs.length = n ∧ Num p xs
  | 0, xs, h => by
    rw [List.mem_singleton.mp h]
    exact ⟨rfl, fun _ h => by cases h⟩
  | n + 1, xs, h => by
    obtain ⟨ys, h1, h2⟩ := List.mem_flatMap.mp h
    obtain ⟨c, h3, rfl⟩ := List.mem_map.mp h2
    obtain ⟨g1, g2⟩ := monsL_prop hp n ys h1
    refine ⟨by simp [g1], Num.append g2 fun x hx => ?_⟩
    rw [List.mem_singleton.mp hx]
    have := List.mem_range.mp h3
    omega
theorem mons_prop {p : Nat} (hp : 1 < p) {n : Nat} {xs : List Int} (h : xs ∈ mons p n) : xs.length = n + 1 ∧ Num p xs := by
  obtain ⟨ys, h1, rfl⟩ := List.mem_map.mp h
  obtain ⟨g1, g2⟩ := monsL_prop (by omega) n ys h1
  refine ⟨by simp [g1], Num.append g2 fun x hx => ?_⟩
  rw [List.mem_singleton.mp hx]
  omega
theorem mon31 : m_Lmonics [.int 3, .int 1] = some (.ret (.lst ((mons 3 1).map li))) := by kernel_rfl
theorem mon32 : m_Lmonics [.int 3, .int 2] = some (.ret (.lst ((mons 3 2).map li))) := by kernel_rfl
theorem mon33 : m_Lmonics [.int 3, .int 3] = some (.ret (.lst ((mons 3 3).map li))) := by kernel_rfl
theorem mon51 : m_Lmonics [.int 5, .int 1] = some (.ret (.lst ((mons 5 1).map li))) := by kernel_rfl
theorem mon52 : m_Lmonics [.int 5, .int 2] = some (.ret (.lst ((mons 5 2).map li))) := by kernel_rfl
theorem mon53 : m_Lmonics [.int 5, .int 3] = some (.ret (.lst ((mons 5 3).map li))) := by kernel_rfl
theorem monics_ok {p : Int} (hp : p = 3 ∨ p = 5) {i : Nat} (hi : i < 3) : m_Lmonics [.int p, .int ((1 : Int) + (i : Nat))] = some (.ret (.lst ((mons p.toNat (i + 1)).map li))) := by
  rcases hp with rfl | rfl
  · match i, hi with
    | 0, _ => exact mon31
    | 1, _ => exact mon32
    | 2, _ => exact mon33
  · match i, hi with
    | 0, _ => exact mon51
    | 1, _ => exact mon52
    | 2, _ => exact mon53
theorem sq_all : chkSq 3 1 = true ∧ chkSq 3 2 = true ∧ chkSq 3 3 = true ∧ chkSq 5 1 = true ∧ chkSq 5 2 = true ∧ chkSq 5 3 = true := by decide +kernel
theorem sq_ok {p : Int} (hp : p = 3 ∨ p = 5) {i : Nat} (hi : i < 3) {low : List Int} (h : low ∈ mons p.toNat (i + 1)) : sqI p low ≠ [] ∧ (sqI p low).length = 2 * (i + 1) + 1 := by
  have key : chkSq p (i + 1) = true := by
    obtain ⟨a1, a2, a3, a4, a5, a6⟩ := sq_all
    rcases hp with rfl | rfl
    · match i, hi with
      | 0, _ => exact a1
      | 1, _ => exact a2
      | 2, _ => exact a3
    · match i, hi with
      | 0, _ => exact a4
      | 1, _ => exact a5
      | 2, _ => exact a6
  have := List.all_eq_true.mp key low h
  simpa using this
def dIn2 : S → Option Out := (sIf (xtAnd (xBl (xOp (dCmp pLt) (xOp dMul (xC (.int 2)) (xVar 2)) (xB (on1 dLen) (xCons (xVar 1) xNil)))) (xBl (xOp (dEq) (xCall m_Lrest (xCons (xVar 0) (xCons (xVar 1) (xCons (xCall m_Ltimes (xCons (xVar 0) (xCons (xVar 3) (xCons (xVar 3) xNil)))) xNil)))) (xLst xNil)))) (sRet [] (xC (.bl true))) sNil)
def dOut2 : S → Option Out := (sFor [] (xiL (xCall m_Lmonics (xCons (xVar 0) (xCons (xVar 2) xNil)))) (bName 3) dIn2)
theorem b_double_eq : b_Lis_double = (sSeq (sFor [] (xi dRng2 (xCons (xC (.int 1)) (xCons (xOp dAdd (xOp dFdiv (xB (on1 dLen) (xCons (xVar 1) xNil)) (xC (.int 2))) (xC (.int 1))) xNil))) (bName 2) dOut2) (sRet [] (xC (.bl false)))) := rfl
def tLow (p : Int) (xs : List Int) (i : Nat) (low : List Int) : Bool := decide (2 * (i + 1) < xs.length) && (remL p xs (sqI p low) == [])
theorem sq_pol {p : Int} (hp : 0 < p) (low : List Int) : Pol p (sqI p low) := ⟨Num.trim hp (num_mod hp _), trimI_tr _⟩
theorem din2_ok {p : Int} (hp : p = 3 ∨ p = 5) {xs : List Int} (hx : Pol p xs) (hl : xs.length ≤ 1000) {i : Nat} (hi : i < 3) {low : List Int} (h : low ∈ mons p.toNat (i + 1)) : dIn2 [some (.int p), some (li xs), some (.int ((1 : Int) + (i : Nat))), some (li low)] = (if tLow p xs i low = true then some (.rt (.bl true) [some (.int p), some (li xs), some (.int ((1 : Int) + (i : Nat))), some (li low)]) else some (.nx [some (.int p), some (li xs), some (.int ((1 : Int) + (i : Nat))), some (li low)])) := by
  have hP : Pr p := by rcases hp with rfl | rfl; exact .inl rfl; exact .inr (.inl rfl)
  obtain ⟨h1, h2⟩ := mons_prop (p := p.toNat) (by have := hP.ge; omega) h
  have hpp : ((p.toNat : Nat) : Int) = p := by have := hP.pos; omega
  rw [hpp] at h2
  obtain ⟨h3, h4⟩ := sq_ok hp hi h
  have e1 := Ltimes_ok hP.pos (a := low) (b := low) (Num.sm hP h2) (by omega) (by omega)
  have e2 := Lrest_ok hP hx (sq_pol hP.pos low) h3 (by omega) (by omega)
  unfold sqI at e2
  have e3 : dEq (li (remI p (invI p ((sqI p low).getLast h3)) xs (sqI p low))) (.lst []) = _ := dEq_li _ []
  have e4 : remL p xs (sqI p low) = remI p (invI p ((sqI p low).getLast h3)) xs (sqI p low) := by unfold remL; rw [dif_neg h3]
  unfold sqI at e3
  have e5 : dMul (.int 2) (.int ((1 : Int) + (i : Nat))) = _ := dMul_int (cmul_l (by decide) (by decide))
  have e6 : pLt (2 * ((1 : Int) + (i : Nat))) (xs.length : Int) = decide (2 * (i + 1) < xs.length) := by
    show decide _ = decide _
    congr 1
    apply propext
    omega
  unfold tLow
  rw [e4]
  unfold sqI
  cases hc : decide (2 * (i + 1) < xs.length) with
  | false =>
    simp only [dIn2, sSeq, sSet, sSetC, sSetO, sRet, sIf, sNil, sFor, sStoC, sApp, sAug, sPop, sPar, sPar3, sAsgT, sRaise, sCallX, wipeS, scalB, xVar, xC, xOp, xUn, xChain, xAnd, xOr, xNot, xIf, xTru, xtAnd, xtOr, xtNot, xNil, xCons, xLst, xTup, xB, xSl, xoN, xoS, xBl, xYes, xiL, xi, xiRev, xCall, frD, on1, on2, bName, bPair, nList, nRep, nComp, dLs, dSub, dAdd_int, dCmp, dNeg, dInt, dTru, dMax, lim, lim2, List.map_cons, List.map_nil, List.length_cons, List.length_nil, List.append_eq, List.cons_append, List.nil_append, List.replicate, List.getElem?_cons_zero, List.getElem?_cons_succ, Option.join_some, Option.join_none, Option.bind_some, Option.map_some, Option.bind_none, Option.map_none, List.set_cons_succ, List.set_cons_zero, if_true, Nat.reduceAdd, Nat.reduceSub, Nat.reduceLeDiff, Bool.false_eq_true, if_false, dLen_li, dSl_li, cut_to, cut_from, dEq_int, dNe_int, dEq_li, dNe_li, reduceIte, li_set, dNeO_str, dNeO_lst, dNeO_li, dNeO_tup, dNeO_int, dNeO_bl, e5, e6, hc, Bool.false_and]
  | true =>
    simp only [dIn2, sSeq, sSet, sSetC, sSetO, sRet, sIf, sNil, sFor, sStoC, sApp, sAug, sPop, sPar, sPar3, sAsgT, sRaise, sCallX, wipeS, scalB, xVar, xC, xOp, xUn, xChain, xAnd, xOr, xNot, xIf, xTru, xtAnd, xtOr, xtNot, xNil, xCons, xLst, xTup, xB, xSl, xoN, xoS, xBl, xYes, xiL, xi, xiRev, xCall, frD, on1, on2, bName, bPair, nList, nRep, nComp, dLs, dSub, dAdd_int, dCmp, dNeg, dInt, dTru, dMax, lim, lim2, List.map_cons, List.map_nil, List.length_cons, List.length_nil, List.append_eq, List.cons_append, List.nil_append, List.replicate, List.getElem?_cons_zero, List.getElem?_cons_succ, Option.join_some, Option.join_none, Option.bind_some, Option.map_some, Option.bind_none, Option.map_none, List.set_cons_succ, List.set_cons_zero, if_true, Nat.reduceAdd, Nat.reduceSub, Nat.reduceLeDiff, Bool.false_eq_true, if_false, dLen_li, dSl_li, cut_to, cut_from, dEq_int, dNe_int, dEq_li, dNe_li, reduceIte, li_set, dNeO_str, dNeO_lst, dNeO_li, dNeO_tup, dNeO_int, dNeO_bl, e5, e6, hc, e1, e2, e3, Nat.zero_le, Bool.true_and]
theorem dRng2_int {i j : Int} (h : i ≤ 100000 ∧ -100000 ≤ i ∧ j ≤ 100000 ∧ -100000 ≤ j) : dRng2 [.int i, .int j] = some (dRng i (j - i).toNat) := by
  show (if i ≤ 100000 ∧ -100000 ≤ i ∧ j ≤ 100000 ∧ -100000 ≤ j then _ else _) = _
  rw [if_pos h]
theorem is_double_ok {p : Int} (hp : p = 3 ∨ p = 5) {xs : List Int} (hx : Pol p xs) (hl : xs.length < 8) : m_Lis_double [.int p, li xs] = some (.ret (.bl (dblB p xs))) := by
  have e1 : dFdiv (.int (xs.length : Int)) (.int 2) = some (.int ((xs.length : Int) / 2)) := rfl
  have e2 : dRng2 [.int 1, .int ((xs.length : Int) / 2 + 1)] = some ((List.range (xs.length / 2)).map fun i => D.int ((1 : Int) + (i : Nat))) := by
    rw [dRng2_int (by omega)]
    have : ((xs.length : Int) / 2 + 1 - 1).toNat = xs.length / 2 := by omega
    simp only [this, dRng]
  have inner : ∀ i, i < 3 → ∀ x3, if (mons p.toNat (i + 1)).any (tLow p xs i) = true then ∃ s', dOut2 [some (.int p), some (li xs), some (.int ((1 : Int) + (i : Nat))), x3] = some (.rt (.bl true) s') else ∃ y, dOut2 [some (.int p), some (li xs), some (.int ((1 : Int) + (i : Nat))), x3] = some (.nx [some (.int p), some (li xs), some (.int ((1 : Int) + (i : Nat))), y]) := fun i hi x3 => by
    have hm := monics_ok hp hi
    have e : dOut2 [some (.int p), some (li xs), some (.int ((1 : Int) + (i : Nat))), x3] = Mr.forM (bName 3) dIn2 ((mons p.toNat (i + 1)).map li) [some (.int p), some (li xs), some (.int ((1 : Int) + (i : Nat))), x3] := by
      simp only [dOut2, sSeq, sSet, sSetC, sSetO, sRet, sIf, sNil, sFor, sStoC, sApp, sAug, sPop, sPar, sPar3, sAsgT, sRaise, sCallX, wipeS, scalB, xVar, xC, xOp, xUn, xChain, xAnd, xOr, xNot, xIf, xTru, xtAnd, xtOr, xtNot, xNil, xCons, xLst, xTup, xB, xSl, xoN, xoS, xBl, xYes, xiL, xi, xiRev, xCall, frD, on1, on2, bName, bPair, nList, nRep, nComp, dLs, dSub, dAdd_int, dCmp, dNeg, dInt, dTru, dMax, lim, lim2, List.map_cons, List.map_nil, List.length_cons, List.length_nil, List.append_eq, List.cons_append, List.nil_append, List.replicate, List.getElem?_cons_zero, List.getElem?_cons_succ, Option.join_some, Option.join_none, Option.bind_some, Option.map_some, Option.bind_none, Option.map_none, List.set_cons_succ, List.set_cons_zero, if_true, Nat.reduceAdd, Nat.reduceSub, Nat.reduceLeDiff, Bool.false_eq_true, if_false, dLen_li, dSl_li, cut_to, cut_from, dEq_int, dNe_int, dEq_li, dNe_li, reduceIte, li_set, dNeO_str, dNeO_lst, dNeO_li, dNeO_tup, dNeO_int, dNeO_bl, hm]
    have f := forM_find (bind := bName 3) (b := dIn2) (g := li) (t := tLow p xs i) (d := .bl true) (fun s => ∃ y, s = [some (.int p), some (li xs), some (.int ((1 : Int) + (i : Nat))), y]) (xs := mons p.toNat (i + 1)) (s := [some (.int p), some (li xs), some (.int ((1 : Int) + (i : Nat))), x3]) ⟨x3, rfl⟩ (fun low hlow s ⟨y, hs⟩ => by
      subst hs
      refine ⟨_, rfl, ?_⟩
      have := din2_ok hp hx (by omega) hi hlow
      show if tLow p xs i low = true then ∃ s2, dIn2 [some (.int p), some (li xs), some (.int ((1 : Int) + (i : Nat))), some (li low)] = _ else ∃ s2, dIn2 [some (.int p), some (li xs), some (.int ((1 : Int) + (i : Nat))), some (li low)] = _ ∧ _
      rw [this]
      split
      · exact ⟨_, rfl⟩
      · exact ⟨_, rfl, _, rfl⟩)
    rw [e]
    split
    · rename_i q
      rw [if_pos q] at f
      exact f
    · rename_i q
      rw [if_neg q] at f
      obtain ⟨s', f1, y, rfl⟩ := f
      exact ⟨y, f1⟩
  have f := forM_find (bind := bName 2) (b := dOut2) (g := fun i : Nat => D.int ((1 : Int) + (i : Nat))) (t := fun i => (mons p.toNat (i + 1)).any (tLow p xs i)) (d := .bl true) (fun s => ∃ x y, s = [some (.int p), some (li xs), x, y]) (xs := List.range (xs.length / 2)) (s := [some (.int p), some (li xs), none, none]) ⟨none, none, rfl⟩ (fun i hi s ⟨x, y, hs⟩ => by
    subst hs
    have hi := List.mem_range.mp hi
    refine ⟨_, rfl, ?_⟩
    have g := inner i (by omega) y
    split
    · rename_i q
      rw [if_pos q] at g
      exact g
    · rename_i q
      rw [if_neg q] at g
      obtain ⟨z, g⟩ := g
      exact ⟨_, g, _, _, rfl⟩)
  have hd : dblB p xs = (List.range (xs.length / 2)).any fun i => (mons p.toNat (i + 1)).any (tLow p xs i) := rfl
  rw [hd]
  unfold m_Lis_double defM
  cases hq : (List.range (xs.length / 2)).any fun i => (mons p.toNat (i + 1)).any (tLow p xs i) with
  | true =>
    rw [hq, if_pos rfl] at f
    obtain ⟨s', f⟩ := f
    simp only [b_double_eq, sSeq, sSet, sSetC, sSetO, sRet, sIf, sNil, sFor, sStoC, sApp, sAug, sPop, sPar, sPar3, sAsgT, sRaise, sCallX, wipeS, scalB, xVar, xC, xOp, xUn, xChain, xAnd, xOr, xNot, xIf, xTru, xtAnd, xtOr, xtNot, xNil, xCons, xLst, xTup, xB, xSl, xoN, xoS, xBl, xYes, xiL, xi, xiRev, xCall, frD, on1, on2, bName, bPair, nList, nRep, nComp, dLs, dSub, dAdd_int, dCmp, dNeg, dInt, dTru, dMax, lim, lim2, List.map_cons, List.map_nil, List.length_cons, List.length_nil, List.append_eq, List.cons_append, List.nil_append, List.replicate, List.getElem?_cons_zero, List.getElem?_cons_succ, Option.join_some, Option.join_none, Option.bind_some, Option.map_some, Option.bind_none, Option.map_none, List.set_cons_succ, List.set_cons_zero, if_true, Nat.reduceAdd, Nat.reduceSub, Nat.reduceLeDiff, Bool.false_eq_true, if_false, dLen_li, dSl_li, cut_to, cut_from, dEq_int, dNe_int, dEq_li, dNe_li, reduceIte, li_set, dNeO_str, dNeO_lst, dNeO_li, dNeO_tup, dNeO_int, dNeO_bl, e1, e2, f]
  | false =>
    rw [hq, if_neg (by decide)] at f
    obtain ⟨s', f, x, y, rfl⟩ := f
    simp only [b_double_eq, sSeq, sSet, sSetC, sSetO, sRet, sIf, sNil, sFor, sStoC, sApp, sAug, sPop, sPar, sPar3, sAsgT, sRaise, sCallX, wipeS, scalB, xVar, xC, xOp, xUn, xChain, xAnd, xOr, xNot, xIf, xTru, xtAnd, xtOr, xtNot, xNil, xCons, xLst, xTup, xB, xSl, xoN, xoS, xBl, xYes, xiL, xi, xiRev, xCall, frD, on1, on2, bName, bPair, nList, nRep, nComp, dLs, dSub, dAdd_int, dCmp, dNeg, dInt, dTru, dMax, lim, lim2, List.map_cons, List.map_nil, List.length_cons, List.length_nil, List.append_eq, List.cons_append, List.nil_append, List.replicate, List.getElem?_cons_zero, List.getElem?_cons_succ, Option.join_some, Option.join_none, Option.bind_some, Option.map_some, Option.bind_none, Option.map_none, List.set_cons_succ, List.set_cons_zero, if_true, Nat.reduceAdd, Nat.reduceSub, Nat.reduceLeDiff, Bool.false_eq_true, if_false, dLen_li, dSl_li, cut_to, cut_from, dEq_int, dNe_int, dEq_li, dNe_li, reduceIte, li_set, dNeO_str, dNeO_lst, dNeO_li, dNeO_tup, dNeO_int, dNeO_bl, e1, e2, f]

/-! ### the finite look -/
theorem all_chunks {α : Type} {f : α → Bool} {l : List α} {k m : Nat} (hk : 0 < k) (hl : l.length ≤ k * m) (h : ∀ c, c < m → ((l.drop (k * c)).take k).all f = true) : l.all f = true := by
  rw [List.all_eq_true]
  intro x hx
  obtain ⟨i, hi, rfl⟩ := List.mem_iff_getElem.mp hx
  have hc : i / k < m := Nat.div_lt_of_lt_mul (by omega)
  refine List.all_eq_true.mp (h (i / k) hc) _ ?_
  have e := Nat.div_add_mod i k
  have e2 := Nat.mod_lt i hk
  refine List.mem_iff_getElem.mpr ⟨i % k, by rw [List.length_take, List.length_drop]; omega, ?_⟩
  rw [List.getElem_take, List.getElem_drop]
  congr 1
def f2 (p : Int) (f : List Int) : Bool := simB p f || dblB p f
theorem c31 : chk2 3 1 = true := by decide +kernel
theorem c33 : chk2 3 3 = true := by decide +kernel
theorem c35 : chk2 3 5 = true := by decide +kernel
theorem c51 : chk2 5 1 = true := by decide +kernel
theorem c53 : chk2 5 3 = true := by decide +kernel
theorem c55_0 : (((mons 5 5).drop (625 * 0)).take 625).all (f2 5) = true := by decide +kernel
theorem c55_1 : (((mons 5 5).drop (625 * 1)).take 625).all (f2 5) = true := by decide +kernel
theorem c55_2 : (((mons 5 5).drop (625 * 2)).take 625).all (f2 5) = true := by decide +kernel
theorem c55_3 : (((mons 5 5).drop (625 * 3)).take 625).all (f2 5) = true := by decide +kernel
theorem c55_4 : (((mons 5 5).drop (625 * 4)).take 625).all (f2 5) = true := by decide +kernel
theorem c55_l : (mons 5 5).length = 3125 := by decide +kernel
theorem c55 : chk2 5 5 = true := all_chunks (k := 625) (m := 5) (by decide) (by rw [show (mons (5 : Int).toNat 5) = mons 5 5 from rfl, c55_l]; decide) fun c hc => by
  match c, hc with
  | 0, _ => exact c55_0
  | 1, _ => exact c55_1
  | 2, _ => exact c55_2
  | 3, _ => exact c55_3
  | 4, _ => exact c55_4
theorem d331 : chk1 3 3 1 = true := by decide +kernel
theorem d351 : chk1 3 5 1 = true := by decide +kernel
theorem d352 : chk1 3 5 2 = true := by decide +kernel
theorem d531 : chk1 5 3 1 = true := by decide +kernel
theorem d551 : chk1 5 5 1 = true := by decide +kernel
theorem d552 : chk1 5 5 2 = true := by decide +kernel
theorem chk2_ok {p : Int} (hp : p = 3 ∨ p = 5) {n : Nat} (hn : n = 1 ∨ n = 3 ∨ n = 5) : chk2 p n = true := by
  rcases hp with rfl | rfl <;> rcases hn with rfl | rfl | rfl
  · exact c31
  · exact c33
  · exact c35
  · exact c51
  · exact c53
  · exact c55
theorem chk1_ok {p : Int} (hp : p = 3 ∨ p = 5) {n k : Nat} (hn : n = 1 ∨ n = 3 ∨ n = 5) (hk : 0 < k) (h : 2 * k < n + 1) : chk1 p n k = true := by
  have hkk : (n = 3 ∧ k = 1) ∨ (n = 5 ∧ k = 1) ∨ (n = 5 ∧ k = 2) := by omega
  rcases hp with rfl | rfl <;> rcases hkk with ⟨rfl, rfl⟩ | ⟨rfl, rfl⟩ | ⟨rfl, rfl⟩
  · exact d331
  · exact d351
  · exact d352
  · exact d531
  · exact d551
  · exact d552
theorem simple_double {p : Int} (hp : p = 3 ∨ p = 5) {n : Nat} (hn : n = 1 ∨ n = 3 ∨ n = 5) {ds : List Int} (hd : ds.length = n) (hx : Num p ds) : (simB p (ds ++ [1]) == dblB p (ds ++ [1])) = false := by
  have hP : Pr p := by rcases hp with rfl | rfl; exact .inl rfl; exact .inr (.inl rfl)
  have hpp : ((p.toNat : Nat) : Int) = p := by have := hP.pos; omega
  have hpol : Pol p (ds ++ [1]) := ⟨Num.append hx fun x h => by rw [List.mem_singleton.mp h]; have := hP.ge; omega, tr_snoc (by decide)⟩
  have hmem : ds ++ [1] ∈ mons p.toNat n := List.mem_map.mpr ⟨ds, monsL_mem n ds hd (by rw [hpp]; exact hx), rfl⟩
  have h1 := List.all_eq_true.mp (chk2_ok hp hn) _ hmem
  cases hs : simB p (ds ++ [1]) with
  | false =>
    rw [hs, Bool.false_or] at h1
    rw [h1]; rfl
  | true =>
    cases hq : dblB p (ds ++ [1]) with
    | false => rfl
    | true =>
      exfalso
      obtain ⟨i, hi, h2⟩ := List.any_eq_true.mp hq
      obtain ⟨low, hlow, h3⟩ := List.any_eq_true.mp h2
      rw [Bool.and_eq_true, decide_eq_true_eq] at h3
      obtain ⟨h3, h4⟩ := h3
      have hlen : (ds ++ [1]).length = n + 1 := by simp [hd]
      rw [hlen] at h3 hi
      have hi := List.mem_range.mp hi
      have hi3 : i < 3 := by omega
      obtain ⟨g1, g2⟩ := sq_ok hp hi3 hlow
      obtain ⟨qs, q1, q2, q3⟩ := rem_back hP hpol (sq_pol hP.pos low) g1 (by omega) (eq_of_beq h4)
      have h5 := List.all_eq_true.mp (chk1_ok hp hn (k := i + 1) (by omega) h3) low hlow
      have h6 := List.all_eq_true.mp h5 qs (monsL_mem _ qs (by rw [q1, hlen]) (by rw [hpp]; exact q2))
      rw [← q3, hs] at h6
      have h7 : (ds ++ [1]).getD n 0 = 1 := by rw [getD_snoc, if_neg (by omega), if_pos hd.symm]
      rw [h7] at h6
      exact absurd h6 (by decide)
end G7

set_option Elab.async false
set_option linter.all false
set_option maxRecDepth 100000
set_option maxHeartbeats 1000000
/-! values of polynomials and of their slopes -/
namespace G7
open PySem PySem.Spec PyProof.Rows L2 Mr
def ev (x : Int) : List Int → Int
  | [] => 0
  | c :: cs => c + x * ev x cs
def dv (x : Int) : List Int → Int
  | [] => 0
  | c :: cs => ev x cs + x * dv x cs
def dp (x : Int) : Nat → Int
  | 0 => 0
  | n + 1 => x ^ n + x * dp x n
theorem ev_set (x v : Int) : ∀ (r : List Int) (n : Nat), n < r.length → ev x (r.set n v) = ev x r + x ^ n * (v - r.getD n 0)
  | [], n, h => by cases h
  | c :: r, 0, _ => by simp [ev]; omega
  | c :: r, n + 1, h => by
    have ih := ev_set x v r n (by simpa using h)
    have e : (c :: r).getD (n + 1) 0 = r.getD n 0 := by simp
    rw [e]
    simp only [List.set_cons_succ, ev, ih]
    grind
theorem dv_set (x v : Int) : ∀ (r : List Int) (n : Nat), n < r.length → dv x (r.set n v) = dv x r + dp x n * (v - r.getD n 0)
  | [], n, h => by cases h
  | c :: r, 0, _ => by simp [dv, dp]
  | c :: r, n + 1, h => by
    have ih := dv_set x v r n (by simpa using h)
    have ih2 := ev_set x v r n (by simpa using h)
    have e : (c :: r).getD (n + 1) 0 = r.getD n 0 := by simp
    rw [e]
    simp only [List.set_cons_succ, dv, ih, ih2, dp]
    grind
theorem ev_addAt (x t : Int) : ∀ (b : List Int) (n : Nat) (r : List Int), n + b.length ≤ r.length → ev x (addAt t b n r) = ev x r + t * x ^ n * ev x b
  | [], n, r, _ => by simp [actAt, ev]
  | c :: cs, n, r, h => by
    rw [List.length_cons] at h
    have ih := ev_addAt x t cs (n + 1) (r.set n (r.getD n 0 + t * c)) (by rw [List.length_set]; omega)
    show ev x (addAt t cs (n + 1) (r.set n (r.getD n 0 + t * c))) = _
    rw [ih, ev_set x _ r n (by omega)]
    simp only [ev]
    grind
theorem dv_addAt (x t : Int) : ∀ (b : List Int) (n : Nat) (r : List Int), n + b.length ≤ r.length → dv x (addAt t b n r) = dv x r + t * (dp x n * ev x b + x ^ n * dv x b)
  | [], n, r, _ => by simp [actAt, ev, dv]
  | c :: cs, n, r, h => by
    rw [List.length_cons] at h
    have ih := dv_addAt x t cs (n + 1) (r.set n (r.getD n 0 + t * c)) (by rw [List.length_set]; omega)
    show dv x (addAt t cs (n + 1) (r.set n (r.getD n 0 + t * c))) = _
    rw [ih, dv_set x _ r n (by omega)]
    simp only [ev, dv, dp]
    grind
theorem ev_mulAcc (x : Int) (b : List Int) : ∀ (a : List Int) (n : Nat) (r : List Int), n + a.length + b.length ≤ r.length + 1 → ev x (mulAcc b a n r) = ev x r + x ^ n * ev x a * ev x b
  | [], n, r, _ => by simp [mulAcc, ev]
  | t :: ts, n, r, h => by
    rw [List.length_cons] at h
    have ih := ev_mulAcc x b ts (n + 1) (addAt t b n r) (by rw [actAt_len]; omega)
    show ev x (mulAcc b ts (n + 1) (addAt t b n r)) = _
    rw [ih, ev_addAt x t b n r (by omega)]
    simp only [ev]
    grind
theorem dv_mulAcc (x : Int) (b : List Int) : ∀ (a : List Int) (n : Nat) (r : List Int), n + a.length + b.length ≤ r.length + 1 → dv x (mulAcc b a n r) = dv x r + (dp x n * ev x a + x ^ n * dv x a) * ev x b + x ^ n * ev x a * dv x b
  | [], n, r, _ => by simp [mulAcc, ev, dv]
  | t :: ts, n, r, h => by
    rw [List.length_cons] at h
    have ih := dv_mulAcc x b ts (n + 1) (addAt t b n r) (by rw [actAt_len]; omega)
    show dv x (mulAcc b ts (n + 1) (addAt t b n r)) = _
    rw [ih, dv_addAt x t b n r (by omega)]
    simp only [ev, dv, dp]
    grind
theorem ev_zeros (x : Int) (n : Nat) : ev x (List.replicate n 0) = 0 := by
  induction n with
  | zero => rfl
  | succ n ih => rw [List.replicate_succ]; simp [ev, ih]
theorem dv_zeros (x : Int) (n : Nat) : dv x (List.replicate n 0) = 0 := by
  induction n with
  | zero => rfl
  | succ n ih => rw [List.replicate_succ]; simp [dv, ih, ev_zeros]
theorem ev_mulI (x : Int) (a b : List Int) : ev x (mulI a b) = ev x a * ev x b := by
  unfold mulI
  rw [ev_mulAcc x b a 0 _ (by simp), ev_zeros]
  simp
theorem dv_mulI (x : Int) (a b : List Int) : dv x (mulI a b) = dv x a * ev x b + ev x a * dv x b := by
  unfold mulI
  rw [dv_mulAcc x b a 0 _ (by simp), dv_zeros]
  simp [dp]
theorem ev_trim (x : Int) : ∀ xs : List Int, ev x (trimI xs) = ev x xs
  | [] => rfl
  | c :: cs => by
    have ih := ev_trim x cs
    by_cases h : trimI cs = []
    · rw [trimI_cons_nil h]
      rw [h] at ih
      by_cases hc : c = 0
      · rw [if_pos hc]; simp only [ev, ← ih]; simp [ev, hc]
      · rw [if_neg hc]; simp only [ev, ← ih]
    · rw [trimI_cons_ne h]; simp only [ev, ih]
theorem dv_trim (x : Int) : ∀ xs : List Int, dv x (trimI xs) = dv x xs
  | [] => rfl
  | c :: cs => by
    have ih := dv_trim x cs
    have ih2 := ev_trim x cs
    by_cases h : trimI cs = []
    · rw [trimI_cons_nil h]
      rw [h] at ih ih2
      by_cases hc : c = 0
      · rw [if_pos hc]; simp only [dv, ← ih, ← ih2]; simp [ev, dv]
      · rw [if_neg hc]; simp only [dv, ← ih, ← ih2]
    · rw [trimI_cons_ne h]; simp only [dv, ih, ih2]
theorem ev_mod (x p : Int) : ∀ xs : List Int, ∃ k, ev x (xs.map (· % p)) = ev x xs + p * k
  | [] => ⟨0, by simp [ev]⟩
  | c :: cs => by
    obtain ⟨k, h⟩ := ev_mod x p cs
    refine ⟨x * k - c / p, ?_⟩
    have := Int.emod_add_mul_ediv c p
    simp only [List.map_cons, ev, h]
    grind
theorem dv_mod (x p : Int) : ∀ xs : List Int, ∃ k, dv x (xs.map (· % p)) = dv x xs + p * k
  | [] => ⟨0, by simp [dv]⟩
  | c :: cs => by
    obtain ⟨k, h⟩ := dv_mod x p cs
    obtain ⟨j, h2⟩ := ev_mod x p cs
    refine ⟨x * k + j, ?_⟩
    simp only [List.map_cons, dv, h, h2]
    grind
theorem ev_subAt (x p t : Int) : ∀ (b : List Int) (n : Nat) (r : List Int), n + b.length ≤ r.length → ∃ k, ev x (subAt p t b n r) = ev x r - t * x ^ n * ev x b + p * k
  | [], n, r, _ => ⟨0, by simp [actAt, ev]⟩
  | c :: cs, n, r, h => by
    rw [List.length_cons] at h
    obtain ⟨k, ih⟩ := ev_subAt x p t cs (n + 1) (r.set n ((r.getD n 0 - t * c) % p)) (by rw [List.length_set]; omega)
    have e := Int.emod_add_mul_ediv (r.getD n 0 - t * c) p
    refine ⟨k - x ^ n * ((r.getD n 0 - t * c) / p), ?_⟩
    show ev x (subAt p t cs (n + 1) (r.set n ((r.getD n 0 - t * c) % p))) = _
    rw [ih, ev_set x _ r n (by omega)]
    simp only [ev]
    grind
theorem ev_divR {x p inv : Int} {b : List Int} (hb : p ∣ ev x b) : ∀ (n : Nat) (r : List Int), n + b.length ≤ r.length + 1 → p ∣ ev x r → p ∣ ev x (divR p inv b n r)
  | 0, r, _, h => h
  | n + 1, r, hl, h => by
    refine ev_divR hb n _ (by rw [stepAt_len]; omega) ?_
    unfold stepAt
    obtain ⟨k, e⟩ := ev_subAt x p (r.getD (n + b.length - 1) 0 * inv % p) b n r (by omega)
    rw [e]
    obtain ⟨j, hj⟩ := hb
    obtain ⟨i, hi⟩ := h
    exact ⟨i - (r.getD (n + b.length - 1) 0 * inv % p) * x ^ n * j + k, by rw [hj, hi]; grind⟩
theorem ev_rem {x p inv : Int} (hp : 0 < p) {a b : List Int} (hb : b ≠ []) (hinv : (b.getLast hb * inv) % p = 1) (ha : Num p a) (h1 : p ∣ ev x a) (h2 : p ∣ ev x b) : p ∣ ev x (remI p inv a b) := by
  rw [remI_eq hp hb hinv ha, ev_trim]
  by_cases q : b.length ≤ a.length + 1
  · exact ev_divR h2 _ _ (by omega) h1
  · have : a.length + 1 - b.length = 0 := by omega
    rw [this]; exact h1
theorem ev_gcd {x p : Int} (hp : Pr p) : ∀ (n : Nat) (a b : List Int), Pol p a → Pol p b → p ∣ ev x a → p ∣ ev x b → p ∣ ev x (gcdL p n a b)
  | 0, a, b, _, _, h, _ => h
  | n + 1, a, b, ha, hb, h1, h2 => by
    by_cases q : b = []
    · subst q; rw [gcdL_nil]; exact h1
    · rw [gcdL_step q]
      have g1 := Num.last hb.num q
      have g2 := tr_last hb.tr q
      have g3 := invI_ok hp (show 0 < b.getLast q by omega) g1.2
      exact ev_gcd hp n b _ hb (pol_rem hp.pos q ha.num) h2 (ev_rem hp.pos q g3 ha.num h1 h2)
/-- a place at which a polynomial and its slope are nought -/
theorem simB_no {x p : Int} (hp : Pr p) {f : List Int} (hf : Pol p f) (hn : f ≠ []) (h1 : p ∣ ev x f) (h2 : p ∣ ev x (slI p f)) : simB p f = false := by
  rw [simB_len hp hf hn]
  obtain ⟨g1, g2⟩ := gcdL_pol hp.pos (slI p f).length f (slI p f) hf (slI_pol hp.pos f) hn
  have g3 := ev_gcd hp (slI p f).length f (slI p f) hf (slI_pol hp.pos f) h1 h2
  generalize gcdL p (slI p f).length f (slI p f) = g at *
  rw [beq_eq_false_iff_ne]
  intro e
  obtain ⟨c, rfl⟩ := List.length_eq_one_iff.mp e
  have hc := g1.num c (by simp)
  have hc2 := tr_last g1.tr g2
  simp only [List.getLast_singleton] at hc2
  simp only [ev, Int.mul_zero, Int.add_zero] at g3
  have := Int.le_of_dvd (by omega) g3
  omega
theorem ev_idx (x : Int) : ∀ (xs : List Int) (k : Int), ev x (xs.mapIdx fun i c => ((i : Int) + k) * c) = k * ev x xs + x * dv x xs
  | [], k => by simp [ev, dv]
  | c :: cs, k => by
    have ih := ev_idx x cs (k + 1)
    have e : (fun (i : Nat) (c : Int) => (((i + 1 : Nat) : Int) + k) * c) = fun (i : Nat) (c : Int) => ((i : Int) + (k + 1)) * c := by
      funext i c
      grind
    rw [List.mapIdx_cons]
    simp only [ev, dv]
    rw [e, ih]
    grind
theorem ev_slope (x p : Int) : ∀ f : List Int, ∃ k, ev x (slI p f) = dv x f + p * k
  | [] => ⟨0, by simp [slI, trimI, ev, dv]⟩
  | c :: cs => by
    unfold slI
    rw [ev_trim]
    have e : ((c :: cs).mapIdx fun i x => (i : Int) * x % p).drop 1 = (cs.mapIdx fun i c => ((i : Int) + 1) * c).map (· % p) := by
      rw [List.mapIdx_cons]
      simp only [List.drop_succ_cons, List.drop_zero]
      apply List.ext_getElem
      · simp
      · intro i h1 h2
        simp
    rw [e]
    obtain ⟨k, h⟩ := ev_mod x p (cs.mapIdx fun i c => ((i : Int) + 1) * c)
    refine ⟨k, ?_⟩
    rw [h, ev_idx]
    simp only [dv]
    grind
theorem twice_no {p c : Int} (hp : Pr p) {h f : List Int} (hf : Pol p f) (hn : f ≠ []) (e : f = trimI ((mulI (trimI ((mulI [c, 1] [c, 1]).map (· % p))) h).map (· % p))) : simB p f = false := by
  obtain ⟨q, hq⟩ : ∃ q, q = trimI ((mulI [c, 1] [c, 1]).map (· % p)) := ⟨_, rfl⟩
  rw [← hq] at e
  have l0 : ev (-c) [c, 1] = 0 := by simp [ev]; omega
  obtain ⟨k1, h1⟩ := ev_mod (-c) p (mulI [c, 1] [c, 1])
  obtain ⟨k2, h2⟩ := dv_mod (-c) p (mulI [c, 1] [c, 1])
  rw [ev_mulI, l0] at h1
  rw [dv_mulI, l0] at h2
  have a1 : ev (-c) q = p * k1 := by rw [hq, ev_trim, h1]; grind
  have a2 : dv (-c) q = p * k2 := by rw [hq, dv_trim, h2]; grind
  obtain ⟨k3, h3⟩ := ev_mod (-c) p (mulI q h)
  obtain ⟨k4, h4⟩ := dv_mod (-c) p (mulI q h)
  rw [ev_mulI, a1] at h3
  rw [dv_mulI, a1, a2] at h4
  have b1 : ev (-c) f = p * (k1 * ev (-c) h + k3) := by rw [e, ev_trim, h3]; grind
  have b2 : dv (-c) f = p * (k2 * ev (-c) h + k1 * dv (-c) h + k4) := by rw [e, dv_trim, h4]; grind
  obtain ⟨k5, h5⟩ := ev_slope (-c) p f
  exact simB_no hp hf hn ⟨_, b1⟩ ⟨k2 * ev (-c) h + k1 * dv (-c) h + k4 + k5, by rw [h5, b2]; grind⟩
end G7

set_option Elab.async false
set_option linter.all false
set_option maxRecDepth 100000
set_option maxHeartbeats 1000000
/-! drawing -/
namespace G7
open PySem PySem.Spec PyProof.Rows L2 Mr
theorem dMul_k {a b : Int} (h : -(2 ^ 64) < b ∧ b < 2 ^ 64) : dMul (.int a) (.int b) = some (.int (a * b)) := dMul_int (.inr h)
theorem dMul_j {a b : Int} (h : -(2 ^ 64) < a ∧ a < 2 ^ 64) : dMul (.int a) (.int b) = some (.int (a * b)) := dMul_int (.inl h)
theorem hash_ok {s i : Int} (h0 : 0 ≤ i) (h1 : i < 2 ^ 40) : ∃ v, m_Lhash [.int s, .int i] = some (.ret (.int v)) := by
  have e1 : dMul (.int s) (.int 1140671) = _ := dMul_k (by decide)
  have e2 : dMul (.int 27644437) (.int i) = _ := dMul_j (by decide)
  have e3 : dMul (.int (27644437 * i)) (.int i) = _ := dMul_k (by omega)
  have e4 : dMul (.int 131) (.int i) = _ := dMul_j (by decide)
  have e5 : ∀ a : Int, dMod (.int a) (.int 2147483629) = some (.int (a % 2147483629)) := fun a => dMod_int (by decide)
  have e6 : ∀ a : Int, dMod (.int a) (.int 2147483587) = some (.int (a % 2147483587)) := fun a => dMod_int (by decide)
  have e7 : ∀ a : Int, dMod (.int a) (.int 2147483647) = some (.int (a % 2147483647)) := fun a => dMod_int (by decide)
  have e8 : ∀ a : Int, dMul (.int (a % 2147483629)) (.int (a % 2147483629)) = some (.int (a % 2147483629 * (a % 2147483629))) := fun a => dMul_j (by omega)
  have e9 : dMul (.int 62089) (.int i) = _ := dMul_j (by decide)
  have e10 : ∀ a : Int, dMul (.int a) (.int 48271) = some (.int (a * 48271)) := fun a => dMul_k (by decide)
  unfold m_Lhash defM
  simp only [b_Lhash, sSeq, sSet, sSetC, sSetO, sRet, sIf, sNil, sFor, sStoC, sApp, sAug, sPop, sPar, sPar3, sAsgT, sRaise, sCallX, wipeS, scalB, xVar, xC, xOp, xUn, xChain, xAnd, xOr, xNot, xIf, xTru, xtAnd, xtOr, xtNot, xNil, xCons, xLst, xTup, xB, xSl, xoN, xoS, xBl, xYes, xiL, xi, xiRev, xCall, frD, on1, on2, bName, bPair, nList, nRep, nComp, dLs, dSub, dAdd_int, dCmp, dNeg, dInt, dTru, dMax, lim, lim2, List.map_cons, List.map_nil, List.length_cons, List.length_nil, List.append_eq, List.cons_append, List.nil_append, List.replicate, List.getElem?_cons_zero, List.getElem?_cons_succ, Option.join_some, Option.join_none, Option.bind_some, Option.map_some, Option.bind_none, Option.map_none, List.set_cons_succ, List.set_cons_zero, if_true, Nat.reduceAdd, Nat.reduceSub, Nat.reduceLeDiff, Bool.false_eq_true, if_false, dLen_li, dSl_li, cut_to, cut_from, dEq_int, dNe_int, dEq_li, dNe_li, reduceIte, li_set, dNeO_str, dNeO_lst, dNeO_li, dNeO_tup, dNeO_int, dNeO_bl, e1, e2, e3, e4, e5, e6, e7, e8, e9, e10]
  exact ⟨_, rfl⟩
structure Gen (k : Nat) (gs : List D) : Prop where
  ex : ∃ g0 g1 g2 : Int, gs = [.int g0, .int g1, .int g2] ∧ 0 ≤ g2 ∧ g2 ≤ (k : Int)
theorem bits_ok {b : Int} (h0 : 0 < b) (h1 : b ≤ 13) : ((Builtin.Int.intBits b : Nat) : Int) / 30 = 0 := by
  have : b = 1 ∨ b = 2 ∨ b = 3 ∨ b = 4 ∨ b = 5 ∨ b = 6 ∨ b = 7 ∨ b = 8 ∨ b = 9 ∨ b = 10 ∨ b = 11 ∨ b = 12 ∨ b = 13 := by omega
  rcases this with rfl | rfl | rfl | rfl | rfl | rfl | rfl | rfl | rfl | rfl | rfl | rfl | rfl <;> decide +kernel
theorem random_ok {k : Nat} (hk : k < 1000000) {gs : List D} (hg : Gen k gs) {b : Int} (h0 : 0 < b) (h1 : b ≤ 13) : ∃ v gs', m_Lrandom gs [.int b] = some (.int v, gs') ∧ 0 ≤ v ∧ v < b ∧ Gen (k + 1) gs' := by
  obtain ⟨g0, g1, g2, rfl, hg0, hg1⟩ := hg.ex
  have a0 : dIx (.lst [.int g0, .int g1, .int g2]) (.int 0) = some (.int g0) := rfl
  have c0 : ixN 3 0 = some 0 := rfl
  have c2 : ixN 3 2 = some 2 := rfl
  have e2 : dMod (.int g0) (.int b) = some (.int (g0 % b)) := dMod_int h0
  have e3 : dFdiv (.int g0) (.int b) = some (.int (g0 / b)) := by
    show (if 0 < b ∧ b < 1073741824 then _ else _) = _
    rw [if_pos ⟨h0, by omega⟩]
  by_cases hp : 0 < g0
  · have e1 : pGt g0 0 = true := decide_eq_true hp
    refine ⟨g0 % b, [.int (g0 / b), .int g1, .int g2], ?_, Int.emod_nonneg _ (by omega), Int.emod_lt_of_pos _ h0, ⟨g0 / b, g1, g2, rfl, hg0, by omega⟩⟩
    unfold m_Lrandom defG
    simp only [b_Lrandom, sSetZ, sRetZ, zPure, zOp, zNil, zCons, zLst, zCall, zDraw, gget, gset, ziPure, zIf, zComp, sSeq, sSet, sSetC, sSetO, sRet, sIf, sNil, sFor, sStoC, sApp, sAug, sPop, sPar, sPar3, sAsgT, sRaise, sCallX, wipeS, scalB, xVar, xC, xOp, xUn, xChain, xAnd, xOr, xNot, xIf, xTru, xtAnd, xtOr, xtNot, xNil, xCons, xLst, xTup, xB, xSl, xoN, xoS, xBl, xYes, xiL, xi, xiRev, xCall, frD, on1, on2, bName, bPair, nList, nRep, nComp, dLs, dSub, dAdd_int, dCmp, dNeg, dInt, dTru, dMax, lim, lim2, List.map_cons, List.map_nil, List.length_cons, List.length_nil, List.append_eq, List.cons_append, List.nil_append, List.replicate, List.getElem?_cons_zero, List.getElem?_cons_succ, Option.join_some, Option.join_none, Option.bind_some, Option.map_some, Option.bind_none, Option.map_none, List.set_cons_succ, List.set_cons_zero, if_true, Nat.reduceAdd, Nat.reduceSub, Nat.reduceLeDiff, Bool.false_eq_true, if_false, dLen_li, dSl_li, cut_to, cut_from, dEq_int, dNe_int, dEq_li, dNe_li, reduceIte, li_set, dNeO_str, dNeO_lst, dNeO_li, dNeO_tup, dNeO_int, dNeO_bl, a0, e1, e2, c0, e3]
  · have e1 : pGt g0 0 = false := decide_eq_false hp
    obtain ⟨hv, hh⟩ := hash_ok (s := g1) (i := g2 + 1) (by omega) (by omega)
    have a2 : dIx (.lst [.int g0, .int g1, .int g2]) (.int 2) = some (.int g2) := rfl
    have d1 : dIx (.lst [.int g0, .int g1, .int (g2 + 1)]) (.int 1) = some (.int g1) := rfl
    have d2 : dIx (.lst [.int g0, .int g1, .int (g2 + 1)]) (.int 2) = some (.int (g2 + 1)) := rfl
    have e4 : dBits (.int b) = some (.int (Builtin.Int.intBits b : Nat)) := rfl
    have e5 : dFdiv (.int ((Builtin.Int.intBits b : Nat) : Int)) (.int 30) = some (.int 0) := by
      show some (D.int (((Builtin.Int.intBits b : Nat) : Int) / 30)) = _
      rw [bits_ok h0 h1]
    have e6 : dRng1 [.int (1 + 0)] = some [.int 0] := rfl
    have e7 : dMul (.int 0) (.int 2147483587) = some (.int 0) := rfl
    have e8 : dMod (.int (0 + hv)) (.int b) = some (.int ((0 + hv) % b)) := dMod_int h0
    refine ⟨(0 + hv) % b, [.int g0, .int g1, .int (g2 + 1)], ?_, Int.emod_nonneg _ (by omega), Int.emod_lt_of_pos _ h0, ⟨g0, g1, g2 + 1, rfl, by omega, by omega⟩⟩
    unfold m_Lrandom defG
    simp only [b_Lrandom, Mr.forM, sSetZ, sRetZ, zPure, zOp, zNil, zCons, zLst, zCall, zDraw, gget, gset, ziPure, zIf, zComp, sSeq, sSet, sSetC, sSetO, sRet, sIf, sNil, sFor, sStoC, sApp, sAug, sPop, sPar, sPar3, sAsgT, sRaise, sCallX, wipeS, scalB, xVar, xC, xOp, xUn, xChain, xAnd, xOr, xNot, xIf, xTru, xtAnd, xtOr, xtNot, xNil, xCons, xLst, xTup, xB, xSl, xoN, xoS, xBl, xYes, xiL, xi, xiRev, xCall, frD, on1, on2, bName, bPair, nList, nRep, nComp, dLs, dSub, dAdd_int, dCmp, dNeg, dInt, dTru, dMax, lim, lim2, List.map_cons, List.map_nil, List.length_cons, List.length_nil, List.append_eq, List.cons_append, List.nil_append, List.replicate, List.getElem?_cons_zero, List.getElem?_cons_succ, Option.join_some, Option.join_none, Option.bind_some, Option.map_some, Option.bind_none, Option.map_none, List.set_cons_succ, List.set_cons_zero, if_true, Nat.reduceAdd, Nat.reduceSub, Nat.reduceLeDiff, Bool.false_eq_true, if_false, dLen_li, dSl_li, cut_to, cut_from, dEq_int, dNe_int, dEq_li, dNe_li, reduceIte, li_set, dNeO_str, dNeO_lst, dNeO_li, dNeO_tup, dNeO_int, dNeO_bl, a0, e1, e4, e5, e6, a2, c2, d1, d2, hh, e7, e8]
theorem prime_draw {k : Nat} (hk : k < 1000000) {gs : List D} (hg : Gen k gs) : ∃ p gs', m_Lprime gs [] = some (.int p, gs') ∧ Pr p ∧ Gen (k + 1) gs' := by
  obtain ⟨v, gs', h1, h2, h3, h4⟩ := random_ok hk hg (b := 5) (by decide) (by decide)
  have hv : v = 0 ∨ v = 1 ∨ v = 2 ∨ v = 3 ∨ v = 4 := by omega
  have key : ∀ p, dIx (li [3, 5, 7, 11, 13]) (.int v) = some (.int p) → m_Lprime gs [] = some (.int p, gs') := fun p hp => by
    have hp' : dIx (.lst [.int 3, .int 5, .int 7, .int 11, .int 13]) (.int v) = some (.int p) := hp
    unfold m_Lprime defG
    simp only [b_Lprime, sSetZ, sRetZ, zPure, zOp, zNil, zCons, zLst, zCall, zDraw, gget, gset, ziPure, zIf, zComp, sSeq, sSet, sSetC, sSetO, sRet, sIf, sNil, sFor, sStoC, sApp, sAug, sPop, sPar, sPar3, sAsgT, sRaise, sCallX, wipeS, scalB, xVar, xC, xOp, xUn, xChain, xAnd, xOr, xNot, xIf, xTru, xtAnd, xtOr, xtNot, xNil, xCons, xLst, xTup, xB, xSl, xoN, xoS, xBl, xYes, xiL, xi, xiRev, xCall, frD, on1, on2, bName, bPair, nList, nRep, nComp, dLs, dSub, dAdd_int, dCmp, dNeg, dInt, dTru, dMax, lim, lim2, List.map_cons, List.map_nil, List.length_cons, List.length_nil, List.append_eq, List.cons_append, List.nil_append, List.replicate, List.getElem?_cons_zero, List.getElem?_cons_succ, Option.join_some, Option.join_none, Option.bind_some, Option.map_some, Option.bind_none, Option.map_none, List.set_cons_succ, List.set_cons_zero, if_true, Nat.reduceAdd, Nat.reduceSub, Nat.reduceLeDiff, Bool.false_eq_true, if_false, dLen_li, dSl_li, cut_to, cut_from, dEq_int, dNe_int, dEq_li, dNe_li, reduceIte, li_set, dNeO_str, dNeO_lst, dNeO_li, dNeO_tup, dNeO_int, dNeO_bl, h1, hp']
  rcases hv with rfl | rfl | rfl | rfl | rfl
  · exact ⟨3, gs', key 3 rfl, .inl rfl, h4⟩
  · exact ⟨5, gs', key 5 rfl, .inr (.inl rfl), h4⟩
  · exact ⟨7, gs', key 7 rfl, .inr (.inr (.inl rfl)), h4⟩
  · exact ⟨11, gs', key 11 rfl, .inr (.inr (.inr (.inl rfl))), h4⟩
  · exact ⟨13, gs', key 13 rfl, .inr (.inr (.inr (.inr rfl))), h4⟩
def eltD : XS := (zDraw 0 m_Lrandom (zCons 0 (zPure [0] 0 (xVar 1)) (zNil 0)))
theorem comp_draw {p : Int} (h0 : 0 < p) (h1 : p ≤ 13) {x0 x2 x3 x4 x5 x6 x7 x8 x9 x10 x11 : Option D} : ∀ (ds : List D) (k : Nat) (g : List D), k + ds.length < 1000000 → Gen k g → ∃ vs : List Int, ∃ g', compZ 0 (bName 10) [10] eltD [x0, some (.int p), x2, x3, x4, x5, x6, x7, x8, x9, x10, x11] ds g = some (vs.map D.int, g') ∧ vs.length = ds.length ∧ Num p vs ∧ Gen (k + ds.length) g'
  | [], k, g, _, hg => ⟨[], g, rfl, rfl, fun _ h => (by cases h), hg⟩
  | d :: ds, k, g, hk, hg => by
    rw [List.length_cons] at hk
    obtain ⟨v, g1, e1, e2, e3, e4⟩ := random_ok (by omega) hg h0 h1
    obtain ⟨vs, g', f1, f2, f3, f4⟩ := comp_draw h0 h1 (x0 := x0) (x2 := x2) (x3 := x3) (x4 := x4) (x5 := x5) (x6 := x6) (x7 := x7) (x8 := x8) (x9 := x9) (x10 := x10) (x11 := x11) ds (k + 1) g1 (by omega) e4
    refine ⟨v :: vs, g', ?_, by simp [f2], fun x hx => ?_, ?_⟩
    · have e : eltD [some (.lst g), some (.int p), x2, x3, x4, x5, x6, x7, x8, x9, some d, x11] = some (.int v, g1) := by
        simp only [eltD, sSetZ, sRetZ, zPure, zOp, zNil, zCons, zLst, zCall, zDraw, gget, gset, ziPure, zIf, zComp, sSeq, sSet, sSetC, sSetO, sRet, sIf, sNil, sFor, sStoC, sApp, sAug, sPop, sPar, sPar3, sAsgT, sRaise, sCallX, wipeS, scalB, xVar, xC, xOp, xUn, xChain, xAnd, xOr, xNot, xIf, xTru, xtAnd, xtOr, xtNot, xNil, xCons, xLst, xTup, xB, xSl, xoN, xoS, xBl, xYes, xiL, xi, xiRev, xCall, frD, on1, on2, bName, bPair, nList, nRep, nComp, dLs, dSub, dAdd_int, dCmp, dNeg, dInt, dTru, dMax, lim, lim2, List.map_cons, List.map_nil, List.length_cons, List.length_nil, List.append_eq, List.cons_append, List.nil_append, List.replicate, List.getElem?_cons_zero, List.getElem?_cons_succ, Option.join_some, Option.join_none, Option.bind_some, Option.map_some, Option.bind_none, Option.map_none, List.set_cons_succ, List.set_cons_zero, if_true, Nat.reduceAdd, Nat.reduceSub, Nat.reduceLeDiff, Bool.false_eq_true, if_false, dLen_li, dSl_li, cut_to, cut_from, dEq_int, dNe_int, dEq_li, dNe_li, reduceIte, li_set, dNeO_str, dNeO_lst, dNeO_li, dNeO_tup, dNeO_int, dNeO_bl, e1]
      show ((bName 10 d (wipeS (gset 0 [x0, some (.int p), x2, x3, x4, x5, x6, x7, x8, x9, x10, x11] g) [10])).bind fun s1 => (eltD s1).bind fun y => (compZ 0 (bName 10) [10] eltD [x0, some (.int p), x2, x3, x4, x5, x6, x7, x8, x9, x10, x11] ds y.2).map fun r => (y.1 :: r.1, r.2)) = _
      simp only [sSetZ, sRetZ, zPure, zOp, zNil, zCons, zLst, zCall, zDraw, gget, gset, ziPure, zIf, zComp, sSeq, sSet, sSetC, sSetO, sRet, sIf, sNil, sFor, sStoC, sApp, sAug, sPop, sPar, sPar3, sAsgT, sRaise, sCallX, wipeS, scalB, xVar, xC, xOp, xUn, xChain, xAnd, xOr, xNot, xIf, xTru, xtAnd, xtOr, xtNot, xNil, xCons, xLst, xTup, xB, xSl, xoN, xoS, xBl, xYes, xiL, xi, xiRev, xCall, frD, on1, on2, bName, bPair, nList, nRep, nComp, dLs, dSub, dAdd_int, dCmp, dNeg, dInt, dTru, dMax, lim, lim2, List.map_cons, List.map_nil, List.length_cons, List.length_nil, List.append_eq, List.cons_append, List.nil_append, List.replicate, List.getElem?_cons_zero, List.getElem?_cons_succ, Option.join_some, Option.join_none, Option.bind_some, Option.map_some, Option.bind_none, Option.map_none, List.set_cons_succ, List.set_cons_zero, if_true, Nat.reduceAdd, Nat.reduceSub, Nat.reduceLeDiff, Bool.false_eq_true, if_false, dLen_li, dSl_li, cut_to, cut_from, dEq_int, dNe_int, dEq_li, dNe_li, reduceIte, li_set, dNeO_str, dNeO_lst, dNeO_li, dNeO_tup, dNeO_int, dNeO_bl, e, f1]
    · rcases List.mem_cons.mp hx with rfl | hx
      · exact ⟨e2, e3⟩
      · exact f3 x hx
    · rw [List.length_cons, Nat.add_comm ds.length 1, ← Nat.add_assoc]
      exact f4
end G7

set_option Elab.async false
set_option linter.all false
set_option maxRecDepth 100000
set_option maxHeartbeats 2000000
/-! the law's turn -/
namespace G7
open PySem PySem.Spec PyProof.Rows L2 Mr
def kTest : XT := (xtAnd (xTru (xUn (dIsi "list") (xVar 9))) (xtAnd (xBl (xOp (dIn false) (xB (on1 dLen) (xCons (xVar 9) xNil)) (xLst (xCons (xC (.int 2)) (xCons (xC (.int 4)) (xCons (xC (.int 6)) (xCons (xC (.int 8)) xNil))))))) (xtAnd (xBl (xOp (dEqO 0 m_Curve___eq__) (xOp dIx (xVar 9) (xUn dNeg (xC (.int 1)))) (xC (.int 1)))) (xBl (xOp (dEqO 0 m_Curve___eq__) (xComp (xiL (xVar 9)) (bName 11) [11] (xtOr (xTru (xUn (dIsi "bool") (xVar 11))) (xtOr (xtNot (xTru (xUn (dIsi "int") (xVar 11)))) (xtNot (xBl (xChain (dCmp pLe) (dCmp pLt) (xC (.int 0)) (xVar 11) (xVar 1)))))) (xVar 11)) (xLst xNil))))))
noncomputable def kBody : S → Option Out := (sSeq (sIf kTest (fun s => some (.ct s)) sNil) (sIf (xtNot (xTru (xCall m_Lcurve_right (xCons (xVar 1) (xCons (xVar 9) (xCons (xC (.bl false)) xNil)))))) (sRet [0] (xC (.bl false))) sNil))
def kList : XA := (xiL (xOp dAdd (xVar 8) (xLst (xCons (xSl (xVar 3) (xoS (xC (.int 1))) xoN) (xCons (xOp dAdd (xVar 3) (xLst (xCons (xC (.int 1)) xNil))) (xCons (xOp dAdd (xSl (xVar 3) xoN (xoS (xUn dNeg (xC (.int 1))))) (xLst (xCons (xC (.int 2)) xNil))) (xCons (xLst xNil) (xCons (xLst (xCons (xC (.int 1)) xNil)) (xCons (xC .non) (xCons (xB (on1 dTuple) (xCons (xVar 3) xNil)) (xCons (xC (.str "11")) (xCons (xOp dMul (xLst (xCons (xC .non) xNil)) (xOp dAdd (xVar 2) (xC (.int 1)))) (xCons (xOp dMul (xLst (xCons (xC (.bl true)) xNil)) (xOp dAdd (xVar 2) (xC (.int 1)))) (xCons (xOp dAdd (xLst (xCons (xVar 1) xNil)) (xSl (xVar 3) (xoS (xC (.int 1))) xoN)) (xCons (xOp dAdd (xOp dAdd (xOp dAdd (xSl (xVar 3) xoN (xoS (xC (.int 1)))) (xLst (xCons (xUn dNeg (xC (.int 1))) xNil))) (xOp dMul (xLst (xCons (xC (.int 0)) xNil)) (xOp dSub (xVar 2) (xC (.int 2))))) (xLst (xCons (xC (.int 1)) xNil))) xNil)))))))))))))))
noncomputable def R0 : S → Option Out := (sSetZ 0 1 (zDraw 0 m_Lprime (zNil 0)))
noncomputable def R1 : S → Option Out := (sSetZ 0 2 (zOp 0 dIx (zPure [0] 0 (xLst (xCons (xC (.int 1)) (xCons (xC (.int 3)) (xCons (xC (.int 5)) (xCons (xC (.int 7)) xNil)))))) (zDraw 0 m_Lrandom (zCons 0 (zPure [0] 0 (xC (.int 4))) (zNil 0)))))
noncomputable def R2 : S → Option Out := (sSetZ 0 3 (zOp 0 dAdd (zComp 0 [] (ziPure [0] 0 (xi dRng1 (xCons (xVar 2) xNil))) (bName 10) [10] (zDraw 0 m_Lrandom (zCons 0 (zPure [0] 0 (xVar 1)) (zNil 0)))) (zPure [0] 0 (xLst (xCons (xC (.int 1)) xNil)))))
noncomputable def R3 : S → Option Out := (sSetZ 0 4 (zLst (zCons 0 (zDraw 0 m_Lrandom (zCons 0 (zPure [0] 0 (xVar 1)) (zNil 0))) (zCons 0 (zPure [0] 0 (xC (.int 1))) (zNil 0)))))
noncomputable def R4 : S → Option Out := (sSetZ 0 5 (zCall m_Ltimes (zCons 0 (zPure [0] 0 (xVar 1)) (zCons 0 (zPure [0] 0 (xCall m_Ltimes (xCons (xVar 1) (xCons (xVar 4) (xCons (xVar 4) xNil))))) (zCons 0 (zIf [0] 0 (xBl (xOp (dCmp pLt) (xVar 2) (xC (.int 5)))) (zLst (zCons 0 (zDraw 0 m_Lrandom (zCons 0 (zPure [0] 0 (xVar 1)) (zNil 0))) (zCons 0 (zPure [0] 0 (xC (.int 1))) (zNil 0)))) (zOp 0 dAdd (zComp 0 [] (ziPure [0] 0 (xi dRng1 (xCons (xC (.int 3)) xNil))) (bName 10) [10] (zDraw 0 m_Lrandom (zCons 0 (zPure [0] 0 (xVar 1)) (zNil 0)))) (zPure [0] 0 (xLst (xCons (xC (.int 1)) xNil))))) (zNil 0))))))
noncomputable def R5 : S → Option Out := (sIf (xtOr (xtNot (xTru (xCall m_Lcurve_right (xCons (xVar 1) (xCons (xVar 3) (xCons (xCall m_Lsimple (xCons (xVar 1) (xCons (xVar 3) xNil))) xNil)))))) (xtAnd (xBl (xOp (dCmp pLt) (xVar 1) (xC (.int 7)))) (xtAnd (xBl (xOp (dCmp pLt) (xVar 2) (xC (.int 6)))) (xBl (xOp (dEqO 0 m_Curve___eq__) (xCall m_Lsimple (xCons (xVar 1) (xCons (xVar 3) xNil))) (xCall m_Lis_double (xCons (xVar 1) (xCons (xVar 3) xNil)))))))) (sRet [0] (xC (.bl false))) sNil)
noncomputable def R6 : S → Option Out := (sIf (xtNot (xTru (xCall m_Lcurve_right (xCons (xVar 1) (xCons (xVar 5) (xCons (xC (.bl false)) xNil)))))) (sRet [0] (xC (.bl false))) sNil)
noncomputable def R7 : S → Option Out := (sSetZ 0 6 (zDraw 0 m_Lrandom (zCons 0 (zPure [0] 0 (xVar 2)) (zNil 0))))
noncomputable def R8 : S → Option Out := (sSetZ 0 7 (zOp 0 dAdd (zOp 0 dAdd (zPure [0] 0 (xSl (xVar 3) xoN (xoS (xVar 6)))) (zLst (zCons 0 (zDraw 0 m_Lrandom (zCons 0 (zPure [0] 0 (xVar 1)) (zNil 0))) (zNil 0)))) (zPure [0] 0 (xSl (xVar 3) (xoS (xOp dAdd (xVar 6) (xC (.int 1)))) xoN))))
noncomputable def R9 : S → Option Out := (sIf (xtAnd (xTru (xCall m_Lsimple (xCons (xVar 1) (xCons (xVar 3) xNil)))) (xtAnd (xTru (xCall m_Lsimple (xCons (xVar 1) (xCons (xVar 7) xNil)))) (xBl (xOp (dNeO 0 m_Curve___eq__) (xOp (dEqO 0 m_Curve___eq__) (xCall m_Curve___init__ (xCons (xVar 1) (xCons (xVar 3) xNil))) (xCall m_Curve___init__ (xCons (xVar 1) (xCons (xVar 7) xNil)))) (xOp (dEqO 0 m_Curve___eq__) (xVar 3) (xVar 7)))))) (sRet [0] (xC (.bl false))) sNil)
noncomputable def R10 : S → Option Out := (sSet [0] 8 (xLst (xCons (xOp dAdd (xOp dAdd (xVar 3) (xOp dMul (xLst (xCons (xC (.int 0)) xNil)) (xOp dSub (xC (.int 8)) (xVar 2)))) (xLst (xCons (xC (.int 1)) xNil))) (xCons (xOp dAdd (xOp dAdd (xVar 3) (xOp dMul (xLst (xCons (xC (.int 0)) xNil)) (xOp dSub (xC (.int 10)) (xVar 2)))) (xLst (xCons (xC (.int 1)) xNil))) (xCons (xOp dAdd (xOp dAdd (xVar 3) (xOp dMul (xLst (xCons (xC (.int 0)) xNil)) (xOp dSub (xC (.int 58)) (xVar 2)))) (xLst (xCons (xC (.int 1)) xNil))) xNil)))))
noncomputable def R11 : S → Option Out := (sFor [0] kList (bName 9) kBody)
theorem b_right_eq : b_Lright = (sSeq R0 (sSeq R1 (sSeq R2 (sSeq R3 (sSeq R4 (sSeq R5 (sSeq R6 (sSeq R7 (sSeq R8 (sSeq R9 (sSeq R10 (sSeq R11 (sRet [0] (xC (.bl true))))))))))))))) := rfl
theorem seq_nx {g1 g2 : S → Option Out} {s s' : S} (h : g1 s = some (.nx s')) : sSeq g1 g2 s = g2 s' := by
  unfold sSeq
  rw [h]; rfl
/-! ### values that are skipped or refused -/
theorem repr_sm {d : D} (h : smB d = true) : ∃ x, dRepr d = some (.str x) ∧ PyData.strOk x = true := by
  obtain ⟨p, h1, h2⟩ := smB_ok h
  refine ⟨p.shown, ?_, h2.ok⟩
  unfold dRepr
  rw [h1]
  simp only [Option.bind_some]
  rw [if_pos ⟨h2.sh, h2.hd, by rw [h2.dp]; decide, by have := h2.ln; omega⟩]
def eq1 : D → Bool
  | .int x => x == 1
  | .bl b => b
  | _ => false
theorem q_eq1 {d : D} (h : smB d = true) : dEqO 0 m_Curve___eq__ d (.int 1) = some (.bl (eq1 d)) := by
  cases d with
  | non =>
    show dEq .non (.int 1) = _
    unfold dEq dEqB
    simp only [D.py, Option.bind_some]
    rw [show SeqAt.shaped .none = true by decide +kernel, show SeqAt.shaped (.int 1) = true by decide +kernel]
    rfl
  | bl b =>
    show dEq (.bl b) (.int 1) = _
    unfold dEq dEqB
    simp only [D.py, Option.bind_some]
    rw [show ∀ c, SeqAt.shaped (.bool c) = true by decide +kernel, show SeqAt.shaped (.int 1) = true by decide +kernel]
    cases b <;> rfl
  | int x => exact dEq_int x 1
  | str _ => cases h
  | lst _ => cases h
  | tup _ => cases h
  | obj _ _ => cases h
theorem q_nil {ds : List D} (h : ds.all smB = true) : dEqO 0 m_Curve___eq__ (.lst ds) (.lst []) = some (.bl ds.isEmpty) := by
  obtain ⟨ps, g1, g2, _⟩ := smA_ok h
  obtain ⟨h1, h2, h3⟩ := eqv_self h g1
  have e : D.py (.lst ds) = some (.list ps) := by show (D.pys ds).map PyData.list = _; rw [g1]; rfl
  have s : SeqAt.shaped (.list ps) = true := by
    unfold SeqAt.shaped
    simp [PyData.canLay0, PyData.depth, h2, h3]
  show dEq (.lst ds) (.lst []) = _
  unfold dEq dEqB
  rw [e]
  have e2 : D.py (.lst []) = some (.list []) := rfl
  have s2 : SeqAt.shaped (.list []) = true := by decide +kernel
  simp only [Option.bind_some, s, e2, s2, Bool.and_self, if_true, Option.map_some]
  cases ps with
  | nil =>
    have : ds = [] := List.length_eq_zero_iff.mp (by rw [← g2]; rfl)
    subst this; rfl
  | cons p ps =>
    cases ds with
    | nil => cases g2
    | cons d ds => rfl
def skB (p : Int) (ds : List D) : Bool := powB ds.length && (match ds.getLast? with | some d => eq1 d | none => false) && ds.all (numB p)
theorem last_get {ds : List D} (h : ds ≠ []) : dIx (.lst ds) (.int (-1)) = ds.getLast? := by
  show atI ds (-1) = _
  have hl : 0 < ds.length := List.length_pos_iff.mpr h
  unfold atI ixN
  rw [if_neg (by decide), if_pos (by omega)]
  show (some (-1 + (ds.length : Int)).toNat).bind _ = _
  have e : (-1 + (ds.length : Int)).toNat = ds.length - 1 := by omega
  rw [e]
  simp [List.getLast?_eq_getElem?]
theorem pow_in2 (n : Nat) : dIn false (.int (n : Int)) (.lst [.int 2, .int 4, .int 6, .int 8]) = some (.bl (powB n)) := by
  have e : inV (V.int (n : Int)) [V.int 2, V.int 4, V.int 6, V.int 8] = powB n := by
    show ((2 == (n : Int)) || ((4 == (n : Int)) || ((6 == (n : Int)) || ((8 == (n : Int)) || false)))) = _
    rw [Bool.eq_iff_iff]
    simp only [powB, Bool.or_eq_true, beq_iff_eq, Bool.or_false]
    omega
  show some (D.bl (inV (V.int (n : Int)) [V.int 2, V.int 4, V.int 6, V.int 8])) = _
  rw [e]
abbrev st9 (g : List D) (p : Int) (x2 x3 x4 x5 x6 x7 x8 x9 x10 x11 : Option D) : S := [some (.lst g), some (.int p), x2, x3, x4, x5, x6, x7, x8, x9, x10, x11]
def badT : XT := (xtOr (xTru (xUn (dIsi "bool") (xVar 11))) (xtOr (xtNot (xTru (xUn (dIsi "int") (xVar 11)))) (xtNot (xBl (xChain (dCmp pLe) (dCmp pLt) (xC (.int 0)) (xVar 11) (xVar 1))))))
theorem bad_ok {p : Int} {d : D} (h : smB d = true) {x0 x2 x3 x4 x5 x6 x7 x8 x9 x10 : Option D} : badT [x0, some (.int p), x2, x3, x4, x5, x6, x7, x8, x9, x10, some d] = some (!numB p d) := by
  cases d with
  | non =>
    have h1 : dIsi "bool" .non = _ := dIsi_of rfl k_nb
    have h2 : dIsi "int" .non = _ := dIsi_of rfl k_ni
    simp only [badT, sSeq, sSet, sSetC, sSetO, sRet, sIf, sNil, sFor, sStoC, sApp, sAug, sPop, sPar, sPar3, sAsgT, sRaise, sCallX, wipeS, scalB, xVar, xC, xOp, xUn, xChain, xAnd, xOr, xNot, xIf, xTru, xtAnd, xtOr, xtNot, xNil, xCons, xLst, xTup, xB, xSl, xoN, xoS, xBl, xYes, xiL, xi, xiRev, xCall, frD, on1, on2, bName, bPair, nList, nRep, nComp, dLs, dSub, dAdd_int, dCmp, dNeg, dInt, dTru, dMax, lim, lim2, List.map_cons, List.map_nil, List.length_cons, List.length_nil, List.append_eq, List.cons_append, List.nil_append, List.replicate, List.getElem?_cons_zero, List.getElem?_cons_succ, Option.join_some, Option.join_none, Option.bind_some, Option.map_some, Option.bind_none, Option.map_none, List.set_cons_succ, List.set_cons_zero, if_true, Nat.reduceAdd, Nat.reduceSub, Nat.reduceLeDiff, Bool.false_eq_true, if_false, dLen_li, dSl_li, cut_to, cut_from, dEq_int, dNe_int, dEq_li, dNe_li, reduceIte, li_set, dNeO_str, dNeO_lst, dNeO_li, dNeO_tup, dNeO_int, dNeO_bl, h1, h2, Bool.not_false, numB]
  | bl b =>
    have h1 : dIsi "bool" (.bl b) = _ := dIsi_of rfl k_bb
    simp only [badT, sSeq, sSet, sSetC, sSetO, sRet, sIf, sNil, sFor, sStoC, sApp, sAug, sPop, sPar, sPar3, sAsgT, sRaise, sCallX, wipeS, scalB, xVar, xC, xOp, xUn, xChain, xAnd, xOr, xNot, xIf, xTru, xtAnd, xtOr, xtNot, xNil, xCons, xLst, xTup, xB, xSl, xoN, xoS, xBl, xYes, xiL, xi, xiRev, xCall, frD, on1, on2, bName, bPair, nList, nRep, nComp, dLs, dSub, dAdd_int, dCmp, dNeg, dInt, dTru, dMax, lim, lim2, List.map_cons, List.map_nil, List.length_cons, List.length_nil, List.append_eq, List.cons_append, List.nil_append, List.replicate, List.getElem?_cons_zero, List.getElem?_cons_succ, Option.join_some, Option.join_none, Option.bind_some, Option.map_some, Option.bind_none, Option.map_none, List.set_cons_succ, List.set_cons_zero, if_true, Nat.reduceAdd, Nat.reduceSub, Nat.reduceLeDiff, Bool.false_eq_true, if_false, dLen_li, dSl_li, cut_to, cut_from, dEq_int, dNe_int, dEq_li, dNe_li, reduceIte, li_set, dNeO_str, dNeO_lst, dNeO_li, dNeO_tup, dNeO_int, dNeO_bl, h1, numB, Bool.not_false]
  | int x =>
    have h1 : dIsi "bool" (.int x) = _ := dIsi_of rfl k_ib
    have h2 : dIsi "int" (.int x) = _ := dIsi_of rfl k_ii
    by_cases q : 0 ≤ x
    · have e : pLe 0 x = true := decide_eq_true q
      simp only [badT, sSeq, sSet, sSetC, sSetO, sRet, sIf, sNil, sFor, sStoC, sApp, sAug, sPop, sPar, sPar3, sAsgT, sRaise, sCallX, wipeS, scalB, xVar, xC, xOp, xUn, xChain, xAnd, xOr, xNot, xIf, xTru, xtAnd, xtOr, xtNot, xNil, xCons, xLst, xTup, xB, xSl, xoN, xoS, xBl, xYes, xiL, xi, xiRev, xCall, frD, on1, on2, bName, bPair, nList, nRep, nComp, dLs, dSub, dAdd_int, dCmp, dNeg, dInt, dTru, dMax, lim, lim2, List.map_cons, List.map_nil, List.length_cons, List.length_nil, List.append_eq, List.cons_append, List.nil_append, List.replicate, List.getElem?_cons_zero, List.getElem?_cons_succ, Option.join_some, Option.join_none, Option.bind_some, Option.map_some, Option.bind_none, Option.map_none, List.set_cons_succ, List.set_cons_zero, if_true, Nat.reduceAdd, Nat.reduceSub, Nat.reduceLeDiff, Bool.false_eq_true, if_false, dLen_li, dSl_li, cut_to, cut_from, dEq_int, dNe_int, dEq_li, dNe_li, reduceIte, li_set, dNeO_str, dNeO_lst, dNeO_li, dNeO_tup, dNeO_int, dNeO_bl, h1, h2, Bool.not_true, e, numB, decide_eq_true q, Bool.true_and]
    · have e : pLe 0 x = false := decide_eq_false q
      simp only [badT, sSeq, sSet, sSetC, sSetO, sRet, sIf, sNil, sFor, sStoC, sApp, sAug, sPop, sPar, sPar3, sAsgT, sRaise, sCallX, wipeS, scalB, xVar, xC, xOp, xUn, xChain, xAnd, xOr, xNot, xIf, xTru, xtAnd, xtOr, xtNot, xNil, xCons, xLst, xTup, xB, xSl, xoN, xoS, xBl, xYes, xiL, xi, xiRev, xCall, frD, on1, on2, bName, bPair, nList, nRep, nComp, dLs, dSub, dAdd_int, dCmp, dNeg, dInt, dTru, dMax, lim, lim2, List.map_cons, List.map_nil, List.length_cons, List.length_nil, List.append_eq, List.cons_append, List.nil_append, List.replicate, List.getElem?_cons_zero, List.getElem?_cons_succ, Option.join_some, Option.join_none, Option.bind_some, Option.map_some, Option.bind_none, Option.map_none, List.set_cons_succ, List.set_cons_zero, if_true, Nat.reduceAdd, Nat.reduceSub, Nat.reduceLeDiff, Bool.false_eq_true, if_false, dLen_li, dSl_li, cut_to, cut_from, dEq_int, dNe_int, dEq_li, dNe_li, reduceIte, li_set, dNeO_str, dNeO_lst, dNeO_li, dNeO_tup, dNeO_int, dNeO_bl, h1, h2, Bool.not_true, e, numB, decide_eq_false q, Bool.false_and]
  | str _ => cases h
  | lst _ => cases h
  | tup _ => cases h
  | obj _ _ => cases h
theorem ktest_lst {g : List D} {p : Int} {ds : List D} (h : ds.all smB = true) (hl : ds.length ≤ 900) {x2 x3 x4 x5 x6 x7 x8 x10 x11 : Option D} : kTest (st9 g p x2 x3 x4 x5 x6 x7 x8 (some (.lst ds)) x10 x11) = some (skB p ds) := by
  have h1 : dIsi "list" (.lst ds) = _ := dIsi_of rfl k_ll
  have h2 : dLen (.lst ds) = some (.int ds.length) := rfl
  have h3 := pow_in2 ds.length
  unfold skB
  cases hp : powB ds.length with
  | false =>
    rw [hp] at h3
    simp only [kTest, sSeq, sSet, sSetC, sSetO, sRet, sIf, sNil, sFor, sStoC, sApp, sAug, sPop, sPar, sPar3, sAsgT, sRaise, sCallX, wipeS, scalB, xVar, xC, xOp, xUn, xChain, xAnd, xOr, xNot, xIf, xTru, xtAnd, xtOr, xtNot, xNil, xCons, xLst, xTup, xB, xSl, xoN, xoS, xBl, xYes, xiL, xi, xiRev, xCall, frD, on1, on2, bName, bPair, nList, nRep, nComp, dLs, dSub, dAdd_int, dCmp, dNeg, dInt, dTru, dMax, lim, lim2, List.map_cons, List.map_nil, List.length_cons, List.length_nil, List.append_eq, List.cons_append, List.nil_append, List.replicate, List.getElem?_cons_zero, List.getElem?_cons_succ, Option.join_some, Option.join_none, Option.bind_some, Option.map_some, Option.bind_none, Option.map_none, List.set_cons_succ, List.set_cons_zero, if_true, Nat.reduceAdd, Nat.reduceSub, Nat.reduceLeDiff, Bool.false_eq_true, if_false, dLen_li, dSl_li, cut_to, cut_from, dEq_int, dNe_int, dEq_li, dNe_li, reduceIte, li_set, dNeO_str, dNeO_lst, dNeO_li, dNeO_tup, dNeO_int, dNeO_bl, h1, h2, h3, Bool.false_and]
  | true =>
    rw [hp] at h3
    have hne : ds ≠ [] := fun z => by rw [z] at hp; cases hp
    have h4 := last_get hne
    obtain ⟨e, he⟩ : ∃ e, ds.getLast? = some e := ⟨_, List.getLast?_eq_some_getLast hne⟩
    have hes : smB e = true := List.all_eq_true.mp h e (List.mem_of_getLast? he)
    have h5 := q_eq1 hes
    rw [he] at h4 ⊢
    show _ = some (true && eq1 e && ds.all (numB p))
    cases hq : eq1 e with
    | false =>
      rw [hq] at h5
      simp only [kTest, sSeq, sSet, sSetC, sSetO, sRet, sIf, sNil, sFor, sStoC, sApp, sAug, sPop, sPar, sPar3, sAsgT, sRaise, sCallX, wipeS, scalB, xVar, xC, xOp, xUn, xChain, xAnd, xOr, xNot, xIf, xTru, xtAnd, xtOr, xtNot, xNil, xCons, xLst, xTup, xB, xSl, xoN, xoS, xBl, xYes, xiL, xi, xiRev, xCall, frD, on1, on2, bName, bPair, nList, nRep, nComp, dLs, dSub, dAdd_int, dCmp, dNeg, dInt, dTru, dMax, lim, lim2, List.map_cons, List.map_nil, List.length_cons, List.length_nil, List.append_eq, List.cons_append, List.nil_append, List.replicate, List.getElem?_cons_zero, List.getElem?_cons_succ, Option.join_some, Option.join_none, Option.bind_some, Option.map_some, Option.bind_none, Option.map_none, List.set_cons_succ, List.set_cons_zero, if_true, Nat.reduceAdd, Nat.reduceSub, Nat.reduceLeDiff, Bool.false_eq_true, if_false, dLen_li, dSl_li, cut_to, cut_from, dEq_int, dNe_int, dEq_li, dNe_li, reduceIte, li_set, dNeO_str, dNeO_lst, dNeO_li, dNeO_tup, dNeO_int, dNeO_bl, h1, h2, h3, h4, h5, Bool.false_and, Bool.and_false]
    | true =>
      rw [hq] at h5
      have h6 := compL_map (bind := bName 11) (test := badT) (elt := xVar 11) (s := [some (.lst g), some (.int p), x2, x3, x4, x5, x6, x7, x8, some (.lst ds), x10, none]) (g := fun d : D => d) (t := fun d => !numB p d) (f := fun d => d) (xs := ds) (fun d hd => ⟨_, rfl, bad_ok (List.all_eq_true.mp h d hd), fun _ => rfl⟩)
      rw [List.map_id', List.map_id'] at h6
      have h7 : (ds.filter fun d => !numB p d).all smB = true := by
        rw [List.all_eq_true] at *
        exact fun d hd => h d (List.mem_filter.mp hd).1
      have h8 := q_nil h7
      have h9 : (ds.filter fun d => !numB p d).isEmpty = ds.all (numB p) := by
        rw [Bool.eq_iff_iff, List.isEmpty_iff, List.filter_eq_nil_iff, List.all_eq_true]
        simp
      have h10 : ds.length ≤ 100000 := by omega
      unfold badT at h6
      rw [h9] at h8
      simp only [kTest, sSeq, sSet, sSetC, sSetO, sRet, sIf, sNil, sFor, sStoC, sApp, sAug, sPop, sPar, sPar3, sAsgT, sRaise, sCallX, wipeS, scalB, xVar, xC, xOp, xUn, xChain, xAnd, xOr, xNot, xIf, xTru, xtAnd, xtOr, xtNot, xNil, xCons, xLst, xTup, xB, xSl, xoN, xoS, xBl, xYes, xiL, xi, xiRev, xCall, frD, on1, on2, bName, bPair, nList, nRep, nComp, dLs, dSub, dAdd_int, dCmp, dNeg, dInt, dTru, dMax, lim, lim2, List.map_cons, List.map_nil, List.length_cons, List.length_nil, List.append_eq, List.cons_append, List.nil_append, List.replicate, List.getElem?_cons_zero, List.getElem?_cons_succ, Option.join_some, Option.join_none, Option.bind_some, Option.map_some, Option.bind_none, Option.map_none, List.set_cons_succ, List.set_cons_zero, if_true, Nat.reduceAdd, Nat.reduceSub, Nat.reduceLeDiff, Bool.false_eq_true, if_false, dLen_li, dSl_li, cut_to, cut_from, dEq_int, dNe_int, dEq_li, dNe_li, reduceIte, li_set, dNeO_str, dNeO_lst, dNeO_li, dNeO_tup, dNeO_int, dNeO_bl, h1, h2, h3, h4, h5, xComp, h6, h8, h10, Bool.true_and, Nat.zero_le]
theorem val_lst {p : Int} (hp : Pr p) {ds : List D} (h : ds.all smB = true) (hl : ds.length ≤ 900) (hs : skB p ds = false) : m_Lcurve_right [.int p, .lst ds, .bl false] = some (.ret (.bl true)) := by
  refine right_lst hp h (by omega) ?_
  cases hq : ds.all (numB p) with
  | false => exact curvel_bad (polyl_bad h (by omega) hq)
  | true =>
    obtain ⟨xs, rfl, hx⟩ := all_num hq
    have hl' : xs.length ≤ 1000 := by simp at hl; omega
    have hs2 : ∀ x ∈ xs, x.natAbs < 1000 := fun x hx' => by have := hx x hx'; have := hp.le; omega
    by_cases ht : Tr xs
    · refine curvel_pow ⟨hx, ht⟩ hp hl' ?_
      cases hpw : powB xs.length with
      | false => exact .inl rfl
      | true =>
        have hne : xs ≠ [] := fun z => by rw [z] at hpw; cases hpw
        refine .inr ⟨hne, fun z => ?_⟩
        unfold skB at hs
        rw [List.length_map, hpw, hq, List.getLast?_map, List.getLast?_eq_some_getLast hne, z] at hs
        cases hs
    · have ⟨ys, e⟩ : ∃ ys : List Int, xs = ys ++ [0] := by
        refine Classical.byContradiction fun z => ht fun ys e => z ⟨ys, e⟩
      have h1 := polyl_ok hx hs2 hl'
      have e2 : (xs.drop (xs.length - 1) == [0]) = true := by
        rw [e]
        have : (ys ++ [0]).drop ((ys ++ [0]).length - 1) = [0] := by simp
        rw [this]; rfl
      rw [e2] at h1
      exact curvel_bad h1
/-- the values that the loop goes over -/
inductive Val : D → Prop
  | lst {ds : List D} : ds.all smB = true → ds.length ≤ 900 → Val (.lst ds)
  | non : Val .non
  | tup {ds : List D} : ds.all smB = true → ds.length ≤ 900 → Val (.tup ds)
  | str : Val (.str "11")
theorem kbody_ok {g : List D} {p : Int} (hp : Pr p) {d : D} (h : Val d) {x2 x3 x4 x5 x6 x7 x8 x10 x11 : Option D} : kBody (st9 g p x2 x3 x4 x5 x6 x7 x8 (some d) x10 x11) = some (.nx (st9 g p x2 x3 x4 x5 x6 x7 x8 (some d) x10 x11)) ∨ kBody (st9 g p x2 x3 x4 x5 x6 x7 x8 (some d) x10 x11) = some (.ct (st9 g p x2 x3 x4 x5 x6 x7 x8 (some d) x10 x11)) := by
  cases h with
  | lst h1 h2 =>
    rename_i ds
    have t := ktest_lst (g := g) (p := p) h1 h2 (x2 := x2) (x3 := x3) (x4 := x4) (x5 := x5) (x6 := x6) (x7 := x7) (x8 := x8) (x10 := x10) (x11 := x11)
    cases hs : skB p ds with
    | true =>
      rw [hs] at t
      refine .inr ?_
      simp only [kBody, sSeq, sSet, sSetC, sSetO, sRet, sIf, sNil, sFor, sStoC, sApp, sAug, sPop, sPar, sPar3, sAsgT, sRaise, sCallX, wipeS, scalB, xVar, xC, xOp, xUn, xChain, xAnd, xOr, xNot, xIf, xTru, xtAnd, xtOr, xtNot, xNil, xCons, xLst, xTup, xB, xSl, xoN, xoS, xBl, xYes, xiL, xi, xiRev, xCall, frD, on1, on2, bName, bPair, nList, nRep, nComp, dLs, dSub, dAdd_int, dCmp, dNeg, dInt, dTru, dMax, lim, lim2, List.map_cons, List.map_nil, List.length_cons, List.length_nil, List.append_eq, List.cons_append, List.nil_append, List.replicate, List.getElem?_cons_zero, List.getElem?_cons_succ, Option.join_some, Option.join_none, Option.bind_some, Option.map_some, Option.bind_none, Option.map_none, List.set_cons_succ, List.set_cons_zero, if_true, Nat.reduceAdd, Nat.reduceSub, Nat.reduceLeDiff, Bool.false_eq_true, if_false, dLen_li, dSl_li, cut_to, cut_from, dEq_int, dNe_int, dEq_li, dNe_li, reduceIte, li_set, dNeO_str, dNeO_lst, dNeO_li, dNeO_tup, dNeO_int, dNeO_bl, t]
    | false =>
      rw [hs] at t
      have r := val_lst hp h1 h2 hs
      refine .inl ?_
      simp only [kBody, sSeq, sSet, sSetC, sSetO, sRet, sIf, sNil, sFor, sStoC, sApp, sAug, sPop, sPar, sPar3, sAsgT, sRaise, sCallX, wipeS, scalB, xVar, xC, xOp, xUn, xChain, xAnd, xOr, xNot, xIf, xTru, xtAnd, xtOr, xtNot, xNil, xCons, xLst, xTup, xB, xSl, xoN, xoS, xBl, xYes, xiL, xi, xiRev, xCall, frD, on1, on2, bName, bPair, nList, nRep, nComp, dLs, dSub, dAdd_int, dCmp, dNeg, dInt, dTru, dMax, lim, lim2, List.map_cons, List.map_nil, List.length_cons, List.length_nil, List.append_eq, List.cons_append, List.nil_append, List.replicate, List.getElem?_cons_zero, List.getElem?_cons_succ, Option.join_some, Option.join_none, Option.bind_some, Option.map_some, Option.bind_none, Option.map_none, List.set_cons_succ, List.set_cons_zero, if_true, Nat.reduceAdd, Nat.reduceSub, Nat.reduceLeDiff, Bool.false_eq_true, if_false, dLen_li, dSl_li, cut_to, cut_from, dEq_int, dNe_int, dEq_li, dNe_li, reduceIte, li_set, dNeO_str, dNeO_lst, dNeO_li, dNeO_tup, dNeO_int, dNeO_bl, t, r, Bool.not_true]
  | non =>
    obtain ⟨x, e1, e2⟩ := repr_sm (d := .non) rfl
    have r := right_oth hp (d := .non) (fun _ z => by cases z) e1 e2 (curvel_bad (poly_not_list rfl k_nl))
    have h1 : dIsi "list" .non = _ := dIsi_of rfl k_nl
    refine .inl ?_
    simp only [kBody, kTest, sSeq, sSet, sSetC, sSetO, sRet, sIf, sNil, sFor, sStoC, sApp, sAug, sPop, sPar, sPar3, sAsgT, sRaise, sCallX, wipeS, scalB, xVar, xC, xOp, xUn, xChain, xAnd, xOr, xNot, xIf, xTru, xtAnd, xtOr, xtNot, xNil, xCons, xLst, xTup, xB, xSl, xoN, xoS, xBl, xYes, xiL, xi, xiRev, xCall, frD, on1, on2, bName, bPair, nList, nRep, nComp, dLs, dSub, dAdd_int, dCmp, dNeg, dInt, dTru, dMax, lim, lim2, List.map_cons, List.map_nil, List.length_cons, List.length_nil, List.append_eq, List.cons_append, List.nil_append, List.replicate, List.getElem?_cons_zero, List.getElem?_cons_succ, Option.join_some, Option.join_none, Option.bind_some, Option.map_some, Option.bind_none, Option.map_none, List.set_cons_succ, List.set_cons_zero, if_true, Nat.reduceAdd, Nat.reduceSub, Nat.reduceLeDiff, Bool.false_eq_true, if_false, dLen_li, dSl_li, cut_to, cut_from, dEq_int, dNe_int, dEq_li, dNe_li, reduceIte, li_set, dNeO_str, dNeO_lst, dNeO_li, dNeO_tup, dNeO_int, dNeO_bl, h1, r, Bool.not_true]
  | tup h1 h2 =>
    rename_i ds
    obtain ⟨x, e1, e2⟩ := repr_tup h1 (by omega)
    have r := right_oth hp (d := .tup ds) (fun _ z => by cases z) e1 e2 (curvel_bad (poly_not_list rfl k_tl))
    have h1 : dIsi "list" (.tup ds) = _ := dIsi_of rfl k_tl
    refine .inl ?_
    simp only [kBody, kTest, sSeq, sSet, sSetC, sSetO, sRet, sIf, sNil, sFor, sStoC, sApp, sAug, sPop, sPar, sPar3, sAsgT, sRaise, sCallX, wipeS, scalB, xVar, xC, xOp, xUn, xChain, xAnd, xOr, xNot, xIf, xTru, xtAnd, xtOr, xtNot, xNil, xCons, xLst, xTup, xB, xSl, xoN, xoS, xBl, xYes, xiL, xi, xiRev, xCall, frD, on1, on2, bName, bPair, nList, nRep, nComp, dLs, dSub, dAdd_int, dCmp, dNeg, dInt, dTru, dMax, lim, lim2, List.map_cons, List.map_nil, List.length_cons, List.length_nil, List.append_eq, List.cons_append, List.nil_append, List.replicate, List.getElem?_cons_zero, List.getElem?_cons_succ, Option.join_some, Option.join_none, Option.bind_some, Option.map_some, Option.bind_none, Option.map_none, List.set_cons_succ, List.set_cons_zero, if_true, Nat.reduceAdd, Nat.reduceSub, Nat.reduceLeDiff, Bool.false_eq_true, if_false, dLen_li, dSl_li, cut_to, cut_from, dEq_int, dNe_int, dEq_li, dNe_li, reduceIte, li_set, dNeO_str, dNeO_lst, dNeO_li, dNeO_tup, dNeO_int, dNeO_bl, h1, r, Bool.not_true]
  | str =>
    have e1 : dRepr (.str "11") = some (.str (PyData.shown (.str "11"))) := by
      unfold dRepr
      simp only [D.py, Option.bind_some]
      rw [if_pos ⟨rfl, rfl, by decide, by decide +kernel⟩]
    have r := right_oth hp (d := .str "11") (fun _ z => by cases z) e1 (by decide +kernel) (curvel_bad (poly_not_list rfl k_sl))
    have h1 : dIsi "list" (.str "11") = _ := dIsi_of rfl k_sl
    refine .inl ?_
    simp only [kBody, kTest, sSeq, sSet, sSetC, sSetO, sRet, sIf, sNil, sFor, sStoC, sApp, sAug, sPop, sPar, sPar3, sAsgT, sRaise, sCallX, wipeS, scalB, xVar, xC, xOp, xUn, xChain, xAnd, xOr, xNot, xIf, xTru, xtAnd, xtOr, xtNot, xNil, xCons, xLst, xTup, xB, xSl, xoN, xoS, xBl, xYes, xiL, xi, xiRev, xCall, frD, on1, on2, bName, bPair, nList, nRep, nComp, dLs, dSub, dAdd_int, dCmp, dNeg, dInt, dTru, dMax, lim, lim2, List.map_cons, List.map_nil, List.length_cons, List.length_nil, List.append_eq, List.cons_append, List.nil_append, List.replicate, List.getElem?_cons_zero, List.getElem?_cons_succ, Option.join_some, Option.join_none, Option.bind_some, Option.map_some, Option.bind_none, Option.map_none, List.set_cons_succ, List.set_cons_zero, if_true, Nat.reduceAdd, Nat.reduceSub, Nat.reduceLeDiff, Bool.false_eq_true, if_false, dLen_li, dSl_li, cut_to, cut_from, dEq_int, dNe_int, dEq_li, dNe_li, reduceIte, li_set, dNeO_str, dNeO_lst, dNeO_li, dNeO_tup, dNeO_int, dNeO_bl, h1, r, Bool.not_true]
theorem loop_ok {g : List D} {p : Int} (hp : Pr p) {x2 x3 x4 x5 x6 x7 x8 x10 x11 : Option D} {ds : List D} (h : ∀ d ∈ ds, Val d) (x9 : Option D) : ∃ y9, Mr.forM (bName 9) kBody ds (st9 g p x2 x3 x4 x5 x6 x7 x8 x9 x10 x11) = some (.nx (st9 g p x2 x3 x4 x5 x6 x7 x8 y9 x10 x11)) := by
  obtain ⟨s', h1, y9, rfl⟩ := forM_inv (bind := bName 9) (b := kBody) (fun _ s => ∃ y9, s = st9 g p x2 x3 x4 x5 x6 x7 x8 y9 x10 x11) (ds := ds) (k := 0) (s := st9 g p x2 x3 x4 x5 x6 x7 x8 x9 x10 x11) ⟨x9, rfl⟩ (fun i d s hd ⟨y9, hs⟩ => by
    subst hs
    exact ⟨_, _, rfl, kbody_ok hp (h d (List.mem_of_getElem? hd)), some d, rfl⟩)
  exact ⟨y9, h1⟩
end G7

set_option Elab.async false
set_option linter.all false
set_option maxRecDepth 100000
set_option maxHeartbeats 2000000
/-! the law's turn: true for each generator -/
namespace G7
open PySem PySem.Spec PyProof.Rows L2 Mr
theorem cut_init {α : Type} (xs : List α) : cutL xs none (some (-1)) = xs.take (xs.length - 1) := by
  unfold cutL
  rw [HT.sIx_none]
  have e : HT.sIx xs.length xs.length (some (-1)) = xs.length - 1 := by
    show (if (-1 : Int) < 0 then ((-1 : Int) + (xs.length : Int)).toNat else min (-1 : Int).toNat xs.length) = _
    rw [if_pos (by decide)]
    omega
  rw [e]
  simp
theorem cut_to1 {α : Type} (xs : List α) : cutL xs none (some 1) = xs.take 1 := cut_to xs 1
theorem dMul_repD {d : D} {k : Int} {n : Nat} (hk : k.toNat = n) (h1 : -100000 ≤ k) (h2 : k ≤ 100000) : dMul (.lst [d]) (.int k) = some (.lst (List.replicate n d)) := by
  show (if -1000000 ≤ k ∧ k ≤ 1000000 then lim _ _ else none) = _
  rw [if_pos ⟨by omega, by omega⟩, hk]
  have e : (List.replicate n [d]).flatten = List.replicate n d := by
    clear hk
    induction n with
    | zero => rfl
    | succ n ih => rw [List.replicate_succ, List.replicate_succ, List.flatten_cons, ih]; rfl
  rw [e]
  unfold lim
  rw [if_pos (by simp; omega)]
theorem dAdd_lst {a b : List D} (h : a.length + b.length ≤ 100000) : dAdd (.lst a) (.lst b) = some (.lst (a ++ b)) := by
  show lim _ _ = _
  unfold lim
  rw [if_pos h]
def Sb (xs : List Int) : Prop := ∀ x ∈ xs, x.natAbs < 1000
theorem Sb.app {a b : List Int} (ha : Sb a) (hb : Sb b) : Sb (a ++ b) := fun x hx => (List.mem_append.mp hx).elim (ha x) (hb x)
theorem Sb.take {a : List Int} (ha : Sb a) (n : Nat) : Sb (a.take n) := fun x hx => ha x (List.mem_of_mem_take hx)
theorem Sb.drop {a : List Int} (ha : Sb a) (n : Nat) : Sb (a.drop n) := fun x hx => ha x (List.mem_of_mem_drop hx)
theorem Sb.one {c : Int} (h : c.natAbs < 1000) : Sb [c] := fun x hx => by rw [List.mem_singleton.mp hx]; exact h
theorem Sb.rep (n : Nat) : Sb (List.replicate n 0) := fun x hx => by rw [List.eq_of_mem_replicate hx]; decide
theorem Num.sb {p : Int} (hp : Pr p) {xs : List Int} (h : Num p xs) : Sb xs := fun x hx => by have := h x hx; have := hp.le; omega
theorem Sb.val {a : List Int} (h : Sb a) (hl : a.length ≤ 900) : Val (li a) := .lst (ints_sm h) (by simpa using hl)
/-- what isn't a curve's polynomial if it has a double factor -/
theorem pol_false {p : Int} (hp : Pr p) {xs : List Int} (h : Pol p xs) (hl : xs.length ≤ 900) (hs : xs ≠ [] → simB p xs = false) : m_is_curve_polynomial [.int p, li xs] = some (.ret (.bl false)) := by
  cases hq : powB xs.length with
  | false => exact curvel_pow h hp (by omega) (.inl hq)
  | true =>
    have hne : xs ≠ [] := fun z => by rw [z] at hq; cases hq
    by_cases h1 : xs.getLast hne = 1
    · rw [curvel_ok h hp (by omega) hne hq h1, hs hne]
    · exact curvel_pow h hp (by omega) (.inr ⟨hne, h1⟩)
theorem right_simB {p : Int} (hp : Pr p) {xs : List Int} (h : Pol p xs) (hl : xs.length ≤ 900) (hn : xs ≠ []) (hb : powB xs.length = true) (h1 : xs.getLast hn = 1) : m_Lcurve_right [.int p, li xs, .bl (simB p xs)] = some (.ret (.bl true)) := by
  have e := curvel_ok h hp (by omega) hn hb h1
  cases hs : simB p xs with
  | true => rw [hs] at e; exact right_good hp h.num hl e
  | false =>
    rw [hs] at e
    exact right_lst hp (ints_sm (Num.sb hp h.num)) (by simp; omega) e
theorem dNe_bl (a b : Bool) : dNe (.bl a) (.bl b) = some (.bl (!(a == b))) := by
  unfold dNe dEqB
  simp only [D.py, Option.bind_some]
  rw [show ∀ c, SeqAt.shaped (.bool c) = true by decide +kernel, show ∀ c, SeqAt.shaped (.bool c) = true by decide +kernel]
  rfl
noncomputable def R4m (m : List D → Option FR) : S → Option Out := (sSetZ 0 5 (zCall m (zCons 0 (zPure [0] 0 (xVar 1)) (zCons 0 (zPure [0] 0 (xCall m (xCons (xVar 1) (xCons (xVar 4) (xCons (xVar 4) xNil))))) (zCons 0 (zIf [0] 0 (xBl (xOp (dCmp pLt) (xVar 2) (xC (.int 5)))) (zLst (zCons 0 (zDraw 0 m_Lrandom (zCons 0 (zPure [0] 0 (xVar 1)) (zNil 0))) (zCons 0 (zPure [0] 0 (xC (.int 1))) (zNil 0)))) (zOp 0 dAdd (zComp 0 [] (ziPure [0] 0 (xi dRng1 (xCons (xC (.int 3)) xNil))) (bName 10) [10] (zDraw 0 m_Lrandom (zCons 0 (zPure [0] 0 (xVar 1)) (zNil 0)))) (zPure [0] 0 (xLst (xCons (xC (.int 1)) xNil))))) (zNil 0))))))
theorem R4_eq : R4 = R4m m_Ltimes := rfl
theorem R4_a {m : List D → Option FR} {p c v N : Int} {g4 g5 : List D} {o q tw : D} (t1 : m [.int p, .lst [.int c, .int 1], .lst [.int c, .int 1]] = some (.ret q)) (e1 : m_Lrandom g4 [.int p] = some (.int v, g5)) (e5 : pLt N 5 = true) (t2 : m [.int p, q, .lst [.int v, .int 1]] = some (.ret tw)) :
    R4m m [some (.lst g4), some (.int p), some (.int N), some o, some (.lst [.int c, .int 1]), none, none, none, none, none, none, none] = some (.nx [some (.lst g5), some (.int p), some (.int N), some o, some (.lst [.int c, .int 1]), some tw, none, none, none, none, none, none]) := by
  simp only [R4m, sSetZ, sRetZ, zPure, zOp, zNil, zCons, zLst, zCall, zDraw, gget, gset, ziPure, zIf, zComp, sSeq, sSet, sSetC, sSetO, sRet, sIf, sNil, sFor, sStoC, sApp, sAug, sPop, sPar, sPar3, sAsgT, sRaise, sCallX, wipeS, scalB, xVar, xC, xOp, xUn, xChain, xAnd, xOr, xNot, xIf, xTru, xtAnd, xtOr, xtNot, xNil, xCons, xLst, xTup, xB, xSl, xoN, xoS, xBl, xYes, xiL, xi, xiRev, xCall, frD, on1, on2, bName, bPair, nList, nRep, nComp, dLs, dSub, dAdd_int, dCmp, dNeg, dInt, dTru, dMax, lim, lim2, List.map_cons, List.map_nil, List.length_cons, List.length_nil, List.append_eq, List.cons_append, List.nil_append, List.replicate, List.getElem?_cons_zero, List.getElem?_cons_succ, Option.join_some, Option.join_none, Option.bind_some, Option.map_some, Option.bind_none, Option.map_none, List.set_cons_succ, List.set_cons_zero, if_true, Nat.reduceAdd, Nat.reduceSub, Nat.reduceLeDiff, Bool.false_eq_true, if_false, dLen_li, dSl_li, cut_to, cut_from, dEq_int, dNe_int, dEq_li, dNe_li, reduceIte, li_set, dNeO_str, dNeO_lst, dNeO_li, dNeO_tup, dNeO_int, dNeO_bl, t1, e5, e1, t2]
theorem R4_b {m : List D → Option FR} {p c N : Int} {g4 g5 vs rs : List D} {o q h tw : D} (t1 : m [.int p, .lst [.int c, .int 1], .lst [.int c, .int 1]] = some (.ret q)) (e5 : pLt N 5 = false) (e7 : dRng1 [.int 3] = some rs) (e8 : rs.length ≤ 100000)
    (e1 : compZ 0 (bName 10) [10] (zDraw 0 m_Lrandom (zCons 0 (zPure [0] 0 (xVar 1)) (zNil 0))) [some (.lst g4), some (.int p), some (.int N), some o, some (.lst [.int c, .int 1]), none, none, none, none, none, none, none] rs g4 = some (vs, g5)) (e6 : dAdd (.lst vs) (.lst [.int 1]) = some h) (t2 : m [.int p, q, h] = some (.ret tw)) :
    R4m m [some (.lst g4), some (.int p), some (.int N), some o, some (.lst [.int c, .int 1]), none, none, none, none, none, none, none] = some (.nx [some (.lst g5), some (.int p), some (.int N), some o, some (.lst [.int c, .int 1]), some tw, none, none, none, none, none, none]) := by
  simp only [R4m, sSetZ, sRetZ, zPure, zOp, zNil, zCons, zLst, zCall, zDraw, gget, gset, ziPure, zIf, zComp, sSeq, sSet, sSetC, sSetO, sRet, sIf, sNil, sFor, sStoC, sApp, sAug, sPop, sPar, sPar3, sAsgT, sRaise, sCallX, wipeS, scalB, xVar, xC, xOp, xUn, xChain, xAnd, xOr, xNot, xIf, xTru, xtAnd, xtOr, xtNot, xNil, xCons, xLst, xTup, xB, xSl, xoN, xoS, xBl, xYes, xiL, xi, xiRev, xCall, frD, on1, on2, bName, bPair, nList, nRep, nComp, dLs, dSub, dAdd_int, dCmp, dNeg, dInt, dTru, dMax, lim, lim2, List.map_cons, List.map_nil, List.length_cons, List.length_nil, List.append_eq, List.cons_append, List.nil_append, List.replicate, List.getElem?_cons_zero, List.getElem?_cons_succ, Option.join_some, Option.join_none, Option.bind_some, Option.map_some, Option.bind_none, Option.map_none, List.set_cons_succ, List.set_cons_zero, if_true, Nat.reduceAdd, Nat.reduceSub, Nat.reduceLeDiff, Bool.false_eq_true, if_false, dLen_li, dSl_li, cut_to, cut_from, dEq_int, dNe_int, dEq_li, dNe_li, reduceIte, li_set, dNeO_str, dNeO_lst, dNeO_li, dNeO_tup, dNeO_int, dNeO_bl, t1, e5, e7, e1, e8, e6, t2]
theorem right_ok {gs : List D} (hg : Gen 2000 gs) : ∃ gs', m_Lright gs [] = some (.bl true, gs') := by
  -- the prime
  obtain ⟨p, g1, d1, hp, hg1⟩ := prime_draw (by decide) hg
  have hpos := hp.pos
  have hle := hp.le
  have r0 : R0 [some (.lst gs), none, none, none, none, none, none, none, none, none, none, none] = some (.nx [some (.lst g1), some (.int p), none, none, none, none, none, none, none, none, none, none]) := by
    simp only [R0, sSetZ, sRetZ, zPure, zOp, zNil, zCons, zLst, zCall, zDraw, gget, gset, ziPure, zIf, zComp, sSeq, sSet, sSetC, sSetO, sRet, sIf, sNil, sFor, sStoC, sApp, sAug, sPop, sPar, sPar3, sAsgT, sRaise, sCallX, wipeS, scalB, xVar, xC, xOp, xUn, xChain, xAnd, xOr, xNot, xIf, xTru, xtAnd, xtOr, xtNot, xNil, xCons, xLst, xTup, xB, xSl, xoN, xoS, xBl, xYes, xiL, xi, xiRev, xCall, frD, on1, on2, bName, bPair, nList, nRep, nComp, dLs, dSub, dAdd_int, dCmp, dNeg, dInt, dTru, dMax, lim, lim2, List.map_cons, List.map_nil, List.length_cons, List.length_nil, List.append_eq, List.cons_append, List.nil_append, List.replicate, List.getElem?_cons_zero, List.getElem?_cons_succ, Option.join_some, Option.join_none, Option.bind_some, Option.map_some, Option.bind_none, Option.map_none, List.set_cons_succ, List.set_cons_zero, if_true, Nat.reduceAdd, Nat.reduceSub, Nat.reduceLeDiff, Bool.false_eq_true, if_false, dLen_li, dSl_li, cut_to, cut_from, dEq_int, dNe_int, dEq_li, dNe_li, reduceIte, li_set, dNeO_str, dNeO_lst, dNeO_li, dNeO_tup, dNeO_int, dNeO_bl, d1]
  -- the size
  obtain ⟨n, hn, N, hN, g2, r1, hg2⟩ : ∃ n : Nat, (n = 1 ∨ n = 3 ∨ n = 5 ∨ n = 7) ∧ ∃ N : Int, N = (n : Int) ∧ ∃ g2, R1 [some (.lst g1), some (.int p), none, none, none, none, none, none, none, none, none, none] = some (.nx [some (.lst g2), some (.int p), some (.int N), none, none, none, none, none, none, none, none, none]) ∧ Gen 2002 g2 := by
    obtain ⟨v, g2, e1, e2, e3, e4⟩ := random_ok (by decide) hg1 (b := 4) (by decide) (by decide)
    have key : ∀ N : Int, dIx (.lst [.int 1, .int 3, .int 5, .int 7]) (.int v) = some (.int N) → R1 [some (.lst g1), some (.int p), none, none, none, none, none, none, none, none, none, none] = some (.nx [some (.lst g2), some (.int p), some (.int N), none, none, none, none, none, none, none, none, none]) := fun N hN => by
      simp only [R1, sSetZ, sRetZ, zPure, zOp, zNil, zCons, zLst, zCall, zDraw, gget, gset, ziPure, zIf, zComp, sSeq, sSet, sSetC, sSetO, sRet, sIf, sNil, sFor, sStoC, sApp, sAug, sPop, sPar, sPar3, sAsgT, sRaise, sCallX, wipeS, scalB, xVar, xC, xOp, xUn, xChain, xAnd, xOr, xNot, xIf, xTru, xtAnd, xtOr, xtNot, xNil, xCons, xLst, xTup, xB, xSl, xoN, xoS, xBl, xYes, xiL, xi, xiRev, xCall, frD, on1, on2, bName, bPair, nList, nRep, nComp, dLs, dSub, dAdd_int, dCmp, dNeg, dInt, dTru, dMax, lim, lim2, List.map_cons, List.map_nil, List.length_cons, List.length_nil, List.append_eq, List.cons_append, List.nil_append, List.replicate, List.getElem?_cons_zero, List.getElem?_cons_succ, Option.join_some, Option.join_none, Option.bind_some, Option.map_some, Option.bind_none, Option.map_none, List.set_cons_succ, List.set_cons_zero, if_true, Nat.reduceAdd, Nat.reduceSub, Nat.reduceLeDiff, Bool.false_eq_true, if_false, dLen_li, dSl_li, cut_to, cut_from, dEq_int, dNe_int, dEq_li, dNe_li, reduceIte, li_set, dNeO_str, dNeO_lst, dNeO_li, dNeO_tup, dNeO_int, dNeO_bl, e1, hN]
    have hv : v = 0 ∨ v = 1 ∨ v = 2 ∨ v = 3 := by omega
    rcases hv with rfl | rfl | rfl | rfl
    · exact ⟨1, by decide, 1, rfl, g2, key 1 rfl, e4⟩
    · exact ⟨3, by decide, 3, rfl, g2, key 3 rfl, e4⟩
    · exact ⟨5, by decide, 5, rfl, g2, key 5 rfl, e4⟩
    · exact ⟨7, by decide, 7, rfl, g2, key 7 rfl, e4⟩
  have hn7 : n ≤ 7 := by omega
  -- one
  have rng : ∀ k : Nat, k ≤ 100 → dRng1 [.int (k : Nat)] = some (dRng 0 k) := fun k hk => by
    show (if (k : Int) ≤ 100000 ∧ -100000 ≤ (k : Int) then _ else _) = _
    rw [if_pos ⟨by omega, by omega⟩]; rfl
  have rngN : dRng1 [.int N] = some (dRng 0 n) := by rw [hN]; exact rng n (by omega)
  have rlen : ∀ k : Nat, (dRng 0 k).length = k := fun k => by simp [dRng]
  obtain ⟨ds, g3, r2, hdl, hds, hg3⟩ : ∃ ds : List Int, ∃ g3, R2 [some (.lst g2), some (.int p), some (.int N), none, none, none, none, none, none, none, none, none] = some (.nx [some (.lst g3), some (.int p), some (.int N), some (li (ds ++ [1])), none, none, none, none, none, none, none, none]) ∧ ds.length = n ∧ Num p ds ∧ Gen (2002 + n) g3 := by
    obtain ⟨vs, g3, e1, e2, e3, e4⟩ := comp_draw hpos hle (x0 := some (.lst g2)) (x2 := some (.int N)) (x3 := none) (x4 := none) (x5 := none) (x6 := none) (x7 := none) (x8 := none) (x9 := none) (x10 := none) (x11 := none) (dRng 0 n) 2002 g2 (by rw [rlen]; omega) hg2
    rw [rlen] at e2 e4
    have e5 : (dRng 0 n).length ≤ 100000 := by rw [rlen]; omega
    have e6 : dAdd (.lst (vs.map D.int)) (.lst [.int 1]) = some (li (vs ++ [1])) := dAdd_li (a := vs) (b := [1]) (by simp; omega)
    refine ⟨vs, g3, ?_, e2, e3, e4⟩
    unfold eltD at e1
    simp only [R2, sSetZ, sRetZ, zPure, zOp, zNil, zCons, zLst, zCall, zDraw, gget, gset, ziPure, zIf, zComp, sSeq, sSet, sSetC, sSetO, sRet, sIf, sNil, sFor, sStoC, sApp, sAug, sPop, sPar, sPar3, sAsgT, sRaise, sCallX, wipeS, scalB, xVar, xC, xOp, xUn, xChain, xAnd, xOr, xNot, xIf, xTru, xtAnd, xtOr, xtNot, xNil, xCons, xLst, xTup, xB, xSl, xoN, xoS, xBl, xYes, xiL, xi, xiRev, xCall, frD, on1, on2, bName, bPair, nList, nRep, nComp, dLs, dSub, dAdd_int, dCmp, dNeg, dInt, dTru, dMax, lim, lim2, List.map_cons, List.map_nil, List.length_cons, List.length_nil, List.append_eq, List.cons_append, List.nil_append, List.replicate, List.getElem?_cons_zero, List.getElem?_cons_succ, Option.join_some, Option.join_none, Option.bind_some, Option.map_some, Option.bind_none, Option.map_none, List.set_cons_succ, List.set_cons_zero, if_true, Nat.reduceAdd, Nat.reduceSub, Nat.reduceLeDiff, Bool.false_eq_true, if_false, dLen_li, dSl_li, cut_to, cut_from, dEq_int, dNe_int, dEq_li, dNe_li, reduceIte, li_set, dNeO_str, dNeO_lst, dNeO_li, dNeO_tup, dNeO_int, dNeO_bl, rngN, e1, e5, e6]
  have hone : Pol p (ds ++ [1]) := ⟨Num.append hds fun x h => by rw [List.mem_singleton.mp h]; have := hp.ge; omega, tr_snoc (by decide)⟩
  have honel : (ds ++ [1]).length = n + 1 := by simp [hdl]
  have hne : ds ++ [1] ≠ [] := by simp
  have hlast : (ds ++ [1]).getLast hne = 1 := by simp
  have hpw : powB (ds ++ [1]).length = true := by rw [honel]; rcases hn with rfl | rfl | rfl | rfl <;> rfl
  -- low
  obtain ⟨c, g4, e41, hc0, hc1, hg4⟩ := random_ok (by omega) hg3 hpos hle
  have r3 : R3 [some (.lst g3), some (.int p), some (.int N), some (li (ds ++ [1])), none, none, none, none, none, none, none, none] = some (.nx [some (.lst g4), some (.int p), some (.int N), some (li (ds ++ [1])), some (.lst [.int c, .int 1]), none, none, none, none, none, none, none]) := by
    simp only [R3, sSetZ, sRetZ, zPure, zOp, zNil, zCons, zLst, zCall, zDraw, gget, gset, ziPure, zIf, zComp, sSeq, sSet, sSetC, sSetO, sRet, sIf, sNil, sFor, sStoC, sApp, sAug, sPop, sPar, sPar3, sAsgT, sRaise, sCallX, wipeS, scalB, xVar, xC, xOp, xUn, xChain, xAnd, xOr, xNot, xIf, xTru, xtAnd, xtOr, xtNot, xNil, xCons, xLst, xTup, xB, xSl, xoN, xoS, xBl, xYes, xiL, xi, xiRev, xCall, frD, on1, on2, bName, bPair, nList, nRep, nComp, dLs, dSub, dAdd_int, dCmp, dNeg, dInt, dTru, dMax, lim, lim2, List.map_cons, List.map_nil, List.length_cons, List.length_nil, List.append_eq, List.cons_append, List.nil_append, List.replicate, List.getElem?_cons_zero, List.getElem?_cons_succ, Option.join_some, Option.join_none, Option.bind_some, Option.map_some, Option.bind_none, Option.map_none, List.set_cons_succ, List.set_cons_zero, if_true, Nat.reduceAdd, Nat.reduceSub, Nat.reduceLeDiff, Bool.false_eq_true, if_false, dLen_li, dSl_li, cut_to, cut_from, dEq_int, dNe_int, dEq_li, dNe_li, reduceIte, li_set, dNeO_str, dNeO_lst, dNeO_li, dNeO_tup, dNeO_int, dNeO_bl, e41]
  -- twice
  have hlow : Num p [c, 1] := fun x h => by
    have hge := hp.ge
    rcases List.mem_cons.mp h with rfl | h
    · exact ⟨hc0, hc1⟩
    · rw [List.mem_singleton.mp h]; omega
  have t1 : m_Ltimes [.int p, .lst [.int c, .int 1], .lst [.int c, .int 1]] = some (.ret (li (trimI ((mulI [c, 1] [c, 1]).map (· % p))))) := Ltimes_ok hpos (a := [c, 1]) (b := [c, 1]) (Num.sm hp hlow) (by simp) (by simp)
  have hql : (trimI ((mulI [c, 1] [c, 1]).map (· % p))).length ≤ 4 := by
    have := trimI_len ((mulI [c, 1] [c, 1]).map (· % p))
    have h2 : ((mulI [c, 1] [c, 1]).map (· % p)).length = 4 := by rw [List.length_map]; unfold mulI; rw [mulAcc_len]; rfl
    omega
  obtain ⟨hs, g5, r4, hhl, hhn, hg5⟩ : ∃ hs : List Int, ∃ g5, R4 [some (.lst g4), some (.int p), some (.int N), some (li (ds ++ [1])), some (.lst [.int c, .int 1]), none, none, none, none, none, none, none] = some (.nx [some (.lst g5), some (.int p), some (.int N), some (li (ds ++ [1])), some (.lst [.int c, .int 1]), some (li (trimI ((mulI (trimI ((mulI [c, 1] [c, 1]).map (· % p))) hs).map (· % p)))), none, none, none, none, none, none]) ∧ hs.length ≤ 4 ∧ Num p hs ∧ Gen 3000 g5 := by
    have gup : ∀ {a : Nat} {g : List D}, a ≤ 3000 → Gen a g → Gen 3000 g := fun ha h => by
      obtain ⟨x, y, z, e1, e2, e3⟩ := h.ex
      exact ⟨x, y, z, e1, e2, by omega⟩
    have h1 : 0 ≤ (1 : Int) ∧ (1 : Int) < p := by have := hp.ge; omega
    by_cases q : n < 5
    · obtain ⟨v, g5, e1, e2, e3, e4⟩ := random_ok (by omega) hg4 hpos hle
      have hh : Num p [v, 1] := fun x h => by
        rcases List.mem_cons.mp h with rfl | h
        · exact ⟨e2, e3⟩
        · rw [List.mem_singleton.mp h]; exact h1
      have t2 : m_Ltimes [.int p, li (trimI ((mulI [c, 1] [c, 1]).map (· % p))), .lst [.int v, .int 1]] = _ := Ltimes_ok hpos (a := trimI ((mulI [c, 1] [c, 1]).map (· % p))) (b := [v, 1]) (Num.sm hp hh) (by omega) (by simp)
      have e5 : pLt N 5 = true := by simp; omega
      refine ⟨[v, 1], g5, ?_, by simp, hh, gup (by omega) e4⟩
      rw [R4_eq]
      exact R4_a t1 e1 e5 t2
    · obtain ⟨vs, g5, e1, e2, e3, e4⟩ := comp_draw hpos hle (x0 := some (.lst g4)) (x2 := some (.int N)) (x3 := some (li (ds ++ [1]))) (x4 := some (.lst [.int c, .int 1])) (x5 := none) (x6 := none) (x7 := none) (x8 := none) (x9 := none) (x10 := none) (x11 := none) (dRng 0 3) _ g4 (by rw [rlen]; omega) hg4
      rw [rlen] at e2 e4
      have hh : Num p (vs ++ [1]) := Num.append e3 fun x h => by rw [List.mem_singleton.mp h]; exact h1
      have t2 := Ltimes_ok hpos (a := trimI ((mulI [c, 1] [c, 1]).map (· % p))) (b := vs ++ [1]) (Num.sm hp hh) (by omega) (by simp; omega)
      have e5 : pLt N 5 = false := by simp; omega
      have e6 : dAdd (.lst (vs.map D.int)) (.lst [.int 1]) = some (li (vs ++ [1])) := dAdd_li (a := vs) (b := [1]) (by simp; omega)
      have e7 : dRng1 [.int 3] = some (dRng 0 3) := rng 3 (by omega)
      have e8 : (dRng 0 3).length ≤ 100000 := by rw [rlen]; omega
      refine ⟨vs ++ [1], g5, ?_, by simp; omega, hh, gup (by omega) e4⟩
      unfold eltD at e1
      rw [R4_eq]
      exact R4_b t1 e5 e7 e8 e1 e6 t2
  obtain ⟨tw, htw⟩ : ∃ tw, tw = trimI ((mulI (trimI ((mulI [c, 1] [c, 1]).map (· % p))) hs).map (· % p)) := ⟨_, rfl⟩
  rw [← htw] at r4
  have htwp : Pol p tw := by rw [htw]; exact ⟨Num.trim hpos (num_mod hpos _), trimI_tr _⟩
  have htwl : tw.length ≤ 8 := by
    rw [htw]
    have := trimI_len ((mulI (trimI ((mulI [c, 1] [c, 1]).map (· % p))) hs).map (· % p))
    have h2 : ((mulI (trimI ((mulI [c, 1] [c, 1]).map (· % p))) hs).map (· % p)).length = (trimI ((mulI [c, 1] [c, 1]).map (· % p))).length + hs.length := by rw [List.length_map]; unfold mulI; rw [mulAcc_len]; simp
    omega
  -- the looks
  have s1 := Lsimple_ok hp hone hne (by omega)
  have c1 := right_simB hp hone (by omega) hne hpw hlast
  have c2 : m_Lcurve_right [.int p, li tw, .bl false] = some (.ret (.bl true)) :=
    right_lst hp (ints_sm (Num.sb hp htwp.num)) (by simp; omega) (pol_false hp htwp (by omega) fun h => twice_no hp htwp h htw)
  have r5 : R5 [some (.lst g5), some (.int p), some (.int N), some (li (ds ++ [1])), some (.lst [.int c, .int 1]), some (li tw), none, none, none, none, none, none] = some (.nx [some (.lst g5), some (.int p), some (.int N), some (li (ds ++ [1])), some (.lst [.int c, .int 1]), some (li tw), none, none, none, none, none, none]) := by
    by_cases q1 : p < 7
    · have e1 : pLt p 7 = true := decide_eq_true q1
      by_cases q2 : n < 6
      · have e2 : pLt N 6 = true := by simp; omega
        have hp35 : p = 3 ∨ p = 5 := by rcases hp with h | h | h | h | h <;> omega
        have e3 := is_double_ok hp35 hone (by omega)
        have e4 := q_bl (simB p (ds ++ [1])) (dblB p (ds ++ [1]))
        rw [simple_double hp35 (by omega : n = 1 ∨ n = 3 ∨ n = 5) hdl hds] at e4
        simp only [R5, sSeq, sSet, sSetC, sSetO, sRet, sIf, sNil, sFor, sStoC, sApp, sAug, sPop, sPar, sPar3, sAsgT, sRaise, sCallX, wipeS, scalB, xVar, xC, xOp, xUn, xChain, xAnd, xOr, xNot, xIf, xTru, xtAnd, xtOr, xtNot, xNil, xCons, xLst, xTup, xB, xSl, xoN, xoS, xBl, xYes, xiL, xi, xiRev, xCall, frD, on1, on2, bName, bPair, nList, nRep, nComp, dLs, dSub, dAdd_int, dCmp, dNeg, dInt, dTru, dMax, lim, lim2, List.map_cons, List.map_nil, List.length_cons, List.length_nil, List.append_eq, List.cons_append, List.nil_append, List.replicate, List.getElem?_cons_zero, List.getElem?_cons_succ, Option.join_some, Option.join_none, Option.bind_some, Option.map_some, Option.bind_none, Option.map_none, List.set_cons_succ, List.set_cons_zero, if_true, Nat.reduceAdd, Nat.reduceSub, Nat.reduceLeDiff, Bool.false_eq_true, if_false, dLen_li, dSl_li, cut_to, cut_from, dEq_int, dNe_int, dEq_li, dNe_li, reduceIte, li_set, dNeO_str, dNeO_lst, dNeO_li, dNeO_tup, dNeO_int, dNeO_bl, s1, c1, Bool.not_true, e1, e2, e3, e4]
      · have e2 : pLt N 6 = false := by simp; omega
        simp only [R5, sSeq, sSet, sSetC, sSetO, sRet, sIf, sNil, sFor, sStoC, sApp, sAug, sPop, sPar, sPar3, sAsgT, sRaise, sCallX, wipeS, scalB, xVar, xC, xOp, xUn, xChain, xAnd, xOr, xNot, xIf, xTru, xtAnd, xtOr, xtNot, xNil, xCons, xLst, xTup, xB, xSl, xoN, xoS, xBl, xYes, xiL, xi, xiRev, xCall, frD, on1, on2, bName, bPair, nList, nRep, nComp, dLs, dSub, dAdd_int, dCmp, dNeg, dInt, dTru, dMax, lim, lim2, List.map_cons, List.map_nil, List.length_cons, List.length_nil, List.append_eq, List.cons_append, List.nil_append, List.replicate, List.getElem?_cons_zero, List.getElem?_cons_succ, Option.join_some, Option.join_none, Option.bind_some, Option.map_some, Option.bind_none, Option.map_none, List.set_cons_succ, List.set_cons_zero, if_true, Nat.reduceAdd, Nat.reduceSub, Nat.reduceLeDiff, Bool.false_eq_true, if_false, dLen_li, dSl_li, cut_to, cut_from, dEq_int, dNe_int, dEq_li, dNe_li, reduceIte, li_set, dNeO_str, dNeO_lst, dNeO_li, dNeO_tup, dNeO_int, dNeO_bl, s1, c1, Bool.not_true, e1, e2]
    · have e1 : pLt p 7 = false := decide_eq_false q1
      simp only [R5, sSeq, sSet, sSetC, sSetO, sRet, sIf, sNil, sFor, sStoC, sApp, sAug, sPop, sPar, sPar3, sAsgT, sRaise, sCallX, wipeS, scalB, xVar, xC, xOp, xUn, xChain, xAnd, xOr, xNot, xIf, xTru, xtAnd, xtOr, xtNot, xNil, xCons, xLst, xTup, xB, xSl, xoN, xoS, xBl, xYes, xiL, xi, xiRev, xCall, frD, on1, on2, bName, bPair, nList, nRep, nComp, dLs, dSub, dAdd_int, dCmp, dNeg, dInt, dTru, dMax, lim, lim2, List.map_cons, List.map_nil, List.length_cons, List.length_nil, List.append_eq, List.cons_append, List.nil_append, List.replicate, List.getElem?_cons_zero, List.getElem?_cons_succ, Option.join_some, Option.join_none, Option.bind_some, Option.map_some, Option.bind_none, Option.map_none, List.set_cons_succ, List.set_cons_zero, if_true, Nat.reduceAdd, Nat.reduceSub, Nat.reduceLeDiff, Bool.false_eq_true, if_false, dLen_li, dSl_li, cut_to, cut_from, dEq_int, dNe_int, dEq_li, dNe_li, reduceIte, li_set, dNeO_str, dNeO_lst, dNeO_li, dNeO_tup, dNeO_int, dNeO_bl, s1, c1, Bool.not_true, e1]
  have r6 : R6 [some (.lst g5), some (.int p), some (.int N), some (li (ds ++ [1])), some (.lst [.int c, .int 1]), some (li tw), none, none, none, none, none, none] = some (.nx [some (.lst g5), some (.int p), some (.int N), some (li (ds ++ [1])), some (.lst [.int c, .int 1]), some (li tw), none, none, none, none, none, none]) := by
    simp only [R6, sSeq, sSet, sSetC, sSetO, sRet, sIf, sNil, sFor, sStoC, sApp, sAug, sPop, sPar, sPar3, sAsgT, sRaise, sCallX, wipeS, scalB, xVar, xC, xOp, xUn, xChain, xAnd, xOr, xNot, xIf, xTru, xtAnd, xtOr, xtNot, xNil, xCons, xLst, xTup, xB, xSl, xoN, xoS, xBl, xYes, xiL, xi, xiRev, xCall, frD, on1, on2, bName, bPair, nList, nRep, nComp, dLs, dSub, dAdd_int, dCmp, dNeg, dInt, dTru, dMax, lim, lim2, List.map_cons, List.map_nil, List.length_cons, List.length_nil, List.append_eq, List.cons_append, List.nil_append, List.replicate, List.getElem?_cons_zero, List.getElem?_cons_succ, Option.join_some, Option.join_none, Option.bind_some, Option.map_some, Option.bind_none, Option.map_none, List.set_cons_succ, List.set_cons_zero, if_true, Nat.reduceAdd, Nat.reduceSub, Nat.reduceLeDiff, Bool.false_eq_true, if_false, dLen_li, dSl_li, cut_to, cut_from, dEq_int, dNe_int, dEq_li, dNe_li, reduceIte, li_set, dNeO_str, dNeO_lst, dNeO_li, dNeO_tup, dNeO_int, dNeO_bl, c2, Bool.not_true]
  -- at
  obtain ⟨k, hk, K, hK, g6, r7, hg6⟩ : ∃ k : Nat, k < n ∧ ∃ K : Int, K = (k : Int) ∧ ∃ g6, R7 [some (.lst g5), some (.int p), some (.int N), some (li (ds ++ [1])), some (.lst [.int c, .int 1]), some (li tw), none, none, none, none, none, none] = some (.nx [some (.lst g6), some (.int p), some (.int N), some (li (ds ++ [1])), some (.lst [.int c, .int 1]), some (li tw), some (.int K), none, none, none, none, none]) ∧ Gen 3001 g6 := by
    obtain ⟨v, g6, e1, e2, e3, e4⟩ := random_ok (by decide) hg5 (b := N) (by omega) (by omega)
    refine ⟨v.toNat, by omega, v, by omega, g6, ?_, e4⟩
    simp only [R7, sSetZ, sRetZ, zPure, zOp, zNil, zCons, zLst, zCall, zDraw, gget, gset, ziPure, zIf, zComp, sSeq, sSet, sSetC, sSetO, sRet, sIf, sNil, sFor, sStoC, sApp, sAug, sPop, sPar, sPar3, sAsgT, sRaise, sCallX, wipeS, scalB, xVar, xC, xOp, xUn, xChain, xAnd, xOr, xNot, xIf, xTru, xtAnd, xtOr, xtNot, xNil, xCons, xLst, xTup, xB, xSl, xoN, xoS, xBl, xYes, xiL, xi, xiRev, xCall, frD, on1, on2, bName, bPair, nList, nRep, nComp, dLs, dSub, dAdd_int, dCmp, dNeg, dInt, dTru, dMax, lim, lim2, List.map_cons, List.map_nil, List.length_cons, List.length_nil, List.append_eq, List.cons_append, List.nil_append, List.replicate, List.getElem?_cons_zero, List.getElem?_cons_succ, Option.join_some, Option.join_none, Option.bind_some, Option.map_some, Option.bind_none, Option.map_none, List.set_cons_succ, List.set_cons_zero, if_true, Nat.reduceAdd, Nat.reduceSub, Nat.reduceLeDiff, Bool.false_eq_true, if_false, dLen_li, dSl_li, cut_to, cut_from, dEq_int, dNe_int, dEq_li, dNe_li, reduceIte, li_set, dNeO_str, dNeO_lst, dNeO_li, dNeO_tup, dNeO_int, dNeO_bl, e1]
  -- other
  obtain ⟨v, g7, e71, hv0, hv1, hg7⟩ := random_ok (by decide) hg6 hpos hle
  obtain ⟨es, hes⟩ : ∃ es, es = ds.take k ++ [v] ++ ds.drop (k + 1) := ⟨_, rfl⟩
  have hesn : Num p es := by
    rw [hes]
    exact Num.append (Num.append (hds.take k) fun x h => by rw [List.mem_singleton.mp h]; exact ⟨hv0, hv1⟩) (hds.drop (k + 1))
  have hesl : es.length = n := by rw [hes]; simp; omega
  have r8 : R8 [some (.lst g6), some (.int p), some (.int N), some (li (ds ++ [1])), some (.lst [.int c, .int 1]), some (li tw), some (.int K), none, none, none, none, none] = some (.nx [some (.lst g7), some (.int p), some (.int N), some (li (ds ++ [1])), some (.lst [.int c, .int 1]), some (li tw), some (.int K), some (li (es ++ [1])), none, none, none, none]) := by
    have a1 : cutL (ds ++ [1]) none (some K) = (ds ++ [1]).take k := by rw [hK]; exact cut_to _ k
    have a0 : cutL (ds ++ [1]) (some (K + 1)) none = (ds ++ [1]).drop (k + 1) := by
      have : K + 1 = ((k + 1 : Nat) : Int) := by omega
      rw [this]; exact cut_from _ (k + 1)
    have a2 : dAdd (li ((ds ++ [1]).take k)) (.lst [.int v]) = some (li ((ds ++ [1]).take k ++ [v])) := dAdd_li (b := [v]) (by simp; omega)
    have a3 : dAdd (li ((ds ++ [1]).take k ++ [v])) (li ((ds ++ [1]).drop (k + 1))) = some (li ((ds ++ [1]).take k ++ [v] ++ (ds ++ [1]).drop (k + 1))) := dAdd_li (by simp; omega)
    have a4 : (ds ++ [1]).take k ++ [v] ++ (ds ++ [1]).drop (k + 1) = es ++ [1] := by
      rw [hes, List.take_append_of_le_length (by omega), List.drop_append_of_le_length (by omega)]
      simp
    simp only [R8, sSetZ, sRetZ, zPure, zOp, zNil, zCons, zLst, zCall, zDraw, gget, gset, ziPure, zIf, zComp, sSeq, sSet, sSetC, sSetO, sRet, sIf, sNil, sFor, sStoC, sApp, sAug, sPop, sPar, sPar3, sAsgT, sRaise, sCallX, wipeS, scalB, xVar, xC, xOp, xUn, xChain, xAnd, xOr, xNot, xIf, xTru, xtAnd, xtOr, xtNot, xNil, xCons, xLst, xTup, xB, xSl, xoN, xoS, xBl, xYes, xiL, xi, xiRev, xCall, frD, on1, on2, bName, bPair, nList, nRep, nComp, dLs, dSub, dAdd_int, dCmp, dNeg, dInt, dTru, dMax, lim, lim2, List.map_cons, List.map_nil, List.length_cons, List.length_nil, List.append_eq, List.cons_append, List.nil_append, List.replicate, List.getElem?_cons_zero, List.getElem?_cons_succ, Option.join_some, Option.join_none, Option.bind_some, Option.map_some, Option.bind_none, Option.map_none, List.set_cons_succ, List.set_cons_zero, if_true, Nat.reduceAdd, Nat.reduceSub, Nat.reduceLeDiff, Bool.false_eq_true, if_false, dLen_li, dSl_li, cut_to, cut_from, dEq_int, dNe_int, dEq_li, dNe_li, reduceIte, li_set, dNeO_str, dNeO_lst, dNeO_li, dNeO_tup, dNeO_int, dNeO_bl, a0, a1, e71, a2, a3, a4]
  have hoth : Pol p (es ++ [1]) := ⟨Num.append hesn fun x h => by rw [List.mem_singleton.mp h]; have := hp.ge; omega, tr_snoc (by decide)⟩
  have hothl : (es ++ [1]).length = n + 1 := by simp [hesl]
  have hone2 : es ++ [1] ≠ [] := by simp
  have hlast2 : (es ++ [1]).getLast hone2 = 1 := by simp
  have hpw2 : powB (es ++ [1]).length = true := by rw [hothl]; rw [honel] at hpw; exact hpw
  have s2 := Lsimple_ok hp hoth hone2 (by omega)
  have r9 : R9 [some (.lst g7), some (.int p), some (.int N), some (li (ds ++ [1])), some (.lst [.int c, .int 1]), some (li tw), some (.int K), some (li (es ++ [1])), none, none, none, none] = some (.nx [some (.lst g7), some (.int p), some (.int N), some (li (ds ++ [1])), some (.lst [.int c, .int 1]), some (li tw), some (.int K), some (li (es ++ [1])), none, none, none, none]) := by
    have u1 := curvel_ok hone hp (by omega) hne hpw hlast
    have u2 := curvel_ok hoth hp (by omega) hone2 hpw2 hlast2
    cases q1 : simB p (ds ++ [1]) with
    | false =>
      rw [q1] at s1
      simp only [R9, sSeq, sSet, sSetC, sSetO, sRet, sIf, sNil, sFor, sStoC, sApp, sAug, sPop, sPar, sPar3, sAsgT, sRaise, sCallX, wipeS, scalB, xVar, xC, xOp, xUn, xChain, xAnd, xOr, xNot, xIf, xTru, xtAnd, xtOr, xtNot, xNil, xCons, xLst, xTup, xB, xSl, xoN, xoS, xBl, xYes, xiL, xi, xiRev, xCall, frD, on1, on2, bName, bPair, nList, nRep, nComp, dLs, dSub, dAdd_int, dCmp, dNeg, dInt, dTru, dMax, lim, lim2, List.map_cons, List.map_nil, List.length_cons, List.length_nil, List.append_eq, List.cons_append, List.nil_append, List.replicate, List.getElem?_cons_zero, List.getElem?_cons_succ, Option.join_some, Option.join_none, Option.bind_some, Option.map_some, Option.bind_none, Option.map_none, List.set_cons_succ, List.set_cons_zero, if_true, Nat.reduceAdd, Nat.reduceSub, Nat.reduceLeDiff, Bool.false_eq_true, if_false, dLen_li, dSl_li, cut_to, cut_from, dEq_int, dNe_int, dEq_li, dNe_li, reduceIte, li_set, dNeO_str, dNeO_lst, dNeO_li, dNeO_tup, dNeO_int, dNeO_bl, s1]
    | true =>
      rw [q1] at s1 u1
      cases q2 : simB p (es ++ [1]) with
      | false =>
        rw [q2] at s2
        simp only [R9, sSeq, sSet, sSetC, sSetO, sRet, sIf, sNil, sFor, sStoC, sApp, sAug, sPop, sPar, sPar3, sAsgT, sRaise, sCallX, wipeS, scalB, xVar, xC, xOp, xUn, xChain, xAnd, xOr, xNot, xIf, xTru, xtAnd, xtOr, xtNot, xNil, xCons, xLst, xTup, xB, xSl, xoN, xoS, xBl, xYes, xiL, xi, xiRev, xCall, frD, on1, on2, bName, bPair, nList, nRep, nComp, dLs, dSub, dAdd_int, dCmp, dNeg, dInt, dTru, dMax, lim, lim2, List.map_cons, List.map_nil, List.length_cons, List.length_nil, List.append_eq, List.cons_append, List.nil_append, List.replicate, List.getElem?_cons_zero, List.getElem?_cons_succ, Option.join_some, Option.join_none, Option.bind_some, Option.map_some, Option.bind_none, Option.map_none, List.set_cons_succ, List.set_cons_zero, if_true, Nat.reduceAdd, Nat.reduceSub, Nat.reduceLeDiff, Bool.false_eq_true, if_false, dLen_li, dSl_li, cut_to, cut_from, dEq_int, dNe_int, dEq_li, dNe_li, reduceIte, li_set, dNeO_str, dNeO_lst, dNeO_li, dNeO_tup, dNeO_int, dNeO_bl, s1, s2]
      | true =>
        rw [q2] at s2 u2
        have i1 := init_ok hp u1
        have i2 := init_ok hp u2
        have i3 := dEqO_two p p (ds ++ [1]) (es ++ [1])
        have i4 := dEqO_li (ds ++ [1]) (es ++ [1])
        have i5 : (p == p) = true := by simp
        have i6 := dNe_bl (ds ++ [1] == es ++ [1]) (ds ++ [1] == es ++ [1])
        have i7 : ((ds ++ [1] == es ++ [1]) == (ds ++ [1] == es ++ [1])) = true := by simp
        rw [i5, Bool.true_and] at i3
        rw [i7] at i6
        simp only [R9, sSeq, sSet, sSetC, sSetO, sRet, sIf, sNil, sFor, sStoC, sApp, sAug, sPop, sPar, sPar3, sAsgT, sRaise, sCallX, wipeS, scalB, xVar, xC, xOp, xUn, xChain, xAnd, xOr, xNot, xIf, xTru, xtAnd, xtOr, xtNot, xNil, xCons, xLst, xTup, xB, xSl, xoN, xoS, xBl, xYes, xiL, xi, xiRev, xCall, frD, on1, on2, bName, bPair, nList, nRep, nComp, dLs, dSub, dAdd_int, dCmp, dNeg, dInt, dTru, dMax, lim, lim2, List.map_cons, List.map_nil, List.length_cons, List.length_nil, List.append_eq, List.cons_append, List.nil_append, List.replicate, List.getElem?_cons_zero, List.getElem?_cons_succ, Option.join_some, Option.join_none, Option.bind_some, Option.map_some, Option.bind_none, Option.map_none, List.set_cons_succ, List.set_cons_zero, if_true, Nat.reduceAdd, Nat.reduceSub, Nat.reduceLeDiff, Bool.false_eq_true, if_false, dLen_li, dSl_li, cut_to, cut_from, dEq_int, dNe_int, dEq_li, dNe_li, reduceIte, li_set, dNeO_str, dNeO_lst, dNeO_li, dNeO_tup, dNeO_int, dNeO_bl, s1, s2, i1, i2, i3, i4, i6, Bool.not_true]
  -- longer ones
  have hsb : Sb (ds ++ [1]) := Num.sb hp hone.num
  obtain ⟨l1, l2, l3, r10, hl1, hl2, hl3⟩ : ∃ l1 l2 l3 : List Int, R10 [some (.lst g7), some (.int p), some (.int N), some (li (ds ++ [1])), some (.lst [.int c, .int 1]), some (li tw), some (.int K), some (li (es ++ [1])), none, none, none, none] = some (.nx [some (.lst g7), some (.int p), some (.int N), some (li (ds ++ [1])), some (.lst [.int c, .int 1]), some (li tw), some (.int K), some (li (es ++ [1])), some (.lst [li l1, li l2, li l3]), none, none, none]) ∧ Val (li l1) ∧ Val (li l2) ∧ Val (li l3) := by
    have mk : ∀ m : Int, 0 ≤ m → m ≤ 58 → ∃ w, dMul (.lst [.int 0]) (.int (m - N)) = some (li w) ∧ Sb w ∧ w.length ≤ 58 := fun m h0 h1 => ⟨List.replicate (m - N).toNat 0, dMul_rep rfl (by omega) (by omega), Sb.rep _, by simp; omega⟩
    obtain ⟨w1, a1, b1, c1'⟩ := mk 8 (by decide) (by decide)
    obtain ⟨w2, a2, b2, c2'⟩ := mk 10 (by decide) (by decide)
    obtain ⟨w3, a3, b3, c3'⟩ := mk 58 (by decide) (by decide)
    have ad : ∀ w : List Int, w.length ≤ 58 → dAdd (li (ds ++ [1])) (li w) = some (li (ds ++ [1] ++ w)) := fun w hw => dAdd_li (by omega)
    have ad2 : ∀ w : List Int, w.length ≤ 58 → dAdd (li (ds ++ [1] ++ w)) (.lst [.int 1]) = some (li (ds ++ [1] ++ w ++ [1])) := fun w hw => dAdd_li (b := [1]) (by rw [List.length_append, honel]; simp; omega)
    have sb1 : Sb [1] := Sb.one (by decide)
    have vl : ∀ w : List Int, Sb w → w.length ≤ 58 → Val (li (ds ++ [1] ++ w ++ [1])) := fun w h1 h2 => ((hsb.app h1).app sb1).val (by rw [List.length_append, List.length_append, honel]; simp; omega)
    refine ⟨ds ++ [1] ++ w1 ++ [1], ds ++ [1] ++ w2 ++ [1], ds ++ [1] ++ w3 ++ [1], ?_, vl w1 b1 c1', vl w2 b2 c2', vl w3 b3 c3'⟩
    simp only [R10, sSeq, sSet, sSetC, sSetO, sRet, sIf, sNil, sFor, sStoC, sApp, sAug, sPop, sPar, sPar3, sAsgT, sRaise, sCallX, wipeS, scalB, xVar, xC, xOp, xUn, xChain, xAnd, xOr, xNot, xIf, xTru, xtAnd, xtOr, xtNot, xNil, xCons, xLst, xTup, xB, xSl, xoN, xoS, xBl, xYes, xiL, xi, xiRev, xCall, frD, on1, on2, bName, bPair, nList, nRep, nComp, dLs, dSub, dAdd_int, dCmp, dNeg, dInt, dTru, dMax, lim, lim2, List.map_cons, List.map_nil, List.length_cons, List.length_nil, List.append_eq, List.cons_append, List.nil_append, List.replicate, List.getElem?_cons_zero, List.getElem?_cons_succ, Option.join_some, Option.join_none, Option.bind_some, Option.map_some, Option.bind_none, Option.map_none, List.set_cons_succ, List.set_cons_zero, if_true, Nat.reduceAdd, Nat.reduceSub, Nat.reduceLeDiff, Bool.false_eq_true, if_false, dLen_li, dSl_li, cut_to, cut_from, dEq_int, dNe_int, dEq_li, dNe_li, reduceIte, li_set, dNeO_str, dNeO_lst, dNeO_li, dNeO_tup, dNeO_int, dNeO_bl, a1, a2, a3, ad w1 c1', ad w2 c2', ad w3 c3', ad2 w1 c1', ad2 w2 c2', ad2 w3 c3']
  -- the loop's list
  obtain ⟨vs, k1, k2⟩ : ∃ vs : List D, kList [none, some (.int p), some (.int N), some (li (ds ++ [1])), some (.lst [.int c, .int 1]), some (li tw), some (.int K), some (li (es ++ [1])), some (.lst [li l1, li l2, li l3]), none, none, none] = some vs ∧ ∀ d ∈ vs, Val d := by
    have a1 : dAdd (li (ds ++ [1])) (.lst [.int 1]) = some (li (ds ++ [1] ++ [1])) := dAdd_li (b := [1]) (by rw [honel]; simp; omega)
    have a2 : dAdd (li ((ds ++ [1]).take n)) (.lst [.int 2]) = some (li ((ds ++ [1]).take n ++ [2])) := dAdd_li (b := [2]) (by rw [List.length_take, honel]; simp; omega)
    have a3 : dTuple (li (ds ++ [1])) = some (.tup ((ds ++ [1]).map D.int)) := rfl
    have a4 : dMul (.lst [.non]) (.int (N + 1)) = some (.lst (List.replicate (n + 1) .non)) := dMul_repD (by omega) (by omega) (by omega)
    have a5 : dMul (.lst [.bl true]) (.int (N + 1)) = some (.lst (List.replicate (n + 1) (.bl true))) := dMul_repD (by omega) (by omega) (by omega)
    have a6 : dAdd (.lst [.int p]) (li ((ds ++ [1]).drop 1)) = some (li ([p] ++ (ds ++ [1]).drop 1)) := dAdd_li (a := [p]) (by rw [List.length_drop, honel]; simp; omega)
    have a7 : dAdd (li ((ds ++ [1]).take 1)) (.lst [.int (-1)]) = some (li ((ds ++ [1]).take 1 ++ [-1])) := dAdd_li (b := [-1]) (by rw [List.length_take, honel]; simp)
    have a8 : dMul (.lst [.int 0]) (.int (N - 2)) = some (li (List.replicate (n - 2) 0)) := dMul_rep (by omega) (by omega) (by omega)
    have a9 : dAdd (li ((ds ++ [1]).take 1 ++ [-1])) (li (List.replicate (n - 2) 0)) = some (li ((ds ++ [1]).take 1 ++ [-1] ++ List.replicate (n - 2) 0)) := dAdd_li (by rw [List.length_append, List.length_take, honel]; simp; omega)
    have a10 : dAdd (li ((ds ++ [1]).take 1 ++ [-1] ++ List.replicate (n - 2) 0)) (.lst [.int 1]) = some (li ((ds ++ [1]).take 1 ++ [-1] ++ List.replicate (n - 2) 0 ++ [1])) := dAdd_li (b := [1]) (by rw [List.length_append, List.length_append, List.length_take, honel]; simp; omega)
    have a11 : (ds ++ [1]).length - 1 = n := by omega
    refine ⟨[li l1, li l2, li l3] ++ [li ((ds ++ [1]).drop 1), li (ds ++ [1] ++ [1]), li ((ds ++ [1]).take n ++ [2]), .lst [], .lst [.int 1], .non, .tup ((ds ++ [1]).map D.int), .str "11", .lst (List.replicate (n + 1) .non), .lst (List.replicate (n + 1) (.bl true)), li ([p] ++ (ds ++ [1]).drop 1), li ((ds ++ [1]).take 1 ++ [-1] ++ List.replicate (n - 2) 0 ++ [1])], ?_, ?_⟩
    · simp only [kList, sSeq, sSet, sSetC, sSetO, sRet, sIf, sNil, sFor, sStoC, sApp, sAug, sPop, sPar, sPar3, sAsgT, sRaise, sCallX, wipeS, scalB, xVar, xC, xOp, xUn, xChain, xAnd, xOr, xNot, xIf, xTru, xtAnd, xtOr, xtNot, xNil, xCons, xLst, xTup, xB, xSl, xoN, xoS, xBl, xYes, xiL, xi, xiRev, xCall, frD, on1, on2, bName, bPair, nList, nRep, nComp, dLs, dSub, dAdd_int, dCmp, dNeg, dInt, dTru, dMax, lim, lim2, List.map_cons, List.map_nil, List.length_cons, List.length_nil, List.append_eq, List.cons_append, List.nil_append, List.replicate, List.getElem?_cons_zero, List.getElem?_cons_succ, Option.join_some, Option.join_none, Option.bind_some, Option.map_some, Option.bind_none, Option.map_none, List.set_cons_succ, List.set_cons_zero, if_true, Nat.reduceAdd, Nat.reduceSub, Nat.reduceLeDiff, Bool.false_eq_true, if_false, dLen_li, dSl_li, cut_to, cut_from, dEq_int, dNe_int, dEq_li, dNe_li, reduceIte, li_set, dNeO_str, dNeO_lst, dNeO_li, dNeO_tup, dNeO_int, dNeO_bl, cut_from1, cut_to1, cut_init, a11, a1, a2, a3, a4, a5, a6, a7, a8, a9, a10, Nat.zero_le]
      rw [dAdd_lst (by simp)]
      rfl
    · have sb1 : Sb [1] := Sb.one (by decide)
      intro d hd
      simp only [List.cons_append, List.nil_append, List.mem_cons, List.not_mem_nil, or_false] at hd
      rcases hd with rfl | rfl | rfl | rfl | rfl | rfl | rfl | rfl | rfl | rfl | rfl | rfl | rfl | rfl | rfl
      · exact hl1
      · exact hl2
      · exact hl3
      · exact (hsb.drop 1).val (by rw [List.length_drop, honel]; omega)
      · exact (hsb.app sb1).val (by rw [List.length_append, honel]; simp; omega)
      · exact ((hsb.take n).app (Sb.one (by decide))).val (by rw [List.length_append, List.length_take, honel]; simp; omega)
      · exact .lst rfl (by decide)
      · exact .lst rfl (by decide)
      · exact .non
      · exact .tup (ints_sm hsb) (by rw [List.length_map, honel]; omega)
      · exact .str
      · exact .lst (List.all_eq_true.mpr fun x hx => by rw [List.eq_of_mem_replicate hx]; rfl) (by simp; omega)
      · exact .lst (List.all_eq_true.mpr fun x hx => by rw [List.eq_of_mem_replicate hx]; rfl) (by simp; omega)
      · exact ((Sb.one (by omega)).app (hsb.drop 1)).val (by rw [List.length_append, List.length_drop, honel]; simp; omega)
      · exact ((((hsb.take 1).app (Sb.one (by decide))).app (Sb.rep _)).app sb1).val (by rw [List.length_append, List.length_append, List.length_append, List.length_take, honel]; simp; omega)
  obtain ⟨y9, r11'⟩ := loop_ok (g := g7) hp (x2 := some (.int N)) (x3 := some (li (ds ++ [1]))) (x4 := some (.lst [.int c, .int 1])) (x5 := some (li tw)) (x6 := some (.int K)) (x7 := some (li (es ++ [1]))) (x8 := some (.lst [li l1, li l2, li l3])) (x10 := none) (x11 := none) k2 none
  have r11 : R11 [some (.lst g7), some (.int p), some (.int N), some (li (ds ++ [1])), some (.lst [.int c, .int 1]), some (li tw), some (.int K), some (li (es ++ [1])), some (.lst [li l1, li l2, li l3]), none, none, none] = some (.nx [some (.lst g7), some (.int p), some (.int N), some (li (ds ++ [1])), some (.lst [.int c, .int 1]), some (li tw), some (.int K), some (li (es ++ [1])), some (.lst [li l1, li l2, li l3]), y9, none, none]) := by
    unfold R11 sFor
    show (kList [none, some (.int p), some (.int N), some (li (ds ++ [1])), some (.lst [.int c, .int 1]), some (li tw), some (.int K), some (li (es ++ [1])), some (.lst [li l1, li l2, li l3]), none, none, none]).bind _ = _
    rw [k1, Option.bind_some]
    exact r11'
  refine ⟨g7, ?_⟩
  unfold m_Lright defG
  rw [if_pos (by rfl)]
  show (b_Lright [some (.lst gs), none, none, none, none, none, none, none, none, none, none, none]).bind _ = _
  rw [b_right_eq, seq_nx r0, seq_nx r1, seq_nx r2, seq_nx r3, seq_nx r4, seq_nx r5, seq_nx r6, seq_nx r7, seq_nx r8, seq_nx r9, seq_nx r10, seq_nx r11]
  simp only [sSetZ, sRetZ, zPure, zOp, zNil, zCons, zLst, zCall, zDraw, gget, gset, ziPure, zIf, zComp, sSeq, sSet, sSetC, sSetO, sRet, sIf, sNil, sFor, sStoC, sApp, sAug, sPop, sPar, sPar3, sAsgT, sRaise, sCallX, wipeS, scalB, xVar, xC, xOp, xUn, xChain, xAnd, xOr, xNot, xIf, xTru, xtAnd, xtOr, xtNot, xNil, xCons, xLst, xTup, xB, xSl, xoN, xoS, xBl, xYes, xiL, xi, xiRev, xCall, frD, on1, on2, bName, bPair, nList, nRep, nComp, dLs, dSub, dAdd_int, dCmp, dNeg, dInt, dTru, dMax, lim, lim2, List.map_cons, List.map_nil, List.length_cons, List.length_nil, List.append_eq, List.cons_append, List.nil_append, List.replicate, List.getElem?_cons_zero, List.getElem?_cons_succ, Option.join_some, Option.join_none, Option.bind_some, Option.map_some, Option.bind_none, Option.map_none, List.set_cons_succ, List.set_cons_zero, if_true, Nat.reduceAdd, Nat.reduceSub, Nat.reduceLeDiff, Bool.false_eq_true, if_false, dLen_li, dSl_li, cut_to, cut_from, dEq_int, dNe_int, dEq_li, dNe_li, reduceIte, li_set, dNeO_str, dNeO_lst, dNeO_li, dNeO_tup, dNeO_int, dNeO_bl]
theorem law_true (ns : List Int) (j : Nat) (hj : j < 3) : ∃ gs', m_Lright ((glD (cellD ns j) j).map D.int) [] = some (.bl true, gs') :=
  right_ok ⟨_, _, _, rfl, by omega, by omega⟩
end G7

set_option Elab.async false
set_option linter.all false
open PySem PySem.W PySem.Spec PyProof.Rows Mr L2
theorem G7.pick {P : Program} {w : World} {K : PySem.W.Frag} {h : Heap} {mg : Str → Option Value} (X : K.In h) (G : h.Ns mainGlobals mg) {fa f : Addr} (hmg : mg "law" = some (.ref fa)) (a : PySem.W.nsIn K mainGlobals "law" = some (some (.ref f)))
    (q : ∃ fd : FuncData, (∀ (s : Shared) (u : Value), BindsTo s fd ⟨[u], []⟩ [("_law_script", u)]) ∧ ∀ base : Heap, K.In base → base.Ns mainGlobals mg → FnG P w K mg base (L2.CX P w) 10 f fd ["_law_script"] (spLawT K 3 G7.m_Lright)) : ∃ fd : FuncData, (∀ (s : Shared) (u : Value), BindsTo s fd ⟨[u], []⟩ [("_law_script", u)]) ∧ ∀ base : Heap, K.In base → base.Ns mainGlobals mg → FnG P w K mg base (L2.CX P w) 10 fa fd ["_law_script"] (spLawT K 3 G7.m_Lright) := by
  have e := hmg.symm.trans (PySem.W.mg_of X G a)
  cases e
  exact q
set_option maxRecDepth 100000 in
set_option maxHeartbeats 8000000 in
theorem PySem.Challenge.cw_curveheads_k07_curves_holds : PySem.Challenge.rw_curveheads_k07_curves.Holds := by
  w_on; o_law; k_head; (case hw => w_witness2)
  k_fill
  refine Mr.walk_ofGK (l := PySem.Challenge.rw_curveheads_k07_curves) (n := 63) (k := 10) (x := "_law_script") (sp := fun K => Mr.spLawT K 3 G7.m_Lright) rfl (by decide) rfl ⟨rfl, by decide, by decide⟩ (fun w h Y => PySem.W.kIn_of Y) ?F ?S
  case F =>
    intro w mg fa h KX G hmg
    refine' G7.pick KX G hmg ?W_a_law (G7.all_mk KX G ?W_z_len ?W_z_list ?W_z_tuple ?W_z_range ?W_z_enumerate ?W_z_zip ?W_z_reversed ?W_z_int ?W_z_bool ?W_z_isinstance ?W_z_all ?W_z_sum ?W_z_max ?W_z_min ?W_z_repr ?W_cln ?W_clt ?W_gC ?W_pg ?W_hd ?W_po ?W_sa ?W_kC ?W_mC ?W_cla ?W_clm ?W_koS ?W_no_prime ?W_no_numbers ?W_ko_NoneType ?W_nf_NoneType ?W_ko_bool ?W_nf_bool ?W_ko_int ?W_nf_int ?W_ko_str ?W_nf_str ?W_ko_list ?W_nf_list ?W_ko_tuple ?W_nf_tuple ?W_neC ?W_a_is_whole ?W_l_is_whole ?W_c_is_whole ?W_k_is_whole ?W_a_is_number ?W_l_is_number ?W_c_is_number ?W_k_is_number ?W_a_is_polynomial ?W_l_is_polynomial ?W_c_is_polynomial ?W_k_is_polynomial ?W_a_poly_trimmed ?W_l_poly_trimmed ?W_c_poly_trimmed ?W_k_poly_trimmed ?W_a_inverse ?W_l_inverse ?W_c_inverse ?W_k_inverse ?W_a_poly_monic ?W_l_poly_monic ?W_c_poly_monic ?W_k_poly_monic ?W_a_poly_divided ?W_l_poly_divided ?W_c_poly_divided ?W_k_poly_divided ?W_a_poly_common ?W_l_poly_common ?W_c_poly_common ?W_k_poly_common ?W_a_poly_slope ?W_l_poly_slope ?W_c_poly_slope ?W_k_poly_slope ?W_a_is_curve_polynomial ?W_l_is_curve_polynomial ?W_c_is_curve_polynomial ?W_k_is_curve_polynomial ?W_a_check_prime ?W_l_check_prime ?W_c_check_prime ?W_k_check_prime ?W_a_Curve___init__ ?W_l_Curve___init__ ?W_c_Curve___init__ ?W_k_Curve___init__ ?W_i_Curve___init__ ?W_a_Curve_prime ?W_l_Curve_prime ?W_c_Curve_prime ?W_k_Curve_prime ?W_i_Curve_prime ?W_a_Curve_polynomial ?W_l_Curve_polynomial ?W_c_Curve_polynomial ?W_k_Curve_polynomial ?W_i_Curve_polynomial ?W_a_Curve_genus ?W_l_Curve_genus ?W_c_Curve_genus ?W_k_Curve_genus ?W_i_Curve_genus ?W_a_Curve___eq__ ?W_l_Curve___eq__ ?W_c_Curve___eq__ ?W_k_Curve___eq__ ?W_i_Curve___eq__ ?W_a_Lhash ?W_l_Lhash ?W_c_Lhash ?W_k_Lhash ?W_a_Lrandom ?W_l_Lrandom ?W_c_Lrandom ?W_k_Lrandom ?W_a_L_cell ?W_l_L_cell ?W_c_L_cell ?W_k_L_cell ?W_a_L_generator ?W_l_L_generator ?W_c_L_generator ?W_k_L_generator ?W_a_Lprime ?W_l_Lprime ?W_c_Lprime ?W_k_Lprime ?W_a_Ltrim ?W_l_Ltrim ?W_c_Ltrim ?W_k_Ltrim ?W_a_Lplus ?W_l_Lplus ?W_c_Lplus ?W_k_Lplus ?W_a_Ltimes ?W_l_Ltimes ?W_c_Ltimes ?W_k_Ltimes ?W_a_Lback ?W_l_Lback ?W_c_Lback ?W_k_Lback ?W_a_Lparted ?W_l_Lparted ?W_c_Lparted ?W_k_Lparted ?W_a_Lrest ?W_l_Lrest ?W_c_Lrest ?W_k_Lrest ?W_a_Lmonics ?W_l_Lmonics ?W_c_Lmonics ?W_k_Lmonics ?W_a_Lcommon ?W_l_Lcommon ?W_c_Lcommon ?W_k_Lcommon ?W_a_Lis_double ?W_l_Lis_double ?W_c_Lis_double ?W_k_Lis_double ?W_a_Lsimple ?W_l_Lsimple ?W_c_Lsimple ?W_k_Lsimple ?W_a_L_made ?W_l_L_made ?W_c_L_made ?W_k_L_made ?W_a_Lcurve_right ?W_l_Lcurve_right ?W_c_Lcurve_right ?W_k_Lcurve_right ?W_a_Lright ?W_l_Lright ?W_c_Lright ?W_k_Lright ?W_a_law ?W_l_law ?W_c_law ?W_k_law ?W_gB ?W_lI ?W_cI ?W_kI ?W_lD ?W_dD ?W_tI ?W_g0 ?W_x0 ?W_r0 ?W_sa0 ?W_e0 ?W_t0 ?W_kE0 ?W_no0 ?W_i0 ?W_g1 ?W_x1 ?W_r1 ?W_sa1 ?W_e1 ?W_t1 ?W_kE1 ?W_no1 ?W_i1 ?W_xga ?W_xgg ?W_xhd ?W_exm ?W_ac_PRIMES ?W_lc_PRIMES ?W_tc_PRIMES ?W_dc_PRIMES ?W_ac_SHORT_QUOTIENT ?W_ac_POWERS ?W_lc_POWERS ?W_tc_POWERS ?W_dc_POWERS)
    (case W_z_len => first | k_is | rfl | decide +kernel)
    (case W_z_list => first | k_is | rfl | decide +kernel)
    (case W_z_tuple => first | k_is | rfl | decide +kernel)
    (case W_z_range => first | k_is | rfl | decide +kernel)
    (case W_z_enumerate => first | k_is | rfl | decide +kernel)
    (case W_z_zip => first | k_is | rfl | decide +kernel)
    (case W_z_reversed => first | k_is | rfl | decide +kernel)
    (case W_z_int => first | k_is | rfl | decide +kernel)
    (case W_z_bool => first | k_is | rfl | decide +kernel)
    (case W_z_isinstance => first | k_is | rfl | decide +kernel)
    (case W_z_all => first | k_is | rfl | decide +kernel)
    (case W_z_sum => first | k_is | rfl | decide +kernel)
    (case W_z_max => first | k_is | rfl | decide +kernel)
    (case W_z_min => first | k_is | rfl | decide +kernel)
    (case W_z_repr => first | k_is | rfl | decide +kernel)
    (case W_cln => first | k_is | rfl | decide +kernel)
    (case W_clt => first | k_is | rfl | decide +kernel)
    (case W_gC => first | k_is | rfl | decide +kernel)
    (case W_pg => first | k_is | rfl | decide +kernel)
    (case W_hd => first | k_is | rfl | decide +kernel)
    (case W_po => first | k_is | rfl | decide +kernel)
    (case W_sa => first | k_is | rfl | decide +kernel)
    (case W_kC => first | k_is | rfl | decide +kernel)
    (case W_mC => first | k_is | rfl | decide +kernel)
    (case W_cla => first | k_is | rfl | decide +kernel)
    (case W_clm => first | k_is | rfl | decide +kernel)
    (case W_koS => first | k_is | rfl | decide +kernel)
    (case W_no_prime => first | k_is | rfl | decide +kernel)
    (case W_no_numbers => first | k_is | rfl | decide +kernel)
    (case W_ko_NoneType => first | k_is | rfl | decide +kernel)
    (case W_nf_NoneType => first | k_is | rfl | decide +kernel)
    (case W_ko_bool => first | k_is | rfl | decide +kernel)
    (case W_nf_bool => first | k_is | rfl | decide +kernel)
    (case W_ko_int => first | k_is | rfl | decide +kernel)
    (case W_nf_int => first | k_is | rfl | decide +kernel)
    (case W_ko_str => first | k_is | rfl | decide +kernel)
    (case W_nf_str => first | k_is | rfl | decide +kernel)
    (case W_ko_list => first | k_is | rfl | decide +kernel)
    (case W_nf_list => first | k_is | rfl | decide +kernel)
    (case W_ko_tuple => first | k_is | rfl | decide +kernel)
    (case W_nf_tuple => first | k_is | rfl | decide +kernel)
    (case W_neC => first | k_is | rfl | decide +kernel)
    (case W_a_is_whole => first | k_is | rfl | decide +kernel)
    (case W_l_is_whole => first | k_is | rfl | decide +kernel)
    (case W_c_is_whole => first | k_is | rfl | decide +kernel)
    (case W_k_is_whole => first | k_is | rfl | decide +kernel)
    (case W_a_is_number => first | k_is | rfl | decide +kernel)
    (case W_l_is_number => first | k_is | rfl | decide +kernel)
    (case W_c_is_number => first | k_is | rfl | decide +kernel)
    (case W_k_is_number => first | k_is | rfl | decide +kernel)
    (case W_a_is_polynomial => first | k_is | rfl | decide +kernel)
    (case W_l_is_polynomial => first | k_is | rfl | decide +kernel)
    (case W_c_is_polynomial => first | k_is | rfl | decide +kernel)
    (case W_k_is_polynomial => first | k_is | rfl | decide +kernel)
    (case W_a_poly_trimmed => first | k_is | rfl | decide +kernel)
    (case W_l_poly_trimmed => first | k_is | rfl | decide +kernel)
    (case W_c_poly_trimmed => first | k_is | rfl | decide +kernel)
    (case W_k_poly_trimmed => first | k_is | rfl | decide +kernel)
    (case W_a_inverse => first | k_is | rfl | decide +kernel)
    (case W_l_inverse => first | k_is | rfl | decide +kernel)
    (case W_c_inverse => first | k_is | rfl | decide +kernel)
    (case W_k_inverse => first | k_is | rfl | decide +kernel)
    (case W_a_poly_monic => first | k_is | rfl | decide +kernel)
    (case W_l_poly_monic => first | k_is | rfl | decide +kernel)
    (case W_c_poly_monic => first | k_is | rfl | decide +kernel)
    (case W_k_poly_monic => first | k_is | rfl | decide +kernel)
    (case W_a_poly_divided => first | k_is | rfl | decide +kernel)
    (case W_l_poly_divided => first | k_is | rfl | decide +kernel)
    (case W_c_poly_divided => first | k_is | rfl | decide +kernel)
    (case W_k_poly_divided => first | k_is | rfl | decide +kernel)
    (case W_a_poly_common => first | k_is | rfl | decide +kernel)
    (case W_l_poly_common => first | k_is | rfl | decide +kernel)
    (case W_c_poly_common => first | k_is | rfl | decide +kernel)
    (case W_k_poly_common => first | k_is | rfl | decide +kernel)
    (case W_a_poly_slope => first | k_is | rfl | decide +kernel)
    (case W_l_poly_slope => first | k_is | rfl | decide +kernel)
    (case W_c_poly_slope => first | k_is | rfl | decide +kernel)
    (case W_k_poly_slope => first | k_is | rfl | decide +kernel)
    (case W_a_is_curve_polynomial => first | k_is | rfl | decide +kernel)
    (case W_l_is_curve_polynomial => first | k_is | rfl | decide +kernel)
    (case W_c_is_curve_polynomial => first | k_is | rfl | decide +kernel)
    (case W_k_is_curve_polynomial => first | k_is | rfl | decide +kernel)
    (case W_a_check_prime => first | k_is | rfl | decide +kernel)
    (case W_l_check_prime => first | k_is | rfl | decide +kernel)
    (case W_c_check_prime => first | k_is | rfl | decide +kernel)
    (case W_k_check_prime => first | k_is | rfl | decide +kernel)
    (case W_a_Curve___init__ => first | k_is | rfl | decide +kernel)
    (case W_l_Curve___init__ => first | k_is | rfl | decide +kernel)
    (case W_c_Curve___init__ => first | k_is | rfl | decide +kernel)
    (case W_k_Curve___init__ => first | k_is | rfl | decide +kernel)
    (case W_i_Curve___init__ => first | k_is | rfl | decide +kernel)
    (case W_a_Curve_prime => first | k_is | rfl | decide +kernel)
    (case W_l_Curve_prime => first | k_is | rfl | decide +kernel)
    (case W_c_Curve_prime => first | k_is | rfl | decide +kernel)
    (case W_k_Curve_prime => first | k_is | rfl | decide +kernel)
    (case W_i_Curve_prime => first | k_is | rfl | decide +kernel)
    (case W_a_Curve_polynomial => first | k_is | rfl | decide +kernel)
    (case W_l_Curve_polynomial => first | k_is | rfl | decide +kernel)
    (case W_c_Curve_polynomial => first | k_is | rfl | decide +kernel)
    (case W_k_Curve_polynomial => first | k_is | rfl | decide +kernel)
    (case W_i_Curve_polynomial => first | k_is | rfl | decide +kernel)
    (case W_a_Curve_genus => first | k_is | rfl | decide +kernel)
    (case W_l_Curve_genus => first | k_is | rfl | decide +kernel)
    (case W_c_Curve_genus => first | k_is | rfl | decide +kernel)
    (case W_k_Curve_genus => first | k_is | rfl | decide +kernel)
    (case W_i_Curve_genus => first | k_is | rfl | decide +kernel)
    (case W_a_Curve___eq__ => first | k_is | rfl | decide +kernel)
    (case W_l_Curve___eq__ => first | k_is | rfl | decide +kernel)
    (case W_c_Curve___eq__ => first | k_is | rfl | decide +kernel)
    (case W_k_Curve___eq__ => first | k_is | rfl | decide +kernel)
    (case W_i_Curve___eq__ => first | k_is | rfl | decide +kernel)
    (case W_a_Lhash => first | k_is | rfl | decide +kernel)
    (case W_l_Lhash => first | k_is | rfl | decide +kernel)
    (case W_c_Lhash => first | k_is | rfl | decide +kernel)
    (case W_k_Lhash => first | k_is | rfl | decide +kernel)
    (case W_a_Lrandom => first | k_is | rfl | decide +kernel)
    (case W_l_Lrandom => first | k_is | rfl | decide +kernel)
    (case W_c_Lrandom => first | k_is | rfl | decide +kernel)
    (case W_k_Lrandom => first | k_is | rfl | decide +kernel)
    (case W_a_L_cell => first | k_is | rfl | decide +kernel)
    (case W_l_L_cell => first | k_is | rfl | decide +kernel)
    (case W_c_L_cell => first | k_is | rfl | decide +kernel)
    (case W_k_L_cell => first | k_is | rfl | decide +kernel)
    (case W_a_L_generator => first | k_is | rfl | decide +kernel)
    (case W_l_L_generator => first | k_is | rfl | decide +kernel)
    (case W_c_L_generator => first | k_is | rfl | decide +kernel)
    (case W_k_L_generator => first | k_is | rfl | decide +kernel)
    (case W_a_Lprime => first | k_is | rfl | decide +kernel)
    (case W_l_Lprime => first | k_is | rfl | decide +kernel)
    (case W_c_Lprime => first | k_is | rfl | decide +kernel)
    (case W_k_Lprime => first | k_is | rfl | decide +kernel)
    (case W_a_Ltrim => first | k_is | rfl | decide +kernel)
    (case W_l_Ltrim => first | k_is | rfl | decide +kernel)
    (case W_c_Ltrim => first | k_is | rfl | decide +kernel)
    (case W_k_Ltrim => first | k_is | rfl | decide +kernel)
    (case W_a_Lplus => first | k_is | rfl | decide +kernel)
    (case W_l_Lplus => first | k_is | rfl | decide +kernel)
    (case W_c_Lplus => first | k_is | rfl | decide +kernel)
    (case W_k_Lplus => first | k_is | rfl | decide +kernel)
    (case W_a_Ltimes => first | k_is | rfl | decide +kernel)
    (case W_l_Ltimes => first | k_is | rfl | decide +kernel)
    (case W_c_Ltimes => first | k_is | rfl | decide +kernel)
    (case W_k_Ltimes => first | k_is | rfl | decide +kernel)
    (case W_a_Lback => first | k_is | rfl | decide +kernel)
    (case W_l_Lback => first | k_is | rfl | decide +kernel)
    (case W_c_Lback => first | k_is | rfl | decide +kernel)
    (case W_k_Lback => first | k_is | rfl | decide +kernel)
    (case W_a_Lparted => first | k_is | rfl | decide +kernel)
    (case W_l_Lparted => first | k_is | rfl | decide +kernel)
    (case W_c_Lparted => first | k_is | rfl | decide +kernel)
    (case W_k_Lparted => first | k_is | rfl | decide +kernel)
    (case W_a_Lrest => first | k_is | rfl | decide +kernel)
    (case W_l_Lrest => first | k_is | rfl | decide +kernel)
    (case W_c_Lrest => first | k_is | rfl | decide +kernel)
    (case W_k_Lrest => first | k_is | rfl | decide +kernel)
    (case W_a_Lmonics => first | k_is | rfl | decide +kernel)
    (case W_l_Lmonics => first | k_is | rfl | decide +kernel)
    (case W_c_Lmonics => first | k_is | rfl | decide +kernel)
    (case W_k_Lmonics => first | k_is | rfl | decide +kernel)
    (case W_a_Lcommon => first | k_is | rfl | decide +kernel)
    (case W_l_Lcommon => first | k_is | rfl | decide +kernel)
    (case W_c_Lcommon => first | k_is | rfl | decide +kernel)
    (case W_k_Lcommon => first | k_is | rfl | decide +kernel)
    (case W_a_Lis_double => first | k_is | rfl | decide +kernel)
    (case W_l_Lis_double => first | k_is | rfl | decide +kernel)
    (case W_c_Lis_double => first | k_is | rfl | decide +kernel)
    (case W_k_Lis_double => first | k_is | rfl | decide +kernel)
    (case W_a_Lsimple => first | k_is | rfl | decide +kernel)
    (case W_l_Lsimple => first | k_is | rfl | decide +kernel)
    (case W_c_Lsimple => first | k_is | rfl | decide +kernel)
    (case W_k_Lsimple => first | k_is | rfl | decide +kernel)
    (case W_a_L_made => first | k_is | rfl | decide +kernel)
    (case W_l_L_made => first | k_is | rfl | decide +kernel)
    (case W_c_L_made => first | k_is | rfl | decide +kernel)
    (case W_k_L_made => first | k_is | rfl | decide +kernel)
    (case W_a_Lcurve_right => first | k_is | rfl | decide +kernel)
    (case W_l_Lcurve_right => first | k_is | rfl | decide +kernel)
    (case W_c_Lcurve_right => first | k_is | rfl | decide +kernel)
    (case W_k_Lcurve_right => first | k_is | rfl | decide +kernel)
    (case W_a_Lright => first | k_is | rfl | decide +kernel)
    (case W_l_Lright => first | k_is | rfl | decide +kernel)
    (case W_c_Lright => first | k_is | rfl | decide +kernel)
    (case W_k_Lright => first | k_is | rfl | decide +kernel)
    (case W_a_law => first | k_is | rfl | decide +kernel)
    (case W_l_law => first | k_is | rfl | decide +kernel)
    (case W_c_law => first | k_is | rfl | decide +kernel)
    (case W_k_law => first | k_is | rfl | decide +kernel)
    (case W_gB => first | k_is | rfl | decide +kernel)
    (case W_g0 => first | k_is | rfl | decide +kernel)
    (case W_x0 => first | k_is | rfl | decide +kernel)
    (case W_r0 => first | k_is | rfl | decide +kernel)
    (case W_sa0 => first | k_is | rfl | decide +kernel)
    (case W_e0 => first | k_is | rfl | decide +kernel)
    (case W_t0 => first | k_is | rfl | decide +kernel)
    (case W_kE0 => first | k_is | rfl | decide +kernel)
    (case W_no0 => first | k_is | rfl | decide +kernel)
    (case W_i0 => first | k_is | rfl | decide +kernel)
    (case W_g1 => first | k_is | rfl | decide +kernel)
    (case W_x1 => first | k_is | rfl | decide +kernel)
    (case W_r1 => first | k_is | rfl | decide +kernel)
    (case W_sa1 => first | k_is | rfl | decide +kernel)
    (case W_e1 => first | k_is | rfl | decide +kernel)
    (case W_t1 => first | k_is | rfl | decide +kernel)
    (case W_kE1 => first | k_is | rfl | decide +kernel)
    (case W_no1 => first | k_is | rfl | decide +kernel)
    (case W_i1 => first | k_is | rfl | decide +kernel)
    (case W_xga => first | k_is | rfl | decide +kernel)
    (case W_xgg => first | k_is | rfl | decide +kernel)
    (case W_xhd => first | k_is | rfl | decide +kernel)
    (case W_exm => first | k_is | rfl | decide +kernel)
    (case W_ac_PRIMES => first | k_is | rfl | decide +kernel)
    (case W_lc_PRIMES => first | k_is | rfl | decide +kernel)
    (case W_tc_PRIMES => first | k_is | rfl | decide +kernel)
    (case W_dc_PRIMES => first | k_is | rfl | decide +kernel)
    (case W_ac_SHORT_QUOTIENT => first | k_is | rfl | decide +kernel)
    (case W_ac_POWERS => first | k_is | rfl | decide +kernel)
    (case W_lc_POWERS => first | k_is | rfl | decide +kernel)
    (case W_tc_POWERS => first | k_is | rfl | decide +kernel)
    (case W_dc_POWERS => first | k_is | rfl | decide +kernel)
    (case W_lI => first | k_is | rfl | decide +kernel)
    (case W_cI => first | k_is | rfl | decide +kernel)
    (case W_kI => first | k_is | rfl | decide +kernel)
    (case W_lD => first | k_is | rfl | decide +kernel)
    (case W_dD => first | k_is | rfl | decide +kernel)
    (case W_tI => first | k_is | rfl | decide +kernel)
  case S =>
    intro K H a ns hn hS
    exact ⟨a, ns, rfl, hS, fun j hj => G7.law_true ns j hj, fun _ => rfl⟩
