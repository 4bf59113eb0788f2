import PyProof.Rows.All
import Wide.All
import OpenK.AllK
import Wide.FinOn
import HandS.ForMost
import HandS.Codes
import HandS.Wide
import HandS.Deep
import HandS.IsInst
import HandS.TupAny
import HandS.StrMore
import HandS.Style
import HandS.ExcOwn
import HandS.Set
import HandS.SetTxt0
import HandS.SetFor
import HandS.Strs
import HandS.TupSets
import HandS.DeepEq
import HandS.DictComp
import HandS.Iter
import HandS.Walk
import KE.GoesEnum
import KE.GoesMore
import PySem.Challenge.RW_changewhile_k27_marks_of
import HandS.Finally
set_option Elab.async false
set_option linter.all false
set_option maxRecDepth 100000
set_option maxHeartbeats 4000000
namespace L2
open PySem PySem.Spec PyProof.Rows
open C8 (Cal Def cal0 pe_c fnBody fnScope fnArgs)

/-! ### heaps: all but one list stays -/
def But (p : Addr) (H H' : Hp) : Prop := ∀ b o, b ≠ p → H b = some o → H' b = some o
theorem But.refl (p : Addr) (H : Hp) : But p H H := fun _ _ _ h => h
theorem But.trans {p : Addr} {H H1 H2 : Hp} (a : But p H H1) (b : But p H1 H2) : But p H H2 := fun c o n h => b c o n (a c o n h)
theorem But.same {p : Addr} {H H1 : Hp} (a : Same H H1) : But p H H1 := fun b o _ h => a b o h
theorem Same.new {q : Addr} {H : Hp} {o : HO} (h : H q = none) : Same H (upd H q o) := fun b u e => by
  rw [upd_ne (ne_of_none e h)]
  exact e
theorem But.new {p q : Addr} {H : Hp} {o : HO} (h : H q = none) : But p H (upd H q o) := But.same (Same.new h)
theorem But.pot {p : Addr} {H H' : Hp} {o : HO} (e : But p H H') : But p H (upd H' p o) := fun b u n h => by
  rw [upd_ne n]
  exact e b u n h
def hid (p : Addr) (H : Hp) : Hp := fun b => if b = p then none else H b
theorem hid_ne {p b : Addr} {H : Hp} (h : b ≠ p) : hid p H b = H b := if_neg h
theorem hid_some {p b : Addr} {H : Hp} {o : HO} (h : hid p H b = some o) : b ≠ p ∧ H b = some o := by
  unfold hid at h
  by_cases e : b = p
  · rw [if_pos e] at h; cases h
  · rw [if_neg e] at h; exact ⟨e, h⟩
theorem hid_but {p : Addr} {H H' : Hp} (e : But p H H') : Same (hid p H) (hid p H') := fun b o h => by
  obtain ⟨n, h⟩ := hid_some h
  rw [hid_ne n]
  exact e b o n h
theorem hid_in {p : Addr} {H : Hp} : Same (hid p H) H := fun b o h => (hid_some h).2

/-! ### data -/
section
variable {K : PySem.W.Frag}
theorem sqT_mono {H H' : Hp} {a : Addr} {xs : List V} (e : Same H H') (h : SqT K H a xs) : SqT K H' a xs := by
  rcases h with (h | ⟨o, h⟩) | h
  · exact .inl (.inl (e _ _ h))
  · exact .inl (.inr ⟨o, e _ _ h⟩)
  · exact .inr h
mutual
theorem Dp.mono {H H' : Hp} (e : Same H H') : ∀ {v : V} {d : PyData}, Dp K H v d → Dp K H' v d
  | _, _, .non => .non
  | _, _, .bl b => .bl b
  | _, _, .int i => .int i
  | _, _, .str x => .str x
  | _, _, .lst h a => .lst (e.seq h) (DpAll.mono e a)
  | _, _, .tup h a => .tup (sqT_mono e h) (DpAll.mono e a)
theorem DpAll.mono {H H' : Hp} (e : Same H H') : ∀ {vs : List V} {ds : List PyData}, DpAll K H vs ds → DpAll K H' vs ds
  | _, _, .nil => .nil
  | _, _, .cons h t => .cons (Dp.mono e h) (DpAll.mono e t)
end
theorem DpAll.len {H : Hp} : ∀ {vs : List V} {ds : List PyData}, DpAll K H vs ds → vs.length = ds.length
  | _, _, .nil => rfl
  | _, _, .cons _ t => congrArg (· + 1) (DpAll.len t)
theorem DpAll.app {H : Hp} : ∀ {vs ws : List V} {ds es : List PyData}, DpAll K H vs ds → DpAll K H ws es → DpAll K H (vs ++ ws) (ds ++ es)
  | _, _, _, _, .nil, t => t
  | _, _, _, _, .cons h s, t => .cons h (DpAll.app s t)
theorem DpAll.get {H : Hp} : ∀ {vs : List V} {ds : List PyData} {i : Nat} {d : PyData}, DpAll K H vs ds → ds[i]? = some d → ∃ v, vs[i]? = some v ∧ Dp K H v d
  | _, _, _, _, .nil, h => by simp at h
  | _, _, 0, _, .cons h _, e => by
    simp at e
    subst e
    exact ⟨_, rfl, h⟩
  | _, _, i + 1, _, .cons _ t, e => by
    obtain ⟨v, h1, h2⟩ := DpAll.get t (i := i) (by simpa using e)
    exact ⟨v, by simpa using h1, h2⟩
/-- data that does not come by the pot -/
abbrev Dh (K : PySem.W.Frag) (p : Addr) (H : Hp) (v : V) (d : PyData) : Prop := Dp K (hid p H) v d
abbrev DhAll (K : PySem.W.Frag) (p : Addr) (H : Hp) (vs : List V) (ds : List PyData) : Prop := DpAll K (hid p H) vs ds
theorem Dp.un {p : Addr} {H : Hp} {v : V} {d : PyData} (h : Dh K p H v d) : Dp K H v d := Dp.mono hid_in h
theorem Dp.but {p : Addr} {H H' : Hp} {v : V} {d : PyData} (e : But p H H') (h : Dh K p H v d) : Dh K p H' v d := Dp.mono (hid_but e) h
theorem DpAll.but {p : Addr} {H H' : Hp} {vs : List V} {ds : List PyData} (e : But p H H') (h : DhAll K p H vs ds) : DhAll K p H' vs ds := DpAll.mono (hid_but e) h
/-- a new tuple, a new list -/
theorem Dp.newT {p q : Addr} {H : Hp} {xs : List V} {ds : List PyData} (hq : H q = none) (n : q ≠ p) (h : DhAll K p H xs ds) : Dh K p (upd H q (.tup xs)) (.ref q) (.tuple ds) :=
  .tup (.inl (.inl (by rw [hid_ne n, upd_same]))) (DpAll.but (But.new hq) h)
theorem Dp.newL {p q : Addr} {H : Hp} {xs : List V} {ds : List PyData} (hq : H q = none) (n : q ≠ p) (h : DhAll K p H xs ds) : Dh K p (upd H q (.lst xs)) (.ref q) (.list ds) :=
  .lst (.inl (.inl (by rw [hid_ne n, upd_same]))) (DpAll.but (But.new hq) h)
theorem Dp.newT0 {q : Addr} {H : Hp} {xs : List V} {ds : List PyData} (hq : H q = none) (h : DpAll K H xs ds) : Dp K (upd H q (.tup xs)) (.ref q) (.tuple ds) :=
  .tup (.inl (.inl upd_same)) (DpAll.mono (Same.new hq) h)
theorem Dp.newL0 {q : Addr} {H : Hp} {xs : List V} {ds : List PyData} (hq : H q = none) (h : DpAll K H xs ds) : Dp K (upd H q (.lst xs)) (.ref q) (.list ds) :=
  .lst (.inl (.inl upd_same)) (DpAll.mono (Same.new hq) h)

/-! ### isinstance of data -/
def tyN : PyData → String
  | .none => "NoneType" | .bool _ => "bool" | .int _ => "int" | .str _ => "str" | .list _ => "list" | .tuple _ => "tuple" | .dict _ => "dict"
theorem Dp.ty {H : Hp} {v : V} {d : PyData} (h : Dp K H v d) : TyX K H v (.type (tyN d)) := by
  cases h with
  | non => exact .base .non
  | bl b => exact .base (.bl b)
  | int i => exact .base (.int i)
  | str x => exact .base (.str x)
  | lst hs _ =>
    rcases hs with (h | ⟨o, h⟩) | ⟨o, its, n, h, hc, _⟩
    · exact .base (.lst h)
    · exact .base (.frz h)
    · exact .kList h hc
  | tup hs _ =>
    rcases hs with (h | ⟨o, h⟩) | ⟨o, its, n, h, hc, _⟩
    · exact .base (.tup h)
    · exact .fTuple h
    · exact .kTuple h hc
def isS : PyData → Bool | .str _ => true | _ => false
def isT : PyData → Bool | .tuple _ => true | _ => false
def isL : PyData → Bool | .list _ => true | _ => false
def isB : PyData → Bool | .bool _ => true | _ => false
def isI : PyData → Bool | .bool _ => true | .int _ => true | _ => false
def isOf : String → PyData → Bool
  | "str", d => isS d
  | "tuple", d => isT d
  | "list", d => isL d
  | "bool", d => isB d
  | "int", d => isI d
  | _, _ => false
def tabN (a T : String) : Bool := a == T || (a == "bool" && T == "int")
theorem kitN : (["NoneType", "bool", "int", "str", "list", "tuple"].all fun a => ["str", "tuple", "list", "bool", "int"].all fun T => kitB a T == some (tabN a T)) = true := by decide +kernel
theorem kit_all {a T : String} (ha : a ∈ ["NoneType", "bool", "int", "str", "list", "tuple"]) (hT : T ∈ ["str", "tuple", "list", "bool", "int"]) : kitB a T = some (tabN a T) := by
  have h := List.all_eq_true.mp (List.all_eq_true.mp kitN a ha) T hT
  exact eq_of_beq h
theorem Dp.nodict {H : Hp} {v : V} {d : PyData} (h : Dp K H v d) : tyN d ≠ "dict" := by cases h <;> (intro e; exact absurd e (by simp [tyN]))
theorem isOf_tab {T : String} (hT : T ∈ ["str", "tuple", "list", "bool", "int"]) (d : PyData) : isOf T d = tabN (tyN d) T := by
  simp only [List.mem_cons, List.not_mem_nil, or_false] at hT
  rcases hT with rfl | rfl | rfl | rfl | rfl <;> cases d <;> first | rfl | decide
theorem isOf_kit {H : Hp} {v : V} {d : PyData} {T : String} (h : Dp K H v d) (hT : T ∈ ["str", "tuple", "list", "bool", "int"]) : kitB (tyN d) T = some (isOf T d) := by
  have n := h.nodict
  rw [isOf_tab hT]
  refine kit_all ?_ hT
  cases d <;> first | exact absurd rfl n | simp [tyN]
end
def rIsD (K : PySem.W.Frag) : List V → Hp → VK → Prop := fun xs H Q => ∃ (v : V) (d : PyData) (T : String), xs = [v, .ty T] ∧ Dp K H v d ∧ T ∈ ["str", "tuple", "list", "bool", "int"] ∧ Q (.bl (isOf T d)) H
section
variable {X : Cx}
theorem call_isD : CallR X (.builtin "isinstance") (rIsD X.K) := by
  intro pins s σ H xs us Q I r h
  obtain ⟨v, d, T, rfl, hd, hT, q⟩ := h
  exact call_isi pins s σ H _ us Q I r ⟨v, .ty T, .type (tyN d), .type T, isOf T d, rfl, .ty T, hd.ty, kit_ty (isOf_kit hd hT), q⟩
/-! ### repr of data -/
def shownB (d : PyData) : Prop := d.showable = true ∧ SeqAt.shaped d = true ∧ d.shown.length ≤ sizeLine
def rReprD (K : PySem.W.Frag) : List V → Hp → VK → Prop := fun xs H Q => ∃ (v : V) (d : PyData), xs = [v] ∧ Dp K H v d ∧ shownB d ∧ Q (.str d.shown) H
theorem call_reprD (hg : X.A.guards = some []) (hu : X.A.units + 70 < cLine) : CallR X (.builtin "repr") (rReprD X.K) := by
  intro pins s σ H xs us Q I r h
  obtain ⟨v, d, rfl, hd, ⟨hs, hsh, hl⟩, q⟩ := h
  obtain ⟨u, rfl, ru⟩ := vals1 r
  have hdep := SeqAt.depth_of_shaped hsh
  have hnd : d.hasDict = false := PyData.hasDict_of_canLay d (SeqAt.canLay_of_shaped hsh)
  obtain ⟨as, rd⟩ := Dp.reads I d v u hd ru
  have big : ∀ a, u = Value.ref a → wpAny (model X.prog X.w) X.A (call (.builtin "repr") [u]) (EP X pins σ Q) X.xe s := fun a e => by
    subst e
    exact repr_of_reads' rd hs (PyData.noDict_hsm hnd) hg (by omega) (fun _ _ e => e) (fun h' t tk k => ⟨.str d.shown, H, I.kept k, ⟨_, rfl⟩, q⟩) hl
  cases hd with
  | non =>
    cases ru
    exact PySem.P.repr_of_none ⟨.str _, H, I.tok _, ⟨_, rfl⟩, by simpa only [PyData.shown] using q⟩
  | bl b =>
    cases ru
    exact PySem.P.repr_of_bool ⟨.str _, H, I.tok _, ⟨_, rfl⟩, by simpa only [PyData.shown] using q⟩
  | int i =>
    obtain ⟨t, rfl⟩ := ru
    exact PySem.P.repr_of_int (by simpa [PyData.showable] using hs) ⟨.str _, H, I.tok _, ⟨_, rfl⟩, by simpa only [PyData.shown] using q⟩
  | str x =>
    obtain ⟨t, rfl⟩ := ru
    exact PySem.P.repr_of_str ⟨.str _, H, I.tok _, ⟨_, rfl⟩, by simpa only [PyData.shown] using q⟩ (by simpa only [PyData.shown] using hl)
  | lst _ _ => exact big _ ru
  | tup _ _ => exact big _ ru
end
/-! ### a comprehension over a text -/
theorem lc_str {z : Str} {g : TG} {tt : TT} {te : TE} {vs : List Nat} {σ : L2.St} {H1 : Hp} {D : Addr} {Qd : Hp → Prop} (Pv : Nat → Hp → Prop) (h0 : Pv 0 (upd H1 D (.lst [])))
    (hs : ∀ i c H, z.cps.toList[i]? = some c → Pv i H → g (.str ⟨#[c]⟩) (wipe σ vs) H fun σ2 H2 => wipe σ2 vs = wipe σ vs ∧ tt σ2 H2 fun b H3 =>
      if b = true then te σ2 H3 fun y H4 => ∃ acc, H4 D = some (.lst acc) ∧ acc.length < sizeLine ∧ Pv (i + 1) (upd H4 D (.lst (acc ++ [y]))) else Pv (i + 1) H3) (hd : ∀ H, Pv z.cps.toList.length H → Qd H) :
    ∃ W : Nat → Nat → Hp → Prop, (∃ m, W 0 m (upd H1 D (.lst []))) ∧ ∀ i m H, W i m H →
      ((Its z).stop i H ∧ Qd H) ∨ ((Its z).go i H ∧ ∃ Nx : Hp → Prop, (∀ H', Nx H' → ∃ m', m' < m ∧ W (i + 1) m' H') ∧ ∀ x H', (Its z).yld i H x H' → g x (wipe σ vs) H' fun σ2 H2 => wipe σ2 vs = wipe σ vs ∧ tt σ2 H2 fun b H3 =>
        if b = true then te σ2 H3 fun y H4 => ∃ acc, H4 D = some (.lst acc) ∧ acc.length < sizeLine ∧ Nx (upd H4 D (.lst (acc ++ [y]))) else Nx H3) := by
  have hz : z.cps.toList.length = z.cps.size := Array.length_toList
  refine ⟨fun i m H => m = z.cps.size - i ∧ i ≤ z.cps.size ∧ Pv i H, ⟨z.cps.size, by simp, Nat.zero_le _, h0⟩, ?_⟩
  rintro i m H ⟨rfl, hi, p⟩
  by_cases hlt : i < z.cps.size
  · refine .inr ⟨hlt, Pv (i + 1), fun H' p' => ⟨z.cps.size - (i + 1), by omega, rfl, hlt, p'⟩, fun x H' y => ?_⟩
    obtain ⟨e, c, hc, rfl⟩ := y
    subst e
    exact hs i c _ (by rw [Array.getElem?_toList]; exact hc) p
  · have e : i = z.cps.size := by omega
    subst e
    exact .inl ⟨Nat.le_refl _, hd H (by rw [hz]; exact p)⟩

/-! ### the pot: two numbers -/
structure Pot (H : Hp) (p : Addr) (x y : Int) : Prop where
  at_ : H p = some (.lst [.int x, .int y])
  x0 : 0 ≤ x
  y0 : 0 ≤ y
  y1 : y < 1099511627776
theorem Pot.ne {H : Hp} {p q : Addr} {x y : Int} (h : Pot H p x y) (hq : H q = none) : q ≠ p := fun e => by
  subst e
  rw [h.at_] at hq
  cases hq
theorem Pot.same {H H' : Hp} {p : Addr} {x y : Int} (h : Pot H p x y) (e : Same H H') : Pot H' p x y := ⟨e _ _ h.at_, h.x0, h.y0, h.y1⟩
theorem Pot.new {H : Hp} {p q : Addr} {x y : Int} {o : HO} (h : Pot H p x y) (hq : H q = none) : Pot (upd H q o) p x y := h.same (Same.new hq)
theorem hin_of {A : Around} {k : Nat} (hr : Room k A) : A.units + 65 < cLine := by have := hr.un; omega
theorem hrep_of {A : Around} {k : Nat} (hr : Room k A) : A.units + 70 < cLine := by have := hr.un; omega
end L2
set_option Elab.async false
set_option linter.all false
set_option maxRecDepth 100000
set_option maxHeartbeats 4000000
namespace L2
open PySem PySem.Spec PyProof.Rows
/-! ### data with dicts in it -/
mutual
inductive Dq (K : PySem.W.Frag) (H : Hp) : V → PyData → Prop
  | non : Dq K H .non .none
  | bl (b : Bool) : Dq K H (.bl b) (.bool b)
  | int (i : Int) : Dq K H (.int i) (.int i)
  | str (x : Str) : Dq K H (.str x) (.str x)
  | lst {a : Addr} {xs : List V} {ds : List PyData} : SqL K H a xs → DqAll K H xs ds → Dq K H (.ref a) (.list ds)
  | tup {a : Addr} {xs : List V} {ds : List PyData} : SqT K H a xs → DqAll K H xs ds → Dq K H (.ref a) (.tuple ds)
  | dct {a : Addr} {kvs : List (Key × V)} {ps : List (PyData × PyData)} : H a = some (.dK kvs) → DqAll K H (kvs.map fun q => kV q.1) (ps.map (·.1)) → DqAll K H (kvs.map (·.2)) (ps.map (·.2)) → Dq K H (.ref a) (.dict ps)
inductive DqAll (K : PySem.W.Frag) (H : Hp) : List V → List PyData → Prop
  | nil : DqAll K H [] []
  | cons {v : V} {vs : List V} {d : PyData} {ds : List PyData} : Dq K H v d → DqAll K H vs ds → DqAll K H (v :: vs) (d :: ds)
end
section
variable {K : PySem.W.Frag}
mutual
theorem Dp.q {H : Hp} : ∀ {v : V} {d : PyData}, Dp K H v d → Dq K H v d
  | _, _, .non => .non
  | _, _, .bl b => .bl b
  | _, _, .int i => .int i
  | _, _, .str x => .str x
  | _, _, .lst h a => .lst h (DpAll.q a)
  | _, _, .tup h a => .tup h (DpAll.q a)
theorem DpAll.q {H : Hp} : ∀ {vs : List V} {ds : List PyData}, DpAll K H vs ds → DqAll K H vs ds
  | _, _, .nil => .nil
  | _, _, .cons h t => .cons (Dp.q h) (DpAll.q t)
end
mutual
theorem Dq.mono {H H' : Hp} (e : Same H H') : ∀ {v : V} {d : PyData}, Dq K H v d → Dq K H' v d
  | _, _, .non => .non
  | _, _, .bl b => .bl b
  | _, _, .int i => .int i
  | _, _, .str x => .str x
  | _, _, .lst h a => .lst (e.seq h) (DqAll.mono e a)
  | _, _, .tup h a => .tup (sqT_mono e h) (DqAll.mono e a)
  | _, _, .dct h a b => .dct (e _ _ h) (DqAll.mono e a) (DqAll.mono e b)
theorem DqAll.mono {H H' : Hp} (e : Same H H') : ∀ {vs : List V} {ds : List PyData}, DqAll K H vs ds → DqAll K H' vs ds
  | _, _, .nil => .nil
  | _, _, .cons h t => .cons (Dq.mono e h) (DqAll.mono e t)
end
theorem DqAll.len {H : Hp} : ∀ {vs : List V} {ds : List PyData}, DqAll K H vs ds → vs.length = ds.length
  | _, _, .nil => rfl
  | _, _, .cons _ t => congrArg (· + 1) (DqAll.len t)
theorem DqAll.app {H : Hp} : ∀ {vs ws : List V} {ds es : List PyData}, DqAll K H vs ds → DqAll K H ws es → DqAll K H (vs ++ ws) (ds ++ es)
  | _, _, _, _, .nil, t => t
  | _, _, _, _, .cons h s, t => .cons h (DqAll.app s t)
theorem DqAll.at {H : Hp} : ∀ {vs : List V} {ds : List PyData} {i : Nat} {v : V}, DqAll K H vs ds → vs[i]? = some v → ∃ d, ds[i]? = some d ∧ Dq K H v d
  | _, _, i, v, .nil, e => by simp at e
  | _, _, 0, v, .cons h t, e => by
    simp at e
    exact ⟨_, rfl, e ▸ h⟩
  | _, _, i + 1, v, .cons h t, e => by
    obtain ⟨d, h1, h2⟩ := DqAll.at (i := i) t (by simpa using e)
    exact ⟨d, by simpa using h1, h2⟩
abbrev Qh (K : PySem.W.Frag) (p : Addr) (H : Hp) (v : V) (d : PyData) : Prop := Dq K (hid p H) v d
abbrev QhAll (K : PySem.W.Frag) (p : Addr) (H : Hp) (vs : List V) (ds : List PyData) : Prop := DqAll K (hid p H) vs ds
theorem Dq.un {p : Addr} {H : Hp} {v : V} {d : PyData} (h : Qh K p H v d) : Dq K H v d := Dq.mono hid_in h
theorem Dq.but {p : Addr} {H H' : Hp} {v : V} {d : PyData} (e : But p H H') (h : Qh K p H v d) : Qh K p H' v d := Dq.mono (hid_but e) h
theorem DqAll.but {p : Addr} {H H' : Hp} {vs : List V} {ds : List PyData} (e : But p H H') (h : QhAll K p H vs ds) : QhAll K p H' vs ds := DqAll.mono (hid_but e) h
theorem Dq.newT {p q : Addr} {H : Hp} {xs : List V} {ds : List PyData} (hq : H q = none) (n : q ≠ p) (h : QhAll K p H xs ds) : Qh K p (upd H q (.tup xs)) (.ref q) (.tuple ds) :=
  .tup (.inl (.inl (by rw [hid_ne n, upd_same]))) (DqAll.but (But.new hq) h)
theorem Dq.newL {p q : Addr} {H : Hp} {xs : List V} {ds : List PyData} (hq : H q = none) (n : q ≠ p) (h : QhAll K p H xs ds) : Qh K p (upd H q (.lst xs)) (.ref q) (.list ds) :=
  .lst (.inl (.inl (by rw [hid_ne n, upd_same]))) (DqAll.but (But.new hq) h)
theorem Dq.new0 {p q : Addr} {H : Hp} (hq : H q = none) (n : q ≠ p) : Qh K p (upd H q (.dK [])) (.ref q) (.dict []) :=
  .dct (kvs := []) (by rw [hid_ne n, upd_same]) .nil .nil
/-! ### isinstance -/
theorem Dq.ty {H : Hp} {v : V} {d : PyData} (h : Dq K H v d) : TyX K H v (.type (tyN d)) := by
  cases h with
  | non => exact .base .non
  | bl b => exact .base (.bl b)
  | int i => exact .base (.int i)
  | str x => exact .base (.str x)
  | lst hs _ =>
    rcases hs with (h | ⟨o, h⟩) | ⟨o, its, n, h, hc, _⟩
    · exact .base (.lst h)
    · exact .base (.frz h)
    · exact .kList h hc
  | tup hs _ =>
    rcases hs with (h | ⟨o, h⟩) | ⟨o, its, n, h, hc, _⟩
    · exact .base (.tup h)
    · exact .fTuple h
    · exact .kTuple h hc
  | dct h _ _ => exact .base (.dK h)
def isD : PyData → Bool | .dict _ => true | _ => false
def isOfQ : String → PyData → Bool
  | "str", d => isS d
  | "tuple", d => isT d
  | "list", d => isL d
  | "bool", d => isB d
  | "int", d => isI d
  | "dict", d => isD d
  | _, _ => false
theorem kitNq : (["NoneType", "bool", "int", "str", "list", "tuple", "dict"].all fun a => ["str", "tuple", "list", "bool", "int", "dict"].all fun T => kitB a T == some (tabN a T)) = true := by decide +kernel
theorem kit_allq {a T : String} (ha : a ∈ ["NoneType", "bool", "int", "str", "list", "tuple", "dict"]) (hT : T ∈ ["str", "tuple", "list", "bool", "int", "dict"]) : kitB a T = some (tabN a T) := by
  have h := List.all_eq_true.mp (List.all_eq_true.mp kitNq a ha) T hT
  exact eq_of_beq h
theorem isOfQ_tab {T : String} (hT : T ∈ ["str", "tuple", "list", "bool", "int", "dict"]) (d : PyData) : isOfQ T d = tabN (tyN d) T := by
  simp only [List.mem_cons, List.not_mem_nil, or_false] at hT
  rcases hT with rfl | rfl | rfl | rfl | rfl | rfl <;> cases d <;> first | rfl | decide
theorem isOfQ_kit {d : PyData} {T : String} (hT : T ∈ ["str", "tuple", "list", "bool", "int", "dict"]) : kitB (tyN d) T = some (isOfQ T d) := by
  rw [isOfQ_tab hT]
  refine kit_allq ?_ hT
  cases d <;> simp [tyN]
end
def rIsQ (K : PySem.W.Frag) : List V → Hp → VK → Prop := fun xs H Q => ∃ (v : V) (d : PyData) (T : String), xs = [v, .ty T] ∧ Dq K H v d ∧ T ∈ ["str", "tuple", "list", "bool", "int", "dict"] ∧ Q (.bl (isOfQ T d)) H
section
variable {X : Cx}
theorem call_isQ : CallR X (.builtin "isinstance") (rIsQ X.K) := by
  intro pins s σ H xs us Q I r h
  obtain ⟨v, d, T, rfl, hd, hT, q⟩ := h
  exact call_isi pins s σ H _ us Q I r ⟨v, .ty T, .type (tyN d), .type T, isOfQ T d, rfl, .ty T, hd.ty, kit_ty (isOfQ_kit hT), q⟩
end
/-! ### the heap's own reading of it; no list beside a dict -/
mutual
def nl : PyData → Bool
  | .list _ => false
  | .tuple xs => nls xs
  | .dict kvs => nlk kvs
  | _ => true
def nls : List PyData → Bool
  | [] => true
  | x :: xs => nl x && nls xs
def nlk : List (PyData × PyData) → Bool
  | [] => true
  | (k, v) :: r => nl k && nl v && nlk r
end
theorem nlk_of : ∀ {ps : List (PyData × PyData)}, nlk ps = true → nls (ps.map (·.1)) = true ∧ nls (ps.map (·.2)) = true
  | [], _ => ⟨rfl, rfl⟩
  | (k, v) :: r, h => by
    have h' : (nl k && nl v && nlk r) = true := by simpa [nlk] using h
    simp only [Bool.and_eq_true] at h'
    have ih := nlk_of h'.2
    simp only [List.map_cons, nls, Bool.and_eq_true]
    exact ⟨⟨h'.1.1, ih.1⟩, ⟨h'.1.2, ih.2⟩⟩
section
variable {P : Program} {w : World}
theorem kv_keys : ∀ {kvs : List (Key × V)} {vs : List (Key × Value)} {es : List DictEntry}, KV kvs vs → Pairs (mixKind P w) es vs → Vals (kvs.map fun q => kV q.1) (es.map (·.key)) ∧ Vals (kvs.map (·.2)) (es.map (·.val))
  | _, _, _, .nil, .nil => ⟨.nil, .nil⟩
  | _, _, _, .cons (a := q) (b := z) ⟨h1, h2⟩ r, .cons (e := e) k1 k2 k3 => by
    have ih := kv_keys r k3
    refine ⟨.cons ?_ ih.1, .cons ?_ ih.2⟩
    · have k1' : keyIs z.1 e.key = true := k1
      rw [← h1] at k1'
      rcases keyIs_shape k1' with ⟨i, t, e1, e2⟩ | ⟨x, t, e1, e2⟩
      · show RelV (kV q.1) e.key
        rw [e1, e2]
        exact ⟨t, rfl⟩
      · show RelV (kV q.1) e.key
        rw [e1, e2]
        exact ⟨t, rfl⟩
    · show RelV q.2 e.val
      rw [k2]
      exact h2
end
section
variable {X : Cx} {pins : List (Addr × Obj)} {σ : St} {H : Hp} {s : Shared}
mutual
theorem Dq.reads (I : Inv X pins σ H s) : ∀ {v : V} {d : PyData} {u : Value}, Dq X.K H v d → RelV v u → ∃ as, Reads s.heap u d as ∧ (nl d = true → sysModules ∉ as)
  | _, _, _, .non, r => by
    cases r
    exact ⟨_, Reads.none, fun _ h => nomatch h⟩
  | _, _, _, .bl b, r => by
    cases r
    exact ⟨_, Reads.bool b, fun _ h => nomatch h⟩
  | _, _, _, .int i, r => by
    obtain ⟨t, rfl⟩ := r
    exact ⟨_, Reads.int i t, fun _ h => nomatch h⟩
  | _, _, _, .str x, r => by
    obtain ⟨t, rfl⟩ := r
    exact ⟨_, Reads.str x t, fun _ h => nomatch h⟩
  | _, _, _, .lst hs ha, r => by
    cases r
    obtain ⟨its, rv, ⟨o, n, ho, hc, _, hd⟩, _⟩ := I.list hs
    obtain ⟨as, hr, _⟩ := DqAll.reads I ha rv
    exact ⟨_, Reads.list ho hc hd hr, fun h => by simp [nl] at h⟩
  | _, _, _, .tup hs ha, r => by
    cases r
    obtain ⟨its, rv, ⟨o, ho, hc, n, hd⟩, _⟩ := I.tuple hs
    obtain ⟨as, hr, hn⟩ := DqAll.reads I ha rv
    exact ⟨_, Reads.tuple ho hc hd hr, fun h => hn (by simpa [nl] using h)⟩
  | _, _, _, .dct (a := a) (ps := ps) hs hk hv, r => by
    cases r
    obtain ⟨_, hlow, vs, kv, o, es, ep, ho, ⟨hc, _, _⟩, hd, _, hp, _⟩ := I.hok _ _ hs
    obtain ⟨v1, v2⟩ := kv_keys kv hp
    obtain ⟨as, r1, n1⟩ := DqAll.reads I hk v1
    obtain ⟨bs, r2, n2⟩ := DqAll.reads I hv v2
    refine ⟨_, Reads.dict ho hc hd r1 r2, fun h => ?_⟩
    have h' := nlk_of (ps := ps) (by simpa [nl] using h)
    have hl := beq_eq_false_iff_ne.mp hlow
    intro hm
    rw [List.cons_append, List.mem_cons, List.mem_append] at hm
    rcases hm with hm | hm | hm
    · exact hl hm.symm
    · exact n1 h'.1 hm
    · exact n2 h'.2 hm
theorem DqAll.reads (I : Inv X pins σ H s) : ∀ {vs : List V} {ds : List PyData} {us : List Value}, DqAll X.K H vs ds → Vals vs us → ∃ as, ReadsAll s.heap us ds as ∧ (nls ds = true → sysModules ∉ as)
  | _, _, _, .nil, r => by
    cases r
    exact ⟨_, ReadsAll.nil, fun _ h => nomatch h⟩
  | _, _, _, .cons h1 h2, r => by
    cases r with
    | cons r1 r2 =>
      obtain ⟨as, q1, n1⟩ := Dq.reads I h1 r1
      obtain ⟨bs, q2, n2⟩ := DqAll.reads I h2 r2
      refine ⟨_, ReadsAll.cons q1 q2, fun h => ?_⟩
      have h' := h
      simp only [nls, Bool.and_eq_true] at h'
      intro hm
      rcases List.mem_append.mp hm with hm | hm
      · exact n1 h'.1 hm
      · exact n2 h'.2 hm
end
/-! ### repr -/
structure shownQ (d : PyData) : Prop where
  sh : d.showable = true
  dep : d.depth ≤ 64
  len : d.shown.length ≤ sizeLine
  nd : d.hasDict = true → nl d = true
def rReprQ (K : PySem.W.Frag) : List V → Hp → VK → Prop := fun xs H Q => ∃ (v : V) (d : PyData), xs = [v] ∧ Dq K H v d ∧ shownQ d ∧ Q (.str d.shown) H
theorem call_reprQ (hg : X.A.guards = some []) (hu : X.A.units + 70 < cLine) : CallR X (.builtin "repr") (rReprQ X.K) := by
  intro pins s σ H xs us Q I r h
  obtain ⟨v, d, rfl, hd, ⟨hs, hdep, hl, hnd⟩, q⟩ := h
  obtain ⟨u, rfl, ru⟩ := vals1 r
  obtain ⟨as, rd, hm⟩ := Dq.reads I hd ru
  have big : ∀ a, u = Value.ref a → wpAny (model X.prog X.w) X.A (call (.builtin "repr") [u]) (EP X pins σ Q) X.xe s := fun a e => by
    subst e
    exact repr_of_reads' rd hs (fun h => hm (hnd h)) hg (by omega) (fun _ _ e => e) (fun h' t tk k => ⟨.str d.shown, H, I.kept k, ⟨_, rfl⟩, q⟩) hl
  cases hd with
  | non =>
    cases ru
    exact PySem.P.repr_of_none ⟨.str _, H, I.tok _, ⟨_, rfl⟩, by simpa only [PyData.shown] using q⟩
  | bl b =>
    cases ru
    exact PySem.P.repr_of_bool ⟨.str _, H, I.tok _, ⟨_, rfl⟩, by simpa only [PyData.shown] using q⟩
  | int i =>
    obtain ⟨t, rfl⟩ := ru
    exact PySem.P.repr_of_int (by simpa [PyData.showable] using hs) ⟨.str _, H, I.tok _, ⟨_, rfl⟩, by simpa only [PyData.shown] using q⟩
  | str x =>
    obtain ⟨t, rfl⟩ := ru
    exact PySem.P.repr_of_str ⟨.str _, H, I.tok _, ⟨_, rfl⟩, by simpa only [PyData.shown] using q⟩ (by simpa only [PyData.shown] using hl)
  | lst _ _ => exact big _ ru
  | tup _ _ => exact big _ ru
  | dct _ _ _ => exact big _ ru
end
end L2
set_option Elab.async false
set_option linter.all false
set_option maxRecDepth 100000
set_option maxHeartbeats 4000000
namespace L2
open PySem PySem.Spec PyProof.Rows
/-! a def whose promise is asked only where no repr is under way -/
structure FnG (P : Program) (w : World) (K : PySem.W.Frag) (mg : Str → Option Value) (base : Heap) (CX : CXT) (k : Nat) (f : Addr) (fd : FuncData) (ps : List Str) (sp : Sp) : Prop where
  run : ∀ (A : Around) (outer : List Env) (s : Shared) (H : Hp) (args : Args) (us : List Value) (vs : List V) (Q : VK) (E : XK), A.guards = some [] → Room k A → Env0 P w K mg base A outer s H →
    BindsTo s fd args (ps.zip us) → Vals vs us → sp vs H Q E → codeAny (model P w) A (.call (.ref f) args) (CR CX outer P w H s Q E) s
section
variable {P : Program} {w : World} {K : PySem.W.Frag} {mg : Str → Option Value} {base : Heap} {CX : CXT} {k : Nat}
theorem fnG_of {f : Addr} {nm ql : Str} {pa : Arguments} {bd : List Stmt} {sc : Scope} {dV kV dc pm cdv ct oc : Value} {an od : Option Addr} {osl : Array (Option Value)} {N ps : List Str} {sp : Sp}
    (lk : K.lookup f = some ⟨oc, od, .func (PySem.W.fnOf nm ql pa bd sc dV kV dc pm an cdv ct), osl⟩) (hcd : PySem.W.codeIn K cdv ql = true) (S : FnScope N ps sc)
    (ln : ∀ vs H Q E, sp vs H Q E → vs.length = ps.length)
    (hb : ∀ (A : Around) (outer : List Env) (s : Shared) (H : Hp) (vs : List V) (Q : VK) (E : XK), (A.deeper (envOfC ql sc s.heap.objs.size f cdv)).guards = some [] → Room k (A.deeper (envOfC ql sc s.heap.objs.size f cdv)) → sp vs H Q E →
      ∃ t, PSs (cxOf CX P w K mg base N ql sc f cdv A outer s H E) bd t ∧ t { nx := fun _ H' => Q .non H', rt := Q } (start N vs) H) :
    FnG P w K mg base CX (k + 1) f (PySem.W.fnOf nm ql pa bd sc dV kV dc pm an cdv ct) ps sp := by
  constructor
  intro A outer s H args us vs Q E hg hr e0 hbd rv hsp
  have hln := ln _ _ _ _ hsp
  have inK : K.In s.heap := e0.mod.kin.keeps (fun b o e => (e0.bs b o e).1)
  have noL : s.heap.NoLimit := e0.mod.nolimit.keeps (fun b o e => (e0.bs b o e).1)
  have hkd : ∀ y ∈ ps.zip us, sc.names.lookup y.1 = some .local ∨ (sc.names.lookup y.1 = some .cell ∧ ((cellsFrom (s.heap.objs.size + 1) sc.names []).lookup y.1).isSome = true) := by
    rintro ⟨n, v⟩ hy
    rcases S.par n (List.of_mem_zip hy).1 with z | z
    · exact Or.inl z
    · exact Or.inr ⟨z, PySem.W.cellsFrom_some _ _ _ (Or.inl z)⟩
  refine codeAny_call_function hr.depth (inK _ _ lk) rfl S.co S.gen rfl
    (PySem.W.codeRec_of inK hcd) (hbd _ _ _ _ ?_)
  refine wpAny_newFunctionEnv_cells S.kind hkd
    (fun env he s1 x => ?_)
  subst he
  refine ⟨noL.keeps x.toInCall.keep, codeAny_func ?_⟩
  obtain ⟨t, ht, hq⟩ := hb A outer s H vs Q E hg (hr.deeper _) hsp
  have I0 := inv_start (CX := CX) (E := E) S hr.hd e0 hln rv x
  refine wpAny_mono (ht.run [] s1 (start N vs) H _ I0 hq)
    (fun fl s' hs => ?_) (fun e s' hs => hs)
  have done : ∀ {σ' : St} {H' : Hp} {v : V} {u : Value}, Inv (cxOf CX P w K mg base N ql sc f cdv A outer s H E) [] σ' H' s' → RelV v u → Q v H' → CE outer P w H s Q u s' := by
    intro σ' H' v u J r q
    exact ⟨v, H', J.os, J.bare, J.base, J.hok, r, q⟩
  cases fl with
  | ret u =>
    obtain ⟨v, σ', H', J, r, q⟩ := hs
    exact done J r q
  | next =>
    obtain ⟨σ', H', J, q⟩ := hs
    exact done (v := .non) (u := .none) J rfl q
  | brk => exact (hs.elim fun _ ⟨_, _, q⟩ => q.elim)
  | cont => exact (hs.elim fun _ ⟨_, _, q⟩ => q.elim)
/-- by its place in the text, as C8's -/
theorem fnG0 {x : Str} {st : Stmt} {f : Addr} {fd : FuncData} {N ps : List Str} {sp : Sp} (D : C8.Def K mg x st f fd) (S : FnScope N ps (C8.fnScope st)) (ln : ∀ vs H Q E, sp vs H Q E → vs.length = ps.length)
    (hb : ∀ (cdv : Value) (A : Around) (outer : List Env) (s : Shared) (H : Hp) (vs : List V) (Q : VK) (E : XK), (A.deeper (envOfC x (C8.fnScope st) s.heap.objs.size f cdv)).guards = some [] → Room k (A.deeper (envOfC x (C8.fnScope st) s.heap.objs.size f cdv)) → sp vs H Q E →
      ∃ t, PSs (cxOf C8.CX0 P w K mg base N x (C8.fnScope st) f cdv A outer s H E).nox (C8.fnBody st) t ∧ t { nx := fun _ H' => Q .non H', rt := Q } (start N vs) H) : FnG P w K mg base C8.CX0 (k + 1) f fd ps sp := by
  obtain ⟨oc, od, dV, kV, doc, pm, an, cdv, ct, osl, rfl, lk, hcd⟩ := D.fn.ex
  refine fnG_of lk hcd S ln (fun A outer s H vs Q E hg hr hsp => ?_)
  obtain ⟨t, h, q⟩ := hb cdv A outer s H vs Q E hg hr hsp
  exact ⟨t, h.nox, q⟩
end
/-- the law's call, from such a promise -/
theorem lawG {P : Program} {w : World} {K : PySem.W.Frag} {mg mb : Str → Option Value} {CX : CXT} {k : Nat} {fa a : Addr} {fd : FuncData} {x : Str} {sp : Sp} {s₁ : Shared} {vs : List Value} {ns : List Int}
    (KX : K.In s₁.heap) (hns : s₁.heap.Ns mainGlobals mg) (hb : s₁.heap.Ns builtinsNs mb) (hbb : ∀ x : Str, x ≠ "__name__" → mb x = bootBuiltins x) (hlim : s₁.heap.NoLimit) (hg : s₁.gens = #[])
    (ha : s₁.heap.get? a = some { cls := .type "list", data := .seq vs.toArray }) (hi : IntsAre vs ns) (hl : ns.length ≤ sizeLine) (hr : Room k callerA)
    (F : ∀ base : Heap, K.In base → base.Ns mainGlobals mg → FnG P w K mg base CX k fa fd [x] sp)
    (hbind : ∀ (s : Shared) (u : Value), BindsTo s fd ⟨[u], []⟩ [(x, u)])
    (hsp : ∀ H : Hp, Only H → SqL K H a (ns.map V.int) → sp [.ref a] H (fun v _ => v = .bl true) fun _ _ _ => False)
    (hCX : ∀ H e s', CX [] H s₁ (fun _ _ _ => False) e s' → False) :
    codeAny (model P w) callerA (.call (.ref fa) ⟨[.ref a], []⟩) (fun r s' => r = .ok (.ret (.bool true)) ∧ OldK s₁.heap s'.heap ∧ s'.os = s₁.os ∧ AllBare s'.gens) s₁ := by
  have vi := vals_ints hi
  have hvl := hi.length
  have main : ∀ H : Hp, Only H → SqL K H a (ns.map V.int) → HOk P w H s₁.heap → (∀ b, H b ≠ none → b = a) → (H a ≠ none → K.lookup a = none) →
      codeAny (model P w) callerA (.call (.ref fa) ⟨[.ref a], []⟩) (fun r s' => r = .ok (.ret (.bool true)) ∧ OldK s₁.heap s'.heap ∧ s'.os = s₁.os ∧ AllBare s'.gens) s₁ := by
    intro H only hS hok onlyA noK
    have free : ∀ {b : Addr} {o : Obj} {es : Array DictEntry} {ep : Nat}, s₁.heap.get? b = some o → o.data = .dict es ep → H b = none := by
      intro b o es ep e d
      cases q : H b with
      | none => rfl
      | some u =>
        have hba : b = a := onlyA b (by rw [q]; simp)
        subst hba
        rw [ha] at e
        cases e
        exact nomatch (show Data.seq vs.toArray _ = Data.dict es ep from d)
    have nsAt : ∀ {b : Addr} {m : Str → Option Value}, s₁.heap.Ns b m → (hidT s₁.heap H).Ns b m := by
      rintro b m ⟨o, es, ep, e, d, r⟩
      exact ⟨o, es, ep, hidT_get e (free e d), d, r⟩
    have inB : K.In (hidT s₁.heap H) := by
      intro b o e
      refine hidT_get (KX b o e) ?_
      cases q : H b with
      | none => rfl
      | some u =>
        have hba : b = a := onlyA b (by rw [q]; simp)
        subst hba
        rw [noK (by rw [q]; simp)] at e
        cases e
    have md : Mod K mg (hidT s₁.heap H) := by
      obtain ⟨mc, h1, h2⟩ := hlim
      exact ⟨inB, nsAt hns, ⟨mb, nsAt hb, hbb⟩, ⟨mc, nsAt h1, h2⟩⟩
    have e0 : Env0 P w K mg (hidT s₁.heap H) callerA [] s₁ H := by
      refine ⟨rfl, md, fun b o e => of_hidT e, Nat.le_of_eq (hidT_size _ _), trivial, ?_, hok, .of_eq hg⟩
      intro b hb
      exact absurd (show b ∈ ([] : List Addr) from hb) (by simp)
    have hrun := (F _ inB (nsAt hns)).run callerA [] s₁ H ⟨[.ref a], []⟩ [.ref a] [.ref a] _ _ rfl hr e0
      (hbind s₁ (.ref a)) (.cons rfl .nil) (hsp H only hS)
    refine codeAny_mono hrun (fun r s' h => ?_)
    cases r with
    | error e => exact (hCX H e s' h).elim
    | ok fl =>
      cases fl with
      | ret u =>
        obtain ⟨v, H', os, bare, un, hok', r', q⟩ := h
        have qv : v = .bl true := q
        subst qv
        have ru : u = Value.bool true := r'
        subst ru
        refine ⟨rfl, OldK.of_keep ?_, os, bare⟩
        intro b o e
        cases q : H b with
        | none => exact un.keep b o e q (fun z => absurd (show b ∈ ([] : List Addr) from z) (by simp)) (by simp)
        | some u =>
          rcases only b with z | ⟨ob, ys, z⟩
          · rw [q] at z
            cases z
          · obtain ⟨e1, _⟩ := hok b _ z
            obtain ⟨e2, _⟩ := hok' b _ (un.frzs b ob _ z)
            rw [e] at e1
            cases e1
            exact e2
      | next => exact False.elim h
      | brk => exact False.elim h
      | cont => exact False.elim h
  cases hk : K.lookup a with
  | some o =>
    have e := KX a o hk
    rw [ha] at e
    cases e
    refine main (fun _ => none) (fun _ => Or.inl rfl) (Or.inr ⟨_, vs.toArray, _, hk, rfl, rfl, rfl, ?_, ?_⟩) ?_ (fun b z => absurd rfl z) (fun z => absurd rfl z)
    · rw [List.size_toArray, hvl]
      exact hl
    · simpa using vi
    · intro b u z
      exact nomatch (show (none : Option HO) = some u from z)
  | none =>
    refine main (fun b => if b = a then some (.frz { cls := .type "list", data := .seq vs.toArray } (.lst (ns.map V.int))) else none) (fun b => ?_) (Or.inl (Or.inr ⟨_, if_pos rfl⟩)) (fun b u z => ?_) (fun b z => ?_) (fun _ => hk)
    · by_cases hba : b = a
      · exact Or.inr ⟨_, _, if_pos hba⟩
      · exact Or.inl (if_neg hba)
    · by_cases hba : b = a
      · have zz := (if_pos hba).symm.trans z
        cases zz
        subst hba
        exact ⟨ha, by rw [List.length_map]; exact hl, vs, _, vi, ha⟩
      · have zz := (if_neg hba).symm.trans z
        cases zz
    · by_cases hba : b = a
      · exact hba
      · exact absurd (if_neg hba) z
/-- the goal that the head leaves, from such a promise of the law's def -/
theorem walkG {l : PySem.W.OpenLaw} {n k : Nat} {q : Program} {loose : List Str} {XP : (Str → Option Value) → Heap → Prop} {YP : World → Heap → Prop} {d : DefRec} {K : Params → PySem.W.Frag} {sp : PySem.W.Frag → Sp} {x : Str}
    (hn : l.most = some n) (hn2 : n ≤ sizeLine) (hdf : d.params.defaults = []) (hr : Room k callerA) (hY : ∀ (w : World) (h : Heap), YP w h → (K w.params).In h)
    (F : ∀ (w : World) (mg : Str → Option Value) (fa : Addr) (h : Heap), (K w.params).In h → h.Ns mainGlobals mg → mg d.name = some (.ref fa) →
      ∃ fd : FuncData, (∀ (s : Shared) (u : Value), BindsTo s fd ⟨[u], []⟩ [(x, u)]) ∧ ∀ base : Heap, (K w.params).In base → base.Ns mainGlobals mg → FnG l.prog w (K w.params) mg base C8.CX0 k fa fd [x] (sp (K w.params)))
    (hsp : ∀ (K : PySem.W.Frag) (H : Hp) (a : Addr) (ns : List Int), ns.length ≤ n → Only H → SqL K H a (ns.map V.int) → sp K [.ref a] H (fun v _ => v = .bl true) fun _ _ _ => False) :
    PySem.W.WalkO q loose XP YP l.row.toRowW d [] (fun f vs => PySem.call f vs) := by
  refine Att.attach_call hn hdf ?_
  intro w s₀ s₁ mg mb fa o pm cd doc a vs ns G Y ho hd hcd hmg hobj hints hlen hg
  have inK := hY w _ Y
  obtain ⟨fd, hb, hF⟩ := F w mg fa _ inK G.T.g hmg
  exact lawG inK G.T.g G.T.b G.T.builtins G.T.nolimit hg hobj hints (Nat.le_trans hlen hn2) hr hF hb (fun H hO hS => hsp _ H a ns hlen hO hS) (fun H e s' z => z)
end L2
set_option Elab.async false
set_option linter.all false
set_option maxRecDepth 100000
set_option maxHeartbeats 4000000
/-! set(a list), step by step by a predicate J i on heaps; sets of texts, of ints; sorted of them. -/
namespace L2
open PySem PySem.Spec PyProof.Rows
abbrev freshSet (w : World) : Obj := { cls := .type "set", dict := none, data := .set #[] 0 (.fresh 0 0 (!w.params.followText "set-order")) }
/-- what a set has got from the first i things -/
structure SetStep (P : Program) (w : World) (S : Addr) (J : Nat → Heap → Prop) (Pv : Nat → Value → Prop) : Prop where
  frame : ∀ i h h', J i h → (∀ o, h.get? S = some o → h'.get? S = some o) → J i h'
  step : ∀ (A : Around) (E : Value → Shared → Prop) i v (s : Shared) (Q : Bool → Shared → Prop), Pv i v → J i s.heap → (∀ b h' tk, Heap.SameBut S s.heap h' → s.toks ≤ tk → J (i + 1) h' → Q b { s with heap := h', toks := tk }) → wpAny (model P w) A (setAdd S v) Q E s
section
variable {P : Program} {w : World} {A : Around} {E : Value → Shared → Prop} {s : Shared}
theorem set_upd {I : Addr} {fp wr : List Addr} {G : Array GenState → Array GenState → Prop} {n : Nat} {Pv : Nat → Value → Prop} {St : Nat → Shared → Prop} {R : Result → Shared → Prop}
    (W : WalksS P w A.in1 I fp wr G n Pv St) {S : Addr} (hSf : S ∉ fp) {J : Nat → Heap → Prop} (T : SetStep P w S J Pv) :
    ∀ (k i : Nat) (s : Shared), n - i = k → i ≤ n → St i s → J i s.heap → (∀ s', Moved (S :: wr) G s s' → J n s'.heap → R (.ok (.ret .none)) s') →
      codeAny (model P w) A (.builtin "set.update.loop" ⟨[.ref S, .ref I], []⟩) R s := by
  have hSw : S ∉ wr := fun h => hSf (W.sub _ h)
  have up : ∀ b ∈ wr, b ∈ S :: wr := fun b hb => List.mem_cons_of_mem _ hb
  intro k
  induction k with
  | zero =>
    intro i s hk hi hst hJ hR
    have e : i = n := Nat.le_antisymm hi (by omega)
    subst e
    refine codeAny_builtin F.entry_set_update_loop ?_
    rw [Around.under_plainId F.plain_set_update_loop _]
    show wpAny _ A.in1 (pyNext (.ref I) >>= _) _ _ s
    refine wpAny_bind (W.done s _ _ hst fun s' hm => ?_)
    show wpAny _ A.in1 (ret Value.none) _ _ s'
    exact wpAny_pure (hR s' (hm.mono up) (T.frame _ _ _ hJ fun o e => hm.heap S o hSw e))
  | succ k ih =>
    intro i s hk hi hst hJ hR
    have hlt : i < n := by omega
    refine codeAny_builtin F.entry_set_update_loop ?_
    rw [Around.under_plainId F.plain_set_update_loop _]
    show wpAny _ A.in1 (pyNext (.ref I) >>= _) _ _ s
    refine wpAny_bind (W.item i s _ _ hlt hst fun v s' hP hst' hm => ?_)
    have hJ' := T.frame _ _ _ hJ fun o e => hm.heap S o hSw e
    show wpAny _ A.in1 (holding [v] (setAdd S v) >>= _) _ _ s'
    refine wpAny_bind (wpAny_holding (T.step _ _ i v s' _ hP hJ' fun b h' tk sb ht hJ2 => ?_))
    refine wpAny_pure ⟨plainId_quiet F.plain_set_update_loop _, ih (i + 1) _ (by omega) hlt (W.frame _ s' _ _ hst' ht fun c hc o e => ?_) hJ2 fun s'' hm'' hJ'' => ?_⟩
    · rw [sb.2 c fun z => hSf (z ▸ hc)]; exact e
    · refine hR s'' (Moved.trans W.gtrans ((hm.mono up).then_heap ht fun c o hc e => ?_) hm'') hJ''
      rw [sb.2 c fun z => hc (z ▸ List.mem_cons_self)]; exact e
set_option maxHeartbeats 6400000 in
theorem call_set_list {l : Addr} {items : Array Value} {J : Nat → Heap → Prop} {Q : Value → Shared → Prop} (hh : A.handled = none) (hl : s.heap.IsList l items)
    (T : SetStep P w s.heap.objs.size J fun i v => items[i]? = some v) (J0 : ∀ h : Heap, h.get? s.heap.objs.size = some (freshSet w) → J 0 h)
    (h : ∀ (h' : Heap) (tk : Nat), J items.size h' → (∀ b o, s.heap.get? b = some o → h'.get? b = some o) → Q (.ref s.heap.objs.size) { s with heap := h', toks := tk }) :
    wpAny (model P w) A (call (.type "set") [.ref l]) Q E s := by
  obtain ⟨c, tl, hmro⟩ := F.called_set.mro
  have hmade := F.called_set.made
  have hsub := F.called_set.sub
  refine wpAny_call (codeAny_of_tree ?_)
  show wpAny _ _ (callAny (.type "set") _) _ _ _
  refine wpAny_pure ⟨Code.quiet_builtin _ (by decide +kernel), codeAny_builtin F.entry_type_call ?_⟩
  rw [Around.under_plain (weight_type_call_type "set" [.ref l] []) rfl]
  have h1 := F.called_set.notType
  have h2 := F.called_set.canCreate
  have hct := F.typeCall_set_1 (.ref l)
  repeat (any_goals (first | assumption | wp_step))
  refine codeAny_mono (code_set_led1 (.ref l) (E := E) (Q₁ := fun obj s₁ => obj = .ref s.heap.objs.size ∧ s₁ = { s with heap := s.heap.push (freshSet w) }) ⟨rfl, rfl⟩) fun r s₁ hr => ?_
  cases r with
  | error e => exact hr
  | ok fl =>
    cases fl with
    | ret obj =>
      obtain ⟨rfl, rfl⟩ := hr
      have hS : (s.heap.push (freshSet w)).get? s.heap.objs.size = some (freshSet w) := Heap.get?_push_size _ rfl
      have hT : Shared.TypeIs { s with heap := s.heap.push (freshSet w) } (.ref s.heap.objs.size) "set" := ⟨_, hS, rfl⟩
      have hli := F.called_set.init.lookup
      have hbi := F.called_set.init.bind (.ref s.heap.objs.size)
      repeat (any_goals (first | assumption | wp_step))
      refine codeAny_mono (codeAny_call_builtin (R := wants (fun r s₂ => r = .none ∧ ∃ h' tk, s₂ = { s with heap := h', toks := tk } ∧ J items.size h' ∧ (∀ b o, s.heap.get? b = some o → h'.get? b = some o)) E) F.called_set.init.plain F.entry_set_init (check_set_init_1 hT ?_)) fun r₂ s₂ hr₂ => ?_
      · obtain ⟨ol, hol, hcl, nl, hdl⟩ := hl
        obtain ⟨ocls, odict, odata, oslots⟩ := ol
        simp only at hcl hdl
        subst hcl; subst hdl
        have hol' : (s.heap.push (freshSet w)).get? l = some { cls := .type "list", dict := odict, data := .seq items nl, slots := oslots } := Heap.get?_push_of_some _ hol
        have hsls := F.sub_list_set
        have hslf := F.sub_list_frozenset
        have hne : (Value.type "list" == Value.type "dict") = false := by decide
        have hl1 : (s.heap.push (freshSet w)).IsList l items := ⟨_, hol', rfl, nl, rfl⟩
        unfold Builtin.«set.__init__» noKeywords Builtin.Frozenset.updateFrom
        generalize hPI : pyIter = PI
        wp_walk
        subst hPI
        refine wpAny_pyIter_list hl1 ?_
        refine wpAny_bind (wpAny_runValue ?_)
        have hlS : l < s.heap.objs.size := Heap.lt_size hol
        have hh3 : A.in1.in1.in1.handled = none := by simp [hh]
        have hneI : l ≠ (s.heap.push (freshSet w)).objs.size := by
          rw [Heap.size_push]; exact Nat.ne_of_lt (Nat.lt_succ_of_lt hlS)
        have hSf : s.heap.objs.size ∉ [(s.heap.push (freshSet w)).objs.size, l] := by
          rw [Heap.size_push]; simp only [List.mem_cons, List.mem_singleton, List.not_mem_nil, or_false, not_or]
          exact ⟨Nat.ne_of_lt (Nat.lt_succ_self _), Nat.ne_of_gt hlS⟩
        refine set_upd ((Walks.list hh3 _ l hneI items).toS) hSf T (items.size - 0) 0 _ (by omega) (Nat.zero_le _)
          ⟨⟨_, Heap.get?_push_size _ rfl, rfl, rfl⟩, (hl1.push _)⟩ (J0 _ (Heap.get?_push_of_some _ hS)) fun s' hm hJ => ?_
        obtain ⟨h', g2, d', tk', os'⟩ := s'
        have eg : g2 = s.gens := hm.gens
        have ed : d' = s.drawn := hm.drawn
        have eo : os' = s.os := hm.os
        subst eg; subst ed; subst eo
        show wpAny _ _ _ _ _ _
        refine wpAny_pure ?_
        show wpAny _ _ (ret Value.none) _ _ _
        refine wpAny_pure ⟨rfl, h', tk', rfl, hJ, fun b o e => ?_⟩
        have hb := Heap.lt_size e
        refine hm.heap b o (fun z => ?_) (Heap.get?_push_of_some _ (Heap.get?_push_of_some _ e))
        rcases List.mem_cons.mp z with z | z
        · exact absurd hb (by rw [z]; exact Nat.lt_irrefl _)
        · have z := List.mem_singleton.mp z
          first
            | exact absurd hb (by rw [z, Heap.size_push]; exact Nat.not_lt_of_le (Nat.le_succ _))
            | exact absurd hb (by rw [z]; exact Nat.not_lt_of_le (Nat.le_succ _))
      · cases r₂ with
        | error e => exact hr₂
        | ok fl₂ =>
          cases fl₂ with
          | ret r =>
            obtain ⟨rfl, h', tk, rfl, hJ, hk⟩ := hr₂
            repeat (any_goals (first | assumption | wp_step))
            exact h _ _ hJ hk
          | _ => exact hr₂.elim
    | _ => exact hr.elim
end
end L2
set_option Elab.async false
set_option linter.all false
set_option maxRecDepth 100000
set_option maxHeartbeats 4000000
/-! set(a list of texts), sorted of it; set(a list of ints). -/
namespace L2
open PySem PySem.Spec PyProof.Rows PySem.Froz
/-- the set at a holds just the texts l -/
def SetX (P : Program) (w : World) (h : Heap) (a : Addr) (l : List Str) : Prop :=
  ∃ D : SD, h.get? a = some (sObj "set" D) ∧ TxOk P w D l ∧ l.Nodup ∧ Ris D.2.2.place.toList ∧ (w.params.followText "set-order" = true ∨ D.2.2.led = true)
theorem tail_ris {ep : Nat} {es1 : Array (Int × Value)} {t2 : SetTable} {b : Bool} (r : Ris t2.place.toList) : Ris (tailTx ep es1 t2 b).2.2.place.toList ∧ (tailTx ep es1 t2 b).2.2.led = t2.led := by
  unfold tailTx
  split
  · exact ⟨relayAll_ris _ _ _, relayAll_led _ _ _⟩
  · exact ⟨r, rfl⟩
theorem add_ris {h : Int} {v : Value} {D : SD} (r : Ris D.2.2.place.toList) : Ris (addTx h v D).2.2.place.toList ∧ (addTx h v D).2.2.led = D.2.2.led := by
  have r1 := layNew_ris D.2.2 D.1 h v r
  have l1 := layNew_led D.2.2 D.1 h v
  unfold addTx
  have r2 : Ris (if (layNew D.2.2 D.1 h v).2.1.plain = true then { (layNew D.2.2 D.1 h v).2.1 with plain := false } else (layNew D.2.2 D.1 h v).2.1).place.toList := by split <;> exact r1
  have l2 : (if (layNew D.2.2 D.1 h v).2.1.plain = true then { (layNew D.2.2 D.1 h v).2.1 with plain := false } else (layNew D.2.2 D.1 h v).2.1).led = D.2.2.led := by split <;> exact l1
  exact ⟨(tail_ris r2).1, (tail_ris r2).2.trans l2⟩
section
variable {P : Program} {w : World} {A : Around} {E : Value → Shared → Prop} {s : Shared}
theorem SetX.fresh {h : Heap} {a : Addr} (e : h.get? a = some (freshSet w)) : SetX P w h a [] :=
  ⟨(#[], 0, .fresh 0 0 (!w.params.followText "set-order")), e, TxOk.nil rfl, List.Pairwise.nil, List.Pairwise.nil, by
    show _ ∨ (!w.params.followText "set-order") = true
    cases w.params.followText "set-order"
    · exact .inr rfl
    · exact .inl rfl⟩
theorem SetX.keep {h h' : Heap} {a : Addr} {l : List Str} (x : SetX P w h a l) (k : ∀ o, h.get? a = some o → h'.get? a = some o) : SetX P w h' a l := by
  obtain ⟨D, e, r⟩ := x
  exact ⟨D, k _ e, r⟩
/-- one text more, or the same -/
def more (l : List Str) (k : Str) : List Str := if k ∈ l then l else k :: l
theorem SetX.add {a : Addr} {l : List Str} {k : Str} {u : Tok} {Q : Bool → Shared → Prop} (x : SetX P w s.heap a l) (hb : l.length + 1 < scanBound)
    (q : ∀ b h', Heap.SameBut a s.heap h' → SetX P w h' a (more l k) → Q b { s with heap := h' }) : wpAny (model P w) A (setAddHashed a (.str k u) (hashStr w k)) Q E s := by
  obtain ⟨D, e, F, nd, r, ld⟩ := x
  by_cases hk : k ∈ l
  · obtain ⟨es, ep, t⟩ := D
    have hd : (sObj "set" (es, ep, t)).data = .set es ep t := rfl
    have hf : t.fits es.size = true := F.fit
    have hel : ElemsOf (PySem.strKind P w) es.toList := F.el
    have hsz : es.size = l.length := F.sz
    have hb0 : es.size < scanBound := by omega
    have hkey : (PySem.strKind P w).is k (.str k u) = true := PySem.Froz.is_str k u
    obtain ⟨e1, he1, p1⟩ := (F.mem k).mp hk
    unfold setAddHashed setAddHashedIn
    refine wpAny_holding (wpAny_bind (wpAny_setState_of e hd hf ?_))
    dsimp only
    rw [byScan_of rfl hb0 hel]
    simp only [↓reduceIte]
    unfold setAddByScan
    refine wpAny_bind ?_
    refine wpAny_bind (wpAny_rule ?_)
    refine wpAny_bind (wpAny_setScan_of (knd := PySem.strKind P w) (k := k) hkey e hd hf hel ?_)
    cases hfi : List.findIdx? (fun e => (PySem.strKind P w).is k e.2) es.toList with
    | none =>
      have c := List.findIdx?_eq_none_iff.mp hfi e1 he1
      rw [p1] at c
      cases c
    | some j =>
      dsimp only
      refine wpAny_pure (wpAny_pure (q _ s.heap (Heap.SameBut.refl a s.heap) ?_))
      unfold more
      rw [if_pos hk]
      exact ⟨(es, ep, t), e, F, nd, r, ld⟩
  · refine add_x e F hk hb (q _ _ (Heap.SameBut.update s.heap a _) ?_)
    unfold more
    rw [if_neg hk]
    exact ⟨_, get_upd _ e rfl, add_ok u F, List.nodup_cons.mpr ⟨hk, nd⟩, (add_ris r).1, ld.imp id fun z => (add_ris r).2.trans z⟩
/-- what a set of these texts holds -/
def dd (xs : List Str) : List Str := xs.foldl more []
theorem dd_len : ∀ (xs l : List Str), (xs.foldl more l).length ≤ l.length + xs.length
  | [], l => Nat.le_refl _
  | x :: xs, l => by
    have h := dd_len xs (more l x)
    have h2 : (more l x).length ≤ l.length + 1 := by unfold more; split <;> simp
    simp only [List.foldl_cons, List.length_cons]
    omega
theorem dd_nodup : ∀ (xs l : List Str), l.Nodup → (xs.foldl more l).Nodup
  | [], l, h => h
  | x :: xs, l, h => dd_nodup xs _ (by
    unfold more
    split
    · exact h
    · rename_i c
      exact List.nodup_cons.mpr ⟨c, h⟩)
theorem dd_mem : ∀ (xs l : List Str) (k : Str), k ∈ xs.foldl more l ↔ k ∈ l ∨ k ∈ xs
  | [], l, k => by simp
  | x :: xs, l, k => by
    rw [List.foldl_cons, dd_mem xs]
    unfold more
    split
    · rename_i c
      exact ⟨fun z => z.elim .inl (fun y => .inr (List.mem_cons_of_mem _ y)), fun z => z.elim .inl fun y => (List.mem_cons.mp y).elim (fun y => .inl (y ▸ c)) .inr⟩
    · constructor
      · rintro (z | z)
        · exact (List.mem_cons.mp z).elim (fun y => .inr (y ▸ List.mem_cons_self)) .inl
        · exact .inr (List.mem_cons_of_mem _ z)
      · rintro (z | z)
        · exact .inl (List.mem_cons_of_mem _ z)
        · exact (List.mem_cons.mp z).elim (fun y => .inl (y ▸ List.mem_cons_self)) .inr
theorem take_more {xs : List Str} {i : Nat} {k : Str} (h : xs[i]? = some k) : more ((xs.take i).foldl more []) k = (xs.take (i + 1)).foldl more [] := by
  rw [List.take_succ, h, List.foldl_append] <;> rfl
theorem setX_steps (S : Addr) (xs : List Str) (hb : xs.length + 1 < scanBound) {items : Array Value} (hi : StrsAre items.toList xs) :
    SetStep P w S (fun i h => SetX P w h S ((xs.take i).foldl more [])) fun i v => items[i]? = some v where
  frame := fun i h h' x k => x.keep k
  step := fun A E i v s Q hv x q => by
    have hv' : items.toList[i]? = some v := by rw [Array.getElem?_toList]; exact hv
    have key : ∀ {vs : List Value} {ys : List Str}, StrsAre vs ys → ∀ {i : Nat} {v : Value}, vs[i]? = some v → ∃ k u, v = .str k u ∧ ys[i]? = some k := by
      intro vs ys h
      induction h with
      | nil => intro i v e; simp at e
      | cons x t h ih =>
        intro i v e
        cases i with
        | zero => exact ⟨x, t, by simpa using e.symm, rfl⟩
        | succ i => exact ih (by simpa using e)
    obtain ⟨k, u, rfl, hk⟩ := key hi hv'
    have hln : ((xs.take i).foldl more []).length ≤ xs.length := by
      have h1 := dd_len (xs.take i) []
      have h2 : (xs.take i).length ≤ xs.length := by rw [List.length_take]; omega
      simp only [List.length_nil] at h1
      omega
    unfold setAdd
    refine wpAny_holding ?_
    refine wpAny_bind ((PySem.strKind P w).pyHash (k := k) (PySem.Froz.is_str k u) ?_)
    refine SetX.add (s := { s with toks := s.toks + 1 }) (l := (xs.take i).foldl more []) x (by omega) fun b h' sb x' => ?_
    exact q b h' _ sb (Nat.le_succ _) (by rw [← take_more hk]; exact x')
theorem perm_of : ∀ (l ss : List Str), l.Nodup → (∀ x ∈ l, x ∈ ss) → ss.length ≤ l.length → ss.Perm l
  | [], ss, _, _, h => by
    cases ss with
    | nil => exact List.Perm.nil
    | cons a b => simp at h
  | x :: l, ss, nd, h, hl => by
    obtain ⟨a, b, rfl⟩ := List.append_of_mem (h x List.mem_cons_self)
    obtain ⟨n1, n2⟩ := List.nodup_cons.mp nd
    have ih := perm_of l (a ++ b) n2 (fun y hy => by
      have z := h y (List.mem_cons_of_mem _ hy)
      rcases List.mem_append.mp z with z | z
      · exact List.mem_append_left _ z
      · rcases List.mem_cons.mp z with z | z
        · exact absurd (z ▸ hy) n1
        · exact List.mem_append_right _ z) (by
      simp only [List.length_append, List.length_cons] at hl ⊢
      omega)
    exact List.perm_middle.trans (ih.cons x)
theorem StrsAre.mem_ {vs : List Value} {ss : List Str} (h : StrsAre vs ss) : ∀ {x : Str} {u : Tok}, Value.str x u ∈ vs → x ∈ ss := by
  induction h with
  | nil => intro x u e; cases e
  | cons y t h ih =>
    intro x u e
    rcases List.mem_cons.mp e with z | z
    · cases z; exact List.mem_cons_self
    · exact List.mem_cons_of_mem _ (ih z)
theorem sorted_setX {a : Addr} {l : List Str} {Q : Value → Shared → Prop} (x : SetX P w s.heap a l) (hh : A.handled = none) (h64 : l.length < 64)
    (hQ : ∀ s' p (out : Array Value) (c : Nat) (ys : List Str), (∀ b o, s.heap.get? b = some o → s'.heap.get? b = some o) → s'.gens = s.gens → s'.os = s.os → s.heap.objs.size ≤ p →
      s'.heap.get? p = some (seqObj "list" out c) → StrsAre out.toList ys → ys.Perm l → sortedS ys = true → Q (.ref p) s') :
    wpAny (model P w) A (call (.builtin "sorted") [.ref a]) Q E s := by
  obtain ⟨⟨es, ep, t⟩, e, F, nd, r, ld⟩ := x
  have hsz : es.size = l.length := F.sz
  refine Calls.call_function_entry kind_sorted plain_sorted entry_sorted (args_sorted1 _) ?_
  unfold Builtin.«sorted»
  refine wpAny_bind (m := checkCount "sorted" 1 1 _) (wpAny_pure ?_)
  refine wpAny_bind (collect_set (A := A.in1) (es := es) (ep := ep) (t := t) hh ⟨_, e, rfl, rfl⟩ F.fit (by rw [hsz]; unfold scanBound; omega) r ld fun s1 vs k1 hz g1 o1 pm => ?_)
  have hvl : vs.length = l.length := by rw [pm.length_eq, List.length_map, Array.length_toList]; exact hsz
  have el := F.el
  have hS : StrsAre vs (vs.map strOf) := strsAre_map vs fun v hv => by
    obtain ⟨q, hq, e'⟩ := List.mem_map.mp (pm.mem_iff.mp hv)
    obtain ⟨⟨k, hk, _⟩, _⟩ := el q hq
    subst e'
    generalize q.2 = y at hk
    cases y with
    | str z u => exact ⟨z, u, rfl⟩
    | _ => exact nomatch hk
  have pl : (vs.map strOf).Perm l := by
    refine perm_of l _ nd (fun x hx => ?_) (by rw [List.length_map, hvl]; exact Nat.le_refl _)
    obtain ⟨q, hq, hk⟩ := (F.mem x).mp hx
    have hm : q.2 ∈ vs := pm.mem_iff.mpr (List.mem_map.mpr ⟨q, hq, rfl⟩)
    obtain ⟨⟨k, hk', _⟩, _⟩ := el q hq
    generalize q.2 = y at hk hm
    cases y with
    | str z u =>
      have z2 : x = z := (PySem.strKind P w).inj (.str z u) x z hk (PySem.Froz.is_str z u)
      rw [z2]
      exact StrsAre.mem_ hS hm
    | _ => exact nomatch hk
  refine wpAny_bind (wpAny_newList ?_ (by rw [hvl, sizeLine_eq]; omega))
  have hoL : (s1.heap.push (seqObj "list" vs.toArray 0)).get? s1.heap.objs.size = some (seqObj "list" vs.toArray 0) := Heap.get?_push_size _ rfl
  refine wpAny_bind (wpAny_holding (wpAny_call_entry slot_list_sort ⟨_, hoL, rfl⟩ entry_list_sort (list_sort_treeK strKind_oneLt hoL hS.keysOf (fun v₁ v₂ rest e => keyKind_strs (by rw [← e]; exact hS)) (by rw [hvl]; exact h64) fun st' hp hs => ⟨_, rfl, ?_⟩) (args_list_sort _)))
  obtain ⟨ss', a1, a2, a3⟩ := sorted_out_str hS hp hs
  obtain ⟨c, hc⟩ := sortedHeap_at (vs := vs) (out := (arrOf st').map (·.2)) hoL
  refine wpAny_pure ⟨_, rfl, hQ _ s1.heap.objs.size _ c ss' (fun b u eb => ?_) g1 o1 hz hc a1 (a2.trans pl) a3⟩
  have q := k1 b u eb
  have hlt := Heap.lt_size q
  show (sortedHeap (s1.heap.push (seqObj "list" vs.toArray 0)) s1.heap.objs.size vs _).get? b = some u
  rw [sortedHeap_old (Nat.ne_of_lt hlt) (by rw [size_push']; exact Nat.lt_succ_of_lt hlt)]
  exact Heap.get?_push_of_some _ q
/-! ### ints -/
theorem setI_steps (S : Addr) (ns : List Int) (hb : ns.length + 1 < scanBound) {items : Array Value} (hi : IntsAre items.toList ns) :
    SetStep P w S (fun i h => ∃ n, n ≤ i ∧ SetR w h S (fun j => decide (j ∈ ns.take i)) n) fun i v => items[i]? = some v where
  frame := fun i h h' ⟨n, hn, x⟩ k => ⟨n, hn, SetR.at x k⟩
  step := fun A E i v s Q hv ⟨n, hn, x⟩ q => by
    have hv' : items.toList[i]? = some v := by rw [Array.getElem?_toList]; exact hv
    have key : ∀ {vs : List Value} {ys : List Int}, IntsAre vs ys → ∀ {i : Nat} {v : Value}, vs[i]? = some v → ∃ k u, v = .int k u ∧ ys[i]? = some k := by
      intro vs ys h
      induction h with
      | nil => intro i v e; simp at e
      | cons x t h ih =>
        intro i v e
        cases i with
        | zero => exact ⟨x, t, by simpa using e.symm, rfl⟩
        | succ i => exact ih (by simpa using e)
    obtain ⟨k, u, rfl, hk⟩ := key hi hv'
    have hil : i < ns.length := by
      obtain ⟨z, _⟩ := List.getElem?_eq_some_iff.mp hk
      exact z
    unfold setAdd
    refine wpAny_holding ?_
    refine wpAny_bind ((intKind P w).pyHash (intKind_is P w k u) ?_)
    refine setR_add_hashed (P := P) (s := { s with toks := s.toks + 1 }) x (by omega) fun h' sb x' => ?_
    refine q _ h' _ sb (Nat.le_succ _) ⟨_, ?_, x'.congr fun j => ?_⟩
    · split <;> omega
    · rw [List.take_succ, hk]
      show decide (j ∈ ns.take i ++ [k]) = (decide (j ∈ ns.take i) || decide (j = k))
      rw [Bool.eq_iff_iff]
      simp [List.mem_append]
end
/-! ### the words -/
def SetXO (P : Program) (w : World) (a : Addr) (l : List Str) : HO := .ext fun h => SetX P w h a l
theorem setXO_new {P : Program} {w : World} {H : Hp} {h : Heap} {a : Addr} {l : List Str} (R : SetX P w h a l) : ObjOk P w H h a (SetXO P w a l) := by
  have ⟨D, e, _⟩ := R
  exact ⟨R, ⟨_, e⟩, fun h1 h2 p k => SetX.keep p k⟩
section
variable {X : Cx}
def rSetS (K : PySem.W.Frag) (P : Program) (w : World) : List V → Hp → VK → Prop := fun xs H Q => ∃ (l : Addr) (zs : List Str), xs = [V.ref l] ∧ SqL K H l (zs.map V.str) ∧ zs.length < 1000 ∧
  ∀ a, H a = none → Q (.ref a) (upd H a (SetXO P w a (dd zs)))
theorem cr_setS (hc : X.calm = true) : CallR X (.type "set") (rSetS X.K X.prog X.w) := by
  intro pins s σ H xs us Q I r h
  obtain ⟨l, zs, rfl, hl, hf, q⟩ := h
  rw [Vals.ref1 r]
  obtain ⟨its, rv, pl, hz⟩ := I.list hl
  have hi : StrsAre its zs := rv.strs
  have hn : H s.heap.objs.size = none := I.hok.fresh (Nat.le_refl _)
  refine call_set_list (P := X.prog) (w := X.w) (I.ok.hd hc) pl.isList (setX_steps _ zs (by unfold scanBound; omega) (by simpa using hi)) (fun h e => SetX.fresh e) fun h' tk x k => ?_
  have e : zs.take its.toArray.size = zs := by
    rw [List.size_toArray, PyProof.Rows.StrsAre.length hi, List.take_length]
  simp only [e] at x
  exact ⟨.ref s.heap.objs.size, _, I.laid (t' := tk) k (Nat.le_refl _) (setXO_new x), rfl, q _ hn⟩
def rSetI (K : PySem.W.Frag) (w : World) : List V → Hp → VK → Prop := fun xs H Q => ∃ (l : Addr) (ns : List Int), xs = [V.ref l] ∧ SqL K H l (ns.map V.int) ∧ ns.length < 64 ∧
  ∀ a n, H a = none → n ≤ ns.length → Q (.ref a) (upd H a (SetO w a (fun j => decide (j ∈ ns)) n))
theorem cr_setI (hc : X.calm = true) : CallR X (.type "set") (rSetI X.K X.w) := by
  intro pins s σ H xs us Q I r h
  obtain ⟨l, ns, rfl, hl, hf, q⟩ := h
  rw [Vals.ref1 r]
  obtain ⟨its, rv, pl, hz⟩ := I.list hl
  have hi : IntsAre its ns := rv.ints
  have hn : H s.heap.objs.size = none := I.hok.fresh (Nat.le_refl _)
  refine call_set_list (P := X.prog) (w := X.w) (I.ok.hd hc) pl.isList (setI_steps _ ns (by unfold scanBound; omega) (by simpa using hi)) (fun h e => ⟨0, Nat.le_refl _, ?_⟩) fun h' tk x k => ?_
  · refine ⟨_, #[], 0, _, e, ⟨rfl, rfl, rfl⟩, rfl, (fun e he => by simp at he), (by simp), (fun k => by simp), (by decide), (by rfl), rfl, List.Pairwise.nil, ?_⟩
    show _ ∨ (!X.w.params.followText "set-order") = true
    cases X.w.params.followText "set-order"
    · exact .inr rfl
    · exact .inl rfl
  · have e : ns.take its.toArray.size = ns := by
      rw [List.size_toArray, hi.length, List.take_length]
    obtain ⟨n, h1, h2⟩ := x
    simp only [e] at h2
    have h1' : n ≤ ns.length := by rw [← hi.length]; simpa using h1
    exact ⟨.ref s.heap.objs.size, _, I.laid (t' := tk) k (Nat.le_refl _) (setO_new h2), rfl, q _ n hn h1'⟩
def rSortedX (P : Program) (w : World) : List V → Hp → VK → Prop := fun vs H Q => ∃ (a : Addr) (l : List Str), vs = [V.ref a] ∧ H a = some (SetXO P w a l) ∧ l.length < 64 ∧
  ∀ (ys : List Str) (p : Addr), ys.Perm l → sortedS ys = true → H p = none → Q (.ref p) (upd H p (.lst (ys.map V.str)))
theorem cr_sortedX (hc : X.calm = true) : CallR X (.builtin "sorted") (rSortedX X.prog X.w) := by
  intro pins s σ H vs us Q I r h
  obtain ⟨a, l, rfl, ha, h64, q⟩ := h
  have x : SetX X.prog X.w s.heap a l := (I.hok a _ ha).1
  rw [Vals.ref1 r]
  refine sorted_setX x (I.ok.hd hc) h64 fun s' p out c ys k g o hp hg hout pm so => ?_
  have hlen : (ys.map V.str).length ≤ sizeLine := by rw [List.length_map, pm.length_eq, sizeLine_eq]; omega
  have hn : H p = none := I.hok.fresh hp
  have J : Inv X pins σ (upd H p (.lst (ys.map V.str))) { s with heap := s'.heap, gens := s'.gens, drawn := s'.drawn, toks := s'.toks } :=
    I.call (ch := []) (Un.laid k hp hn) (I.hok.laid k hp ⟨hlen, out.toList, c, vals_of_strs hout, hg⟩) (by rw [g]; exact I.bare) (fun _ z => nomatch z)
  have e : s' = { s with heap := s'.heap, gens := s'.gens, drawn := s'.drawn, toks := s'.toks } := by
    cases s'
    cases s
    cases o
    rfl
  rw [e]
  exact ⟨.ref p, _, J, rfl, q ys p pm so hn⟩
end
end L2
set_option Elab.async false
set_option linter.all false
set_option maxRecDepth 100000
set_option maxHeartbeats 4000000
/-! == of a dict and an empty one; != of dicts whose values are data alike; texts in order. -/
namespace L2
open PySem PySem.Spec PyProof.Rows
section
variable {X : Cx}
def rEqE : R2 := fun x y H Q => ∃ a b ks, x = .ref a ∧ y = .ref b ∧ H a = some (.dK ks) ∧ H b = some (.dK []) ∧ ∀ c, Q (.bl c) H
theorem op_eqE (hu : X.A.units < cLine) : OpR X (compareOp .Eq) rEqE := by
  intro pins s σ H x y v u Q I rx ry h
  obtain ⟨a, b, ks, rfl, rfl, ea, eb, q⟩ := h
  cases (show v = Value.ref a from rx)
  cases (show u = Value.ref b from ry)
  obtain ⟨_, ya, va, ra, da⟩ := (show ObjOk X.prog X.w H s.heap a (.dK ks) from I.hok a _ ea)
  obtain ⟨_, yb, vb, rb, db⟩ := (show ObjOk X.prog X.w H s.heap b (.dK []) from I.hok b _ eb)
  cases rb
  refine PySem.W.rcP_dicts (knd := mixKind X.prog X.w) (r := true) ya yb da db hu (fun e => ?_) _ _ ⟨.bl _, H, I, rfl, q _⟩
  cases va with
  | nil => exact .nil
  | cons p r => cases e
/-- two dicts of the same keys, their values data alike -/
def rNeV (K : PySem.W.Frag) : R2 := fun x y H Q => ∃ a b ks ls, x = .ref a ∧ y = .ref b ∧ H a = some (.dK ks) ∧ H b = some (.dK ls) ∧ ks.length = ls.length ∧
  (∀ p ∈ ks, ∃ u d, valV ls p.1 = some u ∧ Dp K H p.2 d ∧ Dp K H u d ∧ d.canLay0 = true ∧ d.depth ≤ 60) ∧ Q (.bl false) H
theorem hitsD {pins : List (Addr × Obj)} {σ : St} {H : Hp} {s : Shared} (I : Inv X pins σ H s) {A : Around} (hu : A.units + 61 < cLine) {kvs : List (Key × V)} {vb : List (Key × Value)} (rb : KV kvs vb) {ks : List (Key × V)} {va : List (Key × Value)} (ra : KV ks va) :
    (∀ p ∈ ks, ∃ u d, valV kvs p.1 = some u ∧ Dp X.K H p.2 d ∧ Dp X.K H u d ∧ d.canLay0 = true ∧ d.depth ≤ 60) → PySem.W.KeqHits A s vb va true := by
  unfold KV at ra
  induction ra with
  | nil => intro _; exact .nil
  | @cons p q ps qs h t ih =>
    intro hp
    obtain ⟨h1, h2⟩ := h
    obtain ⟨u, d, e, d1, d2, hl, hd⟩ := hp p List.mem_cons_self
    have rr : RelO (some u) (valueAt vb p.1) := by rw [← e]; exact rb.val p.1
    obtain ⟨y, hy, ry⟩ := rr.some_of
    obtain ⟨k1, w1⟩ := q
    cases (show p.1 = k1 from h1)
    obtain ⟨as, r1⟩ := Dp.reads I d p.2 w1 d1 h2
    obtain ⟨bs, r2⟩ := Dp.reads I d u y d2 ry
    have eq : SeqAt.EqAt A s w1 y (PyData.eqv d d) := SeqAt.eqAt_reads d d A s w1 y as bs r1 r2 hl hl (by omega)
    rw [SeqAt.eqv_refl d hl] at eq
    show PySem.W.KeqHits A s vb ((p.1, w1) :: qs) (true && true)
    exact .hit hy eq (ih fun p' hm => hp p' (List.mem_cons_of_mem _ hm))
theorem op_neV (hu : X.A.units + 64 < cLine) : OpR X (compareOp .NotEq) (rNeV X.K) := by
  intro pins s σ H x y v u Q I rx ry h
  obtain ⟨a, b, ks, ls, rfl, rfl, ea, eb, hlen, hp, q⟩ := h
  obtain rfl : v = Value.ref a := rx
  obtain rfl : u = Value.ref b := ry
  obtain ⟨_, ya, va, ra, da⟩ := (show ObjOk X.prog X.w H s.heap a (.dK ks) from I.hok a _ ea)
  obtain ⟨_, yb, vb, rb, db⟩ := (show ObjOk X.prog X.w H s.heap b (.dK ls) from I.hok b _ eb)
  have hl : va.length = vb.length := by rw [← ra.length, ← rb.length]; exact hlen
  refine PySem.W.keq_ne (knd := mixKind X.prog X.w) (r := true) ya yb da db (by omega) (fun _ => hitsD I (by show X.A.units + 1 + 61 < cLine; omega) rb ra hp) ⟨.bl _, H, I, rfl, ?_⟩
  simpa [hl] using q
end
/-! ### texts in order -/
theorem le_of_lt_false {a b : List Nat} (h : ltCps b a = false) : a ≤ b := by
  rw [ltCps_eq, decide_eq_false_iff_not] at h
  exact List.not_lt.mp h
theorem rising_all : ∀ (l : List Str) (p : Str), risingS p l = true → ∀ x ∈ l, p.cps.toList ≤ x.cps.toList
  | [], _, _, x, hx => nomatch hx
  | y :: l, p, h, x, hx => by
    have h' : (!ltCps y.cps.toList p.cps.toList && risingS y l) = true := h
    rw [Bool.and_eq_true, Bool.not_eq_true'] at h'
    have h1 := le_of_lt_false h'.1
    rcases List.mem_cons.mp hx with z | z
    · rw [z]; exact h1
    · exact List.le_trans h1 (rising_all l y h'.2 x z)
theorem rising_tail : ∀ {l : List Str} {p : Str}, risingS p l = true → sortedS l = true
  | [], _, _ => rfl
  | y :: l, p, h => by
    have h' : (!ltCps y.cps.toList p.cps.toList && risingS y l) = true := h
    rw [Bool.and_eq_true] at h'
    exact h'.2
theorem sortedS_uniq : ∀ (ys zs : List Str), ys.Perm zs → sortedS ys = true → sortedS zs = true → ys = zs
  | [], zs, pm, _, _ => (List.nil_perm.mp pm).symm
  | y :: ys, [], pm, _, _ => absurd (List.perm_nil.mp pm) (fun z => nomatch z)
  | y :: ys, z :: zs, pm, h1, h2 => by
    have e : y = z := by
      have a1 : y ∈ z :: zs := pm.mem_iff.mp List.mem_cons_self
      have a2 : z ∈ y :: ys := pm.mem_iff.mpr List.mem_cons_self
      rcases List.mem_cons.mp a1 with c | c
      · exact c
      · rcases List.mem_cons.mp a2 with d | d
        · exact d.symm
        · have l1 := rising_all zs z h2 y c
          have l2 := rising_all ys y h1 z d
          have e := List.le_antisymm l2 l1
          have e2 : y.cps = z.cps := Array.toList_inj.mp e
          cases y
          cases z
          exact congrArg _ e2
    subst e
    rw [sortedS_uniq ys zs (List.Perm.cons_inv pm) (rising_tail h1) (rising_tail h2)]
theorem sortedS_pw : ∀ (l : List Str), sortedS l = true → l.Pairwise fun a b => a.cps.toList ≤ b.cps.toList
  | [], _ => List.Pairwise.nil
  | x :: l, h => List.pairwise_cons.mpr ⟨rising_all l x h, sortedS_pw l (rising_tail h)⟩
theorem sortedS_sub {ks ys : List Str} (h : sortedS ys = true) (sl : ks.Sublist ys) : sortedS ks = true := by
  refine sortedS_of_pairwise _ (((sortedS_pw ys h).sublist sl).imp fun {a b} hab => ?_)
  rw [ltCps_eq, decide_eq_false_iff_not]
  exact List.not_lt.mpr hab
theorem valV_out {k : List (Key × V)} {c : Key} (h : ∀ q ∈ k, q.1 ≠ c) : valV k c = none := by
  unfold valV
  have e : k.find? (fun kv => decide (kv.1 = c)) = none := List.find?_eq_none.mpr fun q hq => by simpa using h q hq
  rw [e]
  rfl
end L2
set_option Elab.async false
set_option linter.all false
set_option maxRecDepth 100000
set_option maxHeartbeats 4000000
/-! for i, x in enumerate(a tuple). -/
namespace L2
open PySem PySem.Spec PyProof.Rows PySem.W
set_option maxHeartbeats 1000000 in
theorem enum_new1 {v : Value} {o : Obj} {H : Heap → Prop} (B : Begins v o H) :
    Meets (Builtin.«enumerate.__new__» ⟨[.type "enumerate", v], []⟩) (fun _ R s => H s.heap ∧
      R (.ok (.ret (.ref (s.heap.push o).objs.size))) { s with heap := (s.heap.push o).push { cls := .type "enumerate", data := .fields #[.none, .bool false, .ref s.heap.objs.size, rawInt 0, .none, .none] } }) :=
  .of_wp fun prog w A R s h => by
    obtain ⟨hp, g, d, tk, os⟩ := s; obtain ⟨h1, h⟩ := h
    have hsub := sub_enumerate
    have q1 : ∀ {A' : Around} {E : Value → Shared → Prop} {Q : Value → Shared → Prop}, Q (.ref hp.objs.size) ⟨hp.push o, g, d, tk, os⟩ → wpAny (model prog w) A' (pyIter v) Q E ⟨hp, g, d, tk, os⟩ :=
      fun q => B.iter prog w _ _ ⟨hp, g, d, tk, os⟩ _ h1 q
    wp_walk using q1
    refine wpAny_stack_any fun st => wpAny_pure ?_
    split
    · rename_i c _ _ _ _ _
      cases (c == Value.type "enumerate")
      · wp_walk using q1
        exact ⟨_, rfl, h⟩
      · wp_walk using q1
        exact ⟨_, rfl, h⟩
    · wp_walk using q1
      exact ⟨_, rfl, h⟩
section
variable {prog : Program} {w : World} {A : Around} {E : Value → Shared → Prop} {s : Shared}
theorem enum_begins1 {v : Value} {o : Obj} {H : Heap → Prop} {Q : Value → Shared → Prop} (B : Begins v o H) (h1 : H s.heap)
    (h : ∀ h', IsEnum h' (s.heap.objs.size + 1) s.heap.objs.size 0 .none → h'.get? s.heap.objs.size = some o → h'.objs.size = s.heap.objs.size + 2 →
      (∀ b o, s.heap.get? b = some o → h'.get? b = some o) → Q (.ref (s.heap.objs.size + 1)) { s with heap := h' }) :
    wpAny (model prog w) A (call (.type "enumerate") [v]) Q E s := by
  refine callType_new F.called_enumerate (by decide) (F.typeCall_enumerate_1 _) (F.newCall_enumerate_1 _) (fun obj => F.args_object_init_2 obj _) F.entry_enumerate_new (enum_new1 B) ⟨h1, ?_⟩
  have hz : (s.heap.push o).objs.size = s.heap.objs.size + 1 := Heap.size_push ..
  show _ ∧ _
  rw [hz]
  have he : IsEnum ((s.heap.push o).push { cls := .type "enumerate", data := .fields #[.none, .bool false, .ref s.heap.objs.size, rawInt 0, .none, .none] }) (s.heap.objs.size + 1) s.heap.objs.size 0 .none := by
    have := Heap.get?_push_size (s.heap.push o) (o := { cls := .type "enumerate", data := .fields #[.none, .bool false, .ref s.heap.objs.size, rawInt 0, .none, .none] }) rfl
    rw [hz] at this; exact this
  exact ⟨⟨_, he, rfl⟩, h _ he (Heap.get?_push_of_some _ (Heap.get?_push_size _ B.free)) (by rw [Heap.size_push, hz]) fun b o x => Heap.get?_push_of_some _ (Heap.get?_push_of_some _ x)⟩
end
def IteT (K : PySem.W.Frag) (a : Addr) : It :=
  ⟨fun i H => ∃ (xs : List V) (x : V), SqT K H a xs ∧ xs[i]? = some x, fun i H v H' => ∃ T x, v = .ref T ∧ H T = none ∧ H' = upd H T (.tup [.int (i : Nat), x]) ∧ ∀ xs, SqT K H a xs → xs[i]? = some x, fun i H => ∃ xs : List V, SqT K H a xs ∧ xs.length ≤ i⟩
theorem turn_enumT {P : Program} {w : World} {K : PySem.W.Frag} {elts : List Expr} {kk : Nat} {tpos : Pos} (a e it : Addr) :
    Turn P w K (.Tuple elts kk tpos) (IteT K a) [e, it] e (fun i h => (∃ old, IsEnum h e it ((i : Nat) : Int) old) ∧ h.IsTupleIter it a i ∧ e ≠ it ∧ a ≠ it ∧ a ≠ e) where
  mem := by simp
  obj := fun i h st b hb => by
    obtain ⟨⟨old, he⟩, ⟨o, ho, hc, hd⟩, _⟩ := st
    have e' : b = e ∨ b = it := by simpa using hb
    rcases e' with z | z
    · rw [z]; exact ⟨_, he, fun v q => nomatch q⟩
    · rw [z]; exact ⟨o, ho, fun v q => by rw [hd] at q; cases q⟩
  keep := fun i h h' st k => let ⟨⟨old, he⟩, hi, hne⟩ := st; ⟨⟨old, k e (by simp) _ he⟩, hi.at fun o q => k it (by simp) o q, hne⟩
  item := by
    intro X hP hw hK hc i pins s σ H E I hf st hg
    subst hP hw hK
    obtain ⟨⟨old, he⟩, hit, hne, hai, hae⟩ := st
    obtain ⟨xs, x, hq, hx⟩ := hg
    obtain ⟨its, rv, p, hz⟩ := I.tuple hq
    obtain ⟨u, hu, ru⟩ := rv.get hx
    have hlt : i < its.length := by
      obtain ⟨z, _⟩ := List.getElem?_eq_some_iff.mp hu
      exact z
    have hel : e < s.heap.objs.size := Heap.lt_size he
    have hil : it < s.heap.objs.size := by obtain ⟨_, q, _⟩ := hit; exact Heap.lt_size q
    have D := Draws.tuple (prog := X.prog) (w := X.w) (A := X.A.in1) (show X.A.in1.handled = none from I.ok.hd hc) it a hai its.toArray
    refine wpAny_pyNext_enum_itemD D he ⟨hit, p⟩ (by simpa using hlt) hne (by simp [hne, hae.symm]) fun y h' tk hy ho st' hT hsz hk => ?_
    have hyu : y = u := by
      have h1 : its[i]? = some y := by simpa using hy
      rw [hu] at h1
      exact (Option.some.inj h1).symm
    subst hyu
    refine ⟨_, rfl, wpAny_letOwnedTupleGo_enum (s := { s with heap := h', toks := tk + 1 }) ho fun h'' he' sb => ?_⟩
    have hT2 : h''.get? s.heap.objs.size = some { cls := .type "tuple", data := .seq #[.int i tk, y] } := (sb.2 _ (Nat.ne_of_gt hel)).trans hT
    have new : ObjOk X.prog X.w (upd H s.heap.objs.size (.tup [.int (i : Nat), x])) h'' s.heap.objs.size (.tup [.int (i : Nat), x]) :=
      ⟨by show 2 ≤ sizeLine; decide, [.int i tk, y], .cons ⟨_, rfl⟩ (.cons ru .nil), ⟨_, hT2, rfl, _, rfl⟩⟩
    have I1 : Inv X pins σ (upd H s.heap.objs.size (.tup [.int (i : Nat), x])) { s with heap := h'', toks := tk + 1 } :=
      I.turnedNew (ch := [e, it]) (fun b ob hb q => (sb.2 b (fun z => hb (by simp [z]))).trans (hk b ob (fun z => hb (by simp [z])) (fun z => hb (by simp [z])) q)) hf (Nat.le_refl _) new
    refine ⟨.ref s.heap.objs.size, _, I1, rfl, ⟨_, x, rfl, I.hok.fresh (Nat.le_refl _), rfl, fun ys hy => by rw [I.tuple_inj hy hq]; exact hx⟩, ⟨⟨y, ?_⟩, st'.1.at fun o q => (sb.2 it (Ne.symm hne)).trans q, hne, hai, hae⟩, fun b hb => ?_⟩
    · have e1 : ((i + 1 : Nat) : Int) = (i : Int) + 1 := by omega
      rw [e1]; exact he'
    · have hb' : b < s.heap.objs.size := by
        have e' : b = e ∨ b = it := by simpa using hb
        rcases e' with z | z
        · rw [z]; exact hel
        · rw [z]; exact hil
      rw [upd_ne (Nat.ne_of_lt hb')]
      exact (hf b hb).1
  done := by
    intro X hP hw hK hc i pins s σ H E I hf st hg
    subst hP hw hK
    obtain ⟨⟨old, he⟩, hit, hne, hai, hae⟩ := st
    obtain ⟨xs, hq, hx⟩ := hg
    obtain ⟨its, rv, p, hz⟩ := I.tuple hq
    obtain ⟨f0, f1, f2, f3, f4, f5⟩ := hf it (by simp)
    have hl := rv.length
    have hh : X.A.in1.handled = none := I.ok.hd hc
    have D : Draws X.prog X.w X.A.in1 it [it, a] i (fun _ _ => False) (fun j h => j = i ∧ h.IsTupleIter it a j ∧ h.IsTuple a its.toArray) :=
      { live := fun _ _ st => let ⟨o, ho, _⟩ := st.2.1; ⟨o, ho⟩
        frame := fun _ _ _ st hk => ⟨st.1, st.2.1.at fun o e => hk it (by simp) o e, st.2.2.at fun o e => hk a (by simp) o e⟩
        item := fun j s Q E hj st hQ => absurd hj (by rw [st.1]; exact Nat.lt_irrefl _)
        done := fun s Q E st hE => wpAny_nextOf_tuple_end hh st.2.1 st.2.2 (by simp; omega) hE }
    exact wpAny_pyNext_enum_endD D he ⟨rfl, hit, p⟩ fun h' eb => ⟨rfl, I.turned (t' := s.toks) (fun b o hb q => eb b o hb q) f0 f1 f3 f4 f5⟩
  self := fun A i s Q E st h => let ⟨⟨_, he⟩, _⟩ := st; wpAny_pyIter_enum he h
def iEnumT (K : PySem.W.Frag) (ta : TA) : TI := fun σ H R => ta σ H fun vs H1 => ∃ a xs, vs = [.ref a] ∧ SqT K H1 a xs ∧ R (IteT K a) H1
theorem pi_enumT {X : Cx} {e : Expr} {ta : TA} {p pos tpos : Pos} {elts : List Expr} {kk : Nat} (hg : Gl X "enumerate") (hm : X.mg "enumerate" = none) (ha : PA X [e] ta) (hs : starEach [e] X.env = [(false, eval e X.env)] := by rfl) :
    PI X (.Tuple elts kk tpos) (.Call (.Name "enumerate" p) [e] [] pos) (iEnumT X.K ta) := by
  refine ⟨fun pins s σ H R I h => ?_⟩
  refine Call_ (ld_blt I hg hm boot_enumerate (PyProof.Rows.callWith_type1 (thn (ha.run pos pins s σ H _ I h) fun us s1 ⟨vs, H1, I1, r1, q1⟩ => ?_) hs rfl))
  obtain ⟨a, xs, ex, hq, q⟩ := q1
  subst ex
  cases r1 with
  | cons r rr =>
    cases rr
    cases r
    obtain ⟨its, rv, p', hz⟩ := I1.tuple hq
    have hal : a < s1.heap.objs.size := by obtain ⟨_, z, _⟩ := p'; exact Heap.lt_size z
    refine enum_begins1 (begins_tuple a its.toArray) p' fun h' he hit hsz hk => wpAny_pyIter_enum he ?_
    have I2 : Inv X pins σ H1 { s1 with heap := h' } := I1.kept (t' := s1.toks) hk
    have hit' : h'.IsTupleIter s1.heap.objs.size a 0 := ⟨_, hit, rfl, rfl⟩
    refine ⟨s1.heap.objs.size + 1, [s1.heap.objs.size + 1, s1.heap.objs.size], _, _, H1, rfl, I2, turn_enumT a (s1.heap.objs.size + 1) s1.heap.objs.size, ⟨⟨.none, he⟩, hit', Nat.succ_ne_self _, Nat.ne_of_lt hal, Nat.ne_of_lt (Nat.lt_succ_of_lt hal)⟩, fun b hb => ?_, q⟩
    have e' : b = s1.heap.objs.size + 1 ∨ b = s1.heap.objs.size := by simpa using hb
    have hle : s1.heap.objs.size ≤ b := by
      rcases e' with z | z
      · rw [z]; exact Nat.le_add_right _ _
      · rw [z]; exact Nat.le_refl _
    exact I1.fpOk hle (I1.hok.fresh hle)
/-- the i-th of xs with its number, in a new pair -/
theorem walk_enumT {K : PySem.W.Frag} {a : Addr} {xs : List V} : Walk (IteT K a) xs.length (fun H => SqT K H a xs) (fun i H v H' => ∃ T x, v = .ref T ∧ H T = none ∧ H' = upd H T (.tup [.int (i : Nat), x]) ∧ xs[i]? = some x) where
  goes := fun i H hi h => ⟨xs, xs[i], h, List.getElem?_eq_getElem hi⟩
  stops := fun H h => ⟨xs, h, Nat.le_refl _⟩
  yields := fun i H v H' hi h ⟨T, x, e, hT, eH, hx⟩ => ⟨T, x, e, hT, eH, hx xs h⟩
end L2
set_option Elab.async false
set_option linter.all false
set_option maxRecDepth 100000
set_option maxHeartbeats 4000000
namespace K27
open PySem PySem.Spec PyProof.Rows L2
open C8 (Cal Def cal0 pe_c fnBody fnScope fnArgs)

def topS (i : Nat) : Stmt := PySem.Challenge.pw_changewhile_k27_marks_of.main.body.getD i (.Pass ⟨0, 0, 0, 0⟩)
/-- what the module's names hold that are no defs -/
structure Tp (mg : Str → Option Value) : Prop where
  n_isinstance : mg "isinstance" = none
  n_bool : mg "bool" = none
  n_tuple : mg "tuple" = none
  n_dict : mg "dict" = none
  n_len : mg "len" = none
  n_range : mg "range" = none
  n_int : mg "int" = none
  n_set : mg "set" = none
  n_sorted : mg "sorted" = none
  n_enumerate : mg "enumerate" = none
  n_all : mg "all" = none

/-! ### the pot: three numbers -/
def Pt (H : Hp) (p : Addr) : Prop := ∃ x y n : Int, H p = some (.lst [.int x, .int y, .int n]) ∧ 0 ≤ x ∧ 0 ≤ y ∧ y < 1099511627776
/-- all but the pot stays, and the pot stays one -/
def Go (p : Addr) (H H' : Hp) : Prop := But p H H' ∧ Pt H' p
theorem Pt.ne {H : Hp} {p q : Addr} (h : Pt H p) (hq : H q = none) : q ≠ p := fun e => by
  obtain ⟨x, y, n, a, _⟩ := h
  subst e
  rw [a] at hq
  cases hq
theorem Pt.same {H H' : Hp} {p : Addr} (h : Pt H p) (e : Same H H') : Pt H' p := let ⟨x, y, n, a, r⟩ := h; ⟨x, y, n, e _ _ a, r⟩
theorem Pt.new {H : Hp} {p q : Addr} {o : HO} (h : Pt H p) (hq : H q = none) : Pt (upd H q o) p := h.same (Same.new hq)
theorem Go.refl {p : Addr} {H : Hp} (h : Pt H p) : Go p H H := ⟨But.refl p H, h⟩
theorem Go.trans {p : Addr} {H H1 H2 : Hp} (a : Go p H H1) (b : Go p H1 H2) : Go p H H2 := ⟨a.1.trans b.1, b.2⟩
theorem Go.new {p q : Addr} {H H1 : Hp} {o : HO} (a : Go p H H1) (hq : H1 q = none) : Go p H (upd H1 q o) := ⟨a.1.trans (But.new hq), a.2.new hq⟩
theorem Go.ne {p q : Addr} {H H1 : Hp} (a : Go p H H1) (hq : H1 q = none) : q ≠ p := a.2.ne hq
theorem Go.put {p : Addr} {H H1 : Hp} {x y n : Int} (a : But p H H1) (h0 : 0 ≤ x) (h1 : 0 ≤ y) (h2 : y < 1099511627776) : Go p H (upd H1 p (.lst [.int x, .int y, .int n])) := ⟨a.pot, x, y, n, upd_same, h0, h1, h2⟩
theorem Go.at {p b : Addr} {H H1 : Hp} {o : HO} (a : Go p H H1) (n : b ≠ p) (h : H b = some o) : H1 b = some o := a.1 b o n h
/-! ### arithmetic -/
theorem fmod_lo {a n : Int} (h : 0 < n) : 0 ≤ a.fmod n := by
  rw [Int.fmod_eq_emod_of_nonneg a (by omega)]
  exact Int.emod_nonneg a (by omega)
theorem fmod_hi {a n : Int} (h : 0 < n) : a.fmod n < n := by
  rw [Int.fmod_eq_emod_of_nonneg a (by omega)]
  exact Int.emod_lt_of_pos a h
theorem div_lo {a n : Int} (h : 0 < n) (ha : 0 ≤ a) : 0 ≤ a / n := Int.ediv_nonneg ha (by omega)
/-- one of a list, by an int within it -/
theorem pick {xs : List V} {r : Int} (h0 : 0 ≤ r) (h1 : r < (xs.length : Int)) : ∃ v ∈ xs, atI xs r = some v := by
  have e : r = (r.toNat : Int) := by omega
  have l : r.toNat < xs.length := by omega
  refine ⟨xs[r.toNat], List.getElem_mem l, ?_⟩
  have h : atI xs (r.toNat : Int) = some xs[r.toNat] := atI_nat (List.getElem?_eq_getElem l)
  rw [← e] at h
  exact h

section
variable {P : Program} {w : World} {K : PySem.W.Frag} {mg : Str → Option Value} {base : Heap}
/-! ### the drawing -/
abbrev sLTake : Stmt := topS 6
abbrev NLTake : List Str := ["_law_pot_here", "_law_many", "_law_digit"]
theorem scLTake : FnScope NLTake ["_law_pot_here", "_law_many"] (fnScope sLTake) := ⟨rfl, rfl, rfl, by decide +kernel, rfl, by decide +kernel, by decide +kernel⟩
def spTake : Sp := fun vs H Q _ => ∃ (p : Addr) (n : Int), vs = [.ref p, .int n] ∧ Pt H p ∧ 0 < n ∧ n.natAbs < 2 ^ 300 ∧ ∀ r H', 0 ≤ r → r < n → Go p H H' → Q (.int r) H'
theorem c_take {f : Addr} {fd : FuncData} (D : Def K mg "_law_take" sLTake f fd) (b : Binds K fd ["_law_pot_here", "_law_many"] []) : Cal P w K mg base 1 "_law_take" spTake [] := by
  refine cal0 D b .nil scLTake (fun vs H Q E h => ?_) (fun cdv A outer s H vs Q E hr h => ?_)
  · obtain ⟨p, n, rfl, _⟩ := h
    rfl
  · obtain ⟨p, n, rfl, ⟨x, y, m, hl, h0, h1, h2⟩, n0, n1, q⟩ := h
    have nd := scLTake.nd
    refine ⟨_, (pss_cons (ps_if (pt_cmpR op_gt (pe_ix ix_list (pv 0) pe_int (fun _ _ => rfl)) pe_int (nomark _))
      (pss_cons (ps_set (i := 2) nd rfl (.inl rfl) (pe_op op_modN (pe_ix ix_list (pv 0) pe_int (fun _ _ => rfl)) (pv 1)))
      (pss_cons (ps_asg (pe_op op_fdivW (pe_ix ix_list (pv 0) pe_int (fun _ _ => rfl)) (pv 1)) (pg_sub (pv 0) pe_int set_list))
      (pss_one (ps_ret (pv 2)))))
      pss_nil)
    (pss_cons (ps_asg (pe_op op_modN (pe_op op_add (pe_op op_mul (pe_ix ix_list (pv 0) pe_int (fun _ _ => rfl)) pe_int) pe_int) pe_int) (pg_sub (pv 0) pe_int set_list))
    (pss_one (ps_ret (pe_op op_modN (pe_op op_fdivW (pe_op op_modN (pe_op op_mul (pe_ix ix_list (pv 0) pe_int (fun _ _ => rfl)) (pe_ix ix_list (pv 0) pe_int (fun _ _ => rfl))) pe_int) pe_int) (pv 1)))))), ?_⟩
    refine ⟨_, rfl, _, _, _, _, rfl, rfl, SqL.of hl, atI_nat (j := 0) rfl, _, _, rfl, rfl, _, rfl, ite2 (fun e => ?_) (fun e => ?_)⟩
    · refine ⟨_, rfl, _, _, _, _, rfl, rfl, SqL.of hl, atI_nat (j := 0) rfl, _, rfl, _, _, rfl, rfl, (show n ≠ 0 by omega), ?_⟩
      refine ⟨_, rfl, _, _, _, _, rfl, rfl, SqL.of hl, atI_nat (j := 0) rfl, _, rfl, _, _, rfl, rfl, wide_div n0 n1 (by decide) (by decide), ?_⟩
      refine ⟨_, rfl, _, _, _, _, rfl, rfl, hl, rfl, ?_⟩
      refine ⟨_, rfl, ?_⟩
      exact q _ _ (fmod_lo n0) (fmod_hi n0) (Go.put (But.refl p H) (div_lo n0 h0) h1 h2)
    · refine ⟨_, rfl, _, _, _, _, rfl, rfl, SqL.of hl, atI_nat (j := 1) rfl, _, _, rfl, rfl, .inl ⟨by omega, by omega⟩, _, _, rfl, rfl, _, _, rfl, rfl, (by show (2147483629 : Int) ≠ 0; decide), ?_⟩
      refine ⟨_, rfl, _, _, _, _, rfl, rfl, hl, rfl, ?_⟩
      have b0 : 0 ≤ (y * 39373 + 7919).fmod 2147483629 := fmod_lo (by decide)
      have b1 : (y * 39373 + 7919).fmod 2147483629 < 2147483629 := fmod_hi (by decide)
      refine ⟨_, rfl, _, _, _, _, rfl, rfl, SqL.of upd_same, atI_nat (j := 1) rfl, _, rfl, _, _, _, _, rfl, rfl, SqL.of upd_same, atI_nat (j := 1) rfl, _, _, rfl, rfl, .inl ⟨by omega, by omega⟩, _, _, rfl, rfl, (by show (2147483563 : Int) ≠ 0; decide), _, _, rfl, rfl, wide_div (b := 64) (by decide) (by decide) (by decide) (by decide), _, rfl, _, _, rfl, rfl, (show n ≠ 0 by omega), ?_⟩
      exact q _ _ (fmod_lo n0) (fmod_hi n0) (Go.put (But.refl p H) h0 b0 (by omega))

/-! ### a cell, the pot -/
abbrev sLCell : Stmt := topS 4
abbrev NLCell : List Str := ["_law_script", "_law_at"]
theorem scLCell : FnScope NLCell ["_law_script", "_law_at"] (fnScope sLCell) := ⟨rfl, rfl, rfl, by decide +kernel, rfl, by decide +kernel, by decide +kernel⟩
def spCell (K : PySem.W.Frag) : Sp := fun vs H Q _ => ∃ (a : Addr) (ns : List Int) (k : Nat), vs = [.ref a, .int k] ∧ SqL K H a (ns.map V.int) ∧ ns.length ≤ 1000 ∧ ∀ n H', Same H H' → Q (.int n) H'
theorem cut_one (ns : List Int) (k : Nat) : ∃ ms : List Int, cutV (ns.map V.int) (some (k : Int)) (some ((k : Int) + 1)) ++ [V.int 0] = (ms ++ [0]).map V.int ∧ (cutV (ns.map V.int) (some (k : Int)) (some ((k : Int) + 1))).length ≤ ns.length := by
  unfold cutV
  refine ⟨(ns.drop (HT.sIx (ns.map V.int).length 0 (some (k : Int)))).take (HT.sIx (ns.map V.int).length (ns.map V.int).length (some ((k : Int) + 1)) - HT.sIx (ns.map V.int).length 0 (some (k : Int))), ?_, ?_⟩
  · simp [List.map_append, List.map_take, List.map_drop]
  · simp only [List.length_take, List.length_drop, List.length_map]
    omega
theorem c_cell {f : Addr} {fd : FuncData} (D : Def K mg "_law_cell" sLCell f fd) (b : Binds K fd ["_law_script", "_law_at"] []) : Cal P w K mg base 1 "_law_cell" (spCell K) [] := by
  refine cal0 D b .nil scLCell (fun vs H Q E h => ?_) (fun cdv A outer s H vs Q E hr h => ?_)
  · obtain ⟨a, ns, k, rfl, _⟩ := h
    rfl
  · obtain ⟨a, ns, k, rfl, hs, hn, q⟩ := h
    refine ⟨_, (pss_one (ps_ret (pe_ix ix_list (pe_op op_cat (pe_slice sl_list (pv 0) (po_some (pv 1)) (po_some (pe_op op_add (pv 1) pe_int))) (pe_lst (pa_cons pe_int pa_nil))) pe_int (fun _ _ => rfl)))), ?_⟩
    obtain ⟨ms, e, hl⟩ := cut_one ns k
    refine ⟨_, rfl, _, rfl, _, rfl, _, rfl, _, _, rfl, rfl, _, rfl, a, _, rfl, hs, fun l1 h1 => ⟨(by show 1 ≤ sizeLine; decide), fun l2 h2 => ?_⟩⟩
    have n12 : l1 ≠ l2 := fun z => by rw [← z, upd_same] at h2; cases h2
    refine ⟨l1, l2, _, _, rfl, rfl, by rw [upd_ne n12, upd_same], upd_same, ?_, fun l3 h3 => ?_⟩
    · rw [sizeLine_eq]
      simp only [List.length_cons, List.length_nil]
      omega
    · rw [e]
      cases ms with
      | nil => exact ⟨l3, _, _, .int 0, rfl, rfl, SqL.of upd_same, atI_nat (j := 0) rfl, q 0 _ (((Same.new h1).trans (Same.new h2)).trans (Same.new h3))⟩
      | cons m ms => exact ⟨l3, _, _, .int m, rfl, rfl, SqL.of upd_same, atI_nat (j := 0) rfl, q m _ (((Same.new h1).trans (Same.new h2)).trans (Same.new h3))⟩
abbrev sLPot : Stmt := topS 5
abbrev NLPot : List Str := ["_law_cell_here"]
theorem scLPot : FnScope NLPot ["_law_cell_here"] (fnScope sLPot) := ⟨rfl, rfl, rfl, by decide +kernel, rfl, by decide +kernel, by decide +kernel⟩
def spPot : Sp := fun vs H Q _ => ∃ (c : Int), vs = [.int c] ∧ ∀ p H', H p = none → Same H H' → Pt H' p → Q (.ref p) H'
theorem c_pot (T : Tp mg) {f : Addr} {fd : FuncData} (D : Def K mg "_law_pot" sLPot f fd) (b : Binds K fd ["_law_cell_here"] []) : Cal P w K mg base 1 "_law_pot" spPot [] := by
  refine cal0 D b .nil scLPot (fun vs H Q E h => ?_) (fun cdv A outer s H vs Q E hr h => ?_)
  · obtain ⟨c, rfl, _⟩ := h
    rfl
  · obtain ⟨c, rfl, q⟩ := h
    refine ⟨_, (pss_one (ps_ret (pe_lst (pa_cons (pe_op op_mul (pv 0) (pe_callTy call_int1 (by rfl) T.n_int (by decide +kernel) (pa_cons (pe_cmpR op_ge (pv 0) (pe_op op_pow pe_int pe_int) (nomark _)) pa_nil))) (pa_cons (pe_op op_modN (pe_op op_add (pe_op op_mul (pv 0) pe_int) pe_int) pe_int) (pa_cons pe_int pa_nil)))))), ?_⟩
    refine ⟨_, rfl, _, rfl, _, _, rfl, rfl, (by show (0 : Int) ≤ 18 ∧ _; decide), _, _, rfl, rfl, .inr ⟨_, rfl, _, _, rfl, rfl, ?_, ?_⟩⟩
    · exact .inr ⟨by split <;> decide, by split <;> decide⟩
    · refine ⟨_, rfl, _, _, rfl, rfl, .inr ⟨by decide, by decide⟩, _, _, rfl, rfl, _, _, rfl, rfl, (by show (2147483647 : Int) ≠ 0; decide), (by show 3 ≤ sizeLine; decide), fun p hp => ?_⟩
      refine q p _ hp (Same.new hp) ⟨_, _, _, upd_same, ?_, fmod_lo (by decide), Int.lt_trans (fmod_hi (by decide)) (by decide)⟩
      by_cases c0 : (10 : Int) ^ (18 : Int).toNat ≤ c
      · rw [decide_eq_true c0]
        have e2 : (10 : Int) ^ (18 : Int).toNat = 1000000000000000000 := by decide
        show 0 ≤ c * 1
        omega
      · rw [decide_eq_false c0]
        show 0 ≤ c * 0
        omega
end
end K27
set_option Elab.async false
set_option linter.all false
set_option maxRecDepth 100000
set_option maxHeartbeats 4000000
namespace K27
open PySem PySem.Spec PyProof.Rows L2
open C8 (Cal Def cal0 pe_c fnBody fnScope fnArgs)
theorem ixR {K : PySem.W.Frag} {H : Hp} {l : Addr} {xs : List V} {r : Int} {Q : VK} (hl : H l = some (.lst xs)) (h0 : 0 ≤ r) (h1 : r < (xs.length : Int)) (q : ∀ v ∈ xs, Q v H) : rIxL K (.ref l) (.int r) H Q :=
  let ⟨v, hv, e⟩ := pick h0 h1
  ⟨l, xs, r, v, rfl, rfl, SqL.of hl, e, q v hv⟩
theorem ix01 {K : PySem.W.Frag} {H : Hp} {l : Addr} {x0 x1 : V} {k : Bool} {Q : VK} (hl : H l = some (.lst [x0, x1])) (q0 : Q x0 H) (q1 : Q x1 H) : rIxL K (.ref l) (.int (if k = true then 1 else 0)) H Q := by
  cases k
  · exact ⟨l, _, _, x0, rfl, rfl, SqL.of hl, atI_nat (j := 0) rfl, q0⟩
  · exact ⟨l, _, _, x1, rfl, rfl, SqL.of hl, atI_nat (j := 1) rfl, q1⟩
def txt : V → Bool | .str _ => true | _ => false
theorem txt_of {v : V} (h : txt v = true) : ∃ z, v = .str z := by
  cases v <;> first | exact ⟨_, rfl⟩ | cases h
theorem txts {xs : List V} (h : xs.all txt = true) {v : V} (hv : v ∈ xs) : ∃ z, v = .str z := txt_of (List.all_eq_true.mp h v hv)
theorem ne_new {H : Hp} {a b : Addr} {o : HO} (h : upd H a o b = none) : a ≠ b := fun z => by
  rw [← z, upd_same] at h
  cases h
section
variable {P : Program} {w : World} {K : PySem.W.Frag} {mg : Str → Option Value} {base : Heap}
/-! ### names -/
abbrev sLName : Stmt := topS 7
abbrev NLName : List Str := ["_law_pot_here", "_law_way", "_law_name_here", "_law_k", "_law_words"]
theorem scLName : FnScope NLName ["_law_pot_here"] (fnScope sLName) := ⟨rfl, rfl, rfl, by decide +kernel, rfl, by decide +kernel, by decide +kernel⟩
def asc (z : Str) : Bool := z.cps.toList.all fun c => decide (c < 128)
def ascV : V → Bool | .str z => asc z | _ => false
theorem ascs {xs : List V} (h : xs.all ascV = true) {z : Str} (hv : V.str z ∈ xs) : asc z = true := List.all_eq_true.mp h _ hv
theorem asc_one {t : Str} (h : asc t = true) {j c : Nat} (hc : t.cps.toList[j]? = some c) : asc ⟨#[c]⟩ = true := by
  have h1 := List.all_eq_true.mp h c (List.mem_of_getElem? hc)
  show (decide (c < 128) && true) = true
  rw [h1]
  rfl
theorem asc_app {x y : Str} (hx : asc x = true) (hy : asc y = true) : asc (x ++ y) = true := by
  have ta : (x ++ y).cps.toList = x.cps.toList ++ y.cps.toList := TL.tl_append x y
  unfold asc at *
  rw [ta, List.all_append, hx, hy]
  rfl
def spName : Sp := fun vs H Q _ => ∃ (p : Addr), vs = [.ref p] ∧ Pt H p ∧ ∀ z H', asc z = true → Go p H H' → Q (.str z) H'
theorem c_name (T : Tp mg) (c_LTake : Cal P w K mg base 1 "_law_take" spTake []) {f : Addr} {fd : FuncData} (D : Def K mg "_law_name" sLName f fd) (b : Binds K fd ["_law_pot_here"] []) : Cal P w K mg base 2 "_law_name" spName [] := by
  refine cal0 D b .nil scLName (fun vs H Q E h => ?_) (fun cdv A outer s H vs Q E hr h => ?_)
  · obtain ⟨p, rfl, _⟩ := h
    rfl
  · obtain ⟨p, rfl, hp, q⟩ := h
    have nd := scLName.nd
    refine ⟨_, (pss_cons (ps_set (i := 1) nd rfl (.inl rfl) (pe_c c_LTake hr (by decide) (by rfl) (pa_cons (pv 0) (pa_cons pe_int pa_nil))))
    (pss_cons (ps_if (pt_cmpR op_eq (pv 1) pe_int (nomark _))
      (pss_cons (ps_set (i := 4) nd rfl (.inl rfl) (pe_lst (pa_cons pe_str (pa_cons pe_str (pa_cons pe_str (pa_cons pe_str (pa_cons pe_str (pa_cons pe_str (pa_cons pe_str (pa_cons pe_str (pa_cons pe_str (pa_cons pe_str (pa_cons pe_str (pa_cons pe_str (pa_cons pe_str (pa_cons pe_str pa_nil))))))))))))))))
    (pss_cons (ps_set (i := 4) nd rfl (.inl rfl) (pe_op op_cat (pv 4) (pe_lst (pa_cons pe_str (pa_cons pe_str (pa_cons pe_str (pa_cons pe_str (pa_cons pe_str (pa_cons pe_str (pa_cons pe_str (pa_cons pe_str (pa_cons pe_str (pa_cons pe_str (pa_cons pe_str pa_nil))))))))))))))
    (pss_one (ps_ret (pe_ix ix_list (pv 4) (pe_c c_LTake hr (by decide) (by rfl) (pa_cons (pv 0) (pa_cons pe_int pa_nil))) (fun _ _ => rfl))))))
      pss_nil)
    (pss_cons (ps_if (pt_cmpR op_eq (pv 1) pe_int (nomark _))
      (pss_one (ps_ret (pe_ix ix_str pe_str (pe_c c_LTake hr (by decide) (by rfl) (pa_cons (pv 0) (pa_cons pe_int pa_nil))) (fun _ _ => rfl))))
      pss_nil)
    (pss_cons (ps_set (i := 2) nd rfl (.inl rfl) pe_str)
    (pss_cons (ps_for PassesOwn.never rfl (pi_range1 (by rfl) T.n_range (pa_cons (pe_op op_add pe_int (pe_c c_LTake hr (by decide) (by rfl) (pa_cons (pv 0) (pa_cons pe_int pa_nil)))) pa_nil)) (pg_name (i := 3) nd rfl (.inl rfl))
      (pss_one (ps_set (i := 2) nd rfl (.inl rfl) (pe_op op_add_str (pv 2) (pe_ix ix_str pe_str (pe_c c_LTake hr (by decide) (by rfl) (pa_cons (pv 0) (pa_cons pe_int pa_nil))) (fun _ _ => rfl))))))
    (pss_one (ps_ret (pe_ix ix_list (pe_lst (pa_cons (pv 2) (pa_cons pe_str pa_nil))) (pe_callTy call_int1 (by rfl) T.n_int (by decide +kernel) (pa_cons (pe_cmpR op_in_seq (pv 2) (pe_lst (pa_cons pe_str (pa_cons pe_str (pa_cons pe_str (pa_cons pe_str pa_nil))))) (by rfl)) pa_nil)) (fun _ _ => rfl))))))))), ?_⟩
    refine ⟨_, rfl, p, 4, rfl, hp, by decide, by decide, fun r H1 r0 r1 g1 => ?_⟩
    refine ⟨_, rfl, rfl, _, rfl, ite2 (fun e => ?_) (fun e => ?_)⟩
    · refine ⟨(by show 14 ≤ sizeLine; decide), fun l1 h1 => ⟨_, rfl, (by show 11 ≤ sizeLine; decide), fun l2 h2 => ?_⟩⟩
      refine ⟨l1, l2, _, _, rfl, rfl, by rw [upd_ne (ne_new h2), upd_same], upd_same, (by show 25 ≤ sizeLine; decide), fun l3 h3 => ?_⟩
      refine ⟨_, rfl, _, rfl, p, 25, rfl, (((g1.new h1).new h2).new h3).2, by decide, by decide, fun r2 H5 r20 r21 g5 => ?_⟩
      refine ixR (g5.at (((g1.new h1).new h2).ne h3) upd_same) r20 (by exact r21) fun v hv => ?_
      obtain ⟨z, rfl⟩ := txts (by rfl) hv
      exact q z _ (ascs (by decide +kernel) hv) ((((g1.new h1).new h2).new h3).trans g5)
    · refine ⟨_, rfl, rfl, _, rfl, ite2 (fun e => ?_) (fun e => ?_)⟩
      · refine ⟨_, rfl, p, 5, rfl, g1.2, by decide, by decide, fun r2 H5 r20 r21 g5 => ?_⟩
        obtain ⟨c, hc⟩ : ∃ c, ("xyzab" : Str).cps.toList[r2.toNat]? = some c := ⟨_, List.getElem?_eq_getElem (show r2.toNat < ("xyzab" : Str).cps.toList.length by rw [show ("xyzab" : Str).cps.toList.length = 5 by decide +kernel]; omega)⟩
        have e2 : r2 = (r2.toNat : Int) := by omega
        refine ⟨_, r2, c, rfl, rfl, (by show (5 : Nat) ≤ sizeLine; decide), (by rw [e2]; exact atI_nat hc), ?_⟩
        exact q _ _ (asc_one (t := "xyzab") (by decide +kernel) hc) (g1.trans g5)
      · refine ⟨_, rfl, p, 8, rfl, g1.2, by decide, by decide, fun r2 H2 r20 r21 g2 => ?_⟩
        have g3 := g1.trans g2
        refine ⟨_, _, rfl, rfl, 1 + r2, rfl, by omega, by omega, ?_⟩
        refine for_range (lo := 0) (n := (1 + r2).toNat) (fun i σ H' => ∃ z v3, σ = [some (.ref p), some (.int r), some (.str z), v3, none] ∧ z.length = i ∧ asc z = true ∧ Go p H H') ⟨_, _, rfl, rfl, by decide +kernel, g3⟩ (fun i σ H' hi hW => ?_) (fun σ H' hW => ?_)
        · obtain ⟨z, v3, rfl, hz, hza, g4⟩ := hW
          refine ⟨_, rfl, _, rfl, p, 26, rfl, g4.2, by decide, by decide, fun r4 H5 r40 r41 g5 => ?_⟩
          obtain ⟨c, hc⟩ : ∃ c, ("abcdefghijklmnopqrstuvwxyz" : Str).cps.toList[r4.toNat]? = some c := ⟨_, List.getElem?_eq_getElem (show r4.toNat < ("abcdefghijklmnopqrstuvwxyz" : Str).cps.toList.length by rw [show ("abcdefghijklmnopqrstuvwxyz" : Str).cps.toList.length = 26 by decide +kernel]; omega)⟩
          have e2 : r4 = (r4.toNat : Int) := by omega
          refine ⟨_, r4, c, rfl, rfl, (by show (26 : Nat) ≤ sizeLine; decide), (by rw [e2]; exact atI_nat hc), ?_⟩
          refine ⟨_, _, rfl, rfl, ?_, ?_⟩
          · show z.length + 1 ≤ sizeLine
            rw [hz, sizeLine_eq]
            omega
          · refine ⟨_, _, rfl, ?_, asc_app hza (asc_one (t := "abcdefghijklmnopqrstuvwxyz") (by decide +kernel) hc), g4.trans g5⟩
            have l1 : ∀ y : Str, y.cps.toList.length = y.length := fun y => Array.length_toList
            have ta : ∀ x y : Str, (x ++ y).cps.toList = x.cps.toList ++ y.cps.toList := fun x y => TL.tl_append x y
            rw [← l1, ta, List.length_append, l1, hz]
            rfl
        · obtain ⟨z, v3, rfl, hz, hza, g4⟩ := hW
          refine ⟨_, rfl, (by show 2 ≤ sizeLine; decide), fun l hl => ⟨_, rfl, (by show 4 ≤ sizeLine; decide), fun l2 hl2 => ?_⟩⟩
          refine ⟨l2, _, rfl, .inl (SqL.of upd_same), rfl, rfl, .inr ⟨_, rfl, ?_⟩⟩
          exact ix01 (by rw [upd_ne (ne_new hl2), upd_same]) (q _ _ hza ((g4.new hl).new hl2)) (q _ _ (by decide +kernel) ((g4.new hl).new hl2))
/-! ### kinds -/
theorem cal_no {k : Nat} {x : Str} {st : Stmt} {f : Addr} {fd : FuncData} {ps : List Str} (sp : Sp) (h : ∀ vs H Q E, sp vs H Q E → False) (D : Def K mg x st f fd) (b : Binds K fd ps []) : Cal P w K mg base k x sp [] :=
  ⟨f, fd, ps, [], ⟨fun _ _ _ _ z => (h _ _ _ _ z).elim, fun _ _ _ _ _ _ _ _ _ _ _ _ _ z => (h _ _ _ _ z).elim⟩, D.mgf, D.kp, b, .nil⟩
abbrev sLKind : Stmt := topS 8
abbrev NLKind : List Str := ["_law_pot_here", "_law_deep", "_law_way"]
theorem scLKind : FnScope NLKind ["_law_pot_here", "_law_deep"] (fnScope sLKind) := ⟨rfl, rfl, rfl, by decide +kernel, rfl, by decide +kernel, by decide +kernel⟩
/-- something drawn, by a depth below n -/
def spDeep (n : Nat) : Sp := fun vs H Q _ => ∃ (p : Addr) (m : Nat), vs = [.ref p, .int m] ∧ m < n ∧ Pt H p ∧ ∀ v H', Go p H H' → Q v H'
theorem c_kind (T : Tp mg) (c_LTake : Cal P w K mg base 1 "_law_take" spTake []) (c_LName : Cal P w K mg base 2 "_law_name" spName []) {f : Addr} {fd : FuncData} (D : Def K mg "_law_kind" sLKind f fd) (b : Binds K fd ["_law_pot_here", "_law_deep"] []) :
    ∀ n : Nat, Cal P w K mg base (2 + n) "_law_kind" (spDeep n) []
  | 0 => cal_no _ (fun vs H Q E ⟨p, m, _, h, _⟩ => absurd h (Nat.not_lt_zero _)) D b
  | n + 1 => by
    have c_LKind := c_kind T c_LTake c_LName D b n
    refine cal0 D b .nil scLKind (fun vs H Q E h => ?_) (fun cdv A outer s H vs Q E hr h => ?_)
    · obtain ⟨p, m, rfl, _⟩ := h
      rfl
    · obtain ⟨p, m, rfl, hm, hp, q⟩ := h
      have nd := scLKind.nd
      have hr := (show Room (2 + n) _ from hr)
      refine ⟨_, (pss_cons (ps_set (i := 2) nd rfl (.inl rfl) (pe_c c_LTake hr (by omega) (by rfl) (pa_cons (pv 0) (pa_cons pe_int pa_nil))))
    (pss_cons (ps_if (PW.pt (pw_and (pt_cmpR op_gt (pv 2) pe_int (nomark _)) (pw_and1 (pt_cmpR op_gt (pv 1) pe_int (nomark _)))))
      (pss_one (ps_ret (pe_tup (pa_cons pe_str (pa_cons (pe_c c_LKind hr (by omega) (by rfl) (pa_cons (pv 0) (pa_cons (pe_op op_sub (pv 1) pe_int) pa_nil))) pa_nil)))))
      pss_nil)
    (pss_one (ps_ret (pe_ix ix_list (pe_lst (pa_cons (pe_tup (pa_cons pe_str pa_nil)) (pa_cons (pe_tup (pa_cons pe_str pa_nil)) (pa_cons (pe_tup (pa_cons pe_str (pa_cons (pe_c c_LName hr (by omega) (by rfl) (pa_cons (pv 0) pa_nil)) pa_nil))) pa_nil)))) (pe_op op_modN (pv 2) pe_int) (fun _ _ => rfl)))))), ?_⟩
      refine ⟨_, rfl, p, 5, rfl, hp, by decide, by decide, fun r H1 r0 r1 g1 => ?_⟩
      have rest : (tRet (tOp (rIxL K) (tLst (tCons (tTup (tCons (tC (.str "number")) tNil)) (tCons (tTup (tCons (tC (.str "truth")) tNil)) (tCons (tTup (tCons (tC (.str "record")) (tCons (tCall spName [] C8.E0 (tCons (tVar 0) tNil)) tNil))) tNil)))) (tOp (rI (fun _ j => j ≠ 0) fun i j => .int (i.fmod j)) (tVar 2) (tC (.int 3))))) { nx := fun _ H' => Q .non H', rt := Q } [some (.ref p), some (.int m), some (.int r)] H1 := by
        refine ⟨(by show 1 ≤ sizeLine; decide), fun t1 h1 => ⟨(by show 1 ≤ sizeLine; decide), fun t2 h2 => ?_⟩⟩
        have g2 := (g1.new (o := .tup [.str "number"]) h1).new (o := .tup [.str "truth"]) h2
        refine ⟨_, rfl, p, rfl, g2.2, fun z H2 _ g3 => ?_⟩
        refine ⟨(by show 2 ≤ sizeLine; decide), fun t3 h3 => ⟨(by show 3 ≤ sizeLine; decide), fun l hl => ?_⟩⟩
        refine ⟨_, rfl, _, _, rfl, rfl, (by show (3 : Int) ≠ 0; decide), ?_⟩
        exact ixR upd_same (fmod_lo (by decide)) (by exact fmod_hi (by decide)) fun v _ => q v _ (((g2.trans g3).new h3).new hl)
      refine ⟨_, rfl, _, _, rfl, rfl, _, rfl, ite2 (fun e => ?_) (fun e => ?_)⟩
      · refine ⟨_, rfl, _, _, rfl, rfl, _, rfl, ite2 (fun e2 => ?_) (fun e2 => ?_)⟩
        · have m0 : (0 : Int) < m := of_decide_eq_true e2
          refine ⟨_, rfl, _, rfl, _, _, rfl, rfl, p, m - 1, ?_, by omega, g1.2, fun v H2 g2 => ?_⟩
          · show [V.ref p, V.int ((m : Int) - 1)] = _
            rw [show ((m - 1 : Nat) : Int) = (m : Int) - 1 by omega]
          · refine ⟨(by show 2 ≤ sizeLine; decide), fun t ht => ?_⟩
            exact q _ _ ((g1.trans g2).new ht)
        · exact rest
      · show (if (false : Bool) = true then _ else _)
        exact iteF rest
/-! ### leaves of terms -/
abbrev sLLeaf : Stmt := topS 9
abbrev NLLeaf : List Str := ["_law_pot_here", "_law_way"]
theorem scLLeaf : FnScope NLLeaf ["_law_pot_here"] (fnScope sLLeaf) := ⟨rfl, rfl, rfl, by decide +kernel, rfl, by decide +kernel, by decide +kernel⟩
def spAny : Sp := fun vs H Q _ => ∃ (p : Addr), vs = [.ref p] ∧ Pt H p ∧ ∀ v H', Go p H H' → Q v H'
theorem c_leaf (T : Tp mg) (c_LTake : Cal P w K mg base 1 "_law_take" spTake []) (c_LName : Cal P w K mg base 2 "_law_name" spName []) (c_LKind : Cal P w K mg base 10 "_law_kind" (spDeep 8) []) {f : Addr} {fd : FuncData} (D : Def K mg "_law_leaf" sLLeaf f fd) (b : Binds K fd ["_law_pot_here"] []) : Cal P w K mg base 11 "_law_leaf" spAny [] := by
  refine cal0 D b .nil scLLeaf (fun vs H Q E h => ?_) (fun cdv A outer s H vs Q E hr h => ?_)
  · obtain ⟨p, rfl, _⟩ := h
    rfl
  · obtain ⟨p, rfl, hp, q⟩ := h
    have nd := scLLeaf.nd
    refine ⟨_, (pss_cons (ps_set (i := 1) nd rfl (.inl rfl) (pe_c c_LTake hr (by decide) (by rfl) (pa_cons (pv 0) (pa_cons pe_int pa_nil))))
    (pss_cons (ps_if (pt_cmpR op_eq (pv 1) pe_int (nomark _))
      (pss_one (ps_ret (pe_tup (pa_cons pe_str (pa_cons (pe_ix ix_list (pe_lst (pa_cons (pe_c c_LTake hr (by decide) (by rfl) (pa_cons (pv 0) (pa_cons pe_int pa_nil))) (pa_cons (pe_c c_LTake hr (by decide) (by rfl) (pa_cons (pv 0) (pa_cons (pe_op op_pow pe_int pe_int) pa_nil))) (pa_cons (pe_op op_sub (pe_op op_pow pe_int pe_int) pe_int) pa_nil)))) (pe_c c_LTake hr (by decide) (by rfl) (pa_cons (pv 0) (pa_cons pe_int pa_nil))) (fun _ _ => rfl)) pa_nil)))))
      pss_nil)
    (pss_cons (ps_if (pt_cmpR op_eq (pv 1) pe_int (nomark _))
      (pss_one (ps_ret (pe_tup (pa_cons pe_str (pa_cons (pe_cmpR op_eq (pe_c c_LTake hr (by decide) (by rfl) (pa_cons (pv 0) (pa_cons pe_int pa_nil))) pe_int (nomark _)) pa_nil)))))
      pss_nil)
    (pss_cons (ps_if (pt_cmpR op_eq (pv 1) pe_int (nomark _))
      (pss_one (ps_ret (pe_tup (pa_cons pe_str (pa_cons (pe_c c_LKind hr (by decide) (by rfl) (pa_cons (pv 0) (pa_cons pe_int pa_nil))) pa_nil)))))
      pss_nil)
    (pss_one (ps_ret (pe_tup (pa_cons (pe_ix ix_tup (pe_ix ix_list (pe_lst (pa_cons (pe_tup (pa_cons pe_str pa_nil)) (pa_cons (pe_tup (pa_cons pe_str pa_nil)) pa_nil))) (pe_op op_modN (pv 1) pe_int) (fun _ _ => rfl)) pe_int (fun _ _ => rfl)) (pa_cons (pe_c c_LName hr (by decide) (by rfl) (pa_cons (pv 0) pa_nil)) pa_nil))))))))), ?_⟩
    refine ⟨_, rfl, p, 6, rfl, hp, by decide, by decide, fun r H1 r0 r1 g1 => ?_⟩
    refine ⟨_, rfl, rfl, _, rfl, ite2 (fun e => ?_) (fun e => ?_)⟩
    · refine ⟨_, rfl, p, 5, rfl, g1.2, by decide, by decide, fun r2 H2 r20 r21 g2 => ?_⟩
      have g12 := g1.trans g2
      refine ⟨_, rfl, _, _, rfl, rfl, (by show (0 : Int) ≤ 12 ∧ _; decide), p, _, rfl, g12.2, (by decide), (by decide), fun r3 H3 r30 r31 g3 => ?_⟩
      have g123 := g12.trans g3
      refine ⟨_, _, rfl, rfl, (by show (0 : Int) ≤ 12 ∧ _; decide), _, _, rfl, rfl, (by show 3 ≤ sizeLine; decide), fun l hl => ?_⟩
      have g4 := g123.new (o := .lst [.int r2, .int r3, .int ((10 : Int) ^ (12 : Int).toNat - 1)]) hl
      refine ⟨_, rfl, p, 3, rfl, g4.2, by decide, by decide, fun r5 H5 r50 r51 g5 => ?_⟩
      refine ixR (g5.at (g123.ne hl) upd_same) r50 (by exact r51) fun v _ => ⟨(by show 2 ≤ sizeLine; decide), fun t ht => ?_⟩
      exact q _ _ ((g4.trans g5).new ht)
    · refine ⟨_, rfl, rfl, _, rfl, ite2 (fun e => ?_) (fun e => ?_)⟩
      · refine ⟨_, rfl, p, 2, rfl, g1.2, by decide, by decide, fun r2 H2 r20 r21 g2 => ⟨rfl, (by show 2 ≤ sizeLine; decide), fun t ht => ?_⟩⟩
        exact q _ _ ((g1.trans g2).new ht)
      · refine ⟨_, rfl, rfl, _, rfl, ite2 (fun e => ?_) (fun e => ?_)⟩
        · refine ⟨_, rfl, p, 7, rfl, by decide, g1.2, fun v H2 g2 => ⟨(by show 2 ≤ sizeLine; decide), fun t ht => ?_⟩⟩
          exact q _ _ ((g1.trans g2).new ht)
        · refine ⟨(by show 1 ≤ sizeLine; decide), fun t1 h1 => ⟨(by show 1 ≤ sizeLine; decide), fun t2 h2 => ⟨(by show 2 ≤ sizeLine; decide), fun l hl => ?_⟩⟩⟩
          have g2 := ((g1.new (o := .tup [.str "box"]) h1).new (o := .tup [.str "name"]) h2).new (o := .lst [.ref t1, .ref t2]) hl
          refine ⟨_, rfl, _, _, rfl, rfl, (by show (2 : Int) ≠ 0; decide), ?_⟩
          refine ixR upd_same (fmod_lo (by decide)) (by exact fmod_hi (by decide)) fun v hv => ?_
          have n2l := ne_new hl
          have n12 := ne_new h2
          have n1l : t1 ≠ l := fun z => by
            rw [← z, upd_ne n12, upd_same] at hl
            cases hl
          have fin : ∀ x : V, (tCall spName [] C8.E0 (tCons (tVar 0) tNil)) [some (.ref p), some (.int r)] (upd (upd (upd H1 t1 (.tup [.str "box"])) t2 (.tup [.str "name"])) l (.lst [.ref t1, .ref t2])) fun y H5 => (2 ≤ sizeLine) ∧ ∀ t, H5 t = none → Q (.ref t) (upd H5 t (.tup [x, y])) := fun x =>
            ⟨_, rfl, p, rfl, g2.2, fun z H5 _ g5 => ⟨(by decide), fun t ht => q _ _ ((g2.trans g5).new ht)⟩⟩
          rcases List.mem_cons.mp hv with rfl | hv
          · exact ⟨t1, _, _, .str "box", rfl, rfl, SqT.of (by rw [upd_ne n1l, upd_ne n12, upd_same]), atI_nat (j := 0) rfl, fin _⟩
          · rw [List.mem_singleton.mp hv]
            exact ⟨t2, _, _, .str "name", rfl, rfl, SqT.of (by rw [upd_ne n2l, upd_same]), atI_nat (j := 0) rfl, fin _⟩
end
end K27
set_option Elab.async false
set_option linter.all false
set_option maxRecDepth 100000
set_option maxHeartbeats 4000000
namespace K27
open PySem PySem.Spec PyProof.Rows L2
open C8 (Cal Def cal0 pe_c fnBody fnScope fnArgs)
theorem small300 {n : Int} (h0 : 0 ≤ n) (h : n < 1000000) : n.natAbs < 2 ^ 300 := by
  have h1 : n.natAbs < 1000000 := by omega
  have h2 : (1000000 : Nat) ≤ 2 ^ 300 := Nat.le_trans (by decide : (1000000 : Nat) ≤ 2 ^ 20) (Nat.pow_le_pow_right (by decide) (by decide))
  exact Nat.lt_of_lt_of_le h1 h2
/-! ### tuples stay -/
def TupS (H H' : Hp) : Prop := ∀ b xs, H b = some (.tup xs) → H' b = some (.tup xs)
theorem TupS.refl (H : Hp) : TupS H H := fun _ _ h => h
theorem TupS.trans {H H1 H2 : Hp} (a : TupS H H1) (b : TupS H1 H2) : TupS H H2 := fun c xs h => b c xs (a c xs h)
theorem TupS.same {H H' : Hp} (e : Same H H') : TupS H H' := fun b xs h => e _ _ h
theorem TupS.new {H : Hp} {q : Addr} {o : HO} (h : H q = none) : TupS H (upd H q o) := TupS.same (Same.new h)
theorem TupS.put {H : Hp} {q : Addr} {xs : List V} {o : HO} (h : H q = some (.lst xs)) : TupS H (upd H q o) := fun b ys e => by
  have n : b ≠ q := fun z => by
    rw [z, h] at e
    cases e
  rw [upd_ne n]
  exact e
theorem Go.tups {p : Addr} {H H' : Hp} (hp : Pt H p) (g : Go p H H') : TupS H H' := fun b xs e => by
  obtain ⟨x, y, n, a, _⟩ := hp
  refine g.1 b _ (fun z => ?_) e
  rw [z, a] at e
  cases e
theorem Go.fresh {p q : Addr} {H H1 : Hp} (a : Go p H H1) (h : H1 q = none) : H q = none := by
  cases c : H q with
  | none => rfl
  | some o => exact nomatch (h.symm.trans (a.1 q o (a.ne h) c) : Option.none = Option.some o)
theorem Go.new2 {p q : Addr} {H H1 : Hp} {o1 o2 : HO} (a : Go p H H1) (hq : H1 q = none) : Go p H (upd (upd H1 q o1) q o2) := by
  have e : upd (upd H1 q o1) q o2 = upd H1 q o2 := by
    funext c
    unfold upd
    by_cases h : c = q <;> simp [h]
  rw [e]
  exact a.new hq
/-- but two stay -/
def But2 (p D : Addr) (H H' : Hp) : Prop := ∀ b o, b ≠ p → b ≠ D → H b = some o → H' b = some o
section
variable {K : PySem.W.Frag}
/-- things drawn in a comprehension over a range -/
theorem lcR {p : Addr} {H : Hp} {n k : Nat} {te : TE} {σ : L2.St} {R9 : Addr → Hp → Prop} (T : Hp → V → Prop) (mono : ∀ {H H' : Hp} {v : V}, TupS H H' → T H v → T H' v) (hp : Pt H p) (hn : n ≤ 1000)
    (hstep : ∀ (i : Nat) (H' : Hp) (Q' : VK), i < n → Pt H' p → (∀ v H'', Go p H' H'' → T H'' v → Q' v H'') → te ((wipe σ [k]).set k (some (.int (0 + (i : Int))))) H' Q')
    (hd : ∀ D H' vs, D ≠ p → H D = none → H' D = some (.lst vs) → vs.length = n → (∀ v ∈ vs, T H' v) → Go p H H' → R9 D H') :
    ∀ D, H D = none → ∃ W : Nat → Nat → Hp → Prop, (∃ m, W 0 m (upd H D (.lst []))) ∧ ∀ i m H, W i m H →
      ((Itr 0 n).stop i H ∧ R9 D H) ∨ ((Itr 0 n).go i H ∧ ∃ Nx : Hp → Prop, (∀ H', Nx H' → ∃ m', m' < m ∧ W (i + 1) m' H') ∧ ∀ x H', (Itr 0 n).yld i H x H' → gName k x (wipe σ [k]) H' fun σ2 H2 => wipe σ2 [k] = wipe σ [k] ∧ tYes σ2 H2 fun b H3 =>
        if b = true then te σ2 H3 fun y H4 => ∃ acc, H4 D = some (.lst acc) ∧ acc.length < sizeLine ∧ Nx (upd H4 D (.lst (acc ++ [y]))) else Nx H3) := by
  intro D hD
  have nD := hp.ne hD
  refine lc_range (lo := 0) (n := n) (fun i H' => ∃ vs, H' D = some (.lst vs) ∧ vs.length = i ∧ (∀ v ∈ vs, T H' v) ∧ Go p H H')
    ⟨[], upd_same, rfl, (fun v hv => nomatch hv), But.new hD, hp.new hD⟩ (fun i H' hi hW => ?_) (fun H' hW => ?_)
  · obtain ⟨vs, hat, hl, hT, g⟩ := hW
    refine ⟨?_, ?_⟩
    · show ((wipe σ [k]).set k (some (.int (0 + (i : Int))))).set k none = wipe σ [k]
      rw [List.set_set]
      show ((σ.set k none).set k none) = σ.set k none
      rw [List.set_set]
    · unfold tYes; dsimp only
      rw [if_pos rfl]
      refine hstep i H' _ hi g.2 fun v H2 g2 tv => ?_
      have hat2 : H2 D = some (.lst vs) := g2.1 _ _ nD hat
      refine ⟨vs, hat2, by rw [hl, sizeLine_eq]; omega, vs ++ [v], upd_same, by rw [List.length_append, hl]; rfl, fun u hu => ?_, ?_⟩
      · rcases List.mem_append.mp hu with hu | hu
        · exact mono (TupS.put hat2) (mono (g2.tups g.2) (hT u hu))
        · rw [List.mem_singleton.mp hu]
          exact mono (TupS.put hat2) tv
      · refine ⟨fun b o nb hb => ?_, ?_⟩
        · rw [upd_ne (fun z => by rw [z, hD] at hb; cases hb)]
          exact g2.1 b o nb (g.1 b o nb hb)
        · obtain ⟨x, y, m, a, r⟩ := g2.2
          exact ⟨x, y, m, by rw [upd_ne nD.symm]; exact a, r⟩
  · obtain ⟨vs, hat, hl, hT, g⟩ := hW
    exact hd D H' vs nD hD hat hl hT g
/-- over a list -/
theorem lcL {p a : Addr} {xs : List V} {H : Hp} {k : Nat} {te : TE} {σ : L2.St} {R9 : Addr → Hp → Prop} (T : Hp → V → Prop) (mono : ∀ {H H' : Hp} {v : V}, TupS H H' → T H v → T H' v) (hp : Pt H p) (ha : H a = some (.lst xs)) (na : a ≠ p) (hn : xs.length ≤ 1000)
    (hstep : ∀ (i : Nat) (x : V) (H' : Hp) (Q' : VK), xs[i]? = some x → Pt H' p → (∀ v H'', Go p H' H'' → T H'' v → Q' v H'') → te ((wipe σ [k]).set k (some x)) H' Q')
    (hd : ∀ D H' vs, D ≠ p → H D = none → H' D = some (.lst vs) → vs.length = xs.length → (∀ v ∈ vs, T H' v) → Go p H H' → R9 D H') :
    ∀ D, H D = none → ∃ W : Nat → Nat → Hp → Prop, (∃ m, W 0 m (upd H D (.lst []))) ∧ ∀ i m H, W i m H →
      ((Itl K a).stop i H ∧ R9 D H) ∨ ((Itl K a).go i H ∧ ∃ Nx : Hp → Prop, (∀ H', Nx H' → ∃ m', m' < m ∧ W (i + 1) m' H') ∧ ∀ x H', (Itl K a).yld i H x H' → gName k x (wipe σ [k]) H' fun σ2 H2 => wipe σ2 [k] = wipe σ [k] ∧ tYes σ2 H2 fun b H3 =>
        if b = true then te σ2 H3 fun y H4 => ∃ acc, H4 D = some (.lst acc) ∧ acc.length < sizeLine ∧ Nx (upd H4 D (.lst (acc ++ [y]))) else Nx H3) := by
  intro D hD
  have nD := hp.ne hD
  refine lc_list (K := K) (a := a) (xs := xs) (fun i H' => ∃ vs, H' D = some (.lst vs) ∧ vs.length = i ∧ (∀ v ∈ vs, T H' v) ∧ Go p H H')
    ⟨[], upd_same, rfl, (fun v hv => nomatch hv), But.new hD, hp.new hD⟩ (fun i H' _ hW => ?_) (fun i x H' hi hW => ?_) (fun H' hW => ?_)
  · obtain ⟨vs, hat, hl, hT, g⟩ := hW
    exact SqL.of (g.at na ha)
  · obtain ⟨vs, hat, hl, hT, g⟩ := hW
    have hi' : i < xs.length := (List.getElem?_eq_some_iff.mp hi).1
    refine ⟨?_, ?_⟩
    · show ((wipe σ [k]).set k (some x)).set k none = wipe σ [k]
      rw [List.set_set]
      show ((σ.set k none).set k none) = σ.set k none
      rw [List.set_set]
    · unfold tYes; dsimp only
      rw [if_pos rfl]
      refine hstep i x H' _ hi g.2 fun v H2 g2 tv => ?_
      have hat2 : H2 D = some (.lst vs) := g2.1 _ _ nD hat
      refine ⟨vs, hat2, by rw [hl, sizeLine_eq]; omega, vs ++ [v], upd_same, by rw [List.length_append, hl]; rfl, fun u hu => ?_, ?_⟩
      · rcases List.mem_append.mp hu with hu | hu
        · exact mono (TupS.put hat2) (mono (g2.tups g.2) (hT u hu))
        · rw [List.mem_singleton.mp hu]
          exact mono (TupS.put hat2) tv
      · refine ⟨fun b o nb hb => ?_, ?_⟩
        · rw [upd_ne (fun z => by rw [z, hD] at hb; cases hb)]
          exact g2.1 b o nb (g.1 b o nb hb)
        · obtain ⟨x, y, m, a, r⟩ := g2.2
          exact ⟨x, y, m, by rw [upd_ne nD.symm]; exact a, r⟩
  · obtain ⟨vs, hat, hl, hT, g⟩ := hW
    exact hd D H' vs nD hD hat hl hT g
end
section
variable {P : Program} {w : World} {K : PySem.W.Frag} {mg : Str → Option Value} {base : Heap}
abbrev sLTerm : Stmt := topS 10
abbrev NLTerm : List Str := ["_law_pot_here", "_law_deep", "_law_way", "_law_words", "_law_word", "_law_wide", "_law_parts", "_law_k"]
theorem scLTerm : FnScope NLTerm ["_law_pot_here", "_law_deep"] (fnScope sLTerm) := ⟨rfl, rfl, rfl, by decide +kernel, rfl, by decide +kernel, by decide +kernel⟩
def wides : List (Key × V) := [(.inr "not", .int 1), (.inr "many", .int 1), (.inr "field", .int 1), (.inr "pick", .int 3), (.inr "at", .int 3)]
def words16 : List V := [.str "add", .str "less", .str "times", .str "under", .str "same", .str "both", .str "join", .str "not", .str "many", .str "pick", .str "at", .str "field", .str "list", .str "pick", .str "at", .str "field"]
def wideOk (v : V) : Bool := match v with
  | .str z => (match (valV (mergeK [] wides) (.inr z)).getD (.int 2) with | .int i => decide (0 ≤ i ∧ i ≤ 3) | _ => false)
  | _ => false
theorem words_ok : words16.all wideOk = true := by decide +kernel
theorem wide_of {v : V} (h : v ∈ words16) : ∃ z i, v = .str z ∧ (valV (mergeK [] wides) (.inr z)).getD (.int 2) = .int i ∧ 0 ≤ i ∧ i ≤ 3 := by
  have h2 := List.all_eq_true.mp words_ok v h
  unfold wideOk at h2
  split at h2
  · rename_i z
    split at h2
    · rename_i i e
      have h3 := of_decide_eq_true h2
      exact ⟨z, i, rfl, e, h3.1, h3.2⟩
    · cases h2
  · cases h2
theorem c_term (T : Tp mg) (c_LTake : Cal P w K mg base 1 "_law_take" spTake []) (c_LName : Cal P w K mg base 2 "_law_name" spName []) (c_LLeaf : Cal P w K mg base 11 "_law_leaf" spAny []) {f : Addr} {fd : FuncData} (D : Def K mg "_law_term" sLTerm f fd) (b : Binds K fd ["_law_pot_here", "_law_deep"] []) :
    ∀ n : Nat, Cal P w K mg base (11 + n) "_law_term" (spDeep n) []
  | 0 => cal_no _ (fun vs H Q E ⟨p, m, _, h, _⟩ => absurd h (Nat.not_lt_zero _)) D b
  | n + 1 => by
    have c_LTerm := c_term T c_LTake c_LName c_LLeaf D b n
    refine cal0 D b .nil scLTerm (fun vs H Q E h => ?_) (fun cdv A outer s H vs Q E hr h => ?_)
    · obtain ⟨p, m, rfl, _⟩ := h
      rfl
    · obtain ⟨p, m, rfl, hm, hp, q⟩ := h
      have nd := scLTerm.nd
      have hr := (show Room (11 + n) _ from hr)
      have hu1 : (A.deeper (envOfC "_law_term" (fnScope sLTerm) s.heap.objs.size f cdv)).units + 1 < cLine := by have := hr.un; omega
      refine ⟨_, (pss_cons (ps_set (i := 2) nd rfl (.inl rfl) (pe_c c_LTake hr (by omega) (by rfl) (pa_cons (pv 0) (pa_cons pe_int pa_nil))))
    (C8.pss_cut (ps_if (PW.pt (pw_or (pt_cmpR op_lt (pv 2) pe_int (nomark _)) (pw_or (pt_cmpR op_eq (pv 1) pe_int (nomark _)) (pw_or1 (pt_cmpR op_lt (pe_ix ix_list (pv 0) pe_int (fun _ _ => rfl)) pe_int (nomark _))))))
      (pss_one (ps_ret (pe_c c_LLeaf hr (by omega) (by rfl) (pa_cons (pv 0) pa_nil))))
      pss_nil)
    (pss_cons (ps_set (i := 3) nd rfl (.inl rfl) (pe_lst (pa_cons pe_str (pa_cons pe_str (pa_cons pe_str (pa_cons pe_str (pa_cons pe_str (pa_cons pe_str (pa_cons pe_str (pa_cons pe_str (pa_cons pe_str (pa_cons pe_str (pa_cons pe_str (pa_cons pe_str (pa_cons pe_str pa_nil)))))))))))))))
    (pss_cons (ps_set (i := 4) nd rfl (.inl rfl) (pe_ix ix_list (pe_op op_cat (pv 3) (pe_lst (pa_cons pe_str (pa_cons pe_str (pa_cons pe_str pa_nil))))) (pe_op op_sub (pv 2) pe_int) (fun _ _ => rfl)))
    (pss_cons (ps_set (i := 5) nd rfl (.inl rfl) (pe_dget2 hu1 (pe_disp (pps_cons pe_str pe_int (pps_cons pe_str pe_int (pps_cons pe_str pe_int (pps_cons pe_str pe_int (pps_cons pe_str pe_int pps_nil))))) rfl rfl (fun e => nomatch e) (by decide)) (pv 4) pe_int ⟨rfl, rfl, rfl, rfl⟩))
    (C8.pss_cut (ps_if (pt_cmpR op_eq (pv 4) pe_str (nomark _))
      (pss_one (ps_set (i := 5) nd rfl (.inl rfl) (pe_op op_add pe_int (pe_c c_LTake hr (by omega) (by rfl) (pa_cons (pv 0) (pa_cons pe_int pa_nil))))))
      pss_nil)
    (pss_cons (ps_asg (pe_op op_sub (pe_ix ix_list (pv 0) pe_int (fun _ _ => rfl)) (pv 5)) (pg_sub (pv 0) pe_int set_list))
    (pss_cons (ps_setLc (i := 6) (own := [("_law_k", 7)]) (g := gName 7) rfl nd rfl rfl (sw_true rfl rfl rfl (by decide +kernel)) (pi_range1 (by rfl) T.n_range (pa_cons (pv 5) pa_nil)) (blkOk_by (own := [("_law_k", 7)]) (N := NLTerm) (sc := fnScope sLTerm) (by decide +kernel)) (fun _ _ _ _ _ => pg_name (i := 7) nd rfl (Or.inl rfl)) (fun _ _ _ _ _ => pts_nil) (fun _ _ _ _ _ => (pe_c c_LTerm hr (by omega) (by rfl) (pa_cons (pv 0) (pa_cons (pe_op op_sub (pv 1) pe_int) pa_nil)))))
    (C8.pss_cut (ps_if (pt_cmpR op_eq (pv 4) pe_str (nomark _))
      (pss_one (ps_expr (pe_bm PySem.F.plainAttrs_list PySem.F.slot_list_append PySem.F.type_list_append mt_append (pv 6) (pa_cons (pe_c c_LName hr (by omega) (by rfl) (pa_cons (pv 0) pa_nil)) pa_nil))))
      pss_nil)
    (pss_one (ps_ret (pe_op op_catA (pe_tup (pa_cons (pv 4) pa_nil)) (pe_callTy call_tuple_of (by rfl) T.n_tuple (by decide +kernel) (pa_cons (pv 6) pa_nil)))))))))))))), ?_⟩
      refine ⟨_, rfl, p, 22, rfl, hp, by decide, by decide, fun r H1 r0 r1 g1 => ?_⟩
      refine ⟨fun σ' H' => σ' = [some (.ref p), some (.int m), some (.int r), none, none, none, none, none] ∧ 0 < m ∧ 6 ≤ r ∧ Go p H H', ?_, ?_⟩
      · have leaf : ∀ D : Ends, D.rt = Q → (tRet (tCall spAny [] C8.E0 (tCons (tVar 0) tNil))) D [some (.ref p), some (.int m), some (.int r), none, none, none, none, none] H1 := fun D hD => by
          refine ⟨_, rfl, p, rfl, g1.2, fun v H2 g2 => ?_⟩
          rw [hD]
          exact q v H2 (g1.trans g2)
        refine ⟨_, rfl, _, _, rfl, rfl, _, rfl, ite2 (fun e => iteT (leaf _ rfl)) (fun e => ?_)⟩
        refine ⟨_, rfl, rfl, _, rfl, ite2 (fun e2 => iteT (leaf _ rfl)) (fun e2 => ?_)⟩
        obtain ⟨x, y, k, hat, _⟩ := id g1.2
        refine ⟨_, rfl, _, _, _, _, rfl, rfl, SqL.of hat, atI_nat (j := 2) rfl, _, _, rfl, rfl, _, rfl, ite2 (fun e3 => leaf _ rfl) (fun e3 => ?_)⟩
        have e' : ¬ r < 6 := fun z => e (decide_eq_true z)
        have e2' : (m : Int) ≠ 0 := fun z => e2 (decide_eq_true (by rw [z]))
        exact ⟨rfl, by omega, by omega, g1⟩
      · rintro σ' H2 ⟨rfl, m0, r6, g2⟩
        refine ⟨(by show 13 ≤ sizeLine; decide), fun l1 h1 => ⟨_, rfl, (by show 3 ≤ sizeLine; decide), fun l2 h2 => ?_⟩⟩
        refine ⟨l1, l2, _, _, rfl, rfl, by rw [upd_ne (ne_new h2), upd_same], upd_same, (by show 16 ≤ sizeLine; decide), fun l3 h3 => ?_⟩
        refine ⟨_, rfl, _, _, rfl, rfl, ?_⟩
        refine ixR (xs := words16) upd_same (by omega) (by show r - 6 < 16; omega) fun v hv => ?_
        obtain ⟨z, wd, rfl, hw, w0, w3⟩ := wide_of hv
        refine fun d hd => ⟨upd_same, wides, rfl, (by decide), d, rfl, .inl ⟨_, .inl upd_same⟩, _, rfl, _, DGet.k (k := .inr z) upd_same, ?_⟩
        rw [hw]
        refine ⟨fun σ' H' => ∃ l z' wd', σ' = [some (.ref p), some (.int m), some (.int r), some (.ref l), some (.str z'), some (.int wd'), none, none] ∧ 0 ≤ wd' ∧ wd' ≤ 9 ∧ Go p H H', ?_, ?_⟩
        · refine ⟨_, rfl, rfl, _, rfl, ite2 (fun e => ?_) (fun e => ?_)⟩
          · refine ⟨_, rfl, p, 8, rfl, (Go.new2 (((g2.new h1).new h2).new h3) hd).2, by decide, by decide, fun r4 H4 r40 r41 g4 => ?_⟩
            exact ⟨_, _, rfl, rfl, l1, z, _, rfl, by omega, by omega, (Go.new2 (((g2.new h1).new h2).new h3) hd).trans g4⟩
          · exact ⟨l1, z, wd, rfl, w0, by omega, (Go.new2 (((g2.new h1).new h2).new h3) hd)⟩
        · rintro σ' H5 ⟨l, z', wd', rfl, wd0, wd9, g5⟩
          obtain ⟨x, y, k, hat, x0, y0, y1⟩ := id g5.2
          refine ⟨_, rfl, _, _, _, _, rfl, rfl, SqL.of hat, atI_nat (j := 2) rfl, _, rfl, _, _, rfl, rfl, _, rfl, _, _, _, 2, rfl, rfl, hat, rfl, ?_⟩
          have g6 : Go p H (upd H5 p (.lst [.int x, .int y, .int (k - wd')])) := Go.put g5.1 x0 y0 y1
          refine ⟨_, rfl, wd', rfl, by omega, by omega, ?_⟩
          refine lcR (n := wd'.toNat) (fun _ _ => True) (fun _ _ => trivial) g6.2 (by omega) (fun i H' Q' hi hp' hq => ?_) (fun Dl H' vs nD hD hat' hl _ g7 => ?_)
          · refine ⟨_, rfl, _, rfl, _, _, rfl, rfl, p, m - 1, ?_, by omega, hp', fun v H2 g => hq v H2 g trivial⟩
            show [V.ref p, V.int ((m : Int) - 1)] = _
            rw [show ((m - 1 : Nat) : Int) = (m : Int) - 1 by omega]
          · have g8 := g6.trans g7
            refine ⟨fun σ' H' => σ' = [some (.ref p), some (.int m), some (.int r), some (.ref l), some (.str z'), some (.int wd'), some (.ref Dl), none] ∧ (∃ us, H' Dl = some (.lst us) ∧ us.length ≤ 1000) ∧ Go p H H', ?_, ?_⟩
            · refine ⟨_, rfl, rfl, _, rfl, ite2 (fun e => ?_) (fun e => ?_)⟩
              · refine ⟨_, rfl, (.inl ⟨rfl, _, SqL.of hat'⟩), _, rfl, p, rfl, g8.2, fun y H9 _ g9 => ?_⟩
                have hat9 : H9 Dl = some (.lst vs) := g9.1 _ _ nD hat'
                refine ⟨Dl, vs, _, rfl, rfl, hat9, by rw [sizeLine_eq]; omega, rfl, ⟨_, upd_same, ?_⟩, ?_⟩
                · rw [List.length_append, List.length_singleton]
                  omega
                · have g10 := g8.trans g9
                  refine ⟨fun b o nb hb => ?_, ?_⟩
                  · by_cases e : b = Dl
                    · rw [e] at hb
                      exact nomatch (hD.symm.trans (g6.1 Dl _ (e ▸ nb) hb) : none = some o)
                    · rw [upd_ne e]
                      exact g10.1 b o nb hb
                  · obtain ⟨x, y, k, a, r⟩ := g10.2
                    exact ⟨x, y, k, by rw [upd_ne nD.symm]; exact a, r⟩
              · exact ⟨rfl, ⟨vs, hat', by omega⟩, g8⟩
            · rintro σ' H9 ⟨rfl, ⟨us, hus, ul⟩, g9⟩
              refine ⟨_, rfl, (by show 1 ≤ sizeLine; decide), fun t ht => ⟨_, rfl, Dl, us, rfl, .inl ⟨SqL.of (by rw [upd_ne (fun e => by rw [← e, hus] at ht; cases ht)]; exact hus), fun t2 ht2 => ?_⟩⟩⟩
              refine ⟨t, t2, [.str z'], us, rfl, rfl, SqT.of (by rw [upd_ne (ne_new ht2), upd_same]), SqT.of upd_same, ?_, (fun e => nomatch e), (fun _ e => ?_), fun _ _ t3 ht3 => ?_⟩
              · rw [sizeLine_eq]
                simp only [List.length_cons, List.length_nil]
                omega
              · exact q _ _ ((g9.new ht).new ht2)
              · exact q _ _ (((g9.new ht).new ht2).new ht3)
abbrev sLSome : Stmt := topS 11
abbrev NLSome : List Str := ["_law_pot_here", "_law_left"]
theorem scLSome : FnScope NLSome ["_law_pot_here", "_law_left"] (fnScope sLSome) := ⟨rfl, rfl, rfl, by decide +kernel, rfl, by decide +kernel, by decide +kernel⟩
def spSome : Sp := fun vs H Q _ => ∃ (p : Addr) (m : Int), vs = [.ref p, .int m] ∧ Pt H p ∧ ∀ v H', Go p H H' → Q v H'
theorem c_some (c_LTerm : Cal P w K mg base 22 "_law_term" (spDeep 11) []) {f : Addr} {fd : FuncData} (D : Def K mg "_law_some" sLSome f fd) (b : Binds K fd ["_law_pot_here", "_law_left"] []) : Cal P w K mg base 23 "_law_some" spSome [] := by
  refine cal0 D b .nil scLSome (fun vs H Q E h => ?_) (fun cdv A outer s H vs Q E hr h => ?_)
  · obtain ⟨p, m, rfl, _⟩ := h
    rfl
  · obtain ⟨p, m, rfl, hp, q⟩ := h
    refine ⟨_, (pss_cons (ps_asg (pv 1) (pg_sub (pv 0) pe_int set_list))
    (pss_one (ps_ret (pe_c c_LTerm hr (by decide) (by rfl) (pa_cons (pv 0) (pa_cons pe_int pa_nil)))))), ?_⟩
    obtain ⟨x, y, k, hat, x0, y0, y1⟩ := id hp
    refine ⟨_, rfl, _, rfl, _, _, _, 2, rfl, rfl, hat, rfl, ?_⟩
    have g : Go p H (upd H p (.lst [.int x, .int y, .int m])) := Go.put (But.refl p H) x0 y0 y1
    exact ⟨_, rfl, p, 10, rfl, by decide, g.2, fun v H2 g2 => q v H2 (g.trans g2)⟩
abbrev sLNames : Stmt := topS 12
abbrev NLNames : List Str := ["_law_pot_here", "_law_most", "_law_k"]
theorem scLNames : FnScope NLNames ["_law_pot_here", "_law_most"] (fnScope sLNames) := ⟨rfl, rfl, rfl, by decide +kernel, rfl, by decide +kernel, by decide +kernel⟩
def spNames : Sp := fun vs H Q _ => ∃ (p : Addr) (m : Nat), vs = [.ref p, .int m] ∧ m < 60 ∧ Pt H p ∧ ∀ (l : Addr) (ys : List Str) (H' : Hp), H l = none → H' l = some (.lst (ys.map V.str)) → ys.length ≤ m → ys.Nodup → sortedS ys = true → (∀ y ∈ ys, asc y = true) → l ≠ p → Go p H H' → Q (.ref l) H'
theorem ascV_of {v : V} (h : ascV v = true) : ∃ z, v = .str z ∧ asc z = true := by
  cases v <;> first | exact ⟨_, rfl, h⟩ | cases h
theorem strs_of : ∀ (vs : List V), (∀ v ∈ vs, ascV v = true) → ∃ zs : List Str, vs = zs.map V.str ∧ ∀ z ∈ zs, asc z = true
  | [], _ => ⟨[], rfl, fun z hz => nomatch hz⟩
  | v :: vs, h => by
    obtain ⟨z, rfl, ha⟩ := ascV_of (h v List.mem_cons_self)
    obtain ⟨zs, e, ha2⟩ := strs_of vs fun u hu => h u (List.mem_cons_of_mem _ hu)
    exact ⟨z :: zs, by rw [e]; rfl, fun y hy => (List.mem_cons.mp hy).elim (fun c => c ▸ ha) (ha2 y)⟩
theorem c_names (T : Tp mg) (c_LTake : Cal P w K mg base 1 "_law_take" spTake []) (c_LName : Cal P w K mg base 2 "_law_name" spName []) {f : Addr} {fd : FuncData} (D : Def K mg "_law_names" sLNames f fd) (b : Binds K fd ["_law_pot_here", "_law_most"] []) : Cal P w K mg base 3 "_law_names" spNames [] := by
  refine cal0 D b .nil scLNames (fun vs H Q E h => ?_) (fun cdv A outer s H vs Q E hr h => ?_)
  · obtain ⟨p, m, rfl, _⟩ := h
    rfl
  · obtain ⟨p, m, rfl, hm, hp, q⟩ := h
    have nd := scLNames.nd
    refine ⟨_, (pss_one (ps_ret (pe_callB (cr_sortedX rfl) (by rfl) T.n_sorted (by decide +kernel) (pa_cons (pe_callTy (cr_setS rfl) (by rfl) T.n_set (by decide +kernel) (pa_cons (pe_lc (own := [("_law_k", 2)]) (g := gName 2) (by rfl) nd (pi_range1 (by rfl) T.n_range (pa_cons (pe_c c_LTake hr (by decide) (by rfl) (pa_cons (pv 0) (pa_cons (pe_op op_add (pv 1) pe_int) pa_nil))) pa_nil)) (blkOk_by (own := [("_law_k", 2)]) (N := NLNames) (sc := fnScope sLNames) (by decide +kernel)) (fun _ _ _ _ _ => pg_name (i := 2) nd rfl (Or.inl rfl)) (fun _ _ _ _ _ => pts_nil) (fun _ _ _ _ _ => (pe_c c_LName hr (by decide) (by rfl) (pa_cons (pv 0) pa_nil)))) pa_nil)) pa_nil)))), ?_⟩
    refine ⟨_, rfl, _, rfl, _, _, rfl, rfl, p, (m : Int) + 1, rfl, hp, by omega, small300 (by omega) (by omega), fun r H1 r0 r1 g1 => ?_⟩
    refine ⟨r, rfl, by omega, by omega, ?_⟩
    refine lcR (n := r.toNat) (fun _ v => ascV v = true) (fun _ h => h) g1.2 (by omega) (fun i H' Q' hi hp' hq => ?_) (fun Dl H' vs nD hD hat hl ht g2 => ?_)
    · exact ⟨_, rfl, p, rfl, hp', fun z H2 ha g => hq _ H2 g ha⟩
    · obtain ⟨zs, rfl, hza⟩ := strs_of vs ht
      rw [List.length_map] at hl
      refine ⟨Dl, zs, rfl, SqL.of hat, by omega, fun a ha => ?_⟩
      have hdl := dd_len zs []
      have hdl' : (dd zs).length ≤ zs.length := by
        simp only [List.length_nil] at hdl
        show (zs.foldl more []).length ≤ _
        omega
      refine ⟨a, dd zs, rfl, upd_same, by omega, fun ys l pm so hl2 => ?_⟩
      refine q l ys _ (((g1.trans g2).new ha).fresh hl2) upd_same (by rw [pm.length_eq]; omega) (pm.nodup_iff.mpr (dd_nodup zs [] List.nodup_nil)) so (fun y hy => ((dd_mem zs [] y).mp (pm.mem_iff.mp hy)).elim (fun c => nomatch c) (hza y)) (((g1.trans g2).new ha).ne hl2) (((g1.trans g2).new ha).new hl2)
end
end K27
set_option Elab.async false
set_option linter.all false
set_option maxRecDepth 100000
set_option maxHeartbeats 4000000
namespace K27
open PySem PySem.Spec PyProof.Rows L2
open C8 (Cal Def cal0 pe_c fnBody fnScope fnArgs)
/-- a row: its word ahead; a mark's name -/
def RowOk (H : Hp) (v : V) : Prop := ∃ (a : Addr) (z : Str) (tl : List V), v = .ref a ∧ H a = some (.tup (.str z :: tl)) ∧ (z = "mark" → ∃ m : Str, tl = [.str m])
theorem RowOk.mono {H H' : Hp} {v : V} (e : TupS H H') (h : RowOk H v) : RowOk H' v := let ⟨a, z, tl, h1, h2, r⟩ := h; ⟨a, z, tl, h1, e _ _ h2, r⟩
theorem row_plain {H : Hp} {t : Addr} {z : Str} {tl : List V} (h1 : z ≠ "mark") : RowOk (upd H t (.tup (.str z :: tl))) (.ref t) := ⟨t, z, tl, rfl, upd_same, fun e => absurd e h1⟩
def noMark : V → Bool | .str z => decide (z ≠ "mark") | _ => false
theorem noMark_of {xs : List V} (h : xs.all noMark = true) {z : Str} (hv : V.str z ∈ xs) : z ≠ "mark" := of_decide_eq_true (List.all_eq_true.mp h _ hv)
theorem eq_str {z y : Str} (e : decide (V.str z = V.str y) = true) : z = y := V.str.inj (of_decide_eq_true e)
theorem ne_str {z y : Str} (e : ¬ decide (V.str z = V.str y) = true) : z ≠ y := fun h => e (decide_eq_true (by rw [h]))
section
variable {P : Program} {w : World} {K : PySem.W.Frag} {mg : Str → Option Value} {base : Heap}
abbrev sLRow : Stmt := topS 14
abbrev NLRow : List Str := ["_law_pot_here", "_law_left", "_law_rows", "_law_word", "_law_fields", "_law_terms", "_law_name_here", "_law_k"]
theorem scLRow : FnScope NLRow ["_law_pot_here", "_law_left", "_law_rows"] (fnScope sLRow) := ⟨rfl, rfl, rfl, by decide +kernel, rfl, by decide +kernel, by decide +kernel⟩
def spRow : Sp := fun vs H Q _ => ∃ (p : Addr) (m : Int), vs = [.ref p, .int 3, .int m] ∧ 0 < m ∧ m < 1000 ∧ Pt H p ∧ ∀ v H', RowOk H' v → Go p H H' → Q v H'
theorem c_row (T : Tp mg) (c_LTake : Cal P w K mg base 1 "_law_take" spTake []) (c_LName : Cal P w K mg base 2 "_law_name" spName []) (c_LNames : Cal P w K mg base 3 "_law_names" spNames []) (c_LSome : Cal P w K mg base 23 "_law_some" spSome [])
    {f : Addr} {fd : FuncData} (D : Def K mg "_law_row" sLRow f fd) (b : Binds K fd ["_law_pot_here", "_law_left", "_law_rows"] []) : Cal P w K mg base 24 "_law_row" spRow [] := by
  refine cal0 D b .nil scLRow (fun vs H Q E h => ?_) (fun cdv A outer s H vs Q E hr h => ?_)
  · obtain ⟨p, m, rfl, _⟩ := h
    rfl
  · obtain ⟨p, m, rfl, m0, m1, hp, q⟩ := h
    have nd := scLRow.nd
    refine ⟨_, (pss_cons (ps_set (i := 3) nd rfl (.inl rfl) (pe_ix ix_list (pe_lst (pa_cons pe_str (pa_cons pe_str (pa_cons pe_str (pa_cons pe_str (pa_cons pe_str (pa_cons pe_str (pa_cons pe_str (pa_cons pe_str (pa_cons pe_str pa_nil)))))))))) (pe_c c_LTake hr (by decide) (by rfl) (pa_cons (pv 0) (pa_cons pe_int pa_nil))) (fun _ _ => rfl)))
    (pss_cons (ps_if (pt_cmpR op_in_seq (pv 3) (pe_lst (pa_cons pe_str (pa_cons pe_str pa_nil))) (by rfl))
      (pss_one (ps_ret (pe_tup (pa_cons (pv 3) (pa_cons (pe_c c_LName hr (by decide) (by rfl) (pa_cons (pv 0) pa_nil)) (pa_cons (pe_c c_LSome hr (by decide) (by rfl) (pa_cons (pv 0) (pa_cons (pv 1) pa_nil))) pa_nil))))))
      pss_nil)
    (pss_cons (ps_if (pt_cmpR op_eq (pv 3) pe_str (nomark _))
      (pss_one (ps_ret (pe_tup (pa_cons (pv 3) (pa_cons (pe_c c_LSome hr (by decide) (by rfl) (pa_cons (pv 0) (pa_cons (pv 1) pa_nil))) (pa_cons (pe_c c_LName hr (by decide) (by rfl) (pa_cons (pv 0) pa_nil)) (pa_cons (pe_c c_LSome hr (by decide) (by rfl) (pa_cons (pv 0) (pa_cons (pv 1) pa_nil))) pa_nil)))))))
      pss_nil)
    (pss_cons (ps_if (pt_cmpR op_eq (pv 3) pe_str (nomark _))
      (pss_cons (ps_set (i := 4) nd rfl (.inl rfl) (pe_callTy call_tuple_of (by rfl) T.n_tuple (by decide +kernel) (pa_cons (pe_lc (own := [("_law_name_here", 6)]) (g := gName 6) (by rfl) nd (pi_list (pe_c c_LNames hr (by decide) (by rfl) (pa_cons (pv 0) (pa_cons pe_int pa_nil)))) (blkOk_by (own := [("_law_name_here", 6)]) (N := NLRow) (sc := fnScope sLRow) (by decide +kernel)) (fun _ _ _ _ _ => pg_name (i := 6) nd rfl (Or.inl rfl)) (fun _ _ _ _ _ => pts_nil) (fun _ _ _ _ _ => (pe_tup (pa_cons (pv 6) (pa_cons (pe_c c_LSome hr (by decide) (by rfl) (pa_cons (pv 0) (pa_cons (pe_op op_fdivW (pv 1) pe_int) pa_nil))) pa_nil))))) pa_nil)))
    (pss_one (ps_ret (pe_tup (pa_cons (pv 3) (pa_cons (pe_c c_LName hr (by decide) (by rfl) (pa_cons (pv 0) pa_nil)) (pa_cons (pe_c c_LName hr (by decide) (by rfl) (pa_cons (pv 0) pa_nil)) (pa_cons (pv 4) pa_nil))))))))
      pss_nil)
    (pss_cons (ps_if (pt_cmpR op_eq (pv 3) pe_str (nomark _))
      (pss_cons (ps_set (i := 5) nd rfl (.inl rfl) (pe_callTy call_tuple_of (by rfl) T.n_tuple (by decide +kernel) (pa_cons (pe_lc (own := [("_law_k", 7)]) (g := gName 7) (by rfl) nd (pi_range1 (by rfl) T.n_range (pa_cons (pe_c c_LTake hr (by decide) (by rfl) (pa_cons (pv 0) (pa_cons pe_int pa_nil))) pa_nil)) (blkOk_by (own := [("_law_k", 7)]) (N := NLRow) (sc := fnScope sLRow) (by decide +kernel)) (fun _ _ _ _ _ => pg_name (i := 7) nd rfl (Or.inl rfl)) (fun _ _ _ _ _ => pts_nil) (fun _ _ _ _ _ => (pe_c c_LSome hr (by decide) (by rfl) (pa_cons (pv 0) (pa_cons (pe_op op_fdivW (pv 1) pe_int) pa_nil))))) pa_nil)))
    (pss_one (ps_ret (pe_tup (pa_cons (pv 3) (pa_cons (pe_c c_LName hr (by decide) (by rfl) (pa_cons (pv 0) pa_nil)) (pa_cons (pe_c c_LName hr (by decide) (by rfl) (pa_cons (pv 0) pa_nil)) (pa_cons (pv 5) pa_nil))))))))
      pss_nil)
    (pss_cons (ps_if (pt_cmpR op_eq (pv 3) pe_str (nomark _))
      (pss_one (ps_ret (pe_tup (pa_cons (pv 3) (pa_cons (pe_c c_LTake hr (by decide) (by rfl) (pa_cons (pv 0) (pa_cons (pv 2) pa_nil))) pa_nil)))))
      pss_nil)
    (pss_cons (ps_if (pt_cmpR op_eq (pv 3) pe_str (nomark _))
      (pss_one (ps_ret (pe_tup (pa_cons (pv 3) (pa_cons (pe_c c_LSome hr (by decide) (by rfl) (pa_cons (pv 0) (pa_cons (pv 1) pa_nil))) (pa_cons (pe_c c_LTake hr (by decide) (by rfl) (pa_cons (pv 0) (pa_cons (pv 2) pa_nil))) pa_nil))))))
      pss_nil)
    (pss_one (ps_ret (pe_tup (pa_cons (pv 3) (pa_cons (pe_c c_LSome hr (by decide) (by rfl) (pa_cons (pv 0) (pa_cons (pv 1) pa_nil))) pa_nil)))))))))))), ?_⟩
    refine ⟨(by show 9 ≤ sizeLine; decide), fun l hl => ⟨_, rfl, p, 9, rfl, hp.new hl, by decide, by decide, fun r H1 r0 r1 g1 => ?_⟩⟩
    refine ixR (g1.at (hp.ne hl) upd_same) r0 (by exact r1) fun v hv => ?_
    obtain ⟨z, rfl⟩ := txts (by rfl) hv
    have hz := noMark_of (by decide +kernel) hv
    have g2 : Go p H H1 := ((Go.refl hp).new hl).trans g1
    refine ⟨_, rfl, (by show 2 ≤ sizeLine; decide), fun l2 hl2 => ?_⟩
    have g3 := g2.new (o := .lst [.str "let", .str "put"]) hl2
    refine ⟨l2, _, rfl, .inl (SqL.of upd_same), rfl, rfl, _, rfl, ite2 (fun e => ?_) (fun e => ?_)⟩
    · have e' : inV (.str z) [.str "let", .str "put"] = true := e
      refine ⟨_, rfl, _, rfl, p, rfl, g3.2, fun y H4 _ g4 => ⟨_, rfl, _, rfl, p, 3, rfl, g4.2, fun u H5 g5 => ⟨(by show 3 ≤ sizeLine; decide), fun t ht => ?_⟩⟩⟩
      exact q _ _ (row_plain hz) (((g3.trans g4).trans g5).new ht)
    · refine ⟨_, rfl, rfl, _, rfl, ite2 (fun e => ?_) (fun e2 => ?_)⟩
      · have e' := eq_str e
        subst e'
        refine ⟨_, rfl, _, rfl, _, rfl, p, 3, rfl, g3.2, fun y H4 g4 => ⟨_, rfl, p, rfl, g4.2, fun u H5 _ g5 => ⟨_, rfl, _, rfl, p, 3, rfl, g5.2, fun u2 H6 g6 => ⟨(by show 4 ≤ sizeLine; decide), fun t ht => ?_⟩⟩⟩⟩
        exact q _ _ (row_plain hz) ((((g3.trans g4).trans g5).trans g6).new ht)
      · refine ⟨_, rfl, rfl, _, rfl, ite2 (fun e => ?_) (fun e3 => ?_)⟩
        · have e' := eq_str e
          subst e'
          refine ⟨_, rfl, p, 8, rfl, by decide, g3.2, fun l4 ys H4 _ hl4 yl _ _ _ n4 g4 => ⟨l4, rfl, ⟨_, SqL.of hl4⟩, ?_⟩⟩
          refine lcL (K := K) (xs := ys.map V.str) (fun _ _ => True) (fun _ _ => trivial) g4.2 hl4 n4 (by rw [List.length_map]; omega) (fun i x H' Q' hx hp' hq => ?_) (fun Dl H' vs nD hD hat hvl _ g5 => ?_)
          · refine ⟨_, rfl, _, rfl, _, rfl, _, _, rfl, rfl, wide_div (b := 64) (by decide) (by decide) (by decide) (by decide), p, _, rfl, hp', fun u H2 g => ⟨(by show 2 ≤ sizeLine; decide), fun t ht => hq _ _ (g.new ht) trivial⟩⟩
          · refine ⟨Dl, vs, rfl, .inl ⟨SqL.of hat, fun t2 ht2 => ?_⟩⟩
            have g6 := ((g3.trans g4).trans g5).new (o := .tup vs) ht2
            refine ⟨_, rfl, _, rfl, p, rfl, g6.2, fun y H7 _ g7 => ⟨_, rfl, p, rfl, g7.2, fun y2 H8 _ g8 => ⟨_, rfl, (by show 4 ≤ sizeLine; decide), fun t ht => ?_⟩⟩⟩
            exact q _ _ (row_plain hz) (((g6.trans g7).trans g8).new ht)
        · refine ⟨_, rfl, rfl, _, rfl, ite2 (fun e => ?_) (fun e4 => ?_)⟩
          · have e' := eq_str e
            subst e'
            refine ⟨_, rfl, p, 9, rfl, g3.2, by decide, by decide, fun r4 H4 r40 r41 g4 => ⟨r4, rfl, by omega, by omega, ?_⟩⟩
            refine lcR (n := r4.toNat) (fun _ _ => True) (fun _ _ => trivial) g4.2 (by omega) (fun i H' Q' hi hp' hq => ?_) (fun Dl H' vs nD hD hat hvl _ g5 => ?_)
            · exact ⟨_, rfl, _, rfl, _, _, rfl, rfl, wide_div (b := 64) (by decide) (by decide) (by decide) (by decide), p, _, rfl, hp', fun u H2 g => hq _ _ g trivial⟩
            · refine ⟨Dl, vs, rfl, .inl ⟨SqL.of hat, fun t2 ht2 => ?_⟩⟩
              have g6 := ((g3.trans g4).trans g5).new (o := .tup vs) ht2
              refine ⟨_, rfl, _, rfl, p, rfl, g6.2, fun y H7 _ g7 => ⟨_, rfl, p, rfl, g7.2, fun y2 H8 _ g8 => ⟨_, rfl, (by show 4 ≤ sizeLine; decide), fun t ht => ?_⟩⟩⟩
              exact q _ _ (row_plain hz) (((g6.trans g7).trans g8).new ht)
          · refine ⟨_, rfl, rfl, _, rfl, ite2 (fun e => ?_) (fun e5 => ?_)⟩
            · refine ⟨_, rfl, _, rfl, _, rfl, p, m, rfl, g3.2, m0, small300 (by omega) (by omega), fun r4 H4 r40 r41 g4 => ⟨(by show 2 ≤ sizeLine; decide), fun t ht => ?_⟩⟩
              have e' := eq_str e
              exact q _ _ (row_plain hz) ((g3.trans g4).new ht)
            · refine ⟨_, rfl, rfl, _, rfl, ite2 (fun e => ?_) (fun e6 => ?_)⟩
              · refine ⟨_, rfl, _, rfl, _, rfl, p, 3, rfl, g3.2, fun y H4 g4 => ⟨_, rfl, _, rfl, p, m, rfl, g4.2, m0, small300 (by omega) (by omega), fun r5 H5 r50 r51 g5 => ⟨(by show 3 ≤ sizeLine; decide), fun t ht => ?_⟩⟩⟩
                have e' := eq_str e
                exact q _ _ (row_plain hz) (((g3.trans g4).trans g5).new ht)
              · refine ⟨_, rfl, _, rfl, _, rfl, p, 3, rfl, g3.2, fun y H4 g4 => ⟨(by show 2 ≤ sizeLine; decide), fun t ht => ?_⟩⟩
                exact q _ _ (row_plain hz) ((g3.trans g4).new ht)
end
end K27
set_option Elab.async false
set_option linter.all false
set_option maxRecDepth 100000
set_option maxHeartbeats 4000000
namespace K27
open PySem PySem.Spec PyProof.Rows L2
open C8 (Cal Def cal0 pe_c fnBody fnScope fnArgs)
theorem But2.of {p m : Addr} {H H' : Hp} (h : But p H H') : But2 p m H H' := fun b o n _ e => h b o n e
theorem But2.trans {p m : Addr} {H H1 H2 : Hp} (a : But2 p m H H1) (b : But2 p m H1 H2) : But2 p m H H2 := fun c o n n2 e => b c o n n2 (a c o n n2 e)
theorem But2.new {p m q : Addr} {H : Hp} {o : HO} (h : H q = none) : But2 p m H (upd H q o) := But2.of (But.new h)
def RowsAll (H : Hp) (rs : List V) : Prop := ∀ v ∈ rs, RowOk H v
theorem RowsAll.mono {H H' : Hp} {rs : List V} (e : TupS H H') (h : RowsAll H rs) : RowsAll H' rs := fun v hv => (h v hv).mono e
theorem RowsAll.set {H : Hp} {rs : List V} {j : Nat} {v : V} (h : RowsAll H rs) (hv : RowOk H v) : RowsAll H (rs.set j v) := fun u hu => by
  rcases List.mem_or_eq_of_mem_set hu with z | z
  · exact h u z
  · rw [z]; exact hv
theorem ixN_at {n j : Nat} (hj : j < n) : ixN n (j : Int) = some j := by
  unfold ixN
  rw [if_pos (by omega), if_pos (by omega)]
  rfl
theorem ixN_m1 {n : Nat} (h : 0 < n) : ixN n (-1) = some (n - 1) := by
  unfold ixN
  rw [if_neg (by decide), if_pos (by omega)]
  congr 1
  omega
theorem flat_strs : ∀ ms : List Str, (ms.map V.str).all flatV = true
  | [] => rfl
  | m :: ms => by
    rw [List.map_cons, List.all_cons, flat_strs ms]
    rfl
section
variable {P : Program} {w : World} {K : PySem.W.Frag} {mg : Str → Option Value} {base : Heap}
abbrev sLPart : Stmt := topS 15
abbrev NLPart : List Str := ["_law_pot_here", "_law_marks_here", "_law_left", "_law_most", "_law_takes", "_law_many", "_law_rows", "_law_k", "_law_mark", "_law_name_here"]
theorem scLPart : FnScope NLPart ["_law_pot_here", "_law_marks_here", "_law_left", "_law_most"] (fnScope sLPart) := ⟨rfl, rfl, rfl, by decide +kernel, rfl, by decide +kernel, by decide +kernel⟩
def spPart : Sp := fun vs H Q _ => ∃ (p mk : Addr) (most : Int) (ms0 : List Str), vs = [.ref p, .ref mk, .int 3, .int most] ∧ 0 < most ∧ most ≤ 60 ∧ Pt H p ∧ H mk = some (.lst (ms0.map V.str)) ∧ ms0.length ≤ 5000 ∧ mk ≠ p ∧
  ∀ (t : Addr) (H' : Hp) (x y : V) (a : Addr) (rs : List V) (ms : List Str), H' t = some (.tup [x, y, .ref a]) → H' a = some (.tup rs) → RowsAll H' rs → rs.length ≤ 1000 → H' mk = some (.lst (ms.map V.str)) → ms.length ≤ ms0.length + 100 → Pt H' p → But2 p mk H H' → Q (.ref t) H'
theorem c_part (T : Tp mg) (c_LTake : Cal P w K mg base 1 "_law_take" spTake []) (c_LName : Cal P w K mg base 2 "_law_name" spName []) (c_LKind : Cal P w K mg base 10 "_law_kind" (spDeep 8) []) (c_LNames : Cal P w K mg base 3 "_law_names" spNames []) (c_LSome : Cal P w K mg base 23 "_law_some" spSome []) (c_LRow : Cal P w K mg base 24 "_law_row" spRow [])
    {f : Addr} {fd : FuncData} (D : Def K mg "_law_part" sLPart f fd) (b : Binds K fd ["_law_pot_here", "_law_marks_here", "_law_left", "_law_most"] []) : Cal P w K mg base 25 "_law_part" spPart [] := by
  refine cal0 D b .nil scLPart (fun vs H Q E h => ?_) (fun cdv A outer s H vs Q E hr h => ?_)
  · obtain ⟨p, mk, most, ms0, rfl, _⟩ := h
    rfl
  · obtain ⟨p, mk, most, ms0, rfl, mo0, mo1, hp, hmk, hm0, nmk, q⟩ := h
    have nd := scLPart.nd
    refine ⟨_, (pss_cons (ps_setLc (i := 4) (own := [("_law_name_here", 9)]) (g := gName 9) rfl nd rfl rfl (sw_true rfl rfl rfl (by decide +kernel)) (pi_list (pe_c c_LNames hr (by decide) (by rfl) (pa_cons (pv 0) (pa_cons pe_int pa_nil)))) (blkOk_by (own := [("_law_name_here", 9)]) (N := NLPart) (sc := fnScope sLPart) (by decide +kernel)) (fun _ _ _ _ _ => pg_name (i := 9) nd rfl (Or.inl rfl)) (fun _ _ _ _ _ => pts_nil) (fun _ _ _ _ _ => (pe_tup (pa_cons (pv 9) (pa_cons (pe_c c_LKind hr (by decide) (by rfl) (pa_cons (pv 0) (pa_cons pe_int pa_nil))) pa_nil)))))
    (C8.pss_cut (ps_if (pt_cmpR op_eq (pe_c c_LTake hr (by decide) (by rfl) (pa_cons (pv 0) (pa_cons pe_int pa_nil))) pe_int (nomark _))
      (pss_one (ps_set (i := 4) nd rfl (.inl rfl) (pe_revL (pv 4))))
      pss_nil)
    (pss_cons (ps_set (i := 5) nd rfl (.inr rfl) (pe_op op_add pe_int (pe_c c_LTake hr (by decide) (by rfl) (pa_cons (pv 0) (pa_cons (pe_ix ix_list (pe_lst (pa_cons pe_int (pa_cons (pv 3) pa_nil))) (pe_op op_fdivW (pe_c c_LTake hr (by decide) (by rfl) (pa_cons (pv 0) (pa_cons pe_int pa_nil))) pe_int) (fun _ _ => rfl)) pa_nil)))))
    (pss_cons (ps_setLc (i := 6) (own := [("_law_k", 7)]) (g := gName 7) rfl nd rfl rfl (sw_true rfl rfl rfl (by decide +kernel)) (pi_range1 (by rfl) T.n_range (pa_cons (pv 5) pa_nil)) (blkOk_by (own := [("_law_k", 7)]) (N := NLPart) (sc := fnScope sLPart) (by decide +kernel)) (fun _ _ _ _ _ => pg_name (i := 7) nd rfl (Or.inl rfl)) (fun _ _ _ _ _ => pts_nil) (fun _ _ _ _ _ => (pe_c c_LRow hr (by decide) (by rfl) (pa_cons (pv 0) (pa_cons (pv 2) (pa_cons (pv 5) pa_nil))))))
    (pss_cons (ps_for PassesOwn.never rfl (pi_range1 (by rfl) T.n_range (pa_cons (pe_op op_sub (pv 5) pe_int) pa_nil)) (pg_name (i := 7) nd rfl (.inl rfl))
      (pss_cons (ps_set (i := 8) nd rfl (.inl rfl) (pe_c c_LName hr (by decide) (by rfl) (pa_cons (pv 0) pa_nil)))
    (pss_one (ps_if (PW.pt (pw_and (pt_cmpR op_notIn_seq (pv 8) (pv 1) (by rfl)) (pw_and1 (pt_cmpR op_eq (pe_c c_LTake hr (by decide) (by rfl) (pa_cons (pv 0) (pa_cons pe_int pa_nil))) pe_int (nomark _)))))
      (pss_cons (ps_asg (pe_tup (pa_cons pe_str (pa_cons (pv 8) pa_nil))) (pg_sub (pv 6) (pv 7) set_list))
    (pss_one (ps_expr (pe_bm PySem.F.plainAttrs_list PySem.F.slot_list_append PySem.F.type_list_append mt_append (pv 1) (pa_cons (pv 8) pa_nil)))))
      pss_nil))))
    (pss_cons (ps_asg (pe_ix ix_list (pe_lst (pa_cons (pe_tup (pa_cons pe_str (pa_cons (pe_c c_LTake hr (by decide) (by rfl) (pa_cons (pv 0) (pa_cons (pv 5) pa_nil))) pa_nil))) (pa_cons (pe_tup (pa_cons pe_str (pa_cons (pe_c c_LSome hr (by decide) (by rfl) (pa_cons (pv 0) (pa_cons (pv 2) pa_nil))) pa_nil))) pa_nil))) (pe_c c_LTake hr (by decide) (by rfl) (pa_cons (pv 0) (pa_cons pe_int pa_nil))) (fun _ _ => rfl)) (pg_sub (pv 6) (pe_un un_neg pe_int) set_list))
    (pss_one (ps_ret (pe_tup (pa_cons (pe_callTy call_tuple_of (by rfl) T.n_tuple (by decide +kernel) (pa_cons (pv 4) pa_nil)) (pa_cons (pe_c c_LKind hr (by decide) (by rfl) (pa_cons (pv 0) (pa_cons pe_int pa_nil))) (pa_cons (pe_callTy call_tuple_of (by rfl) T.n_tuple (by decide +kernel) (pa_cons (pv 6) pa_nil)) pa_nil)))))))))))), ?_⟩
    refine ⟨_, rfl, p, 7, rfl, by decide, hp, fun l0 ys H1 _ hl0 yl _ _ _ n0 g1 => ⟨l0, rfl, ⟨_, SqL.of hl0⟩, ?_⟩⟩
    have hmk1 : H1 mk = some (.lst (ms0.map V.str)) := g1.at nmk hmk
    refine lcL (K := K) (xs := ys.map V.str) (fun _ _ => True) (fun _ _ => trivial) g1.2 hl0 n0 (by rw [List.length_map]; omega) (fun i x H' Q' hx hp' hq => ?_) (fun l4 H2 us n4 hD4 hat4 hul _ g2 => ?_)
    · exact ⟨_, rfl, _, rfl, p, 7, rfl, by decide, hp', fun u H2 g => ⟨(by show 2 ≤ sizeLine; decide), fun t ht => hq _ _ (g.new ht) trivial⟩⟩
    have hmk2 : H2 mk = some (.lst (ms0.map V.str)) := g2.at nmk hmk1
    have n4m : l4 ≠ mk := fun z => by rw [z, hmk1] at hD4; cases hD4
    have ul : us.length ≤ 100 := by rw [hul, List.length_map]; omega
    have g12 := g1.trans g2
    refine ⟨fun σ' H' => ∃ (l : Addr) (us : List V), σ' = [some (.ref p), some (.ref mk), some (.int 3), some (.int most), some (.ref l), none, none, none, none, none] ∧ H' l = some (.lst us) ∧ us.length ≤ 100 ∧ l ≠ p ∧ l ≠ mk ∧ H' mk = some (.lst (ms0.map V.str)) ∧ Go p H H', ?_, ?_⟩
    · refine ⟨_, rfl, p, 2, rfl, g2.2, by decide, by decide, fun r H3 r0 r1 g3 => ⟨rfl, _, rfl, ite2 (fun e => ?_) (fun e => ?_)⟩⟩
      · refine ⟨_, rfl, l4, us, rfl, SqL.of (g3.at n4 hat4), fun l hl => ?_⟩
        have g4 := (g12.trans g3).new (o := .lst us.reverse) hl
        refine ⟨l, us.reverse, rfl, upd_same, by rw [List.length_reverse]; exact ul, (g12.trans g3).ne hl, fun z => ?_, ?_, g4⟩
        · rw [z, g3.at nmk hmk2] at hl
          cases hl
        · rw [upd_ne (fun z => by rw [← z, g3.at nmk hmk2] at hl; cases hl)]
          exact g3.at nmk hmk2
      · exact ⟨l4, us, rfl, g3.at n4 hat4, ul, n4, n4m, g3.at nmk hmk2, g12.trans g3⟩
    · rintro σ' H3 ⟨l, us, rfl, hl, ul, nl, nlm, hmk3, g3⟩
      refine ⟨_, rfl, _, rfl, (by show 2 ≤ sizeLine; decide), fun l5 h5 => ?_⟩
      have g4 := g3.new (o := .lst [.int 6, .int most]) h5
      refine ⟨_, rfl, p, 4, rfl, g4.2, by decide, by decide, fun r H5 r0 r1 g5 => ⟨_, _, rfl, rfl, wide_div (b := 64) (by decide) (by decide) (by decide) (by decide), ?_⟩⟩
      refine ixR (xs := [.int 6, .int most]) (g5.at (g3.ne h5) upd_same) (div_lo (by decide) r0) (by show r / 3 < 2; omega) fun v hv => ?_
      obtain ⟨mm, rfl, mm0, mm1⟩ : ∃ mm : Int, v = .int mm ∧ 0 < mm ∧ mm ≤ 60 := by
        rcases List.mem_cons.mp hv with z | z
        · exact ⟨6, z, by decide, by decide⟩
        · exact ⟨most, List.mem_singleton.mp z, mo0, mo1⟩
      have g6 := g4.trans g5
      refine ⟨p, mm, rfl, g6.2, mm0, small300 (by omega) (by omega), fun r2 H7 r20 r21 g7 => ⟨_, _, rfl, rfl, ?_⟩⟩
      have g8 := g6.trans g7
      have stay : ∀ b o, b ≠ p → H3 b = some o → H7 b = some o := fun b o nb hb => g7.at nb (g5.at nb ((But.new (p := p) h5) b o nb hb))
      have hl7 := stay l _ nl hl
      have hmk7 := stay mk _ nmk hmk3
      refine ⟨_, rfl, 1 + r2, rfl, by omega, by omega, ?_⟩
      refine lcR (n := (1 + r2).toNat) RowOk (fun e h => h.mono e) g8.2 (by omega) (fun i H' Q' hi hp' hq => ?_) (fun l6 H9 rs n6 hD6 hat6 hrl hrow g9 => ?_)
      · exact ⟨_, rfl, _, rfl, _, rfl, p, 1 + r2, rfl, by omega, by omega, hp', fun v H2 hv g => hq v H2 g hv⟩
      have hl9 := g9.at nl hl7
      have hmk9 := g9.at nmk hmk7
      have n6m : l6 ≠ mk := fun z => by rw [z, hmk7] at hD6; cases hD6
      have n6l : l6 ≠ l := fun z => by rw [z, hl7] at hD6; cases hD6
      have g10 := g8.trans g9
      refine ⟨_, rfl, _, _, rfl, rfl, 1 + r2 - 1, rfl, by omega, by omega, ?_⟩
      refine for_range (lo := 0) (n := (1 + r2 - 1).toNat) (fun i σ H' => ∃ (v7 v8 : Option V) (rs : List V) (ms : List Str), σ = [some (.ref p), some (.ref mk), some (.int 3), some (.int most), some (.ref l), some (.int (1 + r2)), some (.ref l6), v7, v8, none] ∧ H' l6 = some (.lst rs) ∧ rs.length = (1 + r2).toNat ∧ RowsAll H' rs ∧ H' mk = some (.lst (ms.map V.str)) ∧ ms.length ≤ ms0.length + i ∧ H' l = some (.lst us) ∧ Pt H' p ∧ But2 p mk H H')
        ⟨_, _, rs, ms0, rfl, hat6, hrl, hrow, hmk9, Nat.le_refl _, hl9, g10.2, But2.of g10.1⟩ (fun i σ H' hi hW => ?_) (fun σ H' hW => ?_)
      · obtain ⟨v7, v8, rs, ms, rfl, ha, hn, hR, hm, hml, hL, hP, hB⟩ := hW
        refine ⟨_, rfl, p, rfl, hP, fun z H11 _ g11 => ?_⟩
        have hm11 := g11.at nmk hm
        have keep : ∀ {H'' : Hp}, Go p H' H'' → ∃ (v7 v8 : Option V) (rs : List V) (ms : List Str), [some (V.ref p), some (.ref mk), some (.int 3), some (.int most), some (.ref l), some (.int (1 + r2)), some (.ref l6), some (.int (0 + (i : Int))), some (.str z), none] = [some (V.ref p), some (.ref mk), some (.int 3), some (.int most), some (.ref l), some (.int (1 + r2)), some (.ref l6), v7, v8, none] ∧ H'' l6 = some (.lst rs) ∧ rs.length = (1 + r2).toNat ∧ RowsAll H'' rs ∧ H'' mk = some (.lst (ms.map V.str)) ∧ ms.length ≤ ms0.length + (i + 1) ∧ H'' l = some (.lst us) ∧ Pt H'' p ∧ But2 p mk H H'' := fun g =>
          ⟨_, _, rs, ms, rfl, g.at n6 ha, hn, hR.mono (g.tups hP), g.at nmk hm, by omega, g.at nl hL, g.2, hB.trans (But2.of g.1)⟩
        refine ⟨_, rfl, _, rfl, mk, _, rfl, .inl (SqL.of hm11), rfl, flat_strs ms, _, rfl, ite2 (fun e => ?_) (fun e => ?_)⟩
        · refine ⟨_, rfl, p, 6, rfl, g11.2, by decide, by decide, fun r5 H12 r50 r51 g12 => ⟨rfl, _, rfl, ite2 (fun e2 => ?_) (fun e2 => ?_)⟩⟩
          · have g13 := g11.trans g12
            have ha12 := g13.at n6 ha
            have hm12 := g13.at nmk hm
            have hL12 := g13.at nl hL
            refine ⟨_, rfl, (by show 2 ≤ sizeLine; decide), fun t ht => ?_⟩
            have nt6 : t ≠ l6 := fun z => by rw [z, ha12] at ht; cases ht
            have ntm : t ≠ mk := fun z => by rw [z, hm12] at ht; cases ht
            have ntl : t ≠ l := fun z => by rw [z, hL12] at ht; cases ht
            refine ⟨_, rfl, _, rfl, l6, rs, 0 + (i : Int), i, rfl, rfl, by rw [upd_ne nt6.symm]; exact ha12, ?_, ?_⟩
            · rw [show (0 + (i : Int)) = (i : Int) by omega]
              exact ixN_at (by omega)
            · refine ⟨_, rfl, .inl ⟨rfl, _, SqL.of (by rw [upd_ne n6m.symm, upd_ne ntm.symm]; exact hm12)⟩, _, rfl, mk, _, _, rfl, rfl, by rw [upd_ne n6m.symm, upd_ne ntm.symm]; exact hm12, by rw [List.length_map, sizeLine_eq]; omega, ?_⟩
              have T1 : TupS H12 (upd H12 t (.tup [.str "mark", .str z])) := TupS.new ht
              have ha13 : (upd H12 t (.tup [.str "mark", .str z])) l6 = some (.lst rs) := by rw [upd_ne nt6.symm]; exact ha12
              have T2 : TupS (upd H12 t (.tup [.str "mark", .str z])) (upd (upd H12 t (.tup [.str "mark", .str z])) l6 (.lst (rs.set i (.ref t)))) := TupS.put ha13
              have hm13 : (upd (upd H12 t (.tup [.str "mark", .str z])) l6 (.lst (rs.set i (.ref t)))) mk = some (.lst (ms.map V.str)) := by rw [upd_ne n6m.symm, upd_ne ntm.symm]; exact hm12
              have T3 := TupS.put (o := .lst (ms.map V.str ++ [.str z])) hm13
              refine ⟨_, _, rs.set i (.ref t), ms ++ [z], rfl, by rw [upd_ne n6m, upd_same], by rw [List.length_set]; exact hn, ?_, by rw [upd_same, List.map_append]; rfl, by rw [List.length_append, List.length_singleton]; omega, by rw [upd_ne nlm, upd_ne n6l.symm, upd_ne ntl.symm]; exact hL12, ?_, ?_⟩
              · refine RowsAll.mono T3 (RowsAll.mono T2 ?_)
                exact RowsAll.set ((hR.mono (g13.tups hP)).mono T1) ⟨t, "mark", [.str z], rfl, upd_same, fun _ => ⟨z, rfl⟩⟩
              · obtain ⟨x, y, k, a, r⟩ := g13.2
                exact ⟨x, y, k, by rw [upd_ne nmk.symm, upd_ne n6.symm, upd_ne (g13.ne ht).symm]; exact a, r⟩
              · refine fun b o nb nbm hb => ?_
                have nb6 : b ≠ l6 := fun z => by
                  have c := g8.1 b o nb hb
                  rw [z, hD6] at c
                  cases c
                have hb12 := g13.at nb (hB b o nb nbm hb)
                have nbt : b ≠ t := fun z => by
                  rw [z, ht] at hb12
                  cases hb12
                rw [upd_ne nbm, upd_ne nb6, upd_ne nbt]
                exact hb12
          · exact keep (g11.trans g12)
        · exact keep g11
      · obtain ⟨v7, v8, rs, ms, rfl, ha, hn, hR, hm, hml, hL, hP, hB⟩ := hW
        refine ⟨_, rfl, _, rfl, p, 1 + r2, rfl, hP, by omega, small300 (by omega) (by omega), fun ra Ha ra0 ra1 ga => ⟨(by show 2 ≤ sizeLine; decide), fun t1 ht1 => ?_⟩⟩
        have ga1 := ga.new (o := .tup [.str "go", .int ra]) ht1
        refine ⟨_, rfl, _, rfl, p, 3, rfl, ga1.2, fun u Hb gb => ⟨(by show 2 ≤ sizeLine; decide), fun t2 ht2 => ⟨(by show 2 ≤ sizeLine; decide), fun lx hx => ?_⟩⟩⟩
        have gb2 := (ga1.trans gb).new (o := .tup [.str "back", u]) ht2
        have gb3 := gb2.new (o := .lst [.ref t1, .ref t2]) hx
        refine ⟨_, rfl, p, 2, rfl, gb3.2, by decide, by decide, fun rb Hc rb0 rb1 gc => ?_⟩
        refine ixR (xs := [.ref t1, .ref t2]) (gc.at (gb2.ne hx) upd_same) rb0 (by exact rb1) fun v hv => ?_
        have G := gb3.trans gc
        have e1 : Hc t1 = some (.tup [.str "go", .int ra]) := gc.tups gb3.2 _ _ (TupS.new hx _ _ (TupS.new ht2 _ _ (gb.tups ga1.2 _ _ upd_same)))
        have e2 : Hc t2 = some (.tup [.str "back", u]) := gc.tups gb3.2 _ _ (TupS.new hx _ _ upd_same)
        have hv' : RowOk Hc v := by
          rcases List.mem_cons.mp hv with z | z
          · exact ⟨t1, "go", [.int ra], z, e1, fun h => absurd h (by decide +kernel)⟩
          · exact ⟨t2, "back", [u], List.mem_singleton.mp z, e2, fun h => absurd h (by decide +kernel)⟩
        have hac := G.at n6 ha
        refine ⟨_, rfl, 1, rfl, l6, rs, -1, _, rfl, rfl, hac, ixN_m1 (by omega), ?_⟩
        have T1 : TupS Hc (upd Hc l6 (.lst (rs.set (rs.length - 1) v))) := TupS.put hac
        have R1 : RowsAll (upd Hc l6 (.lst (rs.set (rs.length - 1) v))) (rs.set (rs.length - 1) v) := RowsAll.mono T1 (RowsAll.set (hR.mono (G.tups hP)) hv')
        have hP1 : Pt (upd Hc l6 (.lst (rs.set (rs.length - 1) v))) p := by
          obtain ⟨x, y, k, a, r⟩ := G.2
          exact ⟨x, y, k, by rw [upd_ne n6.symm]; exact a, r⟩
        have hl1 : (upd Hc l6 (.lst (rs.set (rs.length - 1) v))) l = some (.lst us) := by rw [upd_ne n6l.symm]; exact G.at nl hL
        have B1 : But2 p mk H (upd Hc l6 (.lst (rs.set (rs.length - 1) v))) := fun b o nb nbm hb => by
          have nb6 : b ≠ l6 := fun z => by
            have c := g8.1 b o nb hb
            rw [z, hD6] at c
            cases c
          rw [upd_ne nb6]
          exact G.at nb (hB b o nb nbm hb)
        have hmk1' : (upd Hc l6 (.lst (rs.set (rs.length - 1) v))) mk = some (.lst (ms.map V.str)) := by rw [upd_ne n6m.symm]; exact G.at nmk hm
        have h61 : (upd Hc l6 (.lst (rs.set (rs.length - 1) v))) l6 = some (.lst (rs.set (rs.length - 1) v)) := upd_same
        generalize upd Hc l6 (.lst (rs.set (rs.length - 1) v)) = Hd at *
        refine ⟨_, rfl, l, us, rfl, .inl ⟨SqL.of hl1, fun ta hta => ?_⟩⟩
        have gt := (Go.refl hP1).new (o := .tup us) hta
        refine ⟨_, rfl, p, 7, rfl, by decide, gt.2, fun kd He ge => ?_⟩
        have g5' := gt.trans ge
        refine ⟨_, rfl, l6, _, rfl, .inl ⟨SqL.of (g5'.at n6 h61), fun tb htb => ⟨(by show 3 ≤ sizeLine; decide), fun t ht => ?_⟩⟩⟩
        have hmd : Hd mk = some (.lst (ms.map V.str)) := hmk1'
        refine q t _ (.ref ta) kd tb (rs.set (rs.length - 1) v) ms upd_same ?_ ?_ (by rw [List.length_set]; omega) ?_ (by omega) (((g5'.new htb).new ht).2) (B1.trans ((But2.of g5'.1).trans ((But2.new htb).trans (But2.new ht))))
        · rw [upd_ne (ne_new ht), upd_same]
        · exact RowsAll.mono (TupS.new ht) (RowsAll.mono (TupS.new htb) (RowsAll.mono (g5'.tups hP1) R1))
        · exact Same.new ht _ _ (Same.new htb _ _ (g5'.at nmk hmd))
end
end K27
set_option Elab.async false
set_option linter.all false
set_option maxRecDepth 100000
set_option maxHeartbeats 4000000
namespace K27
open PySem PySem.Spec PyProof.Rows L2
open C8 (Cal Def cal0 pe_c fnBody fnScope fnArgs)
section
variable {P : Program} {w : World} {K : PySem.W.Frag} {mg : Str → Option Value} {base : Heap}
abbrev sLValue : Stmt := topS 13
abbrev NLValue : List Str := ["_law_pot_here", "_law_deep", "_law_way", "_law_many", "_law_k"]
theorem scLValue : FnScope NLValue ["_law_pot_here", "_law_deep"] (fnScope sLValue) := ⟨rfl, rfl, rfl, by decide +kernel, rfl, by decide +kernel, by decide +kernel⟩
theorem c_value (T : Tp mg) (c_LTake : Cal P w K mg base 1 "_law_take" spTake []) {f : Addr} {fd : FuncData} (D : Def K mg "_law_value" sLValue f fd) (b : Binds K fd ["_law_pot_here", "_law_deep"] []) :
    ∀ n : Nat, n ≤ 4 → Cal P w K mg base (1 + n) "_law_value" (spDeep n) []
  | 0, _ => cal_no _ (fun vs H Q E ⟨p, m, _, h, _⟩ => absurd h (Nat.not_lt_zero _)) D b
  | n + 1, h4 => by
    have c_LValue := c_value T c_LTake D b n (by omega)
    refine cal0 D b .nil scLValue (fun vs H Q E h => ?_) (fun cdv A outer s H vs Q E hr h => ?_)
    · obtain ⟨p, m, rfl, _⟩ := h
      rfl
    · obtain ⟨p, m, rfl, hm, hp, q⟩ := h
      have nd := scLValue.nd
      have hr := (show Room (1 + n) _ from hr)
      refine ⟨_, (pss_cons (ps_set (i := 2) nd rfl (.inl rfl) (pe_c c_LTake hr (by omega) (by rfl) (pa_cons (pv 0) (pa_cons pe_int pa_nil))))
      (C8.pss_cut (ps_if (PW.pt (pw_and (pt_cmpR op_eq (pv 2) pe_int (nomark _)) (pw_and1 (pt_cmpR op_gt (pv 1) pe_int (nomark _)))))
        (pss_cons (ps_set (i := 3) nd rfl (.inl rfl) (pe_c c_LTake hr (by omega) (by rfl) (pa_cons (pv 0) (pa_cons (pe_ix ix_list (pe_lst (pa_cons pe_int (pa_cons pe_int (pa_cons pe_int (pa_cons (pe_ix ix_list (pe_lst (pa_cons pe_int (pa_cons pe_int pa_nil))) (pe_op op_fdivW (pe_c c_LTake hr (by omega) (by rfl) (pa_cons (pv 0) (pa_cons pe_int pa_nil))) pe_int) (fun _ _ => rfl)) pa_nil))))) (pv 1) (fun _ _ => rfl)) pa_nil))))
        (pss_one (ps_ret (pe_callTy call_tuple_of (by rfl) T.n_tuple (by decide +kernel) (pa_cons (pe_lc (own := [("_law_k", 4)]) (g := gName 4) (by rfl) nd (pi_range1 (by rfl) T.n_range (pa_cons (pv 3) pa_nil)) (blkOk_by (own := [("_law_k", 4)]) (N := NLValue) (sc := fnScope sLValue) (by decide +kernel)) (fun _ _ _ _ _ => pg_name (i := 4) nd rfl (Or.inl rfl)) (fun _ _ _ _ _ => pts_nil) (fun _ _ _ _ _ => (pe_c c_LValue hr (by omega) (by rfl) (pa_cons (pv 0) (pa_cons (pe_op op_sub (pv 1) pe_int) pa_nil))))) pa_nil)))))
        pss_nil)
      (pss_cons (ps_if (pt_cmpR op_eq (pv 2) pe_int (nomark _))
        (pss_one (ps_ret (pe_cmpR op_eq (pe_c c_LTake hr (by omega) (by rfl) (pa_cons (pv 0) (pa_cons pe_int pa_nil))) pe_int (nomark _))))
        pss_nil)
      (pss_one (ps_ret (pe_ix ix_list (pe_lst (pa_cons (pe_c c_LTake hr (by omega) (by rfl) (pa_cons (pv 0) (pa_cons pe_int pa_nil))) (pa_cons (pe_c c_LTake hr (by omega) (by rfl) (pa_cons (pv 0) (pa_cons (pe_op op_pow pe_int pe_int) pa_nil))) (pa_cons (pe_op op_sub (pe_op op_pow pe_int pe_int) pe_int) pa_nil)))) (pe_c c_LTake hr (by omega) (by rfl) (pa_cons (pv 0) (pa_cons pe_int pa_nil))) (fun _ _ => rfl))))))), ?_⟩
      refine ⟨_, rfl, p, 4, rfl, hp, by decide, by decide, fun r H1 r0 r1 g1 => ?_⟩
      refine ⟨fun σ' H' => σ' = [some (.ref p), some (.int m), some (.int r), none, none] ∧ Go p H H', ?_, ?_⟩
      · refine ⟨_, rfl, rfl, _, rfl, ite2 (fun e => ?_) (fun e => iteF ⟨rfl, g1⟩)⟩
        refine ⟨_, rfl, _, _, rfl, rfl, _, rfl, ite2 (fun e2 => ?_) (fun e2 => ⟨rfl, g1⟩)⟩
        have m0 : (0 : Int) < m := of_decide_eq_true e2
        refine ⟨_, rfl, (by show 2 ≤ sizeLine; decide), fun l5 h5 => ?_⟩
        have g4 := g1.new (o := .lst [.int 4, .int 61]) h5
        refine ⟨_, rfl, p, 8, rfl, g4.2, by decide, by decide, fun r6 H5 r60 r61 g5 => ⟨_, _, rfl, rfl, wide_div (b := 64) (by decide) (by decide) (by decide) (by decide), ?_⟩⟩
        refine ixR (xs := [.int 4, .int 61]) (g5.at (g1.ne h5) upd_same) (div_lo (by decide) r60) (by show r6 / 7 < 2; omega) fun v hv => ?_
        obtain ⟨mm, rfl, mm0, mm1⟩ : ∃ mm : Int, v = .int mm ∧ 0 < mm ∧ mm ≤ 61 := by
          rcases List.mem_cons.mp hv with z | z
          · exact ⟨4, z, by decide, by decide⟩
          · exact ⟨61, List.mem_singleton.mp z, by decide, by decide⟩
        refine ⟨(by show 4 ≤ sizeLine; decide), fun l6 h6 => ⟨_, rfl, ?_⟩⟩
        have g6 := (g4.trans g5).new (o := .lst [.int 4, .int 4, .int 4, .int mm]) h6
        refine ixR (xs := [.int 4, .int 4, .int 4, .int mm]) upd_same (by omega) (by show (m : Int) < 4; omega) fun v2 hv2 => ?_
        obtain ⟨m2, rfl, m20, m21⟩ : ∃ m2 : Int, v2 = .int m2 ∧ 0 < m2 ∧ m2 ≤ 61 := by
          rcases List.mem_cons.mp hv2 with z | z
          · exact ⟨4, z, by decide, by decide⟩
          · rcases List.mem_cons.mp z with z | z
            · exact ⟨4, z, by decide, by decide⟩
            · rcases List.mem_cons.mp z with z | z
              · exact ⟨4, z, by decide, by decide⟩
              · exact ⟨mm, List.mem_singleton.mp z, mm0, mm1⟩
        refine ⟨p, m2, rfl, g6.2, m20, small300 (by omega) (by omega), fun r7 H7 r70 r71 g7 => ⟨_, rfl, r7, rfl, by omega, by omega, ?_⟩⟩
        have g8 := g6.trans g7
        refine lcR (n := r7.toNat) (fun _ _ => True) (fun _ _ => trivial) g8.2 (by omega) (fun i H' Q' hi hp' hq => ?_) (fun Dl H' vs nD hD hat hvl _ g9 => ?_)
        · refine ⟨_, rfl, _, rfl, _, _, rfl, rfl, p, m - 1, ?_, by omega, hp', fun v H2 g => hq v H2 g trivial⟩
          show [V.ref p, V.int ((m : Int) - 1)] = _
          rw [show ((m - 1 : Nat) : Int) = (m : Int) - 1 by omega]
        · exact ⟨Dl, vs, rfl, .inl ⟨SqL.of hat, fun t2 ht2 => q _ _ ((g8.trans g9).new ht2)⟩⟩
      · rintro σ' H2 ⟨rfl, g2⟩
        refine ⟨_, rfl, rfl, _, rfl, ite2 (fun e => ?_) (fun e => ?_)⟩
        · exact ⟨_, rfl, p, 2, rfl, g2.2, by decide, by decide, fun r3 H3 r30 r31 g3 => ⟨rfl, q _ _ (g2.trans g3)⟩⟩
        · refine ⟨_, rfl, p, 5, rfl, g2.2, by decide, by decide, fun r3 H3 r30 r31 g3 => ?_⟩
          have g23 := g2.trans g3
          refine ⟨_, rfl, _, _, rfl, rfl, (by show (0 : Int) ≤ 12 ∧ _; decide), p, _, rfl, g23.2, (by decide), (by decide), fun r4 H4 r40 r41 g4 => ?_⟩
          have g234 := g23.trans g4
          refine ⟨_, _, rfl, rfl, (by show (0 : Int) ≤ 12 ∧ _; decide), _, _, rfl, rfl, (by show 3 ≤ sizeLine; decide), fun l hl => ?_⟩
          have g5 := g234.new (o := .lst [.int r3, .int r4, .int ((10 : Int) ^ (12 : Int).toNat - 1)]) hl
          refine ⟨_, rfl, p, 3, rfl, g5.2, by decide, by decide, fun r6 H6 r60 r61 g6 => ?_⟩
          exact ixR (g6.at (g234.ne hl) upd_same) r60 (by exact r61) fun v _ => q _ _ (g5.trans g6)
end
end K27
set_option Elab.async false
set_option linter.all false
set_option maxRecDepth 100000
set_option maxHeartbeats 4000000
namespace K27
open PySem PySem.Spec PyProof.Rows L2
open C8 (Cal Def cal0 pe_c fnBody fnScope fnArgs)
theorem ne_obj {H : Hp} {a b : Addr} {o1 o2 : HO} (h1 : H a = some o1) (h2 : H b = some o2) (h : o1 ≠ o2) : a ≠ b := fun e => h (Option.some.inj (h1.symm.trans (e ▸ h2)))
/-- a part, its rows within -/
def PartOk (H : Hp) (v : V) : Prop := ∃ (t : Addr) (x y : V) (a : Addr) (rs : List V), v = .ref t ∧ H t = some (.tup [x, y, .ref a]) ∧ H a = some (.tup rs) ∧ RowsAll H rs ∧ rs.length ≤ 1000
theorem PartOk.mono {H H' : Hp} {v : V} (e : TupS H H') (h : PartOk H v) : PartOk H' v := let ⟨t, x, y, a, rs, h1, h2, h3, h4, h5⟩ := h; ⟨t, x, y, a, rs, h1, e _ _ h2, e _ _ h3, h4.mono e, h5⟩
/-- what stands by as a program is drawn -/
structure Stc (H : Hp) (p mk l0 d0 d1 d2 : Addr) : Prop where
  mkp : mk ≠ p
  l0p : l0 ≠ p
  d0p : d0 ≠ p
  d1p : d1 ≠ p
  d2p : d2 ≠ p
  d01 : d0 ≠ d1
  d02 : d0 ≠ d2
  d12 : d1 ≠ d2
  l0m : l0 ≠ mk
  f0 : H d0 = none
  f1 : H d1 = none
  f2 : H d2 = none
  fm : H mk = none
structure Prg (H : Hp) (p tm mk l0 d0 d1 d2 : Addr) (ys : List Str) (j : Nat) (H' : Hp) : Prop where
  l0_ : H' l0 = some (.lst (ys.map V.str))
  tm_ : H' tm = some (.tup [.ref d0, .ref d1, .ref d2])
  d0_ : ∃ k, H' d0 = some (.dK k)
  d1_ : ∃ k, H' d1 = some (.dK k)
  d2_ : ∃ (k : List (Key × V)) (ks : List Str), H' d2 = some (.dK k) ∧ k.map (·.1) = ks.map Sum.inr ∧ ks.Sublist (ys.take j) ∧ ∀ q ∈ k, PartOk H' q.2
  mk_ : ∃ ms : List Str, H' mk = some (.lst (ms.map V.str)) ∧ ms.length ≤ 100 * j
  go : Go p H H'
section
variable {H : Hp} {p tm mk l0 d0 d1 d2 : Addr} {ys : List Str} {j : Nat} {H' H'' : Hp}
theorem Prg.on (S : Stc H p mk l0 d0 d1 d2) (h : Prg H p tm mk l0 d0 d1 d2 ys j H') (g : Go p H' H'') : Prg H p tm mk l0 d0 d1 d2 ys j H'' := by
  have T := g.tups h.go.2
  obtain ⟨k0, e0⟩ := h.d0_
  obtain ⟨k1, e1⟩ := h.d1_
  obtain ⟨k2, ks, e2, a2, b2, c2⟩ := h.d2_
  obtain ⟨ms, em, lm⟩ := h.mk_
  exact ⟨g.at S.l0p h.l0_, T _ _ h.tm_, ⟨k0, g.at S.d0p e0⟩, ⟨k1, g.at S.d1p e1⟩, ⟨k2, ks, g.at S.d2p e2, a2, b2, fun q hq => (c2 q hq).mono T⟩, ⟨ms, g.at S.mkp em, lm⟩, h.go.trans g⟩
theorem tups_dict {H : Hp} {q : Addr} {k : List (Key × V)} {o : HO} (h : H q = some (.dK k)) : TupS H (upd H q o) := fun b ys e => by
  rw [upd_ne (ne_obj e h (fun z => nomatch z))]
  exact e
theorem go_dict {H H1 : Hp} {q : Addr} {k : List (Key × V)} {o : HO} (g : Go p H H1) (f : H q = none) (h : H1 q = some (.dK k)) : Go p H (upd H1 q o) := by
  refine ⟨fun b u nb hb => ?_, ?_⟩
  · rw [upd_ne (fun z => by rw [z, f] at hb; cases hb)]
    exact g.1 b u nb hb
  · obtain ⟨x, y, n, a, r⟩ := g.2
    exact ⟨x, y, n, by rw [upd_ne (ne_obj a h (fun z => nomatch z))]; exact a, r⟩
theorem Prg.put0 (S : Stc H p mk l0 d0 d1 d2) (h : Prg H p tm mk l0 d0 d1 d2 ys j H') {k : List (Key × V)} : Prg H p tm mk l0 d0 d1 d2 ys j (upd H' d0 (.dK k)) := by
  obtain ⟨k0, e0⟩ := h.d0_
  obtain ⟨k1, e1⟩ := h.d1_
  obtain ⟨k2, ks, e2, a2, b2, c2⟩ := h.d2_
  obtain ⟨ms, em, lm⟩ := h.mk_
  have T : TupS H' (upd H' d0 (.dK k)) := tups_dict e0
  exact ⟨by rw [upd_ne (ne_obj h.l0_ e0 (fun z => nomatch z))]; exact h.l0_, T _ _ h.tm_, ⟨k, upd_same⟩, ⟨k1, by rw [upd_ne S.d01.symm]; exact e1⟩, ⟨k2, ks, by rw [upd_ne S.d02.symm]; exact e2, a2, b2, fun q hq => (c2 q hq).mono T⟩,
    ⟨ms, by rw [upd_ne (ne_obj em e0 (fun z => nomatch z))]; exact em, lm⟩, go_dict h.go S.f0 e0⟩
theorem Prg.put1 (S : Stc H p mk l0 d0 d1 d2) (h : Prg H p tm mk l0 d0 d1 d2 ys j H') {k : List (Key × V)} : Prg H p tm mk l0 d0 d1 d2 ys j (upd H' d1 (.dK k)) := by
  obtain ⟨k0, e0⟩ := h.d0_
  obtain ⟨k1, e1⟩ := h.d1_
  obtain ⟨k2, ks, e2, a2, b2, c2⟩ := h.d2_
  obtain ⟨ms, em, lm⟩ := h.mk_
  have T : TupS H' (upd H' d1 (.dK k)) := tups_dict e1
  exact ⟨by rw [upd_ne (ne_obj h.l0_ e1 (fun z => nomatch z))]; exact h.l0_, T _ _ h.tm_, ⟨k0, by rw [upd_ne S.d01]; exact e0⟩, ⟨k, upd_same⟩, ⟨k2, ks, by rw [upd_ne S.d12.symm]; exact e2, a2, b2, fun q hq => (c2 q hq).mono T⟩,
    ⟨ms, by rw [upd_ne (ne_obj em e1 (fun z => nomatch z))]; exact em, lm⟩, go_dict h.go S.f1 e1⟩
end
theorem none_of {H H' : Hp} {b : Addr} (e : Same H H') (h : H' b = none) : H b = none := by
  cases c : H b with
  | none => rfl
  | some o => exact nomatch (h.symm.trans (e b o c) : none = some o)
theorem ne_some {H : Hp} {a b : Addr} {o : HO} (h1 : H a = some o) (h2 : H b = none) : a ≠ b := fun e => nomatch (h2.symm.trans (e ▸ h1) : none = some o)
theorem Prg.next {H : Hp} {p tm mk l0 d0 d1 d2 : Addr} {ys : List Str} {j : Nat} {H' : Hp} (h : Prg H p tm mk l0 d0 d1 d2 ys j H') : Prg H p tm mk l0 d0 d1 d2 ys (j + 1) H' := by
  obtain ⟨k2, ks, e2, a2, b2, c2⟩ := h.d2_
  obtain ⟨ms, em, lm⟩ := h.mk_
  exact ⟨h.l0_, h.tm_, h.d0_, h.d1_, ⟨k2, ks, e2, a2, b2.trans (List.take_sublist_take_left (Nat.le_succ _)), c2⟩, ⟨ms, em, by omega⟩, h.go⟩
section
variable {P : Program} {w : World} {K : PySem.W.Frag} {mg : Str → Option Value} {base : Heap}
abbrev sLProgram : Stmt := topS 16
abbrev NLProgram : List Str := ["_law_pot_here", "_law_left", "_law_made", "_law_marks_here", "_law_name_here", "_law_sort", "_law_field"]
theorem scLProgram : FnScope NLProgram ["_law_pot_here", "_law_left"] (fnScope sLProgram) := ⟨rfl, rfl, rfl, by decide +kernel, rfl, by decide +kernel, by decide +kernel⟩
def spProgram : Sp := fun vs H Q _ => ∃ (p : Addr), vs = [.ref p, .int 3] ∧ Pt H p ∧
  ∀ (tm d0 d1 d2 : Addr) (k : List (Key × V)) (ks : List Str) (H' : Hp), H' tm = some (.tup [.ref d0, .ref d1, .ref d2]) → H' d2 = some (.dK k) → k.map (·.1) = ks.map Sum.inr → sortedS ks = true → ks.Nodup → (∀ n ∈ ks, asc n = true) → ks.length < 64 → (∀ q ∈ k, PartOk H' q.2) → Go p H H' → Q (.ref tm) H'
theorem c_program (T : Tp mg) (c_LTake : Cal P w K mg base 1 "_law_take" spTake []) (c_LKind : Cal P w K mg base 10 "_law_kind" (spDeep 8) []) (c_LNames : Cal P w K mg base 3 "_law_names" spNames []) (c_LValue : Cal P w K mg base 5 "_law_value" (spDeep 4) []) (c_LPart : Cal P w K mg base 25 "_law_part" spPart [])
    {f : Addr} {fd : FuncData} (D : Def K mg "_law_program" sLProgram f fd) (b : Binds K fd ["_law_pot_here", "_law_left"] []) : Cal P w K mg base 26 "_law_program" spProgram [] := by
  refine cal0 D b .nil scLProgram (fun vs H Q E h => ?_) (fun cdv A outer s H vs Q E hr h => ?_)
  · obtain ⟨p, rfl, _⟩ := h
    rfl
  · obtain ⟨p, rfl, hp, q⟩ := h
    have nd := scLProgram.nd
    have hu1 : (A.deeper (envOfC "_law_program" (fnScope sLProgram) s.heap.objs.size f cdv)).units + 1 < cLine := by have := hr.un; omega
    have hu0 : (A.deeper (envOfC "_law_program" (fnScope sLProgram) s.heap.objs.size f cdv)).units < cLine := by omega
    refine ⟨_, (pss_cons (ps_set (i := 2) nd rfl (.inl rfl) (pe_tup (pa_cons pe_dnewK (pa_cons pe_dnewK (pa_cons pe_dnewK pa_nil)))))
    (pss_cons (ps_set (i := 3) nd rfl (.inl rfl) (pe_lst pa_nil))
    (pss_cons (ps_for PassesOwn.never rfl (pi_list (pe_c c_LNames hr (by decide) (by rfl) (pa_cons (pv 0) (pa_cons (pe_ix ix_list (pe_lst (pa_cons pe_int (pa_cons pe_int (pa_cons pe_int pa_nil)))) (pe_c c_LTake hr (by decide) (by rfl) (pa_cons (pv 0) (pa_cons pe_int pa_nil))) (fun _ _ => rfl)) pa_nil)))) (pg_name (i := 4) nd rfl (.inl rfl))
      (pss_cons (ps_set (i := 5) nd rfl (.inl rfl) (pe_c c_LTake hr (by decide) (by rfl) (pa_cons (pv 0) (pa_cons pe_int pa_nil))))
      (C8.pss_cut (ps_if (PW.pt (pw_and (pt_cmpR op_eq (pv 5) pe_int (nomark _)) (pw_and1 (pt_cmpR op_lt (pe_callB call_lenD (by rfl) T.n_len (by decide +kernel) (pa_cons (pe_ix ix_tup (pv 2) pe_int (fun _ _ => rfl)) pa_nil)) pe_int (nomark _)))))
        (pss_one (ps_dput hu1 (pe_ix ix_tup (pv 2) pe_int (fun _ _ => rfl)) (pv 4) (pe_callTy call_tuple_of (by rfl) T.n_tuple (by decide +kernel) (pa_cons (pe_lc (own := [("_law_field", 6)]) (g := gName 6) (by rfl) nd (pi_list (pe_c c_LNames hr (by decide) (by rfl) (pa_cons (pv 0) (pa_cons pe_int pa_nil)))) (blkOk_by (own := [("_law_field", 6)]) (N := NLProgram) (sc := fnScope sLProgram) (by decide +kernel)) (fun _ _ _ _ _ => pg_name (i := 6) nd rfl (Or.inl rfl)) (fun _ _ _ _ _ => pts_nil) (fun _ _ _ _ _ => (pe_tup (pa_cons (pv 6) (pa_cons (pe_c c_LKind hr (by decide) (by rfl) (pa_cons (pv 0) (pa_cons pe_int pa_nil))) pa_nil))))) pa_nil)) rfl))
        pss_nil)
      (C8.pss_cut (ps_if (PW.pt (pw_and (pt_cmpR op_eq (pv 5) pe_int (nomark _)) (pw_and1 (pt_cmpR op_lt (pe_callB call_lenD (by rfl) T.n_len (by decide +kernel) (pa_cons (pe_ix ix_tup (pv 2) pe_int (fun _ _ => rfl)) pa_nil)) pe_int (nomark _)))))
        (pss_one (ps_dput hu1 (pe_ix ix_tup (pv 2) pe_int (fun _ _ => rfl)) (pv 4) (pe_tup (pa_cons (pe_c c_LKind hr (by decide) (by rfl) (pa_cons (pv 0) (pa_cons pe_int pa_nil))) (pa_cons (pe_c c_LValue hr (by decide) (by rfl) (pa_cons (pv 0) (pa_cons pe_int pa_nil))) pa_nil))) rfl))
        pss_nil)
      (pss_one (ps_if (PW.pt (pw_and (pt_cmpR op_eq (pv 5) pe_int (nomark _)) (pw_and1 (pt_cmpR op_lt (pe_callB call_lenD (by rfl) T.n_len (by decide +kernel) (pa_cons (pe_ix ix_tup (pv 2) pe_int (fun _ _ => rfl)) pa_nil)) pe_int (nomark _)))))
        (pss_one (ps_dput hu1 (pe_ix ix_tup (pv 2) pe_int (fun _ _ => rfl)) (pv 4) (pe_c c_LPart hr (by decide) (by rfl) (pa_cons (pv 0) (pa_cons (pv 3) (pa_cons (pv 1) (pa_cons (pe_ix ix_list (pe_lst (pa_cons pe_int (pa_cons pe_int pa_nil))) (pe_callTy call_int1 (by rfl) T.n_int (by decide +kernel) (pa_cons (pe_cmpR (op_eqE hu0) (pe_ix ix_tup (pv 2) pe_int (fun _ _ => rfl)) pe_dnewK (nomark _)) pa_nil)) (fun _ _ => rfl)) pa_nil))))) rfl))
        pss_nil))))))
    (pss_one (ps_ret (pv 2)))))), ?_⟩
    refine fun d0 h0 d1 h1 d2 h2 => ⟨(by show 3 ≤ sizeLine; decide), fun tm htm => ⟨(by show 0 ≤ sizeLine; decide), fun mk hmk => ?_⟩⟩
    have g1 : Go p H (upd (upd (upd (upd (upd H d0 (.dK [])) d1 (.dK [])) d2 (.dK [])) tm (.tup [.ref d0, .ref d1, .ref d2])) mk (.lst [])) := (((((Go.refl hp).new h0).new h1).new h2).new htm).new hmk
    have e0 : (upd (upd (upd (upd (upd H d0 (.dK [])) d1 (.dK [])) d2 (.dK [])) tm (.tup [.ref d0, .ref d1, .ref d2])) mk (.lst [])) d0 = some (.dK []) := Same.new hmk _ _ (Same.new htm _ _ (Same.new h2 _ _ (Same.new h1 _ _ upd_same)))
    have e1 : (upd (upd (upd (upd (upd H d0 (.dK [])) d1 (.dK [])) d2 (.dK [])) tm (.tup [.ref d0, .ref d1, .ref d2])) mk (.lst [])) d1 = some (.dK []) := Same.new hmk _ _ (Same.new htm _ _ (Same.new h2 _ _ upd_same))
    have e2 : (upd (upd (upd (upd (upd H d0 (.dK [])) d1 (.dK [])) d2 (.dK [])) tm (.tup [.ref d0, .ref d1, .ref d2])) mk (.lst [])) d2 = some (.dK []) := Same.new hmk _ _ (Same.new htm _ _ upd_same)
    have et : (upd (upd (upd (upd (upd H d0 (.dK [])) d1 (.dK [])) d2 (.dK [])) tm (.tup [.ref d0, .ref d1, .ref d2])) mk (.lst [])) tm = some (.tup [.ref d0, .ref d1, .ref d2]) := Same.new hmk _ _ upd_same
    have em : (upd (upd (upd (upd (upd H d0 (.dK [])) d1 (.dK [])) d2 (.dK [])) tm (.tup [.ref d0, .ref d1, .ref d2])) mk (.lst [])) mk = some (.lst []) := upd_same
    have mkp : mk ≠ p := ((((Go.refl hp).new h0).new h1).new h2 |>.new htm).ne hmk
    have d0p : d0 ≠ p := (Go.refl hp).ne h0
    have d1p : d1 ≠ p := ((Go.refl hp).new h0).ne h1
    have d2p : d2 ≠ p := (((Go.refl hp).new h0).new h1).ne h2
    have tmp : tm ≠ p := ((((Go.refl hp).new h0).new h1).new h2).ne htm
    have d01 : d0 ≠ d1 := ne_new h1
    have d12 : d1 ≠ d2 := ne_new h2
    have d02 : d0 ≠ d2 := ne_some (Same.new h1 _ _ upd_same) h2
    have f1 : H d1 = none := none_of (Same.new h0) h1
    have f2 : H d2 = none := none_of ((Same.new h0).trans (Same.new h1)) h2
    have fm : H mk = none := none_of ((((Same.new h0).trans (Same.new h1)).trans (Same.new h2)).trans (Same.new htm)) hmk
    generalize upd (upd (upd (upd (upd H d0 (.dK [])) d1 (.dK [])) d2 (.dK [])) tm (.tup [.ref d0, .ref d1, .ref d2])) mk (.lst []) = H1 at *
    refine ⟨_, rfl, (by show 3 ≤ sizeLine; decide), fun l hl => ⟨_, rfl, p, 3, rfl, (g1.new hl).2, by decide, by decide, fun r H2 r0 r1 g2 => ?_⟩⟩
    refine ixR (xs := [.int 6, .int 6, .int 30]) (g2.at (g1.ne hl) upd_same) r0 (by exact r1) fun v hv => ?_
    obtain ⟨nn, rfl, hnn⟩ : ∃ nn : Nat, v = .int nn ∧ nn ≤ 30 := by
      rcases List.mem_cons.mp hv with z | z
      · exact ⟨6, z, by decide⟩
      · rcases List.mem_cons.mp z with z | z
        · exact ⟨6, z, by decide⟩
        · exact ⟨30, List.mem_singleton.mp z, by decide⟩
    have g12 : Go p H1 H2 := ((Go.refl g1.2).new hl).trans g2
    refine ⟨p, nn, rfl, by omega, g12.2, fun l0 ys H3 hn0 hl0 yl ynd yso yas n0 g3 => ⟨l0, rfl, ⟨_, SqL.of hl0⟩, ?_⟩⟩
    have g13 := g12.trans g3
    have T13 := g13.tups g1.2
    have S : Stc H p mk l0 d0 d1 d2 := ⟨mkp, n0, d0p, d1p, d2p, d01, d02, d12, (ne_some (g12.at mkp em) hn0).symm, h0, f1, f2, fm⟩
    have R0 : Prg H p tm mk l0 d0 d1 d2 ys 0 H3 := ⟨hl0, T13 _ _ et, ⟨_, g13.at d0p e0⟩, ⟨_, g13.at d1p e1⟩, ⟨[], [], g13.at d2p e2, rfl, List.nil_sublist _, fun q hq => nomatch hq⟩, ⟨[], g13.at mkp em, Nat.zero_le _⟩, g1.trans g13⟩
    refine for_list (K := K) (xs := ys.map V.str) (fun i σ H' => ∃ v4 v5 : Option V, σ = [some (.ref p), some (.int 3), some (.ref tm), some (.ref mk), v4, v5, none] ∧ Prg H p tm mk l0 d0 d1 d2 ys i H')
      ⟨_, _, rfl, R0⟩ (fun i σ H' _ hW => ?_) (fun i x σ H' hx hW => ?_) (fun σ H' hW => ?_)
    · obtain ⟨v4, v5, rfl, R⟩ := hW
      exact SqL.of R.l0_
    · obtain ⟨v4, v5, rfl, R⟩ := hW
      obtain ⟨z, hz, rfl⟩ : ∃ z, ys[i]? = some z ∧ x = .str z := by
        rw [List.getElem?_map] at hx
        cases c : ys[i]? with
        | none => rw [c] at hx; cases hx
        | some z => rw [c] at hx; exact ⟨z, rfl, (Option.some.inj hx).symm⟩
      have hi : i < ys.length := (List.getElem?_eq_some_iff.mp hz).1
      refine ⟨_, rfl, p, 3, rfl, R.go.2, by decide, by decide, fun r H4 r0 r1 g4 => ?_⟩
      have R4 := R.on S g4
      refine ⟨fun σ' H' => σ' = [some (.ref p), some (.int 3), some (.ref tm), some (.ref mk), some (.str z), some (.int r), none] ∧ Prg H p tm mk l0 d0 d1 d2 ys i H', ?_, ?_⟩
      · refine ⟨_, rfl, rfl, _, rfl, ite2 (fun e => ?_) (fun e => iteF ⟨rfl, R4⟩)⟩
        obtain ⟨k0, ek0⟩ := R4.d0_
        refine ⟨_, rfl, tm, _, _, .ref d0, rfl, rfl, SqT.of R4.tm_, atI_nat (j := 0) rfl, d0, k0, rfl, ek0, _, _, rfl, rfl, _, rfl, ite2 (fun e2 => ?_) (fun e2 => ⟨rfl, R4⟩)⟩
        have hk0 : ((k0.length : Nat) : Int) < 18 := of_decide_eq_true e2
        refine ⟨_, rfl, p, 8, rfl, by omega, R4.go.2, fun l5 zs H5 hn5 hl5 zl _ _ _ n5 g5 => ⟨l5, rfl, ⟨_, SqL.of hl5⟩, ?_⟩⟩
        refine lcL (K := K) (xs := zs.map V.str) (fun _ _ => True) (fun _ _ => trivial) g5.2 hl5 n5 (by rw [List.length_map]; omega) (fun i x H' Q' hx hp' hq => ?_) (fun Dl H6 vs nD hD hat hvl _ g6 => ?_)
        · exact ⟨_, rfl, _, rfl, p, 7, rfl, by decide, hp', fun u H2 g => ⟨(by show 2 ≤ sizeLine; decide), fun t ht => hq _ _ (g.new ht) trivial⟩⟩
        · refine ⟨Dl, vs, rfl, .inl ⟨SqL.of hat, fun t2 ht2 => ?_⟩⟩
          have g7 := (g5.trans g6).new (o := .tup vs) ht2
          have R7 := R4.on S g7
          refine ⟨_, rfl, tm, _, _, .ref d0, rfl, rfl, SqT.of R7.tm_, atI_nat (j := 0) rfl, _, rfl, d0, _, rfl, DPut.k (k := .inr z) (g7.at d0p ek0) (by rw [sizeLine_eq]; omega), rfl, ?_⟩
          exact R7.put0 S
      · rintro σ' H5 ⟨rfl, R5⟩
        refine ⟨fun σ' H' => σ' = [some (.ref p), some (.int 3), some (.ref tm), some (.ref mk), some (.str z), some (.int r), none] ∧ Prg H p tm mk l0 d0 d1 d2 ys i H', ?_, ?_⟩
        · refine ⟨_, rfl, rfl, _, rfl, ite2 (fun e => ?_) (fun e => iteF ⟨rfl, R5⟩)⟩
          obtain ⟨k1, ek1⟩ := R5.d1_
          refine ⟨_, rfl, tm, _, _, .ref d1, rfl, rfl, SqT.of R5.tm_, atI_nat (j := 1) rfl, d1, k1, rfl, ek1, _, _, rfl, rfl, _, rfl, ite2 (fun e2 => ?_) (fun e2 => ⟨rfl, R5⟩)⟩
          have hk1 : ((k1.length : Nat) : Int) < 18 := of_decide_eq_true e2
          refine ⟨_, rfl, p, 7, rfl, by decide, R5.go.2, fun u H6 g6 => ⟨_, rfl, p, 3, rfl, by decide, g6.2, fun u2 H7 g7 => ⟨(by show 2 ≤ sizeLine; decide), fun t ht => ?_⟩⟩⟩
          have g8 := (g6.trans g7).new (o := .tup [u, u2]) ht
          have R8 := R5.on S g8
          refine ⟨_, rfl, tm, _, _, .ref d1, rfl, rfl, SqT.of R8.tm_, atI_nat (j := 1) rfl, _, rfl, d1, _, rfl, DPut.k (k := .inr z) (g8.at d1p ek1) (by rw [sizeLine_eq]; omega), rfl, ?_⟩
          exact R8.put1 S
        · rintro σ' H6 ⟨rfl, R6⟩
          refine ⟨_, rfl, rfl, _, rfl, ite2 (fun e => ?_) (fun e => iteF ⟨_, _, rfl, R6.next⟩)⟩
          obtain ⟨k2, ks, ek2, ak2, bk2, ck2⟩ := R6.d2_
          refine ⟨_, rfl, tm, _, _, .ref d2, rfl, rfl, SqT.of R6.tm_, atI_nat (j := 2) rfl, d2, k2, rfl, ek2, _, _, rfl, rfl, _, rfl, ite2 (fun e2 => ?_) (fun e2 => ⟨_, _, rfl, R6.next⟩)⟩
          have hk2 : ((k2.length : Nat) : Int) < 18 := of_decide_eq_true e2
          obtain ⟨ms, ems, lms⟩ := R6.mk_
          refine ⟨_, rfl, _, rfl, _, rfl, (by show 2 ≤ sizeLine; decide), fun l5 h5 => ?_⟩
          refine ⟨_, rfl, tm, _, _, .ref d2, rfl, rfl, SqT.of (Same.new h5 _ _ R6.tm_), atI_nat (j := 2) rfl, fun d5 hd5 => ?_⟩
          refine ⟨d2, d5, k2, rfl, rfl, Same.new hd5 _ _ (Same.new h5 _ _ ek2), upd_same, fun c => .inr ⟨c, rfl, ?_⟩⟩
          have g7 := (R6.go.new (o := .lst [.int 8, .int 57]) h5).new (o := .dK []) hd5
          have s7 : Same H6 (upd (upd H6 l5 (.lst [.int 8, .int 57])) d5 (.dK [])) := (Same.new h5).trans (Same.new hd5)
          have znk : z ∉ ks := fun hm => by
            have h1 := bk2.subset hm
            have e : ys = ys.take i ++ z :: ys.drop (i + 1) := by
              have h2 : ys[i] = z := by
                rw [List.getElem?_eq_getElem hi] at hz
                exact Option.some.inj hz
              rw [← h2, ← List.drop_eq_getElem_cons hi, List.take_append_drop]
            rw [e] at ynd
            exact (List.nodup_append.mp ynd).2.2 z h1 z List.mem_cons_self rfl
          have hv : valV k2 (.inr z) = none := valV_out fun q hq e => by
            have h1 : Sum.inr z ∈ k2.map (·.1) := List.mem_map.mpr ⟨q, hq, e⟩
            rw [ak2] at h1
            obtain ⟨z2, hz2, e2⟩ := List.mem_map.mp h1
            cases e2
            exact znk hz2
          refine ix01 (Same.new hd5 _ _ upd_same) ?_ ?_ <;>
          · refine ⟨p, mk, _, ms, rfl, by decide, by decide, g7.2, s7 _ _ ems, by omega, S.mkp, fun t H8 x y a rs ms8 ht ha hR hln hmk8 hms hP8 hB => ?_⟩
            have keep : ∀ b o, b ≠ p → b ≠ mk → H6 b = some o → H8 b = some o := fun b o h1 h2 hb => hB b o h1 h2 (s7 _ _ hb)
            have T68 : TupS H6 H8 := fun b xs e => by
              obtain ⟨x0, y0, n0, ap, _⟩ := R6.go.2
              exact keep b _ (ne_obj e ap (fun z => nomatch z)) (ne_obj e ems (fun z => nomatch z)) e
            have tm8 := T68 _ _ R6.tm_
            have d28 : H8 d2 = some (.dK k2) := keep d2 _ S.d2p (ne_obj ek2 ems (fun z => nomatch z)) ek2
            have l08 : H8 l0 = some (.lst (ys.map V.str)) := keep l0 _ S.l0p S.l0m R6.l0_
            obtain ⟨k0, ek0⟩ := R6.d0_
            obtain ⟨k1, ek1⟩ := R6.d1_
            have d08 : H8 d0 = some (.dK k0) := keep d0 _ S.d0p (ne_obj ek0 ems (fun z => nomatch z)) ek0
            have d18 : H8 d1 = some (.dK k1) := keep d1 _ S.d1p (ne_obj ek1 ems (fun z => nomatch z)) ek1
            have g68 : Go p H H8 := ⟨fun b o nb hb => keep b o nb (ne_some hb S.fm) (R6.go.1 b o nb hb), hP8⟩
            have U : TupS H8 (upd H8 d2 (.dK (putK k2 (.inr z) (.ref t)))) := tups_dict d28
            refine ⟨_, rfl, tm, _, _, .ref d2, rfl, rfl, SqT.of tm8, atI_nat (j := 2) rfl, _, rfl, d2, _, rfl, DPut.k (k := .inr z) d28 (by rw [sizeLine_eq]; omega), _, _, rfl, ?_⟩
            refine ⟨by rw [upd_ne (ne_obj l08 d28 (fun z => nomatch z))]; exact l08, U _ _ tm8, ⟨k0, by rw [upd_ne S.d02]; exact d08⟩, ⟨k1, by rw [upd_ne S.d12]; exact d18⟩, ⟨_, ks ++ [z], upd_same, ?_, ?_, fun q hq => ?_⟩,
              ⟨ms8, by rw [upd_ne (ne_obj hmk8 d28 (fun z => nomatch z))]; exact hmk8, by omega⟩, go_dict g68 S.f2 d28⟩
            · rw [putK_new _ hv, List.map_append, ak2, List.map_append]
              rfl
            · rw [List.take_succ, hz]
              exact List.Sublist.append bk2 (List.Sublist.refl _)
            · rw [putK_new _ hv] at hq
              rcases List.mem_append.mp hq with hq | hq
              · exact ((ck2 q hq).mono T68).mono U
              · rw [List.mem_singleton.mp hq]
                exact PartOk.mono U ⟨t, x, y, a, rs, rfl, ht, ha, hR, hln⟩
    · obtain ⟨v4, v5, rfl, R⟩ := hW
      obtain ⟨k2, ks, ek2, ak2, bk2, ck2⟩ := R.d2_
      have hsl := bk2.trans (List.take_sublist _ _)
      have hle := hsl.length_le
      exact ⟨_, rfl, q tm d0 d1 d2 k2 ks _ R.tm_ ek2 ak2 (sortedS_sub yso hsl) (ynd.sublist hsl) (fun n hn => yas n (hsl.subset hn)) (by omega) ck2 R.go⟩
end
end K27
set_option Elab.async false
set_option linter.all false
set_option maxRecDepth 100000
set_option maxHeartbeats 4000000
namespace K27
open PySem PySem.Spec PyProof.Rows L2
open C8 (Cal Def cal0 pe_c fnBody fnScope fnArgs)
/-! ### the marks that stand in parts -/
def RowM (H : Hp) (v : V) (o : Option Str) : Prop := ∃ (a : Addr) (z : Str) (tl : List V), v = .ref a ∧ H a = some (.tup (.str z :: tl)) ∧ ((z = "mark" ∧ ∃ m : Str, tl = [.str m] ∧ o = some m) ∨ (z ≠ "mark" ∧ o = none))
theorem rowM_of {H : Hp} {v : V} (h : RowOk H v) : ∃ o, RowM H v o := by
  obtain ⟨a, z, tl, e, ha, hm⟩ := h
  by_cases c : z = "mark"
  · obtain ⟨m, e2⟩ := hm c
    exact ⟨some m, a, z, tl, e, ha, .inl ⟨c, m, e2, rfl⟩⟩
  · exact ⟨none, a, z, tl, e, ha, .inr ⟨c, rfl⟩⟩
theorem RowM.mono {H H' : Hp} {v : V} {o : Option Str} (e : TupS H H') (h : RowM H v o) : RowM H' v o := let ⟨a, z, tl, h1, h2, r⟩ := h; ⟨a, z, tl, h1, e _ _ h2, r⟩
theorem rows_of {H : Hp} : ∀ (rs : List V), RowsAll H rs → ∃ os, Paired (RowM H) rs os
  | [], _ => ⟨[], .nil⟩
  | v :: rs, h => by
    obtain ⟨o, ho⟩ := rowM_of (h v List.mem_cons_self)
    obtain ⟨os, hos⟩ := rows_of rs fun u hu => h u (List.mem_cons_of_mem _ hu)
    exact ⟨o :: os, .cons ho hos⟩
theorem paired_at {α β : Type} {R : α → β → Prop} : ∀ {xs : List α} {ys : List β} {i : Nat} {x : α}, Paired R xs ys → xs[i]? = some x → ∃ y, ys[i]? = some y ∧ R x y := by
  intro xs ys i x h
  induction h generalizing i with
  | nil => intro e; simp at e
  | @cons a b as bs h1 t ih =>
    intro e
    cases i with
    | zero => simp at e; exact ⟨b, rfl, e ▸ h1⟩
    | succ i => exact ih (by simpa using e)
theorem paired_snoc {α β : Type} {R : α → β → Prop} {xs : List α} {ys : List β} {x : α} {y : β} (h : Paired R xs ys) (hx : R x y) : Paired R (xs ++ [x]) (ys ++ [y]) := by
  induction h with
  | nil => exact .cons hx .nil
  | cons h1 t ih => exact .cons h1 ih
structure PartM (H : Hp) (v : V) (os : List (Option Str)) : Prop where
  ex : ∃ (t : Addr) (x y : V) (a : Addr) (rs : List V), v = .ref t ∧ H t = some (.tup [x, y, .ref a]) ∧ H a = some (.tup rs) ∧ Paired (RowM H) rs os
  ln : os.length ≤ 1000
theorem PartM.mono {H H' : Hp} {v : V} {os : List (Option Str)} (e : TupS H H') (h : PartM H v os) : PartM H' v os :=
  let ⟨t, x, y, a, rs, h1, h2, h3, h4⟩ := h.ex
  ⟨⟨t, x, y, a, rs, h1, e _ _ h2, e _ _ h3, Paired.mapP h4 fun _ _ r => r.mono e⟩, h.ln⟩
theorem partM_of {H : Hp} {v : V} (h : PartOk H v) : ∃ os, PartM H v os := by
  obtain ⟨t, x, y, a, rs, e, ht, ha, hR, hl⟩ := h
  obtain ⟨os, ho⟩ := rows_of rs hR
  exact ⟨os, ⟨t, x, y, a, rs, e, ht, ha, ho⟩, by rw [← Paired.length ho]; exact hl⟩
abbrev PartsM (H : Hp) (k : List (Key × V)) (ps : List (Str × List (Option Str))) : Prop := Paired (fun q n => q.1 = Sum.inr n.1 ∧ PartM H q.2 n.2) k ps
theorem PartsM.mono {H H' : Hp} {k : List (Key × V)} {ps : List (Str × List (Option Str))} (e : TupS H H') (h : PartsM H k ps) : PartsM H' k ps := Paired.mapP h fun _ _ r => ⟨r.1, r.2.mono e⟩
theorem parts_of {H : Hp} : ∀ (k : List (Key × V)) (ks : List Str), k.map (·.1) = ks.map Sum.inr → (∀ q ∈ k, PartOk H q.2) → ∃ ps, PartsM H k ps ∧ ps.map (·.1) = ks
  | [], ks, e, _ => by
    cases ks with
    | nil => exact ⟨[], .nil, rfl⟩
    | cons a b => simp at e
  | q :: k, ks, e, h => by
    cases ks with
    | nil => simp at e
    | cons n ks =>
      simp only [List.map_cons, List.cons.injEq] at e
      obtain ⟨os, ho⟩ := partM_of (h q List.mem_cons_self)
      obtain ⟨ps, hps, em⟩ := parts_of k ks e.2 fun p hp => h p (List.mem_cons_of_mem _ hp)
      exact ⟨(n, os) :: ps, .cons ⟨e.1, ho⟩ hps, by rw [List.map_cons, em]⟩
theorem PartsM.get {H : Hp} {k : List (Key × V)} {ps : List (Str × List (Option Str))} (h : PartsM H k ps) (nd : (ps.map (·.1)).Nodup) : ∀ {j : Nat} {n : Str} {os : List (Option Str)}, ps[j]? = some (n, os) → ∃ v, valV k (Sum.inr n) = some v ∧ PartM H v os := by
  induction h with
  | nil => intro j n os e; simp at e
  | @cons q p k ps h1 t ih =>
    intro j n os e
    obtain ⟨n1, n2⟩ := List.nodup_cons.mp (by simpa using nd : (p.1 :: ps.map (·.1)).Nodup)
    cases j with
    | zero =>
      simp at e
      subst e
      exact ⟨q.2, valV_pos h1.1, h1.2⟩
    | succ j =>
      have e' : ps[j]? = some (n, os) := by simpa using e
      obtain ⟨v, hv, hp⟩ := ih n2 e'
      refine ⟨v, ?_, hp⟩
      rw [valV_neg (fun c => n1 ?_)]
      · exact hv
      · have : p.1 = n := Sum.inr.inj (h1.1.symm.trans c)
        rw [this]
        exact List.mem_map.mpr ⟨(n, os), List.mem_of_getElem? e', rfl⟩
theorem PartsM.keys {H : Hp} {k : List (Key × V)} {ps : List (Str × List (Option Str))} (h : PartsM H k ps) : k.map (·.1) = (ps.map (·.1)).map Sum.inr := by
  induction h with
  | nil => rfl
  | cons h1 t ih => rw [List.map_cons, List.map_cons, List.map_cons, ih, h1.1]
theorem PartsM.lens {H : Hp} {k : List (Key × V)} {ps : List (Str × List (Option Str))} (h : PartsM H k ps) : ∀ p ∈ ps, p.2.length ≤ 1000 := by
  induction h with
  | nil => intro p hp; cases hp
  | cons h1 t ih =>
    intro p hp
    rcases List.mem_cons.mp hp with z | z
    · rw [z]; exact h1.2.ln
    · exact ih p z
/-- the marks of the first i rows of a part; of the first j parts -/
def trN (n : Str) (os : List (Option Str)) : Nat → List (Str × Str × Nat)
  | 0 => []
  | i + 1 => trN n os i ++ (match os[i]? with | some (some m) => [(m, n, i)] | _ => [])
def trP (ps : List (Str × List (Option Str))) : Nat → List (Str × Str × Nat)
  | 0 => []
  | j + 1 => trP ps j ++ (match ps[j]? with | some (n, os) => trN n os os.length | none => [])
theorem trN_len (n : Str) (os : List (Option Str)) : ∀ i, (trN n os i).length ≤ i
  | 0 => Nat.le_refl _
  | i + 1 => by
    have h := trN_len n os i
    show (trN n os i ++ _).length ≤ _
    rw [List.length_append]
    split <;> simp <;> omega
theorem trP_len {ps : List (Str × List (Option Str))} (h : ∀ p ∈ ps, p.2.length ≤ 1000) : ∀ j, (trP ps j).length ≤ j * 1000
  | 0 => Nat.le_refl _
  | j + 1 => by
    have h1 := trP_len h j
    show (trP ps j ++ _).length ≤ _
    rw [List.length_append]
    split
    · rename_i n os e
      have h2 := h _ (List.mem_of_getElem? e)
      have h3 := trN_len n os os.length
      simp only at h2
      omega
    · simp only [List.length_nil]
      omega
def Trip (H : Hp) (v : V) (t : Str × Str × Nat) : Prop := ∃ a : Addr, v = .ref a ∧ H a = some (.tup [.str t.1, .str t.2.1, .int (t.2.2 : Nat)])
theorem Trip.mono {H H' : Hp} {v : V} {t : Str × Str × Nat} (e : TupS H H') (h : Trip H v t) : Trip H' v t := let ⟨a, h1, h2⟩ := h; ⟨a, h1, e _ _ h2⟩
theorem same_own {H H' : Hp} {q : Addr} {o : HO} (s : Same H H') (f : H q = none) : Same H (upd H' q o) := fun b u e => by
  rw [upd_ne (fun z => by rw [z, f] at e; cases e)]
  exact s b u e
section
variable {P : Program} {w : World} {K : PySem.W.Frag} {mg : Str → Option Value} {base : Heap}
abbrev sPMarksIn : Stmt := topS 1
abbrev NPMarksIn : List Str := ["parts", "found", "name", "r", "row"]
theorem scPMarksIn : FnScope NPMarksIn ["parts"] (fnScope sPMarksIn) := ⟨rfl, rfl, rfl, by decide +kernel, rfl, by decide +kernel, by decide +kernel⟩
def spMarksIn : Sp := fun vs H Q _ => ∃ (d : Addr) (k : List (Key × V)) (ps : List (Str × List (Option Str))), vs = [.ref d] ∧ H d = some (.dK k) ∧ PartsM H k ps ∧ sortedS (ps.map (·.1)) = true ∧ (ps.map (·.1)).Nodup ∧ ps.length < 64 ∧
  ∀ (l : Addr) (us : List V) (H' : Hp), H l = none → H' l = some (.lst us) → Paired (Trip H') us (trP ps ps.length) → Same H H' → Q (.ref l) H'
theorem c_marksIn (T : Tp mg) {f : Addr} {fd : FuncData} (D : Def K mg "marks_in" sPMarksIn f fd) (b : Binds K fd ["parts"] []) : Cal P w K mg base 1 "marks_in" spMarksIn [] := by
  refine cal0 D b .nil scPMarksIn (fun vs H Q E h => ?_) (fun cdv A outer s H vs Q E hr h => ?_)
  · obtain ⟨d, k, ps, rfl, _⟩ := h
    rfl
  · obtain ⟨d, k, ps, rfl, hd, hM, hso, hnd, h64, q⟩ := h
    have nd := scPMarksIn.nd
    have hu1 : (A.deeper (envOfC "marks_in" (fnScope sPMarksIn) s.heap.objs.size f cdv)).units + 1 < cLine := by have := hr.un; omega
    refine ⟨_, (pss_cons (ps_set (i := 1) nd rfl (.inl rfl) (pe_lst pa_nil))
     (pss_cons (ps_for PassesOwn.never rfl (pi_list (pe_callB (call_sortedD rfl) (by rfl) T.n_sorted (by decide +kernel) (pa_cons (pv 0) pa_nil))) (pg_name (i := 2) nd rfl (.inl rfl))
       (pss_one (ps_for PassesOwn.never rfl (pi_enumT (by rfl) T.n_enumerate (pa_cons (pe_ix ix_tup (pe_dget hu1 (pv 0) (pv 2) (fun _ _ => rfl)) pe_int (fun _ _ => rfl)) pa_nil)) (pg_tup (n := 2) rfl (pgs_cons (pg_name (i := 3) nd rfl (.inl rfl)) (pgs_cons (pg_name (i := 4) nd rfl (.inl rfl)) pgs_nil)))
         (pss_one (ps_if (pt_cmpR op_eq (pe_ix ix_tup (pv 4) pe_int (fun _ _ => rfl)) pe_str (nomark _))
           (pss_one (ps_expr (pe_bm PySem.F.plainAttrs_list PySem.F.slot_list_append PySem.F.type_list_append mt_append (pv 1) (pa_cons (pe_tup (pa_cons (pe_ix ix_tup (pv 4) pe_int (fun _ _ => rfl)) (pa_cons (pv 2) (pa_cons (pv 3) pa_nil)))) pa_nil))))
           pss_nil)))))
     (pss_one (ps_ret (pv 1))))), ?_⟩
    refine ⟨(by show 0 ≤ sizeLine; decide), fun lf hlf => ⟨_, rfl, d, k, ps.map (·.1), rfl, .inl (Same.new hlf _ _ hd), hM.keys, by rw [List.length_map]; exact h64, fun ys ln pm so hln => ⟨ln, rfl, ⟨_, SqL.of upd_same⟩, ?_⟩⟩⟩
    have ey := sortedS_uniq ys _ pm so hso
    subst ey
    have s0 : Same H (upd (upd H lf (.lst [])) ln (.lst ((ps.map (·.1)).map V.str))) := (Same.new hlf).trans (Same.new hln)
    refine for_list (K := K) (xs := (ps.map (·.1)).map V.str) (fun j σ H' => ∃ (v2 v3 v4 : Option V) (us : List V), σ = [some (.ref d), some (.ref lf), v2, v3, v4] ∧ H' ln = some (.lst ((ps.map (·.1)).map V.str)) ∧ H' lf = some (.lst us) ∧ Paired (Trip H') us (trP ps j) ∧ Same H H')
      ⟨_, _, _, [], rfl, upd_same, Same.new hln _ _ upd_same, .nil, s0⟩ (fun j σ H' _ hW => ?_) (fun j x σ H' hx hW => ?_) (fun σ H' hW => ?_)
    · obtain ⟨v2, v3, v4, us, rfl, hl, hf, hT, sm⟩ := hW
      exact SqL.of hl
    · obtain ⟨v2, v3, v4, us, rfl, hl, hf, hT, sm⟩ := hW
      obtain ⟨n, os, hj, rfl⟩ : ∃ n os, ps[j]? = some (n, os) ∧ x = .str n := by
        rw [List.getElem?_map, List.getElem?_map] at hx
        cases c : ps[j]? with
        | none => rw [c] at hx; cases hx
        | some p => rw [c] at hx; exact ⟨p.1, p.2, rfl, (Option.some.inj hx).symm⟩
      have hj64 : j < 64 := Nat.lt_trans (List.getElem?_eq_some_iff.mp hj).1 h64
      have hM' := PartsM.mono (TupS.same sm) hM
      obtain ⟨v, hv, hp⟩ := hM'.get hnd hj
      obtain ⟨t, x0, y0, a, rs, rfl, ht, ha, hR⟩ := hp.ex
      have hlens := hM.lens
      have hosl := hp.ln
      have g : DGet H' d (.str n) (some (.ref t)) := by
        have g0 := DGet.k (k := Sum.inr n) (sm _ _ hd)
        rw [hv] at g0
        exact g0
      refine ⟨_, rfl, _, rfl, d, .ref t, rfl, g, t, _, _, .ref a, rfl, rfl, SqT.of ht, atI_nat (j := 2) rfl, a, rs, rfl, SqT.of ha, ?_⟩
      have hrl := Paired.length hR
      refine for_it (walk_enumT (K := K) (a := a) (xs := rs)) (fun i σ H'' => ∃ (v3 v4 : Option V) (us : List V), σ = [some (.ref d), some (.ref lf), some (.str n), v3, v4] ∧ H'' ln = some (.lst ((ps.map (·.1)).map V.str)) ∧ H'' lf = some (.lst us) ∧ Paired (Trip H'') us (trP ps j ++ trN n os i) ∧ Same H H'' ∧ H'' a = some (.tup rs) ∧ Paired (RowM H'') rs os)
        ⟨_, _, us, rfl, hl, hf, by rw [show trN n os 0 = [] from rfl, List.append_nil]; exact hT, sm, ha, hR⟩ (fun i σ H'' _ hW => ?_) (fun i x σ H1 H'' hi hW hY => ?_) (fun σ H'' hW => ?_)
      · obtain ⟨_, _, _, _, _, _, _, _, ha2, _⟩ := hW
        exact SqT.of ha2
      · obtain ⟨v3, v4, us, rfl, hl, hf, hT, sm1, ha1, hR1⟩ := hW
        obtain ⟨Tt, u, rfl, hTt, rfl, hu⟩ := hY
        obtain ⟨o, ho, hrow⟩ := paired_at hR1 hu
        have s2 : Same H1 (upd H1 Tt (.tup [.int (i : Nat), u])) := Same.new hTt
        obtain ⟨ra, z, tl, rfl, hra, hc⟩ := hrow.mono (TupS.same s2)
        have smS := sm1.trans s2
        have hl2 := s2 _ _ hl
        have hf2 := s2 _ _ hf
        have hT2 := Paired.mapP hT fun _ _ r => r.mono (TupS.same s2)
        have ha2 := s2 _ _ ha1
        have hR2 := Paired.mapP hR1 fun _ _ r => RowM.mono (TupS.same s2) r
        have hlen : us.length ≤ 70000 := by
          have h1 := Paired.length hT
          rw [List.length_append] at h1
          have h2 := trP_len hlens j
          have h3 := trN_len n os i
          omega
        refine ⟨Tt, _, rfl, SqT.of upd_same, rfl, _, _, rfl, _, _, rfl, rfl, ?_⟩
        generalize upd H1 Tt (.tup [.int (i : Nat), .ref ra]) = H2 at *
        refine ⟨_, rfl, ra, _, _, .str z, rfl, rfl, SqT.of hra, atI_nat (j := 0) rfl, rfl, _, rfl, ite2 (fun e => ?_) (fun e => ?_)⟩
        · have ez : z = "mark" := V.str.inj (of_decide_eq_true e)
          rcases hc with ⟨_, m, rfl, rfl⟩ | ⟨c, _⟩
          · refine ⟨_, rfl, .inl ⟨rfl, _, SqL.of hf2⟩, _, rfl, ra, _, _, .str m, rfl, rfl, SqT.of hra, atI_nat (j := 1) rfl, _, rfl, _, rfl, (by show 3 ≤ sizeLine; decide), fun tt htt => ?_⟩
            have s3 : Same H2 (upd H2 tt (.tup [.str m, .str n, .int (i : Nat)])) := Same.new htt
            have hf3 := s3 _ _ hf2
            refine ⟨lf, us, _, rfl, rfl, hf3, by rw [sizeLine_eq]; omega, ?_⟩
            have T4 : TupS (upd H2 tt (.tup [.str m, .str n, .int (i : Nat)])) (upd (upd H2 tt (.tup [.str m, .str n, .int (i : Nat)])) lf (.lst (us ++ [.ref tt]))) := TupS.put hf3
            have T24 := (TupS.same s3).trans T4
            have nln : ln ≠ lf := (ne_new hln).symm
            refine ⟨_, _, us ++ [.ref tt], rfl, by rw [upd_ne nln]; exact s3 _ _ hl2, upd_same, ?_, same_own (smS.trans s3) hlf, T24 _ _ ha2, Paired.mapP hR2 fun _ _ r => r.mono T24⟩
            rw [show trN n os (i + 1) = trN n os i ++ [(m, n, i)] by show _ ++ _ = _; rw [ho], ← List.append_assoc]
            exact paired_snoc (Paired.mapP hT2 fun _ _ r => r.mono T24) ⟨tt, rfl, T4 _ _ upd_same⟩
          · exact absurd ez c
        · have ez : z ≠ "mark" := fun h => e (decide_eq_true (by rw [h]))
          rcases hc with ⟨c, _⟩ | ⟨_, rfl⟩
          · exact absurd c ez
          · refine ⟨_, _, us, rfl, hl2, hf2, ?_, smS, ha2, hR2⟩
            rw [show trN n os (i + 1) = trN n os i by show _ ++ _ = _; rw [ho, List.append_nil]]
            exact hT2
      · obtain ⟨v3, v4, us, rfl, hl, hf, hT, sm1, ha1, hR1⟩ := hW
        refine ⟨_, _, _, us, rfl, hl, hf, ?_, sm1⟩
        rw [show trP ps (j + 1) = trP ps j ++ trN n os os.length by show _ ++ _ = _; rw [hj], ← hrl]
        exact hT
    · obtain ⟨v2, v3, v4, us, rfl, hl, hf, hT, sm⟩ := hW
      refine ⟨_, rfl, q lf us H' hlf hf ?_ sm⟩
      rw [List.length_map, List.length_map] at hT
      exact hT
end
end K27
set_option Elab.async false
set_option linter.all false
set_option maxRecDepth 100000
set_option maxHeartbeats 4000000
namespace K27
open PySem PySem.Spec PyProof.Rows L2
open C8 (Cal Def cal0 pe_c fnBody fnScope fnArgs)
/-! ### a dict of marks, by data -/
abbrev As := List (Str × (Str × Nat))
def putA (A : As) (m : Str) (x : Str × Nat) : As := if (A.any fun a => decide (a.1 = m)) = true then A.map (fun a => if a.1 = m then (a.1, x) else a) else A ++ [(m, x)]
def PairT (H : Hp) (v : V) (x : Str × Nat) : Prop := ∃ t : Addr, v = .ref t ∧ H t = some (.tup [.str x.1, .int (x.2 : Nat)])
theorem PairT.mono {H H' : Hp} {v : V} {x : Str × Nat} (e : TupS H H') (h : PairT H v x) : PairT H' v x := let ⟨t, h1, h2⟩ := h; ⟨t, h1, e _ _ h2⟩
abbrev RelA (H : Hp) (k : List (Key × V)) (A : As) : Prop := Paired (fun q a => q.1 = Sum.inr a.1 ∧ PairT H q.2 a.2) k A
theorem RelA.mono {H H' : Hp} {k : List (Key × V)} {A : As} (e : TupS H H') (h : RelA H k A) : RelA H' k A := Paired.mapP h fun _ _ r => ⟨r.1, r.2.mono e⟩
theorem RelA.any {H : Hp} {k : List (Key × V)} {A : As} (h : RelA H k A) (m : Str) : (k.any fun q => decide (q.1 = Sum.inr m)) = A.any fun a => decide (a.1 = m) := by
  induction h with
  | nil => rfl
  | @cons q a k A h1 t ih =>
    rw [List.any_cons, List.any_cons, ih]
    congr 1
    rw [h1.1]
    exact Bool.eq_iff_iff.mpr ⟨fun z => decide_eq_true (Sum.inr.inj (of_decide_eq_true z)), fun z => decide_eq_true (congrArg _ (of_decide_eq_true z))⟩
theorem RelA.rep {H : Hp} {k : List (Key × V)} {A : As} (h : RelA H k A) (m : Str) {v : V} {x : Str × Nat} (hv : PairT H v x) : RelA H (k.map fun q => if q.1 = Sum.inr m then (q.1, v) else q) (A.map fun a => if a.1 = m then (a.1, x) else a) := by
  induction h with
  | nil => exact .nil
  | @cons q a k A h1 t ih =>
    refine .cons ?_ ih
    by_cases c : a.1 = m
    · have c2 : q.1 = Sum.inr m := h1.1.trans (congrArg _ c)
      dsimp only
      rw [if_pos c, if_pos c2]
      exact ⟨h1.1, hv⟩
    · have c2 : ¬ q.1 = Sum.inr m := fun z => c (Sum.inr.inj (h1.1.symm.trans z))
      dsimp only
      rw [if_neg c, if_neg c2]
      exact h1
theorem RelA.put {H : Hp} {k : List (Key × V)} {A : As} (h : RelA H k A) (m : Str) {v : V} {x : Str × Nat} (hv : PairT H v x) : RelA H (putK k (Sum.inr m) v) (putA A m x) := by
  unfold putK putA
  rw [h.any m]
  split
  · exact h.rep m hv
  · exact paired_snoc h ⟨rfl, hv⟩
theorem putA_keys (A : As) (m : Str) (x : Str × Nat) (h : (A.map (·.1)).Nodup) : ((putA A m x).map (·.1)).Nodup := by
  unfold putA
  split
  · rw [List.map_map]
    have e : ((fun a : Str × (Str × Nat) => a.1) ∘ fun a => if a.1 = m then (a.1, x) else a) = fun a => a.1 := by
      funext a
      show (if a.1 = m then (a.1, x) else a).1 = a.1
      split <;> rfl
    rw [e]
    exact h
  · rename_i c
    rw [List.map_append]
    refine List.nodup_append.mpr ⟨h, by simp, fun y hy z hz e => c ?_⟩
    have hz' : z = m := by simpa using hz
    obtain ⟨a, ha, ea⟩ := List.mem_map.mp hy
    exact List.any_eq_true.mpr ⟨a, ha, decide_eq_true (ea.trans (e.trans hz'))⟩
theorem putA_mem {A : As} {m : Str} {x : Str × Nat} {p : Str × Nat → Prop} (hx : p x) (h : ∀ a ∈ A, p a.2) : ∀ a ∈ putA A m x, p a.2 := by
  unfold putA
  split
  · intro a ha
    obtain ⟨b, hb, e⟩ := List.mem_map.mp ha
    rw [← e]
    split
    · exact hx
    · exact h b hb
  · intro a ha
    rcases List.mem_append.mp ha with z | z
    · exact h a z
    · rw [List.mem_singleton.mp z]; exact hx
def dA (ts : List (Str × Str × Nat)) : As := ts.foldl (fun A t => putA A t.1 t.2) []
theorem dA_snoc (ts : List (Str × Str × Nat)) (t : Str × Str × Nat) : dA (ts ++ [t]) = putA (dA ts) t.1 t.2 := by
  unfold dA
  rw [List.foldl_append] <;> rfl
theorem foldA_keys : ∀ (ts : List (Str × Str × Nat)) (A : As), (A.map (·.1)).Nodup → ((ts.foldl (fun A t => putA A t.1 t.2) A).map (·.1)).Nodup
  | [], A, h => h
  | t :: ts, A, h => foldA_keys ts _ (putA_keys A t.1 t.2 h)
theorem foldA_mem {p : Str × Nat → Prop} : ∀ (ts : List (Str × Str × Nat)) (A : As), (∀ t ∈ ts, p t.2) → (∀ a ∈ A, p a.2) → ∀ a ∈ ts.foldl (fun A t => putA A t.1 t.2) A, p a.2
  | [], A, _, h => h
  | t :: ts, A, ht, h => foldA_mem ts _ (fun u hu => ht u (List.mem_cons_of_mem _ hu)) (putA_mem (ht t List.mem_cons_self) h)
theorem RelA.look {H : Hp} {k : List (Key × V)} {A : As} (h : RelA H k A) (nd : (A.map (·.1)).Nodup) : ∀ {a : Str × (Str × Nat)}, a ∈ A → ∃ v, valV k (Sum.inr a.1) = some v ∧ PairT H v a.2 := by
  induction h with
  | nil => intro a ha; cases ha
  | @cons q b k A h1 t ih =>
    intro a ha
    obtain ⟨n1, n2⟩ := List.nodup_cons.mp (by simpa using nd : (b.1 :: A.map (·.1)).Nodup)
    rcases List.mem_cons.mp ha with z | z
    · subst z
      exact ⟨q.2, valV_pos h1.1, h1.2⟩
    · obtain ⟨v, hv, hp⟩ := ih n2 z
      refine ⟨v, ?_, hp⟩
      rw [valV_neg (fun c => n1 ?_)]
      · exact hv
      · rw [Sum.inr.inj (h1.1.symm.trans c)]
        exact List.mem_map.mpr ⟨a, z, rfl⟩
theorem pair_lay {n : Str} {i : Nat} (h : asc n = true) : (PyData.tuple [.str n, .int (i : Nat)]).canLay0 = true ∧ (PyData.tuple [.str n, .int (i : Nat)]).depth ≤ 60 := by
  refine ⟨?_, by simp [PyData.depth, PyData.depthAll]⟩
  have h1 : (PyData.str n).canLay0 = true := by
    simp only [PyData.canLay0, PyData.strOk]
    rw [← Array.all_toList, List.all_eq_true]
    intro c hc
    have := of_decide_eq_true (List.all_eq_true.mp h c hc)
    exact decide_eq_true (by omega)
  simp only [PyData.canLay0, PyData.canLayAll0] at h1 ⊢
  rw [h1]
  rfl
theorem PairT.dp {K : PySem.W.Frag} {H : Hp} {v : V} {x : Str × Nat} (h : PairT H v x) : Dp K H v (.tuple [.str x.1, .int (x.2 : Nat)]) := by
  obtain ⟨t, rfl, ht⟩ := h
  exact .tup (SqT.of ht) (.cons (.str _) (.cons (.int _) .nil))
/-- two dicts of the same data are equal -/
theorem RelA.eqs {K : PySem.W.Frag} {H : Hp} {ks ls : List (Key × V)} {A : As} (h : RelA H ks A) (h2 : RelA H ls A) (nd : (A.map (·.1)).Nodup) (ha : ∀ a ∈ A, asc a.2.1 = true) :
    ks.length = ls.length ∧ ∀ p ∈ ks, ∃ u d, valV ls p.1 = some u ∧ Dp K H p.2 d ∧ Dp K H u d ∧ d.canLay0 = true ∧ d.depth ≤ 60 := by
  refine ⟨(Paired.length h).trans (Paired.length h2).symm, fun p hp => ?_⟩
  obtain ⟨i, hi, rfl⟩ := List.getElem_of_mem hp
  obtain ⟨a, haa, e1, e2⟩ := paired_at h (List.getElem?_eq_getElem hi)
  have hm := List.mem_of_getElem? haa
  obtain ⟨v, hv, hp2⟩ := h2.look nd hm
  have hl := pair_lay (n := a.2.1) (i := a.2.2) (ha a hm)
  exact ⟨v, _, by rw [e1]; exact hv, e2.dp, hp2.dp, hl.1, hl.2⟩
/-- over a list that stays -/
theorem dc_list {K : PySem.W.Frag} {a : Addr} {xs : List V} {g : TG} {tt : TT} {tk tv : TE} {vs : List Nat} {σ : L2.St} {H1 : Hp} {D : Addr} {Qd : Hp → Prop} (Pv : Nat → Hp → Prop) (h0 : Pv 0 (upd H1 D (.dK []))) (hl : ∀ i H, i ≤ xs.length → Pv i H → SqL K H a xs)
    (hs : ∀ i x H, xs[i]? = some x → Pv i H → g x (wipe σ vs) H fun σ2 H2 => wipe σ2 vs = wipe σ vs ∧ tt σ2 H2 fun b H3 =>
      if b = true then tk σ2 H3 fun y H4 => tv σ2 H4 fun z H5 => ∃ kvs k, y = kV k ∧ H5 D = some (.dK kvs) ∧ kvs.length < sizeLine ∧ Pv (i + 1) (upd H5 D (.dK (putK kvs k z))) else Pv (i + 1) H3) (hd : ∀ H, Pv xs.length H → Qd H) :
    ∃ W : Nat → Nat → Hp → Prop, (∃ m, W 0 m (upd H1 D (.dK []))) ∧ ∀ i m H, W i m H →
      ((Itl K a).stop i H ∧ Qd H) ∨ ((Itl K a).go i H ∧ ∃ Nx : Hp → Prop, (∀ H', Nx H' → ∃ m', m' < m ∧ W (i + 1) m' H') ∧ ∀ x H', (Itl K a).yld i H x H' → g x (wipe σ vs) H' fun σ2 H2 => wipe σ2 vs = wipe σ vs ∧ tt σ2 H2 fun b H3 =>
        if b = true then tk σ2 H3 fun y H4 => tv σ2 H4 fun z H5 => ∃ kvs k, y = kV k ∧ H5 D = some (.dK kvs) ∧ kvs.length < sizeLine ∧ Nx (upd H5 D (.dK (putK kvs k z))) else Nx H3) := by
  have w := walk_list (K := K) (a := a) (xs := xs)
  refine ⟨fun i m H => m = xs.length - i ∧ i ≤ xs.length ∧ Pv i H, ⟨xs.length, by simp, Nat.zero_le _, h0⟩, ?_⟩
  rintro i m H ⟨rfl, hi, p⟩
  have q := hl i H hi p
  by_cases hlt : i < xs.length
  · refine .inr ⟨w.goes i H hlt q, Pv (i + 1), fun H' p' => ⟨xs.length - (i + 1), by omega, rfl, hlt, p'⟩, fun x H' y => ?_⟩
    obtain ⟨e, hx⟩ := w.yields i H x H' hlt q y
    rw [e]
    exact hs i x H hx p
  · have e : i = xs.length := by omega
    subst e
    exact .inl ⟨w.stops H q, hd H p⟩
section
variable {P : Program} {w : World} {K : PySem.W.Frag} {mg : Str → Option Value} {base : Heap}
abbrev sPMarksOf : Stmt := topS 2
abbrev NPMarksOf : List Str := ["program", "mark", "name", "r"]
theorem scPMarksOf : FnScope NPMarksOf ["program"] (fnScope sPMarksOf) := ⟨rfl, rfl, rfl, by decide +kernel, rfl, by decide +kernel, by decide +kernel⟩
/-- of a program at tm, its marks as a dict -/
def spMarksOf : Sp := fun vs H Q _ => ∃ (tm d0 d1 d : Addr) (k : List (Key × V)) (ps : List (Str × List (Option Str))), vs = [.ref tm] ∧ H tm = some (.tup [.ref d0, .ref d1, .ref d]) ∧ H d = some (.dK k) ∧ PartsM H k ps ∧ sortedS (ps.map (·.1)) = true ∧ (ps.map (·.1)).Nodup ∧ ps.length < 64 ∧
  ∀ (l : Addr) (kvs : List (Key × V)) (H' : Hp), H l = none → H' l = some (.dK kvs) → RelA H' kvs (dA (trP ps ps.length)) → Same H H' → Q (.ref l) H'
theorem c_marksOf (T : Tp mg) (c_PMarksIn : Cal P w K mg base 1 "marks_in" spMarksIn []) {f : Addr} {fd : FuncData} (D : Def K mg "marks_of" sPMarksOf f fd) (b : Binds K fd ["program"] []) : Cal P w K mg base 2 "marks_of" spMarksOf [] := by
  refine cal0 D b .nil scPMarksOf (fun vs H Q E h => ?_) (fun cdv A outer s H vs Q E hr h => ?_)
  · obtain ⟨tm, d0, d1, d, k, ps, rfl, _⟩ := h
    rfl
  · obtain ⟨tm, d0, d1, d, k, ps, rfl, htm, hd, hM, hso, hnd, h64, q⟩ := h
    have nd := scPMarksOf.nd
    refine ⟨_, (pss_one (ps_ret (pe_dc (own := [("mark", 1), ("name", 2), ("r", 3)]) (g := gTup K 3 (gCons (gName 1) (gCons (gName 2) (gCons (gName 3) gNil)))) rfl nd (pi_list (pe_c c_PMarksIn hr (by decide) (by rfl) (pa_cons (pe_ix ix_tup (pv 0) pe_int (fun _ _ => rfl)) pa_nil))) (blkOk_by (own := [("mark", 1), ("name", 2), ("r", 3)]) (N := NPMarksOf) (sc := fnScope sPMarksOf) (by decide +kernel))
      (fun _ _ _ _ _ => pg_tup (n := 3) rfl (pgs_cons (pg_name (i := 1) nd rfl (Or.inl rfl)) (pgs_cons (pg_name (i := 2) nd rfl (Or.inl rfl)) (pgs_cons (pg_name (i := 3) nd rfl (Or.inl rfl)) pgs_nil)))) (fun _ _ _ _ _ => pts_nil) (fun _ _ _ _ _ => pv 1) (fun _ _ _ _ _ => pe_tup (pa_cons (pv 2) (pa_cons (pv 3) pa_nil)))))), ?_⟩
    refine ⟨_, rfl, tm, _, _, .ref d, rfl, rfl, SqT.of htm, atI_nat (j := 2) rfl, d, k, ps, rfl, hd, hM, hso, hnd, h64, fun l us H1 hl1 hl2 hT s1 => ⟨l, rfl, ⟨_, SqL.of hl2⟩, fun Dl hDl => ?_⟩⟩
    have hul := Paired.length hT
    have htl := trP_len hM.lens ps.length
    have fD : H Dl = none := none_of s1 hDl
    refine dc_list (K := K) (a := l) (xs := us) (fun i H' => ∃ kvs, H' Dl = some (.dK kvs) ∧ kvs.length ≤ i ∧ RelA H' kvs (dA ((trP ps ps.length).take i)) ∧ H' l = some (.lst us) ∧ Paired (Trip H') us (trP ps ps.length) ∧ Same H H')
      ⟨[], upd_same, Nat.le_refl _, .nil, Same.new hDl _ _ hl2, Paired.mapP hT fun _ _ r => r.mono (TupS.new hDl), s1.trans (Same.new hDl)⟩ (fun i H' _ hW => ?_) (fun i x H' hx hW => ?_) (fun H' hW => ?_)
    · obtain ⟨kvs, _, _, _, hl, _⟩ := hW
      exact SqL.of hl
    · obtain ⟨kvs, hk, hkl, hR, hl, hT', sm⟩ := hW
      have hi : i < us.length := (List.getElem?_eq_some_iff.mp hx).1
      obtain ⟨tr, htr, a, rfl, ha⟩ := paired_at hT' hx
      refine ⟨a, _, rfl, SqT.of ha, rfl, _, _, rfl, _, _, rfl, _, _, rfl, rfl, rfl, ?_⟩
      unfold tYes; dsimp only
      rw [if_pos rfl]
      refine ⟨_, rfl, _, rfl, _, rfl, (by show 2 ≤ sizeLine; decide), fun t ht => ?_⟩
      have s2 : Same H' (upd H' t (.tup [.str tr.2.1, .int (tr.2.2 : Nat)])) := Same.new ht
      have hk2 := s2 _ _ hk
      have T3 : TupS (upd H' t (.tup [.str tr.2.1, .int (tr.2.2 : Nat)])) (upd (upd H' t (.tup [.str tr.2.1, .int (tr.2.2 : Nat)])) Dl (.dK (putK kvs (Sum.inr tr.1) (.ref t)))) := tups_dict hk2
      have T23 := (TupS.same s2).trans T3
      refine ⟨kvs, Sum.inr tr.1, rfl, hk2, by rw [sizeLine_eq]; omega, _, upd_same, ?_, ?_, ?_, Paired.mapP hT' fun _ _ r => r.mono T23, same_own (sm.trans s2) fD⟩
      · have := length_putK kvs (Sum.inr tr.1) (.ref t)
        omega
      · rw [List.take_succ, htr]
        show RelA _ _ (dA (_ ++ [tr]))
        rw [dA_snoc]
        exact RelA.mono T3 (RelA.put (RelA.mono (TupS.same s2) hR) tr.1 ⟨t, rfl, upd_same⟩)
      · rw [upd_ne (ne_obj (s2 _ _ hl) hk2 (fun z => nomatch z))]
        exact s2 _ _ hl
    · obtain ⟨kvs, hk, hkl, hR, hl, hT', sm⟩ := hW
      refine q Dl kvs H' fD hk ?_ sm
      rw [hul, List.take_length] at hR
      exact hR
end
end K27
set_option Elab.async false
set_option linter.all false
set_option maxRecDepth 100000
set_option maxHeartbeats 4000000
namespace K27
open PySem PySem.Spec PyProof.Rows L2
open C8 (Cal Def cal0 pe_c fnBody fnScope fnArgs)
def Trip2 (H : Hp) (v : V) (t : Str × Str × Nat) : Prop := ∃ a b : Addr, v = .ref a ∧ H a = some (.tup [.str t.1, .ref b]) ∧ H b = some (.tup [.str t.2.1, .int (t.2.2 : Nat)])
theorem Trip2.mono {H H' : Hp} {v : V} {t : Str × Str × Nat} (e : TupS H H') (h : Trip2 H v t) : Trip2 H' v t := let ⟨a, b, h1, h2, h3⟩ := h; ⟨a, b, h1, e _ _ h2, e _ _ h3⟩
/-- as dict(..) wants them -/
theorem pairs_of {K : PySem.W.Frag} {H : Hp} {us : List V} {ts : List (Str × Str × Nat)} (h : Paired (Trip2 H) us ts) : ∃ (ads : List Addr) (kvs : List (Key × V)), us = ads.map V.ref ∧ Paired (fun p kv => SqT K H p [kV kv.1, kv.2]) ads kvs ∧ Paired (fun (q : Key × V) t => q.1 = Sum.inr t.1 ∧ PairT H q.2 t.2) kvs ts := by
  induction h with
  | nil => exact ⟨[], [], rfl, .nil, .nil⟩
  | @cons u t us ts h1 r ih =>
    obtain ⟨ads, kvs, e, p1, p2⟩ := ih
    obtain ⟨a, b, rfl, ha, hb⟩ := h1
    exact ⟨a :: ads, (Sum.inr t.1, .ref b) :: kvs, by rw [e]; rfl, .cons (SqT.of ha) p1, .cons ⟨rfl, b, rfl, hb⟩ p2⟩
theorem merge_rel {H : Hp} {kvs : List (Key × V)} {ts : List (Str × Str × Nat)} (h : Paired (fun (q : Key × V) t => q.1 = Sum.inr t.1 ∧ PairT H q.2 t.2) kvs ts) : ∀ {k : List (Key × V)} {A : As}, RelA H k A → RelA H (mergeK k kvs) (ts.foldl (fun A t => putA A t.1 t.2) A) := by
  induction h with
  | nil => intro k A r; exact r
  | @cons q t qs ts h1 r ih =>
    intro k A rr
    show RelA H (mergeK (putK k q.1 q.2) qs) _
    refine ih ?_
    rw [h1.1]
    exact rr.put t.1 h1.2
section
variable {P : Program} {w : World} {K : PySem.W.Frag} {mg : Str → Option Value} {base : Heap}
abbrev sLMarks : Stmt := topS 17
abbrev NLMarks : List Str := ["_law_parts", "_law_found", "_law_name_here", "_law_r", "_law_row_here"]
theorem scLMarks : FnScope NLMarks ["_law_parts"] (fnScope sLMarks) := ⟨rfl, rfl, rfl, by decide +kernel, rfl, by decide +kernel, by decide +kernel⟩
def spLMarks : Sp := fun vs H Q _ => ∃ (d : Addr) (k : List (Key × V)) (ps : List (Str × List (Option Str))), vs = [.ref d] ∧ H d = some (.dK k) ∧ PartsM H k ps ∧ (ps.map (·.1)).Nodup ∧ ps.length < 64 ∧
  ∀ (l : Addr) (us : List V) (H' : Hp), H l = none → H' l = some (.lst us) → Paired (Trip2 H') us (trP ps ps.length) → Same H H' → Q (.ref l) H'
theorem c_lmarks (T : Tp mg) {f : Addr} {fd : FuncData} (D : Def K mg "_law_marks" sLMarks f fd) (b : Binds K fd ["_law_parts"] []) : Cal P w K mg base 1 "_law_marks" spLMarks [] := by
  refine cal0 D b .nil scLMarks (fun vs H Q E h => ?_) (fun cdv A outer s H vs Q E hr h => ?_)
  · obtain ⟨d, k, ps, rfl, _⟩ := h
    rfl
  · obtain ⟨d, k, ps, rfl, hd0, hM0, hnd, h64, q⟩ := h
    have nd := scLMarks.nd
    have hu1 : (A.deeper (envOfC "_law_marks" (fnScope sLMarks) s.heap.objs.size f cdv)).units + 1 < cLine := by have := hr.un; omega
    refine ⟨_, (pss_cons (ps_set (i := 1) nd rfl (.inl rfl) (pe_lst pa_nil))
     (pss_cons (ps_lock (ps_for PassesOwn.never rfl (pi_keys (pv 0)) (pg_name (i := 2) nd rfl (.inl rfl))
       (pss_one (ps_for PassesOwn.never rfl (pi_enumT (by rfl) T.n_enumerate (pa_cons (pe_ix ix_tup (pe_dget hu1 (pv 0) (pv 2) (fun _ _ => rfl)) pe_int (fun _ _ => rfl)) pa_nil)) (pg_tup (n := 2) rfl (pgs_cons (pg_name (i := 3) nd rfl (.inl rfl)) (pgs_cons (pg_name (i := 4) nd rfl (.inl rfl)) pgs_nil)))
         (pss_one (ps_if (pt_cmpR op_eq (pe_ix ix_tup (pv 4) pe_int (fun _ _ => rfl)) pe_str (nomark _))
           (pss_one (ps_expr (pe_bm PySem.F.plainAttrs_list PySem.F.slot_list_append PySem.F.type_list_append mt_append (pv 1) (pa_cons (pe_tup (pa_cons (pe_ix ix_tup (pv 4) pe_int (fun _ _ => rfl)) (pa_cons (pe_tup (pa_cons (pv 2) (pa_cons (pv 3) pa_nil))) pa_nil))) pa_nil))))
           pss_nil))))))
     (pss_one (ps_ret (pv 1))))), ?_⟩
    refine ⟨(by show 0 ≤ sizeLine; decide), fun lf hlf => ?_⟩
    have hd1 : (upd H lf (.lst [])) d = some (.dK k) := Same.new hlf _ _ hd0
    refine ⟨d, .dK k, hd1, trivial, fun od => ?_⟩
    have ndf : lf ≠ d := fun e => by rw [e, hd0] at hlf; cases hlf
    have hd : (upd (upd H lf (.lst [])) d (.frz od (.dK k))) d = some (.frz od (.dK k)) := upd_same
    have hM : PartsM (upd (upd H lf (.lst [])) d (.frz od (.dK k))) k ps := PartsM.mono ((TupS.new hlf).trans (tups_dict hd1)) hM0
    have hlf0 : (upd (upd H lf (.lst [])) d (.frz od (.dK k))) lf = some (.lst []) := by rw [upd_ne ndf, upd_same]
    have out : ∀ H', Same (upd (upd H lf (.lst [])) d (.frz od (.dK k))) (upd H' lf (.lst [])) ∨ True := fun _ => .inr trivial
    have back : ∀ H', (∀ b o, b ≠ lf → (upd (upd H lf (.lst [])) d (.frz od (.dK k))) b = some o → H' b = some o) → Same H (upd H' d (.dK k)) := fun H' h b o hb => by
      by_cases e : b = d
      · rw [e, upd_same]
        rw [e] at hb
        rw [hd0] at hb
        exact hb
      · rw [upd_ne e]
        refine h b o (fun z => by rw [z, hlf] at hb; cases hb) ?_
        rw [upd_ne e]
        exact Same.new hlf _ _ hb
    generalize upd (upd H lf (.lst [])) d (.frz od (.dK k)) = HL at *
    refine ⟨_, rfl, d, od, rfl, .inl ⟨k, hd, ?_⟩⟩
    have hkl := Paired.length hM
    have keepF : ∀ {H' : Hp} {o : HO}, (∀ b o, b ≠ lf → HL b = some o → H' b = some o) → ∀ b u, b ≠ lf → HL b = some u → (upd H' lf o) b = some u := fun h b u nb hb => by
      rw [upd_ne nb]
      exact h b u nb hb
    refine for_it (walk_keys (d := d) (o := od) (kvs := k)) (fun j σ H' => ∃ (v2 v3 v4 : Option V) (us : List V), σ = [some (.ref d), some (.ref lf), v2, v3, v4] ∧ H' lf = some (.lst us) ∧ Paired (Trip2 H') us (trP ps j) ∧ TupS HL H' ∧ (∀ b o, b ≠ lf → HL b = some o → H' b = some o))
      ⟨_, _, _, [], rfl, hlf0, .nil, TupS.refl _, fun _ _ _ h => h⟩ (fun j σ H' _ hW => ?_) (fun j x σ H' H1' hj' hW hY => ?_) (fun σ H' hW => ?_)
    · obtain ⟨v2, v3, v4, us, rfl, hf, hT, tm, sm⟩ := hW
      exact sm d _ ndf.symm hd
    · obtain ⟨v2, v3, v4, us, rfl, hf, hT, tm, sm⟩ := hW
      obtain ⟨rfl, kk, vv, hkv, rfl⟩ := hY
      obtain ⟨⟨n, os⟩, hj, e1, _⟩ := paired_at hM hkv
      have e1' : kk = Sum.inr n := e1
      subst e1'
      have hj64 : j < 64 := Nat.lt_trans (List.getElem?_eq_some_iff.mp hj).1 h64
      have hM' := PartsM.mono tm hM
      obtain ⟨v, hv, hp⟩ := hM'.get hnd hj
      obtain ⟨t, x0, y0, a, rs, rfl, ht, ha, hR⟩ := hp.ex
      have hlens := hM.lens
      have hosl := hp.ln
      have hdf := sm d _ ndf.symm hd
      refine ⟨_, rfl, _, rfl, d, .ref t, rfl, .inl ⟨k, Sum.inr n, .inr ⟨od, hdf⟩, rfl, hv.symm⟩, t, _, _, .ref a, rfl, rfl, SqT.of ht, atI_nat (j := 2) rfl, a, rs, rfl, SqT.of ha, ?_⟩
      have hrl := Paired.length hR
      refine for_it (walk_enumT (K := K) (a := a) (xs := rs)) (fun i σ H'' => ∃ (v3 v4 : Option V) (us : List V), σ = [some (.ref d), some (.ref lf), some (.str n), v3, v4] ∧ H'' lf = some (.lst us) ∧ Paired (Trip2 H'') us (trP ps j ++ trN n os i) ∧ TupS HL H'' ∧ (∀ b o, b ≠ lf → HL b = some o → H'' b = some o) ∧ H'' a = some (.tup rs) ∧ Paired (RowM H'') rs os)
        ⟨_, _, us, rfl, hf, by rw [show trN n os 0 = [] from rfl, List.append_nil]; exact hT, tm, sm, ha, hR⟩ (fun i σ H'' _ hW => ?_) (fun i x σ H1 H'' hi hW hY => ?_) (fun σ H'' hW => ?_)
      · obtain ⟨_, _, _, _, _, _, _, _, ha2, _⟩ := hW
        exact SqT.of ha2
      · obtain ⟨v3, v4, us, rfl, hf, hT, tm1, sm1, ha1, hR1⟩ := hW
        obtain ⟨Tt, u, rfl, hTt, rfl, hu⟩ := hY
        obtain ⟨o, ho, hrow⟩ := paired_at hR1 hu
        have s2 : Same H1 (upd H1 Tt (.tup [.int (i : Nat), u])) := Same.new hTt
        obtain ⟨ra, z, tl, rfl, hra, hc⟩ := hrow.mono (TupS.same s2)
        have hf2 := s2 _ _ hf
        have hT2 := Paired.mapP hT fun _ _ r => r.mono (TupS.same s2)
        have ha2 := s2 _ _ ha1
        have hR2 := Paired.mapP hR1 fun _ _ r => RowM.mono (TupS.same s2) r
        have tm2 := tm1.trans (TupS.same s2)
        have sm2 : ∀ b o, b ≠ lf → HL b = some o → (upd H1 Tt (.tup [.int (i : Nat), .ref ra])) b = some o := fun b o nb hb => s2 _ _ (sm1 b o nb hb)
        have hlen : us.length ≤ 70000 := by
          have h1 := Paired.length hT
          rw [List.length_append] at h1
          have h2 := trP_len hlens j
          have h3 := trN_len n os i
          omega
        refine ⟨Tt, _, rfl, SqT.of upd_same, rfl, _, _, rfl, _, _, rfl, rfl, ?_⟩
        generalize upd H1 Tt (.tup [.int (i : Nat), .ref ra]) = H2 at *
        refine ⟨_, rfl, ra, _, _, .str z, rfl, rfl, SqT.of hra, atI_nat (j := 0) rfl, rfl, _, rfl, ite2 (fun e => ?_) (fun e => ?_)⟩
        · have ez : z = "mark" := V.str.inj (of_decide_eq_true e)
          rcases hc with ⟨_, m, rfl, rfl⟩ | ⟨c, _⟩
          · refine ⟨_, rfl, .inl ⟨rfl, _, SqL.of hf2⟩, _, rfl, ra, _, _, .str m, rfl, rfl, SqT.of hra, atI_nat (j := 1) rfl, _, rfl, _, rfl, (by show 2 ≤ sizeLine; decide), fun t2 ht2 => ⟨(by show 2 ≤ sizeLine; decide), fun tt htt => ?_⟩⟩
            have s3 : Same H2 (upd (upd H2 t2 (.tup [.str n, .int (i : Nat)])) tt (.tup [.str m, .ref t2])) := (Same.new ht2).trans (Same.new htt)
            have et2 : (upd (upd H2 t2 (.tup [.str n, .int (i : Nat)])) tt (.tup [.str m, .ref t2])) t2 = some (.tup [.str n, .int (i : Nat)]) := Same.new htt _ _ upd_same
            have ett : (upd (upd H2 t2 (.tup [.str n, .int (i : Nat)])) tt (.tup [.str m, .ref t2])) tt = some (.tup [.str m, .ref t2]) := upd_same
            have hf3 := s3 _ _ hf2
            refine ⟨lf, us, _, rfl, rfl, hf3, by rw [sizeLine_eq]; omega, ?_⟩
            generalize upd (upd H2 t2 (.tup [.str n, .int (i : Nat)])) tt (.tup [.str m, .ref t2]) = H3 at *
            have T4 : TupS H3 (upd H3 lf (.lst (us ++ [.ref tt]))) := TupS.put hf3
            have T24 := (TupS.same s3).trans T4
            refine ⟨_, _, us ++ [.ref tt], rfl, upd_same, ?_, tm2.trans T24, keepF (fun b o nb hb => s3 _ _ (sm2 b o nb hb)), T24 _ _ ha2, Paired.mapP hR2 fun _ _ r => r.mono T24⟩
            rw [show trN n os (i + 1) = trN n os i ++ [(m, n, i)] by show _ ++ _ = _; rw [ho], ← List.append_assoc]
            exact paired_snoc (Paired.mapP hT2 fun _ _ r => r.mono T24) ⟨tt, t2, rfl, T4 _ _ ett, T4 _ _ et2⟩
          · exact absurd ez c
        · have ez : z ≠ "mark" := fun h => e (decide_eq_true (by rw [h]))
          rcases hc with ⟨c, _⟩ | ⟨_, rfl⟩
          · exact absurd c ez
          · refine ⟨_, _, us, rfl, hf2, ?_, tm2, sm2, ha2, hR2⟩
            rw [show trN n os (i + 1) = trN n os i by show _ ++ _ = _; rw [ho, List.append_nil]]
            exact hT2
      · obtain ⟨v3, v4, us, rfl, hf, hT, tm1, sm1, ha1, hR1⟩ := hW
        refine ⟨_, _, _, us, rfl, hf, ?_, tm1, sm1⟩
        rw [show trP ps (j + 1) = trP ps j ++ trN n os os.length by show _ ++ _ = _; rw [hj], ← hrl]
        exact hT
    · obtain ⟨v2, v3, v4, us, rfl, hf, hT, tm, sm⟩ := hW
      have hdf := sm d _ ndf.symm hd
      refine ⟨hdf, _, rfl, q lf us _ hlf (by rw [upd_ne ndf]; exact hf) ?_ (back H' sm)⟩
      rw [hkl] at hT
      refine Paired.mapP hT fun _ _ r => r.mono fun b xs e => ?_
      rw [upd_ne (fun z => by rw [z, hdf] at e; cases e)]
      exact e
end
end K27
set_option Elab.async false
set_option linter.all false
set_option maxRecDepth 100000
set_option maxHeartbeats 4000000
namespace K27
open PySem PySem.Spec PyProof.Rows L2
open C8 (Cal Def cal0 pe_c fnBody fnScope fnArgs)
theorem iteF' {c : Bool} {A B : Prop} (e : c = false) (h : B) : if c = true then A else B := by
  subst e
  exact iteF h
theorem sqL_same {K : PySem.W.Frag} {H H' : Hp} {a : Addr} {xs : List V} (e : Same H H') (h : SqL K H a xs) : SqL K H' a xs := by
  rcases h with h | h
  · rcases h with h | ⟨d, h⟩
    · exact .inl (.inl (e _ _ h))
    · exact .inl (.inr ⟨d, e _ _ h⟩)
  · exact .inr h
theorem int_of {xs : List Int} {v : V} (h : v ∈ xs.map V.int) : ∃ n, v = .int n := by
  obtain ⟨n, _, e⟩ := List.mem_map.mp h
  exact ⟨n, e.symm⟩
theorem cut_six (ns : List Int) : ∃ ms : List Int, cutV (ns.map V.int) none (some 6) = ms.map V.int ∧ ms.length ≤ ns.length := by
  unfold cutV
  refine ⟨(ns.drop (HT.sIx (ns.map V.int).length 0 none)).take (HT.sIx (ns.map V.int).length (ns.map V.int).length (some 6) - HT.sIx (ns.map V.int).length 0 none), ?_, ?_⟩
  · simp [List.map_take, List.map_drop]
  · simp only [List.length_take, List.length_drop, List.length_map]
    omega
theorem trN_asc {n : Str} (h : asc n = true) (os : List (Option Str)) : ∀ i, ∀ t ∈ trN n os i, asc t.2.1 = true
  | 0 => fun t ht => nomatch ht
  | i + 1 => fun t ht => by
    have ht' : t ∈ trN n os i ++ (match os[i]? with | some (some m) => [(m, n, i)] | _ => []) := ht
    rcases List.mem_append.mp ht' with z | z
    · exact trN_asc h os i t z
    · split at z
      · rw [List.mem_singleton.mp z]; exact h
      · cases z
theorem trP_asc {ps : List (Str × List (Option Str))} (h : ∀ n ∈ ps.map (·.1), asc n = true) : ∀ j, ∀ t ∈ trP ps j, asc t.2.1 = true
  | 0 => fun t ht => nomatch ht
  | j + 1 => fun t ht => by
    have ht' : t ∈ trP ps j ++ (match ps[j]? with | some (n, os) => trN n os os.length | none => []) := ht
    rcases List.mem_append.mp ht' with z | z
    · exact trP_asc h j t z
    · split at z
      · rename_i n os e
        exact trN_asc (h n (List.mem_map.mpr ⟨_, List.mem_of_getElem? e, rfl⟩)) os _ t z
      · cases z
/-- a program at tm, its parts at d -/
structure Pg (H : Hp) (tm d : Addr) (k : List (Key × V)) (ps : List (Str × List (Option Str))) : Prop where
  tm_ : ∃ d0 d1, H tm = some (.tup [.ref d0, .ref d1, .ref d])
  d_ : H d = some (.dK k)
  m : PartsM H k ps
  so : sortedS (ps.map (·.1)) = true
  nd : (ps.map (·.1)).Nodup
  ln : ps.length < 64
  as_ : ∀ n ∈ ps.map (·.1), asc n = true
theorem Pg.mono {H H' : Hp} {tm d : Addr} {k : List (Key × V)} {ps : List (Str × List (Option Str))} (h : Pg H tm d k ps) (e : TupS H H') (hd : H' d = some (.dK k)) : Pg H' tm d k ps :=
  let ⟨d0, d1, h1⟩ := h.tm_
  ⟨⟨d0, d1, e _ _ h1⟩, hd, h.m.mono e, h.so, h.nd, h.ln, h.as_⟩
theorem Pg.same {H H' : Hp} {tm d : Addr} {k : List (Key × V)} {ps : List (Str × List (Option Str))} (h : Pg H tm d k ps) (e : Same H H') : Pg H' tm d k ps := h.mono (TupS.same e) (e _ _ h.d_)
abbrev mD (ps : List (Str × List (Option Str))) : As := dA (trP ps ps.length)
theorem Pg.good {H : Hp} {tm d : Addr} {k : List (Key × V)} {ps : List (Str × List (Option Str))} (h : Pg H tm d k ps) : ((mD ps).map (·.1)).Nodup ∧ ∀ a ∈ mD ps, asc a.2.1 = true :=
  ⟨foldA_keys _ [] List.nodup_nil, foldA_mem (p := fun x => asc x.1 = true) _ [] (trP_asc h.as_ _) fun a ha => nomatch ha⟩
theorem RelA.dq {K : PySem.W.Frag} {H : Hp} {k : List (Key × V)} {A : As} (h : RelA H k A) : DqAll K H (k.map fun q => kV q.1) (A.map fun a => PyData.str a.1) ∧ DqAll K H (k.map (·.2)) (A.map fun a => PyData.tuple [.str a.2.1, .int (a.2.2 : Nat)]) := by
  induction h with
  | nil => exact ⟨.nil, .nil⟩
  | @cons q a k A h1 t ih =>
    obtain ⟨i1, i2⟩ := ih
    refine ⟨.cons ?_ i1, .cons h1.2.dp.q i2⟩
    show Dq K H (kV q.1) _
    rw [h1.1]
    exact .str _
theorem RelA.dict {K : PySem.W.Frag} {H : Hp} {l : Addr} {k : List (Key × V)} {A : As} (h : RelA H k A) (e : H l = some (.dK k)) : Dq K H (.ref l) (.dict (A.map fun a => (PyData.str a.1, PyData.tuple [.str a.2.1, .int (a.2.2 : Nat)]))) := by
  obtain ⟨h1, h2⟩ := h.dq (K := K)
  refine .dct e ?_ ?_
  · rw [List.map_map]; exact h1
  · rw [List.map_map]; exact h2
section
variable {P : Program} {w : World} {K : PySem.W.Frag} {mg : Str → Option Value} {base : Heap}
abbrev sLaw : Stmt := topS 18
abbrev NLaw : List Str := ["_law_script", "_law_elder", "_law_cell_here", "_law_program_here", "_law_found", "_law_due", "_law_place"]
theorem scLaw : FnScope NLaw ["_law_script"] (fnScope sLaw) := ⟨rfl, rfl, rfl, by decide +kernel, rfl, by decide +kernel, by decide +kernel⟩
def spLaw (K : PySem.W.Frag) : Sp := fun vs H Q _ => ∃ (a : Addr) (ns : List Int), vs = [.ref a] ∧ SqL K H a (ns.map V.int) ∧ ns.length ≤ 63 ∧ ∀ H', Q (.bl true) H'
theorem f_law (T : Tp mg) (c_LCell : Cal P w K mg base 1 "_law_cell" (spCell K) []) (c_LPot : Cal P w K mg base 1 "_law_pot" spPot []) (c_LProgram : Cal P w K mg base 26 "_law_program" spProgram []) (c_PMarksOf : Cal P w K mg base 2 "marks_of" spMarksOf []) (c_LMarks : Cal P w K mg base 1 "_law_marks" spLMarks [])
    {f : Addr} {fd : FuncData} (D : Def K mg "law" sLaw f fd) : FnG P w K mg base C8.CX0 27 f fd ["_law_script"] (spLaw K) := by
  refine fnG0 D scLaw (fun vs H Q E h => ?_) (fun cdv A outer s H vs Q E hg hr h => ?_)
  · obtain ⟨a, ns, rfl, _⟩ := h
    rfl
  · obtain ⟨a, ns, rfl, hS, hn, q⟩ := h
    have nd := scLaw.nd
    refine ⟨_, (pss_cons (ps_set (i := 1) nd rfl (.inl rfl) (pe_tup (pa_cons pe_dnewK (pa_cons pe_dnewK (pa_cons pe_dnewK pa_nil)))))
    (pss_cons (ps_for PassesOwn.never rfl (pi_list (pe_op op_cat (pe_lst (pa_cons (pe_op op_add (pe_c c_LCell hr (by decide) (by rfl) (pa_cons (pv 0) (pa_cons pe_int pa_nil))) (pe_op op_mul pe_int (pe_callB call_len_seq (by rfl) T.n_len (by decide +kernel) (pa_cons (pv 0) pa_nil)))) pa_nil)) (pe_slice sl_list (pv 0) po_none (po_some pe_int)))) (pg_name (i := 2) nd rfl (.inl rfl))
      (pss_cons (ps_set (i := 3) nd rfl (.inl rfl) (pe_c c_LProgram hr (by decide) (by rfl) (pa_cons (pe_c c_LPot hr (by decide) (by rfl) (pa_cons (pv 2) pa_nil)) (pa_cons pe_int pa_nil))))
      (pss_cons (ps_set (i := 4) nd rfl (.inl rfl) (pe_c c_PMarksOf hr (by decide) (by rfl) (pa_cons (pv 3) pa_nil)))
      (pss_cons (ps_set (i := 5) nd rfl (.inl rfl) (pe_callTy (call_dictP rfl) (by rfl) T.n_dict (by decide +kernel) (pa_cons (pe_c c_LMarks hr (by decide) (by rfl) (pa_cons (pe_ix ix_tup (pv 3) pe_int (fun _ _ => rfl)) pa_nil)) pa_nil)))
      (pss_cons (ps_if (PW.pt (pw_or (pt_not (pt_val (pe_callB call_isQ (by rfl) T.n_isinstance (by decide +kernel) (pa_cons (pv 4) (pa_cons (pe_bltn (v := .ty "dict") (by rfl) T.n_dict (by decide +kernel) rfl) pa_nil))))) (pw_or1 (pt_cmpR (op_neV hr.units) (pv 4) (pv 5) (nomark _)))))
        (pss_one (ps_ret pe_bl))
        pss_nil)
      (pss_cons (ps_if (pt_not (pt_val (pe_callB (cr_all rfl) (by rfl) T.n_all (by decide +kernel) (pa_cons (pe_lock (pe_lc (own := [("_law_place", 6)]) (g := gName 6) (by rfl) nd (pi_values (pv 4)) (blkOk_by (own := [("_law_place", 6)]) (N := NLaw) (sc := fnScope sLaw) (by decide +kernel)) (fun _ _ _ _ _ => pg_name (i := 6) nd rfl (Or.inl rfl)) (fun _ _ _ _ _ => pts_nil)
          (fun _ _ _ _ _ => pe_and (pe_callB (id := "isinstance") (r := rIsD K) call_isD (by rfl) T.n_isinstance (by decide +kernel) (pa_cons (pv 6) (pa_cons (pe_bltn (v := .ty "tuple") (by rfl) T.n_tuple (by decide +kernel) rfl) pa_nil))) (pe_one (pe_not (pe_callB (id := "isinstance") (r := rIsD K) call_isD (by rfl) T.n_isinstance (by decide +kernel) (pa_cons (pe_ix (r := rIxT K) ix_tup (pv 6) pe_int (fun _ _ => rfl)) (pa_cons (pe_bltn (v := .ty "bool") (by rfl) T.n_bool (by decide +kernel) rfl) pa_nil)))))))) pa_nil))))
        (pss_one (ps_ret pe_bl))
        pss_nil)
      (pss_cons (ps_expr (pe_dclear (pv 4)))
      (pss_cons (ps_if (PW.pt (pw_or (pt_cmpR (op_neV hr.units) (pe_c c_PMarksOf hr (by decide) (by rfl) (pa_cons (pv 1) pa_nil)) (pe_callTy (call_dictP rfl) (by rfl) T.n_dict (by decide +kernel) (pa_cons (pe_c c_LMarks hr (by decide) (by rfl) (pa_cons (pe_ix ix_tup (pv 1) pe_int (fun _ _ => rfl)) pa_nil)) pa_nil)) (nomark _)) (pw_or1 (pt_cmpR (op_neV hr.units) (pe_c c_PMarksOf hr (by decide) (by rfl) (pa_cons (pv 3) pa_nil)) (pv 5) (nomark _)))))
        (pss_one (ps_ret pe_bl))
        pss_nil)
      (pss_one (ps_set (i := 1) nd rfl (.inl rfl) (pv 3)))))))))))
    (pss_one (ps_ret pe_bl)))), ?_⟩
    have hlen : (ns.map V.int).length = ns.length := List.length_map ..
    refine fun d0 hd0 d1 hd1 d2 hd2 => ⟨(by show 3 ≤ sizeLine; decide), fun e0 he0 => ?_⟩
    have S1 : Same H (upd (upd (upd (upd H d0 (.dK [])) d1 (.dK [])) d2 (.dK [])) e0 (.tup [.ref d0, .ref d1, .ref d2])) := (((Same.new hd0).trans (Same.new hd1)).trans (Same.new hd2)).trans (Same.new he0)
    have R0 : Pg (upd (upd (upd (upd H d0 (.dK [])) d1 (.dK [])) d2 (.dK [])) e0 (.tup [.ref d0, .ref d1, .ref d2])) e0 d2 [] [] := ⟨⟨d0, d1, upd_same⟩, Same.new he0 _ _ upd_same, .nil, rfl, List.nodup_nil, by decide, fun n hn => nomatch hn⟩
    generalize upd (upd (upd (upd H d0 (.dK [])) d1 (.dK [])) d2 (.dK [])) e0 (.tup [.ref d0, .ref d1, .ref d2]) = H1 at *
    have hS1 : SqL K H1 a (ns.map V.int) := sqL_same S1 hS
    refine ⟨_, rfl, a, ns, 6, rfl, hS1, by omega, fun n0 H2 s2 => ?_⟩
    have hS2 := sqL_same s2 hS1
    refine ⟨_, rfl, a, _, rfl, .inl hS2, _, _, rfl, rfl, .inl ⟨by omega, by omega⟩, _, _, rfl, rfl, (by show 1 ≤ sizeLine; decide), fun l1 hl1 => ?_⟩
    obtain ⟨ms, ems, lms⟩ := cut_six ns
    refine ⟨_, rfl, 6, rfl, a, _, rfl, sqL_same (Same.new hl1) hS2, fun l2 hl2 => ?_⟩
    rw [ems]
    refine ⟨l1, l2, _, _, rfl, rfl, by rw [upd_ne (ne_new hl2), upd_same], upd_same, ?_, fun lc hlc => ⟨lc, rfl, ⟨_, SqL.of upd_same⟩, ?_⟩⟩
    · rw [sizeLine_eq]
      simp only [List.length_cons, List.length_nil, List.length_map]
      omega
    · have R3 := R0.same (((s2.trans (Same.new (o := .lst [.int (n0 + 7 * ((ns.map V.int).length : Nat))]) hl1)).trans (Same.new (o := .lst (ms.map V.int)) hl2)).trans (Same.new (o := .lst ([.int (n0 + 7 * ((ns.map V.int).length : Nat))] ++ ms.map V.int)) hlc))
      refine for_list (K := K) (xs := [.int (n0 + 7 * ((ns.map V.int).length : Nat))] ++ ms.map V.int) (fun i σ H' => ∃ (v2 v3 v4 v5 : Option V) (el de : Addr) (ke : List (Key × V)) (pe : List (Str × List (Option Str))), σ = [some (.ref a), some (.ref el), v2, v3, v4, v5, none] ∧ H' lc = some (.lst ([.int (n0 + 7 * ((ns.map V.int).length : Nat))] ++ ms.map V.int)) ∧ Pg H' el de ke pe)
        ⟨_, _, _, _, e0, d2, [], [], rfl, upd_same, R3⟩ (fun i σ H' _ hW => ?_) (fun i x σ H' hx hW => ?_) (fun σ H' hW => ?_)
      · obtain ⟨v2, v3, v4, v5, el, de, ke, pe, rfl, hc, hR⟩ := hW
        exact SqL.of hc
      · obtain ⟨v2, v3, v4, v5, el, de, ke, pe, rfl, hc, hR⟩ := hW
        obtain ⟨n, rfl⟩ : ∃ n, x = .int n := by
          have hm := List.mem_of_getElem? hx
          rcases List.mem_append.mp hm with z | z
          · exact ⟨_, List.mem_singleton.mp z⟩
          · exact int_of z
        generalize ([.int (n0 + 7 * ((ns.map V.int).length : Nat))] ++ ms.map V.int : List V) = cs at *
        refine ⟨_, rfl, n, rfl, fun p H3 hp s3 hP => ⟨p, rfl, hP, fun tm q0 q1 q2 k ks H4 htm hd hk hso hnd has hln hOk g4 => ?_⟩⟩
        obtain ⟨ps, hM, rfl⟩ := parts_of k ks hk hOk
        have G4 : Pg H4 tm q2 k ps := ⟨⟨q0, q1, htm⟩, hd, hM, hso, hnd, by rw [List.length_map] at hln; exact hln, has⟩
        have hc4 : H4 lc = some (.lst cs) := g4.at (ne_some hc hp) (s3 _ _ hc)
        have E4 : Pg H4 el de ke pe := (hR.same s3).mono (g4.tups hP) (g4.at (ne_some hR.d_ hp) (s3 _ _ hR.d_))
        obtain ⟨gk, ga⟩ := G4.good
        obtain ⟨ek, ea⟩ := E4.good
        refine ⟨_, rfl, tm, q0, q1, q2, k, ps, rfl, htm, hd, hM, hso, hnd, G4.ln, fun lf kf H5 hn5 h5 r5 s5 => ?_⟩
        have G5 := G4.same s5
        have E5 := E4.same s5
        obtain ⟨g0, g1, htm5⟩ := G5.tm_
        refine ⟨_, rfl, tm, _, _, .ref q2, rfl, rfl, SqT.of htm5, atI_nat (j := 2) rfl, q2, k, ps, rfl, G5.d_, G5.m, hnd, G5.ln, fun ll us H6 hn6 h6 t6 s6 => ?_⟩
        obtain ⟨ads, kvs, eus, p1, p2⟩ := pairs_of (K := K) t6
        refine ⟨ll, ads, kvs, rfl, by rw [← eus]; exact SqL.of h6, p1, fun ld hld => ?_⟩
        have s7 : Same H6 (upd H6 ld (.dK (mergeK [] kvs))) := Same.new hld
        have h7 : (upd H6 ld (.dK (mergeK [] kvs))) ld = some (.dK (mergeK [] kvs)) := upd_same
        have r7 : RelA (upd H6 ld (.dK (mergeK [] kvs))) (mergeK [] kvs) (mD ps) := RelA.mono (TupS.same s7) (merge_rel p2 (k := []) (A := []) .nil)
        have hf7 : (upd H6 ld (.dK (mergeK [] kvs))) lf = some (.dK kf) := s7 _ _ (s6 _ _ h5)
        have nfd : lf ≠ ld := ne_some (s6 _ _ h5) hld
        have rf7 : RelA (upd H6 ld (.dK (mergeK [] kvs))) kf (mD ps) := RelA.mono (TupS.same (s6.trans s7)) r5
        have G7 := G5.same (s6.trans s7)
        have E7 := E5.same (s6.trans s7)
        have hc7 := s7 _ _ (s6 _ _ (s5 _ _ hc4))
        have n2f : q2 ≠ lf := ne_some hd hn5
        have nef : de ≠ lf := ne_some E4.d_ hn5
        have ncf : lc ≠ lf := ne_some hc4 hn5
        generalize upd H6 ld (.dK (mergeK [] kvs)) = H7 at *
        generalize mergeK [] kvs = kd at *
        obtain ⟨le, leq⟩ := rf7.eqs (K := K) r7 gk ga
        refine ⟨_, rfl, _, _, "dict", rfl, rf7.dict hf7, by decide, _, rfl, iteF ?_⟩
        refine ⟨_, rfl, _, rfl, lf, ld, kf, kd, rfl, rfl, hf7, h7, le, leq, _, rfl, iteF ?_⟩
        refine ⟨lf, .dK kf, hf7, trivial, fun od => ?_⟩
        have hLf : (upd H7 lf (.frz od (.dK kf))) lf = some (.frz od (.dK kf)) := upd_same
        have TL : TupS H7 (upd H7 lf (.frz od (.dK kf))) := tups_dict hf7
        have rL := RelA.mono TL rf7
        have keepL : ∀ b o, b ≠ lf → H7 b = some o → (upd H7 lf (.frz od (.dK kf))) b = some o := fun b o nb hb => by
          rw [upd_ne nb]
          exact hb
        generalize upd H7 lf (.frz od (.dK kf)) = HL at *
        refine ⟨_, rfl, lf, od, kf, rfl, hLf, fun Dl hDl => ?_⟩
        have nDf : Dl ≠ lf := (ne_some hLf hDl).symm
        have hkf : kf.length ≤ 70000 := by
          have h1 : kf.length = (mD ps).length := Paired.length r5
          have h2 := trP_len hM.lens ps.length
          have h3 : ∀ (ts : List (Str × Str × Nat)) (A : As), (ts.foldl (fun A t => putA A t.1 t.2) A).length ≤ A.length + ts.length := by
            intro ts
            induction ts with
            | nil => intro A; exact Nat.le_refl _
            | cons t ts ih =>
              intro A
              have h4 := ih (putA A t.1 t.2)
              have h5 : (putA A t.1 t.2).length ≤ A.length + 1 := by
                unfold putA
                split
                · rw [List.length_map]; omega
                · rw [List.length_append]; simp
              show (ts.foldl _ (putA A t.1 t.2)).length ≤ _
              rw [List.length_cons]
              omega
          have h4 := h3 (trP ps ps.length) []
          have h5 : (mD ps).length ≤ (trP ps ps.length).length := by
            have h6 : (mD ps).length ≤ ([] : As).length + (trP ps ps.length).length := h4
            simpa using h6
          have h7 := G4.ln
          omega
        refine lc_it (walk_values (d := lf) (o := od) (kvs := kf)) (fun i H' => ∃ bs : List Bool, H' Dl = some (.lst (bs.map V.bl)) ∧ bs.all id = true ∧ bs.length ≤ i ∧ TupS HL H' ∧ ∀ b o, b ≠ Dl → HL b = some o → H' b = some o)
          ⟨[], upd_same, rfl, Nat.le_refl _, TupS.new hDl, fun b o nb hb => by rw [upd_ne nb]; exact hb⟩ (fun i H' _ hW => ?_) (fun i x H' H'' hi hW hY => ?_) (fun H' hW => ?_)
        · obtain ⟨bs, _, _, _, _, hk'⟩ := hW
          exact hk' lf _ nDf.symm hLf
        · obtain ⟨bs, hat, hall, hbl, tm', hk'⟩ := hW
          obtain ⟨rfl, kk, hkv⟩ := hY
          obtain ⟨a1, _, _, hp1⟩ := paired_at rL hkv
          have hp2 := hp1.mono tm'
          have hdp : Dp K H'' x _ := hp2.dp
          obtain ⟨t, rfl, ht⟩ := hp2
          refine ⟨rfl, ?_⟩
          unfold tYes; dsimp only
          rw [if_pos rfl]
          refine ⟨_, rfl, _, _, "tuple", rfl, hdp, by decide, _, rfl, iteT ?_⟩
          refine ⟨_, rfl, t, _, _, .int (a1.2.2 : Nat), rfl, rfl, SqT.of ht, atI_nat (j := 1) rfl, _, _, "bool", rfl, .int _, by decide, _, rfl, ?_⟩
          refine ⟨bs.map V.bl, hat, by rw [List.length_map, sizeLine_eq]; omega, bs ++ [true], ?_, by rw [List.all_append, hall]; rfl, by rw [List.length_append, List.length_singleton]; omega, tm'.trans (TupS.put hat), fun b o nb hb => by rw [upd_ne nb]; exact hk' b o nb hb⟩
          rw [upd_same, List.map_append]
          rfl
        · obtain ⟨bs, hat, hall, hbl, tm', hk'⟩ := hW
          refine ⟨hk' lf _ nDf.symm hLf, ?_⟩
          have hkL := hk' lf _ nDf.symm hLf
          refine ⟨Dl, bs, rfl, SqL.of (by rw [upd_ne nDf]; exact hat), _, rfl, ?_⟩
          rw [hall]
          refine iteF ?_
          have T8 : TupS H7 (upd H' lf (.dK kf)) := fun b xs e => by
            have e1 := tm' _ _ (TL _ _ e)
            rw [upd_ne (fun z => by rw [z, hkL] at e1; cases e1)]
            exact e1
          have keep8 : ∀ b o, b ≠ lf → H7 b = some o → (upd H' lf (.dK kf)) b = some o := fun b o nb hb => by
            rw [upd_ne nb]
            exact hk' b o (fun z => by rw [z] at hb; rw [keepL _ _ (z ▸ nb) hb] at hDl; cases hDl) (keepL b o nb hb)
          have hf8 : (upd H' lf (.dK kf)) lf = some (.dK kf) := upd_same
          generalize upd H' lf (.dK kf) = H8 at *
          refine ⟨_, rfl, .inr (.inr (.inl ⟨rfl, .inl ⟨_, hf8⟩⟩)), lf, kf, rfl, rfl, hf8, ?_⟩
          have T9 : TupS H7 (upd H8 lf (.dK [])) := T8.trans (tups_dict hf8)
          have keep9 : ∀ b o, b ≠ lf → H7 b = some o → (upd H8 lf (.dK [])) b = some o := fun b o nb hb => by
            rw [upd_ne nb]
            exact keep8 b o nb hb
          generalize upd H8 lf (.dK []) = H9 at *
          have G9 := G7.mono T9 (keep9 _ _ n2f G7.d_)
          have E9 := E7.mono T9 (keep9 _ _ nef E7.d_)
          have hc9 := keep9 _ _ ncf hc7
          have hd9 := keep9 _ _ nfd.symm h7
          have rd9 := RelA.mono T9 r7
          obtain ⟨z0, z1, hel⟩ := E9.tm_
          refine ⟨_, rfl, el, z0, z1, de, ke, pe, rfl, hel, E9.d_, E9.m, E9.so, E9.nd, E9.ln, fun lA kA HA hnA hA rA sA => ?_⟩
          have EA := E9.same sA
          obtain ⟨y0, y1, helA⟩ := EA.tm_
          refine ⟨_, rfl, el, _, _, .ref de, rfl, rfl, SqT.of helA, atI_nat (j := 2) rfl, de, ke, pe, rfl, EA.d_, EA.m, EA.nd, EA.ln, fun lB uB HB hnB hB tB sB => ?_⟩
          obtain ⟨adB, kvB, euB, pB1, pB2⟩ := pairs_of (K := K) tB
          refine ⟨lB, adB, kvB, rfl, by rw [← euB]; exact SqL.of hB, pB1, fun lC hlC => ?_⟩
          have sC : Same HB (upd HB lC (.dK (mergeK [] kvB))) := Same.new hlC
          have rC : RelA (upd HB lC (.dK (mergeK [] kvB))) (mergeK [] kvB) (mD pe) := RelA.mono (TupS.same sC) (merge_rel pB2 (k := []) (A := []) .nil)
          have rAC : RelA (upd HB lC (.dK (mergeK [] kvB))) kA (mD pe) := RelA.mono (TupS.same (sB.trans sC)) rA
          obtain ⟨leC, leqC⟩ := rAC.eqs (K := K) rC ek ea
          refine ⟨lA, lC, kA, _, rfl, rfl, sC _ _ (sB _ _ hA), upd_same, leC, leqC, _, rfl, iteF ?_⟩
          have s9C := (sA.trans sB).trans sC
          generalize upd HB lC (.dK (mergeK [] kvB)) = HC at *
          have GC := G9.same s9C
          obtain ⟨x0, x1, htmC⟩ := GC.tm_
          refine ⟨_, rfl, tm, x0, x1, q2, k, ps, rfl, htmC, GC.d_, GC.m, GC.so, GC.nd, GC.ln, fun lE kE HE hnE hE rE sE => ?_⟩
          have rdE := RelA.mono (TupS.same (s9C.trans sE)) rd9
          obtain ⟨leE, leqE⟩ := rE.eqs (K := K) rdE gk ga
          refine ⟨_, rfl, lE, ld, kE, kd, rfl, rfl, hE, (s9C.trans sE) _ _ hd9, leE, leqE, _, rfl, iteF ?_⟩
          exact ⟨_, rfl, _, _, _, _, tm, q2, k, ps, rfl, (s9C.trans sE) _ _ hc9, GC.same sE⟩
      · exact q H'
end
end K27
set_option Elab.async false
set_option linter.all false
set_option maxRecDepth 100000
set_option maxHeartbeats 8000000
namespace K27
open PySem PySem.Spec PyProof.Rows L2
open C8 (Cal Def cal0 pe_c fnBody fnScope fnArgs)
/-- a def of the module's top -/
theorem def_mk {K : PySem.W.Frag} {h : Heap} {mg : Str → Option Value} (X : K.In h) (G : h.Ns mainGlobals mg) {x : Str} {st : Stmt} {f : Addr} {oc : Value} {od an : Option Addr} {osl : Array (Option Value)} {kV doc pm cdv ct : Value}
    (a : PySem.W.nsIn K mainGlobals x = some (some (.ref f)))
    (l : K.lookup f = some ⟨oc, od, .func (PySem.W.fnOf x x (fnArgs st) (fnBody st) (fnScope st) .none kV doc pm an cdv ct), osl⟩)
    (c : PySem.W.codeIn K cdv x = true) (k : PySem.W.keepIn K (.ref f) = true) : Def K mg x st f (PySem.W.fnOf x x (fnArgs st) (fnBody st) (fnScope st) .none kV doc pm an cdv ct) :=
  ⟨⟨⟨oc, od, .none, kV, doc, pm, an, cdv, ct, osl, rfl, l, c⟩⟩, PySem.W.mg_of X G a, k⟩
theorem all_mk {l : PySem.W.OpenLaw} {w : World} {K : PySem.W.Frag} {h : Heap} {mg : Str → Option Value} {fa : Addr} (X : K.In h) (G : h.Ns mainGlobals mg) (hfa : mg "law" = some (.ref fa))
    {f1 : Addr} {od1 an1 : Option Addr} {sl1 : Array (Option Value)} {oc1 kV1 dc1 pm1 cd1 ct1 : Value}
    {f2 : Addr} {od2 an2 : Option Addr} {sl2 : Array (Option Value)} {oc2 kV2 dc2 pm2 cd2 ct2 : Value}
    {f3 : Addr} {od3 an3 : Option Addr} {sl3 : Array (Option Value)} {oc3 kV3 dc3 pm3 cd3 ct3 : Value}
    {f4 : Addr} {od4 an4 : Option Addr} {sl4 : Array (Option Value)} {oc4 kV4 dc4 pm4 cd4 ct4 : Value}
    {f5 : Addr} {od5 an5 : Option Addr} {sl5 : Array (Option Value)} {oc5 kV5 dc5 pm5 cd5 ct5 : Value}
    {f6 : Addr} {od6 an6 : Option Addr} {sl6 : Array (Option Value)} {oc6 kV6 dc6 pm6 cd6 ct6 : Value}
    {f7 : Addr} {od7 an7 : Option Addr} {sl7 : Array (Option Value)} {oc7 kV7 dc7 pm7 cd7 ct7 : Value}
    {f8 : Addr} {od8 an8 : Option Addr} {sl8 : Array (Option Value)} {oc8 kV8 dc8 pm8 cd8 ct8 : Value}
    {f9 : Addr} {od9 an9 : Option Addr} {sl9 : Array (Option Value)} {oc9 kV9 dc9 pm9 cd9 ct9 : Value}
    {f10 : Addr} {od10 an10 : Option Addr} {sl10 : Array (Option Value)} {oc10 kV10 dc10 pm10 cd10 ct10 : Value}
    {f11 : Addr} {od11 an11 : Option Addr} {sl11 : Array (Option Value)} {oc11 kV11 dc11 pm11 cd11 ct11 : Value}
    {f12 : Addr} {od12 an12 : Option Addr} {sl12 : Array (Option Value)} {oc12 kV12 dc12 pm12 cd12 ct12 : Value}
    {f13 : Addr} {od13 an13 : Option Addr} {sl13 : Array (Option Value)} {oc13 kV13 dc13 pm13 cd13 ct13 : Value}
    {f14 : Addr} {od14 an14 : Option Addr} {sl14 : Array (Option Value)} {oc14 kV14 dc14 pm14 cd14 ct14 : Value}
    {f15 : Addr} {od15 an15 : Option Addr} {sl15 : Array (Option Value)} {oc15 kV15 dc15 pm15 cd15 ct15 : Value}
    {f16 : Addr} {od16 an16 : Option Addr} {sl16 : Array (Option Value)} {oc16 kV16 dc16 pm16 cd16 ct16 : Value}
    {f17 : Addr} {od17 an17 : Option Addr} {sl17 : Array (Option Value)} {oc17 kV17 dc17 pm17 cd17 ct17 : Value}
    (a1 : PySem.W.nsIn K mainGlobals "marks_in" = some (some (.ref f1))) (l1 : K.lookup f1 = some ⟨oc1, od1, .func (PySem.W.fnOf "marks_in" "marks_in" (fnArgs sPMarksIn) (fnBody sPMarksIn) (fnScope sPMarksIn) .none kV1 dc1 pm1 an1 cd1 ct1), sl1⟩) (c1 : PySem.W.codeIn K cd1 "marks_in" = true) (k1 : PySem.W.keepIn K (.ref f1) = true)
    (a2 : PySem.W.nsIn K mainGlobals "marks_of" = some (some (.ref f2))) (l2 : K.lookup f2 = some ⟨oc2, od2, .func (PySem.W.fnOf "marks_of" "marks_of" (fnArgs sPMarksOf) (fnBody sPMarksOf) (fnScope sPMarksOf) .none kV2 dc2 pm2 an2 cd2 ct2), sl2⟩) (c2 : PySem.W.codeIn K cd2 "marks_of" = true) (k2 : PySem.W.keepIn K (.ref f2) = true)
    (a3 : PySem.W.nsIn K mainGlobals "_law_cell" = some (some (.ref f3))) (l3 : K.lookup f3 = some ⟨oc3, od3, .func (PySem.W.fnOf "_law_cell" "_law_cell" (fnArgs sLCell) (fnBody sLCell) (fnScope sLCell) .none kV3 dc3 pm3 an3 cd3 ct3), sl3⟩) (c3 : PySem.W.codeIn K cd3 "_law_cell" = true) (k3 : PySem.W.keepIn K (.ref f3) = true)
    (a4 : PySem.W.nsIn K mainGlobals "_law_pot" = some (some (.ref f4))) (l4 : K.lookup f4 = some ⟨oc4, od4, .func (PySem.W.fnOf "_law_pot" "_law_pot" (fnArgs sLPot) (fnBody sLPot) (fnScope sLPot) .none kV4 dc4 pm4 an4 cd4 ct4), sl4⟩) (c4 : PySem.W.codeIn K cd4 "_law_pot" = true) (k4 : PySem.W.keepIn K (.ref f4) = true)
    (a5 : PySem.W.nsIn K mainGlobals "_law_take" = some (some (.ref f5))) (l5 : K.lookup f5 = some ⟨oc5, od5, .func (PySem.W.fnOf "_law_take" "_law_take" (fnArgs sLTake) (fnBody sLTake) (fnScope sLTake) .none kV5 dc5 pm5 an5 cd5 ct5), sl5⟩) (c5 : PySem.W.codeIn K cd5 "_law_take" = true) (k5 : PySem.W.keepIn K (.ref f5) = true)
    (a6 : PySem.W.nsIn K mainGlobals "_law_name" = some (some (.ref f6))) (l6 : K.lookup f6 = some ⟨oc6, od6, .func (PySem.W.fnOf "_law_name" "_law_name" (fnArgs sLName) (fnBody sLName) (fnScope sLName) .none kV6 dc6 pm6 an6 cd6 ct6), sl6⟩) (c6 : PySem.W.codeIn K cd6 "_law_name" = true) (k6 : PySem.W.keepIn K (.ref f6) = true)
    (a7 : PySem.W.nsIn K mainGlobals "_law_kind" = some (some (.ref f7))) (l7 : K.lookup f7 = some ⟨oc7, od7, .func (PySem.W.fnOf "_law_kind" "_law_kind" (fnArgs sLKind) (fnBody sLKind) (fnScope sLKind) .none kV7 dc7 pm7 an7 cd7 ct7), sl7⟩) (c7 : PySem.W.codeIn K cd7 "_law_kind" = true) (k7 : PySem.W.keepIn K (.ref f7) = true)
    (a8 : PySem.W.nsIn K mainGlobals "_law_leaf" = some (some (.ref f8))) (l8 : K.lookup f8 = some ⟨oc8, od8, .func (PySem.W.fnOf "_law_leaf" "_law_leaf" (fnArgs sLLeaf) (fnBody sLLeaf) (fnScope sLLeaf) .none kV8 dc8 pm8 an8 cd8 ct8), sl8⟩) (c8 : PySem.W.codeIn K cd8 "_law_leaf" = true) (k8 : PySem.W.keepIn K (.ref f8) = true)
    (a9 : PySem.W.nsIn K mainGlobals "_law_term" = some (some (.ref f9))) (l9 : K.lookup f9 = some ⟨oc9, od9, .func (PySem.W.fnOf "_law_term" "_law_term" (fnArgs sLTerm) (fnBody sLTerm) (fnScope sLTerm) .none kV9 dc9 pm9 an9 cd9 ct9), sl9⟩) (c9 : PySem.W.codeIn K cd9 "_law_term" = true) (k9 : PySem.W.keepIn K (.ref f9) = true)
    (a10 : PySem.W.nsIn K mainGlobals "_law_some" = some (some (.ref f10))) (l10 : K.lookup f10 = some ⟨oc10, od10, .func (PySem.W.fnOf "_law_some" "_law_some" (fnArgs sLSome) (fnBody sLSome) (fnScope sLSome) .none kV10 dc10 pm10 an10 cd10 ct10), sl10⟩) (c10 : PySem.W.codeIn K cd10 "_law_some" = true) (k10 : PySem.W.keepIn K (.ref f10) = true)
    (a11 : PySem.W.nsIn K mainGlobals "_law_names" = some (some (.ref f11))) (l11 : K.lookup f11 = some ⟨oc11, od11, .func (PySem.W.fnOf "_law_names" "_law_names" (fnArgs sLNames) (fnBody sLNames) (fnScope sLNames) .none kV11 dc11 pm11 an11 cd11 ct11), sl11⟩) (c11 : PySem.W.codeIn K cd11 "_law_names" = true) (k11 : PySem.W.keepIn K (.ref f11) = true)
    (a12 : PySem.W.nsIn K mainGlobals "_law_value" = some (some (.ref f12))) (l12 : K.lookup f12 = some ⟨oc12, od12, .func (PySem.W.fnOf "_law_value" "_law_value" (fnArgs sLValue) (fnBody sLValue) (fnScope sLValue) .none kV12 dc12 pm12 an12 cd12 ct12), sl12⟩) (c12 : PySem.W.codeIn K cd12 "_law_value" = true) (k12 : PySem.W.keepIn K (.ref f12) = true)
    (a13 : PySem.W.nsIn K mainGlobals "_law_row" = some (some (.ref f13))) (l13 : K.lookup f13 = some ⟨oc13, od13, .func (PySem.W.fnOf "_law_row" "_law_row" (fnArgs sLRow) (fnBody sLRow) (fnScope sLRow) .none kV13 dc13 pm13 an13 cd13 ct13), sl13⟩) (c13 : PySem.W.codeIn K cd13 "_law_row" = true) (k13 : PySem.W.keepIn K (.ref f13) = true)
    (a14 : PySem.W.nsIn K mainGlobals "_law_part" = some (some (.ref f14))) (l14 : K.lookup f14 = some ⟨oc14, od14, .func (PySem.W.fnOf "_law_part" "_law_part" (fnArgs sLPart) (fnBody sLPart) (fnScope sLPart) .none kV14 dc14 pm14 an14 cd14 ct14), sl14⟩) (c14 : PySem.W.codeIn K cd14 "_law_part" = true) (k14 : PySem.W.keepIn K (.ref f14) = true)
    (a15 : PySem.W.nsIn K mainGlobals "_law_program" = some (some (.ref f15))) (l15 : K.lookup f15 = some ⟨oc15, od15, .func (PySem.W.fnOf "_law_program" "_law_program" (fnArgs sLProgram) (fnBody sLProgram) (fnScope sLProgram) .none kV15 dc15 pm15 an15 cd15 ct15), sl15⟩) (c15 : PySem.W.codeIn K cd15 "_law_program" = true) (k15 : PySem.W.keepIn K (.ref f15) = true)
    (a16 : PySem.W.nsIn K mainGlobals "_law_marks" = some (some (.ref f16))) (l16 : K.lookup f16 = some ⟨oc16, od16, .func (PySem.W.fnOf "_law_marks" "_law_marks" (fnArgs sLMarks) (fnBody sLMarks) (fnScope sLMarks) .none kV16 dc16 pm16 an16 cd16 ct16), sl16⟩) (c16 : PySem.W.codeIn K cd16 "_law_marks" = true) (k16 : PySem.W.keepIn K (.ref f16) = true)
    (a17 : PySem.W.nsIn K mainGlobals "law" = some (some (.ref f17))) (l17 : K.lookup f17 = some ⟨oc17, od17, .func (PySem.W.fnOf "law" "law" (fnArgs sLaw) (fnBody sLaw) (fnScope sLaw) .none kV17 dc17 pm17 an17 cd17 ct17), sl17⟩) (c17 : PySem.W.codeIn K cd17 "law" = true) (k17 : PySem.W.keepIn K (.ref f17) = true)
    (z_isinstance : PySem.W.nsIn K mainGlobals "isinstance" = some none)
    (z_bool : PySem.W.nsIn K mainGlobals "bool" = some none)
    (z_tuple : PySem.W.nsIn K mainGlobals "tuple" = some none)
    (z_dict : PySem.W.nsIn K mainGlobals "dict" = some none)
    (z_len : PySem.W.nsIn K mainGlobals "len" = some none)
    (z_range : PySem.W.nsIn K mainGlobals "range" = some none)
    (z_int : PySem.W.nsIn K mainGlobals "int" = some none)
    (z_set : PySem.W.nsIn K mainGlobals "set" = some none)
    (z_sorted : PySem.W.nsIn K mainGlobals "sorted" = some none)
    (z_enumerate : PySem.W.nsIn K mainGlobals "enumerate" = some none)
    (z_all : PySem.W.nsIn K mainGlobals "all" = some none)
    : ∃ fd : FuncData, (∀ (s : Shared) (v : Value), BindsTo s fd ⟨[v], []⟩ [("_law_script", v)]) ∧ ∀ base : Heap, K.In base → base.Ns mainGlobals mg → FnG l.prog w K mg base C8.CX0 27 fa fd ["_law_script"] (spLaw K) := by
  have e := hfa.symm.trans (PySem.W.mg_of X G a17)
  cases e
  have D_marks_in := def_mk (st := sPMarksIn) X G a1 l1 c1 k1
  have D_marks_of := def_mk (st := sPMarksOf) X G a2 l2 c2 k2
  have D__law_cell := def_mk (st := sLCell) X G a3 l3 c3 k3
  have D__law_pot := def_mk (st := sLPot) X G a4 l4 c4 k4
  have D__law_take := def_mk (st := sLTake) X G a5 l5 c5 k5
  have D__law_name := def_mk (st := sLName) X G a6 l6 c6 k6
  have D__law_kind := def_mk (st := sLKind) X G a7 l7 c7 k7
  have D__law_leaf := def_mk (st := sLLeaf) X G a8 l8 c8 k8
  have D__law_term := def_mk (st := sLTerm) X G a9 l9 c9 k9
  have D__law_some := def_mk (st := sLSome) X G a10 l10 c10 k10
  have D__law_names := def_mk (st := sLNames) X G a11 l11 c11 k11
  have D__law_value := def_mk (st := sLValue) X G a12 l12 c12 k12
  have D__law_row := def_mk (st := sLRow) X G a13 l13 c13 k13
  have D__law_part := def_mk (st := sLPart) X G a14 l14 c14 k14
  have D__law_program := def_mk (st := sLProgram) X G a15 l15 c15 k15
  have D__law_marks := def_mk (st := sLMarks) X G a16 l16 c16 k16
  have D_law := def_mk (st := sLaw) X G a17 l17 c17 k17
  have b_marks_in := D_marks_in.fn.binds rfl (ps := ["parts"]) fun _ _ _ _ _ _ us hl => match us, hl with | [_], _ => rfl
  have b_marks_of := D_marks_of.fn.binds rfl (ps := ["program"]) fun _ _ _ _ _ _ us hl => match us, hl with | [_], _ => rfl
  have b__law_cell := D__law_cell.fn.binds rfl (ps := ["_law_script", "_law_at"]) fun _ _ _ _ _ _ us hl => match us, hl with | [_, _], _ => rfl
  have b__law_pot := D__law_pot.fn.binds rfl (ps := ["_law_cell_here"]) fun _ _ _ _ _ _ us hl => match us, hl with | [_], _ => rfl
  have b__law_take := D__law_take.fn.binds rfl (ps := ["_law_pot_here", "_law_many"]) fun _ _ _ _ _ _ us hl => match us, hl with | [_, _], _ => rfl
  have b__law_name := D__law_name.fn.binds rfl (ps := ["_law_pot_here"]) fun _ _ _ _ _ _ us hl => match us, hl with | [_], _ => rfl
  have b__law_kind := D__law_kind.fn.binds rfl (ps := ["_law_pot_here", "_law_deep"]) fun _ _ _ _ _ _ us hl => match us, hl with | [_, _], _ => rfl
  have b__law_leaf := D__law_leaf.fn.binds rfl (ps := ["_law_pot_here"]) fun _ _ _ _ _ _ us hl => match us, hl with | [_], _ => rfl
  have b__law_term := D__law_term.fn.binds rfl (ps := ["_law_pot_here", "_law_deep"]) fun _ _ _ _ _ _ us hl => match us, hl with | [_, _], _ => rfl
  have b__law_some := D__law_some.fn.binds rfl (ps := ["_law_pot_here", "_law_left"]) fun _ _ _ _ _ _ us hl => match us, hl with | [_, _], _ => rfl
  have b__law_names := D__law_names.fn.binds rfl (ps := ["_law_pot_here", "_law_most"]) fun _ _ _ _ _ _ us hl => match us, hl with | [_, _], _ => rfl
  have b__law_value := D__law_value.fn.binds rfl (ps := ["_law_pot_here", "_law_deep"]) fun _ _ _ _ _ _ us hl => match us, hl with | [_, _], _ => rfl
  have b__law_row := D__law_row.fn.binds rfl (ps := ["_law_pot_here", "_law_left", "_law_rows"]) fun _ _ _ _ _ _ us hl => match us, hl with | [_, _, _], _ => rfl
  have b__law_part := D__law_part.fn.binds rfl (ps := ["_law_pot_here", "_law_marks_here", "_law_left", "_law_most"]) fun _ _ _ _ _ _ us hl => match us, hl with | [_, _, _, _], _ => rfl
  have b__law_program := D__law_program.fn.binds rfl (ps := ["_law_pot_here", "_law_left"]) fun _ _ _ _ _ _ us hl => match us, hl with | [_, _], _ => rfl
  have b__law_marks := D__law_marks.fn.binds rfl (ps := ["_law_parts"]) fun _ _ _ _ _ _ us hl => match us, hl with | [_], _ => rfl
  have T : Tp mg := ⟨PySem.W.mg_none_of X G z_isinstance, PySem.W.mg_none_of X G z_bool, PySem.W.mg_none_of X G z_tuple, PySem.W.mg_none_of X G z_dict, PySem.W.mg_none_of X G z_len, PySem.W.mg_none_of X G z_range, PySem.W.mg_none_of X G z_int, PySem.W.mg_none_of X G z_set, PySem.W.mg_none_of X G z_sorted, PySem.W.mg_none_of X G z_enumerate, PySem.W.mg_none_of X G z_all⟩
  refine ⟨PySem.W.fnOf "law" "law" (fnArgs sLaw) (fnBody sLaw) (fnScope sLaw) .none kV17 dc17 pm17 an17 cd17 ct17, fun s v => .of_eq rfl, fun base _ _ => ?_⟩
  have cTake := c_take (P := l.prog) (w := w) (base := base) D__law_take b__law_take
  have cName := c_name T cTake D__law_name b__law_name
  have cKind := c_kind T cTake cName D__law_kind b__law_kind 8
  have cLeaf := c_leaf T cTake cName cKind D__law_leaf b__law_leaf
  have cTerm := c_term T cTake cName cLeaf D__law_term b__law_term 11
  have cSome := c_some cTerm D__law_some b__law_some
  have cNames := c_names T cTake cName D__law_names b__law_names
  have cRow := c_row T cTake cName cNames cSome D__law_row b__law_row
  have cPart := c_part T cTake cName cKind cNames cSome cRow D__law_part b__law_part
  have cValue := c_value T cTake D__law_value b__law_value 4 (Nat.le_refl _)
  have cProgram := c_program T cTake cKind cNames cValue cPart D__law_program b__law_program
  have cMarksIn := c_marksIn (P := l.prog) (w := w) (base := base) T D_marks_in b_marks_in
  have cLMarks := c_lmarks (P := l.prog) (w := w) (base := base) T D__law_marks b__law_marks
  exact f_law T (c_cell D__law_cell b__law_cell) (c_pot T D__law_pot b__law_pot) cProgram (c_marksOf T cMarksIn D_marks_of b_marks_of) cLMarks D_law
end K27
open PySem PySem.W PyProof.Rows
set_option maxHeartbeats 0 in
theorem PySem.Challenge.cw_changewhile_k27_marks_of_holds : PySem.Challenge.rw_changewhile_k27_marks_of.Holds := by
  w_on; o_law; k_head; (case hw => w_witness2)
  k_fill
  refine L2.walkG (l := PySem.Challenge.rw_changewhile_k27_marks_of) (n := 63) (k := 27) (x := "_law_script") (sp := K27.spLaw) rfl (by decide) rfl ⟨rfl, by decide, by decide⟩ (fun w h Y => PySem.W.kIn_of Y) ?F (fun K H a ns hl _ hS => ⟨a, ns, rfl, hS, hl, fun _ => rfl⟩)
  case F =>
    intro w mg fa h KX G hmg
    refine' K27.all_mk KX G hmg ?a1 ?l1 ?c1 ?k1 ?a2 ?l2 ?c2 ?k2 ?a3 ?l3 ?c3 ?k3 ?a4 ?l4 ?c4 ?k4 ?a5 ?l5 ?c5 ?k5 ?a6 ?l6 ?c6 ?k6 ?a7 ?l7 ?c7 ?k7 ?a8 ?l8 ?c8 ?k8 ?a9 ?l9 ?c9 ?k9 ?a10 ?l10 ?c10 ?k10 ?a11 ?l11 ?c11 ?k11 ?a12 ?l12 ?c12 ?k12 ?a13 ?l13 ?c13 ?k13 ?a14 ?l14 ?c14 ?k14 ?a15 ?l15 ?c15 ?k15 ?a16 ?l16 ?c16 ?k16 ?a17 ?l17 ?c17 ?k17 ?z_isinstance ?z_bool ?z_tuple ?z_dict ?z_len ?z_range ?z_int ?z_set ?z_sorted ?z_enumerate ?z_all
    (case a1 => k_is); (case l1 => k_is); (case c1 => k_is); (case k1 => k_is); (case a2 => k_is); (case l2 => k_is); (case c2 => k_is); (case k2 => k_is); (case a3 => k_is); (case l3 => k_is); (case c3 => k_is); (case k3 => k_is); (case a4 => k_is); (case l4 => k_is); (case c4 => k_is); (case k4 => k_is); (case a5 => k_is); (case l5 => k_is); (case c5 => k_is); (case k5 => k_is); (case a6 => k_is); (case l6 => k_is); (case c6 => k_is); (case k6 => k_is); (case a7 => k_is); (case l7 => k_is); (case c7 => k_is); (case k7 => k_is); (case a8 => k_is); (case l8 => k_is); (case c8 => k_is); (case k8 => k_is); (case a9 => k_is); (case l9 => k_is); (case c9 => k_is); (case k9 => k_is); (case a10 => k_is); (case l10 => k_is); (case c10 => k_is); (case k10 => k_is); (case a11 => k_is); (case l11 => k_is); (case c11 => k_is); (case k11 => k_is); (case a12 => k_is); (case l12 => k_is); (case c12 => k_is); (case k12 => k_is); (case a13 => k_is); (case l13 => k_is); (case c13 => k_is); (case k13 => k_is); (case a14 => k_is); (case l14 => k_is); (case c14 => k_is); (case k14 => k_is); (case a15 => k_is); (case l15 => k_is); (case c15 => k_is); (case k15 => k_is); (case a16 => k_is); (case l16 => k_is); (case c16 => k_is); (case k16 => k_is); (case a17 => k_is); (case l17 => k_is); (case c17 => k_is); (case k17 => k_is); (case z_isinstance => k_is); (case z_bool => k_is); (case z_tuple => k_is); (case z_dict => k_is); (case z_len => k_is); (case z_range => k_is); (case z_int => k_is); (case z_set => k_is); (case z_sorted => k_is); (case z_enumerate => k_is); (case z_all => k_is)
