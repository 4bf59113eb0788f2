import PyProof.Rows.All
import Wide.All
import OpenK.AllK
import Wide.FinOn
import HandS.ForMost
import HandS.Codes
import HandS.Wide
import HandS.Deep
import HandS.IsInst
import HandS.TupAny
import HandS.StrMore
import HandS.Style
import HandS.ExcOwn
import HandS.Dict
import PySem.Challenge.RW_changewhile_k14_kinds_of_values
import HandS.Iter
set_option Elab.async false
set_option linter.all false
set_option maxRecDepth 100000
set_option maxHeartbeats 4000000
namespace L2
open PySem PySem.Spec PyProof.Rows
open C8 (Cal Def cal0 pe_c fnBody fnScope fnArgs)

/-! ### heaps: all but one list stays -/
def But (p : Addr) (H H' : Hp) : Prop := ∀ b o, b ≠ p → H b = some o → H' b = some o
theorem But.refl (p : Addr) (H : Hp) : But p H H := fun _ _ _ h => h
theorem But.trans {p : Addr} {H H1 H2 : Hp} (a : But p H H1) (b : But p H1 H2) : But p H H2 := fun c o n h => b c o n (a c o n h)
theorem But.same {p : Addr} {H H1 : Hp} (a : Same H H1) : But p H H1 := fun b o _ h => a b o h
theorem Same.new {q : Addr} {H : Hp} {o : HO} (h : H q = none) : Same H (upd H q o) := fun b u e => by
  rw [upd_ne (ne_of_none e h)]
  exact e
theorem But.new {p q : Addr} {H : Hp} {o : HO} (h : H q = none) : But p H (upd H q o) := But.same (Same.new h)
theorem But.pot {p : Addr} {H H' : Hp} {o : HO} (e : But p H H') : But p H (upd H' p o) := fun b u n h => by
  rw [upd_ne n]
  exact e b u n h
def hid (p : Addr) (H : Hp) : Hp := fun b => if b = p then none else H b
theorem hid_ne {p b : Addr} {H : Hp} (h : b ≠ p) : hid p H b = H b := if_neg h
theorem hid_some {p b : Addr} {H : Hp} {o : HO} (h : hid p H b = some o) : b ≠ p ∧ H b = some o := by
  unfold hid at h
  by_cases e : b = p
  · rw [if_pos e] at h; cases h
  · rw [if_neg e] at h; exact ⟨e, h⟩
theorem hid_but {p : Addr} {H H' : Hp} (e : But p H H') : Same (hid p H) (hid p H') := fun b o h => by
  obtain ⟨n, h⟩ := hid_some h
  rw [hid_ne n]
  exact e b o n h
theorem hid_in {p : Addr} {H : Hp} : Same (hid p H) H := fun b o h => (hid_some h).2

/-! ### data -/
section
variable {K : PySem.W.Frag}
theorem sqT_mono {H H' : Hp} {a : Addr} {xs : List V} (e : Same H H') (h : SqT K H a xs) : SqT K H' a xs := by
  rcases h with (h | ⟨o, h⟩) | h
  · exact .inl (.inl (e _ _ h))
  · exact .inl (.inr ⟨o, e _ _ h⟩)
  · exact .inr h
mutual
theorem Dp.mono {H H' : Hp} (e : Same H H') : ∀ {v : V} {d : PyData}, Dp K H v d → Dp K H' v d
  | _, _, .non => .non
  | _, _, .bl b => .bl b
  | _, _, .int i => .int i
  | _, _, .str x => .str x
  | _, _, .lst h a => .lst (e.seq h) (DpAll.mono e a)
  | _, _, .tup h a => .tup (sqT_mono e h) (DpAll.mono e a)
theorem DpAll.mono {H H' : Hp} (e : Same H H') : ∀ {vs : List V} {ds : List PyData}, DpAll K H vs ds → DpAll K H' vs ds
  | _, _, .nil => .nil
  | _, _, .cons h t => .cons (Dp.mono e h) (DpAll.mono e t)
end
theorem DpAll.len {H : Hp} : ∀ {vs : List V} {ds : List PyData}, DpAll K H vs ds → vs.length = ds.length
  | _, _, .nil => rfl
  | _, _, .cons _ t => congrArg (· + 1) (DpAll.len t)
theorem DpAll.app {H : Hp} : ∀ {vs ws : List V} {ds es : List PyData}, DpAll K H vs ds → DpAll K H ws es → DpAll K H (vs ++ ws) (ds ++ es)
  | _, _, _, _, .nil, t => t
  | _, _, _, _, .cons h s, t => .cons h (DpAll.app s t)
theorem DpAll.get {H : Hp} : ∀ {vs : List V} {ds : List PyData} {i : Nat} {d : PyData}, DpAll K H vs ds → ds[i]? = some d → ∃ v, vs[i]? = some v ∧ Dp K H v d
  | _, _, _, _, .nil, h => by simp at h
  | _, _, 0, _, .cons h _, e => by
    simp at e
    subst e
    exact ⟨_, rfl, h⟩
  | _, _, i + 1, _, .cons _ t, e => by
    obtain ⟨v, h1, h2⟩ := DpAll.get t (i := i) (by simpa using e)
    exact ⟨v, by simpa using h1, h2⟩
/-- data that does not come by the pot -/
abbrev Dh (K : PySem.W.Frag) (p : Addr) (H : Hp) (v : V) (d : PyData) : Prop := Dp K (hid p H) v d
abbrev DhAll (K : PySem.W.Frag) (p : Addr) (H : Hp) (vs : List V) (ds : List PyData) : Prop := DpAll K (hid p H) vs ds
theorem Dp.un {p : Addr} {H : Hp} {v : V} {d : PyData} (h : Dh K p H v d) : Dp K H v d := Dp.mono hid_in h
theorem Dp.but {p : Addr} {H H' : Hp} {v : V} {d : PyData} (e : But p H H') (h : Dh K p H v d) : Dh K p H' v d := Dp.mono (hid_but e) h
theorem DpAll.but {p : Addr} {H H' : Hp} {vs : List V} {ds : List PyData} (e : But p H H') (h : DhAll K p H vs ds) : DhAll K p H' vs ds := DpAll.mono (hid_but e) h
/-- a new tuple, a new list -/
theorem Dp.newT {p q : Addr} {H : Hp} {xs : List V} {ds : List PyData} (hq : H q = none) (n : q ≠ p) (h : DhAll K p H xs ds) : Dh K p (upd H q (.tup xs)) (.ref q) (.tuple ds) :=
  .tup (.inl (.inl (by rw [hid_ne n, upd_same]))) (DpAll.but (But.new hq) h)
theorem Dp.newL {p q : Addr} {H : Hp} {xs : List V} {ds : List PyData} (hq : H q = none) (n : q ≠ p) (h : DhAll K p H xs ds) : Dh K p (upd H q (.lst xs)) (.ref q) (.list ds) :=
  .lst (.inl (.inl (by rw [hid_ne n, upd_same]))) (DpAll.but (But.new hq) h)
theorem Dp.newT0 {q : Addr} {H : Hp} {xs : List V} {ds : List PyData} (hq : H q = none) (h : DpAll K H xs ds) : Dp K (upd H q (.tup xs)) (.ref q) (.tuple ds) :=
  .tup (.inl (.inl upd_same)) (DpAll.mono (Same.new hq) h)
theorem Dp.newL0 {q : Addr} {H : Hp} {xs : List V} {ds : List PyData} (hq : H q = none) (h : DpAll K H xs ds) : Dp K (upd H q (.lst xs)) (.ref q) (.list ds) :=
  .lst (.inl (.inl upd_same)) (DpAll.mono (Same.new hq) h)

/-! ### isinstance of data -/
def tyN : PyData → String
  | .none => "NoneType" | .bool _ => "bool" | .int _ => "int" | .str _ => "str" | .list _ => "list" | .tuple _ => "tuple" | .dict _ => "dict"
theorem Dp.ty {H : Hp} {v : V} {d : PyData} (h : Dp K H v d) : TyX K H v (.type (tyN d)) := by
  cases h with
  | non => exact .base .non
  | bl b => exact .base (.bl b)
  | int i => exact .base (.int i)
  | str x => exact .base (.str x)
  | lst hs _ =>
    rcases hs with (h | ⟨o, h⟩) | ⟨o, its, n, h, hc, _⟩
    · exact .base (.lst h)
    · exact .base (.frz h)
    · exact .kList h hc
  | tup hs _ =>
    rcases hs with (h | ⟨o, h⟩) | ⟨o, its, n, h, hc, _⟩
    · exact .base (.tup h)
    · exact .fTuple h
    · exact .kTuple h hc
def isS : PyData → Bool | .str _ => true | _ => false
def isT : PyData → Bool | .tuple _ => true | _ => false
def isL : PyData → Bool | .list _ => true | _ => false
def isB : PyData → Bool | .bool _ => true | _ => false
def isI : PyData → Bool | .bool _ => true | .int _ => true | _ => false
def isOf : String → PyData → Bool
  | "str", d => isS d
  | "tuple", d => isT d
  | "list", d => isL d
  | "bool", d => isB d
  | "int", d => isI d
  | _, _ => false
def tabN (a T : String) : Bool := a == T || (a == "bool" && T == "int")
theorem kitN : (["NoneType", "bool", "int", "str", "list", "tuple"].all fun a => ["str", "tuple", "list", "bool", "int"].all fun T => kitB a T == some (tabN a T)) = true := by decide +kernel
theorem kit_all {a T : String} (ha : a ∈ ["NoneType", "bool", "int", "str", "list", "tuple"]) (hT : T ∈ ["str", "tuple", "list", "bool", "int"]) : kitB a T = some (tabN a T) := by
  have h := List.all_eq_true.mp (List.all_eq_true.mp kitN a ha) T hT
  exact eq_of_beq h
theorem Dp.nodict {H : Hp} {v : V} {d : PyData} (h : Dp K H v d) : tyN d ≠ "dict" := by cases h <;> (intro e; exact absurd e (by simp [tyN]))
theorem isOf_tab {T : String} (hT : T ∈ ["str", "tuple", "list", "bool", "int"]) (d : PyData) : isOf T d = tabN (tyN d) T := by
  simp only [List.mem_cons, List.not_mem_nil, or_false] at hT
  rcases hT with rfl | rfl | rfl | rfl | rfl <;> cases d <;> first | rfl | decide
theorem isOf_kit {H : Hp} {v : V} {d : PyData} {T : String} (h : Dp K H v d) (hT : T ∈ ["str", "tuple", "list", "bool", "int"]) : kitB (tyN d) T = some (isOf T d) := by
  have n := h.nodict
  rw [isOf_tab hT]
  refine kit_all ?_ hT
  cases d <;> first | exact absurd rfl n | simp [tyN]
end
def rIsD (K : PySem.W.Frag) : List V → Hp → VK → Prop := fun xs H Q => ∃ (v : V) (d : PyData) (T : String), xs = [v, .ty T] ∧ Dp K H v d ∧ T ∈ ["str", "tuple", "list", "bool", "int"] ∧ Q (.bl (isOf T d)) H
section
variable {X : Cx}
theorem call_isD : CallR X (.builtin "isinstance") (rIsD X.K) := by
  intro pins s σ H xs us Q I r h
  obtain ⟨v, d, T, rfl, hd, hT, q⟩ := h
  exact call_isi pins s σ H _ us Q I r ⟨v, .ty T, .type (tyN d), .type T, isOf T d, rfl, .ty T, hd.ty, kit_ty (isOf_kit hd hT), q⟩
/-! ### repr of data -/
def shownB (d : PyData) : Prop := d.showable = true ∧ SeqAt.shaped d = true ∧ d.shown.length ≤ sizeLine
def rReprD (K : PySem.W.Frag) : List V → Hp → VK → Prop := fun xs H Q => ∃ (v : V) (d : PyData), xs = [v] ∧ Dp K H v d ∧ shownB d ∧ Q (.str d.shown) H
theorem call_reprD (hg : X.A.guards = some []) (hu : X.A.units + 70 < cLine) : CallR X (.builtin "repr") (rReprD X.K) := by
  intro pins s σ H xs us Q I r h
  obtain ⟨v, d, rfl, hd, ⟨hs, hsh, hl⟩, q⟩ := h
  obtain ⟨u, rfl, ru⟩ := vals1 r
  have hdep := SeqAt.depth_of_shaped hsh
  have hnd : d.hasDict = false := PyData.hasDict_of_canLay d (SeqAt.canLay_of_shaped hsh)
  obtain ⟨as, rd⟩ := Dp.reads I d v u hd ru
  have big : ∀ a, u = Value.ref a → wpAny (model X.prog X.w) X.A (call (.builtin "repr") [u]) (EP X pins σ Q) X.xe s := fun a e => by
    subst e
    exact repr_of_reads' rd hs (PyData.noDict_hsm hnd) hg (by omega) (fun _ _ e => e) (fun h' t tk k => ⟨.str d.shown, H, I.kept k, ⟨_, rfl⟩, q⟩) hl
  cases hd with
  | non =>
    cases ru
    exact PySem.P.repr_of_none ⟨.str _, H, I.tok _, ⟨_, rfl⟩, by simpa only [PyData.shown] using q⟩
  | bl b =>
    cases ru
    exact PySem.P.repr_of_bool ⟨.str _, H, I.tok _, ⟨_, rfl⟩, by simpa only [PyData.shown] using q⟩
  | int i =>
    obtain ⟨t, rfl⟩ := ru
    exact PySem.P.repr_of_int (by simpa [PyData.showable] using hs) ⟨.str _, H, I.tok _, ⟨_, rfl⟩, by simpa only [PyData.shown] using q⟩
  | str x =>
    obtain ⟨t, rfl⟩ := ru
    exact PySem.P.repr_of_str ⟨.str _, H, I.tok _, ⟨_, rfl⟩, by simpa only [PyData.shown] using q⟩ (by simpa only [PyData.shown] using hl)
  | lst _ _ => exact big _ ru
  | tup _ _ => exact big _ ru
end
/-! ### a comprehension over a text -/
theorem lc_str {z : Str} {g : TG} {tt : TT} {te : TE} {vs : List Nat} {σ : L2.St} {H1 : Hp} {D : Addr} {Qd : Hp → Prop} (Pv : Nat → Hp → Prop) (h0 : Pv 0 (upd H1 D (.lst [])))
    (hs : ∀ i c H, z.cps.toList[i]? = some c → Pv i H → g (.str ⟨#[c]⟩) (wipe σ vs) H fun σ2 H2 => wipe σ2 vs = wipe σ vs ∧ tt σ2 H2 fun b H3 =>
      if b = true then te σ2 H3 fun y H4 => ∃ acc, H4 D = some (.lst acc) ∧ acc.length < sizeLine ∧ Pv (i + 1) (upd H4 D (.lst (acc ++ [y]))) else Pv (i + 1) H3) (hd : ∀ H, Pv z.cps.toList.length H → Qd H) :
    ∃ W : Nat → Nat → Hp → Prop, (∃ m, W 0 m (upd H1 D (.lst []))) ∧ ∀ i m H, W i m H →
      ((Its z).stop i H ∧ Qd H) ∨ ((Its z).go i H ∧ ∃ Nx : Hp → Prop, (∀ H', Nx H' → ∃ m', m' < m ∧ W (i + 1) m' H') ∧ ∀ x H', (Its z).yld i H x H' → g x (wipe σ vs) H' fun σ2 H2 => wipe σ2 vs = wipe σ vs ∧ tt σ2 H2 fun b H3 =>
        if b = true then te σ2 H3 fun y H4 => ∃ acc, H4 D = some (.lst acc) ∧ acc.length < sizeLine ∧ Nx (upd H4 D (.lst (acc ++ [y]))) else Nx H3) := by
  have hz : z.cps.toList.length = z.cps.size := Array.length_toList
  refine ⟨fun i m H => m = z.cps.size - i ∧ i ≤ z.cps.size ∧ Pv i H, ⟨z.cps.size, by simp, Nat.zero_le _, h0⟩, ?_⟩
  rintro i m H ⟨rfl, hi, p⟩
  by_cases hlt : i < z.cps.size
  · refine .inr ⟨hlt, Pv (i + 1), fun H' p' => ⟨z.cps.size - (i + 1), by omega, rfl, hlt, p'⟩, fun x H' y => ?_⟩
    obtain ⟨e, c, hc, rfl⟩ := y
    subst e
    exact hs i c _ (by rw [Array.getElem?_toList]; exact hc) p
  · have e : i = z.cps.size := by omega
    subst e
    exact .inl ⟨Nat.le_refl _, hd H (by rw [hz]; exact p)⟩

/-! ### the pot: two numbers -/
structure Pot (H : Hp) (p : Addr) (x y : Int) : Prop where
  at_ : H p = some (.lst [.int x, .int y])
  x0 : 0 ≤ x
  y0 : 0 ≤ y
  y1 : y < 1099511627776
theorem Pot.ne {H : Hp} {p q : Addr} {x y : Int} (h : Pot H p x y) (hq : H q = none) : q ≠ p := fun e => by
  subst e
  rw [h.at_] at hq
  cases hq
theorem Pot.same {H H' : Hp} {p : Addr} {x y : Int} (h : Pot H p x y) (e : Same H H') : Pot H' p x y := ⟨e _ _ h.at_, h.x0, h.y0, h.y1⟩
theorem Pot.new {H : Hp} {p q : Addr} {x y : Int} {o : HO} (h : Pot H p x y) (hq : H q = none) : Pot (upd H q o) p x y := h.same (Same.new hq)
theorem hin_of {A : Around} {k : Nat} (hr : Room k A) : A.units + 65 < cLine := by have := hr.un; omega
theorem hrep_of {A : Around} {k : Nat} (hr : Room k A) : A.units + 70 < cLine := by have := hr.un; omega
end L2
set_option Elab.async false
set_option linter.all false
set_option maxRecDepth 100000
set_option maxHeartbeats 4000000
namespace L2
open PySem PySem.Spec PyProof.Rows
/-! ### data with dicts in it -/
mutual
inductive Dq (K : PySem.W.Frag) (H : Hp) : V → PyData → Prop
  | non : Dq K H .non .none
  | bl (b : Bool) : Dq K H (.bl b) (.bool b)
  | int (i : Int) : Dq K H (.int i) (.int i)
  | str (x : Str) : Dq K H (.str x) (.str x)
  | lst {a : Addr} {xs : List V} {ds : List PyData} : SqL K H a xs → DqAll K H xs ds → Dq K H (.ref a) (.list ds)
  | tup {a : Addr} {xs : List V} {ds : List PyData} : SqT K H a xs → DqAll K H xs ds → Dq K H (.ref a) (.tuple ds)
  | dct {a : Addr} {kvs : List (Key × V)} {ps : List (PyData × PyData)} : H a = some (.dK kvs) → DqAll K H (kvs.map fun q => kV q.1) (ps.map (·.1)) → DqAll K H (kvs.map (·.2)) (ps.map (·.2)) → Dq K H (.ref a) (.dict ps)
inductive DqAll (K : PySem.W.Frag) (H : Hp) : List V → List PyData → Prop
  | nil : DqAll K H [] []
  | cons {v : V} {vs : List V} {d : PyData} {ds : List PyData} : Dq K H v d → DqAll K H vs ds → DqAll K H (v :: vs) (d :: ds)
end
section
variable {K : PySem.W.Frag}
mutual
theorem Dp.q {H : Hp} : ∀ {v : V} {d : PyData}, Dp K H v d → Dq K H v d
  | _, _, .non => .non
  | _, _, .bl b => .bl b
  | _, _, .int i => .int i
  | _, _, .str x => .str x
  | _, _, .lst h a => .lst h (DpAll.q a)
  | _, _, .tup h a => .tup h (DpAll.q a)
theorem DpAll.q {H : Hp} : ∀ {vs : List V} {ds : List PyData}, DpAll K H vs ds → DqAll K H vs ds
  | _, _, .nil => .nil
  | _, _, .cons h t => .cons (Dp.q h) (DpAll.q t)
end
mutual
theorem Dq.mono {H H' : Hp} (e : Same H H') : ∀ {v : V} {d : PyData}, Dq K H v d → Dq K H' v d
  | _, _, .non => .non
  | _, _, .bl b => .bl b
  | _, _, .int i => .int i
  | _, _, .str x => .str x
  | _, _, .lst h a => .lst (e.seq h) (DqAll.mono e a)
  | _, _, .tup h a => .tup (sqT_mono e h) (DqAll.mono e a)
  | _, _, .dct h a b => .dct (e _ _ h) (DqAll.mono e a) (DqAll.mono e b)
theorem DqAll.mono {H H' : Hp} (e : Same H H') : ∀ {vs : List V} {ds : List PyData}, DqAll K H vs ds → DqAll K H' vs ds
  | _, _, .nil => .nil
  | _, _, .cons h t => .cons (Dq.mono e h) (DqAll.mono e t)
end
theorem DqAll.len {H : Hp} : ∀ {vs : List V} {ds : List PyData}, DqAll K H vs ds → vs.length = ds.length
  | _, _, .nil => rfl
  | _, _, .cons _ t => congrArg (· + 1) (DqAll.len t)
theorem DqAll.app {H : Hp} : ∀ {vs ws : List V} {ds es : List PyData}, DqAll K H vs ds → DqAll K H ws es → DqAll K H (vs ++ ws) (ds ++ es)
  | _, _, _, _, .nil, t => t
  | _, _, _, _, .cons h s, t => .cons h (DqAll.app s t)
theorem DqAll.at {H : Hp} : ∀ {vs : List V} {ds : List PyData} {i : Nat} {v : V}, DqAll K H vs ds → vs[i]? = some v → ∃ d, ds[i]? = some d ∧ Dq K H v d
  | _, _, i, v, .nil, e => by simp at e
  | _, _, 0, v, .cons h t, e => by
    simp at e
    exact ⟨_, rfl, e ▸ h⟩
  | _, _, i + 1, v, .cons h t, e => by
    obtain ⟨d, h1, h2⟩ := DqAll.at (i := i) t (by simpa using e)
    exact ⟨d, by simpa using h1, h2⟩
abbrev Qh (K : PySem.W.Frag) (p : Addr) (H : Hp) (v : V) (d : PyData) : Prop := Dq K (hid p H) v d
abbrev QhAll (K : PySem.W.Frag) (p : Addr) (H : Hp) (vs : List V) (ds : List PyData) : Prop := DqAll K (hid p H) vs ds
theorem Dq.un {p : Addr} {H : Hp} {v : V} {d : PyData} (h : Qh K p H v d) : Dq K H v d := Dq.mono hid_in h
theorem Dq.but {p : Addr} {H H' : Hp} {v : V} {d : PyData} (e : But p H H') (h : Qh K p H v d) : Qh K p H' v d := Dq.mono (hid_but e) h
theorem DqAll.but {p : Addr} {H H' : Hp} {vs : List V} {ds : List PyData} (e : But p H H') (h : QhAll K p H vs ds) : QhAll K p H' vs ds := DqAll.mono (hid_but e) h
theorem Dq.newT {p q : Addr} {H : Hp} {xs : List V} {ds : List PyData} (hq : H q = none) (n : q ≠ p) (h : QhAll K p H xs ds) : Qh K p (upd H q (.tup xs)) (.ref q) (.tuple ds) :=
  .tup (.inl (.inl (by rw [hid_ne n, upd_same]))) (DqAll.but (But.new hq) h)
theorem Dq.newL {p q : Addr} {H : Hp} {xs : List V} {ds : List PyData} (hq : H q = none) (n : q ≠ p) (h : QhAll K p H xs ds) : Qh K p (upd H q (.lst xs)) (.ref q) (.list ds) :=
  .lst (.inl (.inl (by rw [hid_ne n, upd_same]))) (DqAll.but (But.new hq) h)
theorem Dq.new0 {p q : Addr} {H : Hp} (hq : H q = none) (n : q ≠ p) : Qh K p (upd H q (.dK [])) (.ref q) (.dict []) :=
  .dct (kvs := []) (by rw [hid_ne n, upd_same]) .nil .nil
/-! ### isinstance -/
theorem Dq.ty {H : Hp} {v : V} {d : PyData} (h : Dq K H v d) : TyX K H v (.type (tyN d)) := by
  cases h with
  | non => exact .base .non
  | bl b => exact .base (.bl b)
  | int i => exact .base (.int i)
  | str x => exact .base (.str x)
  | lst hs _ =>
    rcases hs with (h | ⟨o, h⟩) | ⟨o, its, n, h, hc, _⟩
    · exact .base (.lst h)
    · exact .base (.frz h)
    · exact .kList h hc
  | tup hs _ =>
    rcases hs with (h | ⟨o, h⟩) | ⟨o, its, n, h, hc, _⟩
    · exact .base (.tup h)
    · exact .fTuple h
    · exact .kTuple h hc
  | dct h _ _ => exact .base (.dK h)
def isD : PyData → Bool | .dict _ => true | _ => false
def isOfQ : String → PyData → Bool
  | "str", d => isS d
  | "tuple", d => isT d
  | "list", d => isL d
  | "bool", d => isB d
  | "int", d => isI d
  | "dict", d => isD d
  | _, _ => false
theorem kitNq : (["NoneType", "bool", "int", "str", "list", "tuple", "dict"].all fun a => ["str", "tuple", "list", "bool", "int", "dict"].all fun T => kitB a T == some (tabN a T)) = true := by decide +kernel
theorem kit_allq {a T : String} (ha : a ∈ ["NoneType", "bool", "int", "str", "list", "tuple", "dict"]) (hT : T ∈ ["str", "tuple", "list", "bool", "int", "dict"]) : kitB a T = some (tabN a T) := by
  have h := List.all_eq_true.mp (List.all_eq_true.mp kitNq a ha) T hT
  exact eq_of_beq h
theorem isOfQ_tab {T : String} (hT : T ∈ ["str", "tuple", "list", "bool", "int", "dict"]) (d : PyData) : isOfQ T d = tabN (tyN d) T := by
  simp only [List.mem_cons, List.not_mem_nil, or_false] at hT
  rcases hT with rfl | rfl | rfl | rfl | rfl | rfl <;> cases d <;> first | rfl | decide
theorem isOfQ_kit {d : PyData} {T : String} (hT : T ∈ ["str", "tuple", "list", "bool", "int", "dict"]) : kitB (tyN d) T = some (isOfQ T d) := by
  rw [isOfQ_tab hT]
  refine kit_allq ?_ hT
  cases d <;> simp [tyN]
end
def rIsQ (K : PySem.W.Frag) : List V → Hp → VK → Prop := fun xs H Q => ∃ (v : V) (d : PyData) (T : String), xs = [v, .ty T] ∧ Dq K H v d ∧ T ∈ ["str", "tuple", "list", "bool", "int", "dict"] ∧ Q (.bl (isOfQ T d)) H
section
variable {X : Cx}
theorem call_isQ : CallR X (.builtin "isinstance") (rIsQ X.K) := by
  intro pins s σ H xs us Q I r h
  obtain ⟨v, d, T, rfl, hd, hT, q⟩ := h
  exact call_isi pins s σ H _ us Q I r ⟨v, .ty T, .type (tyN d), .type T, isOfQ T d, rfl, .ty T, hd.ty, kit_ty (isOfQ_kit hT), q⟩
end
/-! ### the heap's own reading of it; no list beside a dict -/
mutual
def nl : PyData → Bool
  | .list _ => false
  | .tuple xs => nls xs
  | .dict kvs => nlk kvs
  | _ => true
def nls : List PyData → Bool
  | [] => true
  | x :: xs => nl x && nls xs
def nlk : List (PyData × PyData) → Bool
  | [] => true
  | (k, v) :: r => nl k && nl v && nlk r
end
theorem nlk_of : ∀ {ps : List (PyData × PyData)}, nlk ps = true → nls (ps.map (·.1)) = true ∧ nls (ps.map (·.2)) = true
  | [], _ => ⟨rfl, rfl⟩
  | (k, v) :: r, h => by
    have h' : (nl k && nl v && nlk r) = true := by simpa [nlk] using h
    simp only [Bool.and_eq_true] at h'
    have ih := nlk_of h'.2
    simp only [List.map_cons, nls, Bool.and_eq_true]
    exact ⟨⟨h'.1.1, ih.1⟩, ⟨h'.1.2, ih.2⟩⟩
section
variable {P : Program} {w : World}
theorem kv_keys : ∀ {kvs : List (Key × V)} {vs : List (Key × Value)} {es : List DictEntry}, KV kvs vs → Pairs (mixKind P w) es vs → Vals (kvs.map fun q => kV q.1) (es.map (·.key)) ∧ Vals (kvs.map (·.2)) (es.map (·.val))
  | _, _, _, .nil, .nil => ⟨.nil, .nil⟩
  | _, _, _, .cons (a := q) (b := z) ⟨h1, h2⟩ r, .cons (e := e) k1 k2 k3 => by
    have ih := kv_keys r k3
    refine ⟨.cons ?_ ih.1, .cons ?_ ih.2⟩
    · have k1' : keyIs z.1 e.key = true := k1
      rw [← h1] at k1'
      rcases keyIs_shape k1' with ⟨i, t, e1, e2⟩ | ⟨x, t, e1, e2⟩
      · show RelV (kV q.1) e.key
        rw [e1, e2]
        exact ⟨t, rfl⟩
      · show RelV (kV q.1) e.key
        rw [e1, e2]
        exact ⟨t, rfl⟩
    · show RelV q.2 e.val
      rw [k2]
      exact h2
end
section
variable {X : Cx} {pins : List (Addr × Obj)} {σ : St} {H : Hp} {s : Shared}
mutual
theorem Dq.reads (I : Inv X pins σ H s) : ∀ {v : V} {d : PyData} {u : Value}, Dq X.K H v d → RelV v u → ∃ as, Reads s.heap u d as ∧ (nl d = true → sysModules ∉ as)
  | _, _, _, .non, r => by
    cases r
    exact ⟨_, Reads.none, fun _ h => nomatch h⟩
  | _, _, _, .bl b, r => by
    cases r
    exact ⟨_, Reads.bool b, fun _ h => nomatch h⟩
  | _, _, _, .int i, r => by
    obtain ⟨t, rfl⟩ := r
    exact ⟨_, Reads.int i t, fun _ h => nomatch h⟩
  | _, _, _, .str x, r => by
    obtain ⟨t, rfl⟩ := r
    exact ⟨_, Reads.str x t, fun _ h => nomatch h⟩
  | _, _, _, .lst hs ha, r => by
    cases r
    obtain ⟨its, rv, ⟨o, n, ho, hc, _, hd⟩, _⟩ := I.list hs
    obtain ⟨as, hr, _⟩ := DqAll.reads I ha rv
    exact ⟨_, Reads.list ho hc hd hr, fun h => by simp [nl] at h⟩
  | _, _, _, .tup hs ha, r => by
    cases r
    obtain ⟨its, rv, ⟨o, ho, hc, n, hd⟩, _⟩ := I.tuple hs
    obtain ⟨as, hr, hn⟩ := DqAll.reads I ha rv
    exact ⟨_, Reads.tuple ho hc hd hr, fun h => hn (by simpa [nl] using h)⟩
  | _, _, _, .dct (a := a) (ps := ps) hs hk hv, r => by
    cases r
    obtain ⟨_, hlow, vs, kv, o, es, ep, ho, ⟨hc, _, _⟩, hd, _, hp, _⟩ := I.hok _ _ hs
    obtain ⟨v1, v2⟩ := kv_keys kv hp
    obtain ⟨as, r1, n1⟩ := DqAll.reads I hk v1
    obtain ⟨bs, r2, n2⟩ := DqAll.reads I hv v2
    refine ⟨_, Reads.dict ho hc hd r1 r2, fun h => ?_⟩
    have h' := nlk_of (ps := ps) (by simpa [nl] using h)
    have hl := beq_eq_false_iff_ne.mp hlow
    intro hm
    rw [List.cons_append, List.mem_cons, List.mem_append] at hm
    rcases hm with hm | hm | hm
    · exact hl hm.symm
    · exact n1 h'.1 hm
    · exact n2 h'.2 hm
theorem DqAll.reads (I : Inv X pins σ H s) : ∀ {vs : List V} {ds : List PyData} {us : List Value}, DqAll X.K H vs ds → Vals vs us → ∃ as, ReadsAll s.heap us ds as ∧ (nls ds = true → sysModules ∉ as)
  | _, _, _, .nil, r => by
    cases r
    exact ⟨_, ReadsAll.nil, fun _ h => nomatch h⟩
  | _, _, _, .cons h1 h2, r => by
    cases r with
    | cons r1 r2 =>
      obtain ⟨as, q1, n1⟩ := Dq.reads I h1 r1
      obtain ⟨bs, q2, n2⟩ := DqAll.reads I h2 r2
      refine ⟨_, ReadsAll.cons q1 q2, fun h => ?_⟩
      have h' := h
      simp only [nls, Bool.and_eq_true] at h'
      intro hm
      rcases List.mem_append.mp hm with hm | hm
      · exact n1 h'.1 hm
      · exact n2 h'.2 hm
end
/-! ### repr -/
structure shownQ (d : PyData) : Prop where
  sh : d.showable = true
  dep : d.depth ≤ 64
  len : d.shown.length ≤ sizeLine
  nd : d.hasDict = true → nl d = true
def rReprQ (K : PySem.W.Frag) : List V → Hp → VK → Prop := fun xs H Q => ∃ (v : V) (d : PyData), xs = [v] ∧ Dq K H v d ∧ shownQ d ∧ Q (.str d.shown) H
theorem call_reprQ (hg : X.A.guards = some []) (hu : X.A.units + 70 < cLine) : CallR X (.builtin "repr") (rReprQ X.K) := by
  intro pins s σ H xs us Q I r h
  obtain ⟨v, d, rfl, hd, ⟨hs, hdep, hl, hnd⟩, q⟩ := h
  obtain ⟨u, rfl, ru⟩ := vals1 r
  obtain ⟨as, rd, hm⟩ := Dq.reads I hd ru
  have big : ∀ a, u = Value.ref a → wpAny (model X.prog X.w) X.A (call (.builtin "repr") [u]) (EP X pins σ Q) X.xe s := fun a e => by
    subst e
    exact repr_of_reads' rd hs (fun h => hm (hnd h)) hg (by omega) (fun _ _ e => e) (fun h' t tk k => ⟨.str d.shown, H, I.kept k, ⟨_, rfl⟩, q⟩) hl
  cases hd with
  | non =>
    cases ru
    exact PySem.P.repr_of_none ⟨.str _, H, I.tok _, ⟨_, rfl⟩, by simpa only [PyData.shown] using q⟩
  | bl b =>
    cases ru
    exact PySem.P.repr_of_bool ⟨.str _, H, I.tok _, ⟨_, rfl⟩, by simpa only [PyData.shown] using q⟩
  | int i =>
    obtain ⟨t, rfl⟩ := ru
    exact PySem.P.repr_of_int (by simpa [PyData.showable] using hs) ⟨.str _, H, I.tok _, ⟨_, rfl⟩, by simpa only [PyData.shown] using q⟩
  | str x =>
    obtain ⟨t, rfl⟩ := ru
    exact PySem.P.repr_of_str ⟨.str _, H, I.tok _, ⟨_, rfl⟩, by simpa only [PyData.shown] using q⟩ (by simpa only [PyData.shown] using hl)
  | lst _ _ => exact big _ ru
  | tup _ _ => exact big _ ru
  | dct _ _ _ => exact big _ ru
end
end L2
set_option Elab.async false
set_option linter.all false
set_option maxRecDepth 100000
set_option maxHeartbeats 4000000
namespace L2
open PySem PySem.Spec PyProof.Rows
/-! ### xs == [], xs of anything; xs.extend(t), t a tuple -/
def rEqNil (K : PySem.W.Frag) : R2 := fun x y H Q => ∃ a b xs, x = .ref a ∧ y = .ref b ∧ SqL K H a xs ∧ SqL K H b [] ∧ Q (.bl xs.isEmpty) H
def rNeNil (K : PySem.W.Frag) : R2 := fun x y H Q => ∃ a b xs, x = .ref a ∧ y = .ref b ∧ SqL K H a xs ∧ SqL K H b [] ∧ Q (.bl (!xs.isEmpty)) H
theorem list_extend_tupW (l : Addr) (items : Array Value) (n : Nat) (b : Addr) (items2 : Array Value) (n2 : Nat) (dd2 : Option Addr) (sl2 : Array (Option Value)) (hs0 : ¬(!items.isEmpty && Builtin.List.listTooLong (items.size + items2.size)) = true) (hs1 : items.size ≤ sizeLine) (hs2 : items.size + items2.size ≤ sizeLine + 1) :
    Meets (Builtin.«list.extend» ⟨[.ref l, .ref b], []⟩) (fun _ R s => s.heap.get? l = some { cls := .type "list", dict := none, data := .seq items n, slots := #[] } ∧ s.heap.get? b = some { cls := .type "tuple", dict := dd2, data := .seq items2 n2, slots := sl2 } ∧ R (.ok (.ret Value.none)) { s with heap := s.heap.update l (Obj.mapSeq fun x => x ++ items2), toks := s.toks }) :=
  .of_wp fun prog w A R s h => by
    obtain ⟨hp, g, d, tk, os⟩ := s
    obtain ⟨hl, hb, h⟩ := h
    have f1 := AutoSeq1.idx_int
    have f2 := AutoSeq1.sub_tuple_tuple
    have f3 := AutoSeq1.sub_list_list
    have f4 := AutoSeq1.sub_tuple_list
    have f5 := AutoSeq1.sub_list_tuple
    have hz' : (items ++ items2).size ≤ sizeLine + 1 := by rw [Array.size_append]; exact hs2
    wp_walk using (wpAny_updateSeq hl rfl (hz := hs1) (_hz' := hz')), AutoSeq1.wpAny_loadPart' hl, AutoSeq1.wpAny_loadPart' hb
    exact ⟨_, rfl, h⟩
def rExtT (K : PySem.W.Frag) : V → List V → Hp → VK → Prop := fun x vs H Q => ∃ l b xs zs, x = .ref l ∧ vs = [.ref b] ∧ H l = some (.lst xs) ∧ SqT K H b zs ∧ xs.length + zs.length ≤ sizeLine ∧ Q .non (upd H l (.lst (xs ++ zs)))
section
variable {X : Cx}
theorem op_eqNil (hu : X.A.units + 64 < cLine) : OpR X (compareOp .Eq) (rEqNil X.K) := by
  intro pins s σ H x y v u Q I rx ry h
  obtain ⟨a, b, xs, rfl, rfl, ha, hb, q⟩ := h
  cases rx
  cases ry
  obtain ⟨its, r1, ⟨⟨cls, dd, data, sl⟩, n, ho, hc, hdn, hd⟩, hz1⟩ := I.list ha
  obtain ⟨its2, r2, ⟨⟨cls2, dd2, data2, sl2⟩, n2, ho2, hc2, hdn2, hd2⟩, hz2⟩ := I.list hb
  simp only at hc hd hc2 hd2
  subst hc hd hc2 hd2
  cases r2
  have hl1 := r1.length
  cases xs with
  | nil =>
    cases r1
    have e := SeqAt.list_eqAt a b (#[] : Array Value) (#[] : Array Value) n n2 dd dd2 sl sl2 rfl (fun _ => true)
    exact richCompare_meets_room (op := .Eq) ⟨_, ho, rfl⟩ ⟨_, ho2, rfl⟩ F.slot_list_eq F.entry_list_eq (F.args_list_eq_2 _ _) e
      ⟨ho, ho2, fun j h1 => absurd h1 (Nat.not_lt_zero _), show Value.bool true ≠ Value.notImplemented ∧ _ from ⟨(fun x => nomatch x), .bl true, H, I, rfl, q⟩⟩ (by omega)
  | cons y ys =>
    have hne : (its.toArray.size != (#[] : Array Value).size) = true := by
      rw [List.size_toArray, ← hl1]
      rfl
    exact richCompare_meets_room (op := .Eq) ⟨_, ho, rfl⟩ ⟨_, ho2, rfl⟩ F.slot_list_eq F.entry_list_eq (F.args_list_eq_2 _ _) (SeqAt.list_eq_lengthsAt a b its.toArray #[] n n2 dd dd2 sl sl2 hne)
      ⟨ho, ho2, show Value.bool false ≠ Value.notImplemented ∧ _ from ⟨(fun x => nomatch x), .bl false, H, I, rfl, q⟩⟩ (by omega)
theorem op_neNil (hu : X.A.units + 64 < cLine) : OpR X (compareOp .NotEq) (rNeNil X.K) := by
  intro pins s σ H x y v u Q I rx ry h
  obtain ⟨a, b, xs, rfl, rfl, ha, hb, q⟩ := h
  cases rx
  cases ry
  obtain ⟨its, r1, ⟨⟨cls, dd, data, sl⟩, n, ho, hc, hdn, hd⟩, hz1⟩ := I.list ha
  obtain ⟨its2, r2, ⟨⟨cls2, dd2, data2, sl2⟩, n2, ho2, hc2, hdn2, hd2⟩, hz2⟩ := I.list hb
  simp only at hc hd hc2 hd2
  subst hc hd hc2 hd2
  cases r2
  have hl1 := r1.length
  cases xs with
  | nil =>
    cases r1
    have e := SeqAt.list_neAt a b (#[] : Array Value) (#[] : Array Value) n n2 dd dd2 sl sl2 rfl (fun _ => true)
    exact richCompare_meets_room (op := .NotEq) ⟨_, ho, rfl⟩ ⟨_, ho2, rfl⟩ F.slot_list_ne F.entry_list_ne (F.args_list_ne_2 _ _) e
      ⟨ho, ho2, fun j h1 => absurd h1 (Nat.not_lt_zero _), show Value.bool false ≠ Value.notImplemented ∧ _ from ⟨(fun x => nomatch x), .bl false, H, I, rfl, q⟩⟩ (by omega)
  | cons y ys =>
    have hne : (its.toArray.size != (#[] : Array Value).size) = true := by
      rw [List.size_toArray, ← hl1]
      rfl
    exact richCompare_meets_room (op := .NotEq) ⟨_, ho, rfl⟩ ⟨_, ho2, rfl⟩ F.slot_list_ne F.entry_list_ne (F.args_list_ne_2 _ _) (SeqAt.list_ne_lengthsAt a b its.toArray #[] n n2 dd dd2 sl sl2 hne)
      ⟨ho, ho2, show Value.bool true ≠ Value.notImplemented ∧ _ from ⟨(fun x => nomatch x), .bl true, H, I, rfl, q⟩⟩ (by omega)
theorem mt_extendT : MtM X "list.extend" (rExtT X.K) := by
  intro pins s σ H x vs v us Q I rx rv h
  obtain ⟨l, b, xs, zs, rfl, rfl, hH, hB, hz, q⟩ := h
  cases rx
  obtain ⟨u, rfl, ru⟩ := rv.one
  cases ru
  obtain ⟨z, its, n, r, hl, e⟩ := I.lstM hH
  obtain ⟨its2, r2, ⟨⟨cls2, dd2, data2, sl2⟩, ho2, hc2, n2, hd2⟩, z2⟩ := I.tuple hB
  simp only at hc2 hd2
  subst hc2 hd2
  have hl2 := r2.length
  have hsz : its.toArray.size + its2.toArray.size ≤ sizeLine := by rw [List.size_toArray, List.size_toArray]; omega
  have hlong : ¬ (!its.toArray.isEmpty && Builtin.List.listTooLong (its.toArray.size + its2.toArray.size)) = true := by
    rw [notLongL hsz, Bool.and_false]
    exact Bool.false_ne_true
  refine call_meets F.slot_list_extend ⟨_, e, rfl⟩ F.entry_list_extend (F.args_list_extend_2 _ _)
    (list_extend_tupW l its.toArray n b its2.toArray n2 dd2 sl2 hlong (by rw [List.size_toArray]; omega) (by omega)) ⟨e, ho2, ?_⟩
  refine ⟨.non, _, I.lset (its' := its ++ its2) hH e (by simp) (r.append r2) ?_, rfl, q⟩
  rw [List.length_append]
  omega
end
end L2
set_option Elab.async false
set_option linter.all false
set_option maxRecDepth 100000
set_option maxHeartbeats 4000000
namespace L2
open PySem PySem.Spec PyProof.Rows
/-! ### data with dicts in it whose lists were all made by the run: repr of it, lists beside dicts too -/
mutual
inductive Dr (K : PySem.W.Frag) (H : Hp) : V → PyData → Prop
  | non : Dr K H .non .none
  | bl (b : Bool) : Dr K H (.bl b) (.bool b)
  | int (i : Int) : Dr K H (.int i) (.int i)
  | str (x : Str) : Dr K H (.str x) (.str x)
  | lst {a : Addr} {xs : List V} {ds : List PyData} : a ≠ sysModules → SqL K H a xs → DrAll K H xs ds → Dr K H (.ref a) (.list ds)
  | tup {a : Addr} {xs : List V} {ds : List PyData} : SqT K H a xs → DrAll K H xs ds → Dr K H (.ref a) (.tuple ds)
  | dct {a : Addr} {kvs : List (Key × V)} {ps : List (PyData × PyData)} : H a = some (.dK kvs) → DrAll K H (kvs.map fun q => kV q.1) (ps.map (·.1)) → DrAll K H (kvs.map (·.2)) (ps.map (·.2)) → Dr K H (.ref a) (.dict ps)
inductive DrAll (K : PySem.W.Frag) (H : Hp) : List V → List PyData → Prop
  | nil : DrAll K H [] []
  | cons {v : V} {vs : List V} {d : PyData} {ds : List PyData} : Dr K H v d → DrAll K H vs ds → DrAll K H (v :: vs) (d :: ds)
end
section
variable {K : PySem.W.Frag}
mutual
theorem Dr.q {H : Hp} : ∀ {v : V} {d : PyData}, Dr K H v d → Dq K H v d
  | _, _, .non => .non
  | _, _, .bl b => .bl b
  | _, _, .int i => .int i
  | _, _, .str x => .str x
  | _, _, .lst _ h a => .lst h (DrAll.q a)
  | _, _, .tup h a => .tup h (DrAll.q a)
  | _, _, .dct h a b => .dct h (DrAll.q a) (DrAll.q b)
theorem DrAll.q {H : Hp} : ∀ {vs : List V} {ds : List PyData}, DrAll K H vs ds → DqAll K H vs ds
  | _, _, .nil => .nil
  | _, _, .cons h t => .cons (Dr.q h) (DrAll.q t)
end
mutual
theorem Dr.mono {H H' : Hp} (e : Same H H') : ∀ {v : V} {d : PyData}, Dr K H v d → Dr K H' v d
  | _, _, .non => .non
  | _, _, .bl b => .bl b
  | _, _, .int i => .int i
  | _, _, .str x => .str x
  | _, _, .lst n h a => .lst n (e.seq h) (DrAll.mono e a)
  | _, _, .tup h a => .tup (sqT_mono e h) (DrAll.mono e a)
  | _, _, .dct h a b => .dct (e _ _ h) (DrAll.mono e a) (DrAll.mono e b)
theorem DrAll.mono {H H' : Hp} (e : Same H H') : ∀ {vs : List V} {ds : List PyData}, DrAll K H vs ds → DrAll K H' vs ds
  | _, _, .nil => .nil
  | _, _, .cons h t => .cons (Dr.mono e h) (DrAll.mono e t)
end
/-! data without lists and dicts, as it was read before -/
mutual
def pureD : PyData → Bool
  | .list _ => false
  | .dict _ => false
  | .tuple xs => pureDs xs
  | _ => true
def pureDs : List PyData → Bool
  | [] => true
  | x :: xs => pureD x && pureDs xs
end
mutual
theorem Dp.r {H : Hp} : ∀ {v : V} {d : PyData}, pureD d = true → Dp K H v d → Dr K H v d
  | _, _, _, .non => .non
  | _, _, _, .bl b => .bl b
  | _, _, _, .int i => .int i
  | _, _, _, .str x => .str x
  | _, _, n, .lst h a => by simp [pureD] at n
  | _, _, n, .tup h a => .tup h (DpAll.r (by simpa [pureD] using n) a)
theorem DpAll.r {H : Hp} : ∀ {vs : List V} {ds : List PyData}, pureDs ds = true → DpAll K H vs ds → DrAll K H vs ds
  | _, _, _, .nil => .nil
  | _, _, n, .cons h t => by
    have n' := n
    simp only [pureDs, Bool.and_eq_true] at n'
    exact .cons (Dp.r n'.1 h) (DpAll.r n'.2 t)
end
end
section
variable {X : Cx} {pins : List (Addr × Obj)} {σ : St} {H : Hp} {s : Shared}
mutual
theorem Dr.reads (I : Inv X pins σ H s) : ∀ {v : V} {d : PyData} {u : Value}, Dr X.K H v d → RelV v u → ∃ as, Reads s.heap u d as ∧ sysModules ∉ as
  | _, _, _, .non, r => by
    cases r
    exact ⟨_, Reads.none, fun h => nomatch h⟩
  | _, _, _, .bl b, r => by
    cases r
    exact ⟨_, Reads.bool b, fun h => nomatch h⟩
  | _, _, _, .int i, r => by
    obtain ⟨t, rfl⟩ := r
    exact ⟨_, Reads.int i t, fun h => nomatch h⟩
  | _, _, _, .str x, r => by
    obtain ⟨t, rfl⟩ := r
    exact ⟨_, Reads.str x t, fun h => nomatch h⟩
  | _, _, _, .lst (a := a) ne hs ha, r => by
    cases r
    obtain ⟨its, rv, ⟨o, n, ho, hc, _, hd⟩, _⟩ := I.list hs
    obtain ⟨as, hr, hn⟩ := DrAll.reads I ha rv
    refine ⟨_, Reads.list ho hc hd hr, fun hm => ?_⟩
    rcases List.mem_cons.mp hm with e | hm
    · exact ne e.symm
    · exact hn hm
  | _, _, _, .tup hs ha, r => by
    cases r
    obtain ⟨its, rv, ⟨o, ho, hc, n, hd⟩, _⟩ := I.tuple hs
    obtain ⟨as, hr, hn⟩ := DrAll.reads I ha rv
    exact ⟨_, Reads.tuple ho hc hd hr, hn⟩
  | _, _, _, .dct (a := a) (ps := ps) hs hk hv, r => by
    cases r
    obtain ⟨_, hlow, vs, kv, o, es, ep, ho, ⟨hc, _, _⟩, hd, _, hp, _⟩ := I.hok _ _ hs
    obtain ⟨v1, v2⟩ := kv_keys kv hp
    obtain ⟨as, r1, n1⟩ := DrAll.reads I hk v1
    obtain ⟨bs, r2, n2⟩ := DrAll.reads I hv v2
    refine ⟨_, Reads.dict ho hc hd r1 r2, fun hm => ?_⟩
    have hl := beq_eq_false_iff_ne.mp hlow
    rw [List.cons_append, List.mem_cons, List.mem_append] at hm
    rcases hm with hm | hm | hm
    · exact hl hm.symm
    · exact n1 hm
    · exact n2 hm
theorem DrAll.reads (I : Inv X pins σ H s) : ∀ {vs : List V} {ds : List PyData} {us : List Value}, DrAll X.K H vs ds → Vals vs us → ∃ as, ReadsAll s.heap us ds as ∧ sysModules ∉ as
  | _, _, _, .nil, r => by
    cases r
    exact ⟨_, ReadsAll.nil, fun h => nomatch h⟩
  | _, _, _, .cons h1 h2, r => by
    cases r with
    | cons r1 r2 =>
      obtain ⟨as, q1, n1⟩ := Dr.reads I h1 r1
      obtain ⟨bs, q2, n2⟩ := DrAll.reads I h2 r2
      refine ⟨_, ReadsAll.cons q1 q2, fun hm => ?_⟩
      rcases List.mem_append.mp hm with hm | hm
      · exact n1 hm
      · exact n2 hm
end
/-- a list written out: new, and not sys.modules -/
def tLstN (t : TA) : TE := fun σ H Q => t σ H fun xs H1 => xs.length ≤ sizeLine ∧ ∀ p, H1 p = none → p ≠ sysModules → Q (.ref p) (upd H1 p (.lst xs))
theorem pe_lstN {es : List Expr} {pos : Pos} {t : TA} (h : PA X es t) : PE X (.List es pos) (tLstN t) := by
  refine ⟨fun pins s σ H Q I hq => ?_⟩
  refine wpAny_List_spliced (thn (h.run pos pins s σ H _ I hq) fun us s1 ⟨xs, H1, I1, r, z, q⟩ => ⟨by rw [← r.length]; exact z, ?_⟩)
  have hf : H1 s1.heap.objs.size = none := I1.hok.fresh (Nat.le_refl _)
  have hb : s1.heap.objs.size ≠ sysModules := fun e => by
    have := I1.big
    rw [e] at this
    exact Nat.lt_irrefl _ this
  refine ⟨.ref s1.heap.objs.size, upd H1 s1.heap.objs.size (.lst xs), I1.laid (t' := s1.toks) (fun b u e => Heap.get?_push_of_some _ e) (Nat.le_refl _) ?_, rfl, q _ hf hb⟩
  exact ⟨z, us, 0, r, Heap.get?_push_size _ rfl⟩
structure shownR (d : PyData) : Prop where
  sh : d.showable = true
  dep : d.depth ≤ 64
  len : d.shown.length ≤ sizeLine
def rReprR (K : PySem.W.Frag) : List V → Hp → VK → Prop := fun xs H Q => ∃ (v : V) (d : PyData), xs = [v] ∧ Dr K H v d ∧ shownR d ∧ Q (.str d.shown) H
theorem call_reprR (hg : X.A.guards = some []) (hu : X.A.units + 70 < cLine) : CallR X (.builtin "repr") (rReprR X.K) := by
  intro pins s σ H xs us Q I r h
  obtain ⟨v, d, rfl, hd, ⟨hs, hdep, hl⟩, q⟩ := h
  obtain ⟨u, rfl, ru⟩ := vals1 r
  obtain ⟨as, rd, hm⟩ := Dr.reads I hd ru
  have big : ∀ a, u = Value.ref a → wpAny (model X.prog X.w) X.A (call (.builtin "repr") [u]) (EP X pins σ Q) X.xe s := fun a e => by
    subst e
    exact repr_of_reads' rd hs (fun _ => hm) hg (by omega) (fun _ _ e => e) (fun h' t tk k => ⟨.str d.shown, H, I.kept k, ⟨_, rfl⟩, q⟩) hl
  cases hd with
  | non =>
    cases ru
    exact PySem.P.repr_of_none ⟨.str _, H, I.tok _, ⟨_, rfl⟩, by simpa only [PyData.shown] using q⟩
  | bl b =>
    cases ru
    exact PySem.P.repr_of_bool ⟨.str _, H, I.tok _, ⟨_, rfl⟩, by simpa only [PyData.shown] using q⟩
  | int i =>
    obtain ⟨t, rfl⟩ := ru
    exact PySem.P.repr_of_int (by simpa [PyData.showable] using hs) ⟨.str _, H, I.tok _, ⟨_, rfl⟩, by simpa only [PyData.shown] using q⟩
  | str x =>
    obtain ⟨t, rfl⟩ := ru
    exact PySem.P.repr_of_str ⟨.str _, H, I.tok _, ⟨_, rfl⟩, by simpa only [PyData.shown] using q⟩ (by simpa only [PyData.shown] using hl)
  | lst _ _ => exact big _ ru
  | tup _ _ => exact big _ ru
  | dct _ _ _ => exact big _ ru
end
end L2
set_option Elab.async false
set_option linter.all false
set_option maxRecDepth 100000
set_option maxHeartbeats 4000000
namespace L2
open PySem PySem.Spec PyProof.Rows
/-! a def whose promise is asked only where no repr is under way -/
structure FnG (P : Program) (w : World) (K : PySem.W.Frag) (mg : Str → Option Value) (base : Heap) (CX : CXT) (k : Nat) (f : Addr) (fd : FuncData) (ps : List Str) (sp : Sp) : Prop where
  run : ∀ (A : Around) (outer : List Env) (s : Shared) (H : Hp) (args : Args) (us : List Value) (vs : List V) (Q : VK) (E : XK), A.guards = some [] → Room k A → Env0 P w K mg base A outer s H →
    BindsTo s fd args (ps.zip us) → Vals vs us → sp vs H Q E → codeAny (model P w) A (.call (.ref f) args) (CR CX outer P w H s Q E) s
section
variable {P : Program} {w : World} {K : PySem.W.Frag} {mg : Str → Option Value} {base : Heap} {CX : CXT} {k : Nat}
theorem fnG_of {f : Addr} {nm ql : Str} {pa : Arguments} {bd : List Stmt} {sc : Scope} {dV kV dc pm cdv ct oc : Value} {an od : Option Addr} {osl : Array (Option Value)} {N ps : List Str} {sp : Sp}
    (lk : K.lookup f = some ⟨oc, od, .func (PySem.W.fnOf nm ql pa bd sc dV kV dc pm an cdv ct), osl⟩) (hcd : PySem.W.codeIn K cdv ql = true) (S : FnScope N ps sc)
    (ln : ∀ vs H Q E, sp vs H Q E → vs.length = ps.length)
    (hb : ∀ (A : Around) (outer : List Env) (s : Shared) (H : Hp) (vs : List V) (Q : VK) (E : XK), (A.deeper (envOfC ql sc s.heap.objs.size f cdv)).guards = some [] → Room k (A.deeper (envOfC ql sc s.heap.objs.size f cdv)) → sp vs H Q E →
      ∃ t, PSs (cxOf CX P w K mg base N ql sc f cdv A outer s H E) bd t ∧ t { nx := fun _ H' => Q .non H', rt := Q } (start N vs) H) :
    FnG P w K mg base CX (k + 1) f (PySem.W.fnOf nm ql pa bd sc dV kV dc pm an cdv ct) ps sp := by
  constructor
  intro A outer s H args us vs Q E hg hr e0 hbd rv hsp
  have hln := ln _ _ _ _ hsp
  have inK : K.In s.heap := e0.mod.kin.keeps (fun b o e => (e0.bs b o e).1)
  have noL : s.heap.NoLimit := e0.mod.nolimit.keeps (fun b o e => (e0.bs b o e).1)
  have hkd : ∀ y ∈ ps.zip us, sc.names.lookup y.1 = some .local ∨ (sc.names.lookup y.1 = some .cell ∧ ((cellsFrom (s.heap.objs.size + 1) sc.names []).lookup y.1).isSome = true) := by
    rintro ⟨n, v⟩ hy
    rcases S.par n (List.of_mem_zip hy).1 with z | z
    · exact Or.inl z
    · exact Or.inr ⟨z, PySem.W.cellsFrom_some _ _ _ (Or.inl z)⟩
  refine codeAny_call_function hr.depth (inK _ _ lk) rfl S.co S.gen rfl
    (PySem.W.codeRec_of inK hcd) (hbd _ _ _ _ ?_)
  refine wpAny_newFunctionEnv_cells S.kind hkd
    (fun env he s1 x => ?_)
  subst he
  refine ⟨noL.keeps x.toInCall.keep, codeAny_func ?_⟩
  obtain ⟨t, ht, hq⟩ := hb A outer s H vs Q E hg (hr.deeper _) hsp
  have I0 := inv_start (CX := CX) (E := E) S hr.hd e0 hln rv x
  refine wpAny_mono (ht.run [] s1 (start N vs) H _ I0 hq)
    (fun fl s' hs => ?_) (fun e s' hs => hs)
  have done : ∀ {σ' : St} {H' : Hp} {v : V} {u : Value}, Inv (cxOf CX P w K mg base N ql sc f cdv A outer s H E) [] σ' H' s' → RelV v u → Q v H' → CE outer P w H s Q u s' := by
    intro σ' H' v u J r q
    exact ⟨v, H', J.os, J.bare, J.base, J.hok, r, q⟩
  cases fl with
  | ret u =>
    obtain ⟨v, σ', H', J, r, q⟩ := hs
    exact done J r q
  | next =>
    obtain ⟨σ', H', J, q⟩ := hs
    exact done (v := .non) (u := .none) J rfl q
  | brk => exact (hs.elim fun _ ⟨_, _, q⟩ => q.elim)
  | cont => exact (hs.elim fun _ ⟨_, _, q⟩ => q.elim)
/-- by its place in the text, as C8's -/
theorem fnG0 {x : Str} {st : Stmt} {f : Addr} {fd : FuncData} {N ps : List Str} {sp : Sp} (D : C8.Def K mg x st f fd) (S : FnScope N ps (C8.fnScope st)) (ln : ∀ vs H Q E, sp vs H Q E → vs.length = ps.length)
    (hb : ∀ (cdv : Value) (A : Around) (outer : List Env) (s : Shared) (H : Hp) (vs : List V) (Q : VK) (E : XK), (A.deeper (envOfC x (C8.fnScope st) s.heap.objs.size f cdv)).guards = some [] → Room k (A.deeper (envOfC x (C8.fnScope st) s.heap.objs.size f cdv)) → sp vs H Q E →
      ∃ t, PSs (cxOf C8.CX0 P w K mg base N x (C8.fnScope st) f cdv A outer s H E).nox (C8.fnBody st) t ∧ t { nx := fun _ H' => Q .non H', rt := Q } (start N vs) H) : FnG P w K mg base C8.CX0 (k + 1) f fd ps sp := by
  obtain ⟨oc, od, dV, kV, doc, pm, an, cdv, ct, osl, rfl, lk, hcd⟩ := D.fn.ex
  refine fnG_of lk hcd S ln (fun A outer s H vs Q E hg hr hsp => ?_)
  obtain ⟨t, h, q⟩ := hb cdv A outer s H vs Q E hg hr hsp
  exact ⟨t, h.nox, q⟩
end
/-- the law's call, from such a promise -/
theorem lawG {P : Program} {w : World} {K : PySem.W.Frag} {mg mb : Str → Option Value} {CX : CXT} {k : Nat} {fa a : Addr} {fd : FuncData} {x : Str} {sp : Sp} {s₁ : Shared} {vs : List Value} {ns : List Int}
    (KX : K.In s₁.heap) (hns : s₁.heap.Ns mainGlobals mg) (hb : s₁.heap.Ns builtinsNs mb) (hbb : ∀ x : Str, x ≠ "__name__" → mb x = bootBuiltins x) (hlim : s₁.heap.NoLimit) (hg : s₁.gens = #[])
    (ha : s₁.heap.get? a = some { cls := .type "list", data := .seq vs.toArray }) (hi : IntsAre vs ns) (hl : ns.length ≤ sizeLine) (hr : Room k callerA)
    (F : ∀ base : Heap, K.In base → base.Ns mainGlobals mg → FnG P w K mg base CX k fa fd [x] sp)
    (hbind : ∀ (s : Shared) (u : Value), BindsTo s fd ⟨[u], []⟩ [(x, u)])
    (hsp : ∀ H : Hp, Only H → SqL K H a (ns.map V.int) → sp [.ref a] H (fun v _ => v = .bl true) fun _ _ _ => False)
    (hCX : ∀ H e s', CX [] H s₁ (fun _ _ _ => False) e s' → False) :
    codeAny (model P w) callerA (.call (.ref fa) ⟨[.ref a], []⟩) (fun r s' => r = .ok (.ret (.bool true)) ∧ OldK s₁.heap s'.heap ∧ s'.os = s₁.os ∧ AllBare s'.gens) s₁ := by
  have vi := vals_ints hi
  have hvl := hi.length
  have main : ∀ H : Hp, Only H → SqL K H a (ns.map V.int) → HOk P w H s₁.heap → (∀ b, H b ≠ none → b = a) → (H a ≠ none → K.lookup a = none) →
      codeAny (model P w) callerA (.call (.ref fa) ⟨[.ref a], []⟩) (fun r s' => r = .ok (.ret (.bool true)) ∧ OldK s₁.heap s'.heap ∧ s'.os = s₁.os ∧ AllBare s'.gens) s₁ := by
    intro H only hS hok onlyA noK
    have free : ∀ {b : Addr} {o : Obj} {es : Array DictEntry} {ep : Nat}, s₁.heap.get? b = some o → o.data = .dict es ep → H b = none := by
      intro b o es ep e d
      cases q : H b with
      | none => rfl
      | some u =>
        have hba : b = a := onlyA b (by rw [q]; simp)
        subst hba
        rw [ha] at e
        cases e
        exact nomatch (show Data.seq vs.toArray _ = Data.dict es ep from d)
    have nsAt : ∀ {b : Addr} {m : Str → Option Value}, s₁.heap.Ns b m → (hidT s₁.heap H).Ns b m := by
      rintro b m ⟨o, es, ep, e, d, r⟩
      exact ⟨o, es, ep, hidT_get e (free e d), d, r⟩
    have inB : K.In (hidT s₁.heap H) := by
      intro b o e
      refine hidT_get (KX b o e) ?_
      cases q : H b with
      | none => rfl
      | some u =>
        have hba : b = a := onlyA b (by rw [q]; simp)
        subst hba
        rw [noK (by rw [q]; simp)] at e
        cases e
    have md : Mod K mg (hidT s₁.heap H) := by
      obtain ⟨mc, h1, h2⟩ := hlim
      exact ⟨inB, nsAt hns, ⟨mb, nsAt hb, hbb⟩, ⟨mc, nsAt h1, h2⟩⟩
    have e0 : Env0 P w K mg (hidT s₁.heap H) callerA [] s₁ H := by
      refine ⟨rfl, md, fun b o e => of_hidT e, Nat.le_of_eq (hidT_size _ _), trivial, ?_, hok, .of_eq hg⟩
      intro b hb
      exact absurd (show b ∈ ([] : List Addr) from hb) (by simp)
    have hrun := (F _ inB (nsAt hns)).run callerA [] s₁ H ⟨[.ref a], []⟩ [.ref a] [.ref a] _ _ rfl hr e0
      (hbind s₁ (.ref a)) (.cons rfl .nil) (hsp H only hS)
    refine codeAny_mono hrun (fun r s' h => ?_)
    cases r with
    | error e => exact (hCX H e s' h).elim
    | ok fl =>
      cases fl with
      | ret u =>
        obtain ⟨v, H', os, bare, un, hok', r', q⟩ := h
        have qv : v = .bl true := q
        subst qv
        have ru : u = Value.bool true := r'
        subst ru
        refine ⟨rfl, OldK.of_keep ?_, os, bare⟩
        intro b o e
        cases q : H b with
        | none => exact un.keep b o e q (fun z => absurd (show b ∈ ([] : List Addr) from z) (by simp)) (by simp)
        | some u =>
          rcases only b with z | ⟨ob, ys, z⟩
          · rw [q] at z
            cases z
          · obtain ⟨e1, _⟩ := hok b _ z
            obtain ⟨e2, _⟩ := hok' b _ (un.frzs b ob _ z)
            rw [e] at e1
            cases e1
            exact e2
      | next => exact False.elim h
      | brk => exact False.elim h
      | cont => exact False.elim h
  cases hk : K.lookup a with
  | some o =>
    have e := KX a o hk
    rw [ha] at e
    cases e
    refine main (fun _ => none) (fun _ => Or.inl rfl) (Or.inr ⟨_, vs.toArray, _, hk, rfl, rfl, rfl, ?_, ?_⟩) ?_ (fun b z => absurd rfl z) (fun z => absurd rfl z)
    · rw [List.size_toArray, hvl]
      exact hl
    · simpa using vi
    · intro b u z
      exact nomatch (show (none : Option HO) = some u from z)
  | none =>
    refine main (fun b => if b = a then some (.frz { cls := .type "list", data := .seq vs.toArray } (.lst (ns.map V.int))) else none) (fun b => ?_) (Or.inl (Or.inr ⟨_, if_pos rfl⟩)) (fun b u z => ?_) (fun b z => ?_) (fun _ => hk)
    · by_cases hba : b = a
      · exact Or.inr ⟨_, _, if_pos hba⟩
      · exact Or.inl (if_neg hba)
    · by_cases hba : b = a
      · have zz := (if_pos hba).symm.trans z
        cases zz
        subst hba
        exact ⟨ha, by rw [List.length_map]; exact hl, vs, _, vi, ha⟩
      · have zz := (if_neg hba).symm.trans z
        cases zz
    · by_cases hba : b = a
      · exact hba
      · exact absurd (if_neg hba) z
/-- the goal that the head leaves, from such a promise of the law's def -/
theorem walkG {l : PySem.W.OpenLaw} {n k : Nat} {q : Program} {loose : List Str} {XP : (Str → Option Value) → Heap → Prop} {YP : World → Heap → Prop} {d : DefRec} {K : Params → PySem.W.Frag} {sp : PySem.W.Frag → Sp} {x : Str}
    (hn : l.most = some n) (hn2 : n ≤ sizeLine) (hdf : d.params.defaults = []) (hr : Room k callerA) (hY : ∀ (w : World) (h : Heap), YP w h → (K w.params).In h)
    (F : ∀ (w : World) (mg : Str → Option Value) (fa : Addr) (h : Heap), (K w.params).In h → h.Ns mainGlobals mg → mg d.name = some (.ref fa) →
      ∃ fd : FuncData, (∀ (s : Shared) (u : Value), BindsTo s fd ⟨[u], []⟩ [(x, u)]) ∧ ∀ base : Heap, (K w.params).In base → base.Ns mainGlobals mg → FnG l.prog w (K w.params) mg base C8.CX0 k fa fd [x] (sp (K w.params)))
    (hsp : ∀ (K : PySem.W.Frag) (H : Hp) (a : Addr) (ns : List Int), ns.length ≤ n → Only H → SqL K H a (ns.map V.int) → sp K [.ref a] H (fun v _ => v = .bl true) fun _ _ _ => False) :
    PySem.W.WalkO q loose XP YP l.row.toRowW d [] (fun f vs => PySem.call f vs) := by
  refine Att.attach_call hn hdf ?_
  intro w s₀ s₁ mg mb fa o pm cd doc a vs ns G Y ho hd hcd hmg hobj hints hlen hg
  have inK := hY w _ Y
  obtain ⟨fd, hb, hF⟩ := F w mg fa _ inK G.T.g hmg
  exact lawG inK G.T.g G.T.b G.T.builtins G.T.nolimit hg hobj hints (Nat.le_trans hlen hn2) hr hF hb (fun H hO hS => hsp _ H a ns hlen hO hS) (fun H e s' z => z)
end L2
set_option Elab.async false
set_option linter.all false
set_option maxRecDepth 100000
set_option maxHeartbeats 4000000
namespace L2
open PySem PySem.Spec PyProof.Rows
/-- a def by its name, its promise asked only where no repr is under way -/
structure CalG (P : Program) (w : World) (K : PySem.W.Frag) (mg : Str → Option Value) (base : Heap) (k : Nat) (x : Str) (sp : Sp) : Prop where
  ex : ∃ (f : Addr) (fd : FuncData) (ps : List Str), (∀ vs H Q E, sp vs H Q E → vs.length = ps.length) ∧ FnG P w K mg base C8.CX0 k f fd ps sp ∧ mg x = some (.ref f) ∧ PySem.W.keepIn K (.ref f) = true ∧ Binds K fd ps []
section
variable {X : Cx} {k j : Nat} {x : Str} {sp : Sp} {p pos : Pos} {e : Expr} {es : List Expr} {t : TA}
theorem pe_cg (c : CalG X.prog X.w X.K X.mg X.base k x sp) (hgd : X.A.guards = some []) (hr : Room j X.A) (hk : k ≤ j) (hg : Gl X x) (ha : PA X (e :: es) t)
    (hdb : (x == ("__debug__" : Str)) = false := by decide) (he : starEach (e :: es) X.env = (false, eval e X.env) :: starEach es X.env := by rfl) (hpl : (backTo pos (starEach es X.env)).any (·.1) = false := by rfl) :
    PE X (.Call (.Name x p) (e :: es) [] pos) (tCall sp [] C8.E0 t) := by
  obtain ⟨f, fd, ps, ln, F, hm, kp, hb⟩ := c.ex
  refine ⟨fun pins s σ H Q I h => ?_⟩
  refine wpAny_Call_Name_kw (ld_glob I hg hm ?_ hdb)
  refine PySem.W.callWith_K (h₀ := X.base) I.ok.mod.kin kp (thn (ha.run pos pins s σ H _ I h) fun us s1 ⟨vs, H1, I1, r, q⟩ => ⟨I1.kIn, ?_⟩) he hpl
  have r2 : Vals (vs ++ []) (us ++ []) := r.append .nil
  have hl : (us ++ []).length = ps.length := by rw [← r2.length]; exact ln _ _ _ _ q
  refine wpAny_call (codeAny_mono (F.run X.A X.stack s1 H1 ⟨us, []⟩ (us ++ []) (vs ++ []) Q C8.E0 hgd (hr.mono hk) I1.env0 (hb s1 us I1.kIn hl) r2 q) fun r s' hq => ?_)
  cases r with
  | error e => exact (C8.pass0 (X := X) (E := C8.E0)) pins σ H1 s1 e s' I1 hq
  | ok fl =>
    cases fl with
    | ret u => exact I1.after hq
    | next => exact False.elim hq
    | brk => exact False.elim hq
    | cont => exact False.elim hq
end
end L2
set_option Elab.async false
set_option linter.all false
set_option maxRecDepth 100000
set_option maxHeartbeats 4000000
namespace K14
open PySem PySem.Spec PyProof.Rows
/-! ### what a value's repr tells of it -/
/-- a letter of a ref: r, or a figure -/
def refc (c : Nat) : Bool := c == 114 || (decide (48 ≤ c) && decide (c ≤ 57))
def dgc (c : Nat) : Bool := decide (48 ≤ c) && decide (c ≤ 57)
def rfS (z : Str) : Bool := z.cps.toList.all refc
mutual
def vv : PyData → Bool
  | .int i => decide (0 ≤ i) && decide (i < 1000000000000)
  | .bool _ => true
  | .str z => rfS z
  | .tuple ds => vvs ds
  | _ => false
def vvs : List PyData → Bool
  | [] => true
  | x :: xs => vv x && vvs xs
end
def sh (d : PyData) : List Nat := d.shown.cps.toList
def rest : List PyData → List Nat
  | [] => [41]
  | x :: xs => 44 :: 32 :: (sh x ++ rest xs)
theorem tlA (x y : Str) : (x ++ y).cps.toList = x.cps.toList ++ y.cps.toList := TL.tl_append x y
theorem sh_int {i : Int} (h : 0 ≤ i) : sh (.int i) = TL.numL i.toNat := by
  unfold sh
  rw [PyData.shown_int]
  have e : ((i.toNat : Nat) : Int) = i := Int.toNat_of_nonneg h
  have := TL.tl_num i.toNat
  rw [e] at this
  exact this
theorem sh_bool (b : Bool) : sh (.bool b) = if b then [84, 114, 117, 101] else [70, 97, 108, 115, 101] := by
  unfold sh
  rw [PyData.shown_bool]
  cases b <;> decide
theorem refc_lt {c : Nat} (h : refc c = true) : c < 128 := by
  unfold refc at h
  simp only [Bool.or_eq_true, Bool.and_eq_true, beq_iff_eq, decide_eq_true_eq] at h
  omega
theorem refc_tab : (List.range 128).all (fun c => !refc c || Builtin.Str.reprChar 39 c == [c]) = true := by decide +kernel
theorem refc_repr {c : Nat} (h : refc c = true) : Builtin.Str.reprChar 39 c = [c] := by
  have := List.all_eq_true.mp refc_tab c (List.mem_range.mpr (refc_lt h))
  rw [h] at this
  exact eq_of_beq (by simpa using this)
theorem foldl_repr : ∀ (l : List Nat) (acc : Array Nat), l.all refc = true → l.foldl (fun out c => out ++ (Builtin.Str.reprChar 39 c).toArray) acc = acc ++ l.toArray
  | [], acc, _ => by simp
  | c :: r, acc, h => by
    have h' : refc c = true ∧ r.all refc = true := by simpa using h
    rw [List.foldl_cons, refc_repr h'.1, foldl_repr r _ h'.2]
    apply Array.toList_inj.mp
    simp
theorem sh_str {z : Str} (h : rfS z = true) : sh (.str z) = 39 :: (z.cps.toList ++ [39]) := by
  unfold sh
  rw [PyData.shown_str]
  have hq : reprQuote z = 39 := by
    unfold reprQuote
    have : z.cps.contains 39 = false := by
      rw [Bool.eq_false_iff]
      intro hc
      rw [Array.contains_iff_mem] at hc
      have := List.all_eq_true.mp h 39 (Array.mem_toList_iff.mpr hc)
      exact absurd this (by decide)
    rw [this]
    rfl
  unfold reprText
  rw [hq, ← Array.foldl_toList, foldl_repr _ _ h]
  simp
theorem sh_tup0 : sh (.tuple []) = [40, 41] := by decide
theorem sh_tup1 (x : PyData) : sh (.tuple [x]) = 40 :: (sh x ++ [44, 41]) := by
  unfold sh
  simp only [PyData.shown, PyData.shownAll, tupleText]
  rw [tlA, tlA]
  simp only [List.length_singleton, beq_self_eq_true, if_true, join_one]
  have e1 : (("(" : String) : Str).cps.toList = [40] := by decide
  have e2 : ((",)" : String) : Str).cps.toList = [44, 41] := by decide
  rw [e1, e2]
  simp
theorem join_rest : ∀ (x : PyData) (r : List PyData), (Str.join ", " (PyData.shownAll (x :: r))).cps.toList ++ [41] = sh x ++ rest r
  | x, [] => by
    simp only [PyData.shownAll, join_one, rest]
    rfl
  | x, y :: r => by
    have ih := join_rest y r
    simp only [PyData.shownAll] at ih ⊢
    rw [join_cons_cons, tlA, tlA, List.append_assoc, ih]
    have e1 : ((", " : String) : Str).cps.toList = [44, 32] := by decide
    rw [e1]
    simp [rest, sh]
theorem sh_tup2 (x y : PyData) (r : List PyData) : sh (.tuple (x :: y :: r)) = 40 :: (sh x ++ rest (y :: r)) := by
  rw [← join_rest x (y :: r)]
  unfold sh
  simp only [PyData.shown, tupleText]
  rw [tlA, tlA]
  have hl : ((PyData.shownAll (x :: y :: r)).length == 1) = false := by simp [PyData.shownAll]
  rw [hl]
  have e1 : (("(" : String) : Str).cps.toList = [40] := by decide
  have e2 : ((")" : String) : Str).cps.toList = [41] := by decide
  simp only [Bool.false_eq_true, if_false]
  rw [e1, e2]
  simp
/-- what stands behind a value in a text -/
def stop : List Nat → Bool
  | [] => true
  | c :: _ => c == 41 || c == 44
theorem split_all {p : Nat → Bool} : ∀ {xs ys u v : List Nat}, xs.all p = true → ys.all p = true → (∀ c t, u = c :: t → p c = false) → (∀ c t, v = c :: t → p c = false) → xs ++ u = ys ++ v → xs = ys ∧ u = v
  | [], [], u, v, _, _, _, _, h => ⟨rfl, h⟩
  | [], y :: ys, u, v, _, hy, hu, _, h => by
    have := hu y (ys ++ v) h
    simp only [List.all_cons, Bool.and_eq_true] at hy
    rw [hy.1] at this
    cases this
  | x :: xs, [], u, v, hx, _, _, hv, h => by
    have := hv x (xs ++ u) h.symm
    simp only [List.all_cons, Bool.and_eq_true] at hx
    rw [hx.1] at this
    cases this
  | x :: xs, y :: ys, u, v, hx, hy, hu, hv, h => by
    simp only [List.all_cons, Bool.and_eq_true] at hx hy
    simp only [List.cons_append, List.cons.injEq] at h
    obtain ⟨e1, e2⟩ := split_all hx.2 hy.2 hu hv h.2
    exact ⟨by rw [h.1, e1], e2⟩
theorem numL_dg (n : Nat) : (TL.numL n).all dgc = true := by
  rw [List.all_eq_true]
  intro c hc
  by_cases h : c < 48 ∨ 57 < c
  · exact absurd hc (TL.numL_free h)
  · unfold dgc
    simp only [Bool.and_eq_true, decide_eq_true_eq]
    omega
theorem stop_dg {u : List Nat} (h : stop u = true) : ∀ c t, u = c :: t → dgc c = false := fun c t e => by
  subst e
  simp only [stop, Bool.or_eq_true, beq_iff_eq] at h
  rcases h with rfl | rfl <;> decide
/-- the first sign of a value's text -/
def hd : PyData → Nat
  | .int _ => 0
  | .bool b => if b then 84 else 70
  | .str _ => 39
  | .tuple _ => 40
  | _ => 1
theorem sh_head : ∀ {d : PyData}, vv d = true → ∃ c t, sh d = c :: t ∧ (if hd d = 0 then dgc c = true else c = hd d)
  | .int i, h => by
    have h' : 0 ≤ i ∧ i < 1000000000000 := by simpa [vv] using h
    rw [sh_int h'.1]
    cases e : TL.numL i.toNat with
    | nil => exact absurd e (TL.numL_ne _)
    | cons c t =>
      have := numL_dg i.toNat
      rw [e] at this
      simp only [List.all_cons, Bool.and_eq_true] at this
      exact ⟨c, t, rfl, by simp [hd, this.1]⟩
  | .bool b, _ => by
    rw [sh_bool]
    cases b
    · exact ⟨_, _, rfl, rfl⟩
    · exact ⟨_, _, rfl, rfl⟩
  | .str z, h => ⟨_, _, sh_str (by simpa [vv] using h), rfl⟩
  | .tuple [], _ => ⟨_, _, sh_tup0, rfl⟩
  | .tuple [x], _ => ⟨_, _, sh_tup1 x, rfl⟩
  | .tuple (x :: y :: r), _ => ⟨_, _, sh_tup2 x y r, rfl⟩
  | .none, h => by simp [vv] at h
  | .list _, h => by simp [vv] at h
  | .dict _, h => by simp [vv] at h
theorem heads {a b : PyData} {u v : List Nat} (ha : vv a = true) (hb : vv b = true) (h : sh a ++ u = sh b ++ v) : hd a = hd b := by
  obtain ⟨c, t, e1, f1⟩ := sh_head ha
  obtain ⟨c', t', e2, f2⟩ := sh_head hb
  rw [e1, e2] at h
  simp only [List.cons_append, List.cons.injEq] at h
  have hc := h.1
  subst hc
  have nz : ∀ {d : PyData} {c : Nat}, hd d ≠ 0 → dgc c = true → c ≠ hd d := fun {d c} hz hg e => by
    subst e
    cases d <;> simp [hd] at hz hg <;> first | contradiction | (revert hg; decide) | (split at hg <;> revert hg <;> decide)
  by_cases h1 : hd a = 0
  · by_cases h2 : hd b = 0
    · rw [h1, h2]
    · rw [if_pos h1] at f1
      rw [if_neg h2] at f2
      exact absurd f2 (nz h2 f1)
  · rw [if_neg h1] at f1
    by_cases h2 : hd b = 0
    · rw [if_pos h2] at f2
      exact absurd f1 (nz h1 f2)
    · rw [if_neg h2] at f2
      rw [← f1, ← f2]
theorem head_close {d : PyData} {u v : List Nat} (h : vv d = true) (e : 41 :: u = sh d ++ v) : False := by
  obtain ⟨c, t, e1, f1⟩ := sh_head h
  rw [e1] at e
  simp only [List.cons_append, List.cons.injEq] at e
  have hc := e.1
  subst hc
  cases d <;> simp [hd, dgc] at f1
  rename_i b
  cases b <;> simp at f1
mutual
theorem sh_inj : ∀ (a b : PyData) (u v : List Nat), vv a = true → vv b = true → stop u = true → stop v = true → sh a ++ u = sh b ++ v → a = b ∧ u = v
  | .int i, b, u, v, ha, hb, hu, hv, h => by
    have e := heads ha hb h
    cases b with
    | int j =>
      have ha' : 0 ≤ i ∧ i < 1000000000000 := by simpa [vv] using ha
      have hb' : 0 ≤ j ∧ j < 1000000000000 := by simpa [vv] using hb
      rw [sh_int ha'.1, sh_int hb'.1] at h
      obtain ⟨e1, e2⟩ := split_all (numL_dg _) (numL_dg _) (stop_dg hu) (stop_dg hv) h
      have := TL.numL_inj e1
      exact ⟨by rw [show i = j by omega], e2⟩
    | bool b => cases b <;> simp [hd] at e
    | str _ => simp [hd] at e
    | tuple _ => simp [hd] at e
    | _ => simp [vv] at hb
  | .bool x, b, u, v, ha, hb, hu, hv, h => by
    have e := heads ha hb h
    cases b with
    | bool y =>
      rw [sh_bool, sh_bool] at h
      cases x <;> cases y <;> simp [hd] at e <;> simp at h <;> exact ⟨rfl, h⟩
    | int _ => cases x <;> simp [hd] at e
    | str _ => cases x <;> simp [hd] at e
    | tuple _ => cases x <;> simp [hd] at e
    | _ => simp [vv] at hb
  | .str x, b, u, v, ha, hb, hu, hv, h => by
    have e := heads ha hb h
    cases b with
    | str y =>
      have ha' : rfS x = true := by simpa [vv] using ha
      have hb' : rfS y = true := by simpa [vv] using hb
      rw [sh_str ha', sh_str hb'] at h
      simp only [List.cons_append, List.append_assoc, List.cons.injEq, true_and] at h
      have k : ∀ (w : List Nat), ∀ c t, [39] ++ w = c :: t → refc c = false := fun w c t e => by
        simp only [List.cons_append, List.cons.injEq] at e
        rw [← e.1]
        decide
      obtain ⟨e1, e2⟩ := split_all (p := refc) ha' hb' (k u) (k v) h
      simp only [List.cons_append, List.nil_append, List.cons.injEq, true_and] at e2
      exact ⟨by rw [TL.ext_tl e1], e2⟩
    | bool b => cases b <;> simp [hd] at e
    | int _ => simp [hd] at e
    | tuple _ => simp [hd] at e
    | _ => simp [vv] at hb
  | .tuple xs, b, u, v, ha, hb, hu, hv, h => by
    have e := heads ha hb h
    cases b with
    | tuple ys =>
      have ha' : vvs xs = true := by simpa [vv] using ha
      have hb' : vvs ys = true := by simpa [vv] using hb
      cases xs with
      | nil =>
        cases ys with
        | nil => rw [sh_tup0] at h; simp at h; exact ⟨rfl, h⟩
        | cons y r =>
          exfalso
          have hy : vv y = true := by simp only [vvs, Bool.and_eq_true] at hb'; exact hb'.1
          rw [sh_tup0] at h
          cases r with
          | nil => rw [sh_tup1] at h; simp only [List.cons_append, List.append_assoc, List.nil_append, List.cons.injEq, true_and] at h; exact head_close hy h
          | cons z r => rw [sh_tup2] at h; simp only [List.cons_append, List.append_assoc, List.nil_append, List.cons.injEq, true_and] at h; exact head_close hy h
      | cons x r =>
        have hx : vv x = true ∧ vvs r = true := by simpa [vvs] using ha'
        cases ys with
        | nil =>
          exfalso
          rw [sh_tup0] at h
          cases r with
          | nil => rw [sh_tup1] at h; simp only [List.cons_append, List.append_assoc, List.nil_append, List.cons.injEq, true_and] at h; exact head_close hx.1 h.symm
          | cons z r => rw [sh_tup2] at h; simp only [List.cons_append, List.append_assoc, List.nil_append, List.cons.injEq, true_and] at h; exact head_close hx.1 h.symm
        | cons y s =>
          have hy : vv y = true ∧ vvs s = true := by simpa [vvs] using hb'
          cases r with
          | nil =>
            cases s with
            | nil =>
              rw [sh_tup1, sh_tup1] at h
              simp only [List.cons_append, List.append_assoc, List.cons.injEq, true_and] at h
              obtain ⟨e1, e2⟩ := sh_inj x y _ _ hx.1 hy.1 rfl rfl h
              simp at e2
              exact ⟨by rw [e1], e2⟩
            | cons z s =>
              rw [sh_tup1, sh_tup2] at h
              simp only [List.cons_append, List.append_assoc, List.cons.injEq, true_and] at h
              obtain ⟨e1, e2⟩ := sh_inj x y _ _ hx.1 hy.1 rfl rfl h
              simp [rest] at e2
          | cons x2 r =>
            cases s with
            | nil =>
              rw [sh_tup1, sh_tup2] at h
              simp only [List.cons_append, List.append_assoc, List.cons.injEq, true_and] at h
              obtain ⟨e1, e2⟩ := sh_inj x y _ _ hx.1 hy.1 rfl rfl h
              simp [rest] at e2
            | cons z s =>
              rw [sh_tup2, sh_tup2] at h
              simp only [List.cons_append, List.append_assoc, List.cons.injEq, true_and] at h
              obtain ⟨e1, e2⟩ := sh_inj x y _ _ hx.1 hy.1 rfl rfl h
              obtain ⟨e3, e4⟩ := rest_inj (x2 :: r) (z :: s) _ _ hx.2 hy.2 e2
              exact ⟨by rw [e1, e3], e4⟩
    | bool b => cases b <;> simp [hd] at e
    | int _ => simp [hd] at e
    | str _ => simp [hd] at e
    | _ => simp [vv] at hb
  | .none, _, _, _, h, _, _, _, _ => by simp [vv] at h
  | .list _, _, _, _, h, _, _, _, _ => by simp [vv] at h
  | .dict _, _, _, _, h, _, _, _, _ => by simp [vv] at h
theorem rest_inj : ∀ (xs ys : List PyData) (u v : List Nat), vvs xs = true → vvs ys = true → rest xs ++ u = rest ys ++ v → xs = ys ∧ u = v
  | [], [], u, v, _, _, h => by simp [rest] at h; exact ⟨rfl, h⟩
  | [], y :: s, u, v, _, _, h => by simp [rest] at h
  | x :: r, [], u, v, _, _, h => by simp [rest] at h
  | x :: r, y :: s, u, v, ha, hb, h => by
    have hx : vv x = true ∧ vvs r = true := by simpa [vvs] using ha
    have hy : vv y = true ∧ vvs s = true := by simpa [vvs] using hb
    simp only [rest, List.cons_append, List.append_assoc, List.cons.injEq, true_and] at h
    have st : ∀ (l : List PyData) (w : List Nat), stop (rest l ++ w) = true := fun l w => by cases l <;> rfl
    obtain ⟨e1, e2⟩ := sh_inj x y _ _ hx.1 hy.1 (st r u) (st s v) h
    obtain ⟨e3, e4⟩ := rest_inj r s _ _ hx.2 hy.2 e2
    exact ⟨by rw [e1, e3], e4⟩
end
theorem shown_eq {a b : PyData} (ha : vv a = true) (hb : vv b = true) : a.shown = b.shown ↔ a = b := by
  constructor
  · intro h
    refine (sh_inj a b [] [] ha hb rfl rfl ?_).1
    unfold sh
    rw [h]
  · intro h
    rw [h]
end K14
set_option Elab.async false
set_option linter.all false
set_option maxRecDepth 100000
set_option maxHeartbeats 4000000
namespace K14
open PySem PySem.Spec PyProof.Rows L2
open C8 (Cal Def cal0 pe_c fnBody fnScope fnArgs)

def topS (i : Nat) : Stmt := PySem.Challenge.pw_changewhile_k14_kinds_of_values.main.body.getD i (.Pass ⟨0, 0, 0, 0⟩)
/-- what the module's names hold that are no defs -/
structure Tp (mg : Str → Option Value) : Prop where
  n_isinstance : mg "isinstance" = none
  n_str : mg "str" = none
  n_tuple : mg "tuple" = none
  n_list : mg "list" = none
  n_bool : mg "bool" = none
  n_len : mg "len" = none
  n_range : mg "range" = none
  n_max : mg "max" = none
  n_min : mg "min" = none
  n_repr : mg "repr" = none
  n_int : mg "int" = none
  g_NUMBERS : ∃ u, mg "NUMBERS" = some u ∧ RelV (.int 1000000000000) u

/-! ### arithmetic -/
theorem fmod_lo {a n : Int} (h : 0 < n) : 0 ≤ a.fmod n := by
  rw [Int.fmod_eq_emod_of_nonneg a (by omega)]
  exact Int.emod_nonneg a (by omega)
theorem fmod_hi {a n : Int} (h : 0 < n) : a.fmod n < n := by
  rw [Int.fmod_eq_emod_of_nonneg a (by omega)]
  exact Int.emod_lt_of_pos a h
theorem div_lo {a n : Int} (h : 0 < n) (ha : 0 ≤ a) : 0 ≤ a / n := Int.ediv_nonneg ha (by omega)
theorem pot_of {H : Hp} {p : Addr} {x y : Int} (hx : 0 ≤ x) (hy : 0 ≤ y) (h : y < 1099511627776) : Pot (upd H p (.lst [.int x, .int y])) p x y := ⟨upd_same, hx, hy, h⟩

section
variable {P : Program} {w : World} {K : PySem.W.Frag} {mg : Str → Option Value} {base : Heap}
/-! ### the drawing -/
abbrev sLTake : Stmt := topS 9
abbrev NLTake : List Str := ["_law_pot_here", "_law_many", "_law_digit"]
theorem scLTake : FnScope NLTake ["_law_pot_here", "_law_many"] (fnScope sLTake) := ⟨rfl, rfl, rfl, by decide +kernel, rfl, by decide +kernel, by decide +kernel⟩
def spTake : Sp := fun vs H Q _ => ∃ (p : Addr) (x y n : Int), vs = [.ref p, .int n] ∧ Pot H p x y ∧ 0 < n ∧ n.natAbs < 2 ^ 300 ∧
  ∀ r x' y', 0 ≤ r → r < n → Pot (upd H p (.lst [.int x', .int y'])) p x' y' → Q (.int r) (upd H p (.lst [.int x', .int y']))
theorem c_take {f : Addr} {fd : FuncData} (D : Def K mg "_law_take" sLTake f fd) (b : Binds K fd ["_law_pot_here", "_law_many"] []) : Cal P w K mg base 1 "_law_take" spTake [] := by
  refine cal0 D b .nil scLTake (fun vs H Q E h => ?_) (fun cdv A outer s H vs Q E hr h => ?_)
  · obtain ⟨p, x, y, n, rfl, _⟩ := h
    rfl
  · obtain ⟨p, x, y, n, rfl, hp, n0, n1, q⟩ := h
    have nd := scLTake.nd
    refine ⟨_, (pss_cons (ps_if (pt_cmpR op_gt (pe_ix ix_list (pv 0) pe_int (fun _ _ => rfl)) pe_int (nomark _))
      (pss_cons (ps_set (i := 2) nd rfl (.inl rfl) (pe_op op_modN (pe_ix ix_list (pv 0) pe_int (fun _ _ => rfl)) (pv 1)))
      (pss_cons (ps_asg (pe_op op_fdivW (pe_ix ix_list (pv 0) pe_int (fun _ _ => rfl)) (pv 1)) (pg_sub (pv 0) pe_int set_list))
      (pss_one (ps_ret (pv 2)))))
      pss_nil)
    (pss_cons (ps_asg (pe_op op_modN (pe_op op_add (pe_op op_mul (pe_ix ix_list (pv 0) pe_int (fun _ _ => rfl)) pe_int) pe_int) pe_int) (pg_sub (pv 0) pe_int set_list))
    (pss_one (ps_ret (pe_op op_modN (pe_op op_fdivW (pe_op op_modN (pe_op op_mul (pe_ix ix_list (pv 0) pe_int (fun _ _ => rfl)) (pe_ix ix_list (pv 0) pe_int (fun _ _ => rfl))) pe_int) pe_int) (pv 1)))))), ?_⟩
    have h0 := hp.x0
    have h1 := hp.y0
    have h2 := hp.y1
    have hl := hp.at_
    refine ⟨_, rfl, _, _, _, _, rfl, rfl, SqL.of hl, atI_nat (j := 0) rfl, _, _, rfl, rfl, _, rfl, ite2 (fun e => ?_) (fun e => ?_)⟩
    · refine ⟨_, rfl, _, _, _, _, rfl, rfl, SqL.of hl, atI_nat (j := 0) rfl, _, rfl, _, _, rfl, rfl, (show n ≠ 0 by omega), ?_⟩
      refine ⟨_, rfl, _, _, _, _, rfl, rfl, SqL.of hl, atI_nat (j := 0) rfl, _, rfl, _, _, rfl, rfl, wide_div n0 n1 (by decide) (by decide), ?_⟩
      refine ⟨_, rfl, _, _, _, _, rfl, rfl, hl, rfl, ?_⟩
      refine ⟨_, rfl, ?_⟩
      exact q _ _ _ (fmod_lo n0) (fmod_hi n0) (pot_of (div_lo n0 h0) h1 h2)
    · refine ⟨_, rfl, _, _, _, _, rfl, rfl, SqL.of hl, atI_nat (j := 1) rfl, _, _, rfl, rfl, .inl ⟨by omega, by omega⟩, _, _, rfl, rfl, _, _, rfl, rfl, (by show (2147483629 : Int) ≠ 0; decide), ?_⟩
      refine ⟨_, rfl, _, _, _, _, rfl, rfl, hl, rfl, ?_⟩
      have b0 : 0 ≤ (y * 39373 + 7919).fmod 2147483629 := fmod_lo (by decide)
      have b1 : (y * 39373 + 7919).fmod 2147483629 < 2147483629 := fmod_hi (by decide)
      refine ⟨_, rfl, _, _, _, _, rfl, rfl, SqL.of upd_same, atI_nat (j := 1) rfl, _, rfl, _, _, _, _, rfl, rfl, SqL.of upd_same, atI_nat (j := 1) rfl, _, _, rfl, rfl, .inl ⟨by omega, by omega⟩, _, _, rfl, rfl, (by show (2147483563 : Int) ≠ 0; decide), _, _, rfl, rfl, wide_div (b := 64) (by decide) (by decide) (by decide) (by decide), _, rfl, _, _, rfl, rfl, (show n ≠ 0 by omega), ?_⟩
      exact q _ _ _ (fmod_lo n0) (fmod_hi n0) (pot_of h0 b0 (by omega))

/-! ### a cell, the pot -/
abbrev sLCellAt : Stmt := topS 7
abbrev NLCellAt : List Str := ["_law_script", "_law_k"]
theorem scLCellAt : FnScope NLCellAt ["_law_script", "_law_k"] (fnScope sLCellAt) := ⟨rfl, rfl, rfl, by decide +kernel, rfl, by decide +kernel, by decide +kernel⟩
def spCellAt (K : PySem.W.Frag) : Sp := fun vs H Q _ => ∃ (a : Addr) (ns : List Int) (k : Nat), vs = [.ref a, .int k] ∧ SqL K H a (ns.map V.int) ∧ ∀ n, Q (.int n) H
theorem c_cellAt (T : Tp mg) {f : Addr} {fd : FuncData} (D : Def K mg "_law_cell_at" sLCellAt f fd) (b : Binds K fd ["_law_script", "_law_k"] []) : Cal P w K mg base 1 "_law_cell_at" (spCellAt K) [] := by
  refine cal0 D b .nil scLCellAt (fun vs H Q E h => ?_) (fun cdv A outer s H vs Q E hr h => ?_)
  · obtain ⟨a, ns, k, rfl, _⟩ := h
    rfl
  · obtain ⟨a, ns, k, rfl, hs, q⟩ := h
    refine ⟨_, (pss_one (ps_ret (pe_ifExp (pt_cmpR op_lt (pv 1) (pe_callB call_len_seq (by rfl) T.n_len (by decide +kernel) (pa_cons (pv 0) pa_nil)) (nomark _)) (pe_ix ix_list (pv 0) (pv 1) (fun _ _ => rfl)) pe_int))), ?_⟩
    refine ⟨_, rfl, _, rfl, _, _, rfl, .inl hs, _, _, rfl, rfl, _, rfl, ite2 (fun e => ?_) (fun e => ?_)⟩
    · have e1 : (k : Int) < ((ns.map V.int).length : Int) := of_decide_eq_true e
      have e2 : k < ns.length := by
        rw [List.length_map] at e1
        omega
      refine ⟨_, rfl, _, rfl, _, _, _, .int ns[k], rfl, rfl, hs, atI_nat (j := k) ?_, q _⟩
      rw [List.getElem?_map, List.getElem?_eq_getElem e2]
      rfl
    · exact q _
abbrev sLPot : Stmt := topS 8
abbrev NLPot : List Str := ["_law_cell", "_law_k"]
theorem scLPot : FnScope NLPot ["_law_cell", "_law_k"] (fnScope sLPot) := ⟨rfl, rfl, rfl, by decide +kernel, rfl, by decide +kernel, by decide +kernel⟩
def spPot : Sp := fun vs H Q _ => ∃ (c : Int) (k : Nat), vs = [.int c, .int k] ∧ k ≤ 100 ∧ ∀ p x y, H p = none → Pot (upd H p (.lst [.int x, .int y])) p x y → Q (.ref p) (upd H p (.lst [.int x, .int y]))
theorem c_pot {f : Addr} {fd : FuncData} (D : Def K mg "_law_pot" sLPot f fd) (b : Binds K fd ["_law_cell", "_law_k"] []) : Cal P w K mg base 1 "_law_pot" spPot [] := by
  refine cal0 D b .nil scLPot (fun vs H Q E h => ?_) (fun cdv A outer s H vs Q E hr h => ?_)
  · obtain ⟨c, k, rfl, _⟩ := h
    rfl
  · obtain ⟨c, k, rfl, hk, q⟩ := h
    refine ⟨_, (pss_cons (ps_if (pt_cmpR op_ge (pv 0) (pe_op op_pow pe_int pe_int) (nomark _))
      (pss_one (ps_ret (pe_lst (pa_cons (pv 0) (pa_cons (pe_op op_add pe_int (pv 1)) pa_nil)))))
      pss_nil)
    (pss_one (ps_ret (pe_lst (pa_cons pe_int (pa_cons (pe_op op_modN (pe_op op_add (pe_op op_add (pe_op op_add (pe_op op_mul (pv 0) pe_int) (pe_op op_mul (pe_op op_mul pe_int (pv 1)) (pv 1))) (pe_op op_mul pe_int (pv 1))) pe_int) pe_int) pa_nil)))))), ?_⟩
    refine ⟨_, rfl, _, _, rfl, rfl, (by show (0 : Int) ≤ 18 ∧ _; decide), _, _, rfl, rfl, _, rfl, ite2 (fun e => ?_) (fun e => ?_)⟩
    · have e1 : ((10 : Int) ^ (18 : Int).toNat) ≤ c := of_decide_eq_true e
      have e2 : (10 : Int) ^ (18 : Int).toNat = 1000000000000000000 := by decide
      refine ⟨_, rfl, _, rfl, _, _, rfl, rfl, (by show 2 ≤ sizeLine; decide), fun p hp => ?_⟩
      exact q p _ _ hp (pot_of (by omega) (by omega) (by omega))
    · refine ⟨_, rfl, _, _, rfl, rfl, .inr ⟨by decide, by decide⟩, _, rfl, _, _, rfl, rfl, .inl ⟨by decide, by decide⟩, _, rfl, _, _, rfl, rfl, .inr ⟨by omega, by omega⟩, _, _, rfl, rfl, _, rfl, _, _, rfl, rfl, .inl ⟨by decide, by decide⟩, _, _, rfl, rfl, _, _, rfl, rfl, _, _, rfl, rfl, (by show (2147483647 : Int) ≠ 0; decide), (by show 2 ≤ sizeLine; decide), fun p hp => ?_⟩
      exact q p _ _ hp (pot_of (by omega) (fmod_lo (by decide)) (Int.lt_trans (fmod_hi (by decide)) (by decide)))

/-! ### names -/
theorem atI_m1 {x y z : V} : atI [x, y, z] (-1) = some z := atI_last [x, y] z
theorem two_of {α : Type} {l : List α} (h : l.length = 2) : ∃ x y, l = [x, y] := by
  match l, h with
  | [x, y], _ => exact ⟨x, y, rfl⟩
theorem one_of {α : Type} {l : List α} (h : l.length = 1) : ∃ x, l = [x] := by
  match l, h with
  | [x], _ => exact ⟨x, rfl⟩
theorem ne_int {m : Nat} {n : Nat} (h : m ≠ n) : (!decide (V.int (m : Int) = V.int (n : Int))) = true := by
  rw [decide_eq_false (fun e => h (by have := V.int.inj e; omega))]
  rfl
theorem eq_int {m : Nat} {n : Nat} (h : m = n) : (!decide (V.int (m : Int) = V.int (n : Int))) = false := by
  rw [decide_eq_true (by rw [h])]
  rfl
theorem iteT' {c : Bool} {A B : Prop} (e : c = true) (h : A) : if c = true then A else B := by
  subst e
  exact iteT h
theorem iteF' {c : Bool} {A B : Prop} (e : c = false) (h : B) : if c = true then A else B := by
  subst e
  exact iteF h
theorem pick_at {α : Type} {l : List α} {r : Int} (h0 : 0 ≤ r) (h1 : r < (l.length : Nat)) : ∃ x, l[r.toNat]? = some x ∧ r = (r.toNat : Int) := ⟨_, List.getElem?_eq_getElem (show r.toNat < l.length by omega), by omega⟩
theorem atI_pick {xs : List V} {v : V} {r : Int} (e : r = (r.toNat : Int)) (h : xs[r.toNat]? = some v) : atI xs r = some v := by
  rw [e]
  exact atI_nat h
theorem dec_vint {a b : Int} : decide (V.int a = V.int b) = decide (a = b) := by
  rw [Bool.eq_iff_iff, decide_eq_true_eq, decide_eq_true_eq]
  exact ⟨V.int.inj, congrArg _⟩
theorem len_tl (z : Str) : z.cps.toList.length = z.length := Array.length_toList
theorem tl_app (x y : Str) : (x ++ y).cps.toList = x.cps.toList ++ y.cps.toList := TL.tl_append x y
def Going (p : Addr) (H H' : Hp) : Prop := But p H H' ∧ ∃ x y, Pot H' p x y
theorem going_pot {p : Addr} {H H' : Hp} {x' y' : Int} (g : But p H H') (h : Pot (upd H' p (.lst [.int x', .int y'])) p x' y') : Going p H (upd H' p (.lst [.int x', .int y'])) := ⟨g.pot, _, _, h⟩
theorem Going.trans {p : Addr} {H H1 H2 : Hp} (a : Going p H H1) (b : Going p H1 H2) : Going p H H2 := ⟨a.1.trans b.1, b.2⟩
theorem Going.new {p q : Addr} {H H1 : Hp} {o : HO} (a : Going p H H1) (hq : H1 q = none) : Going p H (upd H1 q o) := ⟨a.1.trans (But.new hq), let ⟨x, y, h⟩ := a.2; ⟨x, y, h.new hq⟩⟩
theorem Going.same {p : Addr} {H H1 H2 : Hp} (a : Going p H H1) (e : Same H1 H2) : Going p H H2 := ⟨a.1.trans (But.same e), let ⟨x, y, h⟩ := a.2; ⟨x, y, h.same e⟩⟩
theorem Going.ne {p q : Addr} {H H1 : Hp} (a : Going p H H1) (hq : H1 q = none) : q ≠ p := let ⟨_, _, h⟩ := a.2; h.ne hq
end
end K14
set_option Elab.async false
set_option linter.all false
set_option maxRecDepth 100000
set_option maxHeartbeats 4000000
namespace K14
open PySem PySem.Spec PyProof.Rows L2
open C8 (Cal Def cal0 pe_c fnBody fnScope fnArgs)
def numB : PyData → Bool
  | .int i => decide (0 ≤ i) && decide (i < 1000000000000)
  | _ => false
theorem weightAll_app : ∀ (xs ys : List PyData), PyData.weightAll (xs ++ ys) = PyData.weightAll xs + PyData.weightAll ys
  | [], ys => by simp [PyData.weightAll]
  | x :: xs, ys => by
    rw [List.cons_append, PyData.weightAll, PyData.weightAll, weightAll_app xs ys]
    omega
theorem len_weightAll : ∀ xs : List PyData, xs.length ≤ PyData.weightAll xs
  | [] => Nat.zero_le _
  | x :: xs => by
    have := len_weightAll xs
    rw [PyData.weightAll, List.length_cons]
    omega
theorem split_last {α : Type} {l : List α} (h : l ≠ []) : ∃ i x, l = i ++ [x] := ⟨l.dropLast, l.getLast h, (List.dropLast_concat_getLast h).symm⟩
theorem weight_mem : ∀ {ds : List PyData} {d : PyData}, d ∈ ds → d.weight ≤ PyData.weightAll ds
  | x :: xs, d, h => by
    rw [PyData.weightAll]
    rcases List.mem_cons.mp h with rfl | h
    · omega
    · have := weight_mem h
      omega
theorem depth_mem : ∀ {ds : List PyData} {d : PyData}, d ∈ ds → d.depth ≤ PyData.depthAll ds
  | x :: xs, d, h => by
    rw [PyData.depthAll]
    rcases List.mem_cons.mp h with rfl | h
    · exact Nat.le_max_left _ _
    · exact Nat.le_trans (depth_mem h) (Nat.le_max_right _ _)
theorem take_succ {α : Type} {l : List α} {i : Nat} {x : α} (h : l[i]? = some x) : l.take (i + 1) = l.take i ++ [x] := by
  rw [List.take_add_one, h]
  rfl
theorem dpAll_split {K : PySem.W.Frag} {H : Hp} : ∀ {xs : List PyData} {vs : List V} {x : PyData}, DpAll K H vs (xs ++ [x]) → ∃ us v, vs = us ++ [v] ∧ DpAll K H us xs ∧ Dp K H v x
  | [], _, x, .cons h .nil => ⟨[], _, rfl, .nil, h⟩
  | y :: ys, _, x, .cons h t => by
    obtain ⟨us, v, rfl, g1, g2⟩ := dpAll_split t
    exact ⟨_ :: us, v, rfl, .cons h g1, g2⟩
theorem dp_at {K : PySem.W.Frag} {H : Hp} : ∀ {vs : List V} {ds : List PyData} {i : Nat} {v : V}, DpAll K H vs ds → vs[i]? = some v → ∃ d, ds[i]? = some d ∧ Dp K H v d
  | _, _, i, v, .nil, e => by simp at e
  | _, _, 0, v, .cons h t, e => by
    simp at e
    exact ⟨_, rfl, e ▸ h⟩
  | _, _, i + 1, v, .cons h t, e => by
    obtain ⟨d, h1, h2⟩ := dp_at (i := i) t (by simpa using e)
    exact ⟨d, by simpa using h1, h2⟩
section
variable {P : Program} {w : World} {K : PySem.W.Frag} {mg : Str → Option Value} {base : Heap}
/-- a look at data: a truth told, all stays -/
def spQ (K : PySem.W.Frag) (g : PyData → Bool) : Sp := fun vs H Q _ => ∃ v d, vs = [v] ∧ Dq K H v d ∧ d.weight ≤ 100000 ∧ ∀ H', Same H H' → Q (.bl (g d)) H'
abbrev sPIsNumber : Stmt := topS 2
abbrev NPIsNumber : List Str := ["thing"]
theorem scPIsNumber : FnScope NPIsNumber ["thing"] (fnScope sPIsNumber) := ⟨rfl, rfl, rfl, by decide +kernel, rfl, by decide +kernel, by decide +kernel⟩
theorem c_isNumber (T : Tp mg) {f : Addr} {fd : FuncData} (D : Def K mg "is_number" sPIsNumber f fd) (b : Binds K fd ["thing"] []) : Cal P w K mg base 1 "is_number" (spQ K numB) [] := by
  refine cal0 D b .nil scPIsNumber (fun vs H Q E h => ?_) (fun cdv A outer s H vs Q E hr h => ?_)
  · obtain ⟨v, d, rfl, _⟩ := h
    rfl
  · obtain ⟨v, d, rfl, hd, _, q⟩ := h
    refine ⟨_, (pss_one (ps_ret (pe_and (pe_callB call_isQ (by rfl) T.n_isinstance (by decide +kernel) (pa_cons (pv 0) (pa_cons (pe_bltn (v := .ty "int") (by rfl) T.n_int (by decide +kernel) rfl) pa_nil))) (pe_and (pe_not (pe_callB call_isQ (by rfl) T.n_isinstance (by decide +kernel) (pa_cons (pv 0) (pa_cons (pe_bltn (v := .ty "bool") (by rfl) T.n_bool (by decide +kernel) rfl) pa_nil)))) (pe_one (pe_chain op_le op_lt pe_int (pv 0) (C8.pe_gc (by rfl) T.g_NUMBERS))))))), ?_⟩
    have q0 := q H (Same.refl H)
    refine ⟨_, rfl, v, d, "int", rfl, hd, by decide, _, rfl, ?_⟩
    cases hd with
    | int i =>
      refine iteT ?_
      refine ⟨_, rfl, _, _, "bool", rfl, .int i, by decide, _, rfl, _, rfl, iteT ?_⟩
      refine ⟨_, rfl, _, _, rfl, rfl, _, rfl, ite2 (fun e => ?_) (fun e => ?_)⟩
      · refine ⟨_, _, rfl, rfl, ?_⟩
        have e1 : numB (.int i) = decide (i < 1000000000000) := by
          show (decide (0 ≤ i) && decide (i < 1000000000000)) = _
          rw [e, Bool.true_and]
        rw [e1] at q0
        exact q0
      · have e1 : numB (.int i) = false := by
          show (decide (0 ≤ i) && decide (i < 1000000000000)) = _
          rw [eq_false_of_ne_true e, Bool.false_and]
        rw [e1] at q0
        exact q0
    | bl bb =>
      refine iteT ?_
      exact ⟨_, rfl, _, _, "bool", rfl, .bl bb, by decide, _, rfl, _, rfl, iteF q0⟩
    | _ => exact iteF q0
theorem cal_no {k : Nat} {x : Str} {st : Stmt} {f : Addr} {fd : FuncData} {ps : List Str} (sp : Sp) (h : ∀ vs H Q E, sp vs H Q E → False) (D : Def K mg x st f fd) (b : Binds K fd ps []) : Cal P w K mg base k x sp [] :=
  ⟨f, fd, ps, [], ⟨fun _ _ _ _ z => (h _ _ _ _ z).elim, fun _ _ _ _ _ _ _ _ _ _ _ _ _ z => (h _ _ _ _ z).elim⟩, D.mgf, D.kp, b, .nil⟩
end
mutual
def noL : PyData → Bool
  | .list _ => false
  | .dict _ => false
  | .tuple xs => noLs xs
  | _ => true
def noLs : List PyData → Bool
  | [] => true
  | x :: xs => noL x && noLs xs
end
theorem rd_hid {D a : Addr} {H : Hp} {ys xs : List V} (hD : H D = some (.lst ys)) (h : Rd H a (.tup xs)) : Rd (hid D H) a (.tup xs) := by
  rcases h with h | ⟨o, h⟩
  · have n : a ≠ D := fun e => by
      rw [e, hD] at h
      cases h
    exact .inl (by rw [hid_ne n]; exact h)
  · have n : a ≠ D := fun e => by
      rw [e, hD] at h
      cases h
    exact .inr ⟨o, by rw [hid_ne n]; exact h⟩
mutual
theorem dp_hid {K : PySem.W.Frag} {D : Addr} {H : Hp} {ys : List V} (hD : H D = some (.lst ys)) : ∀ {d : PyData} {v : V}, noL d = true → Dp K H v d → Dp K (hid D H) v d
  | .none, _, _, h => by cases h; exact .non
  | .bool b, _, _, h => by cases h; exact .bl b
  | .int i, _, _, h => by cases h; exact .int i
  | .str x, _, _, h => by cases h; exact .str x
  | .list _, _, n, _ => by simp [noL] at n
  | .dict _, _, n, _ => by simp [noL] at n
  | .tuple ds, _, n, h => by
    have n' : noLs ds = true := by simpa [noL] using n
    cases h with
    | tup hq ha => exact .tup (hq.elim (fun h => .inl (rd_hid hD h)) .inr) (dpAll_hid hD n' ha)
theorem dpAll_hid {K : PySem.W.Frag} {D : Addr} {H : Hp} {ys : List V} (hD : H D = some (.lst ys)) : ∀ {ds : List PyData} {vs : List V}, noLs ds = true → DpAll K H vs ds → DpAll K (hid D H) vs ds
  | [], _, _, h => by cases h; exact .nil
  | d :: ds, _, n, h => by
    have n' : noL d = true ∧ noLs ds = true := by simpa [noLs] using n
    cases h with
    | cons a b => exact .cons (dp_hid hD n'.1 a) (dpAll_hid hD n'.2 b)
end
theorem hid_upd {D : Addr} {H : Hp} {o : HO} : hid D (upd H D o) = hid D H := by
  funext b
  unfold hid upd
  by_cases h : b = D
  · rw [if_pos h, if_pos h]
  · rw [if_neg h, if_neg h, if_neg h]
theorem hid_same {p : Addr} {H H' : Hp} (e : Same H H') : Same (hid p H) (hid p H') := fun b o h => by
  obtain ⟨n, h⟩ := hid_some h
  rw [hid_ne n]
  exact e b o h
theorem hid_hid {p D : Addr} {H : Hp} : hid D (hid p H) = hid p (hid D H) := by
  funext b
  unfold hid
  by_cases h : b = D <;> by_cases h2 : b = p <;> simp [h, h2]
theorem hid2_but {p D : Addr} {H H' : Hp} (e : But p H H') : Same (hid p (hid D H)) (hid p (hid D H')) := fun b o h => by
  obtain ⟨n, h⟩ := hid_some h
  obtain ⟨n2, h⟩ := hid_some h
  rw [hid_ne n, hid_ne n2]
  exact e b o n h
theorem noLs_app : ∀ {xs ys : List PyData}, noLs xs = true → noLs ys = true → noLs (xs ++ ys) = true
  | [], _, _, h => h
  | x :: xs, _, h, h2 => by
    have h' : noL x = true ∧ noLs xs = true := by simpa [noLs] using h
    simp only [List.cons_append, noLs, h'.1, noLs_app h'.2 h2, Bool.and_self]

mutual
theorem nl_noL : ∀ {d : PyData}, noL d = true → nl d = true ∧ d.hasDict = false
  | .none, _ => ⟨rfl, rfl⟩
  | .bool _, _ => ⟨rfl, rfl⟩
  | .int _, _ => ⟨rfl, rfl⟩
  | .str _, _ => ⟨rfl, rfl⟩
  | .list _, h => by simp [noL] at h
  | .dict _, h => by simp [noL] at h
  | .tuple xs, h => by
    have := nls_noLs (ds := xs) (by simpa [noL] using h)
    exact ⟨by simpa [nl] using this.1, by simpa [PyData.hasDict] using this.2⟩
theorem nls_noLs : ∀ {ds : List PyData}, noLs ds = true → nls ds = true ∧ PyData.hasDictAll ds = false
  | [], _ => ⟨rfl, by simp [PyData.hasDictAll]⟩
  | x :: xs, h => by
    have h' : noL x = true ∧ noLs xs = true := by simpa [noLs] using h
    have a := nl_noL h'.1
    have b := nls_noLs h'.2
    exact ⟨by simp [nls, a.1, b.1], by simp [PyData.hasDictAll, a.2, b.2]⟩
end
/-! ### small data -/
structure Ok (n m : Nat) (d : PyData) : Prop where
  dep : d.depth ≤ n
  wt : d.weight ≤ m
  ls : d.leavesShort 14 = true
  shw : d.showable = true
structure OkAll (n m : Nat) (ds : List PyData) : Prop where
  dep : PyData.depthAll ds ≤ n
  wt : PyData.weightAll ds ≤ m
  ls : PyData.leavesShortAll 14 ds = true
  shw : PyData.showableAll ds = true
theorem Ok.mono {n m n' m' : Nat} {d : PyData} (h : Ok n m d) (hn : n ≤ n') (hm : m ≤ m') : Ok n' m' d := ⟨Nat.le_trans h.dep hn, Nat.le_trans h.wt hm, h.ls, h.shw⟩
theorem OkAll.mono {n m n' m' : Nat} {ds : List PyData} (h : OkAll n m ds) (hn : n ≤ n') (hm : m ≤ m') : OkAll n' m' ds := ⟨Nat.le_trans h.dep hn, Nat.le_trans h.wt hm, h.ls, h.shw⟩
theorem OkAll.nil {n m : Nat} : OkAll n m [] := ⟨by simp [PyData.depthAll], by simp [PyData.weightAll], by simp [PyData.leavesShortAll], by simp [PyData.showableAll]⟩
theorem OkAll.cons {n a b : Nat} {d : PyData} {ds : List PyData} (h : Ok n a d) (t : OkAll n b ds) : OkAll n (a + 1 + b) (d :: ds) :=
  ⟨by simp only [PyData.depthAll]; exact Nat.max_le.mpr ⟨h.dep, t.dep⟩, by simp only [PyData.weightAll]; have := h.wt; have := t.wt; omega, by simp only [PyData.leavesShortAll, h.ls, t.ls, Bool.and_self], by simp only [PyData.showableAll, h.shw, t.shw, Bool.and_self]⟩
theorem OkAll.app {n : Nat} : ∀ {a b : Nat} {ds es : List PyData}, OkAll n a ds → OkAll n b es → OkAll n (a + b) (ds ++ es)
  | a, b, [], es, _, t => t.mono (Nat.le_refl _) (Nat.le_add_left _ _)
  | a, b, d :: ds, es, h, t => by
    have hd : max d.depth (PyData.depthAll ds) ≤ n := by simpa only [PyData.depthAll] using h.dep
    have hw : d.weight + 1 + PyData.weightAll ds ≤ a := by simpa only [PyData.weightAll] using h.wt
    have hl : d.leavesShort 14 = true ∧ PyData.leavesShortAll 14 ds = true := by simpa [PyData.leavesShortAll] using h.ls
    have hv : d.showable = true ∧ PyData.showableAll ds = true := by simpa [PyData.showableAll] using h.shw
    have h1 : Ok n d.weight d := ⟨Nat.le_trans (Nat.le_max_left _ _) hd, Nat.le_refl _, hl.1, hv.1⟩
    have h2 : OkAll n (a - d.weight - 1) ds := ⟨Nat.le_trans (Nat.le_max_right _ _) hd, by omega, hl.2, hv.2⟩
    exact (OkAll.cons h1 (OkAll.app h2 t)).mono (Nat.le_refl _) (by omega)
theorem Ok.tup {n m : Nat} {ds : List PyData} (h : OkAll n m ds) : Ok (n + 1) m (.tuple ds) :=
  ⟨by simp only [PyData.depth]; have := h.dep; omega, by simp only [PyData.weight]; exact h.wt, by simp only [PyData.leavesShort, h.ls], by simp only [PyData.showable, h.shw]⟩
theorem Ok.lst {n m : Nat} {ds : List PyData} (h : OkAll n m ds) : Ok (n + 1) m (.list ds) :=
  ⟨by simp only [PyData.depth]; have := h.dep; omega, by simp only [PyData.weight]; exact h.wt, by simp only [PyData.leavesShort, h.ls], by simp only [PyData.showable, h.shw]⟩
theorem Ok.str {n m : Nat} {z : Str} (hl : z.length ≤ m) (hc : ∀ c ∈ z.cps.toList, c < 128) : Ok n m (.str z) := by
  refine ⟨by simp [PyData.depth], by simp only [PyData.weight]; exact hl, ?_, by simp [PyData.showable]⟩
  simp only [PyData.leavesShort, List.all_eq_true, decide_eq_true_eq]
  intro c h
  have := hc c h
  have e : (16 : Nat) ^ 8 = 4294967296 := by decide
  omega
theorem Ok.bool {n m : Nat} (b : Bool) : Ok n m (.bool b) := ⟨by simp [PyData.depth], by simp [PyData.weight], rfl, rfl⟩
theorem Ok.none {n m : Nat} : Ok n m .none := ⟨by simp [PyData.depth], by simp [PyData.weight], rfl, rfl⟩
theorem Ok.dict0 {n m : Nat} (h : 1 ≤ n) : Ok n m (.dict []) := ⟨by simp only [PyData.depth, PyData.depthKv]; omega, by simp [PyData.weight, PyData.weightKv], rfl, rfl⟩
theorem Ok.num {n m : Nat} {i : Int} (h0 : -10000000000000 < i) (h1 : i < 10000000000000) (hm : 50 ≤ m) : Ok n m (.int i) := by
  have hl : i.natAbs < 2 ^ 44 := by
    have : (2 : Nat) ^ 44 = 17592186044416 := by decide
    omega
  refine ⟨by simp [PyData.depth], ?_, ?_, ?_⟩
  · simp only [PyData.weight]
    split
    · exact Nat.zero_le _
    · have := PySem.Flt.log2_lt_of (by decide : 0 < 44) hl
      omega
  · simp only [PyData.leavesShort, decide_eq_true_eq]
    show (Str.ofString (toString i)).length ≤ 14
    have e13 : (10 : Int) ^ 13 = 10000000000000 := by decide
    by_cases hn : 0 ≤ i
    · have := PyProof.Rows.toString_length_le hn (k := 13) (by decide) (by omega)
      omega
    · have e := PyProof.Rows.len_text_negI (n := i) (by omega)
      have := PyProof.Rows.toString_length_le (v := 0 - i) (by omega) (k := 13) (by decide) (by omega)
      omega
  · have := PySem.Flt.log2_lt_of (by decide : 0 < 44) hl
    simp only [PyData.showable, decide_eq_true_eq]
    omega
theorem Ok.shown {n m : Nat} {d : PyData} (h : Ok n m d) (hn : n ≤ 64) (hm : m ≤ 100000) (hk : d.hasDict = true → nl d = true) : shownQ d := by
  have hw := h.wt
  have := PyData.shown_le 14 (by decide) d h.ls
  have hd := h.dep
  exact ⟨h.shw, by omega, by rw [sizeLine_eq]; omega, hk⟩
theorem int_asc (i : Int) : ∀ c ∈ (Str.ofString (toString i)).cps.toList, c < 128 := fun c hc => by
  by_cases h : c < 128
  · exact h
  · exact absurd hc (PyProof.Rows.int_text_free' c ⟨by omega, by omega⟩ i)
theorem cat_ok {n m : Nat} {x y : Str} (hl : x.length + y.length ≤ m) (hx : ∀ c ∈ x.cps.toList, c < 128) (hy : ∀ c ∈ y.cps.toList, c < 128) : Ok n m (.str (x ++ y)) := by
  have e : (x ++ y).length = x.length + y.length := by rw [← len_tl, tl_app, List.length_append, len_tl, len_tl]
  refine .str (by omega) fun c hc => ?_
  rw [tl_app, List.mem_append] at hc
  exact hc.elim (hx c) (hy c)
def asc (z : Str) : Bool := z.cps.toList.all fun c => decide (c < 128)
theorem asc_of {z : Str} (h : asc z = true) : ∀ c ∈ z.cps.toList, c < 128 := fun c hc => of_decide_eq_true (List.all_eq_true.mp h c hc)
mutual
theorem vv_noL : ∀ {d : PyData}, vv d = true → noL d = true ∧ pureD d = true
  | .none, h => by simp [vv] at h
  | .bool _, _ => ⟨rfl, rfl⟩
  | .int _, _ => ⟨rfl, rfl⟩
  | .str _, _ => ⟨rfl, rfl⟩
  | .list _, h => by simp [vv] at h
  | .dict _, h => by simp [vv] at h
  | .tuple xs, h => by
    have := vvs_noLs (ds := xs) (by simpa [vv] using h)
    exact ⟨by simpa [noL] using this.1, by simpa [pureD] using this.2⟩
theorem vvs_noLs : ∀ {ds : List PyData}, vvs ds = true → noLs ds = true ∧ pureDs ds = true
  | [], _ => ⟨rfl, rfl⟩
  | x :: xs, h => by
    have h' : vv x = true ∧ vvs xs = true := by simpa [vvs] using h
    have a := vv_noL h'.1
    have b := vvs_noLs h'.2
    exact ⟨by simp [noLs, a.1, b.1], by simp [pureDs, a.2, b.2]⟩
end
theorem vvs_all : ∀ ds : List PyData, vvs ds = ds.all vv
  | [] => rfl
  | x :: xs => by simp [vvs, vvs_all xs]
theorem vvs_app {xs ys : List PyData} (h : vvs xs = true) (h2 : vvs ys = true) : vvs (xs ++ ys) = true := by
  rw [vvs_all] at *
  rw [List.all_append, h, h2]
  rfl
theorem vv_mem {ds : List PyData} {d : PyData} (h : vvs ds = true) (hm : d ∈ ds) : vv d = true := by
  rw [vvs_all] at h
  exact List.all_eq_true.mp h d hm
theorem rf_cat {i : Int} (h : 0 ≤ i) : rfS (("r" : Str) ++ Str.ofString (toString i)) = true := by
  unfold rfS
  rw [tl_app, List.all_append]
  have e1 : (("r" : Str)).cps.toList.all refc = true := by decide +kernel
  rw [e1, Bool.true_and]
  have e2 := sh_int h
  unfold sh at e2
  rw [PyData.shown_int] at e2
  rw [show (Str.ofString (toString i)).cps.toList = TL.numL i.toNat from e2]
  rw [List.all_eq_true]
  intro c hc
  have := List.all_eq_true.mp (numL_dg i.toNat) c hc
  unfold dgc at this
  unfold refc
  rw [this, Bool.or_true]
section
variable {P : Program} {w : World} {K : PySem.W.Frag} {mg : Str → Option Value} {base : Heap}
abbrev sLNumber : Stmt := topS 10
abbrev NLNumber : List Str := ["_law_pot_here"]
theorem scLNumber : FnScope NLNumber ["_law_pot_here"] (fnScope sLNumber) := ⟨rfl, rfl, rfl, by decide +kernel, rfl, by decide +kernel, by decide +kernel⟩
def spNumber : Sp := fun vs H Q _ => ∃ (p : Addr) (x y : Int), vs = [.ref p] ∧ Pot H p x y ∧ ∀ i H', 0 ≤ i → i < 1000000000000 → Going p H H' → Q (.int i) H'
theorem c_number (T : Tp mg) (c_LTake : Cal P w K mg base 1 "_law_take" spTake []) {f : Addr} {fd : FuncData} (D : Def K mg "_law_number" sLNumber f fd) (b : Binds K fd ["_law_pot_here"] []) : Cal P w K mg base 2 "_law_number" spNumber [] := by
  refine cal0 D b .nil scLNumber (fun vs H Q E h => ?_) (fun cdv A outer s H vs Q E hr h => ?_)
  · obtain ⟨p, x, y, rfl, _⟩ := h
    rfl
  · obtain ⟨p, x, y, rfl, hp, q⟩ := h
    refine ⟨_, (pss_one (ps_ret (pe_ix ix_list (pe_lst (pa_cons (pe_c c_LTake hr (by decide) (by rfl) (pa_cons (pv 0) (pa_cons pe_int pa_nil))) (pa_cons (pe_c c_LTake hr (by decide) (by rfl) (pa_cons (pv 0) (pa_cons (pe_op op_pow pe_int pe_int) pa_nil))) (pa_cons (pe_op op_sub (pe_op op_pow pe_int pe_int) pe_int) pa_nil)))) (pe_c c_LTake hr (by decide) (by rfl) (pa_cons (pv 0) (pa_cons pe_int pa_nil))) (fun _ _ => rfl)))), ?_⟩
    refine ⟨_, rfl, p, x, y, 4, rfl, hp, by decide, by decide, fun ra x2 y2 ra0 ra1 hp2 => ?_⟩
    have g2 := going_pot (But.refl p H) hp2
    refine ⟨_, rfl, _, _, rfl, rfl, (by show (0 : Int) ≤ 12 ∧ _; decide), p, x2, y2, _, rfl, hp2, (by decide), (by decide), fun rb x3 y3 rb0 rb1 hp3 => ?_⟩
    have g3 := g2.trans (going_pot (But.refl p _) hp3)
    refine ⟨_, _, rfl, rfl, (by show (0 : Int) ≤ 12 ∧ _; decide), _, _, rfl, rfl, (by show 3 ≤ sizeLine; decide), fun l hl => ?_⟩
    have g4 := g3.new (o := .lst [.int ra, .int rb, .int ((10 : Int) ^ (12 : Int).toNat - 1)]) hl
    obtain ⟨x4, y4, hp4⟩ := g4.2
    have nl := g3.ne hl
    refine ⟨_, rfl, p, x4, y4, 3, rfl, hp4, by decide, by decide, fun rc x5 y5 rc0 rc1 hp5 => ?_⟩
    have g5 := g4.trans (going_pot (But.refl p _) hp5)
    have e12 : (10 : Int) ^ (12 : Int).toNat = 1000000000000 := by decide
    rw [e12] at rb1
    obtain ⟨i, hi, hi0, hi1⟩ : ∃ i : Int, atI [V.int ra, .int rb, .int ((10 : Int) ^ (12 : Int).toNat - 1)] rc = some (.int i) ∧ 0 ≤ i ∧ i < 1000000000000 := by
      have hc : rc = 0 ∨ rc = 1 ∨ rc = 2 := by omega
      rcases hc with rfl | rfl | rfl
      · exact ⟨ra, atI_nat (j := 0) rfl, ra0, by omega⟩
      · exact ⟨rb, atI_nat (j := 1) rfl, rb0, rb1⟩
      · exact ⟨_, atI_nat (j := 2) rfl, by rw [e12]; decide, by rw [e12]; decide⟩
    exact ⟨l, _, rc, .int i, rfl, rfl, SqL.of (((But.refl p _).pot (o := .lst [.int x5, .int y5])) _ _ nl upd_same), hi, q i _ hi0 hi1 g5⟩
abbrev sLRef : Stmt := topS 11
abbrev NLRef : List Str := ["_law_pot_here"]
theorem scLRef : FnScope NLRef ["_law_pot_here"] (fnScope sLRef) := ⟨rfl, rfl, rfl, by decide +kernel, rfl, by decide +kernel, by decide +kernel⟩
def spRef : Sp := fun vs H Q _ => ∃ (p : Addr) (x y : Int), vs = [.ref p] ∧ Pot H p x y ∧ ∀ z H', Ok 0 61 (.str z) → rfS z = true → Going p H H' → Q (.str z) H'
theorem c_ref (T : Tp mg) (c_LTake : Cal P w K mg base 1 "_law_take" spTake []) {f : Addr} {fd : FuncData} (D : Def K mg "_law_ref" sLRef f fd) (b : Binds K fd ["_law_pot_here"] []) : Cal P w K mg base 2 "_law_ref" spRef [] := by
  refine cal0 D b .nil scLRef (fun vs H Q E h => ?_) (fun cdv A outer s H vs Q E hr h => ?_)
  · obtain ⟨p, x, y, rfl, _⟩ := h
    rfl
  · obtain ⟨p, x, y, rfl, hp, q⟩ := h
    refine ⟨_, (pss_one (ps_ret (pe_op op_add_str pe_str (pe_callTy call_str_int (by rfl) T.n_str (by decide +kernel) (pa_cons (pe_ix ix_list (pe_lst (pa_cons (pe_c c_LTake hr (by decide) (by rfl) (pa_cons (pv 0) (pa_cons pe_int pa_nil))) (pa_cons (pe_c c_LTake hr (by decide) (by rfl) (pa_cons (pv 0) (pa_cons pe_int pa_nil))) (pa_cons (pe_c c_LTake hr (by decide) (by rfl) (pa_cons (pv 0) (pa_cons (pe_op op_pow pe_int pe_int) pa_nil))) pa_nil)))) (pe_c c_LTake hr (by decide) (by rfl) (pa_cons (pv 0) (pa_cons pe_int pa_nil))) (fun _ _ => rfl)) pa_nil))))), ?_⟩
    refine ⟨_, rfl, p, x, y, 4, rfl, hp, by decide, by decide, fun ra x2 y2 ra0 ra1 hp2 => ?_⟩
    have g2 := going_pot (But.refl p H) hp2
    refine ⟨_, rfl, p, x2, y2, 2000, rfl, hp2, (by decide), (by decide), fun rb x3 y3 rb0 rb1 hp3 => ?_⟩
    have g3 := g2.trans (going_pot (But.refl p _) hp3)
    refine ⟨_, rfl, _, _, rfl, rfl, (by show (0 : Int) ≤ 60 ∧ _; decide), p, x3, y3, _, rfl, hp3, (by decide), (by decide +kernel), fun rc x4 y4 rc0 rc1 hp4 => ?_⟩
    have g4 := g3.trans (going_pot (But.refl p _) hp4)
    refine ⟨(by show 3 ≤ sizeLine; decide), fun l hl => ?_⟩
    have g5 := g4.new (o := .lst [.int ra, .int rb, .int rc]) hl
    obtain ⟨x5, y5, hp5⟩ := g5.2
    have nl := g4.ne hl
    refine ⟨_, rfl, p, x5, y5, 3, rfl, hp5, by decide, by decide, fun rd x6 y6 rd0 rd1 hp6 => ?_⟩
    have g6 := g5.trans (going_pot (But.refl p _) hp6)
    have rc2 : rc < 10 ^ 60 := rc1
    have b60 : (2000 : Int) < 10 ^ 60 := by decide
    obtain ⟨i, hi, hi0, hi1⟩ : ∃ i : Int, atI [V.int ra, .int rb, .int rc] rd = some (.int i) ∧ 0 ≤ i ∧ i < 10 ^ 60 := by
      have hc : rd = 0 ∨ rd = 1 ∨ rd = 2 := by omega
      rcases hc with rfl | rfl | rfl
      · exact ⟨ra, atI_nat (j := 0) rfl, ra0, by omega⟩
      · exact ⟨rb, atI_nat (j := 1) rfl, rb0, by omega⟩
      · exact ⟨rc, atI_nat (j := 2) rfl, rc0, rc2⟩
    refine ⟨l, _, rd, .int i, rfl, rfl, SqL.of (((But.refl p _).pot (o := .lst [.int x6, .int y6])) _ _ nl upd_same), hi, i, rfl, ?_, ?_⟩
    · have h200 : i.natAbs < 2 ^ 200 := by
        have e1 : ((10 : Nat) ^ 60) < 2 ^ 200 := by decide +kernel
        have e2 : ((i.natAbs : Nat) : Int) < (((10 : Nat) ^ 60 : Nat) : Int) := by
          rw [Int.natAbs_of_nonneg hi0]
          exact_mod_cast hi1
        omega
      have := PySem.Flt.log2_lt_of (by decide : 0 < 200) h200
      omega
    · have hlen := PyProof.Rows.toString_length_le hi0 (k := 60) (by decide) hi1
      have h1 : ("r" : Str).length = 1 := by decide +kernel
      refine ⟨_, _, rfl, rfl, by rw [sizeLine_eq]; omega, q _ _ (cat_ok (by omega) (asc_of (z := "r") (by decide +kernel)) (int_asc i)) (rf_cat hi0) g6⟩
end
end K14
set_option Elab.async false
set_option linter.all false
set_option maxRecDepth 100000
set_option maxHeartbeats 4000000
namespace K14
open PySem PySem.Spec PyProof.Rows L2
open C8 (Cal Def cal0 pe_c fnBody fnScope fnArgs)
def wv : Nat → Nat
  | 0 => 70
  | k + 1 => 3 * (wv k + 1)
theorem wv_ge : ∀ m, 70 ≤ wv m
  | 0 => Nat.le_refl _
  | k + 1 => by
    have := wv_ge k
    show 70 ≤ 3 * (wv k + 1)
    omega
section
variable {P : Program} {w : World} {K : PySem.W.Frag} {mg : Str → Option Value} {base : Heap}
def spValue (K : PySem.W.Frag) (j : Nat) : Sp := fun vs H Q _ => ∃ (p : Addr) (x y : Int) (m : Nat), vs = [.ref p, .int m, .bl true] ∧ m < j ∧ Pot H p x y ∧ ∀ v d H', Ok m (wv m) d → vv d = true → Dh K p H' v d → Going p H H' → Q v H'
/-- values drawn, one behind the other: what is made so far -/
structure Row (K : PySem.W.Frag) (p D : Addr) (m : Nat) (H : Hp) (i : Nat) (H' : Hp) (vs : List V) (ds : List PyData) : Prop where
  ok : OkAll m (i * (wv m + 1)) ds
  nl : vvs ds = true
  ln : ds.length = i
  dt : DpAll K (hid p (hid D H')) vs ds
  at_ : H' D = some (.lst vs)
  go : Going p H H'
theorem lc_value {j : Nat} {p : Addr} {x y : Int} {m c : Nat} {H : Hp} {σ : L2.St} {R9 : Addr → Hp → Prop} (hm : m < j) (hc : c ≤ 3) (hp : Pot H p x y) (s0 : (wipe σ [4])[0]? = some (some (.ref p))) (s1 : (wipe σ [4])[1]? = some (some (.int ((m + 1 : Nat) : Int)))) (s2 : (wipe σ [4])[2]? = some (some (.bl true))) (hl : σ.length = 5)
    (q : ∀ D H' vs ds, D ≠ p → Row K p D m H c H' vs ds → R9 D H') :
    ∀ D, H D = none → ∃ W : Nat → Nat → Hp → Prop, (∃ m, W 0 m (upd H D (.lst []))) ∧ ∀ i m H, W i m H →
      ((Itr 0 c).stop i H ∧ R9 D H) ∨ ((Itr 0 c).go i H ∧ ∃ Nx : Hp → Prop, (∀ H', Nx H' → ∃ m', m' < m ∧ W (i + 1) m' H') ∧ ∀ x H', (Itr 0 c).yld i H x H' → gName 4 x (wipe σ [4]) H' fun σ2 H2 => wipe σ2 [4] = wipe σ [4] ∧ tYes σ2 H2 fun b H3 =>
        if b = true then (tCall (spValue K j) [] C8.E0 (tCons (tVar 0) (tCons (tOp (rI0 fun i j => .int (i - j)) (tVar 1) (tC (.int 1))) (tCons (tVar 2) tNil)))) σ2 H3 fun y H4 => ∃ acc, H4 D = some (.lst acc) ∧ acc.length < sizeLine ∧ Nx (upd H4 D (.lst (acc ++ [y]))) else Nx H3) := by
  intro D hD
  have nD := hp.ne hD
  have line := sizeLine_eq
  refine lc_range (lo := 0) (n := c) (fun i H' => ∃ vs ds, Row K p D m H i H' vs ds) ⟨[], [], ⟨OkAll.nil, rfl, rfl, .nil, upd_same, But.new hD, x, y, hp.new hD⟩⟩ (fun i H' hi hW => ?_) (fun H' hW => ?_)
  · obtain ⟨vs, ds, R⟩ := hW
    obtain ⟨x1, y1, hp1⟩ := R.go.2
    refine ⟨?_, ?_⟩
    · show ((wipe σ [4]).set 4 (some (.int (0 + (i : Int))))).set 4 none = wipe σ [4]
      rw [List.set_set]
      show ((σ.set 4 none).set 4 none) = σ.set 4 none
      rw [List.set_set]
    · unfold tYes; dsimp only
      rw [if_pos rfl]
      refine ⟨_, (by rw [List.getElem?_set_ne (by decide)]; exact s0), _, (by rw [List.getElem?_set_ne (by decide)]; exact s1), _, _, rfl, rfl, _, (by rw [List.getElem?_set_ne (by decide)]; exact s2), p, x1, y1, m, ?_, hm, hp1, fun v d H2 h4 h5 h6 h7 => ?_⟩
      · show [V.ref p, V.int (((m + 1 : Nat) : Int) - 1), V.bl true] = _
        rw [show ((m + 1 : Nat) : Int) - 1 = (m : Int) by omega]
      · have hat2 : H2 D = some (.lst vs) := h7.1 _ _ nD R.at_
        have hlen := R.dt.len
        have hln := R.ln
        refine ⟨vs, hat2, by omega, vs ++ [v], ds ++ [d], ⟨?_, vvs_app R.nl (by simp [vvs, h5]), by rw [List.length_append, R.ln]; rfl, ?_, upd_same, ?_⟩⟩
        · exact (R.ok.app (OkAll.cons (b := 0) h4 .nil)).mono (Nat.le_refl _) (by rw [Nat.succ_mul]; omega)
        · rw [hid_upd]
          refine (DpAll.mono (hid2_but h7.1) R.dt).app (.cons ?_ .nil)
          rw [← hid_hid]
          exact dp_hid (ys := vs) (by rw [hid_ne nD]; exact hat2) (vv_noL h5).1 h6
        · refine ⟨fun b o nb hb => ?_, ?_⟩
          · rw [upd_ne (ne_of_none hb hD)]
            exact h7.1 b o nb (R.go.1 b o nb hb)
          · obtain ⟨x2, y2, hp2⟩ := h7.2
            exact ⟨x2, y2, by rw [upd_ne nD.symm]; exact hp2.at_, hp2.x0, hp2.y0, hp2.y1⟩
  · obtain ⟨vs, ds, R⟩ := hW
    exact q D H' vs ds nD R
abbrev sLValue : Stmt := topS 12
abbrev NLValue : List Str := ["_law_pot_here", "_law_deep", "_law_refs", "_law_way", "_law_k"]
theorem scLValue : FnScope NLValue ["_law_pot_here", "_law_deep", "_law_refs"] (fnScope sLValue) := ⟨rfl, rfl, rfl, by decide +kernel, rfl, by decide +kernel, by decide +kernel⟩
theorem c_value (T : Tp mg) (c_LTake : Cal P w K mg base 1 "_law_take" spTake []) (c_LRef : Cal P w K mg base 2 "_law_ref" spRef []) (c_LNumber : Cal P w K mg base 2 "_law_number" spNumber []) {f : Addr} {fd : FuncData} (D : Def K mg "_law_value" sLValue f fd)
    (b : Binds K fd ["_law_pot_here", "_law_deep", "_law_refs"] []) : ∀ n : Nat, Cal P w K mg base (3 + n) "_law_value" (spValue K n) []
  | 0 => cal_no _ (fun vs H Q E ⟨p, x, y, m, _, h, _⟩ => absurd h (Nat.not_lt_zero _)) D b
  | n + 1 => by
    have c_LValue := c_value T c_LTake c_LRef c_LNumber D b n
    refine cal0 D b .nil scLValue (fun vs H Q E h => ?_) (fun cdv A outer s H vs Q E hr h => ?_)
    · obtain ⟨p, x, y, m, rfl, _⟩ := h
      rfl
    · obtain ⟨p, x, y, m, rfl, hm, hp, q⟩ := h
      have nd := scLValue.nd
      have hr := (show Room (3 + n) _ from hr)
      refine ⟨_, (pss_cons (ps_set (i := 3) nd rfl (.inl rfl) (pe_c c_LTake hr (by omega) (by rfl) (pa_cons (pv 0) (pa_cons pe_int pa_nil))))
    (pss_cons (ps_if (PW.pt (pw_and (pt_cmpR op_gt (pv 3) pe_int (nomark _)) (pw_and1 (pt_cmpR op_gt (pv 1) pe_int (nomark _)))))
      (pss_one (ps_ret (pe_callTy call_tuple_of (by rfl) T.n_tuple (by decide +kernel) (pa_cons (pe_lc (own := [("_law_k", 4)]) (g := gName 4) (by rfl) nd (pi_range1 (by rfl) T.n_range (pa_cons (pe_c c_LTake hr (by omega) (by rfl) (pa_cons (pv 0) (pa_cons pe_int pa_nil))) pa_nil)) (blkOk_by (own := [("_law_k", 4)]) (N := NLValue) (sc := fnScope sLValue) (by decide +kernel)) (fun _ _ _ _ _ => pg_name (i := 4) nd rfl (Or.inl rfl)) (fun _ _ _ _ _ => pts_nil) (fun _ _ _ _ _ => (pe_c c_LValue hr (Nat.le_refl _) (by rfl) (pa_cons (pv 0) (pa_cons (pe_op op_sub (pv 1) pe_int) (pa_cons (pv 2) pa_nil)))))) pa_nil))))
      pss_nil)
    (pss_cons (ps_if (PW.pt (pw_and (pt_cmpR op_eq (pv 3) pe_int (nomark _)) (pw_and1 (pt_val (pv 2)))))
      (pss_one (ps_ret (pe_c c_LRef hr (by omega) (by rfl) (pa_cons (pv 0) pa_nil))))
      pss_nil)
    (pss_cons (ps_if (pt_cmpR op_eq (pv 3) pe_int (nomark _))
      (pss_one (ps_ret (pe_cmpR op_eq (pe_c c_LTake hr (by omega) (by rfl) (pa_cons (pv 0) (pa_cons pe_int pa_nil))) pe_int (nomark _))))
      pss_nil)
    (pss_one (ps_ret (pe_c c_LNumber hr (by omega) (by rfl) (pa_cons (pv 0) pa_nil)))))))), ?_⟩
      have hge := wv_ge m
      refine ⟨_, rfl, p, x, y, 7, rfl, hp, by decide, by decide, fun r x1 y1 r0 r1 hp1 => ?_⟩
      have g1 := going_pot (But.refl p H) hp1
      refine ⟨_, rfl, _, _, rfl, rfl, _, rfl, ite2 (fun e => ⟨_, rfl, _, _, rfl, rfl, _, rfl, ite2 (fun e2 => ?_) (fun e2 => ?_)⟩) (fun e => iteF ?_)⟩
      · have e' : (0 : Int) < m := of_decide_eq_true e2
        obtain ⟨m', rfl⟩ : ∃ m', m = m' + 1 := ⟨m - 1, by omega⟩
        refine ⟨_, rfl, p, x1, y1, 4, rfl, hp1, by decide, by decide, fun c x2 y2 c0 c1 hp2 => ?_⟩
        have g2 := g1.trans (going_pot (But.refl p _) hp2)
        refine ⟨c, rfl, by omega, by omega, ?_⟩
        refine lc_value (j := n) (c := c.toNat) (σ := [some (.ref p), some (.int ((m' + 1 : Nat) : Int)), some (.bl true), some (.int r), none]) (by omega) (by omega) hp2 rfl rfl rfl rfl (fun Dl H4 vs ds nD R => ?_)
        refine ⟨Dl, vs, rfl, .inl ⟨SqL.of R.at_, fun t2 ht2 => ?_⟩⟩
        have gg : Going p H4 (upd H4 t2 (.tup vs)) := ⟨But.new ht2, let ⟨a, b, h⟩ := R.go.2; ⟨a, b, h.new ht2⟩⟩
        have dt : DhAll K p H4 vs ds := DpAll.mono (hid_same hid_in) R.dt
        refine q _ (.tuple ds) _ (((Ok.tup R.ok).mono (Nat.le_refl _) ?_)) (by simpa [vv] using R.nl) (Dp.newT ht2 (R.go.ne ht2) dt) (g2.trans (R.go.trans gg))
        show c.toNat * (wv m' + 1) ≤ 3 * (wv m' + 1)
        exact Nat.mul_le_mul_right _ (by omega)
      all_goals
        refine ⟨_, rfl, rfl, _, rfl, ite2 (fun e3 => ⟨_, rfl, true, rfl, iteT ?_⟩) (fun e3 => iteF ?_)⟩
        · exact ⟨_, rfl, p, x1, y1, rfl, hp1, fun z H2 hz hz2 g2 => q _ (.str z) _ (hz.mono (Nat.zero_le _) (by omega)) (by simpa [vv] using hz2) (.str z) (g1.trans g2)⟩
        · refine ⟨_, rfl, rfl, _, rfl, ite2 (fun e4 => ?_) (fun e4 => ?_)⟩
          · exact ⟨_, rfl, p, x1, y1, 2, rfl, hp1, by decide, by decide, fun ra x2 y2 ra0 ra1 hp2 => ⟨rfl, q _ (.bool _) _ (.bool _) rfl (.bl _) (g1.trans (going_pot (But.refl p _) hp2))⟩⟩
          · exact ⟨_, rfl, p, x1, y1, rfl, hp1, fun i H2 i0 i1 g2 => q _ (.int i) _ (.num (by omega) (by omega) (by omega)) (by simp [vv, i0, i1]) (.int i) (g1.trans g2)⟩
end
end K14
set_option Elab.async false
set_option linter.all false
set_option maxRecDepth 100000
set_option maxHeartbeats 4000000
namespace K14
open PySem PySem.Spec PyProof.Rows L2
open C8 (Cal Def cal0 pe_c fnBody fnScope fnArgs)
inductive Kd where
  | num | tru | rcd (z : Str) | lst (k : Kd)
def Kd.d : Kd → PyData
  | .num => .tuple [.str "number"]
  | .tru => .tuple [.str "truth"]
  | .rcd z => .tuple [.str "record", .str z]
  | .lst k => .tuple [.str "list", k.d]
def Kd.ok : Kd → Prop
  | .num => True
  | .tru => True
  | .rcd z => asc z = true ∧ z.length ≤ 8
  | .lst k => k.ok
def Kd.deep : Kd → Nat
  | .lst k => k.deep + 1
  | _ => 0
def Kd.word : Kd → Str
  | .num => "number" | .tru => "truth" | .rcd _ => "record" | .lst _ => "list"
theorem kd_ok : ∀ {k : Kd}, k.ok → Ok (k.deep + 1) (20 + 10 * k.deep) k.d
  | .num, _ => (Ok.tup (n := 0) (m := 7) (OkAll.cons (a := 6) (b := 0) (.str (by decide) (asc_of (z := "number") (by decide +kernel))) .nil)).mono (by simp [Kd.deep]) (by simp [Kd.deep])
  | .tru, _ => (Ok.tup (n := 0) (m := 6) (OkAll.cons (a := 5) (b := 0) (.str (by decide) (asc_of (z := "truth") (by decide +kernel))) .nil)).mono (by simp [Kd.deep]) (by simp [Kd.deep])
  | .rcd z, h => (Ok.tup (n := 0) (OkAll.cons (a := 6) (.str (by decide) (asc_of (z := "record") (by decide +kernel))) (OkAll.cons (a := 8) (b := 0) (.str h.2 (asc_of h.1)) .nil))).mono (by simp [Kd.deep]) (by simp [Kd.deep])
  | .lst k, h => by
    have ih := kd_ok (k := k) h
    refine (Ok.tup (n := k.deep + 1) (OkAll.cons (a := 4) (.str (by decide) (asc_of (z := "list") (by decide +kernel))) (OkAll.cons (b := 0) ih .nil))).mono (Nat.le_refl _) ?_
    show 4 + 1 + (20 + 10 * k.deep + 1 + 0) ≤ 20 + 10 * (k.deep + 1)
    omega
theorem kd_pure : ∀ k : Kd, noL k.d = true ∧ pureD k.d = true
  | .num => ⟨rfl, rfl⟩
  | .tru => ⟨rfl, rfl⟩
  | .rcd _ => ⟨rfl, rfl⟩
  | .lst k => by
    have ih := kd_pure k
    exact ⟨by simp [Kd.d, noL, noLs, ih.1], by simp [Kd.d, pureD, pureDs, ih.2]⟩
section
variable {K : PySem.W.Frag}
theorem kd_at {H : Hp} {kv : V} {k : Kd} (h : Dp K H kv k.d) : ∃ a xs, kv = .ref a ∧ SqT K H a xs ∧ xs[0]? = some (.str k.word) := by
  cases k with
  | num => cases h with
    | @tup a xs _ hq ha => cases ha with
      | cons h1 h2 => cases h1; exact ⟨a, _, rfl, hq, rfl⟩
  | tru => cases h with
    | @tup a xs _ hq ha => cases ha with
      | cons h1 h2 => cases h1; exact ⟨a, _, rfl, hq, rfl⟩
  | rcd z => cases h with
    | @tup a xs _ hq ha => cases ha with
      | cons h1 h2 => cases h1; exact ⟨a, _, rfl, hq, rfl⟩
  | lst k => cases h with
    | @tup a xs _ hq ha => cases ha with
      | cons h1 h2 => cases h1; exact ⟨a, _, rfl, hq, rfl⟩
theorem kd_rcd {H : Hp} {kv : V} {z : Str} (h : Dp K H kv (Kd.rcd z).d) : ∃ a xs, kv = .ref a ∧ SqT K H a xs ∧ xs[0]? = some (.str "record") ∧ xs[1]? = some (.str z) := by
  cases h with
  | @tup a xs _ hq ha => cases ha with
    | cons h1 h2 =>
      cases h1
      cases h2 with
      | cons h3 h4 => cases h3; exact ⟨a, _, rfl, hq, rfl, rfl⟩
theorem kd_lst {H : Hp} {kv : V} {k : Kd} (h : Dp K H kv (Kd.lst k).d) : ∃ a xs v1, kv = .ref a ∧ SqT K H a xs ∧ xs[0]? = some (.str "list") ∧ xs[1]? = some v1 ∧ Dp K H v1 k.d := by
  cases h with
  | @tup a xs _ hq ha => cases ha with
    | cons h1 h2 =>
      cases h1
      cases h2 with
      | cons h3 h4 => exact ⟨a, _, _, rfl, hq, rfl, rfl, h3⟩
end
section
variable {P : Program} {w : World} {K : PySem.W.Frag} {mg : Str → Option Value} {base : Heap}
abbrev sLKind : Stmt := topS 13
abbrev NLKind : List Str := ["_law_pot_here", "_law_deep", "_law_way"]
theorem scLKind : FnScope NLKind ["_law_pot_here", "_law_deep"] (fnScope sLKind) := ⟨rfl, rfl, rfl, by decide +kernel, rfl, by decide +kernel, by decide +kernel⟩
def spKind (K : PySem.W.Frag) (n : Nat) : Sp := fun vs H Q _ => ∃ (p : Addr) (x y : Int) (m : Nat), vs = [.ref p, .int m] ∧ m < n ∧ Pot H p x y ∧
  ∀ v (k : Kd) H', k.ok → k.deep ≤ m → Dh K p H' v k.d → Going p H H' → Q v H'
theorem c_kind (T : Tp mg) (c_LTake : Cal P w K mg base 1 "_law_take" spTake []) {f : Addr} {fd : FuncData} (D : Def K mg "_law_kind" sLKind f fd) (b : Binds K fd ["_law_pot_here", "_law_deep"] []) :
    ∀ n : Nat, Cal P w K mg base (2 + n) "_law_kind" (spKind K n) []
  | 0 => cal_no _ (fun vs H Q E ⟨p, x, y, m, _, h, _⟩ => absurd h (Nat.not_lt_zero _)) D b
  | n + 1 => by
    have c_LKind := c_kind T c_LTake D b n
    refine cal0 D b .nil scLKind (fun vs H Q E h => ?_) (fun cdv A outer s H vs Q E hr h => ?_)
    · obtain ⟨p, x, y, m, rfl, _⟩ := h
      rfl
    · obtain ⟨p, x, y, m, rfl, hm, hp, q⟩ := h
      have nd := scLKind.nd
      have hr := (show Room (2 + n) _ from hr)
      refine ⟨_, (pss_cons (ps_set (i := 2) nd rfl (.inl rfl) (pe_c c_LTake hr (by omega) (by rfl) (pa_cons (pv 0) (pa_cons pe_int pa_nil))))
    (pss_cons (ps_if (PW.pt (pw_and (pt_cmpR op_gt (pv 2) pe_int (nomark _)) (pw_and1 (pt_cmpR op_gt (pv 1) pe_int (nomark _)))))
      (pss_one (ps_ret (pe_tup (pa_cons pe_str (pa_cons (pe_c c_LKind hr (by omega) (by rfl) (pa_cons (pv 0) (pa_cons (pe_op op_sub (pv 1) pe_int) pa_nil))) pa_nil)))))
      pss_nil)
    (pss_one (ps_ret (pe_ix ix_list (pe_lst (pa_cons (pe_tup (pa_cons pe_str pa_nil)) (pa_cons (pe_tup (pa_cons pe_str pa_nil)) (pa_cons (pe_tup (pa_cons pe_str (pa_cons (pe_ix ix_list (pe_lst (pa_cons pe_str (pa_cons pe_str (pa_cons pe_str (pa_cons pe_str pa_nil))))) (pe_c c_LTake hr (by omega) (by rfl) (pa_cons (pv 0) (pa_cons pe_int pa_nil))) (fun _ _ => rfl)) pa_nil))) pa_nil)))) (pe_op op_modN (pv 2) pe_int) (fun _ _ => rfl)))))), ?_⟩
      refine ⟨_, rfl, p, x, y, 6, rfl, hp, by decide, by decide, fun r x1 y1 r0 r1 hp1 => ?_⟩
      have g1 : Going p H (upd H p (.lst [.int x1, .int y1])) := going_pot (But.refl p H) hp1
      have rest : ∀ (H1 : Hp) , Going p H H1 → (tRet (tOp (rIxL K) (tLst (tCons (tTup (tCons (tC (.str "number")) tNil)) (tCons (tTup (tCons (tC (.str "truth")) tNil)) (tCons (tTup (tCons (tC (.str "record")) (tCons (tOp (rIxL K) (tLst (tCons (tC (.str "a")) (tCons (tC (.str "b")) (tCons (tC (.str "c")) (tCons (tC (.str "d")) tNil))))) (tCall spTake [] C8.E0 (tCons (tVar 0) (tCons (tC (.int 4)) tNil)))) tNil))) tNil)))) (tOp (rI (fun _ j => j ≠ 0) fun i j => .int (i.fmod j)) (tVar 2) (tC (.int 3))))) { nx := fun _ H' => Q .non H', rt := Q } [some (.ref p), some (.int m), some (.int r)] H1 := by
        intro H1 g
        obtain ⟨x2, y2, hp2⟩ := g.2
        refine ⟨(by show 1 ≤ sizeLine; decide), fun t1 h1 => ⟨(by show 1 ≤ sizeLine; decide), fun t2 h2 => ?_⟩⟩
        have n1 := hp2.ne h1
        have gA := (g.new (o := .tup [.str "number"]) h1)
        have n2 := gA.ne h2
        have gB := (gA.new (o := .tup [.str "truth"]) h2)
        refine ⟨(by show 4 ≤ sizeLine; decide), fun l0 hl0 => ?_⟩
        have gB0 := gB.new (o := .lst [.str "a", .str "b", .str "c", .str "d"]) hl0
        have nl0 := gB.ne hl0
        obtain ⟨x3, y3, hp3⟩ := gB0.2
        refine ⟨_, rfl, p, x3, y3, 4, rfl, hp3, by decide, by decide, fun rz x4 y4 rz0 rz1 hp4 => ?_⟩
        have g2 := (Going.new (p := p) (H := upd (upd H1 t1 (.tup [.str "number"])) t2 (.tup [.str "truth"])) ⟨But.refl p _, gB.2⟩ (o := .lst [.str "a", .str "b", .str "c", .str "d"]) hl0).trans (going_pot (But.refl p _) hp4)
        obtain ⟨z, hz, okz⟩ : ∃ z, atI [V.str "a", .str "b", .str "c", .str "d"] rz = some (.str z) ∧ (Kd.rcd z).ok := by
          have hc : rz = 0 ∨ rz = 1 ∨ rz = 2 ∨ rz = 3 := by omega
          rcases hc with rfl | rfl | rfl | rfl
          · exact ⟨_, atI_nat (j := 0) rfl, by decide +kernel, by decide⟩
          · exact ⟨_, atI_nat (j := 1) rfl, by decide +kernel, by decide⟩
          · exact ⟨_, atI_nat (j := 2) rfl, by decide +kernel, by decide⟩
          · exact ⟨_, atI_nat (j := 3) rfl, by decide +kernel, by decide⟩
        refine ⟨l0, _, rz, .str z, rfl, rfl, SqL.of ((going_pot (But.refl p _) hp4).1 _ _ nl0 upd_same), hz, ?_⟩
        generalize hH2 : upd (upd (upd (upd H1 t1 (.tup [.str "number"])) t2 (.tup [.str "truth"])) l0 (.lst [.str "a", .str "b", .str "c", .str "d"])) p (.lst [.int x4, .int y4]) = H2 at g2
        refine ⟨(by show 2 ≤ sizeLine; decide), fun t3 h3 => ⟨(by show 3 ≤ sizeLine; decide), fun l hl => ?_⟩⟩
        have gC := (gB.trans g2).new (o := .tup [.str "record", .str z]) h3
        have n3 := g2.ne h3
        have gD := gC.new (o := .lst [.ref t1, .ref t2, .ref t3]) hl
        have D1 : Dh K p H2 (.ref t1) (Kd.num).d := ((Dp.newT h1 n1 (.cons (.str _) .nil)).but (But.new h2)).but g2.1
        have D2 : Dh K p H2 (.ref t2) (Kd.tru).d := (Dp.newT h2 n2 (.cons (.str _) .nil)).but g2.1
        have D3 : Dh K p (upd H2 t3 (.tup [.str "record", .str z])) (.ref t3) (Kd.rcd z).d := Dp.newT h3 n3 (.cons (.str _) (.cons (.str _) .nil))
        refine ⟨_, rfl, _, _, rfl, rfl, (by show (3 : Int) ≠ 0; decide), ?_⟩
        have r3 : 0 ≤ r.fmod 3 := fmod_lo (by decide)
        have r4 : r.fmod 3 < 3 := fmod_hi (by decide)
        have hL : SqL K (upd (upd H2 t3 (.tup [.str "record", .str z])) l (.lst [.ref t1, .ref t2, .ref t3])) l [.ref t1, .ref t2, .ref t3] := SqL.of upd_same
        have hcase : r.fmod 3 = 0 ∨ r.fmod 3 = 1 ∨ r.fmod 3 = 2 := by omega
        rcases hcase with e | e | e
        · refine ⟨l, _, _, .ref t1, rfl, rfl, hL, by rw [e]; exact atI_nat (j := 0) rfl, ?_⟩
          exact q _ .num _ True.intro (Nat.zero_le _) ((D1.but (But.new h3)).but (But.new hl)) gD
        · refine ⟨l, _, _, .ref t2, rfl, rfl, hL, by rw [e]; exact atI_nat (j := 1) rfl, ?_⟩
          exact q _ .tru _ True.intro (Nat.zero_le _) ((D2.but (But.new h3)).but (But.new hl)) gD
        · refine ⟨l, _, _, .ref t3, rfl, rfl, hL, by rw [e]; exact atI_nat (j := 2) rfl, ?_⟩
          exact q _ (.rcd z) _ okz (Nat.zero_le _) (D3.but (But.new hl)) gD
      refine ⟨_, rfl, _, _, rfl, rfl, _, rfl, ite2 (fun e => ?_) (fun e => ?_)⟩
      · refine ⟨_, rfl, _, _, rfl, rfl, _, rfl, ite2 (fun e2 => ?_) (fun e2 => ?_)⟩
        · have m0 : (0 : Int) < m := of_decide_eq_true e2
          refine ⟨_, rfl, _, rfl, _, _, rfl, rfl, p, x1, y1, m - 1, ?_, by omega, hp1, fun v k H2 hk hd hD g2 => ?_⟩
          · show [V.ref p, V.int ((m : Int) - 1)] = _
            rw [show ((m - 1 : Nat) : Int) = (m : Int) - 1 by omega]
          · refine ⟨(by show 2 ≤ sizeLine; decide), fun t ht => ?_⟩
            exact q _ (.lst k) _ hk (by show k.deep + 1 ≤ m; omega) (Dp.newT ht (g2.ne ht) (.cons (.str _) (.cons hD .nil))) ((g1.trans g2).new ht)
        · exact rest _ g1
      · show (if (false : Bool) = true then _ else _)
        exact iteF (rest _ g1)
end
end K14
set_option Elab.async false
set_option linter.all false
set_option maxRecDepth 100000
set_option maxHeartbeats 4000000
namespace K14
open PySem PySem.Spec PyProof.Rows L2
open C8 (Cal Def cal0 pe_c fnBody fnScope fnArgs)
def intB : PyData → Bool
  | .int _ => true
  | _ => false
/-- whether data is of a kind, by the names of records -/
def isO (f : Str → Option Str) : Kd → PyData → Bool
  | .num => intB
  | .tru => isB
  | .rcd z => fun d => match d with | .str s => (f s == some z) | _ => false
  | .lst k => fun d => match d with | .tuple ds => ds.all (isO f k) | _ => false
theorem numB_int {d : PyData} (h : vv d = true) : numB d = intB d := by
  cases d <;> simp [vv] at h <;> simp [numB, intB, h]
def Rx (K : PySem.W.Frag) (H : Hp) (a : Addr) (f : Str → Option Str) : Prop := ∃ kvs : List (Key × V), H a = some (.dK kvs) ∧ ∀ z : Str, (valV kvs (Sum.inr z) = none ∧ f z = none) ∨ ∃ t n p, valV kvs (Sum.inr z) = some (.ref t) ∧ SqT K H t [.str n, p] ∧ f z = some n
theorem Rx.mono {K : PySem.W.Frag} {H H' : Hp} {a : Addr} {f : Str → Option Str} (e : Same H H') (h : Rx K H a f) : Rx K H' a f := by
  obtain ⟨kvs, h1, h2⟩ := h
  refine ⟨kvs, e _ _ h1, fun z => ?_⟩
  rcases h2 z with h | ⟨t, n, p, g1, g2, g3⟩
  · exact .inl h
  · exact .inr ⟨t, n, p, g1, sqT_mono e g2, g3⟩
theorem hid_new {p D : Addr} {H H' : Hp} (s : Same H H') (n : H D = none) : Same (hid p H) (hid p (hid D H')) := fun b o h => by
  obtain ⟨nb, hb⟩ := hid_some h
  rw [hid_ne nb, hid_ne (ne_of_none hb n)]
  exact s b o hb
theorem pair_of {K : PySem.W.Frag} {H : Hp} {v : V} {d e : PyData} (h : Dp K H v (.tuple [d, e])) : ∃ a x y, v = .ref a ∧ SqT K H a [x, y] ∧ Dp K H x d ∧ Dp K H y e := by
  cases h with
  | @tup a xs _ hq ha => cases ha with
    | cons h1 h2 => cases h2 with
      | cons h3 h4 => cases h4; exact ⟨a, _, _, rfl, hq, h1, h3⟩
theorem sqT_in {K : PySem.W.Frag} {p a : Addr} {H : Hp} {xs : List V} (h : SqT K (hid p H) a xs) : SqT K H a xs := sqT_mono hid_in h
def prK (q : Kd × PyData) : PyData := .tuple [q.1.d, q.2]
def wsum (ps : List (Kd × PyData)) : Nat := (ps.map fun q => q.2.weight + 1).sum
theorem wsum_app (a b : List (Kd × PyData)) : wsum (a ++ b) = wsum a + wsum b := by simp [wsum]
theorem wsum_len : ∀ a : List (Kd × PyData), a.length ≤ wsum a
  | [] => Nat.zero_le _
  | x :: xs => by
    have := wsum_len xs
    simp only [wsum, List.map_cons, List.sum_cons, List.length_cons] at this ⊢
    omega
theorem wsum_all (k : Kd) : ∀ ds : List PyData, wsum (ds.map fun d => (k, d)) = PyData.weightAll ds
  | [] => by simp [wsum, PyData.weightAll]
  | x :: xs => by
    have := wsum_all k xs
    simp only [wsum, List.map_cons, List.sum_cons, PyData.weightAll] at this ⊢
    omega
theorem kword_ne {k : Kd} (h : ∀ k', k ≠ .lst k') : (!decide (V.str k.word = V.str "list")) = true := by
  cases k with
  | num => decide +kernel
  | tru => decide +kernel
  | rcd z => show (!decide (V.str "record" = V.str "list")) = true; decide +kernel
  | lst k => exact absurd rfl (h k)
section
variable {P : Program} {w : World} {K : PySem.W.Frag} {mg : Str → Option Value} {base : Heap}
abbrev sPIsOfBare : Stmt := topS 4
abbrev NPIsOfBare : List Str := ["kind", "value", "records"]
theorem scPIsOfBare : FnScope NPIsOfBare ["kind", "value", "records"] (fnScope sPIsOfBare) := ⟨rfl, rfl, rfl, by decide +kernel, rfl, by decide +kernel, by decide +kernel⟩
def spBare (K : PySem.W.Frag) : Sp := fun vs H Q _ => ∃ kv k v d a f, vs = [kv, v, .ref a] ∧ Dp K H kv (Kd.d k) ∧ Dp K H v d ∧ vv d = true ∧ d.weight ≤ 100000 ∧ Rx K H a f ∧ (∀ k', k ≠ .lst k') ∧ ∀ H', Same H H' → Q (.bl (isO f k d)) H'
theorem c_isOfBare (T : Tp mg) (c_PIsNumber : Cal P w K mg base 1 "is_number" (spQ K numB) []) {f : Addr} {fd : FuncData} (D : Def K mg "_is_of_bare" sPIsOfBare f fd) (b : Binds K fd ["kind", "value", "records"] []) : Cal P w K mg base 2 "_is_of_bare" (spBare K) [] := by
  refine cal0 D b .nil scPIsOfBare (fun vs H Q E h => ?_) (fun cdv A outer s H vs Q E hr h => ?_)
  · obtain ⟨kv, k, v, d, a, f, rfl, _⟩ := h
    rfl
  · obtain ⟨kv, k, v, d, a, f, rfl, hk, hd, hv, hw, hx, hb, q⟩ := h
    refine ⟨_, (pss_cons (ps_if (pt_cmpR op_eq (pe_ix ix_tup (pv 0) pe_int (fun _ _ => rfl)) pe_str (nomark _))
      (pss_one (ps_ret (pe_c c_PIsNumber hr (by decide) (by rfl) (pa_cons (pv 1) pa_nil))))
      pss_nil)
    (pss_cons (ps_if (pt_cmpR op_eq (pe_ix ix_tup (pv 0) pe_int (fun _ _ => rfl)) pe_str (nomark _))
      (pss_one (ps_ret (pe_callB call_isQ (by rfl) T.n_isinstance (by decide +kernel) (pa_cons (pv 1) (pa_cons (pe_bltn (v := .ty "bool") (by rfl) T.n_bool (by decide +kernel) rfl) pa_nil)))))
      pss_nil)
    (pss_one (ps_ret (pe_and (pe_callB call_isQ (by rfl) T.n_isinstance (by decide +kernel) (pa_cons (pv 1) (pa_cons (pe_bltn (v := .ty "str") (by rfl) T.n_str (by decide +kernel) rfl) pa_nil))) (pe_and (pe_cmp (pc_din (hu_of hr) (pv 1) (pv 2)) rfl) (pe_one (pe_cmpR op_eq (pe_ix ix_tup (pe_dget (hu_of hr) (pv 2) (pv 1) (fun _ _ => rfl)) pe_int (fun _ _ => rfl)) (pe_ix ix_tup (pv 0) pe_int (fun _ _ => rfl)) (nomark _))))))))), ?_⟩
    have q0 := q H (Same.refl H)
    cases k with
    | num =>
      obtain ⟨ka, kxs, rfl, kq, k0⟩ := kd_at hk
      refine ⟨_, rfl, ka, kxs, 0, _, rfl, rfl, kq, atI_nat (j := 0) k0, rfl, _, rfl, iteT' (decide_eq_true rfl) ?_⟩
      exact ⟨_, rfl, v, d, rfl, Dp.q hd, hw, fun H' s => by have := q H' s; rwa [show isO f .num d = numB d from (numB_int hv).symm] at this⟩
    | tru =>
      obtain ⟨ka, kxs, rfl, kq, k0⟩ := kd_at hk
      refine ⟨_, rfl, ka, kxs, 0, _, rfl, rfl, kq, atI_nat (j := 0) k0, rfl, _, rfl, iteF' (decide_eq_false (by decide +kernel)) ?_⟩
      refine ⟨_, rfl, ka, kxs, 0, _, rfl, rfl, kq, atI_nat (j := 0) k0, rfl, _, rfl, iteT' (decide_eq_true rfl) ?_⟩
      exact ⟨_, rfl, v, d, "bool", rfl, Dp.q hd, by decide, q0⟩
    | rcd z =>
      obtain ⟨ka, kxs, rfl, kq, k0, k1⟩ := kd_rcd hk
      refine ⟨_, rfl, ka, kxs, 0, _, rfl, rfl, kq, atI_nat (j := 0) k0, rfl, _, rfl, iteF' (decide_eq_false (by decide +kernel)) ?_⟩
      refine ⟨_, rfl, ka, kxs, 0, _, rfl, rfl, kq, atI_nat (j := 0) k0, rfl, _, rfl, iteF' (decide_eq_false (by decide +kernel)) ?_⟩
      refine ⟨_, rfl, v, d, "str", rfl, Dp.q hd, by decide, _, rfl, ?_⟩
      cases hd with
      | str s =>
        refine iteT ?_
        obtain ⟨kvs, hkv, hz⟩ := hx
        rcases hz s with ⟨h1, h2⟩ | ⟨t, n, p, h1, h2, h3⟩
        · refine ⟨_, rfl, _, rfl, a, _, rfl, DGet.k (k := Sum.inr s) hkv, _, rfl, iteF' (by rw [h1]; rfl) ?_⟩
          have e : isO f (.rcd z) (.str s) = false := by show (f s == some z) = false; rw [h2]; rfl
          rw [e] at q0
          exact q0
        · refine ⟨_, rfl, _, rfl, a, _, rfl, DGet.k (k := Sum.inr s) hkv, _, rfl, iteT' (by rw [h1]; rfl) ?_⟩
          have g := DGet.k (k := (Sum.inr s : Key)) hkv
          rw [h1] at g
          refine ⟨_, rfl, _, rfl, a, _, rfl, g, t, _, 0, .str n, rfl, rfl, h2, atI_nat (j := 0) rfl, _, rfl, ka, kxs, 1, .str z, rfl, rfl, kq, atI_nat (j := 1) k1, rfl, ?_⟩
          have e : isO f (.rcd z) (.str s) = decide (V.str n = V.str z) := by
            show (f s == some z) = _
            rw [h3, Bool.eq_iff_iff, decide_eq_true_eq, beq_iff_eq]
            exact ⟨fun h => by rw [Option.some.inj h], fun h => by rw [V.str.inj h]⟩
          rw [e] at q0
          exact q0
      | _ => exact iteF q0
    | lst k => exact absurd rfl (hb k)
abbrev sPIsOf : Stmt := topS 3
abbrev NPIsOf : List Str := ["kind", "value", "records", "todo", "wanted", "one", "part"]
theorem scPIsOf : FnScope NPIsOf ["kind", "value", "records"] (fnScope sPIsOf) := ⟨rfl, rfl, rfl, by decide +kernel, rfl, by decide +kernel, by decide +kernel⟩
def spIsOf (K : PySem.W.Frag) : Sp := fun vs H Q _ => ∃ kv k v d a f, vs = [kv, v, .ref a] ∧ Dp K H kv (Kd.d k) ∧ Dp K H v d ∧ vv d = true ∧ d.weight ≤ 100000 ∧ Rx K H a f ∧ ∀ H', Same H H' → Q (.bl (isO f k d)) H'
def StO (K : PySem.W.Frag) (H : Hp) (f : Str → Option Str) (kv v : V) (a lt : Addr) (tot : Bool) (m : Nat) (σ : L2.St) (H1 : Hp) : Prop :=
  ∃ (vs : List V) (ps : List (Kd × PyData)) (o4 o5 o6 : Option V), σ = [some kv, some v, some (.ref a), some (.ref lt), o4, o5, o6] ∧ H1 lt = some (.lst vs) ∧ DpAll K (hid lt H1) vs (ps.map prK) ∧ (∀ q ∈ ps, vv q.2 = true) ∧ ps.all (fun q => isO f q.1 q.2) = tot ∧ Same H H1 ∧ wsum ps ≤ 100001 ∧ m = wsum ps
theorem c_isOf (T : Tp mg) (c_PIsOfBare : Cal P w K mg base 2 "_is_of_bare" (spBare K) []) {f : Addr} {fd : FuncData} (D : Def K mg "is_of" sPIsOf f fd) (b : Binds K fd ["kind", "value", "records"] []) : Cal P w K mg base 3 "is_of" (spIsOf K) [] := by
  refine cal0 D b .nil scPIsOf (fun vs H Q E h => ?_) (fun cdv A outer s H vs Q E hr h => ?_)
  · obtain ⟨kv, k, v, d, a, f, rfl, _⟩ := h
    rfl
  · obtain ⟨kv, k, v, d, a, f, rfl, hk, hd, hv, hw, hx, q⟩ := h
    have nd := scPIsOf.nd
    refine ⟨_, (pss_cons (ps_set (i := 3) nd rfl (.inl rfl) (pe_lst (pa_cons (pe_tup (pa_cons (pv 0) (pa_cons (pv 1) pa_nil))) pa_nil)))
    (pss_cons (ps_while PassesOwn.never (pt_truth (pv 3) (by intro _; rfl))
      (pss_cons (ps_asg (pe_bm0 PySem.F.plainAttrs_list PySem.F.slot_list_pop PySem.F.type_list_pop mt_pop (pv 3)) (pg_tup rfl (pgs_cons (pg_name (i := 4) nd rfl (.inr rfl)) (pgs_cons (pg_name (i := 5) nd rfl (.inl rfl)) pgs_nil))))
    (pss_one (ps_if (pt_cmpR op_ne (pe_ix ix_tup (pv 4) pe_int (fun _ _ => rfl)) pe_str (nomark _))
      (pss_one (ps_if (pt_not (pt_val (pe_c c_PIsOfBare hr (by decide) (by rfl) (pa_cons (pv 4) (pa_cons (pv 5) (pa_cons (pv 2) pa_nil))))))
      (pss_one (ps_ret pe_bl))
      pss_nil))
      (pss_one (ps_if (pt_val (pe_callB call_isQ (by rfl) T.n_isinstance (by decide +kernel) (pa_cons (pv 5) (pa_cons (pe_bltn (v := .ty "tuple") (by rfl) T.n_tuple (by decide +kernel) rfl) pa_nil))))
      (pss_one (ps_expr (pe_bm PySem.F.plainAttrs_list PySem.F.slot_list_extend PySem.F.type_list_extend mt_extend (pv 3) (pa_cons (pe_lc (own := [("part", 6)]) (g := gName 6) (by rfl) nd (pi_tup (pv 5)) (blkOk_by (own := [("part", 6)]) (N := NPIsOf) (sc := fnScope sPIsOf) (by decide +kernel)) (fun _ _ _ _ _ => pg_name (i := 6) nd rfl (Or.inl rfl)) (fun _ _ _ _ _ => pts_nil) (fun _ _ _ _ _ => (pe_tup (pa_cons (pe_ix (r := rIxT K) ix_tup (pv 4) pe_int (fun _ _ => rfl)) (pa_cons (pv 6) pa_nil))))) pa_nil))))
      (pss_one (ps_ret pe_bl))))))))
    (pss_one (ps_ret pe_bl)))), ?_⟩
    have line := sizeLine_eq
    refine ⟨_, rfl, _, rfl, (by show 2 ≤ sizeLine; decide), fun t0 ht0 => ⟨(by show 1 ≤ sizeLine; decide), fun lt hlt => ?_⟩⟩
    have s1 := (Same.new (o := .tup [kv, v]) ht0).trans (Same.new (o := .lst [.ref t0]) hlt)
    have hlt0 : H lt = none := (Same.new (o := .tup [kv, v]) ht0).free hlt
    have nt : t0 ≠ lt := fun e => by rw [← e, upd_same] at hlt; cases hlt
    have D0 : Dp K (hid lt (upd (upd H t0 (.tup [kv, v])) lt (.lst [.ref t0]))) (.ref t0) (prK (k, d)) := by
      rw [hid_upd]
      have hs : Same H (hid lt (upd H t0 (.tup [kv, v]))) := fun b o hb => by
        rw [hid_ne (ne_of_none hb hlt0), upd_ne (ne_of_none hb ht0)]
        exact hb
      exact .tup (.inl (.inl (by rw [hid_ne nt, upd_same]))) (.cons (Dp.mono hs hk) (.cons (Dp.mono hs hd) .nil))
    refine ⟨StO K H f kv v a lt (isO f k d), ⟨_, [.ref t0], [(k, d)], none, none, none, rfl, upd_same, .cons D0 .nil, (fun q h => by simp at h; subst h; exact hv), by simp, s1, by simp [wsum]; omega, rfl⟩, ?_⟩
    rintro m σ H1 ⟨vs, ps, o4, o5, o6, rfl, hat, hD, hvv, hall, hS, hle, rfl⟩
    refine ⟨_, rfl, !vs.isEmpty, .inl ⟨vs, SqL.of hat, rfl⟩, ?_⟩
    by_cases hp : ps = []
    · subst hp
      cases hD
      refine iteF ?_
      have q1 := q H1 hS
      rw [← hall] at q1
      exact q1
    · obtain ⟨pi, ⟨k1, d1⟩, rfl⟩ := split_last hp
      rw [List.map_append] at hD
      obtain ⟨us, vx, rfl, hDi, hDx⟩ := dpAll_split hD
      refine iteT' (by simp) ?_
      have hd1 : vv d1 = true := hvv (k1, d1) (by simp)
      have hw1 : wsum (pi ++ [(k1, d1)]) = wsum pi + (d1.weight + 1) := by simp [wsum]
      rw [hw1] at hle
      have hil := wsum_len pi
      have hul : us.length = pi.length := by rw [hDi.len, List.length_map]
      rw [List.all_append] at hall
      simp only [List.all_cons, List.all_nil, Bool.and_true] at hall
      have hvi : ∀ q ∈ pi, vv q.2 = true := fun q h => hvv q (List.mem_append_left _ h)
      refine ⟨fun σ' H' => ∃ m', m' < _ ∧ StO K H f kv v a lt (isO f k d) m' σ' H', fun σ' H' h => h, ?_⟩
      refine ⟨_, rfl, .inl ⟨rfl, _, SqL.of hat⟩, lt, _, vx, rfl, rfl, hat, by simp, ?_⟩
      rw [List.dropLast_concat]
      have hS2 : Same H (upd H1 lt (.lst us)) := fun b o hb => by
        rw [upd_ne (ne_of_none hb hlt0)]
        exact hS b o hb
      have hh : hid lt (upd H1 lt (.lst us)) = hid lt H1 := hid_upd
      rw [← hh] at hDi hDx
      generalize hH2 : upd H1 lt (.lst us) = H2 at *
      have hat2 : H2 lt = some (.lst us) := by rw [← hH2]; exact upd_same
      obtain ⟨ta, x, y, rfl, hq, hx1, hy1⟩ := pair_of hDx
      refine ⟨ta, _, rfl, sqT_in hq, rfl, x, _, rfl, y, _, rfl, rfl, ?_⟩
      have fin : ∀ {H3 : Hp} {o6 : Option V}, Same H2 H3 → isO f k1 d1 = true → ∃ m', m' < wsum (pi ++ [(k1, d1)]) ∧ StO K H f kv v a lt (isO f k d) m' [some kv, some v, some (.ref a), some (.ref lt), some x, some y, o6] H3 := fun s3 e => by
        refine ⟨_, ?_, us, pi, _, _, _, rfl, s3 _ _ hat2, DpAll.mono (hid_same s3) hDi, hvi, ?_, hS2.trans s3, by omega, rfl⟩
        · rw [hw1]; omega
        · rw [← hall, e, Bool.and_true]
      have bad : ∀ {H3 : Hp}, Same H2 H3 → isO f k1 d1 = false → Q (.bl false) H3 := fun {H3} s3 e => by
        have q1 := q H3 (hS2.trans s3)
        rw [← hall, e, Bool.and_false] at q1
        exact q1
      by_cases hkl : ∃ k2, k1 = .lst k2
      · obtain ⟨k2, rfl⟩ := hkl
        obtain ⟨ka, kxs, v1, rfl, kq, k0, k1', Dk⟩ := kd_lst hx1
        refine ⟨_, rfl, ka, kxs, 0, _, rfl, rfl, sqT_in kq, atI_nat (j := 0) k0, rfl, _, rfl, iteF' (by decide +kernel) ?_⟩
        refine ⟨_, rfl, y, d1, "tuple", rfl, Dp.q hy1.un, by decide, _, rfl, ?_⟩
        cases hy1 with
        | @tup b xs ds hqy hay =>
          refine iteT ?_
          have hdv : vvs ds = true := by simpa [vv] using hd1
          have hlen := hay.len
          have hwd : (PyData.tuple ds).weight = PyData.weightAll ds := by simp [PyData.weight]
          have hdl := len_weightAll ds
          refine ⟨_, rfl, .inl ⟨rfl, _, SqL.of hat2⟩, _, rfl, b, rfl, ⟨xs, sqT_in hqy⟩, fun Dl hDl => ?_⟩
          have nDl : Dl ≠ lt := fun e => by rw [e, hat2] at hDl; cases hDl
          refine lc_tup (xs := xs) (fun i H' => ∃ acc, H' Dl = some (.lst acc) ∧ acc.length = i ∧ Same H2 H' ∧ DpAll K (hid lt (hid Dl H')) acc ((ds.take i).map fun d => prK (k2, d))) ⟨[], upd_same, rfl, Same.new hDl, .nil⟩ (fun i H' hi h => ?_) (fun i x' H' hx' hW => ?_) (fun H' hW => ?_)
          · obtain ⟨acc, h1, h2, h3, h4⟩ := h
            exact sqT_mono h3 (sqT_in hqy)
          · obtain ⟨acc, h1, h2, h3, h4⟩ := hW
            obtain ⟨di, hdi, Ddi⟩ := dp_at hay hx'
            have hil2 : i < ds.length := (List.getElem?_eq_some_iff.mp hdi).1
            refine ⟨rfl, ?_⟩
            unfold tYes; dsimp only
            rw [if_pos rfl]
            refine ⟨_, rfl, ka, kxs, 1, v1, rfl, rfl, sqT_mono h3 (sqT_in kq), atI_nat (j := 1) k1', _, rfl, (by show 2 ≤ sizeLine; decide), fun t ht => ?_⟩
            have ntD : t ≠ Dl := fun e => by rw [e, h1] at ht; cases ht
            have ntl : t ≠ lt := fun e => by rw [e, h3 _ _ hat2] at ht; cases ht
            have s4 : Same H' (upd H' t (.tup [v1, x'])) := Same.new ht
            have hn := hid_new (p := lt) (h3.trans s4) hDl
            refine ⟨acc, s4 _ _ h1, by omega, acc ++ [.ref t], upd_same, by rw [List.length_append, h2]; rfl, ?_, ?_⟩
            · intro b' o hb
              rw [upd_ne (ne_of_none hb hDl)]
              exact (h3.trans s4) b' o hb
            · rw [hid_upd, take_succ hdi, List.map_append]
              refine (DpAll.mono (hid_same (hid_same s4)) h4).app (.cons ?_ .nil)
              exact .tup (.inl (.inl (by rw [hid_ne ntl, hid_ne ntD, upd_same]))) (.cons (Dk.mono hn) (.cons (Ddi.mono hn) .nil))
          · obtain ⟨acc, h1, h2, h3, h4⟩ := hW
            rw [List.take_of_length_le (by omega)] at h4
            have hat3 := h3 _ _ hat2
            have hal : acc.length = ds.length := by rw [h4.len, List.length_map]
            have hdle : PyData.weightAll ds ≤ 100000 := by omega
            refine ⟨lt, Dl, us, acc, rfl, rfl, hat3, h1, by omega, ?_⟩
            refine ⟨_, ?_, us ++ acc, pi ++ ds.map (fun d => (k2, d)), _, _, _, rfl, upd_same, ?_, ?_, ?_, ?_, ?_, rfl⟩
            · rw [hw1, wsum_app, wsum_all]; omega
            · rw [hid_upd, List.map_append, List.map_map]
              exact (DpAll.mono (hid_same h3) hDi).app (DpAll.mono (hid_same hid_in) h4)
            · intro q hq
              rcases List.mem_append.mp hq with hq | hq
              · exact hvi q hq
              · obtain ⟨d', hd', rfl⟩ := List.mem_map.mp hq
                exact vv_mem hdv hd'
            · rw [List.all_append, List.all_map, ← hall]
              rfl
            · intro b' o hb
              rw [upd_ne (ne_of_none hb hlt0)]
              exact (hS2.trans h3) b' o hb
            · rw [wsum_app, wsum_all]; omega
        | non => simp [vv] at hd1
        | bl _ => exact iteF (bad (Same.refl _) rfl)
        | int _ => exact iteF (bad (Same.refl _) rfl)
        | str _ => exact iteF (bad (Same.refl _) rfl)
        | lst _ _ => simp [vv] at hd1
      · have hb : ∀ k', k1 ≠ .lst k' := fun k' e => hkl ⟨k', e⟩
        obtain ⟨ka, kxs, rfl, kq, k0⟩ := kd_at hx1
        refine ⟨_, rfl, ka, kxs, 0, _, rfl, rfl, sqT_in kq, atI_nat (j := 0) k0, rfl, _, rfl, iteT' (kword_ne hb) ?_⟩
        refine ⟨_, rfl, _, rfl, _, rfl, _, k1, y, d1, a, f, rfl, hx1.un, hy1.un, hd1, by omega, hx.mono hS2, hb, fun H3 s3 => ⟨_, rfl, ?_⟩⟩
        cases hg : isO f k1 d1 with
        | true => exact iteF (fin s3 hg)
        | false => exact iteT (bad s3 hg)
end
end K14
set_option Elab.async false
set_option linter.all false
set_option maxRecDepth 100000
set_option maxHeartbeats 4000000
namespace K14
open PySem PySem.Spec PyProof.Rows L2
open C8 (Cal Def cal0 pe_c fnBody fnScope fnArgs)
mutual
theorem vv_lay : ∀ {d : PyData}, vv d = true → d.canLay0 = true
  | .none, h => by simp [vv] at h
  | .bool _, _ => rfl
  | .int _, _ => rfl
  | .str z, h => by
    have h' : rfS z = true := by simpa [vv] using h
    simp only [PyData.canLay0, PyData.strOk]
    rw [← Array.all_toList, List.all_eq_true]
    intro c hc
    have := refc_lt (List.all_eq_true.mp h' c hc)
    exact decide_eq_true (by omega)
  | .list _, h => by simp [vv] at h
  | .dict _, h => by simp [vv] at h
  | .tuple xs, h => by
    have := vvs_lay (ds := xs) (by simpa [vv] using h)
    simpa [PyData.canLay0] using this
theorem vvs_lay : ∀ {ds : List PyData}, vvs ds = true → PyData.canLayAll0 ds = true
  | [], _ => rfl
  | x :: xs, h => by
    have h' : vv x = true ∧ vvs xs = true := by simpa [vvs] using h
    simp [PyData.canLayAll0, vv_lay h'.1, vvs_lay h'.2]
end
theorem vv_shaped {d : PyData} (h : vv d = true) (n : d.depth ≤ 64) : SeqAt.shaped d = true := by
  show (d.canLay0 && decide (d.depth ≤ 64)) = true
  rw [vv_lay h, decide_eq_true n]
  rfl
theorem eqv_flat {d e : PyData} (hd : vv d = true) (he : vv e = true) (hb : isB d = isB e) (ht : (isT d && isT e) = false) : PyData.eqv d e = true ↔ d = e := by
  cases d <;> cases e <;> simp [vv] at hd he <;> simp [isB] at hb <;> simp [isT] at ht <;> simp [PyData.eqv]
def prP (q : PyData × PyData) : PyData := .tuple [q.1, q.2]
def wsP (ps : List (PyData × PyData)) : Nat := (ps.map fun q => q.1.weight + 1).sum
theorem wsP_app (a b : List (PyData × PyData)) : wsP (a ++ b) = wsP a + wsP b := by simp [wsP]
theorem wsP_len : ∀ a : List (PyData × PyData), a.length ≤ wsP a
  | [] => Nat.zero_le _
  | x :: xs => by
    have := wsP_len xs
    simp only [wsP, List.map_cons, List.sum_cons, List.length_cons] at this ⊢
    omega
theorem wsP_zip : ∀ (ds es : List PyData), ds.length = es.length → wsP (ds.zip es) = PyData.weightAll ds
  | [], _, _ => by simp [wsP, PyData.weightAll]
  | x :: xs, [], h => by simp at h
  | x :: xs, y :: ys, h => by
    have := wsP_zip xs ys (by simpa using h)
    simp only [wsP, List.zip_cons_cons, List.map_cons, List.sum_cons, PyData.weightAll] at this ⊢
    omega
theorem zip_all : ∀ (ds es : List PyData), ds.length = es.length → ((∀ q ∈ ds.zip es, q.1 = q.2) ↔ ds = es)
  | [], [], _ => by simp
  | [], y :: ys, h => by simp at h
  | x :: xs, [], h => by simp at h
  | x :: xs, y :: ys, h => by
    have ih := zip_all xs ys (by simpa using h)
    simp only [List.zip_cons_cons, List.mem_cons, forall_eq_or_imp, ih, List.cons.injEq]
theorem zip_get {ds es : List PyData} {i : Nat} {d e : PyData} (h1 : ds[i]? = some d) (h2 : es[i]? = some e) : (ds.zip es)[i]? = some (d, e) := by
  rw [List.getElem?_zip_eq_some]
  exact ⟨h1, h2⟩
theorem zip_mem {ds es : List PyData} {q : PyData × PyData} (h : q ∈ ds.zip es) : q.1 ∈ ds ∧ q.2 ∈ es := List.of_mem_zip h
/-- a pair on the pile -/
structure Fit (q : PyData × PyData) : Prop where
  v1 : vv q.1 = true
  v2 : vv q.2 = true
  d1 : q.1.depth ≤ 64
  d2 : q.2.depth ≤ 64
section
variable {P : Program} {w : World} {K : PySem.W.Frag} {mg : Str → Option Value} {base : Heap}
abbrev sPAlikeValues : Stmt := topS 5
abbrev NPAlikeValues : List Str := ["one", "other", "todo", "first", "second", "k"]
theorem scPAlikeValues : FnScope NPAlikeValues ["one", "other"] (fnScope sPAlikeValues) := ⟨rfl, rfl, rfl, by decide +kernel, rfl, by decide +kernel, by decide +kernel⟩
def spAlike (K : PySem.W.Frag) : Sp := fun vs H Q _ => ∃ v d u e, vs = [v, u] ∧ Dp K H v d ∧ Dp K H u e ∧ Fit (d, e) ∧ d.weight ≤ 100000 ∧ ∀ H', Same H H' → Q (.bl (decide (d.shown = e.shown))) H'
def StA (K : PySem.W.Frag) (H : Hp) (v u : V) (lt : Addr) (tot : Prop) (m : Nat) (σ : L2.St) (H1 : Hp) : Prop :=
  ∃ (vs : List V) (ps : List (PyData × PyData)) (o3 o4 o5 : Option V), σ = [some v, some u, some (.ref lt), o3, o4, o5] ∧ H1 lt = some (.lst vs) ∧ DpAll K (hid lt H1) vs (ps.map prP) ∧ (∀ q ∈ ps, Fit q) ∧ ((∀ q ∈ ps, q.1 = q.2) ↔ tot) ∧ Same H H1 ∧ wsP ps ≤ 100001 ∧ m = wsP ps
theorem c_alike (T : Tp mg) {f : Addr} {fd : FuncData} (D : Def K mg "alike_values" sPAlikeValues f fd) (b : Binds K fd ["one", "other"] []) : Cal P w K mg base 1 "alike_values" (spAlike K) [] := by
  refine cal0 D b .nil scPAlikeValues (fun vs H Q E h => ?_) (fun cdv A outer s H vs Q E hr h => ?_)
  · obtain ⟨v, d, u, e, rfl, _⟩ := h
    rfl
  · obtain ⟨v, d, u, e, rfl, hd, he, hf, hw, q⟩ := h
    have nd := scPAlikeValues.nd
    refine ⟨_, (pss_cons (ps_set (i := 2) nd rfl (.inl rfl) (pe_lst (pa_cons (pe_tup (pa_cons (pv 0) (pa_cons (pv 1) pa_nil))) pa_nil)))
    (pss_cons (ps_while PassesOwn.never (pt_truth (pv 2) (by intro _; rfl))
      (pss_cons (ps_asg (pe_bm0 PySem.F.plainAttrs_list PySem.F.slot_list_pop PySem.F.type_list_pop mt_pop (pv 2)) (pg_tup rfl (pgs_cons (pg_name (i := 3) nd rfl (.inr rfl)) (pgs_cons (pg_name (i := 4) nd rfl (.inr rfl)) pgs_nil))))
    (pss_one (ps_if (PW.pt (pw_and (pt_val (pe_callB call_isQ (by rfl) T.n_isinstance (by decide +kernel) (pa_cons (pv 3) (pa_cons (pe_bltn (v := .ty "tuple") (by rfl) T.n_tuple (by decide +kernel) rfl) pa_nil)))) (pw_and1 (pt_val (pe_callB call_isQ (by rfl) T.n_isinstance (by decide +kernel) (pa_cons (pv 4) (pa_cons (pe_bltn (v := .ty "tuple") (by rfl) T.n_tuple (by decide +kernel) rfl) pa_nil)))))))
      (pss_cons (ps_if (pt_cmpR op_ne (pe_callB call_len_seq (by rfl) T.n_len (by decide +kernel) (pa_cons (pv 3) pa_nil)) (pe_callB call_len_seq (by rfl) T.n_len (by decide +kernel) (pa_cons (pv 4) pa_nil)) (nomark _))
      (pss_one (ps_ret pe_bl))
      pss_nil)
    (pss_one (ps_expr (pe_bm PySem.F.plainAttrs_list PySem.F.slot_list_extend PySem.F.type_list_extend mt_extend (pv 2) (pa_cons (pe_lc (own := [("k", 5)]) (g := gName 5) (by rfl) nd (pi_range1 (by rfl) T.n_range (pa_cons (pe_callB call_len_seq (by rfl) T.n_len (by decide +kernel) (pa_cons (pv 3) pa_nil)) pa_nil)) (blkOk_by (own := [("k", 5)]) (N := NPAlikeValues) (sc := fnScope sPAlikeValues) (by decide +kernel)) (fun _ _ _ _ _ => pg_name (i := 5) nd rfl (Or.inl rfl)) (fun _ _ _ _ _ => pts_nil) (fun _ _ _ _ _ => (pe_tup (pa_cons (pe_ix (r := rIxT K) ix_tup (pv 3) (pv 5) (fun _ _ => rfl)) (pa_cons (pe_ix (r := rIxT K) ix_tup (pv 4) (pv 5) (fun _ _ => rfl)) pa_nil))))) pa_nil)))))
      (pss_one (ps_if (PW.pt (pw_or (pt_cmpR op_ne (pe_callB call_isQ (by rfl) T.n_isinstance (by decide +kernel) (pa_cons (pv 3) (pa_cons (pe_bltn (v := .ty "bool") (by rfl) T.n_bool (by decide +kernel) rfl) pa_nil))) (pe_callB call_isQ (by rfl) T.n_isinstance (by decide +kernel) (pa_cons (pv 4) (pa_cons (pe_bltn (v := .ty "bool") (by rfl) T.n_bool (by decide +kernel) rfl) pa_nil))) (nomark _)) (pw_or1 (pt_cmpR (op_neD hr.units) (pv 3) (pv 4) (nomark _)))))
      (pss_one (ps_ret pe_bl))
      pss_nil))))))
    (pss_one (ps_ret pe_bl)))), ?_⟩
    have line := sizeLine_eq
    have tot := shown_eq hf.v1 hf.v2
    refine ⟨_, rfl, _, rfl, (by show 2 ≤ sizeLine; decide), fun t0 ht0 => ⟨(by show 1 ≤ sizeLine; decide), fun lt hlt => ?_⟩⟩
    have s1 := (Same.new (o := .tup [v, u]) ht0).trans (Same.new (o := .lst [.ref t0]) hlt)
    have hlt0 : H lt = none := (Same.new (o := .tup [v, u]) ht0).free hlt
    have nt : t0 ≠ lt := fun e => by rw [← e, upd_same] at hlt; cases hlt
    have D0 : Dp K (hid lt (upd (upd H t0 (.tup [v, u])) lt (.lst [.ref t0]))) (.ref t0) (prP (d, e)) := by
      rw [hid_upd]
      have hs : Same H (hid lt (upd H t0 (.tup [v, u]))) := fun b o hb => by
        rw [hid_ne (ne_of_none hb hlt0), upd_ne (ne_of_none hb ht0)]
        exact hb
      exact .tup (.inl (.inl (by rw [hid_ne nt, upd_same]))) (.cons (Dp.mono hs hd) (.cons (Dp.mono hs he) .nil))
    refine ⟨StA K H v u lt (d = e), ⟨_, [.ref t0], [(d, e)], none, none, none, rfl, upd_same, .cons D0 .nil, (fun q h => by simp at h; subst h; exact hf), by simp, s1, by simp [wsP]; omega, rfl⟩, ?_⟩
    rintro m σ H1 ⟨vs, ps, o3, o4, o5, rfl, hat, hD, hvv, hall, hS, hle, rfl⟩
    refine ⟨_, rfl, !vs.isEmpty, .inl ⟨vs, SqL.of hat, rfl⟩, ?_⟩
    by_cases hp : ps = []
    · subst hp
      cases hD
      refine iteF ?_
      have q1 := q H1 hS
      rw [decide_eq_true (tot.mpr (hall.mp (fun q h => nomatch h)))] at q1
      exact q1
    · obtain ⟨pi, ⟨d1, e1⟩, rfl⟩ := split_last hp
      rw [List.map_append] at hD
      obtain ⟨us, vx, rfl, hDi, hDx⟩ := dpAll_split hD
      refine iteT' (by simp) ?_
      have hf1 : Fit (d1, e1) := hvv (d1, e1) (by simp)
      have hw1 : wsP (pi ++ [(d1, e1)]) = wsP pi + (d1.weight + 1) := by simp [wsP]
      rw [hw1] at hle
      have hil := wsP_len pi
      have hul : us.length = pi.length := by rw [hDi.len, List.length_map]
      have hall' : ((∀ q ∈ pi, q.1 = q.2) ∧ d1 = e1) ↔ d = e := by
        rw [← hall]
        constructor
        · rintro ⟨a, b⟩ q hq
          rcases List.mem_append.mp hq with hq | hq
          · exact a q hq
          · simp at hq; subst hq; exact b
        · intro h
          exact ⟨fun q hq => h q (List.mem_append_left _ hq), h (d1, e1) (by simp)⟩
      have hvi : ∀ q ∈ pi, Fit q := fun q h => hvv q (List.mem_append_left _ h)
      refine ⟨fun σ' H' => ∃ m', m' < _ ∧ StA K H v u lt (d = e) m' σ' H', fun σ' H' h => h, ?_⟩
      refine ⟨_, rfl, .inl ⟨rfl, _, SqL.of hat⟩, lt, _, vx, rfl, rfl, hat, by simp, ?_⟩
      rw [List.dropLast_concat]
      have hS2 : Same H (upd H1 lt (.lst us)) := fun b o hb => by
        rw [upd_ne (ne_of_none hb hlt0)]
        exact hS b o hb
      have hh : hid lt (upd H1 lt (.lst us)) = hid lt H1 := hid_upd
      rw [← hh] at hDi hDx
      generalize hH2 : upd H1 lt (.lst us) = H2 at *
      have hat2 : H2 lt = some (.lst us) := by rw [← hH2]; exact upd_same
      obtain ⟨ta, x, y, rfl, hq, hx1, hy1⟩ := pair_of hDx
      refine ⟨ta, _, rfl, sqT_in hq, rfl, x, _, rfl, y, _, rfl, rfl, ?_⟩
      have fin : d1 = e1 → ∃ m', m' < wsP (pi ++ [(d1, e1)]) ∧ StA K H v u lt (d = e) m' [some v, some u, some (.ref lt), some x, some y, o5] H2 := fun e => by
        refine ⟨_, ?_, us, pi, _, _, _, rfl, hat2, hDi, hvi, ?_, hS2, by omega, rfl⟩
        · rw [hw1]; omega
        · rw [← hall']; exact ⟨fun h => ⟨h, e⟩, fun h => h.1⟩
      have bad : d1 ≠ e1 → Q (.bl false) H2 := fun n => by
        have q1 := q H2 hS2
        rw [decide_eq_false (fun h => n (hall'.mpr (tot.mp h)).2)] at q1
        exact q1
      refine ⟨_, rfl, x, d1, "tuple", rfl, Dp.q hx1.un, by decide, _, rfl, ite2 (fun h1 => ⟨_, rfl, y, e1, "tuple", rfl, Dp.q hy1.un, by decide, _, rfl, ite2 (fun h2 => ?_) (fun h2 => ?_)⟩) (fun h1 => iteF ?_)⟩
      · have hd1 := hf1.v1
        have he1 := hf1.v2
        have hdd := hf1.d1
        have hde := hf1.d2
        cases hx1 with
        | @tup ax xs ds hqx hax =>
          cases hy1 with
          | @tup ay ys es hqy hay =>
            have hdv : vvs ds = true := by simpa [vv] using hd1
            have hev : vvs es = true := by simpa [vv] using he1
            have hdl := hax.len
            have hel := hay.len
            have hwd : (PyData.tuple ds).weight = PyData.weightAll ds := by simp [PyData.weight]
            have hdl2 := len_weightAll ds
            refine ⟨_, rfl, ax, xs, rfl, .inr (sqT_in hqx), _, rfl, ay, ys, rfl, .inr (sqT_in hqy), rfl, _, rfl, ite2 (fun n => ?_) (fun n => ?_)⟩
            · refine bad fun e => ?_
              injection e with e
              subst e
              rw [eq_int (by omega)] at n
              cases n
            · have hlen : ds.length = es.length := by
                by_cases hz : xs.length = ys.length
                · omega
                · exact absurd (ne_int hz) n
              refine ⟨_, rfl, .inl ⟨rfl, _, SqL.of hat2⟩, _, rfl, ax, xs, rfl, .inr (sqT_in hqx), _, rfl, by omega, by omega, fun Dl hDl => ?_⟩
              have nDl : Dl ≠ lt := fun e => by rw [e, hat2] at hDl; cases hDl
              refine lc_range (lo := 0) (n := ((xs.length : Nat) : Int).toNat) (fun i H' => ∃ acc, H' Dl = some (.lst acc) ∧ acc.length = i ∧ Same H2 H' ∧ DpAll K (hid lt (hid Dl H')) acc (((ds.zip es).take i).map prP)) ⟨[], upd_same, rfl, Same.new hDl, .nil⟩ (fun i H' hi hW => ?_) (fun H' hW => ?_)
              · obtain ⟨acc, h1, h2, h3, h4⟩ := hW
                have hi' : i < xs.length := by simpa using hi
                obtain ⟨di, hdi, Ddi⟩ := dp_at hax (List.getElem?_eq_getElem hi')
                obtain ⟨ei, hei, Dei⟩ := dp_at hay (List.getElem?_eq_getElem (show i < ys.length by omega))
                refine ⟨rfl, ?_⟩
                unfold tYes; dsimp only
                rw [if_pos rfl]
                have e0 : (0 : Int) + (i : Int) = (i : Int) := Int.zero_add _
                refine ⟨_, rfl, _, rfl, ax, xs, _, xs[i], rfl, rfl, sqT_mono h3 (sqT_in hqx), by rw [e0]; exact atI_nat (List.getElem?_eq_getElem hi'), _, rfl, _, rfl, ay, ys, _, ys[i]'(by omega), rfl, rfl, sqT_mono h3 (sqT_in hqy), by rw [e0]; exact atI_nat (List.getElem?_eq_getElem _), (by show 2 ≤ sizeLine; decide), fun t ht => ?_⟩
                have ntD : t ≠ Dl := fun e => by rw [e, h1] at ht; cases ht
                have ntl : t ≠ lt := fun e => by rw [e, h3 _ _ hat2] at ht; cases ht
                have s4 : Same H' (upd H' t (.tup [xs[i], ys[i]'(by omega)])) := Same.new ht
                have hn := hid_new (p := lt) (h3.trans s4) hDl
                refine ⟨acc, s4 _ _ h1, by omega, acc ++ [.ref t], upd_same, by rw [List.length_append, h2]; rfl, ?_, ?_⟩
                · intro b' o hb
                  rw [upd_ne (ne_of_none hb hDl)]
                  exact (h3.trans s4) b' o hb
                · rw [hid_upd, take_succ (zip_get hdi hei), List.map_append]
                  refine (DpAll.mono (hid_same (hid_same s4)) h4).app (.cons ?_ .nil)
                  exact .tup (.inl (.inl (by rw [hid_ne ntl, hid_ne ntD, upd_same]))) (.cons (Ddi.mono hn) (.cons (Dei.mono hn) .nil))
              · obtain ⟨acc, h1, h2, h3, h4⟩ := hW
                have hzl : (ds.zip es).length = ds.length := by rw [List.length_zip, ← hlen]; omega
                rw [List.take_of_length_le (by rw [hzl]; simp; omega)] at h4
                have hat3 := h3 _ _ hat2
                have hal : acc.length = ds.length := by rw [h4.len, List.length_map, hzl]
                refine ⟨lt, Dl, us, acc, rfl, rfl, hat3, h1, by omega, ?_⟩
                refine ⟨_, ?_, us ++ acc, pi ++ ds.zip es, _, _, _, rfl, upd_same, ?_, ?_, ?_, ?_, ?_, rfl⟩
                · rw [hw1, wsP_app, wsP_zip _ _ hlen]; omega
                · rw [hid_upd, List.map_append]
                  exact (DpAll.mono (hid_same h3) hDi).app (DpAll.mono (hid_same hid_in) h4)
                · intro q hq
                  rcases List.mem_append.mp hq with hq | hq
                  · exact hvi q hq
                  · obtain ⟨m1, m2⟩ := zip_mem hq
                    have p1 := depth_mem m1
                    have p2 := depth_mem m2
                    rw [PyData.depth] at hdd hde
                    exact ⟨vv_mem hdv m1, vv_mem hev m2, by omega, by omega⟩
                · rw [← hall']
                  constructor
                  · intro h
                    refine ⟨fun q hq => h q (List.mem_append_left _ hq), ?_⟩
                    rw [(zip_all ds es hlen).mp (fun q hq => h q (List.mem_append_right _ hq))]
                  · rintro ⟨h, e⟩ q hq
                    injection e with e
                    rcases List.mem_append.mp hq with hq | hq
                    · exact h q hq
                    · exact (zip_all ds es hlen).mpr e q hq
                · intro b' o hb
                  rw [upd_ne (ne_of_none hb hlt0)]
                  exact (hS2.trans h3) b' o hb
                · rw [wsP_app, wsP_zip _ _ hlen]; omega
          | _ => exact Bool.noConfusion (show false = true from h2)
        | _ => exact Bool.noConfusion (show false = true from h1)
      all_goals
        have ht : (isT d1 && isT e1) = false := by
          have a1 : isOfQ "tuple" d1 = isT d1 := rfl
          have a2 : isOfQ "tuple" e1 = isT e1 := rfl
          first
          | (rw [← a2, eq_false_of_ne_true h2, Bool.and_false])
          | (rw [← a1, eq_false_of_ne_true h1, Bool.false_and])
        refine ⟨_, rfl, x, d1, "bool", rfl, Dp.q hx1.un, by decide, _, rfl, y, e1, "bool", rfl, Dp.q hy1.un, by decide, rfl, _, rfl, ite2 (fun n => iteT (bad fun e => ?_)) (fun n => ?_)⟩
        · subst e
          rw [decide_eq_true rfl] at n
          cases n
        · have hbb : isB d1 = isB e1 := by
            by_cases hz : isB d1 = isB e1
            · exact hz
            · refine absurd ?_ n
              have : decide (V.bl (isOfQ "bool" d1) = V.bl (isOfQ "bool" e1)) = false := decide_eq_false (fun e => hz (V.bl.inj e))
              rw [this]
              rfl
          have key := eqv_flat hf1.v1 hf1.v2 hbb ht
          refine ⟨_, rfl, _, rfl, d1, e1, hx1.un, hy1.un, vv_shaped hf1.v1 hf1.d1, vv_shaped hf1.v2 hf1.d2, _, rfl, ?_⟩
          cases hg : PyData.eqv d1 e1 with
          | true => exact iteF (fin (key.mp hg))
          | false => exact iteT (bad fun e => by rw [key.mpr e] at hg; cases hg)
end
end K14
set_option Elab.async false
set_option linter.all false
set_option maxRecDepth 100000
set_option maxHeartbeats 4000000
namespace K14
open PySem PySem.Spec PyProof.Rows L2
open C8 (Cal Def cal0 pe_c fnBody fnScope fnArgs)
section
variable {P : Program} {w : World} {K : PySem.W.Frag} {mg : Str → Option Value} {base : Heap}
abbrev sLIsOf : Stmt := topS 16
abbrev NLIsOf : List Str := ["_law_kind_here", "_law_value_here", "_law_records_here", "_law_part"]
theorem scLIsOf : FnScope NLIsOf ["_law_kind_here", "_law_value_here", "_law_records_here"] (fnScope sLIsOf) := ⟨rfl, rfl, rfl, by decide +kernel, rfl, by decide +kernel, by decide +kernel⟩
def spLIsOf (K : PySem.W.Frag) (n : Nat) : Sp := fun vs H Q _ => ∃ kv k v d a f, vs = [kv, v, .ref a] ∧ Kd.deep k < n ∧ Dp K H kv (Kd.d k) ∧ Dp K H v d ∧ vv d = true ∧ d.weight ≤ 100000 ∧ Rx K H a f ∧ ∀ H', Same H H' → Q (.bl (isO f k d)) H'
theorem c_lisOf (T : Tp mg) {f : Addr} {fd : FuncData} (D : Def K mg "_law_is_of" sLIsOf f fd) (b : Binds K fd ["_law_kind_here", "_law_value_here", "_law_records_here"] []) :
    ∀ n : Nat, Cal P w K mg base (1 + n) "_law_is_of" (spLIsOf K n) []
  | 0 => cal_no _ (fun vs H Q E ⟨kv, k, v, d, a, f, _, h, _⟩ => absurd h (Nat.not_lt_zero _)) D b
  | n + 1 => by
    have c_LIsOf := c_lisOf T D b n
    refine cal0 D b .nil scLIsOf (fun vs H Q E h => ?_) (fun cdv A outer s H vs Q E hr h => ?_)
    · obtain ⟨kv, k, v, d, a, f, rfl, _⟩ := h
      rfl
    · obtain ⟨kv, k, v, d, a, f, rfl, hkn, hk, hd, hv, hw, hx, q⟩ := h
      have nd := scLIsOf.nd
      have hr := (show Room (1 + n) _ from hr)
      refine ⟨_, (pss_cons (ps_if (pt_cmpR op_eq (pe_ix ix_tup (pv 0) pe_int (fun _ _ => rfl)) pe_str (nomark _))
      (pss_cons (ps_if (pt_not (pt_val (pe_callB call_isQ (by rfl) T.n_isinstance (by decide +kernel) (pa_cons (pv 1) (pa_cons (pe_bltn (v := .ty "tuple") (by rfl) T.n_tuple (by decide +kernel) rfl) pa_nil)))))
      (pss_one (ps_ret pe_bl))
      pss_nil)
    (pss_one (ps_ret (pe_cmpR (op_eqNil hr.units) (pe_lc (own := [("_law_part", 3)]) (g := gName 3) (by rfl) nd (pi_tup (pv 1)) (blkOk_by (own := [("_law_part", 3)]) (N := NLIsOf) (sc := fnScope sLIsOf) (by decide +kernel)) (fun _ _ _ _ _ => pg_name (i := 3) nd rfl (Or.inl rfl)) (fun _ _ _ _ _ => (pts_one (pt_not (pt_val (pe_c c_LIsOf hr (Nat.le_refl _) (by rfl) (pa_cons (pe_ix (r := rIxT K) ix_tup (pv 0) pe_int (fun _ _ => rfl)) (pa_cons (pv 3) (pa_cons (pv 2) pa_nil)))))))) (fun _ _ _ _ _ => (pv 3))) (pe_lst pa_nil) (nomark _)))))
      pss_nil)
    (pss_cons (ps_if (pt_val (pe_callB call_isQ (by rfl) T.n_isinstance (by decide +kernel) (pa_cons (pv 1) (pa_cons (pe_bltn (v := .ty "tuple") (by rfl) T.n_tuple (by decide +kernel) rfl) pa_nil))))
      (pss_one (ps_ret pe_bl))
      pss_nil)
    (pss_cons (ps_if (pt_cmpR op_eq (pe_ix ix_tup (pv 0) pe_int (fun _ _ => rfl)) pe_str (nomark _))
      (pss_one (ps_ret (pe_callB call_isQ (by rfl) T.n_isinstance (by decide +kernel) (pa_cons (pv 1) (pa_cons (pe_bltn (v := .ty "bool") (by rfl) T.n_bool (by decide +kernel) rfl) pa_nil)))))
      pss_nil)
    (pss_cons (ps_if (pt_cmpR op_eq (pe_ix ix_tup (pv 0) pe_int (fun _ _ => rfl)) pe_str (nomark _))
      (pss_one (ps_ret (pe_and (pe_callB call_isQ (by rfl) T.n_isinstance (by decide +kernel) (pa_cons (pv 1) (pa_cons (pe_bltn (v := .ty "int") (by rfl) T.n_int (by decide +kernel) rfl) pa_nil))) (pe_one (pe_not (pe_callB call_isQ (by rfl) T.n_isinstance (by decide +kernel) (pa_cons (pv 1) (pa_cons (pe_bltn (v := .ty "bool") (by rfl) T.n_bool (by decide +kernel) rfl) pa_nil))))))))
      pss_nil)
    (pss_one (ps_ret (pe_and (pe_callB call_isQ (by rfl) T.n_isinstance (by decide +kernel) (pa_cons (pv 1) (pa_cons (pe_bltn (v := .ty "str") (by rfl) T.n_str (by decide +kernel) rfl) pa_nil))) (pe_and (pe_cmp (pc_din (hu_of hr) (pv 1) (pv 2)) rfl) (pe_one (pe_cmpR op_eq (pe_ix ix_tup (pe_dget (hu_of hr) (pv 2) (pv 1) (fun _ _ => rfl)) pe_int (fun _ _ => rfl)) (pe_ix ix_tup (pv 0) pe_int (fun _ _ => rfl)) (nomark _))))))))))), ?_⟩
      have line := sizeLine_eq
      have q0 := q H (Same.refl H)
      by_cases hkl : ∃ k2, k = .lst k2
      · obtain ⟨k2, rfl⟩ := hkl
        obtain ⟨ka, kxs, v1, rfl, kq, k0, k1', Dk⟩ := kd_lst hk
        have hk2 : k2.deep < n := by have : k2.deep + 1 < n + 1 := hkn; omega
        refine ⟨_, rfl, ka, kxs, 0, _, rfl, rfl, kq, atI_nat (j := 0) k0, rfl, _, rfl, iteT' (decide_eq_true rfl) ?_⟩
        refine ⟨_, rfl, v, d, "tuple", rfl, Dp.q hd, by decide, _, rfl, ?_⟩
        cases hd with
        | @tup b xs ds hqy hay =>
          refine iteF ?_
          have hdv : vvs ds = true := by simpa [vv] using hv
          have hlen := hay.len
          have hwd : (PyData.tuple ds).weight = PyData.weightAll ds := by simp [PyData.weight]
          have hdl := len_weightAll ds
          refine ⟨_, rfl, b, rfl, ⟨xs, hqy⟩, fun Dl hDl => ?_⟩
          refine lc_tup (xs := xs) (fun i H' => Same H H' ∧ ∃ acc, H' Dl = some (.lst acc) ∧ acc.length ≤ i ∧ acc.isEmpty = (ds.take i).all (isO f k2)) ⟨Same.new hDl, [], upd_same, Nat.le_refl _, by simp⟩ (fun i H' hi h => sqT_mono h.1 hqy) (fun i x H' hx1 hW => ?_) (fun H' hW => ?_)
          · obtain ⟨sm, acc, hat, hal, hae⟩ := hW
            obtain ⟨d2, hd2, Dd⟩ := dp_at hay hx1
            have hm := List.mem_of_getElem? hd2
            have h1 := weight_mem hm
            have hil : i < ds.length := (List.getElem?_eq_some_iff.mp hd2).1
            have et : (ds.take (i + 1)).all (isO f k2) = ((ds.take i).all (isO f k2) && isO f k2 d2) := by rw [take_succ hd2, List.all_append]; simp
            refine ⟨rfl, _, rfl, ka, kxs, 1, v1, rfl, rfl, sqT_mono sm kq, atI_nat (j := 1) k1', _, rfl, _, rfl, v1, k2, x, d2, a, f, rfl, hk2, Dk.mono sm, Dd.mono sm, vv_mem hdv hm, by omega, hx.mono sm, fun H3 s3 => ⟨_, rfl, ?_⟩⟩
            cases hg : isO f k2 d2 with
            | true =>
              refine iteF ?_
              exact ⟨sm.trans s3, acc, s3 _ _ hat, by omega, by rw [et, hg, Bool.and_true]; exact hae⟩
            | false =>
              refine iteT ?_
              refine ⟨_, rfl, acc, s3 _ _ hat, by omega, fun b o hb => ?_, acc ++ [x], upd_same, by rw [List.length_append, List.length_singleton]; omega, ?_⟩
              · rw [upd_ne (ne_of_none hb hDl)]
                exact s3 _ _ (sm b o hb)
              · rw [et, hg, Bool.and_false]
                cases acc <;> rfl
          · obtain ⟨sm, acc, hat, hal, hae⟩ := hW
            rw [List.take_of_length_le (by omega)] at hae
            refine ⟨(by show 0 ≤ sizeLine; decide), fun l2 hl2 => ⟨Dl, l2, acc, rfl, rfl, SqL.of ((Same.new hl2) _ _ hat), SqL.of upd_same, ?_⟩⟩
            have q1 := q _ (sm.trans (Same.new (o := .lst []) hl2))
            rw [show isO f (.lst k2) (.tuple ds) = ds.all (isO f k2) from rfl, ← hae] at q1
            exact q1
        | non => simp [vv] at hv
        | bl _ => exact iteT q0
        | int _ => exact iteT q0
        | str _ => exact iteT q0
        | lst _ _ => simp [vv] at hv
      · have hb : ∀ k', k ≠ .lst k' := fun k' e => hkl ⟨k', e⟩
        have wn : ∀ {wd : Str}, k.word = wd → wd ≠ "list" := fun {wd} e h => by
          have := kword_ne hb
          rw [e, h, decide_eq_true rfl] at this
          cases this
        obtain ⟨ka, kxs, rfl, kq, k0⟩ := kd_at hk
        refine ⟨_, rfl, ka, kxs, 0, _, rfl, rfl, kq, atI_nat (j := 0) k0, rfl, _, rfl, iteF' (decide_eq_false (fun e => wn rfl (V.str.inj e))) ?_⟩
        refine ⟨_, rfl, v, d, "tuple", rfl, Dp.q hd, by decide, _, rfl, ?_⟩
        cases k with
        | lst k => exact absurd rfl (hb k)
        | num =>
          have e : ∀ d, isO f .num d = intB d := fun _ => rfl
          rw [e] at q0
          cases hd with
          | tup _ _ => exact iteT q0
          | non => simp [vv] at hv
          | lst _ _ => simp [vv] at hv
          | str z =>
            refine iteF ⟨_, rfl, ka, kxs, 0, _, rfl, rfl, kq, atI_nat (j := 0) k0, rfl, _, rfl, iteF' (decide_eq_false (by decide +kernel)) ?_⟩
            refine ⟨_, rfl, ka, kxs, 0, _, rfl, rfl, kq, atI_nat (j := 0) k0, rfl, _, rfl, iteT' (decide_eq_true rfl) ?_⟩
            exact ⟨_, rfl, _, _, "int", rfl, .str z, by decide, _, rfl, iteF q0⟩
          | bl b =>
            refine iteF ⟨_, rfl, ka, kxs, 0, _, rfl, rfl, kq, atI_nat (j := 0) k0, rfl, _, rfl, iteF' (decide_eq_false (by decide +kernel)) ?_⟩
            refine ⟨_, rfl, ka, kxs, 0, _, rfl, rfl, kq, atI_nat (j := 0) k0, rfl, _, rfl, iteT' (decide_eq_true rfl) ?_⟩
            exact ⟨_, rfl, _, _, "int", rfl, .bl b, by decide, _, rfl, iteT ⟨_, rfl, _, _, "bool", rfl, .bl b, by decide, _, rfl, q0⟩⟩
          | int i =>
            refine iteF ⟨_, rfl, ka, kxs, 0, _, rfl, rfl, kq, atI_nat (j := 0) k0, rfl, _, rfl, iteF' (decide_eq_false (by decide +kernel)) ?_⟩
            refine ⟨_, rfl, ka, kxs, 0, _, rfl, rfl, kq, atI_nat (j := 0) k0, rfl, _, rfl, iteT' (decide_eq_true rfl) ?_⟩
            exact ⟨_, rfl, _, _, "int", rfl, .int i, by decide, _, rfl, iteT ⟨_, rfl, _, _, "bool", rfl, .int i, by decide, _, rfl, q0⟩⟩
        | tru =>
          have e : ∀ d, isO f .tru d = isB d := fun _ => rfl
          rw [e] at q0
          have tail : isT d = false → _ := fun (ht : isT d = false) => (show Q (.bl (isB d)) H from q0)
          refine ite2 (fun h => ?_) (fun h => ?_)
          · have : isB d = false := by
              cases d <;> first | rfl | exact Bool.noConfusion (show false = true from h)
            rw [this] at q0
            exact q0
          · refine ⟨_, rfl, ka, kxs, 0, _, rfl, rfl, kq, atI_nat (j := 0) k0, rfl, _, rfl, iteT' (decide_eq_true rfl) ?_⟩
            exact ⟨_, rfl, v, d, "bool", rfl, Dp.q hd, by decide, q0⟩
        | rcd z =>
          have rt : V.str (Kd.rcd z).word ≠ V.str "truth" := by show V.str "record" ≠ V.str "truth"; decide +kernel
          have rn : V.str (Kd.rcd z).word ≠ V.str "number" := by show V.str "record" ≠ V.str "number"; decide +kernel
          obtain ⟨ka', kxs', e1, kq', k0', k1'⟩ := kd_rcd hk
          cases e1
          cases hd with
          | tup _ _ => exact iteT q0
          | non => simp [vv] at hv
          | lst _ _ => simp [vv] at hv
          | bl b =>
            refine iteF ⟨_, rfl, ka, kxs, 0, _, rfl, rfl, kq, atI_nat (j := 0) k0, rfl, _, rfl, iteF' (decide_eq_false rt) ?_⟩
            refine ⟨_, rfl, ka, kxs, 0, _, rfl, rfl, kq, atI_nat (j := 0) k0, rfl, _, rfl, iteF' (decide_eq_false rn) ?_⟩
            exact ⟨_, rfl, _, _, "str", rfl, .bl b, by decide, _, rfl, iteF q0⟩
          | int i =>
            refine iteF ⟨_, rfl, ka, kxs, 0, _, rfl, rfl, kq, atI_nat (j := 0) k0, rfl, _, rfl, iteF' (decide_eq_false rt) ?_⟩
            refine ⟨_, rfl, ka, kxs, 0, _, rfl, rfl, kq, atI_nat (j := 0) k0, rfl, _, rfl, iteF' (decide_eq_false rn) ?_⟩
            exact ⟨_, rfl, _, _, "str", rfl, .int i, by decide, _, rfl, iteF q0⟩
          | str s =>
            refine iteF ⟨_, rfl, ka, kxs, 0, _, rfl, rfl, kq, atI_nat (j := 0) k0, rfl, _, rfl, iteF' (decide_eq_false rt) ?_⟩
            refine ⟨_, rfl, ka, kxs, 0, _, rfl, rfl, kq, atI_nat (j := 0) k0, rfl, _, rfl, iteF' (decide_eq_false rn) ?_⟩
            refine ⟨_, rfl, _, _, "str", rfl, .str s, by decide, _, rfl, iteT ?_⟩
            obtain ⟨kvs, hkv, hz⟩ := hx
            rcases hz s with ⟨h1, h2⟩ | ⟨t, n, p, h1, h2, h3⟩
            · refine ⟨_, rfl, _, rfl, a, _, rfl, DGet.k (k := Sum.inr s) hkv, _, rfl, iteF' (by rw [h1]; rfl) ?_⟩
              have e : isO f (.rcd z) (.str s) = false := by show (f s == some z) = false; rw [h2]; rfl
              rw [e] at q0
              exact q0
            · refine ⟨_, rfl, _, rfl, a, _, rfl, DGet.k (k := Sum.inr s) hkv, _, rfl, iteT' (by rw [h1]; rfl) ?_⟩
              have g := DGet.k (k := (Sum.inr s : Key)) hkv
              rw [h1] at g
              refine ⟨_, rfl, _, rfl, a, _, rfl, g, t, _, 0, .str n, rfl, rfl, h2, atI_nat (j := 0) rfl, _, rfl, ka, kxs', 1, .str z, rfl, rfl, kq', atI_nat (j := 1) k1', rfl, ?_⟩
              have e : isO f (.rcd z) (.str s) = decide (V.str n = V.str z) := by
                show (f s == some z) = _
                rw [h3, Bool.eq_iff_iff, decide_eq_true_eq, beq_iff_eq]
                exact ⟨fun h => by rw [Option.some.inj h], fun h => by rw [V.str.inj h]⟩
              rw [e] at q0
              exact q0
abbrev sLSame : Stmt := topS 17
abbrev NLSame : List Str := ["_law_one", "_law_other"]
theorem scLSame : FnScope NLSame ["_law_one", "_law_other"] (fnScope sLSame) := ⟨rfl, rfl, rfl, by decide +kernel, rfl, by decide +kernel, by decide +kernel⟩
def spSame (K : PySem.W.Frag) : Sp := fun vs H Q _ => ∃ v d u e, vs = [v, u] ∧ Dq K H v d ∧ Dq K H u e ∧ shownQ d ∧ shownQ e ∧ Q (.bl (decide (d.shown = e.shown))) H
theorem dec_vs {a b : Str} : decide (V.str a = V.str b) = decide (a = b) := by
  rw [Bool.eq_iff_iff, decide_eq_true_eq, decide_eq_true_eq]
  exact ⟨V.str.inj, congrArg _⟩
theorem c_same (T : Tp mg) {f : Addr} {fd : FuncData} (D : Def K mg "_law_same" sLSame f fd) (b : Binds K fd ["_law_one", "_law_other"] []) : CalG P w K mg base 1 "_law_same" (spSame K) := by
  refine ⟨f, fd, _, fun vs H Q E h => ?_, fnG0 D scLSame (fun vs H Q E h => ?_) (fun cdv A outer s H vs Q E hg hr h => ?_), D.mgf, D.kp, b⟩
  · obtain ⟨v, d, u, e, rfl, _⟩ := h
    rfl
  · obtain ⟨v, d, u, e, rfl, _⟩ := h
    rfl
  · obtain ⟨v, d, u, e, rfl, hd, he, sd, se, q⟩ := h
    refine ⟨_, (pss_one (ps_ret (pe_cmpR op_eq (pe_callB (call_reprQ hg (hrep_of hr)) (by rfl) T.n_repr (by decide +kernel) (pa_cons (pv 0) pa_nil)) (pe_callB (call_reprQ hg (hrep_of hr)) (by rfl) T.n_repr (by decide +kernel) (pa_cons (pv 1) pa_nil)) (nomark _)))), ?_⟩
    refine ⟨_, rfl, v, d, rfl, hd, sd, _, rfl, u, e, rfl, he, se, rfl, ?_⟩
    rw [← dec_vs] at q
    exact q
/-- numbers and truths exchanged -/
def turn1 : PyData → PyData
  | .bool b => .int (if b then 1 else 0)
  | .int i => if i < 2 then .bool (decide (i = 1)) else .int i
  | d => d
mutual
def turn : PyData → PyData
  | .tuple ds => .tuple (turns ds)
  | .bool b => turn1 (.bool b)
  | .int i => turn1 (.int i)
  | d => d
def turns : List PyData → List PyData
  | [] => []
  | x :: xs => turn x :: turns xs
end
theorem turns_map : ∀ ds : List PyData, turns ds = ds.map turn
  | [] => rfl
  | x :: xs => by simp [turns, turns_map xs]
theorem turn1_ok {d : PyData} (ht : isT d = false) (h : vv d = true) : turn d = turn1 d ∧ vv (turn1 d) = true ∧ (turn1 d).depth = d.depth ∧ (turn1 d).weight ≤ 3 * d.weight + 2 ∧ (d.leavesShort 14 = true → (turn1 d).leavesShort 14 = true) ∧ (d.showable = true → (turn1 d).showable = true) := by
  cases d with
  | none => simp [vv] at h
  | list _ => simp [vv] at h
  | dict _ => simp [vv] at h
  | tuple _ => simp [isT] at ht
  | str z => exact ⟨rfl, h, rfl, by show (PyData.str z).weight ≤ 3 * (PyData.str z).weight + 2; omega, fun h => h, fun h => h⟩
  | bool b => cases b <;> exact ⟨rfl, by decide, by decide, by decide +kernel, fun _ => by decide +kernel, fun _ => by decide +kernel⟩
  | int i =>
    have h' : 0 ≤ i ∧ i < 1000000000000 := by simpa [vv] using h
    by_cases hi : i < 2
    · have e : turn1 (.int i) = .bool (decide (i = 1)) := by simp [turn1, hi]
      refine ⟨rfl, ?_⟩
      rw [e]
      exact ⟨rfl, by simp [PyData.depth], by simp [PyData.weight], fun _ => rfl, fun _ => rfl⟩
    · have e : turn1 (.int i) = .int i := by simp [turn1, hi]
      refine ⟨rfl, ?_⟩
      rw [e]
      exact ⟨h, rfl, by omega, fun h => h, fun h => h⟩
mutual
theorem turn_ok : ∀ {d : PyData}, vv d = true → vv (turn d) = true ∧ (turn d).depth = d.depth ∧ (turn d).weight ≤ 3 * d.weight + 2 ∧ (d.leavesShort 14 = true → (turn d).leavesShort 14 = true) ∧ (d.showable = true → (turn d).showable = true)
  | .none, h => by simp [vv] at h
  | .bool b, h => by have := turn1_ok (d := .bool b) rfl h; rw [this.1]; exact this.2
  | .int i, h => by have := turn1_ok (d := .int i) rfl h; rw [this.1]; exact this.2
  | .str z, h => by have := turn1_ok (d := .str z) rfl h; rw [this.1]; exact this.2
  | .list _, h => by simp [vv] at h
  | .dict _, h => by simp [vv] at h
  | .tuple xs, h => by
    obtain ⟨a, b, c, d, e⟩ := turns_ok (ds := xs) (by simpa [vv] using h)
    refine ⟨by simpa [turn, vv] using a, by simp [turn, PyData.depth, b], ?_, fun h => ?_, fun h => ?_⟩
    · simp only [turn, PyData.weight]; omega
    · simp only [turn, PyData.leavesShort] at h ⊢; exact d h
    · simp only [turn, PyData.showable] at h ⊢; exact e h
theorem turns_ok : ∀ {ds : List PyData}, vvs ds = true → vvs (turns ds) = true ∧ PyData.depthAll (turns ds) = PyData.depthAll ds ∧ PyData.weightAll (turns ds) ≤ 3 * PyData.weightAll ds ∧ (PyData.leavesShortAll 14 ds = true → PyData.leavesShortAll 14 (turns ds) = true) ∧ (PyData.showableAll ds = true → PyData.showableAll (turns ds) = true)
  | [], _ => ⟨rfl, rfl, by simp [turns, PyData.weightAll], fun h => h, fun h => h⟩
  | x :: xs, h => by
    have h' : vv x = true ∧ vvs xs = true := by simpa [vvs] using h
    obtain ⟨a, b, c, d, e⟩ := turn_ok h'.1
    obtain ⟨a2, b2, c2, d2, e2⟩ := turns_ok h'.2
    refine ⟨by simp [turns, vvs, a, a2], by simp [turns, PyData.depthAll, b, b2], ?_, fun h => ?_, fun h => ?_⟩
    · simp only [turns, PyData.weightAll]; omega
    · simp only [turns, PyData.leavesShortAll, Bool.and_eq_true] at h ⊢; exact ⟨d h.1, d2 h.2⟩
    · simp only [turns, PyData.showableAll, Bool.and_eq_true] at h ⊢; exact ⟨e h.1, e2 h.2⟩
end
theorem turn_Ok {n m : Nat} {d : PyData} (h : vv d = true) (o : Ok n m d) : Ok n (3 * m + 2) (turn d) := by
  obtain ⟨a, b, c, d, e⟩ := turn_ok h
  exact ⟨by rw [b]; exact o.dep, by have := o.wt; omega, d o.ls, e o.shw⟩
end
end K14
set_option Elab.async false
set_option linter.all false
set_option maxRecDepth 100000
set_option maxHeartbeats 4000000
namespace K14
open PySem PySem.Spec PyProof.Rows L2
open C8 (Cal Def cal0 pe_c fnBody fnScope fnArgs)
/-! ### a comprehension over a locked dict's keys -/
theorem lc_keys {d : Addr} {o : Obj} {kvs : List (Key × V)} {g : TG} {tt : TT} {te : TE} {vs : List Nat} {σ : L2.St} {H1 : Hp} {D : Addr} {Qd : Hp → Prop} (Pv : Nat → Hp → Prop) (h0 : Pv 0 (upd H1 D (.lst [])))
    (hl : ∀ i H, i ≤ kvs.length → Pv i H → H d = some (.frz o (.dK kvs)))
    (hs : ∀ i k v H, kvs[i]? = some (k, v) → Pv i H → g (kV k) (wipe σ vs) H fun σ2 H2 => wipe σ2 vs = wipe σ vs ∧ tt σ2 H2 fun b H3 =>
      if b = true then te σ2 H3 fun y H4 => ∃ acc, H4 D = some (.lst acc) ∧ acc.length < sizeLine ∧ Pv (i + 1) (upd H4 D (.lst (acc ++ [y]))) else Pv (i + 1) H3) (hd : ∀ H, Pv kvs.length H → Qd H) :
    ∃ W : Nat → Nat → Hp → Prop, (∃ m, W 0 m (upd H1 D (.lst []))) ∧ ∀ i m H, W i m H →
      ((Itk d o kvs).stop i H ∧ Qd H) ∨ ((Itk d o kvs).go i H ∧ ∃ Nx : Hp → Prop, (∀ H', Nx H' → ∃ m', m' < m ∧ W (i + 1) m' H') ∧ ∀ x H', (Itk d o kvs).yld i H x H' → g x (wipe σ vs) H' fun σ2 H2 => wipe σ2 vs = wipe σ vs ∧ tt σ2 H2 fun b H3 =>
        if b = true then te σ2 H3 fun y H4 => ∃ acc, H4 D = some (.lst acc) ∧ acc.length < sizeLine ∧ Nx (upd H4 D (.lst (acc ++ [y]))) else Nx H3) := by
  refine ⟨fun i m H => m = kvs.length - i ∧ i ≤ kvs.length ∧ Pv i H, ⟨kvs.length, by simp, Nat.zero_le _, h0⟩, ?_⟩
  rintro i m H ⟨rfl, hi, p⟩
  have hk := hl i H hi p
  by_cases hlt : i < kvs.length
  · refine .inr ⟨⟨hk, hlt⟩, Pv (i + 1), fun H' p' => ⟨kvs.length - (i + 1), by omega, rfl, hlt, p'⟩, fun x H' y => ?_⟩
    obtain ⟨e, k, v, hc, rfl⟩ := y
    subst e
    exact hs i k v _ hc p
  · have e : i = kvs.length := by omega
    subst e
    exact .inl ⟨⟨hk, Nat.le_refl _⟩, hd H p⟩
section
variable {P : Program} {w : World} {K : PySem.W.Frag} {mg : Str → Option Value} {base : Heap}
/-! ### records -/
def RGood (K : PySem.W.Frag) (H : Hp) (q : Key × V) : Prop := ∃ (z : Str) (t : Addr) (n : Str) (pv : V) (pd : PyData), q = (Sum.inr z, .ref t) ∧ rfS z = true ∧ z.length ≤ 61 ∧ asc n = true ∧ n.length ≤ 8 ∧ SqT K H t [.str n, pv] ∧ Dp K H pv pd ∧ pureD pd = true ∧ Ok 2 100 pd
theorem RGood.mono {H H' : Hp} {q : Key × V} (e : Same H H') (h : RGood K H q) : RGood K H' q := by
  obtain ⟨z, t, n, pv, pd, h1, h2, h3, h4, h5, h6, h7, h8⟩ := h
  exact ⟨z, t, n, pv, pd, h1, h2, h3, h4, h5, sqT_mono e h6, h7.mono e, h8⟩
structure Recs (K : PySem.W.Frag) (p : Addr) (H : Hp) (a : Addr) (kvs : List (Key × V)) : Prop where
  ne : a ≠ p
  at_ : H a = some (.dK kvs)
  all : ∀ q ∈ kvs, RGood K (hid p H) q
  len : kvs.length ≤ 6
theorem Recs.but {p a : Addr} {H H' : Hp} {kvs : List (Key × V)} (e : But p H H') (h : Recs K p H a kvs) : Recs K p H' a kvs := ⟨h.ne, e _ _ h.ne h.at_, fun q hq => (h.all q hq).mono (hid_but e), h.len⟩
theorem valV_mem {kvs : List (Key × V)} {k : Key} {v : V} (h : valV kvs k = some v) : (k, v) ∈ kvs := by
  unfold valV at h
  rw [Option.map_eq_some_iff] at h
  obtain ⟨q, h1, h2⟩ := h
  have h3 := List.mem_of_find?_eq_some h1
  have h4 := List.find?_some h1
  simp at h4
  rw [← h4, ← h2]
  exact h3
theorem recs_rx {p a : Addr} {H : Hp} {kvs : List (Key × V)} (h : Recs K p H a kvs) : ∃ f, Rx K (hid p H) a f := by
  have key : ∀ z : Str, ∃ o : Option Str, (valV kvs (Sum.inr z) = none ∧ o = none) ∨ ∃ t n q, valV kvs (Sum.inr z) = some (.ref t) ∧ SqT K (hid p H) t [.str n, q] ∧ o = some n := fun z => by
    cases hv : valV kvs (Sum.inr z) with
    | none => exact ⟨none, .inl ⟨rfl, rfl⟩⟩
    | some v =>
      obtain ⟨z', t, n, pv, pd, e1, _, _, _, _, h6, _⟩ := h.all _ (valV_mem hv)
      cases e1
      exact ⟨some n, .inr ⟨t, n, pv, rfl, h6, rfl⟩⟩
  exact ⟨fun z => Classical.choose (key z), kvs, by rw [hid_ne h.ne]; exact h.at_, fun z => Classical.choose_spec (key z)⟩
theorem putK_mem {kvs : List (Key × V)} {k : Key} {v : V} {q : Key × V} (h : q ∈ putK kvs k v) : q ∈ kvs ∨ q = (k, v) := by
  unfold putK at h
  split at h
  · rw [List.mem_map] at h
    obtain ⟨r, h1, h2⟩ := h
    split at h2
    · rename_i e
      exact .inr (by rw [← h2, e])
    · exact .inl (by rw [← h2]; exact h1)
  · rcases List.mem_append.mp h with h | h
    · exact .inl h
    · exact .inr (by simpa using h)
abbrev sLRecords : Stmt := topS 14
abbrev NLRecords : List Str := ["_law_pot_here", "_law_records_here", "_law_k", "_law_name", "_law_pairs"]
theorem scLRecords : FnScope NLRecords ["_law_pot_here"] (fnScope sLRecords) := ⟨rfl, rfl, rfl, by decide +kernel, rfl, by decide +kernel, by decide +kernel⟩
def spRecords (K : PySem.W.Frag) : Sp := fun vs H Q _ => ∃ (p : Addr) (x y : Int), vs = [.ref p] ∧ Pot H p x y ∧ ∀ a H' kvs, Recs K p H' a kvs → Going p H H' → Q (.ref a) H'
theorem c_records (T : Tp mg) (c_LTake : Cal P w K mg base 1 "_law_take" spTake []) {f : Addr} {fd : FuncData} (D : Def K mg "_law_records" sLRecords f fd) (b : Binds K fd ["_law_pot_here"] []) : Cal P w K mg base 2 "_law_records" (spRecords K) [] := by
  refine cal0 D b .nil scLRecords (fun vs H Q E h => ?_) (fun cdv A outer s H vs Q E hr h => ?_)
  · obtain ⟨p, x, y, rfl, _⟩ := h
    rfl
  · obtain ⟨p, x, y, rfl, hp, q⟩ := h
    have nd := scLRecords.nd
    refine ⟨_, (pss_cons (ps_set (i := 1) nd rfl (.inl rfl) pe_dnewK)
    (pss_cons (ps_for PassesOwn.never rfl (pi_range1 (by rfl) T.n_range (pa_cons (pe_c c_LTake hr (by decide) (by rfl) (pa_cons (pv 0) (pa_cons pe_int pa_nil))) pa_nil)) (pg_name (i := 2) nd rfl (.inl rfl))
      (pss_cons (ps_set (i := 3) nd rfl (.inl rfl) (pe_ix ix_list (pe_lst (pa_cons pe_str (pa_cons pe_str (pa_cons pe_str (pa_cons pe_str pa_nil))))) (pe_c c_LTake hr (by decide) (by rfl) (pa_cons (pv 0) (pa_cons pe_int pa_nil))) (fun _ _ => rfl)))
    (pss_cons (ps_set (i := 4) nd rfl (.inl rfl) (pe_tup pa_nil))
    (C8.pss_cut (ps_if (pt_cmpR op_eq (pv 3) pe_str (nomark _))
      (pss_one (ps_set (i := 4) nd rfl (.inl rfl) (pe_tup (pa_cons (pe_tup (pa_cons pe_str (pa_cons (pe_c c_LTake hr (by decide) (by rfl) (pa_cons (pv 0) (pa_cons pe_int pa_nil))) pa_nil))) pa_nil))))
      pss_nil)
    (pss_one (ps_dput (hu_of hr) (pv 1) (pe_op op_add_str pe_str (pe_callTy call_str_int (by rfl) T.n_str (by decide +kernel) (pa_cons (pv 2) pa_nil))) (pe_tup (pa_cons (pv 3) (pa_cons (pv 4) pa_nil))) rfl))))))
    (pss_one (ps_ret (pv 1))))), ?_⟩
    have line := sizeLine_eq
    intro a ha
    have na := hp.ne ha
    have g0 : Going p H (upd H a (.dK [])) := ⟨But.new ha, x, y, hp.new ha⟩
    obtain ⟨x1, y1, hp1⟩ := g0.2
    refine ⟨_, rfl, p, x1, y1, 6, rfl, hp1, by decide, by decide, fun r x2 y2 r0 r1 hp2 => ?_⟩
    have g1 := g0.trans (going_pot (But.refl p _) hp2)
    refine ⟨r, rfl, by omega, by omega, ?_⟩
    have na' : (upd (upd H a (.dK [])) p (.lst [.int x2, .int y2])) a = some (.dK []) := by rw [upd_ne na, upd_same]
    refine for_range (lo := 0) (n := r.toNat) (fun i σ H' => ∃ kvs o2 o3 o4, σ = [some (.ref p), some (.ref a), o2, o3, o4] ∧ H' a = some (.dK kvs) ∧ (∀ q ∈ kvs, RGood K (hid p (hid a H')) q) ∧ kvs.length ≤ i ∧ Going p H H') ⟨[], none, none, none, rfl, na', (fun q h => nomatch h), Nat.le_refl _, g1⟩ (fun i σ H' hi hW => ?_) (fun σ H' hW => ?_)
    · obtain ⟨kvs, o2, o3, o4, rfl, hat, hall, hlen, g⟩ := hW
      have hi6 : i < 6 := by omega
      refine ⟨(by show 4 ≤ sizeLine; decide), fun l0 hl0 => ?_⟩
      have gL := g.new (o := .lst [.str "a", .str "b", .str "c", .str ""]) hl0
      have nl0 := g.ne hl0
      obtain ⟨x3, y3, hp3⟩ := gL.2
      refine ⟨_, rfl, p, x3, y3, 4, rfl, hp3, by decide, by decide, fun rz x4 y4 rz0 rz1 hp4 => ?_⟩
      have gT := going_pot (But.refl p _) hp4
      have bb := (But.new (p := p) (o := .lst [.str "a", .str "b", .str "c", .str ""]) hl0).trans gT.1
      obtain ⟨nm, hz, oz1, oz2⟩ : ∃ z : Str, atI [V.str "a", .str "b", .str "c", .str ""] rz = some (.str z) ∧ asc z = true ∧ z.length ≤ 8 := by
        have hc : rz = 0 ∨ rz = 1 ∨ rz = 2 ∨ rz = 3 := by omega
        rcases hc with rfl | rfl | rfl | rfl
        · exact ⟨_, atI_nat (j := 0) rfl, by decide +kernel, by decide⟩
        · exact ⟨_, atI_nat (j := 1) rfl, by decide +kernel, by decide⟩
        · exact ⟨_, atI_nat (j := 2) rfl, by decide +kernel, by decide⟩
        · exact ⟨_, atI_nat (j := 3) rfl, by decide +kernel, by decide⟩
      refine ⟨l0, _, rz, .str nm, rfl, rfl, SqL.of (gT.1 _ _ nl0 upd_same), hz, ?_⟩
      have gN := gL.trans gT
      generalize hH1 : upd (upd H' l0 (.lst [.str "a", .str "b", .str "c", .str ""])) p (.lst [.int x4, .int y4]) = H1 at *
      have hat1 : H1 a = some (.dK kvs) := bb _ _ na hat
      refine ⟨(by show 0 ≤ sizeLine; decide), fun t1 ht1 => ?_⟩
      have nta : t1 ≠ a := fun e => by rw [e, hat1] at ht1; cases ht1
      have ntp := gN.ne ht1
      have gE := gN.new (o := .tup []) ht1
      have bE := bb.trans (But.new (p := p) (o := .tup []) ht1)
      have DE : Dp K (hid p (hid a (upd H1 t1 (.tup [])))) (.ref t1) (.tuple []) := .tup (.inl (.inl (by rw [hid_ne ntp, hid_ne nta, upd_same]))) .nil
      refine ⟨fun σ' H2 => ∃ pv pd, σ' = [some (.ref p), some (.ref a), some (.int (0 + (i : Int))), some (.str nm), some pv] ∧ Dp K (hid p (hid a H2)) pv pd ∧ pureD pd = true ∧ Ok 2 100 pd ∧ Going p H H2 ∧ But p H' H2, ?_, ?_⟩
      · refine ⟨_, rfl, rfl, _, rfl, ite2 (fun e => ?_) (fun e => ?_)⟩
        · obtain ⟨x5, y5, hp5⟩ := gE.2
          refine ⟨_, rfl, p, x5, y5, 5, rfl, hp5, by decide, by decide, fun rv x6 y6 rv0 rv1 hp6 => ?_⟩
          have gF := going_pot (But.refl p _) hp6
          have bF := bE.trans gF.1
          have gG := gE.trans gF
          generalize hH3 : upd (upd H1 t1 (.tup [])) p (.lst [.int x6, .int y6]) = H3 at *
          have hat3 : H3 a = some (.dK kvs) := bF _ _ na hat
          refine ⟨(by show 2 ≤ sizeLine; decide), fun t2 ht2 => ⟨(by show 1 ≤ sizeLine; decide), fun t3 ht3 => ?_⟩⟩
          have n2a : t2 ≠ a := fun e => by rw [e, hat3] at ht2; cases ht2
          have n2p := gG.ne ht2
          have gI := gG.new (o := .tup [.str "f", .int rv]) ht2
          have n3p := gI.ne ht3
          have hat4 : (upd H3 t2 (.tup [.str "f", .int rv])) a = some (.dK kvs) := by rw [upd_ne n2a.symm]; exact hat3
          have n3a : t3 ≠ a := fun e => by rw [e, hat4] at ht3; cases ht3
          have n23 : t2 ≠ t3 := fun e => by rw [← e, upd_same] at ht3; cases ht3
          refine ⟨.ref t3, .tuple [.tuple [.str "f", .int rv]], rfl, .tup (.inl (.inl (by rw [hid_ne n3p, hid_ne n3a, upd_same]))) (.cons (.tup (.inl (.inl (by rw [hid_ne n2p, hid_ne n2a, upd_ne n23, upd_same]))) (.cons (.str _) (.cons (.int _) .nil))) .nil), rfl, ?_, gI.new ht3, (bF.trans (But.new ht2)).trans (But.new ht3)⟩
          exact (Ok.tup (n := 1) (OkAll.cons (b := 0) (Ok.tup (n := 0) (OkAll.cons (a := 1) (.str (by decide) (asc_of (z := "f") (by decide +kernel))) (OkAll.cons (a := 50) (b := 0) (.num (by omega) (by omega) (by omega)) .nil))) .nil)).mono (Nat.le_refl _) (by decide)
        · exact ⟨.ref t1, .tuple [], rfl, DE, rfl, (Ok.tup (n := 0) (m := 0) OkAll.nil).mono (by omega) (by omega), gE, bE⟩
      · rintro σ2 H2 ⟨pv, pd, rfl, Dpv, hpu, hok, g2, b2⟩
        have hat2 : H2 a = some (.dK kvs) := b2 _ _ na hat
        refine ⟨_, rfl, _, rfl, (by show 2 ≤ sizeLine; decide), fun t ht => ?_⟩
        have n1 : t ≠ a := fun e => by rw [e, hat2] at ht; cases ht
        have n2 := g2.ne ht
        have e0 : (0 : Int) + (i : Int) = (i : Int) := Int.zero_add _
        have g3 := g2.new (o := .tup [.str nm, pv]) ht
        have hi0 : (0 : Int) ≤ (i : Int) := by omega
        refine ⟨_, rfl, _, rfl, (0 + (i : Int)), rfl, ?_, ?_⟩
        · have : ((0 : Int) + (i : Int)).natAbs < 2 ^ 10 := by omega
          have := PySem.Flt.log2_lt_of (by decide : 0 < 10) this
          omega
        · have hlen2 := PyProof.Rows.toString_length_le (v := 0 + (i : Int)) (by omega) (k := 3) (by decide) (by omega)
          have h1 : ("r" : Str).length = 1 := by decide +kernel
          refine ⟨_, _, rfl, rfl, by rw [sizeLine_eq]; omega, ?_⟩
          have hat3 : (upd H2 t (.tup [.str nm, pv])) a = some (.dK kvs) := by rw [upd_ne n1.symm]; exact hat2
          refine ⟨a, _, rfl, DPut.k (k := Sum.inr _) hat3 (by omega), ?_⟩
          refine ⟨_, _, _, _, rfl, upd_same, fun q hq => ?_, ?_, ?_⟩
          · rw [hid_upd]
            have sm : Same (hid p (hid a H2)) (hid p (hid a (upd H2 t (.tup [.str nm, pv])))) := hid_same (hid_same (Same.new ht))
            rcases putK_mem hq with hq | rfl
            · exact ((hall q hq).mono (hid2_but b2)).mono sm
            · refine ⟨_, t, nm, pv, pd, rfl, ?_, ?_, oz1, oz2, .inl (.inl (by rw [hid_ne n2, hid_ne n1, upd_same])), Dpv.mono sm, hpu, hok⟩
              · exact rf_cat (by omega)
              · have e : (("r" : Str) ++ Str.ofString (toString ((0 : Int) + (i : Int)))).length = ("r" : Str).length + (Str.ofString (toString ((0 : Int) + (i : Int)))).length := by rw [← len_tl, tl_app, List.length_append, len_tl, len_tl]
                omega
          · have := length_putK kvs (Sum.inr (("r" : Str) ++ Str.ofString (toString ((0 : Int) + (i : Int))))) (.ref t)
            omega
          · refine ⟨fun b o nb hb => ?_, ?_⟩
            · rw [upd_ne (ne_of_none hb ha)]
              exact g3.1 b o nb hb
            · obtain ⟨x9, y9, h9⟩ := g3.2
              exact ⟨x9, y9, by rw [upd_ne na.symm]; exact h9.at_, h9.x0, h9.y0, h9.y1⟩
    · obtain ⟨kvs, o2, o3, o4, rfl, hat, hall, hlen, g⟩ := hW
      exact ⟨_, rfl, q a H' kvs ⟨na, hat, fun q hq => (hall q hq).mono (hid_same hid_in), by omega⟩ g⟩
end
end K14
set_option Elab.async false
set_option linter.all false
set_option maxRecDepth 100000
set_option maxHeartbeats 4000000
namespace K14
open PySem PySem.Spec PyProof.Rows L2
open C8 (Cal Def cal0 pe_c fnBody fnScope fnArgs)
section
variable {P : Program} {w : World} {K : PySem.W.Frag} {mg : Str → Option Value} {base : Heap}
abbrev sLOf : Stmt := topS 15
abbrev NLOf : List Str := ["_law_pot_here", "_law_kind_here", "_law_records_here", "_law_some", "_law_ref_here", "_law_k"]
theorem scLOf : FnScope NLOf ["_law_pot_here", "_law_kind_here", "_law_records_here"] (fnScope sLOf) := ⟨rfl, rfl, rfl, by decide +kernel, rfl, by decide +kernel, by decide +kernel⟩
def spOf (K : PySem.W.Frag) (n : Nat) : Sp := fun vs H Q _ => ∃ (p : Addr) (x y : Int) (kv : V) (k : Kd) (a : Addr) (kvs : List (Key × V)), vs = [.ref p, kv, .ref a] ∧ Kd.deep k < n ∧ Pot H p x y ∧ Dh K p H kv k.d ∧ Recs K p H a kvs ∧
  ∀ v d H', Ok k.deep (wv k.deep) d → vv d = true → Dh K p H' v d → Going p H H' → Q v H'
theorem sqT_lock {H : Hp} {a t : Addr} {kvs : List (Key × V)} {o : HO} {xs : List V} (ha : H a = some (.dK kvs)) (h : SqT K H t xs) : SqT K (upd H a o) t xs := by
  rcases h with (h | ⟨o', h⟩) | h
  · have n : t ≠ a := fun e => by rw [e, ha] at h; cases h
    exact .inl (.inl (by rw [upd_ne n]; exact h))
  · have n : t ≠ a := fun e => by rw [e, ha] at h; cases h
    exact .inl (.inr ⟨o', by rw [upd_ne n]; exact h⟩)
  · exact .inr h
theorem valV_some {kvs : List (Key × V)} {k : Key} {v : V} (h : (k, v) ∈ kvs) : ∃ v', valV kvs k = some v' := by
  have := valV_any k kvs
  have ha : (kvs.any fun kv => decide (kv.1 = k)) = true := List.any_eq_true.mpr ⟨_, h, by simp⟩
  rw [ha] at this
  exact Option.isSome_iff_exists.mp this.symm
theorem ref_ok {z : Str} (h : rfS z = true) (hl : z.length ≤ 61) {n m : Nat} (hm : 61 ≤ m) : Ok n m (.str z) := .str (by omega) (fun c hc => refc_lt (List.all_eq_true.mp h c hc))
theorem c_of (T : Tp mg) (c_LTake : Cal P w K mg base 1 "_law_take" spTake []) (c_LNumber : Cal P w K mg base 2 "_law_number" spNumber []) {f : Addr} {fd : FuncData} (D : Def K mg "_law_of" sLOf f fd) (b : Binds K fd ["_law_pot_here", "_law_kind_here", "_law_records_here"] []) :
    ∀ n : Nat, Cal P w K mg base (3 + n) "_law_of" (spOf K n) []
  | 0 => cal_no _ (fun vs H Q E ⟨p, x, y, kv, k, a, kvs, _, h, _⟩ => absurd h (Nat.not_lt_zero _)) D b
  | n + 1 => by
    have c_LOf := c_of T c_LTake c_LNumber D b n
    refine cal0 D b .nil scLOf (fun vs H Q E h => ?_) (fun cdv A outer s H vs Q E hr h => ?_)
    · obtain ⟨p, x, y, kv, k, a, kvs, rfl, _⟩ := h
      rfl
    · obtain ⟨p, x, y, kv, k, a, kvs, rfl, hkn, hp, hk, hR, q⟩ := h
      have nd := scLOf.nd
      have hr := (show Room (3 + n) _ from hr)
      have line := sizeLine_eq
      refine ⟨_, (pss_cons (ps_if (pt_cmpR op_eq (pe_ix ix_tup (pv 1) pe_int (fun _ _ => rfl)) pe_str (nomark _))
      (pss_one (ps_ret (pe_c c_LNumber hr (by omega) (by rfl) (pa_cons (pv 0) pa_nil))))
      pss_nil)
    (pss_cons (ps_if (pt_cmpR op_eq (pe_ix ix_tup (pv 1) pe_int (fun _ _ => rfl)) pe_str (nomark _))
      (pss_one (ps_ret (pe_cmpR op_eq (pe_c c_LTake hr (by omega) (by rfl) (pa_cons (pv 0) (pa_cons pe_int pa_nil))) pe_int (nomark _))))
      pss_nil)
    (pss_cons (ps_if (pt_cmpR op_eq (pe_ix ix_tup (pv 1) pe_int (fun _ _ => rfl)) pe_str (nomark _))
      (pss_one (ps_ret (pe_callTy call_tuple_of (by rfl) T.n_tuple (by decide +kernel) (pa_cons (pe_lc (own := [("_law_k", 5)]) (g := gName 5) (by rfl) nd (pi_range1 (by rfl) T.n_range (pa_cons (pe_c c_LTake hr (by omega) (by rfl) (pa_cons (pv 0) (pa_cons pe_int pa_nil))) pa_nil)) (blkOk_by (own := [("_law_k", 5)]) (N := NLOf) (sc := fnScope sLOf) (by decide +kernel)) (fun _ _ _ _ _ => pg_name (i := 5) nd rfl (Or.inl rfl)) (fun _ _ _ _ _ => pts_nil) (fun _ _ _ _ _ => (pe_c c_LOf hr (Nat.le_refl _) (by rfl) (pa_cons (pv 0) (pa_cons (pe_ix (r := rIxT K) ix_tup (pv 1) pe_int (fun _ _ => rfl)) (pa_cons (pv 2) pa_nil)))))) pa_nil))))
      pss_nil)
    (pss_cons (ps_lock (ps_setLc (i := 3) (own := [("_law_ref_here", 4)]) (g := gName 4) rfl nd rfl rfl (sw_true rfl rfl rfl (by decide +kernel)) (pi_keys (pv 2)) (blkOk_by (own := [("_law_ref_here", 4)]) (N := NLOf) (sc := fnScope sLOf) (by decide +kernel)) (fun _ _ _ _ _ => pg_name (i := 4) nd rfl (Or.inl rfl)) (fun _ _ _ _ _ => (pts_one (pt_cmpR op_eq (pe_ix (r := rIxT K) ix_tup (pe_dget (hu_of hr) (pv 2) (pv 4) (fun _ _ => rfl)) pe_int (fun _ _ => rfl)) (pe_ix (r := rIxT K) ix_tup (pv 1) pe_int (fun _ _ => rfl)) (nomark _)))) (fun _ _ _ _ _ => (pv 4))))
    (pss_cons (ps_if (PW.pt (pw_or (pt_cmpR (op_eqNil hr.units) (pv 3) (pe_lst pa_nil) (nomark _)) (pw_or1 (pt_cmpR op_eq (pe_c c_LTake hr (by omega) (by rfl) (pa_cons (pv 0) (pa_cons pe_int pa_nil))) pe_int (nomark _)))))
      (pss_one (ps_ret (pe_op op_add_str pe_str (pe_callTy call_str_int (by rfl) T.n_str (by decide +kernel) (pa_cons (pe_c c_LTake hr (by omega) (by rfl) (pa_cons (pv 0) (pa_cons pe_int pa_nil))) pa_nil)))))
      pss_nil)
    (pss_one (ps_ret (pe_ix ix_list (pv 3) (pe_c c_LTake hr (by omega) (by rfl) (pa_cons (pv 0) (pa_cons (pe_callB call_len_seq (by rfl) T.n_len (by decide +kernel) (pa_cons (pv 3) pa_nil)) pa_nil))) (fun _ _ => rfl))))))))), ?_⟩
      have hge := wv_ge k.deep
      cases k with
      | num =>
        obtain ⟨ka, kxs, rfl, kq, k0⟩ := kd_at hk.un
        refine ⟨_, rfl, ka, kxs, 0, _, rfl, rfl, kq, atI_nat (j := 0) k0, rfl, _, rfl, iteT' (decide_eq_true rfl) ?_⟩
        exact ⟨_, rfl, p, x, y, rfl, hp, fun i H' i0 i1 g => q _ (.int i) H' (.num (by omega) (by omega) (by omega)) (by simp [vv, i0, i1]) (.int i) g⟩
      | tru =>
        obtain ⟨ka, kxs, rfl, kq, k0⟩ := kd_at hk.un
        refine ⟨_, rfl, ka, kxs, 0, _, rfl, rfl, kq, atI_nat (j := 0) k0, rfl, _, rfl, iteF' (decide_eq_false (by decide +kernel)) ?_⟩
        refine ⟨_, rfl, ka, kxs, 0, _, rfl, rfl, kq, atI_nat (j := 0) k0, rfl, _, rfl, iteT' (decide_eq_true rfl) ?_⟩
        exact ⟨_, rfl, p, x, y, 2, rfl, hp, by decide, by decide, fun ra x2 y2 ra0 ra1 hp2 => ⟨rfl, q _ (.bool _) _ (.bool _) rfl (.bl _) (going_pot (But.refl p _) hp2)⟩⟩
      | lst k2 =>
        obtain ⟨ka, kxs, v1, rfl, kq, k0, k1', Dk⟩ := kd_lst hk
        have kq' := sqT_in kq
        refine ⟨_, rfl, ka, kxs, 0, _, rfl, rfl, kq', atI_nat (j := 0) k0, rfl, _, rfl, iteF' (decide_eq_false (by decide +kernel)) ?_⟩
        refine ⟨_, rfl, ka, kxs, 0, _, rfl, rfl, kq', atI_nat (j := 0) k0, rfl, _, rfl, iteF' (decide_eq_false (by decide +kernel)) ?_⟩
        refine ⟨_, rfl, ka, kxs, 0, _, rfl, rfl, kq', atI_nat (j := 0) k0, rfl, _, rfl, iteT' (decide_eq_true rfl) ?_⟩
        refine ⟨_, rfl, p, x, y, 4, rfl, hp, by decide, by decide, fun c x2 y2 c0 c1 hp2 => ?_⟩
        have g2 := going_pot (But.refl p H) hp2
        generalize hH2 : upd H p (.lst [.int x2, .int y2]) = H2 at *
        refine ⟨c, rfl, by omega, by omega, fun Dl hDl => ?_⟩
        have nD := g2.ne hDl
        have hk2 : k2.deep < n := by have : k2.deep + 1 < n + 1 := hkn; omega
        refine lc_range (lo := 0) (n := c.toNat) (fun i H' => ∃ vs ds, Row K p Dl k2.deep H2 i H' vs ds) ⟨[], [], ⟨OkAll.nil, rfl, rfl, .nil, upd_same, But.new hDl, x2, y2, hp2.new hDl⟩⟩ (fun i H' hi hW => ?_) (fun H' hW => ?_)
        · obtain ⟨vs, ds, R⟩ := hW
          obtain ⟨x3, y3, hp3⟩ := R.go.2
          have gR := g2.trans R.go
          refine ⟨rfl, ?_⟩
          unfold tYes; dsimp only
          rw [if_pos rfl]
          refine ⟨_, rfl, _, rfl, ka, kxs, 1, v1, rfl, rfl, sqT_in (sqT_mono (hid_but gR.1) kq), atI_nat (j := 1) k1', _, rfl, p, x3, y3, v1, k2, a, kvs, rfl, hk2, hp3, Dk.but gR.1, hR.but gR.1, fun v d H3 h4 h5 h6 h7 => ?_⟩
          have hat2 : H3 Dl = some (.lst vs) := h7.1 _ _ nD R.at_
          have hlen := R.dt.len
          have hln := R.ln
          refine ⟨vs, hat2, by omega, vs ++ [v], ds ++ [d], ⟨?_, vvs_app R.nl (by simp [vvs, h5]), by rw [List.length_append, R.ln]; rfl, ?_, upd_same, ?_⟩⟩
          · exact (R.ok.app (OkAll.cons (b := 0) h4 .nil)).mono (Nat.le_refl _) (by rw [Nat.succ_mul]; omega)
          · rw [hid_upd]
            refine (DpAll.mono (hid2_but h7.1) R.dt).app (.cons ?_ .nil)
            rw [← hid_hid]
            exact dp_hid (ys := vs) (by rw [hid_ne nD]; exact hat2) (vv_noL h5).1 h6
          · refine ⟨fun b o nb hb => ?_, ?_⟩
            · rw [upd_ne (ne_of_none hb hDl)]
              exact h7.1 b o nb (R.go.1 b o nb hb)
            · obtain ⟨x4, y4, hp4⟩ := h7.2
              exact ⟨x4, y4, by rw [upd_ne nD.symm]; exact hp4.at_, hp4.x0, hp4.y0, hp4.y1⟩
        · obtain ⟨vs, ds, R⟩ := hW
          refine ⟨Dl, vs, rfl, .inl ⟨SqL.of R.at_, fun t2 ht2 => ?_⟩⟩
          have gg : Going p H' (upd H' t2 (.tup vs)) := ⟨But.new ht2, let ⟨a, b, h⟩ := R.go.2; ⟨a, b, h.new ht2⟩⟩
          have dt : DhAll K p H' vs ds := DpAll.mono (hid_same hid_in) R.dt
          refine q _ (.tuple ds) _ (((Ok.tup R.ok).mono (Nat.le_refl _) ?_)) (by simpa [vv] using R.nl) (Dp.newT ht2 (R.go.ne ht2) dt) (g2.trans (R.go.trans gg))
          show c.toNat * (wv k2.deep + 1) ≤ 3 * (wv k2.deep + 1)
          exact Nat.mul_le_mul_right _ (by omega)
      | rcd z =>
        obtain ⟨ka, kxs, rfl, kq, k0, k1'⟩ := kd_rcd hk
        have kq' := sqT_in kq
        have rt : V.str "record" ≠ V.str "truth" := by decide +kernel
        have rn : V.str "record" ≠ V.str "number" := by decide +kernel
        have rl : V.str "record" ≠ V.str "list" := by decide +kernel
        refine ⟨_, rfl, ka, kxs, 0, _, rfl, rfl, kq', atI_nat (j := 0) k0, rfl, _, rfl, iteF' (decide_eq_false rn) ?_⟩
        refine ⟨_, rfl, ka, kxs, 0, _, rfl, rfl, kq', atI_nat (j := 0) k0, rfl, _, rfl, iteF' (decide_eq_false rt) ?_⟩
        refine ⟨_, rfl, ka, kxs, 0, _, rfl, rfl, kq', atI_nat (j := 0) k0, rfl, _, rfl, iteF' (decide_eq_false rl) ?_⟩
        refine ⟨a, .dK kvs, hR.at_, trivial, fun od => ?_⟩
        have hpa : H a = some (.dK kvs) := hR.at_
        have hRG : ∀ q ∈ kvs, RGood K H q := fun q hq => (hR.all q hq).mono hid_in
        generalize hL : upd H a (.frz od (.dK kvs)) = HL
        have kqL : SqT K HL ka kxs := by rw [← hL]; exact sqT_lock hpa kq'
        have hLa : HL a = some (.frz od (.dK kvs)) := by rw [← hL]; exact upd_same
        refine ⟨_, rfl, a, od, rfl, .inl ⟨kvs, hLa, fun Dl hDl => ?_⟩⟩
        have nDa : Dl ≠ a := fun e => by rw [e, hLa] at hDl; cases hDl
        refine lc_keys (kvs := kvs) (fun i H' => Same HL H' ∧ ∃ acc, H' Dl = some (.lst acc) ∧ acc.length ≤ i ∧ ∀ v ∈ acc, ∃ z, v = V.str z ∧ rfS z = true ∧ z.length ≤ 61) ⟨Same.new hDl, [], upd_same, Nat.le_refl _, fun v h => nomatch h⟩ (fun i H' hi h => h.1 _ _ hLa) (fun i k v H' hi hW => ?_) (fun H' hW => ?_)
        · obtain ⟨sm, acc, hat, hal, hac⟩ := hW
          have hil : i < kvs.length := (List.getElem?_eq_some_iff.mp hi).1
          have hk6 := hR.len
          obtain ⟨z1, t1, n1, pv1, pd1, e1, hz1, hz2, _⟩ := hRG _ (List.mem_of_getElem? hi)
          cases e1
          obtain ⟨v', hv'⟩ := valV_some (List.mem_of_getElem? hi)
          obtain ⟨z2, t2, n2, pv2, pd2, e2, _, _, _, _, hq2, _⟩ := hRG _ (valV_mem hv')
          cases e2
          have hq3 : SqT K H' t2 [.str n2, pv2] := sqT_mono sm (by rw [← hL]; exact sqT_lock hpa hq2)
          refine ⟨rfl, _, rfl, _, rfl, a, .ref t2, rfl, .inl ⟨kvs, Sum.inr z1, .inr ⟨od, sm _ _ hLa⟩, rfl, hv'.symm⟩, t2, _, 0, .str n2, rfl, rfl, hq3, atI_nat (j := 0) rfl, _, rfl, ka, kxs, 1, .str z, rfl, rfl, sqT_mono sm kqL, atI_nat (j := 1) k1', rfl, _, rfl, ite2 (fun e => ?_) (fun e => ?_)⟩
          · refine ⟨_, rfl, acc, hat, by omega, fun b o hb => ?_, acc ++ [.str z1], upd_same, by rw [List.length_append, List.length_singleton]; omega, fun v hv => ?_⟩
            · rw [upd_ne (ne_of_none hb hDl)]
              exact sm b o hb
            · rcases List.mem_append.mp hv with hv | hv
              · exact hac v hv
              · exact ⟨z1, by simpa using hv, hz1, hz2⟩
          · exact ⟨sm, acc, hat, by omega, hac⟩
        · obtain ⟨sm, acc, hat, hal, hac⟩ := hW
          have hk6 := hR.len
          refine ⟨sm _ _ hLa, ?_⟩
          have g4 : Going p H (upd H' a (.dK kvs)) := by
            refine ⟨fun b o nb hb => ?_, x, y, ?_, hp.x0, hp.y0, hp.y1⟩
            · by_cases e : b = a
              · subst e
                rw [hpa] at hb
                rw [upd_same]
                exact hb
              · rw [upd_ne e]
                exact sm b o (by rw [← hL, upd_ne e]; exact hb)
            · rw [upd_ne hR.ne.symm]
              exact sm _ _ (by rw [← hL, upd_ne hR.ne.symm]; exact hp.at_)
          have hat4 : (upd H' a (.dK kvs)) Dl = some (.lst acc) := by rw [upd_ne nDa]; exact hat
          generalize hH4 : upd H' a (.dK kvs) = H4 at *
          refine ⟨_, rfl, (by show 0 ≤ sizeLine; decide), fun l hl => ⟨Dl, l, acc, rfl, rfl, SqL.of ((Same.new hl) _ _ hat4), SqL.of upd_same, _, rfl, ?_⟩⟩
          have g5 := g4.new (o := .lst []) hl
          have hat5 : (upd H4 l (.lst [])) Dl = some (.lst acc) := (Same.new hl) _ _ hat4
          generalize hH5 : upd H4 l (.lst []) = H5 at *
          obtain ⟨x5, y5, hp5⟩ := g5.2
          have nDp := hp5.at_
          have nDlp : Dl ≠ p := fun e => by
            subst e
            have := hp.at_
            have h2 : HL Dl = some (.lst [.int x, .int y]) := by rw [← hL, upd_ne nDa]; exact this
            rw [hDl] at h2
            cases h2
          have strR : ∀ {H6 : Hp} {i : Int}, 0 ≤ i → i < 6 → Going p H H6 → i.natAbs.log2 < 1920 ∧ (∃ i1 i2, V.str "r" = .str i1 ∧ V.str (Str.ofString (toString i)) = .str i2 ∧ i1.length + i2.length ≤ sizeLine ∧ Q (.str (i1 ++ i2)) H6) := fun {H6 i} i0 i1 g6 => by
            have h10 : i.natAbs < 2 ^ 10 := by omega
            have := PySem.Flt.log2_lt_of (by decide : 0 < 10) h10
            have hlen2 := PyProof.Rows.toString_length_le i0 (k := 3) (by decide) (by omega)
            have h1 : ("r" : Str).length = 1 := by decide +kernel
            have e : (("r" : Str) ++ Str.ofString (toString i)).length = ("r" : Str).length + (Str.ofString (toString i)).length := by rw [← len_tl, tl_app, List.length_append, len_tl, len_tl]
            refine ⟨by omega, _, _, rfl, rfl, by rw [sizeLine_eq]; omega, q _ (.str _) _ (ref_ok (rf_cat i0) (by omega) (by omega)) (by simpa [vv] using rf_cat i0) (.str _) g6⟩
          refine ite2 (fun e => iteT ?_) (fun e => ?_)
          · refine ⟨_, rfl, p, x5, y5, 6, rfl, hp5, by decide, by decide, fun r x6 y6 r0 r1 hp6 => ?_⟩
            exact ⟨r, rfl, strR r0 r1 (g5.trans (going_pot (But.refl p _) hp6))⟩
          · refine ⟨_, rfl, p, x5, y5, 5, rfl, hp5, by decide, by decide, fun r x6 y6 r0 r1 hp6 => ?_⟩
            have gF := going_pot (But.refl p _) hp6
            have g6 := g5.trans gF
            have hat6 := gF.1 _ _ nDlp hat5
            generalize hH6 : upd H5 p (.lst [.int x6, .int y6]) = H6 at *
            refine ⟨rfl, _, rfl, ite2 (fun e2 => ?_) (fun e2 => ?_)⟩
            · refine ⟨_, rfl, p, x6, y6, 6, rfl, hp6, by decide, by decide, fun r x7 y7 r0 r1 hp7 => ?_⟩
              exact ⟨r, rfl, strR r0 r1 (g6.trans (going_pot (But.refl p _) hp7))⟩
            · have hne : 0 < acc.length := by
                cases acc with
                | nil => exact absurd rfl e
                | cons _ _ => simp
              refine ⟨_, rfl, _, rfl, _, rfl, Dl, acc, rfl, .inl (SqL.of hat6), p, x6, y6, _, rfl, hp6, by omega, ?_, fun r x7 y7 r0 r1 hp7 => ?_⟩
              · have : ((acc.length : Nat) : Int).natAbs = acc.length := Int.natAbs_natCast _
                rw [this]
                exact Nat.lt_of_le_of_lt (show acc.length ≤ 6 by omega) (by decide +kernel)
              · have gG := going_pot (But.refl p _) hp7
                have hat7 := gG.1 _ _ nDlp hat6
                obtain ⟨v, hv, ev⟩ := pick_at r0 r1
                obtain ⟨z1, rfl, hz1, hz2⟩ := hac v (List.mem_of_getElem? hv)
                exact ⟨Dl, acc, r, .str z1, rfl, rfl, SqL.of hat7, atI_pick ev hv, q _ (.str z1) _ (ref_ok hz1 hz2 (by omega)) (by simpa [vv] using hz1) (.str _) (g6.trans gG)⟩
end
end K14
set_option Elab.async false
set_option linter.all false
set_option maxRecDepth 100000
set_option maxHeartbeats 4000000
namespace K14
open PySem PySem.Spec PyProof.Rows L2
open C8 (Cal Def cal0 pe_c fnBody fnScope fnArgs)
theorem OkAll.take_ {n m : Nat} : ∀ {ds : List PyData} (k : Nat), OkAll n m ds → OkAll n m (ds.take k)
  | [], k, h => by rw [List.take_nil]; exact h
  | d :: ds, 0, h => by rw [List.take_zero]; exact OkAll.nil
  | d :: ds, k + 1, h => by
    have hd : max d.depth (PyData.depthAll ds) ≤ n := by simpa only [PyData.depthAll] using h.dep
    have hw : d.weight + 1 + PyData.weightAll ds ≤ m := by simpa only [PyData.weightAll] using h.wt
    have hl : d.leavesShort 14 = true ∧ PyData.leavesShortAll 14 ds = true := by simpa [PyData.leavesShortAll] using h.ls
    have hv : d.showable = true ∧ PyData.showableAll ds = true := by simpa [PyData.showableAll] using h.shw
    have ih := OkAll.take_ (n := n) (m := m - d.weight - 1) (ds := ds) k ⟨Nat.le_trans (Nat.le_max_right _ _) hd, by omega, hl.2, hv.2⟩
    rw [List.take_succ_cons]
    exact (OkAll.cons (a := d.weight) ⟨Nat.le_trans (Nat.le_max_left _ _) hd, Nat.le_refl _, hl.1, hv.1⟩ ih).mono (Nat.le_refl _) (by omega)
theorem ok_tup_inv {n m : Nat} {ds : List PyData} (h : Ok (n + 1) m (.tuple ds)) : OkAll n m ds :=
  ⟨by have := h.dep; rw [PyData.depth] at this; omega, by simpa only [PyData.weight] using h.wt, by simpa only [PyData.leavesShort] using h.ls, by simpa only [PyData.showable] using h.shw⟩
theorem dpAll_take {K : PySem.W.Frag} {H : Hp} : ∀ {vs : List V} {ds : List PyData} (n : Nat), DpAll K H vs ds → DpAll K H (vs.take n) (ds.take n)
  | _, _, 0, _ => by rw [List.take_zero, List.take_zero]; exact .nil
  | _, _, _ + 1, .nil => .nil
  | _, _, n + 1, .cons h t => .cons h (dpAll_take n t)
theorem vvs_take {ds : List PyData} (n : Nat) (h : vvs ds = true) : vvs (ds.take n) = true := by
  rw [vvs_all] at *
  rw [List.all_eq_true] at *
  exact fun d hd => h d (List.mem_of_mem_take hd)
section
variable {P : Program} {w : World} {K : PySem.W.Frag} {mg : Str → Option Value} {base : Heap}
abbrev sLTurned : Stmt := topS 18
abbrev NLTurned : List Str := ["_law_value_here", "_law_part"]
theorem scLTurned : FnScope NLTurned ["_law_value_here"] (fnScope sLTurned) := ⟨rfl, rfl, rfl, by decide +kernel, rfl, by decide +kernel, by decide +kernel⟩
def spTurned (K : PySem.W.Frag) (n : Nat) : Sp := fun vs H Q _ => ∃ v d, vs = [v] ∧ Dp K H v d ∧ vv d = true ∧ d.depth < n ∧ d.weight ≤ 100000 ∧ ∀ u H', Same H H' → Dp K H' u (turn d) → Q u H'
theorem c_turned (T : Tp mg) {f : Addr} {fd : FuncData} (D : Def K mg "_law_turned" sLTurned f fd) (b : Binds K fd ["_law_value_here"] []) : ∀ n : Nat, Cal P w K mg base (1 + n) "_law_turned" (spTurned K n) []
  | 0 => cal_no _ (fun vs H Q E ⟨v, d, _, _, _, h, _⟩ => absurd h (Nat.not_lt_zero _)) D b
  | n + 1 => by
    have c_LTurned := c_turned T D b n
    refine cal0 D b .nil scLTurned (fun vs H Q E h => ?_) (fun cdv A outer s H vs Q E hr h => ?_)
    · obtain ⟨v, d, rfl, _⟩ := h
      rfl
    · obtain ⟨v, d, rfl, hd, hv, hn, hw, q⟩ := h
      have nd := scLTurned.nd
      have hr := (show Room (1 + n) _ from hr)
      have line := sizeLine_eq
      refine ⟨_, (pss_cons (ps_if (pt_val (pe_callB call_isQ (by rfl) T.n_isinstance (by decide +kernel) (pa_cons (pv 0) (pa_cons (pe_bltn (v := .ty "tuple") (by rfl) T.n_tuple (by decide +kernel) rfl) pa_nil))))
      (pss_one (ps_ret (pe_callTy call_tuple_of (by rfl) T.n_tuple (by decide +kernel) (pa_cons (pe_lc (own := [("_law_part", 1)]) (g := gName 1) (by rfl) nd (pi_tup (pv 0)) (blkOk_by (own := [("_law_part", 1)]) (N := NLTurned) (sc := fnScope sLTurned) (by decide +kernel)) (fun _ _ _ _ _ => pg_name (i := 1) nd rfl (Or.inl rfl)) (fun _ _ _ _ _ => pts_nil) (fun _ _ _ _ _ => (pe_c c_LTurned hr (Nat.le_refl _) (by rfl) (pa_cons (pv 1) pa_nil)))) pa_nil))))
      pss_nil)
    (pss_cons (ps_if (pt_val (pe_callB call_isQ (by rfl) T.n_isinstance (by decide +kernel) (pa_cons (pv 0) (pa_cons (pe_bltn (v := .ty "bool") (by rfl) T.n_bool (by decide +kernel) rfl) pa_nil))))
      (pss_one (ps_ret (pe_callTy call_int1 (by rfl) T.n_int (by decide +kernel) (pa_cons (pv 0) pa_nil))))
      pss_nil)
    (pss_cons (ps_if (PW.pt (pw_and (pt_val (pe_callB call_isQ (by rfl) T.n_isinstance (by decide +kernel) (pa_cons (pv 0) (pa_cons (pe_bltn (v := .ty "int") (by rfl) T.n_int (by decide +kernel) rfl) pa_nil)))) (pw_and1 (pt_cmpR op_lt (pv 0) pe_int (nomark _)))))
      (pss_one (ps_ret (pe_cmpR op_eq (pv 0) pe_int (nomark _))))
      pss_nil)
    (pss_one (ps_ret (pv 0)))))), ?_⟩
      refine ⟨_, rfl, v, d, "tuple", rfl, Dp.q hd, by decide, _, rfl, ?_⟩
      have sr := Same.refl H
      cases hd with
      | non => simp [vv] at hv
      | lst _ _ => simp [vv] at hv
      | bl b =>
        refine iteF ⟨_, rfl, _, _, "bool", rfl, .bl b, by decide, _, rfl, iteT ?_⟩
        refine ⟨_, rfl, .inr ⟨b, rfl, q _ H sr ?_⟩⟩
        show Dp K H (.int (if b then 1 else 0)) (.int (if b then 1 else 0))
        exact .int _
      | str z =>
        refine iteF ⟨_, rfl, _, _, "bool", rfl, .str z, by decide, _, rfl, iteF ⟨_, rfl, _, _, "int", rfl, .str z, by decide, _, rfl, iteF ?_⟩⟩
        exact iteF ⟨_, rfl, q _ H sr (.str z)⟩
      | int i =>
        refine iteF ⟨_, rfl, _, _, "bool", rfl, .int i, by decide, _, rfl, iteF ⟨_, rfl, _, _, "int", rfl, .int i, by decide, _, rfl, iteT ?_⟩⟩
        refine ⟨_, rfl, _, _, rfl, rfl, _, rfl, ite2 (fun e => ?_) (fun e => ?_)⟩
        · have e1 : i < 2 := of_decide_eq_true e
          refine ⟨_, rfl, rfl, q _ H sr ?_⟩
          have : turn (.int i) = .bool (decide (V.int i = V.int 1)) := by
            rw [dec_vint]
            simp [turn, turn1, e1]
          rw [this]
          exact .bl _
        · have e1 : ¬ i < 2 := fun h => e (decide_eq_true h)
          refine ⟨_, rfl, q _ H sr ?_⟩
          have : turn (.int i) = .int i := by simp [turn, turn1, e1]
          rw [this]
          exact .int i
      | @tup a xs ds hq ha =>
        refine iteT ?_
        have hdv : vvs ds = true := by simpa [vv] using hv
        have hlen := ha.len
        have hwd : (PyData.tuple ds).weight = PyData.weightAll ds := by simp [PyData.weight]
        have hdl := len_weightAll ds
        have hdd : PyData.depthAll ds < n := by rw [PyData.depth] at hn; omega
        refine ⟨_, rfl, a, rfl, ⟨xs, hq⟩, fun Dl hDl => ?_⟩
        refine lc_tup (xs := xs) (fun i H' => Same H H' ∧ ∃ acc, H' Dl = some (.lst acc) ∧ acc.length = i ∧ DpAll K (hid Dl H') acc ((ds.take i).map turn)) ⟨Same.new hDl, [], upd_same, rfl, .nil⟩ (fun i H' hi h => sqT_mono h.1 hq) (fun i x H' hx1 hW => ?_) (fun H' hW => ?_)
        · obtain ⟨sm, acc, hat, hal, hD⟩ := hW
          obtain ⟨d2, hd2, Dd⟩ := dp_at ha hx1
          have hm := List.mem_of_getElem? hd2
          have h1 := weight_mem hm
          have h2 := depth_mem hm
          have hil : i < ds.length := (List.getElem?_eq_some_iff.mp hd2).1
          refine ⟨rfl, ?_⟩
          unfold tYes; dsimp only
          rw [if_pos rfl]
          refine ⟨_, rfl, x, d2, rfl, Dd.mono sm, vv_mem hdv hm, by omega, by omega, fun u H3 s3 Du => ?_⟩
          have hat3 := s3 _ _ hat
          refine ⟨acc, hat3, by omega, fun b o hb => ?_, acc ++ [u], upd_same, by rw [List.length_append, hal]; rfl, ?_⟩
          · rw [upd_ne (ne_of_none hb hDl)]
            exact s3 _ _ (sm b o hb)
          · rw [hid_upd, take_succ hd2, List.map_append]
            exact (DpAll.mono (hid_same s3) hD).app (.cons (dp_hid hat3 (vv_noL (turn_ok (vv_mem hdv hm)).1).1 Du) .nil)
        · obtain ⟨sm, acc, hat, hal, hD⟩ := hW
          rw [List.take_of_length_le (by omega)] at hD
          refine ⟨Dl, acc, rfl, .inl ⟨SqL.of hat, fun t ht => ?_⟩⟩
          refine q _ _ (sm.trans (Same.new ht)) ?_
          rw [turn, turns_map]
          exact Dp.newT0 ht (DpAll.mono hid_in hD)
abbrev sLSecond : Stmt := topS 19
abbrev NLSecond : List Str := ["_law_pot_here", "_law_value_here", "_law_way"]
theorem scLSecond : FnScope NLSecond ["_law_pot_here", "_law_value_here"] (fnScope sLSecond) := ⟨rfl, rfl, rfl, by decide +kernel, rfl, by decide +kernel, by decide +kernel⟩
def spSecond (K : PySem.W.Frag) : Sp := fun vs H Q _ => ∃ (p : Addr) (x y : Int) (v : V) (d : PyData), vs = [.ref p, v] ∧ Pot H p x y ∧ Dh K p H v d ∧ vv d = true ∧ Ok 3 2000 d ∧ ∀ u e H', Dh K p H' u e → vv e = true → Ok 6 8000 e → Going p H H' → Q u H'
theorem c_second (T : Tp mg) (c_LTake : Cal P w K mg base 1 "_law_take" spTake []) (c_LValue : Cal P w K mg base 7 "_law_value" (spValue K 4) []) (c_LTurned : Cal P w K mg base 11 "_law_turned" (spTurned K 10) []) {f : Addr} {fd : FuncData} (D : Def K mg "_law_second" sLSecond f fd) (b : Binds K fd ["_law_pot_here", "_law_value_here"] []) :
    Cal P w K mg base 12 "_law_second" (spSecond K) [] := by
  refine cal0 D b .nil scLSecond (fun vs H Q E h => ?_) (fun cdv A outer s H vs Q E hr h => ?_)
  · obtain ⟨p, x, y, v, d, rfl, _⟩ := h
    rfl
  · obtain ⟨p, x, y, v, d, rfl, hp, hd, hv, ho, q⟩ := h
    have nd := scLSecond.nd
    have line := sizeLine_eq
    refine ⟨_, (pss_cons (ps_set (i := 2) nd rfl (.inl rfl) (pe_c c_LTake hr (by decide) (by rfl) (pa_cons (pv 0) (pa_cons pe_int pa_nil))))
    (pss_cons (ps_if (pt_cmpR op_eq (pv 2) pe_int (nomark _))
      (pss_one (ps_ret (pe_c c_LValue hr (by decide) (by rfl) (pa_cons (pv 0) (pa_cons pe_int (pa_cons pe_bl pa_nil))))))
      pss_nil)
    (pss_cons (ps_if (pt_cmpR op_eq (pv 2) pe_int (nomark _))
      (pss_one (ps_ret (pe_c c_LTurned hr (by decide) (by rfl) (pa_cons (pv 1) pa_nil))))
      pss_nil)
    (C8.pss_cut (ps_if (PW.pt (pw_and (pt_cmpR op_eq (pv 2) pe_int (nomark _)) (pw_and1 (pt_val (pe_callB call_isQ (by rfl) T.n_isinstance (by decide +kernel) (pa_cons (pv 1) (pa_cons (pe_bltn (v := .ty "tuple") (by rfl) T.n_tuple (by decide +kernel) rfl) pa_nil)))))))
      (pss_one (ps_ret (pe_op op_catA (pv 1) (pe_slice sl_tupA (pv 1) po_none (po_some pe_int)))))
      pss_nil)
    (C8.pss_cut (ps_if (PW.pt (pw_and (pt_cmpR op_eq (pv 2) pe_int (nomark _)) (pw_and1 (pt_val (pe_callB call_isQ (by rfl) T.n_isinstance (by decide +kernel) (pa_cons (pv 1) (pa_cons (pe_bltn (v := .ty "tuple") (by rfl) T.n_tuple (by decide +kernel) rfl) pa_nil)))))))
      (pss_one (ps_ret (pe_slice sl_tupA (pv 1) po_none (po_some (pe_un un_neg pe_int)))))
      pss_nil)
    (pss_cons (ps_if (pt_cmpR op_eq (pv 2) pe_int (nomark _))
      (pss_one (ps_ret (pe_tup (pa_cons (pv 1) pa_nil))))
      pss_nil)
    (pss_cons (ps_if (pt_val (pe_callB call_isQ (by rfl) T.n_isinstance (by decide +kernel) (pa_cons (pv 1) (pa_cons (pe_bltn (v := .ty "tuple") (by rfl) T.n_tuple (by decide +kernel) rfl) pa_nil))))
      (pss_one (ps_ret (pe_callTy call_tuple_of (by rfl) T.n_tuple (by decide +kernel) (pa_cons (pe_callTy call_list_of (by rfl) T.n_list (by decide +kernel) (pa_cons (pv 1) pa_nil)) pa_nil))))
      pss_nil)
    (pss_one (ps_ret (pv 1)))))))))), ?_⟩
    refine ⟨_, rfl, p, x, y, 6, rfl, hp, by decide, by decide, fun r x1 y1 r0 r1 hp1 => ?_⟩
    have g1 := going_pot (But.refl p H) hp1
    have hd1 := hd.but g1.1
    generalize hH1 : upd H p (.lst [.int x1, .int y1]) = H1 at *
    have hw := ho.wt
    have hdep := ho.dep
    refine ⟨_, rfl, rfl, _, rfl, ite2 (fun e => ?_) (fun e => ?_)⟩
    · exact ⟨_, rfl, p, x1, y1, 2, rfl, by decide, hp1, fun v d H2 ok hv2 D2 g2 => q v d H2 D2 hv2 (ok.mono (by decide) (by decide)) (g1.trans g2)⟩
    · refine ⟨_, rfl, rfl, _, rfl, ite2 (fun e1 => ?_) (fun e1 => ?_)⟩
      · refine ⟨_, rfl, v, d, rfl, hd1.un, hv, by omega, by omega, fun u H2 s2 Du => ?_⟩
        have tv := (turn_ok hv).1
        exact q u _ H2 (dp_hid (s2 _ _ hp1.at_) (vv_noL tv).1 Du) tv ((turn_Ok hv ho).mono (by decide) (by decide)) (g1.same s2)
      · refine ⟨fun σ' H' => σ' = [some (.ref p), some v, some (.int r)] ∧ H' = H1, ?_, ?_⟩
        · refine ⟨_, rfl, rfl, _, rfl, ite2 (fun e2 => ⟨_, rfl, v, d, "tuple", rfl, Dp.q hd1.un, by decide, _, rfl, ite2 (fun e3 => ?_) (fun e3 => ⟨rfl, rfl⟩)⟩) (fun e2 => iteF ⟨rfl, rfl⟩)⟩
          cases hd1 with
          | @tup a xs ds hq ha =>
            have hdv : vvs ds = true := by simpa [vv] using hv
            have hlen := ha.len
            have hq1 := sqT_in hq
            have oka := ok_tup_inv (n := 2) ho
            have hdl := len_weightAll ds
            have hwd := oka.wt
            have hix : HT.sIx xs.length xs.length (some 1) = min 1 xs.length := HT.sIx_nat xs.length xs.length 1
            refine ⟨_, rfl, _, rfl, 1, rfl, a, xs, rfl, hq1, fun hh => ?_, fun hh l hl => ?_⟩
            · rw [hix] at hh
              refine ⟨a, a, xs, xs, rfl, rfl, hq1, hq1, by omega, fun hx => ?_, fun hx hy => absurd hy hx, fun hx _ l hl => ?_⟩
              · exact q _ (.tuple ds) H1 (.tup hq ha) hv (ho.mono (by decide) (by decide)) g1
              · refine q _ (.tuple (ds ++ ds)) _ (Dp.newT hl (g1.ne hl) (ha.app ha)) (by simp only [vv]; exact vvs_app hdv hdv) ((Ok.tup (oka.app oka)).mono (by decide) (by decide)) (g1.new hl)
            · have ec : cutV xs none (some 1) = xs.take 1 := by
                unfold cutV
                rw [hix, HT.sIx_none]
                show xs.take (min 1 xs.length) = xs.take 1
                rcases Nat.lt_or_ge xs.length 1 with h | h
                · rw [show xs = [] from List.length_eq_zero_iff.mp (by omega)]; rfl
                · rw [Nat.min_eq_left h]
              rw [ec]
              have gl := g1.new (o := .tup (xs.take 1)) hl
              have Dt : DhAll K p H1 (xs.take 1) (ds.take 1) := dpAll_take 1 ha
              have hxn : xs ≠ [] := fun h => hh (by subst h; exact ⟨rfl, rfl⟩)
              refine ⟨a, l, xs, xs.take 1, rfl, rfl, sqT_mono (Same.new hl) hq1, SqT.of upd_same, by rw [List.length_take]; omega, fun hx => absurd hx hxn, fun hx hy => ?_, fun hx _ l2 hl2 => ?_⟩
              · exfalso
                cases xs with
                | nil => exact hxn rfl
                | cons _ _ => simp at hy
              · refine q _ (.tuple (ds ++ ds.take 1)) _ (Dp.newT hl2 (gl.ne hl2) ((DpAll.but (But.new hl) ha).app (DpAll.but (But.new hl) Dt))) (by simp only [vv]; exact vvs_app hdv (vvs_take 1 hdv)) ((Ok.tup (oka.app (oka.take_ 1))).mono (by decide) (by decide)) (gl.new hl2)
          | _ => exact Bool.noConfusion (show false = true from e3)
        · rintro σ2 H2 ⟨rfl, rfl⟩
          refine ⟨fun σ' H' => σ' = [some (.ref p), some v, some (.int r)] ∧ H' = H2, ?_, ?_⟩
          · refine ⟨_, rfl, rfl, _, rfl, ite2 (fun e2 => ⟨_, rfl, v, d, "tuple", rfl, Dp.q hd1.un, by decide, _, rfl, ite2 (fun e3 => ?_) (fun e3 => ⟨rfl, rfl⟩)⟩) (fun e2 => iteF ⟨rfl, rfl⟩)⟩
            cases hd1 with
            | @tup a xs ds hq ha =>
              have hdv : vvs ds = true := by simpa [vv] using hv
              have hlen := ha.len
              have hq1 := sqT_in hq
              have oka := ok_tup_inv (n := 2) ho
              have hix : HT.sIx xs.length xs.length (some (-1)) = xs.length - 1 := by
                show (if (-1 : Int) < 0 then ((-1 : Int) + (xs.length : Int)).toNat else min (-1 : Int).toNat xs.length) = xs.length - 1
                rw [if_pos (by decide)]
                omega
              refine ⟨_, rfl, _, rfl, -1, rfl, a, xs, rfl, hq1, fun hh => ?_, fun hh l hl => ?_⟩
              · exact q _ (.tuple ds) H2 (.tup hq ha) hv (ho.mono (by decide) (by decide)) g1
              · have ec : cutV xs none (some (-1)) = xs.take (xs.length - 1) := by
                  unfold cutV
                  rw [hix, HT.sIx_none]
                  rfl
                rw [ec]
                exact q _ (.tuple (ds.take (xs.length - 1))) _ (Dp.newT hl (g1.ne hl) (dpAll_take _ ha)) (by simp only [vv]; exact vvs_take _ hdv) ((Ok.tup (oka.take_ _)).mono (by decide) (by decide)) (g1.new hl)
            | _ => exact Bool.noConfusion (show false = true from e3)
          · rintro σ3 H3 ⟨rfl, rfl⟩
            refine ⟨_, rfl, rfl, _, rfl, ite2 (fun e4 => ?_) (fun e4 => ?_)⟩
            · refine ⟨_, rfl, (by show 1 ≤ sizeLine; decide), fun t ht => ?_⟩
              exact q _ (.tuple [d]) _ (Dp.newT ht (g1.ne ht) (.cons hd1 .nil)) (by simp [vv, vvs, hv]) ((Ok.tup (OkAll.cons (b := 0) ho .nil)).mono (by decide) (by decide)) (g1.new ht)
            · refine ⟨_, rfl, v, d, "tuple", rfl, Dp.q hd1.un, by decide, _, rfl, ite2 (fun e5 => ?_) (fun e5 => ?_)⟩
              · cases hd1 with
                | @tup a xs ds hq ha =>
                  refine ⟨_, rfl, a, xs, rfl, .inr (sqT_in hq), fun l hl => ⟨l, xs, rfl, .inl ⟨SqL.of upd_same, fun t ht => ?_⟩⟩⟩
                  exact q _ (.tuple ds) _ (Dp.newT ht ((g1.new hl).ne ht) (DpAll.but (But.new hl) ha)) hv (ho.mono (by decide) (by decide)) ((g1.new hl).new ht)
                | _ => exact Bool.noConfusion (show false = true from e5)
              · exact ⟨_, rfl, q v d _ hd1 hv (ho.mono (by decide) (by decide)) g1⟩
end
end K14
set_option Elab.async false
set_option linter.all false
set_option maxRecDepth 100000
set_option maxHeartbeats 4000000
namespace K14
open PySem PySem.Spec PyProof.Rows L2
open C8 (Cal Def cal0 pe_c fnBody fnScope fnArgs)
theorem sqL_but {K : PySem.W.Frag} {p a : Addr} {H H' : Hp} {xs : List V} (hp : H p = none) (h : SqL K H a xs) (e : But p H H') : SqL K H' a xs := by
  rcases h with (h | ⟨o, h⟩) | h
  · exact .inl (.inl (e _ _ (ne_of_none h hp) h))
  · exact .inl (.inr ⟨o, e _ _ (ne_of_none h hp) h⟩)
  · exact .inr h
theorem wv_le {m : Nat} (h : m ≤ 3) : wv m ≤ 2000 := by
  rcases m with _ | _ | _ | _ | m
  · decide
  · decide
  · decide
  · decide
  · omega
structure OkKv (n m : Nat) (ps : List (PyData × PyData)) : Prop where
  dep : PyData.depthKv ps ≤ n
  wt : PyData.weightKv ps ≤ m
  ls : PyData.leavesShortKv 14 ps = true
  shw : PyData.showableKv ps = true
theorem OkKv.cons {n a b : Nat} {k v : PyData} {ps : List (PyData × PyData)} (hk : Ok n a k) (hv : Ok n a v) (t : OkKv n b ps) : OkKv n (2 * a + 2 + b) ((k, v) :: ps) :=
  ⟨by simp only [PyData.depthKv]; exact Nat.max_le.mpr ⟨Nat.max_le.mpr ⟨hk.dep, hv.dep⟩, t.dep⟩, by simp only [PyData.weightKv]; have := hk.wt; have := hv.wt; have := t.wt; omega, by simp only [PyData.leavesShortKv, hk.ls, hv.ls, t.ls, Bool.and_self], by simp only [PyData.showableKv, hk.shw, hv.shw, t.shw, Bool.and_self]⟩
theorem Ok.dict {n m : Nat} {ps : List (PyData × PyData)} (h : OkKv n m ps) : Ok (n + 1) m (.dict ps) :=
  ⟨by simp only [PyData.depth]; have := h.dep; omega, by simp only [PyData.weight]; exact h.wt, by simp only [PyData.leavesShort, h.ls], by simp only [PyData.showable, h.shw]⟩
theorem Ok.shownR_ {n m : Nat} {d : PyData} (h : Ok n m d) (hn : n ≤ 64) (hm : m ≤ 100000) : shownR d := by
  have hw := h.wt
  have := PyData.shown_le 14 (by decide) d h.ls
  have hd := h.dep
  exact ⟨h.shw, by omega, by rw [sizeLine_eq]; omega⟩
theorem Ok.shownQ_ {n m : Nat} {d : PyData} (h : Ok n m d) (hn : n ≤ 64) (hm : m ≤ 100000) (hv : vv d = true) : shownQ d := h.shown hn hm fun _ => (nl_noL (vv_noL hv).1).1
section
variable {K : PySem.W.Frag}
theorem recs_dr {H : Hp} : ∀ {kvs : List (Key × V)}, (∀ q ∈ kvs, RGood K H q) → ∃ ps, DrAll K H (kvs.map fun q => kV q.1) (ps.map (·.1)) ∧ DrAll K H (kvs.map (·.2)) (ps.map (·.2)) ∧ OkKv 3 (kvs.length * 402) ps
  | [], _ => ⟨[], .nil, .nil, by simp [PyData.depthKv], by simp [PyData.weightKv], by simp [PyData.leavesShortKv], by simp [PyData.showableKv]⟩
  | q :: kvs, h => by
    obtain ⟨ps, h1, h2, h3⟩ := recs_dr fun q hq => h q (List.mem_cons_of_mem _ hq)
    obtain ⟨z, t, n, pv, pd, rfl, g2, g3, g4, g5, g6, g7, g8, g9⟩ := h q List.mem_cons_self
    refine ⟨(.str z, .tuple [.str n, pd]) :: ps, .cons (.str z) h1, .cons (.tup g6 (.cons (.str n) (.cons (Dp.r g8 g7) .nil))) h2, ?_⟩
    have o := OkKv.cons (n := 3) (a := 200) (ref_ok g2 g3 (by omega)) ((Ok.tup (n := 2) (OkAll.cons (a := 8) (.str g5 (asc_of g4)) (OkAll.cons (b := 0) g9 .nil))).mono (Nat.le_refl _) (by decide)) h3
    have e : (((Sum.inr z, V.ref t) :: kvs : List (Key × V))).length * 402 = 2 * 200 + 2 + kvs.length * 402 := by rw [List.length_cons]; omega
    rw [e]
    exact o
end
section
variable {P : Program} {w : World} {K : PySem.W.Frag} {mg : Str → Option Value} {base : Heap}
abbrev sLaw : Stmt := topS 20
abbrev NLaw : List Str := ["_law_script", "_law_k", "_law_pot_here", "_law_records_here", "_law_kind_here", "_law_values", "_law_kept", "_law_value_here", "_law_found", "_law_second_here", "_law_told"]
theorem scLaw : FnScope NLaw ["_law_script"] (fnScope sLaw) := ⟨rfl, rfl, rfl, by decide +kernel, rfl, by decide +kernel, by decide +kernel⟩
def spLaw (K : PySem.W.Frag) : Sp := fun vs H Q _ => ∃ (a : Addr) (ns : List Int), vs = [.ref a] ∧ SqL K H a (ns.map V.int) ∧ ns.length ≤ 63 ∧ ∀ H', Q (.bl true) H'
theorem f_law (T : Tp mg) (c_LCellAt : Cal P w K mg base 1 "_law_cell_at" (spCellAt K) []) (c_LPot : Cal P w K mg base 1 "_law_pot" spPot []) (c_LRecords : Cal P w K mg base 2 "_law_records" (spRecords K) []) (c_LKind : Cal P w K mg base 6 "_law_kind" (spKind K 4) [])
    (c_LOf : Cal P w K mg base 7 "_law_of" (spOf K 4) []) (c_LValue : Cal P w K mg base 7 "_law_value" (spValue K 4) []) (c_PIsOf : Cal P w K mg base 3 "is_of" (spIsOf K) []) (c_LIsOf : Cal P w K mg base 5 "_law_is_of" (spLIsOf K 4) []) (c_LSecond : Cal P w K mg base 12 "_law_second" (spSecond K) [])
    (c_PAlikeValues : Cal P w K mg base 1 "alike_values" (spAlike K) []) (c_LSame : CalG P w K mg base 1 "_law_same" (spSame K))
    {f : Addr} {fd : FuncData} (D : Def K mg "law" sLaw f fd) : FnG P w K mg base C8.CX0 13 f fd ["_law_script"] (spLaw K) := by
  refine fnG0 D scLaw (fun vs H Q E h => ?_) (fun cdv A outer s H vs Q E hg hr h => ?_)
  · obtain ⟨a, ns, rfl, _⟩ := h
    rfl
  · obtain ⟨a, ns, rfl, hS, hn, q⟩ := h
    have nd := scLaw.nd
    refine ⟨_, (pss_cons (ps_for PassesOwn.never rfl (pi_range1 (by rfl) T.n_range (pa_cons (pe_callB (call_max2 rfl) (by rfl) T.n_max (by decide +kernel) (pa_cons pe_int (pa_cons (pe_callB (call_min2 rfl) (by rfl) T.n_min (by decide +kernel) (pa_cons (pe_callB call_len_seq (by rfl) T.n_len (by decide +kernel) (pa_cons (pv 0) pa_nil)) (pa_cons pe_int pa_nil))) pa_nil))) pa_nil)) (pg_name (i := 1) nd rfl (.inl rfl))
      (pss_cons (ps_set (i := 2) nd rfl (.inl rfl) (pe_c c_LPot hr (by decide) (by rfl) (pa_cons (pe_c c_LCellAt hr (by decide) (by rfl) (pa_cons (pv 0) (pa_cons (pv 1) pa_nil))) (pa_cons (pv 1) pa_nil))))
    (pss_cons (ps_set (i := 3) nd rfl (.inl rfl) (pe_c c_LRecords hr (by decide) (by rfl) (pa_cons (pv 2) pa_nil)))
    (pss_cons (ps_set (i := 4) nd rfl (.inl rfl) (pe_c c_LKind hr (by decide) (by rfl) (pa_cons (pv 2) (pa_cons pe_int pa_nil))))
    (pss_cons (ps_set (i := 5) nd rfl (.inl rfl) (pe_lstN (pa_cons (pe_c c_LOf hr (by decide) (by rfl) (pa_cons (pv 2) (pa_cons (pv 4) (pa_cons (pv 3) pa_nil)))) (pa_cons (pe_c c_LValue hr (by decide) (by rfl) (pa_cons (pv 2) (pa_cons pe_int (pa_cons pe_bl pa_nil)))) pa_nil))))
    (C8.pss_cut (ps_set (i := 6) nd rfl (.inl rfl) (pe_callB (call_reprR hg (hrep_of hr)) (by rfl) T.n_repr (by decide +kernel) (pa_cons (pe_tup (pa_cons (pv 4) (pa_cons (pv 3) (pa_cons (pv 5) pa_nil)))) pa_nil)))
    (pss_cons (ps_for PassesOwn.never rfl (pi_list (pv 5)) (pg_name (i := 7) nd rfl (.inl rfl))
      (pss_cons (ps_set (i := 8) nd rfl (.inl rfl) (pe_c c_PIsOf hr (by decide) (by rfl) (pa_cons (pv 4) (pa_cons (pv 7) (pa_cons (pv 3) pa_nil)))))
    (pss_cons (ps_if (PW.pt (pw_or (pt_not (pt_val (pe_callB call_isQ (by rfl) T.n_isinstance (by decide +kernel) (pa_cons (pv 8) (pa_cons (pe_bltn (v := .ty "bool") (by rfl) T.n_bool (by decide +kernel) rfl) pa_nil))))) (pw_or1 (pt_cmpR op_ne (pv 8) (pe_c c_LIsOf hr (by decide) (by rfl) (pa_cons (pv 4) (pa_cons (pv 7) (pa_cons (pv 3) pa_nil)))) (nomark _)))))
      (pss_one (ps_ret pe_bl))
      pss_nil)
    (pss_cons (ps_set (i := 9) nd rfl (.inl rfl) (pe_c c_LSecond hr (by decide) (by rfl) (pa_cons (pv 2) (pa_cons (pv 7) pa_nil))))
    (pss_one (ps_for PassesOwn.never rfl (pi_list (pe_lst (pa_cons (pe_c c_PAlikeValues hr (by decide) (by rfl) (pa_cons (pv 7) (pa_cons (pv 9) pa_nil))) (pa_cons (pe_c c_PAlikeValues hr (by decide) (by rfl) (pa_cons (pv 9) (pa_cons (pv 7) pa_nil))) pa_nil)))) (pg_name (i := 10) nd rfl (.inl rfl))
      (pss_one (ps_if (PW.pt (pw_or (pt_not (pt_val (pe_callB call_isQ (by rfl) T.n_isinstance (by decide +kernel) (pa_cons (pv 10) (pa_cons (pe_bltn (v := .ty "bool") (by rfl) T.n_bool (by decide +kernel) rfl) pa_nil))))) (pw_or1 (pt_cmpR op_ne (pv 10) (pe_cg c_LSame hg hr (by decide) (by rfl) (pa_cons (pv 7) (pa_cons (pv 9) pa_nil))) (nomark _)))))
      (pss_one (ps_ret pe_bl))
      pss_nil))))))))
    (pss_one (ps_if (pt_cmpR op_ne (pe_callB (call_reprR hg (hrep_of hr)) (by rfl) T.n_repr (by decide +kernel) (pa_cons (pe_tup (pa_cons (pv 4) (pa_cons (pv 3) (pa_cons (pv 5) pa_nil)))) pa_nil)) (pv 6) (nomark _))
      (pss_one (ps_ret pe_bl))
      pss_nil)))))))))
    (pss_one (ps_ret pe_bl))), ?_⟩
    have hlen : (ns.map V.int).length = ns.length := List.length_map ..
    refine ⟨_, rfl, a, _, rfl, .inl hS, _, _, rfl, _, _, rfl, _, rfl, ?_, ?_, ?_⟩
    · split <;> split <;> omega
    · split <;> split <;> omega
    · refine for_range (lo := 0) (n := (if (if (30 : Int) < ((ns.map V.int).length : Nat) then (30 : Int) else ((ns.map V.int).length : Nat)) > 1 then (if (30 : Int) < ((ns.map V.int).length : Nat) then (30 : Int) else ((ns.map V.int).length : Nat)) else 1).toNat)
        (fun i σ H' => (∃ o1 o2 o3 o4 o5 o6 o7 o8 o9 o10, σ = [some (.ref a), o1, o2, o3, o4, o5, o6, o7, o8, o9, o10]) ∧ SqL K H' a (ns.map V.int)) ⟨⟨_, _, _, _, _, _, _, _, _, _, rfl⟩, hS⟩ (fun i σ H' hi hW => ?_) (fun σ H' hW => ?_)
      · obtain ⟨⟨o1, o2, o3, o4, o5, o6, o7, o8, o9, o10, rfl⟩, hS'⟩ := hW
        have hi' : i ≤ 100 := by
          have h2 : i < _ := hi
          split at h2 <;> (try split at h2) <;> omega
        have e0 : (0 : Int) + (i : Int) = (i : Int) := Int.zero_add _
        rw [e0]
        refine ⟨_, rfl, _, rfl, a, ns, i, rfl, hS', fun n => ⟨_, rfl, n, i, rfl, hi', fun p x y hpn hp => ?_⟩⟩
        have bS : But p H' (upd H' p (.lst [.int x, .int y])) := (But.refl p H').pot
        refine ⟨_, rfl, p, x, y, rfl, hp, fun ar H1 kvs R1 g1 => ?_⟩
        obtain ⟨x1, y1, hp1⟩ := g1.2
        refine ⟨_, rfl, p, x1, y1, 3, rfl, by decide, hp1, fun kv k H2 hk hkd D2 g2 => ?_⟩
        obtain ⟨x2, y2, hp2⟩ := g2.2
        refine ⟨_, rfl, _, rfl, _, rfl, p, x2, y2, kv, k, ar, kvs, rfl, by omega, hp2, D2, R1.but g2.1, fun v d H3 ok3 vv3 D3 g3 => ?_⟩
        obtain ⟨x3, y3, hp3⟩ := g3.2
        refine ⟨_, rfl, p, x3, y3, 3, rfl, by decide, hp3, fun v4 d4 H4 ok4 vv4 D4 g4 => ?_⟩
        refine ⟨(by show 2 ≤ sizeLine; decide), fun lv hlv nsys => ?_⟩
        have nlv := g4.ne hlv
        have b5 := But.new (p := p) (o := .lst [v, v4]) hlv
        have g5 := g4.new (o := .lst [v, v4]) hlv
        have gA : Going p H1 (upd H4 lv (.lst [v, v4])) := (g2.trans g3).trans g5
        have bAll : But p H' (upd H4 lv (.lst [v, v4])) := (bS.trans g1.1).trans gA.1
        have R5 : Recs K p (upd H4 lv (.lst [v, v4])) ar kvs := R1.but gA.1
        have D5k : Dh K p (upd H4 lv (.lst [v, v4])) kv k.d := D2.but (g3.trans g5).1
        have D5v : Dh K p (upd H4 lv (.lst [v, v4])) v d := D3.but g5.1
        have D5w : Dh K p (upd H4 lv (.lst [v, v4])) v4 d4 := D4.but b5
        have L5 : (upd H4 lv (.lst [v, v4])) lv = some (.lst [v, v4]) := upd_same
        obtain ⟨x5, y5, hp5⟩ := g5.2
        generalize hH5 : upd H4 lv (.lst [v, v4]) = H5 at *
        obtain ⟨ps, P1, P2, P3⟩ := recs_dr R5.all
        obtain ⟨f, hf⟩ := recs_rx R5
        have okd : Ok 3 2000 d := ok3.mono hkd (wv_le hkd)
        have okd4 : Ok 3 2000 d4 := ok4.mono (by decide) (wv_le (by decide))
        have okk : Ok 6 100 k.d := (kd_ok hk).mono (by omega) (by omega)
        have hl6 := R5.len
        have okp : Ok 6 3000 (.dict ps) := (Ok.dict P3).mono (by decide) (by omega)
        have okw : Ok 6 6000 (.list [d, d4]) := (Ok.lst (OkAll.cons okd (OkAll.cons (b := 0) okd4 .nil))).mono (by decide) (by decide)
        have okAll : Ok 7 10000 (.tuple [k.d, .dict ps, .list [d, d4]]) := (Ok.tup (n := 6) (OkAll.cons okk (OkAll.cons okp (OkAll.cons (b := 0) okw .nil)))).mono (Nat.le_refl _) (by decide)
        have shAll := okAll.shownR_ (by decide) (by decide)
        have lst5 : ∀ {H6 : Hp}, But p H5 H6 → H6 lv = some (.lst [v, v4]) := fun b6 => b6 _ _ nlv L5
        have rep : ∀ {H6 : Hp} {t : Addr}, But p H5 H6 → H6 t = none → Dr K (upd H6 t (.tup [kv, .ref ar, .ref lv])) (.ref t) (.tuple [k.d, .dict ps, .list [d, d4]]) := fun {H6 t} b6 ht => by
          have sm : Same (hid p H5) (upd H6 t (.tup [kv, .ref ar, .ref lv])) := fun b o hb => by
            obtain ⟨nb, hb⟩ := hid_some hb
            exact (Same.new ht) _ _ (b6 _ _ nb hb)
          refine .tup (.inl (.inl upd_same)) (.cons ((Dp.r (kd_pure k).2 D5k).mono sm) (.cons (.dct ((Same.new ht) _ _ (R5.but b6).at_) (P1.mono sm) (P2.mono sm)) (.cons (.lst nsys (SqL.of ((Same.new ht) _ _ (lst5 b6))) (.cons ((Dp.r (vv_noL vv3).2 D5v).mono sm) (.cons ((Dp.r (vv_noL vv4).2 D5w).mono sm) .nil))) .nil)))
        refine ⟨fun σ' H6 => ∃ o7 o8 o9 o10, σ' = [some (.ref a), some (.int (i : Int)), some (.ref p), some (.ref ar), some kv, some (.ref lv), some (.str (PyData.tuple [k.d, .dict ps, .list [d, d4]]).shown), o7, o8, o9, o10] ∧ Going p H5 H6, ?_, ?_⟩
        · refine ⟨_, rfl, _, rfl, _, rfl, (by show 3 ≤ sizeLine; decide), fun t ht => ⟨.ref t, _, rfl, rep (But.refl p H5) ht, shAll, ?_⟩⟩
          exact ⟨_, _, _, _, rfl, But.new ht, x5, y5, hp5.new ht⟩
        · rintro σ6 H6 ⟨p7, p8, p9, p10, rfl, g6⟩
          have each : ∀ (i : Nat) (x : V), [v, v4][i]? = some x → ∃ e, Dh K p H5 x e ∧ vv e = true ∧ Ok 3 2000 e := fun i x hx => by
            rcases i with _ | _ | i
            · cases hx; exact ⟨d, D5v, vv3, okd⟩
            · cases hx; exact ⟨d4, D5w, vv4, okd4⟩
            · simp at hx
          refine ⟨_, rfl, lv, rfl, ⟨_, SqL.of (lst5 g6.1)⟩, ?_⟩
          refine for_list (xs := [v, v4]) (fun j σ H7 => (∃ o7 o8 o9 o10, σ = [some (.ref a), some (.int (i : Int)), some (.ref p), some (.ref ar), some kv, some (.ref lv), some (.str (PyData.tuple [k.d, .dict ps, .list [d, d4]]).shown), o7, o8, o9, o10]) ∧ Going p H5 H7) ⟨⟨_, _, _, _, rfl⟩, g6⟩ (fun j σ H7 hj hW => SqL.of (lst5 hW.2.1)) (fun j x σ H7 hx hW => ?_) (fun σ H7 hW => ?_)
          · obtain ⟨⟨o7, o8, o9, o10, rfl⟩, g7⟩ := hW
            obtain ⟨e, De, ve, oe⟩ := each j x hx
            have hwe : e.weight ≤ 100000 := by have := oe.wt; omega
            have D7 : Dh K p H7 x e := De.but g7.1
            have D7k : Dh K p H7 kv k.d := D5k.but g7.1
            have R7 : Rx K H7 ar f := (hf.mono (hid_but g7.1)).mono hid_in
            refine ⟨_, rfl, _, rfl, _, rfl, kv, k, x, e, ar, f, rfl, D7k.un, D7.un, ve, hwe, R7, fun H8 s8 => ?_⟩
            refine ⟨_, rfl, .bl _, .bool _, "bool", rfl, .bl _, by decide, _, rfl, iteF ?_⟩
            refine ⟨_, rfl, _, rfl, _, rfl, _, rfl, kv, k, x, e, ar, f, rfl, by omega, D7k.un.mono s8, D7.un.mono s8, ve, hwe, R7.mono s8, fun H9 s9 => ⟨rfl, _, rfl, iteF' (by rw [decide_eq_true rfl]; rfl) ?_⟩⟩
            have s89 := s8.trans s9
            have g9 := g7.same s89
            obtain ⟨x9, y9, hp9⟩ := g9.2
            have D9 : Dh K p H9 x e := D7.but (But.same s89)
            refine ⟨_, rfl, _, rfl, p, x9, y9, x, e, rfl, hp9, D9, ve, oe, fun u eu HA Du vu ou gA2 => ?_⟩
            have DA : Dp K HA x e := (D9.but gA2.1).un
            have hwu : eu.weight ≤ 100000 := by have := ou.wt; omega
            have fit1 : Fit (e, eu) := ⟨ve, vu, by have := oe.dep; show e.depth ≤ 64; omega, by have := ou.dep; show eu.depth ≤ 64; omega⟩
            have fit2 : Fit (eu, e) := ⟨vu, ve, fit1.d2, fit1.d1⟩
            refine ⟨_, rfl, _, rfl, x, e, u, eu, rfl, DA, Du.un, fit1, hwe, fun HB sB => ⟨_, rfl, _, rfl, u, eu, x, e, rfl, Du.un.mono sB, DA.mono sB, fit2, hwu, fun HC sC => ⟨(by show 2 ≤ sizeLine; decide), fun lf hlf => ?_⟩⟩⟩
            have sD := (sB.trans sC).trans (Same.new (o := .lst [.bl (decide (e.shown = eu.shown)), .bl (decide (eu.shown = e.shown))]) hlf)
            have gD := (g9.trans gA2).same sD
            refine ⟨lf, rfl, ⟨_, SqL.of upd_same⟩, ?_⟩
            have eachB : ∀ (i : Nat) (z : V), [V.bl (decide (e.shown = eu.shown)), .bl (decide (eu.shown = e.shown))][i]? = some z → z = .bl (decide (e.shown = eu.shown)) := fun i z hz => by
              rcases i with _ | _ | i
              · cases hz; rfl
              · cases hz
                rw [decide_eq_decide.mpr (eq_comm (a := eu.shown) (b := e.shown))]
              · simp at hz
            generalize hHD : upd HC lf (.lst [.bl (decide (e.shown = eu.shown)), .bl (decide (eu.shown = e.shown))]) = HD at *
            have LD : HD lf = some (.lst [.bl (decide (e.shown = eu.shown)), .bl (decide (eu.shown = e.shown))]) := by rw [← hHD]; exact upd_same
            have DD : Dp K HD x e := DA.mono sD
            have UD : Dp K HD u eu := Du.un.mono sD
            refine for_list (xs := [.bl (decide (e.shown = eu.shown)), .bl (decide (eu.shown = e.shown))]) (fun j' σ HE => (∃ o10, σ = [some (.ref a), some (.int (i : Int)), some (.ref p), some (.ref ar), some kv, some (.ref lv), some (.str (PyData.tuple [k.d, .dict ps, .list [d, d4]]).shown), some x, some (.bl (isO f k e)), some u, o10]) ∧ Same HD HE) ⟨⟨_, rfl⟩, Same.refl _⟩ (fun j' σ HE _ hW => SqL.of (hW.2 _ _ LD)) (fun j' z σ HE hz hW => ?_) (fun σ HE hW => ?_)
            · obtain ⟨⟨q10, rfl⟩, sE⟩ := hW
              have ez := eachB j' z hz
              subst ez
              refine ⟨_, rfl, .bl _, .bool _, "bool", rfl, .bl _, by decide, _, rfl, iteF ?_⟩
              refine ⟨_, rfl, _, rfl, _, rfl, x, e, u, eu, rfl, Dp.q (DD.mono sE), Dp.q (UD.mono sE), oe.shownQ_ (by decide) (by decide) ve, ou.shownQ_ (by decide) (by decide) vu, rfl, _, rfl, iteF' (by rw [decide_eq_true rfl]; rfl) ?_⟩
              exact ⟨⟨_, rfl⟩, sE⟩
            · obtain ⟨⟨q10, rfl⟩, sE⟩ := hW
              exact ⟨⟨_, _, _, _, rfl⟩, gD.same sE⟩
          · obtain ⟨⟨o7, o8, o9, o10, rfl⟩, g7⟩ := hW
            refine ⟨_, rfl, _, rfl, _, rfl, (by show 3 ≤ sizeLine; decide), fun t ht => ⟨.ref t, _, rfl, rep g7.1 ht, shAll, _, rfl, rfl, _, rfl, iteF' (by rw [decide_eq_true rfl]; rfl) ?_⟩⟩
            exact ⟨⟨_, _, _, _, _, _, _, _, _, _, rfl⟩, sqL_but hpn hS' ((bAll.trans g7.1).trans (But.new ht))⟩
      · exact q H'
end
end K14
set_option Elab.async false
set_option linter.all false
set_option maxRecDepth 100000
set_option maxHeartbeats 8000000
namespace K14
open PySem PySem.Spec PyProof.Rows L2
open C8 (Cal Def cal0 pe_c fnBody fnScope fnArgs)
/-- a def of the module's top -/
theorem def_mk {K : PySem.W.Frag} {h : Heap} {mg : Str → Option Value} (X : K.In h) (G : h.Ns mainGlobals mg) {x : Str} {st : Stmt} {f : Addr} {oc : Value} {od an : Option Addr} {osl : Array (Option Value)} {kV doc pm cdv ct : Value}
    (a : PySem.W.nsIn K mainGlobals x = some (some (.ref f)))
    (l : K.lookup f = some ⟨oc, od, .func (PySem.W.fnOf x x (fnArgs st) (fnBody st) (fnScope st) .none kV doc pm an cdv ct), osl⟩)
    (c : PySem.W.codeIn K cdv x = true) (k : PySem.W.keepIn K (.ref f) = true) : Def K mg x st f (PySem.W.fnOf x x (fnArgs st) (fnBody st) (fnScope st) .none kV doc pm an cdv ct) :=
  ⟨⟨⟨oc, od, .none, kV, doc, pm, an, cdv, ct, osl, rfl, l, c⟩⟩, PySem.W.mg_of X G a, k⟩
theorem all_mk {l : PySem.W.OpenLaw} {w : World} {K : PySem.W.Frag} {h : Heap} {mg : Str → Option Value} {fa : Addr} (X : K.In h) (G : h.Ns mainGlobals mg) (hfa : mg "law" = some (.ref fa))
    {f1 : Addr} {od1 an1 : Option Addr} {sl1 : Array (Option Value)} {oc1 kV1 dc1 pm1 cd1 ct1 : Value}
    {f2 : Addr} {od2 an2 : Option Addr} {sl2 : Array (Option Value)} {oc2 kV2 dc2 pm2 cd2 ct2 : Value}
    {f3 : Addr} {od3 an3 : Option Addr} {sl3 : Array (Option Value)} {oc3 kV3 dc3 pm3 cd3 ct3 : Value}
    {f4 : Addr} {od4 an4 : Option Addr} {sl4 : Array (Option Value)} {oc4 kV4 dc4 pm4 cd4 ct4 : Value}
    {f5 : Addr} {od5 an5 : Option Addr} {sl5 : Array (Option Value)} {oc5 kV5 dc5 pm5 cd5 ct5 : Value}
    {f6 : Addr} {od6 an6 : Option Addr} {sl6 : Array (Option Value)} {oc6 kV6 dc6 pm6 cd6 ct6 : Value}
    {f7 : Addr} {od7 an7 : Option Addr} {sl7 : Array (Option Value)} {oc7 kV7 dc7 pm7 cd7 ct7 : Value}
    {f8 : Addr} {od8 an8 : Option Addr} {sl8 : Array (Option Value)} {oc8 kV8 dc8 pm8 cd8 ct8 : Value}
    {f9 : Addr} {od9 an9 : Option Addr} {sl9 : Array (Option Value)} {oc9 kV9 dc9 pm9 cd9 ct9 : Value}
    {f10 : Addr} {od10 an10 : Option Addr} {sl10 : Array (Option Value)} {oc10 kV10 dc10 pm10 cd10 ct10 : Value}
    {f11 : Addr} {od11 an11 : Option Addr} {sl11 : Array (Option Value)} {oc11 kV11 dc11 pm11 cd11 ct11 : Value}
    {f12 : Addr} {od12 an12 : Option Addr} {sl12 : Array (Option Value)} {oc12 kV12 dc12 pm12 cd12 ct12 : Value}
    {f13 : Addr} {od13 an13 : Option Addr} {sl13 : Array (Option Value)} {oc13 kV13 dc13 pm13 cd13 ct13 : Value}
    {f14 : Addr} {od14 an14 : Option Addr} {sl14 : Array (Option Value)} {oc14 kV14 dc14 pm14 cd14 ct14 : Value}
    {f15 : Addr} {od15 an15 : Option Addr} {sl15 : Array (Option Value)} {oc15 kV15 dc15 pm15 cd15 ct15 : Value}
    {f16 : Addr} {od16 an16 : Option Addr} {sl16 : Array (Option Value)} {oc16 kV16 dc16 pm16 cd16 ct16 : Value}
    {f17 : Addr} {od17 an17 : Option Addr} {sl17 : Array (Option Value)} {oc17 kV17 dc17 pm17 cd17 ct17 : Value}
    {f18 : Addr} {od18 an18 : Option Addr} {sl18 : Array (Option Value)} {oc18 kV18 dc18 pm18 cd18 ct18 : Value}
    {u_NUMBERS : Value}
    (a1 : PySem.W.nsIn K mainGlobals "is_number" = some (some (.ref f1))) (l1 : K.lookup f1 = some ⟨oc1, od1, .func (PySem.W.fnOf "is_number" "is_number" (fnArgs sPIsNumber) (fnBody sPIsNumber) (fnScope sPIsNumber) .none kV1 dc1 pm1 an1 cd1 ct1), sl1⟩) (c1 : PySem.W.codeIn K cd1 "is_number" = true) (k1 : PySem.W.keepIn K (.ref f1) = true)
    (a2 : PySem.W.nsIn K mainGlobals "is_of" = some (some (.ref f2))) (l2 : K.lookup f2 = some ⟨oc2, od2, .func (PySem.W.fnOf "is_of" "is_of" (fnArgs sPIsOf) (fnBody sPIsOf) (fnScope sPIsOf) .none kV2 dc2 pm2 an2 cd2 ct2), sl2⟩) (c2 : PySem.W.codeIn K cd2 "is_of" = true) (k2 : PySem.W.keepIn K (.ref f2) = true)
    (a3 : PySem.W.nsIn K mainGlobals "_is_of_bare" = some (some (.ref f3))) (l3 : K.lookup f3 = some ⟨oc3, od3, .func (PySem.W.fnOf "_is_of_bare" "_is_of_bare" (fnArgs sPIsOfBare) (fnBody sPIsOfBare) (fnScope sPIsOfBare) .none kV3 dc3 pm3 an3 cd3 ct3), sl3⟩) (c3 : PySem.W.codeIn K cd3 "_is_of_bare" = true) (k3 : PySem.W.keepIn K (.ref f3) = true)
    (a4 : PySem.W.nsIn K mainGlobals "alike_values" = some (some (.ref f4))) (l4 : K.lookup f4 = some ⟨oc4, od4, .func (PySem.W.fnOf "alike_values" "alike_values" (fnArgs sPAlikeValues) (fnBody sPAlikeValues) (fnScope sPAlikeValues) .none kV4 dc4 pm4 an4 cd4 ct4), sl4⟩) (c4 : PySem.W.codeIn K cd4 "alike_values" = true) (k4 : PySem.W.keepIn K (.ref f4) = true)
    (a5 : PySem.W.nsIn K mainGlobals "_law_cell_at" = some (some (.ref f5))) (l5 : K.lookup f5 = some ⟨oc5, od5, .func (PySem.W.fnOf "_law_cell_at" "_law_cell_at" (fnArgs sLCellAt) (fnBody sLCellAt) (fnScope sLCellAt) .none kV5 dc5 pm5 an5 cd5 ct5), sl5⟩) (c5 : PySem.W.codeIn K cd5 "_law_cell_at" = true) (k5 : PySem.W.keepIn K (.ref f5) = true)
    (a6 : PySem.W.nsIn K mainGlobals "_law_pot" = some (some (.ref f6))) (l6 : K.lookup f6 = some ⟨oc6, od6, .func (PySem.W.fnOf "_law_pot" "_law_pot" (fnArgs sLPot) (fnBody sLPot) (fnScope sLPot) .none kV6 dc6 pm6 an6 cd6 ct6), sl6⟩) (c6 : PySem.W.codeIn K cd6 "_law_pot" = true) (k6 : PySem.W.keepIn K (.ref f6) = true)
    (a7 : PySem.W.nsIn K mainGlobals "_law_take" = some (some (.ref f7))) (l7 : K.lookup f7 = some ⟨oc7, od7, .func (PySem.W.fnOf "_law_take" "_law_take" (fnArgs sLTake) (fnBody sLTake) (fnScope sLTake) .none kV7 dc7 pm7 an7 cd7 ct7), sl7⟩) (c7 : PySem.W.codeIn K cd7 "_law_take" = true) (k7 : PySem.W.keepIn K (.ref f7) = true)
    (a8 : PySem.W.nsIn K mainGlobals "_law_number" = some (some (.ref f8))) (l8 : K.lookup f8 = some ⟨oc8, od8, .func (PySem.W.fnOf "_law_number" "_law_number" (fnArgs sLNumber) (fnBody sLNumber) (fnScope sLNumber) .none kV8 dc8 pm8 an8 cd8 ct8), sl8⟩) (c8 : PySem.W.codeIn K cd8 "_law_number" = true) (k8 : PySem.W.keepIn K (.ref f8) = true)
    (a9 : PySem.W.nsIn K mainGlobals "_law_ref" = some (some (.ref f9))) (l9 : K.lookup f9 = some ⟨oc9, od9, .func (PySem.W.fnOf "_law_ref" "_law_ref" (fnArgs sLRef) (fnBody sLRef) (fnScope sLRef) .none kV9 dc9 pm9 an9 cd9 ct9), sl9⟩) (c9 : PySem.W.codeIn K cd9 "_law_ref" = true) (k9 : PySem.W.keepIn K (.ref f9) = true)
    (a10 : PySem.W.nsIn K mainGlobals "_law_value" = some (some (.ref f10))) (l10 : K.lookup f10 = some ⟨oc10, od10, .func (PySem.W.fnOf "_law_value" "_law_value" (fnArgs sLValue) (fnBody sLValue) (fnScope sLValue) .none kV10 dc10 pm10 an10 cd10 ct10), sl10⟩) (c10 : PySem.W.codeIn K cd10 "_law_value" = true) (k10 : PySem.W.keepIn K (.ref f10) = true)
    (a11 : PySem.W.nsIn K mainGlobals "_law_kind" = some (some (.ref f11))) (l11 : K.lookup f11 = some ⟨oc11, od11, .func (PySem.W.fnOf "_law_kind" "_law_kind" (fnArgs sLKind) (fnBody sLKind) (fnScope sLKind) .none kV11 dc11 pm11 an11 cd11 ct11), sl11⟩) (c11 : PySem.W.codeIn K cd11 "_law_kind" = true) (k11 : PySem.W.keepIn K (.ref f11) = true)
    (a12 : PySem.W.nsIn K mainGlobals "_law_records" = some (some (.ref f12))) (l12 : K.lookup f12 = some ⟨oc12, od12, .func (PySem.W.fnOf "_law_records" "_law_records" (fnArgs sLRecords) (fnBody sLRecords) (fnScope sLRecords) .none kV12 dc12 pm12 an12 cd12 ct12), sl12⟩) (c12 : PySem.W.codeIn K cd12 "_law_records" = true) (k12 : PySem.W.keepIn K (.ref f12) = true)
    (a13 : PySem.W.nsIn K mainGlobals "_law_of" = some (some (.ref f13))) (l13 : K.lookup f13 = some ⟨oc13, od13, .func (PySem.W.fnOf "_law_of" "_law_of" (fnArgs sLOf) (fnBody sLOf) (fnScope sLOf) .none kV13 dc13 pm13 an13 cd13 ct13), sl13⟩) (c13 : PySem.W.codeIn K cd13 "_law_of" = true) (k13 : PySem.W.keepIn K (.ref f13) = true)
    (a14 : PySem.W.nsIn K mainGlobals "_law_is_of" = some (some (.ref f14))) (l14 : K.lookup f14 = some ⟨oc14, od14, .func (PySem.W.fnOf "_law_is_of" "_law_is_of" (fnArgs sLIsOf) (fnBody sLIsOf) (fnScope sLIsOf) .none kV14 dc14 pm14 an14 cd14 ct14), sl14⟩) (c14 : PySem.W.codeIn K cd14 "_law_is_of" = true) (k14 : PySem.W.keepIn K (.ref f14) = true)
    (a15 : PySem.W.nsIn K mainGlobals "_law_same" = some (some (.ref f15))) (l15 : K.lookup f15 = some ⟨oc15, od15, .func (PySem.W.fnOf "_law_same" "_law_same" (fnArgs sLSame) (fnBody sLSame) (fnScope sLSame) .none kV15 dc15 pm15 an15 cd15 ct15), sl15⟩) (c15 : PySem.W.codeIn K cd15 "_law_same" = true) (k15 : PySem.W.keepIn K (.ref f15) = true)
    (a16 : PySem.W.nsIn K mainGlobals "_law_turned" = some (some (.ref f16))) (l16 : K.lookup f16 = some ⟨oc16, od16, .func (PySem.W.fnOf "_law_turned" "_law_turned" (fnArgs sLTurned) (fnBody sLTurned) (fnScope sLTurned) .none kV16 dc16 pm16 an16 cd16 ct16), sl16⟩) (c16 : PySem.W.codeIn K cd16 "_law_turned" = true) (k16 : PySem.W.keepIn K (.ref f16) = true)
    (a17 : PySem.W.nsIn K mainGlobals "_law_second" = some (some (.ref f17))) (l17 : K.lookup f17 = some ⟨oc17, od17, .func (PySem.W.fnOf "_law_second" "_law_second" (fnArgs sLSecond) (fnBody sLSecond) (fnScope sLSecond) .none kV17 dc17 pm17 an17 cd17 ct17), sl17⟩) (c17 : PySem.W.codeIn K cd17 "_law_second" = true) (k17 : PySem.W.keepIn K (.ref f17) = true)
    (a18 : PySem.W.nsIn K mainGlobals "law" = some (some (.ref f18))) (l18 : K.lookup f18 = some ⟨oc18, od18, .func (PySem.W.fnOf "law" "law" (fnArgs sLaw) (fnBody sLaw) (fnScope sLaw) .none kV18 dc18 pm18 an18 cd18 ct18), sl18⟩) (c18 : PySem.W.codeIn K cd18 "law" = true) (k18 : PySem.W.keepIn K (.ref f18) = true)
    (z_isinstance : PySem.W.nsIn K mainGlobals "isinstance" = some none)
    (z_str : PySem.W.nsIn K mainGlobals "str" = some none)
    (z_tuple : PySem.W.nsIn K mainGlobals "tuple" = some none)
    (z_list : PySem.W.nsIn K mainGlobals "list" = some none)
    (z_bool : PySem.W.nsIn K mainGlobals "bool" = some none)
    (z_len : PySem.W.nsIn K mainGlobals "len" = some none)
    (z_range : PySem.W.nsIn K mainGlobals "range" = some none)
    (z_max : PySem.W.nsIn K mainGlobals "max" = some none)
    (z_min : PySem.W.nsIn K mainGlobals "min" = some none)
    (z_repr : PySem.W.nsIn K mainGlobals "repr" = some none)
    (z_int : PySem.W.nsIn K mainGlobals "int" = some none)
    (g_NUMBERS : PySem.W.nsIn K mainGlobals "NUMBERS" = some (some u_NUMBERS)) (r_NUMBERS : RelV (.int 1000000000000) u_NUMBERS)
    : ∃ fd : FuncData, (∀ (s : Shared) (v : Value), BindsTo s fd ⟨[v], []⟩ [("_law_script", v)]) ∧ ∀ base : Heap, K.In base → base.Ns mainGlobals mg → FnG l.prog w K mg base C8.CX0 13 fa fd ["_law_script"] (spLaw K) := by
  have e := hfa.symm.trans (PySem.W.mg_of X G a18)
  cases e
  have D_is_number := def_mk (st := sPIsNumber) X G a1 l1 c1 k1
  have D_is_of := def_mk (st := sPIsOf) X G a2 l2 c2 k2
  have D__is_of_bare := def_mk (st := sPIsOfBare) X G a3 l3 c3 k3
  have D_alike_values := def_mk (st := sPAlikeValues) X G a4 l4 c4 k4
  have D__law_cell_at := def_mk (st := sLCellAt) X G a5 l5 c5 k5
  have D__law_pot := def_mk (st := sLPot) X G a6 l6 c6 k6
  have D__law_take := def_mk (st := sLTake) X G a7 l7 c7 k7
  have D__law_number := def_mk (st := sLNumber) X G a8 l8 c8 k8
  have D__law_ref := def_mk (st := sLRef) X G a9 l9 c9 k9
  have D__law_value := def_mk (st := sLValue) X G a10 l10 c10 k10
  have D__law_kind := def_mk (st := sLKind) X G a11 l11 c11 k11
  have D__law_records := def_mk (st := sLRecords) X G a12 l12 c12 k12
  have D__law_of := def_mk (st := sLOf) X G a13 l13 c13 k13
  have D__law_is_of := def_mk (st := sLIsOf) X G a14 l14 c14 k14
  have D__law_same := def_mk (st := sLSame) X G a15 l15 c15 k15
  have D__law_turned := def_mk (st := sLTurned) X G a16 l16 c16 k16
  have D__law_second := def_mk (st := sLSecond) X G a17 l17 c17 k17
  have D_law := def_mk (st := sLaw) X G a18 l18 c18 k18
  have b_is_number := D_is_number.fn.binds rfl (ps := ["thing"]) fun _ _ _ _ _ _ us hl => match us, hl with | [_], _ => rfl
  have b_is_of := D_is_of.fn.binds rfl (ps := ["kind", "value", "records"]) fun _ _ _ _ _ _ us hl => match us, hl with | [_, _, _], _ => rfl
  have b__is_of_bare := D__is_of_bare.fn.binds rfl (ps := ["kind", "value", "records"]) fun _ _ _ _ _ _ us hl => match us, hl with | [_, _, _], _ => rfl
  have b_alike_values := D_alike_values.fn.binds rfl (ps := ["one", "other"]) fun _ _ _ _ _ _ us hl => match us, hl with | [_, _], _ => rfl
  have b__law_cell_at := D__law_cell_at.fn.binds rfl (ps := ["_law_script", "_law_k"]) fun _ _ _ _ _ _ us hl => match us, hl with | [_, _], _ => rfl
  have b__law_pot := D__law_pot.fn.binds rfl (ps := ["_law_cell", "_law_k"]) fun _ _ _ _ _ _ us hl => match us, hl with | [_, _], _ => rfl
  have b__law_take := D__law_take.fn.binds rfl (ps := ["_law_pot_here", "_law_many"]) fun _ _ _ _ _ _ us hl => match us, hl with | [_, _], _ => rfl
  have b__law_number := D__law_number.fn.binds rfl (ps := ["_law_pot_here"]) fun _ _ _ _ _ _ us hl => match us, hl with | [_], _ => rfl
  have b__law_ref := D__law_ref.fn.binds rfl (ps := ["_law_pot_here"]) fun _ _ _ _ _ _ us hl => match us, hl with | [_], _ => rfl
  have b__law_value := D__law_value.fn.binds rfl (ps := ["_law_pot_here", "_law_deep", "_law_refs"]) fun _ _ _ _ _ _ us hl => match us, hl with | [_, _, _], _ => rfl
  have b__law_kind := D__law_kind.fn.binds rfl (ps := ["_law_pot_here", "_law_deep"]) fun _ _ _ _ _ _ us hl => match us, hl with | [_, _], _ => rfl
  have b__law_records := D__law_records.fn.binds rfl (ps := ["_law_pot_here"]) fun _ _ _ _ _ _ us hl => match us, hl with | [_], _ => rfl
  have b__law_of := D__law_of.fn.binds rfl (ps := ["_law_pot_here", "_law_kind_here", "_law_records_here"]) fun _ _ _ _ _ _ us hl => match us, hl with | [_, _, _], _ => rfl
  have b__law_is_of := D__law_is_of.fn.binds rfl (ps := ["_law_kind_here", "_law_value_here", "_law_records_here"]) fun _ _ _ _ _ _ us hl => match us, hl with | [_, _, _], _ => rfl
  have b__law_same := D__law_same.fn.binds rfl (ps := ["_law_one", "_law_other"]) fun _ _ _ _ _ _ us hl => match us, hl with | [_, _], _ => rfl
  have b__law_turned := D__law_turned.fn.binds rfl (ps := ["_law_value_here"]) fun _ _ _ _ _ _ us hl => match us, hl with | [_], _ => rfl
  have b__law_second := D__law_second.fn.binds rfl (ps := ["_law_pot_here", "_law_value_here"]) fun _ _ _ _ _ _ us hl => match us, hl with | [_, _], _ => rfl
  have T : Tp mg := ⟨PySem.W.mg_none_of X G z_isinstance, PySem.W.mg_none_of X G z_str, PySem.W.mg_none_of X G z_tuple, PySem.W.mg_none_of X G z_list, PySem.W.mg_none_of X G z_bool, PySem.W.mg_none_of X G z_len, PySem.W.mg_none_of X G z_range, PySem.W.mg_none_of X G z_max, PySem.W.mg_none_of X G z_min, PySem.W.mg_none_of X G z_repr, PySem.W.mg_none_of X G z_int, ⟨u_NUMBERS, PySem.W.mg_of X G g_NUMBERS, r_NUMBERS⟩⟩
  refine ⟨PySem.W.fnOf "law" "law" (fnArgs sLaw) (fnBody sLaw) (fnScope sLaw) .none kV18 dc18 pm18 an18 cd18 ct18, fun s v => .of_eq rfl, fun base _ _ => ?_⟩
  have cTake := c_take (P := l.prog) (w := w) (base := base) D__law_take b__law_take
  have cNum := c_isNumber (P := l.prog) (w := w) (base := base) T D_is_number b_is_number
  have cBare := c_isOfBare T cNum D__is_of_bare b__is_of_bare
  have cIsOf := c_isOf T cBare D_is_of b_is_of
  have cAlike := c_alike (P := l.prog) (w := w) (base := base) T D_alike_values b_alike_values
  have cLNumber := c_number T cTake D__law_number b__law_number
  have cLRef := c_ref T cTake D__law_ref b__law_ref
  have cVal := c_value T cTake cLRef cLNumber D__law_value b__law_value 4
  have cTurned := c_turned (P := l.prog) (w := w) (base := base) T D__law_turned b__law_turned 10
  exact f_law T (c_cellAt T D__law_cell_at b__law_cell_at) (c_pot D__law_pot b__law_pot) (c_records T cTake D__law_records b__law_records) (c_kind T cTake D__law_kind b__law_kind 4) (c_of T cTake cLNumber D__law_of b__law_of 4) cVal cIsOf (c_lisOf T D__law_is_of b__law_is_of 4) (c_second T cTake cVal cTurned D__law_second b__law_second) cAlike (c_same T D__law_same b__law_same) D_law
end K14
open PySem PySem.W PyProof.Rows
set_option maxHeartbeats 0 in
theorem PySem.Challenge.cw_changewhile_k14_kinds_of_values_holds : PySem.Challenge.rw_changewhile_k14_kinds_of_values.Holds := by
  w_on; o_law; k_head; (case hw => w_witness2)
  k_fill
  refine L2.walkG (l := PySem.Challenge.rw_changewhile_k14_kinds_of_values) (n := 63) (k := 13) (x := "_law_script") (sp := K14.spLaw) rfl (by decide) rfl ⟨rfl, by decide, by decide⟩ (fun w h Y => PySem.W.kIn_of Y) ?F (fun K H a ns hl _ hS => ⟨a, ns, rfl, hS, hl, fun _ => rfl⟩)
  case F =>
    intro w mg fa h KX G hmg
    refine' K14.all_mk KX G hmg ?a1 ?l1 ?c1 ?k1 ?a2 ?l2 ?c2 ?k2 ?a3 ?l3 ?c3 ?k3 ?a4 ?l4 ?c4 ?k4 ?a5 ?l5 ?c5 ?k5 ?a6 ?l6 ?c6 ?k6 ?a7 ?l7 ?c7 ?k7 ?a8 ?l8 ?c8 ?k8 ?a9 ?l9 ?c9 ?k9 ?a10 ?l10 ?c10 ?k10 ?a11 ?l11 ?c11 ?k11 ?a12 ?l12 ?c12 ?k12 ?a13 ?l13 ?c13 ?k13 ?a14 ?l14 ?c14 ?k14 ?a15 ?l15 ?c15 ?k15 ?a16 ?l16 ?c16 ?k16 ?a17 ?l17 ?c17 ?k17 ?a18 ?l18 ?c18 ?k18 ?z_isinstance ?z_str ?z_tuple ?z_list ?z_bool ?z_len ?z_range ?z_max ?z_min ?z_repr ?z_int ?g_NUMBERS ?r_NUMBERS
    (case a1 => k_is); (case l1 => k_is); (case c1 => k_is); (case k1 => k_is); (case a2 => k_is); (case l2 => k_is); (case c2 => k_is); (case k2 => k_is); (case a3 => k_is); (case l3 => k_is); (case c3 => k_is); (case k3 => k_is); (case a4 => k_is); (case l4 => k_is); (case c4 => k_is); (case k4 => k_is); (case a5 => k_is); (case l5 => k_is); (case c5 => k_is); (case k5 => k_is); (case a6 => k_is); (case l6 => k_is); (case c6 => k_is); (case k6 => k_is); (case a7 => k_is); (case l7 => k_is); (case c7 => k_is); (case k7 => k_is); (case a8 => k_is); (case l8 => k_is); (case c8 => k_is); (case k8 => k_is); (case a9 => k_is); (case l9 => k_is); (case c9 => k_is); (case k9 => k_is); (case a10 => k_is); (case l10 => k_is); (case c10 => k_is); (case k10 => k_is); (case a11 => k_is); (case l11 => k_is); (case c11 => k_is); (case k11 => k_is); (case a12 => k_is); (case l12 => k_is); (case c12 => k_is); (case k12 => k_is); (case a13 => k_is); (case l13 => k_is); (case c13 => k_is); (case k13 => k_is); (case a14 => k_is); (case l14 => k_is); (case c14 => k_is); (case k14 => k_is); (case a15 => k_is); (case l15 => k_is); (case c15 => k_is); (case k15 => k_is); (case a16 => k_is); (case l16 => k_is); (case c16 => k_is); (case k16 => k_is); (case a17 => k_is); (case l17 => k_is); (case c17 => k_is); (case k17 => k_is); (case a18 => k_is); (case l18 => k_is); (case c18 => k_is); (case k18 => k_is); (case z_isinstance => k_is); (case z_str => k_is); (case z_tuple => k_is); (case z_list => k_is); (case z_bool => k_is); (case z_len => k_is); (case z_range => k_is); (case z_max => k_is); (case z_min => k_is); (case z_repr => k_is); (case z_int => k_is); (case g_NUMBERS => k_is)
    (case r_NUMBERS => exact ⟨_, rfl⟩)
