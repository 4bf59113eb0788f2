import PyProof.Rows.All
import Wide.All
import OpenK.AllK
import Wide.FinOn
import HandS.ForMost
import HandS.Codes
import HandS.Wide
import HandS.Deep
import HandS.IsInst
import HandS.TupAny
import HandS.StrMore
import HandS.Style
import HandS.ExcOwn
import PySem.Challenge.RW_changewhile_k13_values_told
import HandS.TupMul
import HandS.Dict
set_option Elab.async false
set_option linter.all false
set_option maxRecDepth 100000
set_option maxHeartbeats 4000000
namespace L2
open PySem PySem.Spec PyProof.Rows
open C8 (Cal Def cal0 pe_c fnBody fnScope fnArgs)

/-! ### heaps: all but one list stays -/
def But (p : Addr) (H H' : Hp) : Prop := ∀ b o, b ≠ p → H b = some o → H' b = some o
theorem But.refl (p : Addr) (H : Hp) : But p H H := fun _ _ _ h => h
theorem But.trans {p : Addr} {H H1 H2 : Hp} (a : But p H H1) (b : But p H1 H2) : But p H H2 := fun c o n h => b c o n (a c o n h)
theorem But.same {p : Addr} {H H1 : Hp} (a : Same H H1) : But p H H1 := fun b o _ h => a b o h
theorem Same.new {q : Addr} {H : Hp} {o : HO} (h : H q = none) : Same H (upd H q o) := fun b u e => by
  rw [upd_ne (ne_of_none e h)]
  exact e
theorem But.new {p q : Addr} {H : Hp} {o : HO} (h : H q = none) : But p H (upd H q o) := But.same (Same.new h)
theorem But.pot {p : Addr} {H H' : Hp} {o : HO} (e : But p H H') : But p H (upd H' p o) := fun b u n h => by
  rw [upd_ne n]
  exact e b u n h
def hid (p : Addr) (H : Hp) : Hp := fun b => if b = p then none else H b
theorem hid_ne {p b : Addr} {H : Hp} (h : b ≠ p) : hid p H b = H b := if_neg h
theorem hid_some {p b : Addr} {H : Hp} {o : HO} (h : hid p H b = some o) : b ≠ p ∧ H b = some o := by
  unfold hid at h
  by_cases e : b = p
  · rw [if_pos e] at h; cases h
  · rw [if_neg e] at h; exact ⟨e, h⟩
theorem hid_but {p : Addr} {H H' : Hp} (e : But p H H') : Same (hid p H) (hid p H') := fun b o h => by
  obtain ⟨n, h⟩ := hid_some h
  rw [hid_ne n]
  exact e b o n h
theorem hid_in {p : Addr} {H : Hp} : Same (hid p H) H := fun b o h => (hid_some h).2

/-! ### data -/
section
variable {K : PySem.W.Frag}
theorem sqT_mono {H H' : Hp} {a : Addr} {xs : List V} (e : Same H H') (h : SqT K H a xs) : SqT K H' a xs := by
  rcases h with (h | ⟨o, h⟩) | h
  · exact .inl (.inl (e _ _ h))
  · exact .inl (.inr ⟨o, e _ _ h⟩)
  · exact .inr h
mutual
theorem Dp.mono {H H' : Hp} (e : Same H H') : ∀ {v : V} {d : PyData}, Dp K H v d → Dp K H' v d
  | _, _, .non => .non
  | _, _, .bl b => .bl b
  | _, _, .int i => .int i
  | _, _, .str x => .str x
  | _, _, .lst h a => .lst (e.seq h) (DpAll.mono e a)
  | _, _, .tup h a => .tup (sqT_mono e h) (DpAll.mono e a)
theorem DpAll.mono {H H' : Hp} (e : Same H H') : ∀ {vs : List V} {ds : List PyData}, DpAll K H vs ds → DpAll K H' vs ds
  | _, _, .nil => .nil
  | _, _, .cons h t => .cons (Dp.mono e h) (DpAll.mono e t)
end
theorem DpAll.len {H : Hp} : ∀ {vs : List V} {ds : List PyData}, DpAll K H vs ds → vs.length = ds.length
  | _, _, .nil => rfl
  | _, _, .cons _ t => congrArg (· + 1) (DpAll.len t)
theorem DpAll.app {H : Hp} : ∀ {vs ws : List V} {ds es : List PyData}, DpAll K H vs ds → DpAll K H ws es → DpAll K H (vs ++ ws) (ds ++ es)
  | _, _, _, _, .nil, t => t
  | _, _, _, _, .cons h s, t => .cons h (DpAll.app s t)
theorem DpAll.get {H : Hp} : ∀ {vs : List V} {ds : List PyData} {i : Nat} {d : PyData}, DpAll K H vs ds → ds[i]? = some d → ∃ v, vs[i]? = some v ∧ Dp K H v d
  | _, _, _, _, .nil, h => by simp at h
  | _, _, 0, _, .cons h _, e => by
    simp at e
    subst e
    exact ⟨_, rfl, h⟩
  | _, _, i + 1, _, .cons _ t, e => by
    obtain ⟨v, h1, h2⟩ := DpAll.get t (i := i) (by simpa using e)
    exact ⟨v, by simpa using h1, h2⟩
/-- data that does not come by the pot -/
abbrev Dh (K : PySem.W.Frag) (p : Addr) (H : Hp) (v : V) (d : PyData) : Prop := Dp K (hid p H) v d
abbrev DhAll (K : PySem.W.Frag) (p : Addr) (H : Hp) (vs : List V) (ds : List PyData) : Prop := DpAll K (hid p H) vs ds
theorem Dp.un {p : Addr} {H : Hp} {v : V} {d : PyData} (h : Dh K p H v d) : Dp K H v d := Dp.mono hid_in h
theorem Dp.but {p : Addr} {H H' : Hp} {v : V} {d : PyData} (e : But p H H') (h : Dh K p H v d) : Dh K p H' v d := Dp.mono (hid_but e) h
theorem DpAll.but {p : Addr} {H H' : Hp} {vs : List V} {ds : List PyData} (e : But p H H') (h : DhAll K p H vs ds) : DhAll K p H' vs ds := DpAll.mono (hid_but e) h
/-- a new tuple, a new list -/
theorem Dp.newT {p q : Addr} {H : Hp} {xs : List V} {ds : List PyData} (hq : H q = none) (n : q ≠ p) (h : DhAll K p H xs ds) : Dh K p (upd H q (.tup xs)) (.ref q) (.tuple ds) :=
  .tup (.inl (.inl (by rw [hid_ne n, upd_same]))) (DpAll.but (But.new hq) h)
theorem Dp.newL {p q : Addr} {H : Hp} {xs : List V} {ds : List PyData} (hq : H q = none) (n : q ≠ p) (h : DhAll K p H xs ds) : Dh K p (upd H q (.lst xs)) (.ref q) (.list ds) :=
  .lst (.inl (.inl (by rw [hid_ne n, upd_same]))) (DpAll.but (But.new hq) h)
theorem Dp.newT0 {q : Addr} {H : Hp} {xs : List V} {ds : List PyData} (hq : H q = none) (h : DpAll K H xs ds) : Dp K (upd H q (.tup xs)) (.ref q) (.tuple ds) :=
  .tup (.inl (.inl upd_same)) (DpAll.mono (Same.new hq) h)
theorem Dp.newL0 {q : Addr} {H : Hp} {xs : List V} {ds : List PyData} (hq : H q = none) (h : DpAll K H xs ds) : Dp K (upd H q (.lst xs)) (.ref q) (.list ds) :=
  .lst (.inl (.inl upd_same)) (DpAll.mono (Same.new hq) h)

/-! ### isinstance of data -/
def tyN : PyData → String
  | .none => "NoneType" | .bool _ => "bool" | .int _ => "int" | .str _ => "str" | .list _ => "list" | .tuple _ => "tuple" | .dict _ => "dict"
theorem Dp.ty {H : Hp} {v : V} {d : PyData} (h : Dp K H v d) : TyX K H v (.type (tyN d)) := by
  cases h with
  | non => exact .base .non
  | bl b => exact .base (.bl b)
  | int i => exact .base (.int i)
  | str x => exact .base (.str x)
  | lst hs _ =>
    rcases hs with (h | ⟨o, h⟩) | ⟨o, its, n, h, hc, _⟩
    · exact .base (.lst h)
    · exact .base (.frz h)
    · exact .kList h hc
  | tup hs _ =>
    rcases hs with (h | ⟨o, h⟩) | ⟨o, its, n, h, hc, _⟩
    · exact .base (.tup h)
    · exact .fTuple h
    · exact .kTuple h hc
def isS : PyData → Bool | .str _ => true | _ => false
def isT : PyData → Bool | .tuple _ => true | _ => false
def isL : PyData → Bool | .list _ => true | _ => false
def isB : PyData → Bool | .bool _ => true | _ => false
def isI : PyData → Bool | .bool _ => true | .int _ => true | _ => false
def isOf : String → PyData → Bool
  | "str", d => isS d
  | "tuple", d => isT d
  | "list", d => isL d
  | "bool", d => isB d
  | "int", d => isI d
  | _, _ => false
def tabN (a T : String) : Bool := a == T || (a == "bool" && T == "int")
theorem kitN : (["NoneType", "bool", "int", "str", "list", "tuple"].all fun a => ["str", "tuple", "list", "bool", "int"].all fun T => kitB a T == some (tabN a T)) = true := by decide +kernel
theorem kit_all {a T : String} (ha : a ∈ ["NoneType", "bool", "int", "str", "list", "tuple"]) (hT : T ∈ ["str", "tuple", "list", "bool", "int"]) : kitB a T = some (tabN a T) := by
  have h := List.all_eq_true.mp (List.all_eq_true.mp kitN a ha) T hT
  exact eq_of_beq h
theorem Dp.nodict {H : Hp} {v : V} {d : PyData} (h : Dp K H v d) : tyN d ≠ "dict" := by cases h <;> (intro e; exact absurd e (by simp [tyN]))
theorem isOf_tab {T : String} (hT : T ∈ ["str", "tuple", "list", "bool", "int"]) (d : PyData) : isOf T d = tabN (tyN d) T := by
  simp only [List.mem_cons, List.not_mem_nil, or_false] at hT
  rcases hT with rfl | rfl | rfl | rfl | rfl <;> cases d <;> first | rfl | decide
theorem isOf_kit {H : Hp} {v : V} {d : PyData} {T : String} (h : Dp K H v d) (hT : T ∈ ["str", "tuple", "list", "bool", "int"]) : kitB (tyN d) T = some (isOf T d) := by
  have n := h.nodict
  rw [isOf_tab hT]
  refine kit_all ?_ hT
  cases d <;> first | exact absurd rfl n | simp [tyN]
end
def rIsD (K : PySem.W.Frag) : List V → Hp → VK → Prop := fun xs H Q => ∃ (v : V) (d : PyData) (T : String), xs = [v, .ty T] ∧ Dp K H v d ∧ T ∈ ["str", "tuple", "list", "bool", "int"] ∧ Q (.bl (isOf T d)) H
section
variable {X : Cx}
theorem call_isD : CallR X (.builtin "isinstance") (rIsD X.K) := by
  intro pins s σ H xs us Q I r h
  obtain ⟨v, d, T, rfl, hd, hT, q⟩ := h
  exact call_isi pins s σ H _ us Q I r ⟨v, .ty T, .type (tyN d), .type T, isOf T d, rfl, .ty T, hd.ty, kit_ty (isOf_kit hd hT), q⟩
/-! ### repr of data -/
def shownB (d : PyData) : Prop := d.showable = true ∧ SeqAt.shaped d = true ∧ d.shown.length ≤ sizeLine
def rReprD (K : PySem.W.Frag) : List V → Hp → VK → Prop := fun xs H Q => ∃ (v : V) (d : PyData), xs = [v] ∧ Dp K H v d ∧ shownB d ∧ Q (.str d.shown) H
theorem call_reprD (hg : X.A.guards = some []) (hu : X.A.units + 70 < cLine) : CallR X (.builtin "repr") (rReprD X.K) := by
  intro pins s σ H xs us Q I r h
  obtain ⟨v, d, rfl, hd, ⟨hs, hsh, hl⟩, q⟩ := h
  obtain ⟨u, rfl, ru⟩ := vals1 r
  have hdep := SeqAt.depth_of_shaped hsh
  have hnd : d.hasDict = false := PyData.hasDict_of_canLay d (SeqAt.canLay_of_shaped hsh)
  obtain ⟨as, rd⟩ := Dp.reads I d v u hd ru
  have big : ∀ a, u = Value.ref a → wpAny (model X.prog X.w) X.A (call (.builtin "repr") [u]) (EP X pins σ Q) X.xe s := fun a e => by
    subst e
    exact repr_of_reads' rd hs (PyData.noDict_hsm hnd) hg (by omega) (fun _ _ e => e) (fun h' t tk k => ⟨.str d.shown, H, I.kept k, ⟨_, rfl⟩, q⟩) hl
  cases hd with
  | non =>
    cases ru
    exact PySem.P.repr_of_none ⟨.str _, H, I.tok _, ⟨_, rfl⟩, by simpa only [PyData.shown] using q⟩
  | bl b =>
    cases ru
    exact PySem.P.repr_of_bool ⟨.str _, H, I.tok _, ⟨_, rfl⟩, by simpa only [PyData.shown] using q⟩
  | int i =>
    obtain ⟨t, rfl⟩ := ru
    exact PySem.P.repr_of_int (by simpa [PyData.showable] using hs) ⟨.str _, H, I.tok _, ⟨_, rfl⟩, by simpa only [PyData.shown] using q⟩
  | str x =>
    obtain ⟨t, rfl⟩ := ru
    exact PySem.P.repr_of_str ⟨.str _, H, I.tok _, ⟨_, rfl⟩, by simpa only [PyData.shown] using q⟩ (by simpa only [PyData.shown] using hl)
  | lst _ _ => exact big _ ru
  | tup _ _ => exact big _ ru
end
/-! ### a comprehension over a text -/
theorem lc_str {z : Str} {g : TG} {tt : TT} {te : TE} {vs : List Nat} {σ : L2.St} {H1 : Hp} {D : Addr} {Qd : Hp → Prop} (Pv : Nat → Hp → Prop) (h0 : Pv 0 (upd H1 D (.lst [])))
    (hs : ∀ i c H, z.cps.toList[i]? = some c → Pv i H → g (.str ⟨#[c]⟩) (wipe σ vs) H fun σ2 H2 => wipe σ2 vs = wipe σ vs ∧ tt σ2 H2 fun b H3 =>
      if b = true then te σ2 H3 fun y H4 => ∃ acc, H4 D = some (.lst acc) ∧ acc.length < sizeLine ∧ Pv (i + 1) (upd H4 D (.lst (acc ++ [y]))) else Pv (i + 1) H3) (hd : ∀ H, Pv z.cps.toList.length H → Qd H) :
    ∃ W : Nat → Nat → Hp → Prop, (∃ m, W 0 m (upd H1 D (.lst []))) ∧ ∀ i m H, W i m H →
      ((Its z).stop i H ∧ Qd H) ∨ ((Its z).go i H ∧ ∃ Nx : Hp → Prop, (∀ H', Nx H' → ∃ m', m' < m ∧ W (i + 1) m' H') ∧ ∀ x H', (Its z).yld i H x H' → g x (wipe σ vs) H' fun σ2 H2 => wipe σ2 vs = wipe σ vs ∧ tt σ2 H2 fun b H3 =>
        if b = true then te σ2 H3 fun y H4 => ∃ acc, H4 D = some (.lst acc) ∧ acc.length < sizeLine ∧ Nx (upd H4 D (.lst (acc ++ [y]))) else Nx H3) := by
  have hz : z.cps.toList.length = z.cps.size := Array.length_toList
  refine ⟨fun i m H => m = z.cps.size - i ∧ i ≤ z.cps.size ∧ Pv i H, ⟨z.cps.size, by simp, Nat.zero_le _, h0⟩, ?_⟩
  rintro i m H ⟨rfl, hi, p⟩
  by_cases hlt : i < z.cps.size
  · refine .inr ⟨hlt, Pv (i + 1), fun H' p' => ⟨z.cps.size - (i + 1), by omega, rfl, hlt, p'⟩, fun x H' y => ?_⟩
    obtain ⟨e, c, hc, rfl⟩ := y
    subst e
    exact hs i c _ (by rw [Array.getElem?_toList]; exact hc) p
  · have e : i = z.cps.size := by omega
    subst e
    exact .inl ⟨Nat.le_refl _, hd H (by rw [hz]; exact p)⟩

/-! ### the pot: two numbers -/
structure Pot (H : Hp) (p : Addr) (x y : Int) : Prop where
  at_ : H p = some (.lst [.int x, .int y])
  x0 : 0 ≤ x
  y0 : 0 ≤ y
  y1 : y < 1099511627776
theorem Pot.ne {H : Hp} {p q : Addr} {x y : Int} (h : Pot H p x y) (hq : H q = none) : q ≠ p := fun e => by
  subst e
  rw [h.at_] at hq
  cases hq
theorem Pot.same {H H' : Hp} {p : Addr} {x y : Int} (h : Pot H p x y) (e : Same H H') : Pot H' p x y := ⟨e _ _ h.at_, h.x0, h.y0, h.y1⟩
theorem Pot.new {H : Hp} {p q : Addr} {x y : Int} {o : HO} (h : Pot H p x y) (hq : H q = none) : Pot (upd H q o) p x y := h.same (Same.new hq)
theorem hin_of {A : Around} {k : Nat} (hr : Room k A) : A.units + 65 < cLine := by have := hr.un; omega
theorem hrep_of {A : Around} {k : Nat} (hr : Room k A) : A.units + 70 < cLine := by have := hr.un; omega
end L2
set_option Elab.async false
set_option linter.all false
set_option maxRecDepth 100000
set_option maxHeartbeats 4000000
namespace L2
open PySem PySem.Spec PyProof.Rows
/-! ### data with dicts in it -/
mutual
inductive Dq (K : PySem.W.Frag) (H : Hp) : V → PyData → Prop
  | non : Dq K H .non .none
  | bl (b : Bool) : Dq K H (.bl b) (.bool b)
  | int (i : Int) : Dq K H (.int i) (.int i)
  | str (x : Str) : Dq K H (.str x) (.str x)
  | lst {a : Addr} {xs : List V} {ds : List PyData} : SqL K H a xs → DqAll K H xs ds → Dq K H (.ref a) (.list ds)
  | tup {a : Addr} {xs : List V} {ds : List PyData} : SqT K H a xs → DqAll K H xs ds → Dq K H (.ref a) (.tuple ds)
  | dct {a : Addr} {kvs : List (Key × V)} {ps : List (PyData × PyData)} : H a = some (.dK kvs) → DqAll K H (kvs.map fun q => kV q.1) (ps.map (·.1)) → DqAll K H (kvs.map (·.2)) (ps.map (·.2)) → Dq K H (.ref a) (.dict ps)
inductive DqAll (K : PySem.W.Frag) (H : Hp) : List V → List PyData → Prop
  | nil : DqAll K H [] []
  | cons {v : V} {vs : List V} {d : PyData} {ds : List PyData} : Dq K H v d → DqAll K H vs ds → DqAll K H (v :: vs) (d :: ds)
end
section
variable {K : PySem.W.Frag}
mutual
theorem Dp.q {H : Hp} : ∀ {v : V} {d : PyData}, Dp K H v d → Dq K H v d
  | _, _, .non => .non
  | _, _, .bl b => .bl b
  | _, _, .int i => .int i
  | _, _, .str x => .str x
  | _, _, .lst h a => .lst h (DpAll.q a)
  | _, _, .tup h a => .tup h (DpAll.q a)
theorem DpAll.q {H : Hp} : ∀ {vs : List V} {ds : List PyData}, DpAll K H vs ds → DqAll K H vs ds
  | _, _, .nil => .nil
  | _, _, .cons h t => .cons (Dp.q h) (DpAll.q t)
end
mutual
theorem Dq.mono {H H' : Hp} (e : Same H H') : ∀ {v : V} {d : PyData}, Dq K H v d → Dq K H' v d
  | _, _, .non => .non
  | _, _, .bl b => .bl b
  | _, _, .int i => .int i
  | _, _, .str x => .str x
  | _, _, .lst h a => .lst (e.seq h) (DqAll.mono e a)
  | _, _, .tup h a => .tup (sqT_mono e h) (DqAll.mono e a)
  | _, _, .dct h a b => .dct (e _ _ h) (DqAll.mono e a) (DqAll.mono e b)
theorem DqAll.mono {H H' : Hp} (e : Same H H') : ∀ {vs : List V} {ds : List PyData}, DqAll K H vs ds → DqAll K H' vs ds
  | _, _, .nil => .nil
  | _, _, .cons h t => .cons (Dq.mono e h) (DqAll.mono e t)
end
theorem DqAll.len {H : Hp} : ∀ {vs : List V} {ds : List PyData}, DqAll K H vs ds → vs.length = ds.length
  | _, _, .nil => rfl
  | _, _, .cons _ t => congrArg (· + 1) (DqAll.len t)
theorem DqAll.app {H : Hp} : ∀ {vs ws : List V} {ds es : List PyData}, DqAll K H vs ds → DqAll K H ws es → DqAll K H (vs ++ ws) (ds ++ es)
  | _, _, _, _, .nil, t => t
  | _, _, _, _, .cons h s, t => .cons h (DqAll.app s t)
theorem DqAll.at {H : Hp} : ∀ {vs : List V} {ds : List PyData} {i : Nat} {v : V}, DqAll K H vs ds → vs[i]? = some v → ∃ d, ds[i]? = some d ∧ Dq K H v d
  | _, _, i, v, .nil, e => by simp at e
  | _, _, 0, v, .cons h t, e => by
    simp at e
    exact ⟨_, rfl, e ▸ h⟩
  | _, _, i + 1, v, .cons h t, e => by
    obtain ⟨d, h1, h2⟩ := DqAll.at (i := i) t (by simpa using e)
    exact ⟨d, by simpa using h1, h2⟩
abbrev Qh (K : PySem.W.Frag) (p : Addr) (H : Hp) (v : V) (d : PyData) : Prop := Dq K (hid p H) v d
abbrev QhAll (K : PySem.W.Frag) (p : Addr) (H : Hp) (vs : List V) (ds : List PyData) : Prop := DqAll K (hid p H) vs ds
theorem Dq.un {p : Addr} {H : Hp} {v : V} {d : PyData} (h : Qh K p H v d) : Dq K H v d := Dq.mono hid_in h
theorem Dq.but {p : Addr} {H H' : Hp} {v : V} {d : PyData} (e : But p H H') (h : Qh K p H v d) : Qh K p H' v d := Dq.mono (hid_but e) h
theorem DqAll.but {p : Addr} {H H' : Hp} {vs : List V} {ds : List PyData} (e : But p H H') (h : QhAll K p H vs ds) : QhAll K p H' vs ds := DqAll.mono (hid_but e) h
theorem Dq.newT {p q : Addr} {H : Hp} {xs : List V} {ds : List PyData} (hq : H q = none) (n : q ≠ p) (h : QhAll K p H xs ds) : Qh K p (upd H q (.tup xs)) (.ref q) (.tuple ds) :=
  .tup (.inl (.inl (by rw [hid_ne n, upd_same]))) (DqAll.but (But.new hq) h)
theorem Dq.newL {p q : Addr} {H : Hp} {xs : List V} {ds : List PyData} (hq : H q = none) (n : q ≠ p) (h : QhAll K p H xs ds) : Qh K p (upd H q (.lst xs)) (.ref q) (.list ds) :=
  .lst (.inl (.inl (by rw [hid_ne n, upd_same]))) (DqAll.but (But.new hq) h)
theorem Dq.new0 {p q : Addr} {H : Hp} (hq : H q = none) (n : q ≠ p) : Qh K p (upd H q (.dK [])) (.ref q) (.dict []) :=
  .dct (kvs := []) (by rw [hid_ne n, upd_same]) .nil .nil
/-! ### isinstance -/
theorem Dq.ty {H : Hp} {v : V} {d : PyData} (h : Dq K H v d) : TyX K H v (.type (tyN d)) := by
  cases h with
  | non => exact .base .non
  | bl b => exact .base (.bl b)
  | int i => exact .base (.int i)
  | str x => exact .base (.str x)
  | lst hs _ =>
    rcases hs with (h | ⟨o, h⟩) | ⟨o, its, n, h, hc, _⟩
    · exact .base (.lst h)
    · exact .base (.frz h)
    · exact .kList h hc
  | tup hs _ =>
    rcases hs with (h | ⟨o, h⟩) | ⟨o, its, n, h, hc, _⟩
    · exact .base (.tup h)
    · exact .fTuple h
    · exact .kTuple h hc
  | dct h _ _ => exact .base (.dK h)
def isD : PyData → Bool | .dict _ => true | _ => false
def isOfQ : String → PyData → Bool
  | "str", d => isS d
  | "tuple", d => isT d
  | "list", d => isL d
  | "bool", d => isB d
  | "int", d => isI d
  | "dict", d => isD d
  | _, _ => false
theorem kitNq : (["NoneType", "bool", "int", "str", "list", "tuple", "dict"].all fun a => ["str", "tuple", "list", "bool", "int", "dict"].all fun T => kitB a T == some (tabN a T)) = true := by decide +kernel
theorem kit_allq {a T : String} (ha : a ∈ ["NoneType", "bool", "int", "str", "list", "tuple", "dict"]) (hT : T ∈ ["str", "tuple", "list", "bool", "int", "dict"]) : kitB a T = some (tabN a T) := by
  have h := List.all_eq_true.mp (List.all_eq_true.mp kitNq a ha) T hT
  exact eq_of_beq h
theorem isOfQ_tab {T : String} (hT : T ∈ ["str", "tuple", "list", "bool", "int", "dict"]) (d : PyData) : isOfQ T d = tabN (tyN d) T := by
  simp only [List.mem_cons, List.not_mem_nil, or_false] at hT
  rcases hT with rfl | rfl | rfl | rfl | rfl | rfl <;> cases d <;> first | rfl | decide
theorem isOfQ_kit {d : PyData} {T : String} (hT : T ∈ ["str", "tuple", "list", "bool", "int", "dict"]) : kitB (tyN d) T = some (isOfQ T d) := by
  rw [isOfQ_tab hT]
  refine kit_allq ?_ hT
  cases d <;> simp [tyN]
end
def rIsQ (K : PySem.W.Frag) : List V → Hp → VK → Prop := fun xs H Q => ∃ (v : V) (d : PyData) (T : String), xs = [v, .ty T] ∧ Dq K H v d ∧ T ∈ ["str", "tuple", "list", "bool", "int", "dict"] ∧ Q (.bl (isOfQ T d)) H
section
variable {X : Cx}
theorem call_isQ : CallR X (.builtin "isinstance") (rIsQ X.K) := by
  intro pins s σ H xs us Q I r h
  obtain ⟨v, d, T, rfl, hd, hT, q⟩ := h
  exact call_isi pins s σ H _ us Q I r ⟨v, .ty T, .type (tyN d), .type T, isOfQ T d, rfl, .ty T, hd.ty, kit_ty (isOfQ_kit hT), q⟩
end
/-! ### the heap's own reading of it; no list beside a dict -/
mutual
def nl : PyData → Bool
  | .list _ => false
  | .tuple xs => nls xs
  | .dict kvs => nlk kvs
  | _ => true
def nls : List PyData → Bool
  | [] => true
  | x :: xs => nl x && nls xs
def nlk : List (PyData × PyData) → Bool
  | [] => true
  | (k, v) :: r => nl k && nl v && nlk r
end
theorem nlk_of : ∀ {ps : List (PyData × PyData)}, nlk ps = true → nls (ps.map (·.1)) = true ∧ nls (ps.map (·.2)) = true
  | [], _ => ⟨rfl, rfl⟩
  | (k, v) :: r, h => by
    have h' : (nl k && nl v && nlk r) = true := by simpa [nlk] using h
    simp only [Bool.and_eq_true] at h'
    have ih := nlk_of h'.2
    simp only [List.map_cons, nls, Bool.and_eq_true]
    exact ⟨⟨h'.1.1, ih.1⟩, ⟨h'.1.2, ih.2⟩⟩
section
variable {P : Program} {w : World}
theorem kv_keys : ∀ {kvs : List (Key × V)} {vs : List (Key × Value)} {es : List DictEntry}, KV kvs vs → Pairs (mixKind P w) es vs → Vals (kvs.map fun q => kV q.1) (es.map (·.key)) ∧ Vals (kvs.map (·.2)) (es.map (·.val))
  | _, _, _, .nil, .nil => ⟨.nil, .nil⟩
  | _, _, _, .cons (a := q) (b := z) ⟨h1, h2⟩ r, .cons (e := e) k1 k2 k3 => by
    have ih := kv_keys r k3
    refine ⟨.cons ?_ ih.1, .cons ?_ ih.2⟩
    · have k1' : keyIs z.1 e.key = true := k1
      rw [← h1] at k1'
      rcases keyIs_shape k1' with ⟨i, t, e1, e2⟩ | ⟨x, t, e1, e2⟩
      · show RelV (kV q.1) e.key
        rw [e1, e2]
        exact ⟨t, rfl⟩
      · show RelV (kV q.1) e.key
        rw [e1, e2]
        exact ⟨t, rfl⟩
    · show RelV q.2 e.val
      rw [k2]
      exact h2
end
section
variable {X : Cx} {pins : List (Addr × Obj)} {σ : St} {H : Hp} {s : Shared}
mutual
theorem Dq.reads (I : Inv X pins σ H s) : ∀ {v : V} {d : PyData} {u : Value}, Dq X.K H v d → RelV v u → ∃ as, Reads s.heap u d as ∧ (nl d = true → sysModules ∉ as)
  | _, _, _, .non, r => by
    cases r
    exact ⟨_, Reads.none, fun _ h => nomatch h⟩
  | _, _, _, .bl b, r => by
    cases r
    exact ⟨_, Reads.bool b, fun _ h => nomatch h⟩
  | _, _, _, .int i, r => by
    obtain ⟨t, rfl⟩ := r
    exact ⟨_, Reads.int i t, fun _ h => nomatch h⟩
  | _, _, _, .str x, r => by
    obtain ⟨t, rfl⟩ := r
    exact ⟨_, Reads.str x t, fun _ h => nomatch h⟩
  | _, _, _, .lst hs ha, r => by
    cases r
    obtain ⟨its, rv, ⟨o, n, ho, hc, _, hd⟩, _⟩ := I.list hs
    obtain ⟨as, hr, _⟩ := DqAll.reads I ha rv
    exact ⟨_, Reads.list ho hc hd hr, fun h => by simp [nl] at h⟩
  | _, _, _, .tup hs ha, r => by
    cases r
    obtain ⟨its, rv, ⟨o, ho, hc, n, hd⟩, _⟩ := I.tuple hs
    obtain ⟨as, hr, hn⟩ := DqAll.reads I ha rv
    exact ⟨_, Reads.tuple ho hc hd hr, fun h => hn (by simpa [nl] using h)⟩
  | _, _, _, .dct (a := a) (ps := ps) hs hk hv, r => by
    cases r
    obtain ⟨_, hlow, vs, kv, o, es, ep, ho, ⟨hc, _, _⟩, hd, _, hp, _⟩ := I.hok _ _ hs
    obtain ⟨v1, v2⟩ := kv_keys kv hp
    obtain ⟨as, r1, n1⟩ := DqAll.reads I hk v1
    obtain ⟨bs, r2, n2⟩ := DqAll.reads I hv v2
    refine ⟨_, Reads.dict ho hc hd r1 r2, fun h => ?_⟩
    have h' := nlk_of (ps := ps) (by simpa [nl] using h)
    have hl := beq_eq_false_iff_ne.mp hlow
    intro hm
    rw [List.cons_append, List.mem_cons, List.mem_append] at hm
    rcases hm with hm | hm | hm
    · exact hl hm.symm
    · exact n1 h'.1 hm
    · exact n2 h'.2 hm
theorem DqAll.reads (I : Inv X pins σ H s) : ∀ {vs : List V} {ds : List PyData} {us : List Value}, DqAll X.K H vs ds → Vals vs us → ∃ as, ReadsAll s.heap us ds as ∧ (nls ds = true → sysModules ∉ as)
  | _, _, _, .nil, r => by
    cases r
    exact ⟨_, ReadsAll.nil, fun _ h => nomatch h⟩
  | _, _, _, .cons h1 h2, r => by
    cases r with
    | cons r1 r2 =>
      obtain ⟨as, q1, n1⟩ := Dq.reads I h1 r1
      obtain ⟨bs, q2, n2⟩ := DqAll.reads I h2 r2
      refine ⟨_, ReadsAll.cons q1 q2, fun h => ?_⟩
      have h' := h
      simp only [nls, Bool.and_eq_true] at h'
      intro hm
      rcases List.mem_append.mp hm with hm | hm
      · exact n1 h'.1 hm
      · exact n2 h'.2 hm
end
/-! ### repr -/
structure shownQ (d : PyData) : Prop where
  sh : d.showable = true
  dep : d.depth ≤ 64
  len : d.shown.length ≤ sizeLine
  nd : d.hasDict = true → nl d = true
def rReprQ (K : PySem.W.Frag) : List V → Hp → VK → Prop := fun xs H Q => ∃ (v : V) (d : PyData), xs = [v] ∧ Dq K H v d ∧ shownQ d ∧ Q (.str d.shown) H
theorem call_reprQ (hg : X.A.guards = some []) (hu : X.A.units + 70 < cLine) : CallR X (.builtin "repr") (rReprQ X.K) := by
  intro pins s σ H xs us Q I r h
  obtain ⟨v, d, rfl, hd, ⟨hs, hdep, hl, hnd⟩, q⟩ := h
  obtain ⟨u, rfl, ru⟩ := vals1 r
  obtain ⟨as, rd, hm⟩ := Dq.reads I hd ru
  have big : ∀ a, u = Value.ref a → wpAny (model X.prog X.w) X.A (call (.builtin "repr") [u]) (EP X pins σ Q) X.xe s := fun a e => by
    subst e
    exact repr_of_reads' rd hs (fun h => hm (hnd h)) hg (by omega) (fun _ _ e => e) (fun h' t tk k => ⟨.str d.shown, H, I.kept k, ⟨_, rfl⟩, q⟩) hl
  cases hd with
  | non =>
    cases ru
    exact PySem.P.repr_of_none ⟨.str _, H, I.tok _, ⟨_, rfl⟩, by simpa only [PyData.shown] using q⟩
  | bl b =>
    cases ru
    exact PySem.P.repr_of_bool ⟨.str _, H, I.tok _, ⟨_, rfl⟩, by simpa only [PyData.shown] using q⟩
  | int i =>
    obtain ⟨t, rfl⟩ := ru
    exact PySem.P.repr_of_int (by simpa [PyData.showable] using hs) ⟨.str _, H, I.tok _, ⟨_, rfl⟩, by simpa only [PyData.shown] using q⟩
  | str x =>
    obtain ⟨t, rfl⟩ := ru
    exact PySem.P.repr_of_str ⟨.str _, H, I.tok _, ⟨_, rfl⟩, by simpa only [PyData.shown] using q⟩ (by simpa only [PyData.shown] using hl)
  | lst _ _ => exact big _ ru
  | tup _ _ => exact big _ ru
  | dct _ _ _ => exact big _ ru
end
end L2
set_option Elab.async false
set_option linter.all false
set_option maxRecDepth 100000
set_option maxHeartbeats 4000000
namespace L2
open PySem PySem.Spec PyProof.Rows
/-! ### xs == [], xs of anything; xs.extend(t), t a tuple -/
def rEqNil (K : PySem.W.Frag) : R2 := fun x y H Q => ∃ a b xs, x = .ref a ∧ y = .ref b ∧ SqL K H a xs ∧ SqL K H b [] ∧ Q (.bl xs.isEmpty) H
def rNeNil (K : PySem.W.Frag) : R2 := fun x y H Q => ∃ a b xs, x = .ref a ∧ y = .ref b ∧ SqL K H a xs ∧ SqL K H b [] ∧ Q (.bl (!xs.isEmpty)) H
theorem list_extend_tupW (l : Addr) (items : Array Value) (n : Nat) (b : Addr) (items2 : Array Value) (n2 : Nat) (dd2 : Option Addr) (sl2 : Array (Option Value)) (hs0 : ¬(!items.isEmpty && Builtin.List.listTooLong (items.size + items2.size)) = true) (hs1 : items.size ≤ sizeLine) (hs2 : items.size + items2.size ≤ sizeLine + 1) :
    Meets (Builtin.«list.extend» ⟨[.ref l, .ref b], []⟩) (fun _ R s => s.heap.get? l = some { cls := .type "list", dict := none, data := .seq items n, slots := #[] } ∧ s.heap.get? b = some { cls := .type "tuple", dict := dd2, data := .seq items2 n2, slots := sl2 } ∧ R (.ok (.ret Value.none)) { s with heap := s.heap.update l (Obj.mapSeq fun x => x ++ items2), toks := s.toks }) :=
  .of_wp fun prog w A R s h => by
    obtain ⟨hp, g, d, tk, os⟩ := s
    obtain ⟨hl, hb, h⟩ := h
    have f1 := AutoSeq1.idx_int
    have f2 := AutoSeq1.sub_tuple_tuple
    have f3 := AutoSeq1.sub_list_list
    have f4 := AutoSeq1.sub_tuple_list
    have f5 := AutoSeq1.sub_list_tuple
    have hz' : (items ++ items2).size ≤ sizeLine + 1 := by rw [Array.size_append]; exact hs2
    wp_walk using (wpAny_updateSeq hl rfl (hz := hs1) (_hz' := hz')), AutoSeq1.wpAny_loadPart' hl, AutoSeq1.wpAny_loadPart' hb
    exact ⟨_, rfl, h⟩
def rExtT (K : PySem.W.Frag) : V → List V → Hp → VK → Prop := fun x vs H Q => ∃ l b xs zs, x = .ref l ∧ vs = [.ref b] ∧ H l = some (.lst xs) ∧ SqT K H b zs ∧ xs.length + zs.length ≤ sizeLine ∧ Q .non (upd H l (.lst (xs ++ zs)))
section
variable {X : Cx}
theorem op_eqNil (hu : X.A.units + 64 < cLine) : OpR X (compareOp .Eq) (rEqNil X.K) := by
  intro pins s σ H x y v u Q I rx ry h
  obtain ⟨a, b, xs, rfl, rfl, ha, hb, q⟩ := h
  cases rx
  cases ry
  obtain ⟨its, r1, ⟨⟨cls, dd, data, sl⟩, n, ho, hc, hdn, hd⟩, hz1⟩ := I.list ha
  obtain ⟨its2, r2, ⟨⟨cls2, dd2, data2, sl2⟩, n2, ho2, hc2, hdn2, hd2⟩, hz2⟩ := I.list hb
  simp only at hc hd hc2 hd2
  subst hc hd hc2 hd2
  cases r2
  have hl1 := r1.length
  cases xs with
  | nil =>
    cases r1
    have e := SeqAt.list_eqAt a b (#[] : Array Value) (#[] : Array Value) n n2 dd dd2 sl sl2 rfl (fun _ => true)
    exact richCompare_meets_room (op := .Eq) ⟨_, ho, rfl⟩ ⟨_, ho2, rfl⟩ F.slot_list_eq F.entry_list_eq (F.args_list_eq_2 _ _) e
      ⟨ho, ho2, fun j h1 => absurd h1 (Nat.not_lt_zero _), show Value.bool true ≠ Value.notImplemented ∧ _ from ⟨(fun x => nomatch x), .bl true, H, I, rfl, q⟩⟩ (by omega)
  | cons y ys =>
    have hne : (its.toArray.size != (#[] : Array Value).size) = true := by
      rw [List.size_toArray, ← hl1]
      rfl
    exact richCompare_meets_room (op := .Eq) ⟨_, ho, rfl⟩ ⟨_, ho2, rfl⟩ F.slot_list_eq F.entry_list_eq (F.args_list_eq_2 _ _) (SeqAt.list_eq_lengthsAt a b its.toArray #[] n n2 dd dd2 sl sl2 hne)
      ⟨ho, ho2, show Value.bool false ≠ Value.notImplemented ∧ _ from ⟨(fun x => nomatch x), .bl false, H, I, rfl, q⟩⟩ (by omega)
theorem op_neNil (hu : X.A.units + 64 < cLine) : OpR X (compareOp .NotEq) (rNeNil X.K) := by
  intro pins s σ H x y v u Q I rx ry h
  obtain ⟨a, b, xs, rfl, rfl, ha, hb, q⟩ := h
  cases rx
  cases ry
  obtain ⟨its, r1, ⟨⟨cls, dd, data, sl⟩, n, ho, hc, hdn, hd⟩, hz1⟩ := I.list ha
  obtain ⟨its2, r2, ⟨⟨cls2, dd2, data2, sl2⟩, n2, ho2, hc2, hdn2, hd2⟩, hz2⟩ := I.list hb
  simp only at hc hd hc2 hd2
  subst hc hd hc2 hd2
  cases r2
  have hl1 := r1.length
  cases xs with
  | nil =>
    cases r1
    have e := SeqAt.list_neAt a b (#[] : Array Value) (#[] : Array Value) n n2 dd dd2 sl sl2 rfl (fun _ => true)
    exact richCompare_meets_room (op := .NotEq) ⟨_, ho, rfl⟩ ⟨_, ho2, rfl⟩ F.slot_list_ne F.entry_list_ne (F.args_list_ne_2 _ _) e
      ⟨ho, ho2, fun j h1 => absurd h1 (Nat.not_lt_zero _), show Value.bool false ≠ Value.notImplemented ∧ _ from ⟨(fun x => nomatch x), .bl false, H, I, rfl, q⟩⟩ (by omega)
  | cons y ys =>
    have hne : (its.toArray.size != (#[] : Array Value).size) = true := by
      rw [List.size_toArray, ← hl1]
      rfl
    exact richCompare_meets_room (op := .NotEq) ⟨_, ho, rfl⟩ ⟨_, ho2, rfl⟩ F.slot_list_ne F.entry_list_ne (F.args_list_ne_2 _ _) (SeqAt.list_ne_lengthsAt a b its.toArray #[] n n2 dd dd2 sl sl2 hne)
      ⟨ho, ho2, show Value.bool true ≠ Value.notImplemented ∧ _ from ⟨(fun x => nomatch x), .bl true, H, I, rfl, q⟩⟩ (by omega)
theorem mt_extendT : MtM X "list.extend" (rExtT X.K) := by
  intro pins s σ H x vs v us Q I rx rv h
  obtain ⟨l, b, xs, zs, rfl, rfl, hH, hB, hz, q⟩ := h
  cases rx
  obtain ⟨u, rfl, ru⟩ := rv.one
  cases ru
  obtain ⟨z, its, n, r, hl, e⟩ := I.lstM hH
  obtain ⟨its2, r2, ⟨⟨cls2, dd2, data2, sl2⟩, ho2, hc2, n2, hd2⟩, z2⟩ := I.tuple hB
  simp only at hc2 hd2
  subst hc2 hd2
  have hl2 := r2.length
  have hsz : its.toArray.size + its2.toArray.size ≤ sizeLine := by rw [List.size_toArray, List.size_toArray]; omega
  have hlong : ¬ (!its.toArray.isEmpty && Builtin.List.listTooLong (its.toArray.size + its2.toArray.size)) = true := by
    rw [notLongL hsz, Bool.and_false]
    exact Bool.false_ne_true
  refine call_meets F.slot_list_extend ⟨_, e, rfl⟩ F.entry_list_extend (F.args_list_extend_2 _ _)
    (list_extend_tupW l its.toArray n b its2.toArray n2 dd2 sl2 hlong (by rw [List.size_toArray]; omega) (by omega)) ⟨e, ho2, ?_⟩
  refine ⟨.non, _, I.lset (its' := its ++ its2) hH e (by simp) (r.append r2) ?_, rfl, q⟩
  rw [List.length_append]
  omega
end
end L2
set_option Elab.async false
set_option linter.all false
set_option maxRecDepth 100000
set_option maxHeartbeats 4000000
namespace L2
open PySem PySem.Spec PyProof.Rows
/-! a def whose promise is asked only where no repr is under way -/
structure FnG (P : Program) (w : World) (K : PySem.W.Frag) (mg : Str → Option Value) (base : Heap) (CX : CXT) (k : Nat) (f : Addr) (fd : FuncData) (ps : List Str) (sp : Sp) : Prop where
  run : ∀ (A : Around) (outer : List Env) (s : Shared) (H : Hp) (args : Args) (us : List Value) (vs : List V) (Q : VK) (E : XK), A.guards = some [] → Room k A → Env0 P w K mg base A outer s H →
    BindsTo s fd args (ps.zip us) → Vals vs us → sp vs H Q E → codeAny (model P w) A (.call (.ref f) args) (CR CX outer P w H s Q E) s
section
variable {P : Program} {w : World} {K : PySem.W.Frag} {mg : Str → Option Value} {base : Heap} {CX : CXT} {k : Nat}
theorem fnG_of {f : Addr} {nm ql : Str} {pa : Arguments} {bd : List Stmt} {sc : Scope} {dV kV dc pm cdv ct oc : Value} {an od : Option Addr} {osl : Array (Option Value)} {N ps : List Str} {sp : Sp}
    (lk : K.lookup f = some ⟨oc, od, .func (PySem.W.fnOf nm ql pa bd sc dV kV dc pm an cdv ct), osl⟩) (hcd : PySem.W.codeIn K cdv ql = true) (S : FnScope N ps sc)
    (ln : ∀ vs H Q E, sp vs H Q E → vs.length = ps.length)
    (hb : ∀ (A : Around) (outer : List Env) (s : Shared) (H : Hp) (vs : List V) (Q : VK) (E : XK), (A.deeper (envOfC ql sc s.heap.objs.size f cdv)).guards = some [] → Room k (A.deeper (envOfC ql sc s.heap.objs.size f cdv)) → sp vs H Q E →
      ∃ t, PSs (cxOf CX P w K mg base N ql sc f cdv A outer s H E) bd t ∧ t { nx := fun _ H' => Q .non H', rt := Q } (start N vs) H) :
    FnG P w K mg base CX (k + 1) f (PySem.W.fnOf nm ql pa bd sc dV kV dc pm an cdv ct) ps sp := by
  constructor
  intro A outer s H args us vs Q E hg hr e0 hbd rv hsp
  have hln := ln _ _ _ _ hsp
  have inK : K.In s.heap := e0.mod.kin.keeps (fun b o e => (e0.bs b o e).1)
  have noL : s.heap.NoLimit := e0.mod.nolimit.keeps (fun b o e => (e0.bs b o e).1)
  have hkd : ∀ y ∈ ps.zip us, sc.names.lookup y.1 = some .local ∨ (sc.names.lookup y.1 = some .cell ∧ ((cellsFrom (s.heap.objs.size + 1) sc.names []).lookup y.1).isSome = true) := by
    rintro ⟨n, v⟩ hy
    rcases S.par n (List.of_mem_zip hy).1 with z | z
    · exact Or.inl z
    · exact Or.inr ⟨z, PySem.W.cellsFrom_some _ _ _ (Or.inl z)⟩
  refine codeAny_call_function hr.depth (inK _ _ lk) rfl S.co S.gen rfl
    (PySem.W.codeRec_of inK hcd) (hbd _ _ _ _ ?_)
  refine wpAny_newFunctionEnv_cells S.kind hkd
    (fun env he s1 x => ?_)
  subst he
  refine ⟨noL.keeps x.toInCall.keep, codeAny_func ?_⟩
  obtain ⟨t, ht, hq⟩ := hb A outer s H vs Q E hg (hr.deeper _) hsp
  have I0 := inv_start (CX := CX) (E := E) S hr.hd e0 hln rv x
  refine wpAny_mono (ht.run [] s1 (start N vs) H _ I0 hq)
    (fun fl s' hs => ?_) (fun e s' hs => hs)
  have done : ∀ {σ' : St} {H' : Hp} {v : V} {u : Value}, Inv (cxOf CX P w K mg base N ql sc f cdv A outer s H E) [] σ' H' s' → RelV v u → Q v H' → CE outer P w H s Q u s' := by
    intro σ' H' v u J r q
    exact ⟨v, H', J.os, J.bare, J.base, J.hok, r, q⟩
  cases fl with
  | ret u =>
    obtain ⟨v, σ', H', J, r, q⟩ := hs
    exact done J r q
  | next =>
    obtain ⟨σ', H', J, q⟩ := hs
    exact done (v := .non) (u := .none) J rfl q
  | brk => exact (hs.elim fun _ ⟨_, _, q⟩ => q.elim)
  | cont => exact (hs.elim fun _ ⟨_, _, q⟩ => q.elim)
/-- by its place in the text, as C8's -/
theorem fnG0 {x : Str} {st : Stmt} {f : Addr} {fd : FuncData} {N ps : List Str} {sp : Sp} (D : C8.Def K mg x st f fd) (S : FnScope N ps (C8.fnScope st)) (ln : ∀ vs H Q E, sp vs H Q E → vs.length = ps.length)
    (hb : ∀ (cdv : Value) (A : Around) (outer : List Env) (s : Shared) (H : Hp) (vs : List V) (Q : VK) (E : XK), (A.deeper (envOfC x (C8.fnScope st) s.heap.objs.size f cdv)).guards = some [] → Room k (A.deeper (envOfC x (C8.fnScope st) s.heap.objs.size f cdv)) → sp vs H Q E →
      ∃ t, PSs (cxOf C8.CX0 P w K mg base N x (C8.fnScope st) f cdv A outer s H E).nox (C8.fnBody st) t ∧ t { nx := fun _ H' => Q .non H', rt := Q } (start N vs) H) : FnG P w K mg base C8.CX0 (k + 1) f fd ps sp := by
  obtain ⟨oc, od, dV, kV, doc, pm, an, cdv, ct, osl, rfl, lk, hcd⟩ := D.fn.ex
  refine fnG_of lk hcd S ln (fun A outer s H vs Q E hg hr hsp => ?_)
  obtain ⟨t, h, q⟩ := hb cdv A outer s H vs Q E hg hr hsp
  exact ⟨t, h.nox, q⟩
end
/-- the law's call, from such a promise -/
theorem lawG {P : Program} {w : World} {K : PySem.W.Frag} {mg mb : Str → Option Value} {CX : CXT} {k : Nat} {fa a : Addr} {fd : FuncData} {x : Str} {sp : Sp} {s₁ : Shared} {vs : List Value} {ns : List Int}
    (KX : K.In s₁.heap) (hns : s₁.heap.Ns mainGlobals mg) (hb : s₁.heap.Ns builtinsNs mb) (hbb : ∀ x : Str, x ≠ "__name__" → mb x = bootBuiltins x) (hlim : s₁.heap.NoLimit) (hg : s₁.gens = #[])
    (ha : s₁.heap.get? a = some { cls := .type "list", data := .seq vs.toArray }) (hi : IntsAre vs ns) (hl : ns.length ≤ sizeLine) (hr : Room k callerA)
    (F : ∀ base : Heap, K.In base → base.Ns mainGlobals mg → FnG P w K mg base CX k fa fd [x] sp)
    (hbind : ∀ (s : Shared) (u : Value), BindsTo s fd ⟨[u], []⟩ [(x, u)])
    (hsp : ∀ H : Hp, Only H → SqL K H a (ns.map V.int) → sp [.ref a] H (fun v _ => v = .bl true) fun _ _ _ => False)
    (hCX : ∀ H e s', CX [] H s₁ (fun _ _ _ => False) e s' → False) :
    codeAny (model P w) callerA (.call (.ref fa) ⟨[.ref a], []⟩) (fun r s' => r = .ok (.ret (.bool true)) ∧ OldK s₁.heap s'.heap ∧ s'.os = s₁.os ∧ AllBare s'.gens) s₁ := by
  have vi := vals_ints hi
  have hvl := hi.length
  have main : ∀ H : Hp, Only H → SqL K H a (ns.map V.int) → HOk P w H s₁.heap → (∀ b, H b ≠ none → b = a) → (H a ≠ none → K.lookup a = none) →
      codeAny (model P w) callerA (.call (.ref fa) ⟨[.ref a], []⟩) (fun r s' => r = .ok (.ret (.bool true)) ∧ OldK s₁.heap s'.heap ∧ s'.os = s₁.os ∧ AllBare s'.gens) s₁ := by
    intro H only hS hok onlyA noK
    have free : ∀ {b : Addr} {o : Obj} {es : Array DictEntry} {ep : Nat}, s₁.heap.get? b = some o → o.data = .dict es ep → H b = none := by
      intro b o es ep e d
      cases q : H b with
      | none => rfl
      | some u =>
        have hba : b = a := onlyA b (by rw [q]; simp)
        subst hba
        rw [ha] at e
        cases e
        exact nomatch (show Data.seq vs.toArray _ = Data.dict es ep from d)
    have nsAt : ∀ {b : Addr} {m : Str → Option Value}, s₁.heap.Ns b m → (hidT s₁.heap H).Ns b m := by
      rintro b m ⟨o, es, ep, e, d, r⟩
      exact ⟨o, es, ep, hidT_get e (free e d), d, r⟩
    have inB : K.In (hidT s₁.heap H) := by
      intro b o e
      refine hidT_get (KX b o e) ?_
      cases q : H b with
      | none => rfl
      | some u =>
        have hba : b = a := onlyA b (by rw [q]; simp)
        subst hba
        rw [noK (by rw [q]; simp)] at e
        cases e
    have md : Mod K mg (hidT s₁.heap H) := by
      obtain ⟨mc, h1, h2⟩ := hlim
      exact ⟨inB, nsAt hns, ⟨mb, nsAt hb, hbb⟩, ⟨mc, nsAt h1, h2⟩⟩
    have e0 : Env0 P w K mg (hidT s₁.heap H) callerA [] s₁ H := by
      refine ⟨rfl, md, fun b o e => of_hidT e, Nat.le_of_eq (hidT_size _ _), trivial, ?_, hok, .of_eq hg⟩
      intro b hb
      exact absurd (show b ∈ ([] : List Addr) from hb) (by simp)
    have hrun := (F _ inB (nsAt hns)).run callerA [] s₁ H ⟨[.ref a], []⟩ [.ref a] [.ref a] _ _ rfl hr e0
      (hbind s₁ (.ref a)) (.cons rfl .nil) (hsp H only hS)
    refine codeAny_mono hrun (fun r s' h => ?_)
    cases r with
    | error e => exact (hCX H e s' h).elim
    | ok fl =>
      cases fl with
      | ret u =>
        obtain ⟨v, H', os, bare, un, hok', r', q⟩ := h
        have qv : v = .bl true := q
        subst qv
        have ru : u = Value.bool true := r'
        subst ru
        refine ⟨rfl, OldK.of_keep ?_, os, bare⟩
        intro b o e
        cases q : H b with
        | none => exact un.keep b o e q (fun z => absurd (show b ∈ ([] : List Addr) from z) (by simp)) (by simp)
        | some u =>
          rcases only b with z | ⟨ob, ys, z⟩
          · rw [q] at z
            cases z
          · obtain ⟨e1, _⟩ := hok b _ z
            obtain ⟨e2, _⟩ := hok' b _ (un.frzs b ob _ z)
            rw [e] at e1
            cases e1
            exact e2
      | next => exact False.elim h
      | brk => exact False.elim h
      | cont => exact False.elim h
  cases hk : K.lookup a with
  | some o =>
    have e := KX a o hk
    rw [ha] at e
    cases e
    refine main (fun _ => none) (fun _ => Or.inl rfl) (Or.inr ⟨_, vs.toArray, _, hk, rfl, rfl, rfl, ?_, ?_⟩) ?_ (fun b z => absurd rfl z) (fun z => absurd rfl z)
    · rw [List.size_toArray, hvl]
      exact hl
    · simpa using vi
    · intro b u z
      exact nomatch (show (none : Option HO) = some u from z)
  | none =>
    refine main (fun b => if b = a then some (.frz { cls := .type "list", data := .seq vs.toArray } (.lst (ns.map V.int))) else none) (fun b => ?_) (Or.inl (Or.inr ⟨_, if_pos rfl⟩)) (fun b u z => ?_) (fun b z => ?_) (fun _ => hk)
    · by_cases hba : b = a
      · exact Or.inr ⟨_, _, if_pos hba⟩
      · exact Or.inl (if_neg hba)
    · by_cases hba : b = a
      · have zz := (if_pos hba).symm.trans z
        cases zz
        subst hba
        exact ⟨ha, by rw [List.length_map]; exact hl, vs, _, vi, ha⟩
      · have zz := (if_neg hba).symm.trans z
        cases zz
    · by_cases hba : b = a
      · exact hba
      · exact absurd (if_neg hba) z
/-- the goal that the head leaves, from such a promise of the law's def -/
theorem walkG {l : PySem.W.OpenLaw} {n k : Nat} {q : Program} {loose : List Str} {XP : (Str → Option Value) → Heap → Prop} {YP : World → Heap → Prop} {d : DefRec} {K : Params → PySem.W.Frag} {sp : PySem.W.Frag → Sp} {x : Str}
    (hn : l.most = some n) (hn2 : n ≤ sizeLine) (hdf : d.params.defaults = []) (hr : Room k callerA) (hY : ∀ (w : World) (h : Heap), YP w h → (K w.params).In h)
    (F : ∀ (w : World) (mg : Str → Option Value) (fa : Addr) (h : Heap), (K w.params).In h → h.Ns mainGlobals mg → mg d.name = some (.ref fa) →
      ∃ fd : FuncData, (∀ (s : Shared) (u : Value), BindsTo s fd ⟨[u], []⟩ [(x, u)]) ∧ ∀ base : Heap, (K w.params).In base → base.Ns mainGlobals mg → FnG l.prog w (K w.params) mg base C8.CX0 k fa fd [x] (sp (K w.params)))
    (hsp : ∀ (K : PySem.W.Frag) (H : Hp) (a : Addr) (ns : List Int), ns.length ≤ n → Only H → SqL K H a (ns.map V.int) → sp K [.ref a] H (fun v _ => v = .bl true) fun _ _ _ => False) :
    PySem.W.WalkO q loose XP YP l.row.toRowW d [] (fun f vs => PySem.call f vs) := by
  refine Att.attach_call hn hdf ?_
  intro w s₀ s₁ mg mb fa o pm cd doc a vs ns G Y ho hd hcd hmg hobj hints hlen hg
  have inK := hY w _ Y
  obtain ⟨fd, hb, hF⟩ := F w mg fa _ inK G.T.g hmg
  exact lawG inK G.T.g G.T.b G.T.builtins G.T.nolimit hg hobj hints (Nat.le_trans hlen hn2) hr hF hb (fun H hO hS => hsp _ H a ns hlen hO hS) (fun H e s' z => z)
end L2
set_option Elab.async false
set_option linter.all false
set_option maxRecDepth 100000
set_option maxHeartbeats 4000000
namespace K13
open PySem PySem.Spec PyProof.Rows L2
open C8 (Cal Def cal0 pe_c fnBody fnScope fnArgs)

def topS (i : Nat) : Stmt := PySem.Challenge.pw_changewhile_k13_values_told.main.body.getD i (.Pass ⟨0, 0, 0, 0⟩)
/-- what the module's names hold that are no defs -/
structure Tp (mg : Str → Option Value) : Prop where
  n_isinstance : mg "isinstance" = none
  n_str : mg "str" = none
  n_tuple : mg "tuple" = none
  n_list : mg "list" = none
  n_bool : mg "bool" = none
  n_len : mg "len" = none
  n_range : mg "range" = none
  n_max : mg "max" = none
  n_min : mg "min" = none
  n_repr : mg "repr" = none
  n_int : mg "int" = none
  n_all : mg "all" = none
  g_NUMBERS : ∃ u, mg "NUMBERS" = some u ∧ RelV (.int 1000000000000) u
  g_LONGEST_TUPLE : ∃ u, mg "LONGEST_TUPLE" = some u ∧ RelV (.int 60) u

/-! ### arithmetic -/
theorem fmod_lo {a n : Int} (h : 0 < n) : 0 ≤ a.fmod n := by
  rw [Int.fmod_eq_emod_of_nonneg a (by omega)]
  exact Int.emod_nonneg a (by omega)
theorem fmod_hi {a n : Int} (h : 0 < n) : a.fmod n < n := by
  rw [Int.fmod_eq_emod_of_nonneg a (by omega)]
  exact Int.emod_lt_of_pos a h
theorem div_lo {a n : Int} (h : 0 < n) (ha : 0 ≤ a) : 0 ≤ a / n := Int.ediv_nonneg ha (by omega)
theorem pot_of {H : Hp} {p : Addr} {x y : Int} (hx : 0 ≤ x) (hy : 0 ≤ y) (h : y < 1099511627776) : Pot (upd H p (.lst [.int x, .int y])) p x y := ⟨upd_same, hx, hy, h⟩

section
variable {P : Program} {w : World} {K : PySem.W.Frag} {mg : Str → Option Value} {base : Heap}
/-! ### the drawing -/
abbrev sLTake : Stmt := topS 14
abbrev NLTake : List Str := ["_law_pot_here", "_law_many", "_law_digit"]
theorem scLTake : FnScope NLTake ["_law_pot_here", "_law_many"] (fnScope sLTake) := ⟨rfl, rfl, rfl, by decide +kernel, rfl, by decide +kernel, by decide +kernel⟩
def spTake : Sp := fun vs H Q _ => ∃ (p : Addr) (x y n : Int), vs = [.ref p, .int n] ∧ Pot H p x y ∧ 0 < n ∧ n.natAbs < 2 ^ 300 ∧
  ∀ r x' y', 0 ≤ r → r < n → Pot (upd H p (.lst [.int x', .int y'])) p x' y' → Q (.int r) (upd H p (.lst [.int x', .int y']))
theorem c_take {f : Addr} {fd : FuncData} (D : Def K mg "_law_take" sLTake f fd) (b : Binds K fd ["_law_pot_here", "_law_many"] []) : Cal P w K mg base 1 "_law_take" spTake [] := by
  refine cal0 D b .nil scLTake (fun vs H Q E h => ?_) (fun cdv A outer s H vs Q E hr h => ?_)
  · obtain ⟨p, x, y, n, rfl, _⟩ := h
    rfl
  · obtain ⟨p, x, y, n, rfl, hp, n0, n1, q⟩ := h
    have nd := scLTake.nd
    refine ⟨_, (pss_cons (ps_if (pt_cmpR op_gt (pe_ix ix_list (pv 0) pe_int (fun _ _ => rfl)) pe_int (nomark _))
      (pss_cons (ps_set (i := 2) nd rfl (.inl rfl) (pe_op op_modN (pe_ix ix_list (pv 0) pe_int (fun _ _ => rfl)) (pv 1)))
      (pss_cons (ps_asg (pe_op op_fdivW (pe_ix ix_list (pv 0) pe_int (fun _ _ => rfl)) (pv 1)) (pg_sub (pv 0) pe_int set_list))
      (pss_one (ps_ret (pv 2)))))
      pss_nil)
    (pss_cons (ps_asg (pe_op op_modN (pe_op op_add (pe_op op_mul (pe_ix ix_list (pv 0) pe_int (fun _ _ => rfl)) pe_int) pe_int) pe_int) (pg_sub (pv 0) pe_int set_list))
    (pss_one (ps_ret (pe_op op_modN (pe_op op_fdivW (pe_op op_modN (pe_op op_mul (pe_ix ix_list (pv 0) pe_int (fun _ _ => rfl)) (pe_ix ix_list (pv 0) pe_int (fun _ _ => rfl))) pe_int) pe_int) (pv 1)))))), ?_⟩
    have h0 := hp.x0
    have h1 := hp.y0
    have h2 := hp.y1
    have hl := hp.at_
    refine ⟨_, rfl, _, _, _, _, rfl, rfl, SqL.of hl, atI_nat (j := 0) rfl, _, _, rfl, rfl, _, rfl, ite2 (fun e => ?_) (fun e => ?_)⟩
    · refine ⟨_, rfl, _, _, _, _, rfl, rfl, SqL.of hl, atI_nat (j := 0) rfl, _, rfl, _, _, rfl, rfl, (show n ≠ 0 by omega), ?_⟩
      refine ⟨_, rfl, _, _, _, _, rfl, rfl, SqL.of hl, atI_nat (j := 0) rfl, _, rfl, _, _, rfl, rfl, wide_div n0 n1 (by decide) (by decide), ?_⟩
      refine ⟨_, rfl, _, _, _, _, rfl, rfl, hl, rfl, ?_⟩
      refine ⟨_, rfl, ?_⟩
      exact q _ _ _ (fmod_lo n0) (fmod_hi n0) (pot_of (div_lo n0 h0) h1 h2)
    · refine ⟨_, rfl, _, _, _, _, rfl, rfl, SqL.of hl, atI_nat (j := 1) rfl, _, _, rfl, rfl, .inl ⟨by omega, by omega⟩, _, _, rfl, rfl, _, _, rfl, rfl, (by show (2147483629 : Int) ≠ 0; decide), ?_⟩
      refine ⟨_, rfl, _, _, _, _, rfl, rfl, hl, rfl, ?_⟩
      have b0 : 0 ≤ (y * 39373 + 7919).fmod 2147483629 := fmod_lo (by decide)
      have b1 : (y * 39373 + 7919).fmod 2147483629 < 2147483629 := fmod_hi (by decide)
      refine ⟨_, rfl, _, _, _, _, rfl, rfl, SqL.of upd_same, atI_nat (j := 1) rfl, _, rfl, _, _, _, _, rfl, rfl, SqL.of upd_same, atI_nat (j := 1) rfl, _, _, rfl, rfl, .inl ⟨by omega, by omega⟩, _, _, rfl, rfl, (by show (2147483563 : Int) ≠ 0; decide), _, _, rfl, rfl, wide_div (b := 64) (by decide) (by decide) (by decide) (by decide), _, rfl, _, _, rfl, rfl, (show n ≠ 0 by omega), ?_⟩
      exact q _ _ _ (fmod_lo n0) (fmod_hi n0) (pot_of h0 b0 (by omega))

/-! ### a cell, the pot -/
abbrev sLCellAt : Stmt := topS 12
abbrev NLCellAt : List Str := ["_law_script", "_law_k"]
theorem scLCellAt : FnScope NLCellAt ["_law_script", "_law_k"] (fnScope sLCellAt) := ⟨rfl, rfl, rfl, by decide +kernel, rfl, by decide +kernel, by decide +kernel⟩
def spCellAt (K : PySem.W.Frag) : Sp := fun vs H Q _ => ∃ (a : Addr) (ns : List Int) (k : Nat), vs = [.ref a, .int k] ∧ SqL K H a (ns.map V.int) ∧ ∀ n, Q (.int n) H
theorem c_cellAt (T : Tp mg) {f : Addr} {fd : FuncData} (D : Def K mg "_law_cell_at" sLCellAt f fd) (b : Binds K fd ["_law_script", "_law_k"] []) : Cal P w K mg base 1 "_law_cell_at" (spCellAt K) [] := by
  refine cal0 D b .nil scLCellAt (fun vs H Q E h => ?_) (fun cdv A outer s H vs Q E hr h => ?_)
  · obtain ⟨a, ns, k, rfl, _⟩ := h
    rfl
  · obtain ⟨a, ns, k, rfl, hs, q⟩ := h
    refine ⟨_, (pss_one (ps_ret (pe_ifExp (pt_cmpR op_lt (pv 1) (pe_callB call_len_seq (by rfl) T.n_len (by decide +kernel) (pa_cons (pv 0) pa_nil)) (nomark _)) (pe_ix ix_list (pv 0) (pv 1) (fun _ _ => rfl)) pe_int))), ?_⟩
    refine ⟨_, rfl, _, rfl, _, _, rfl, .inl hs, _, _, rfl, rfl, _, rfl, ite2 (fun e => ?_) (fun e => ?_)⟩
    · have e1 : (k : Int) < ((ns.map V.int).length : Int) := of_decide_eq_true e
      have e2 : k < ns.length := by
        rw [List.length_map] at e1
        omega
      refine ⟨_, rfl, _, rfl, _, _, _, .int ns[k], rfl, rfl, hs, atI_nat (j := k) ?_, q _⟩
      rw [List.getElem?_map, List.getElem?_eq_getElem e2]
      rfl
    · exact q _
abbrev sLPot : Stmt := topS 13
abbrev NLPot : List Str := ["_law_cell", "_law_k"]
theorem scLPot : FnScope NLPot ["_law_cell", "_law_k"] (fnScope sLPot) := ⟨rfl, rfl, rfl, by decide +kernel, rfl, by decide +kernel, by decide +kernel⟩
def spPot : Sp := fun vs H Q _ => ∃ (c : Int) (k : Nat), vs = [.int c, .int k] ∧ k ≤ 100 ∧ ∀ p x y, H p = none → Pot (upd H p (.lst [.int x, .int y])) p x y → Q (.ref p) (upd H p (.lst [.int x, .int y]))
theorem c_pot {f : Addr} {fd : FuncData} (D : Def K mg "_law_pot" sLPot f fd) (b : Binds K fd ["_law_cell", "_law_k"] []) : Cal P w K mg base 1 "_law_pot" spPot [] := by
  refine cal0 D b .nil scLPot (fun vs H Q E h => ?_) (fun cdv A outer s H vs Q E hr h => ?_)
  · obtain ⟨c, k, rfl, _⟩ := h
    rfl
  · obtain ⟨c, k, rfl, hk, q⟩ := h
    refine ⟨_, (pss_cons (ps_if (pt_cmpR op_ge (pv 0) (pe_op op_pow pe_int pe_int) (nomark _))
      (pss_one (ps_ret (pe_lst (pa_cons (pv 0) (pa_cons (pe_op op_add pe_int (pv 1)) pa_nil)))))
      pss_nil)
    (pss_one (ps_ret (pe_lst (pa_cons pe_int (pa_cons (pe_op op_modN (pe_op op_add (pe_op op_add (pe_op op_add (pe_op op_mul (pv 0) pe_int) (pe_op op_mul (pe_op op_mul pe_int (pv 1)) (pv 1))) (pe_op op_mul pe_int (pv 1))) pe_int) pe_int) pa_nil)))))), ?_⟩
    refine ⟨_, rfl, _, _, rfl, rfl, (by show (0 : Int) ≤ 18 ∧ _; decide), _, _, rfl, rfl, _, rfl, ite2 (fun e => ?_) (fun e => ?_)⟩
    · have e1 : ((10 : Int) ^ (18 : Int).toNat) ≤ c := of_decide_eq_true e
      have e2 : (10 : Int) ^ (18 : Int).toNat = 1000000000000000000 := by decide
      refine ⟨_, rfl, _, rfl, _, _, rfl, rfl, (by show 2 ≤ sizeLine; decide), fun p hp => ?_⟩
      exact q p _ _ hp (pot_of (by omega) (by omega) (by omega))
    · refine ⟨_, rfl, _, _, rfl, rfl, .inr ⟨by decide, by decide⟩, _, rfl, _, _, rfl, rfl, .inl ⟨by decide, by decide⟩, _, rfl, _, _, rfl, rfl, .inr ⟨by omega, by omega⟩, _, _, rfl, rfl, _, rfl, _, _, rfl, rfl, .inl ⟨by decide, by decide⟩, _, _, rfl, rfl, _, _, rfl, rfl, _, _, rfl, rfl, (by show (2147483647 : Int) ≠ 0; decide), (by show 2 ≤ sizeLine; decide), fun p hp => ?_⟩
      exact q p _ _ hp (pot_of (by omega) (fmod_lo (by decide)) (Int.lt_trans (fmod_hi (by decide)) (by decide)))

/-! ### names -/
theorem atI_m1 {x y z : V} : atI [x, y, z] (-1) = some z := atI_last [x, y] z
theorem two_of {α : Type} {l : List α} (h : l.length = 2) : ∃ x y, l = [x, y] := by
  match l, h with
  | [x, y], _ => exact ⟨x, y, rfl⟩
theorem one_of {α : Type} {l : List α} (h : l.length = 1) : ∃ x, l = [x] := by
  match l, h with
  | [x], _ => exact ⟨x, rfl⟩
theorem ne_int {m : Nat} {n : Nat} (h : m ≠ n) : (!decide (V.int (m : Int) = V.int (n : Int))) = true := by
  rw [decide_eq_false (fun e => h (by have := V.int.inj e; omega))]
  rfl
theorem eq_int {m : Nat} {n : Nat} (h : m = n) : (!decide (V.int (m : Int) = V.int (n : Int))) = false := by
  rw [decide_eq_true (by rw [h])]
  rfl
theorem iteT' {c : Bool} {A B : Prop} (e : c = true) (h : A) : if c = true then A else B := by
  subst e
  exact iteT h
theorem iteF' {c : Bool} {A B : Prop} (e : c = false) (h : B) : if c = true then A else B := by
  subst e
  exact iteF h
theorem pick_at {α : Type} {l : List α} {r : Int} (h0 : 0 ≤ r) (h1 : r < (l.length : Nat)) : ∃ x, l[r.toNat]? = some x ∧ r = (r.toNat : Int) := ⟨_, List.getElem?_eq_getElem (show r.toNat < l.length by omega), by omega⟩
theorem atI_pick {xs : List V} {v : V} {r : Int} (e : r = (r.toNat : Int)) (h : xs[r.toNat]? = some v) : atI xs r = some v := by
  rw [e]
  exact atI_nat h
theorem dec_vint {a b : Int} : decide (V.int a = V.int b) = decide (a = b) := by
  rw [Bool.eq_iff_iff, decide_eq_true_eq, decide_eq_true_eq]
  exact ⟨V.int.inj, congrArg _⟩
theorem len_tl (z : Str) : z.cps.toList.length = z.length := Array.length_toList
theorem tl_app (x y : Str) : (x ++ y).cps.toList = x.cps.toList ++ y.cps.toList := TL.tl_append x y
def Going (p : Addr) (H H' : Hp) : Prop := But p H H' ∧ ∃ x y, Pot H' p x y
theorem going_pot {p : Addr} {H H' : Hp} {x' y' : Int} (g : But p H H') (h : Pot (upd H' p (.lst [.int x', .int y'])) p x' y') : Going p H (upd H' p (.lst [.int x', .int y'])) := ⟨g.pot, _, _, h⟩
theorem Going.trans {p : Addr} {H H1 H2 : Hp} (a : Going p H H1) (b : Going p H1 H2) : Going p H H2 := ⟨a.1.trans b.1, b.2⟩
theorem Going.new {p q : Addr} {H H1 : Hp} {o : HO} (a : Going p H H1) (hq : H1 q = none) : Going p H (upd H1 q o) := ⟨a.1.trans (But.new hq), let ⟨x, y, h⟩ := a.2; ⟨x, y, h.new hq⟩⟩
theorem Going.same {p : Addr} {H H1 H2 : Hp} (a : Going p H H1) (e : Same H1 H2) : Going p H H2 := ⟨a.1.trans (But.same e), let ⟨x, y, h⟩ := a.2; ⟨x, y, h.same e⟩⟩
theorem Going.ne {p q : Addr} {H H1 : Hp} (a : Going p H H1) (hq : H1 q = none) : q ≠ p := let ⟨_, _, h⟩ := a.2; h.ne hq
end
end K13
set_option Elab.async false
set_option linter.all false
set_option maxRecDepth 100000
set_option maxHeartbeats 4000000
namespace K13
open PySem PySem.Spec PyProof.Rows L2
open C8 (Cal Def cal0 pe_c fnBody fnScope fnArgs)
def dig (c : Nat) : Bool := decide (48 ≤ c) && decide (c ≤ 57)
theorem dig_tab : (List.range 128).all (fun c => Unicode.isDigit c == dig c) = true := by decide +kernel
theorem dig_ascii {c : Nat} (h : c < 128) : Unicode.isDigit c = dig c := by
  have := List.all_eq_true.mp dig_tab c (List.mem_range.mpr h)
  exact eq_of_beq this
theorem dig128 {c : Nat} (h : dig c = true) : c < 128 := by
  unfold dig at h
  simp only [Bool.and_eq_true, decide_eq_true_eq] at h
  omega
def figL : List Nat → Bool
  | c :: r => (dig c && r.all dig) && (c != 48 || r.isEmpty)
  | [] => false
def refL : List Nat → Bool
  | c :: l => c == 114 && figL l
  | [] => false
def refS (z : Str) : Bool := refL z.cps.toList
def refB : PyData → Bool
  | .str z => refS z
  | _ => false
def numB : PyData → Bool
  | .int i => decide (0 ≤ i) && decide (i < 1000000000000)
  | _ => false
def leafP (d : PyData) : Bool := isB d || numB d
def valF (d : PyData) : Bool := leafP d || refB d
theorem str_toList {z u : Str} : z = u ↔ z.cps.toList = u.cps.toList := ⟨fun h => by rw [h], fun h => TL.ext_tl h⟩
theorem ascdig {z : Str} : (PySem.Txt.isascii z && PySem.Txt.isdigit z) = (decide (1 ≤ z.length) && z.cps.toList.all dig) := by
  unfold PySem.Txt.isascii PySem.Txt.isdigit
  simp only [← Array.all_toList]
  rw [Bool.eq_iff_iff]
  simp only [Bool.and_eq_true, List.all_eq_true, decide_eq_true_eq]
  constructor
  · rintro ⟨h1, h2, h3⟩
    exact ⟨h2, fun c hc => by rw [← dig_ascii (h1 c hc)]; exact h3 c hc⟩
  · rintro ⟨h1, h2⟩
    exact ⟨fun c hc => dig128 (h2 c hc), h1, fun c hc => by rw [dig_ascii (dig128 (h2 c hc))]; exact h2 c hc⟩
theorem dec_str2 {a b : Str} : decide (V.str a = V.str b) = decide (a.cps.toList = b.cps.toList) := by
  rw [Bool.eq_iff_iff, decide_eq_true_eq, decide_eq_true_eq]
  exact ⟨fun h => by rw [V.str.inj h], fun h => by rw [TL.ext_tl h]⟩
section
variable {P : Program} {w : World} {K : PySem.W.Frag} {mg : Str → Option Value} {base : Heap}
abbrev sPIsFigures : Stmt := topS 1
abbrev NPIsFigures : List Str := ["text"]
theorem scPIsFigures : FnScope NPIsFigures ["text"] (fnScope sPIsFigures) := ⟨rfl, rfl, rfl, by decide +kernel, rfl, by decide +kernel, by decide +kernel⟩
def spFig : Sp := fun vs H Q _ => ∃ z : Str, vs = [.str z] ∧ z.length ≤ 100000 ∧ Q (.bl (figL z.cps.toList)) H
theorem c_isFigures {f : Addr} {fd : FuncData} (D : Def K mg "is_figures" sPIsFigures f fd) (b : Binds K fd ["text"] []) : Cal P w K mg base 1 "is_figures" spFig [] := by
  refine cal0 D b .nil scPIsFigures (fun vs H Q E h => ?_) (fun cdv A outer s H vs Q E hr h => ?_)
  · obtain ⟨z, rfl, _⟩ := h
    rfl
  · obtain ⟨z, rfl, hz, q⟩ := h
    refine ⟨_, (pss_one (ps_ret (pe_and (pe_m0 PySem.F.slot_str_isascii PySem.F.type_str_isascii mt_isascii (pv 0)) (pe_and (pe_m0 PySem.F.slot_str_isdigit PySem.F.type_str_isdigit mt_isdigit (pv 0)) (pe_one (pe_or (pe_cmpR op_eq (pv 0) pe_str (nomark _)) (pe_one (pe_cmpR op_ne (pe_ix ix_str (pv 0) pe_int (fun _ _ => rfl)) pe_str (nomark _))))))))), ?_⟩
    have key := ascdig (z := z)
    have hl := len_tl z
    refine ⟨_, rfl, ⟨z, rfl⟩, z, rfl, rfl, True.intro, _, rfl, ite2 (fun f1 => ?_) (fun f1 => ?_)⟩
    · rw [f1, Bool.true_and] at key
      refine ⟨_, rfl, ⟨z, rfl⟩, z, rfl, rfl, True.intro, _, rfl, ite2 (fun f2 => ?_) (fun f2 => ?_)⟩
      · rw [f2] at key
        have key' : decide (1 ≤ z.length) = true ∧ z.cps.toList.all dig = true := by
          have := key.symm
          rwa [Bool.and_eq_true] at this
        cases hc : z.cps.toList with
        | nil =>
          rw [hc] at hl
          have := of_decide_eq_true key'.1
          simp at hl
          omega
        | cons c r =>
          rw [hc] at q key'
          have ha : (dig c && r.all dig) = true := by simpa using key'.2
          have e : figL (c :: r) = (c != 48 || r.isEmpty) := by
            show ((dig c && r.all dig) && (c != 48 || r.isEmpty)) = _
            rw [ha, Bool.true_and]
          rw [e] at q
          refine ⟨_, rfl, rfl, _, rfl, ?_⟩
          rw [dec_str2, hc]
          refine ite2 (fun f3 => ?_) (fun f3 => ?_)
          · have h3 : c :: r = ("0" : Str).cps.toList := of_decide_eq_true f3
            have h4 : ("0" : Str).cps.toList = [48] := by decide +kernel
            rw [h4] at h3
            injection h3 with h5 h6
            rw [h5, h6] at q
            exact q
          · refine ⟨_, rfl, z, 0, c, rfl, rfl, by rw [sizeLine_eq]; omega, by rw [hc]; exact atI_nat (j := 0) rfl, rfl, ?_⟩
            rw [dec_str2]
            have h4 : ("0" : Str).cps.toList = [48] := by decide +kernel
            rw [h4] at f3 ⊢
            have h5 : ((⟨#[c]⟩ : Str)).cps.toList = [c] := rfl
            rw [h5]
            have e2 : (!decide ([c] = [48])) = (c != 48 || r.isEmpty) := by
              by_cases hc48 : c = 48
              · subst hc48
                cases r with
                | nil => exact absurd (decide_eq_true rfl) f3
                | cons a b => simp
              · simp [hc48]
            rw [e2]
            exact q
      · have e : figL z.cps.toList = false := by
          rw [eq_false_of_ne_true f2] at key
          cases hc : z.cps.toList with
          | nil => rfl
          | cons c r =>
            rw [hc] at key hl
            have h1 : 1 ≤ z.length := by simp at hl; omega
            rw [decide_eq_true h1, Bool.true_and, List.all_cons] at key
            show ((dig c && r.all dig) && (c != 48 || r.isEmpty)) = false
            rw [← key]
            rfl
        rw [e] at q
        exact q
    · have e : figL z.cps.toList = false := by
        rw [eq_false_of_ne_true f1, Bool.false_and] at key
        cases hc : z.cps.toList with
        | nil => rfl
        | cons c r =>
          rw [hc] at key hl
          have h1 : 1 ≤ z.length := by simp at hl; omega
          rw [decide_eq_true h1, Bool.true_and, List.all_cons] at key
          show ((dig c && r.all dig) && (c != 48 || r.isEmpty)) = false
          rw [← key]
          rfl
      rw [e] at q
      exact q
end
end K13
set_option Elab.async false
set_option linter.all false
set_option maxRecDepth 100000
set_option maxHeartbeats 4000000
namespace K13
open PySem PySem.Spec PyProof.Rows L2
open C8 (Cal Def cal0 pe_c fnBody fnScope fnArgs)
mutual
def valT (f : PyData → Bool) : PyData → Bool
  | .tuple ds => decide (ds.length ≤ 60) && valTs f ds
  | d => f d
def valTs (f : PyData → Bool) : List PyData → Bool
  | [] => true
  | x :: xs => valT f x && valTs f xs
end
theorem valTs_all (f : PyData → Bool) : ∀ ds : List PyData, valTs f ds = ds.all (valT f)
  | [] => by simp [valTs]
  | x :: xs => by simp [valTs, valTs_all f xs]
theorem valT_tup (f : PyData → Bool) (ds : List PyData) : valT f (.tuple ds) = (decide (ds.length ≤ 60) && ds.all (valT f)) := by rw [valT, valTs_all]
theorem valT_not {f : PyData → Bool} : ∀ {d : PyData}, isT d = false → valT f d = f d
  | .tuple _, h => by simp [isT] at h
  | .none, _ => by simp [valT]
  | .bool _, _ => by simp [valT]
  | .int _, _ => by simp [valT]
  | .str _, _ => by simp [valT]
  | .list _, _ => by simp [valT]
  | .dict _, _ => by simp [valT]
theorem weightAll_app : ∀ (xs ys : List PyData), PyData.weightAll (xs ++ ys) = PyData.weightAll xs + PyData.weightAll ys
  | [], ys => by simp [PyData.weightAll]
  | x :: xs, ys => by
    rw [List.cons_append, PyData.weightAll, PyData.weightAll, weightAll_app xs ys]
    omega
theorem len_weightAll : ∀ xs : List PyData, xs.length ≤ PyData.weightAll xs
  | [] => Nat.zero_le _
  | x :: xs => by
    have := len_weightAll xs
    rw [PyData.weightAll, List.length_cons]
    omega
theorem split_last {α : Type} {l : List α} (h : l ≠ []) : ∃ i x, l = i ++ [x] := ⟨l.dropLast, l.getLast h, (List.dropLast_concat_getLast h).symm⟩
section
variable {P : Program} {w : World} {K : PySem.W.Frag} {mg : Str → Option Value} {base : Heap}
theorem dqAll_split {H : Hp} : ∀ {xs : List PyData} {vs : List V} {x : PyData}, DqAll K H vs (xs ++ [x]) → ∃ us v, vs = us ++ [v] ∧ DqAll K H us xs ∧ Dq K H v x
  | [], _, x, .cons h .nil => ⟨[], _, rfl, .nil, h⟩
  | y :: ys, _, x, .cons h t => by
    obtain ⟨us, v, rfl, g1, g2⟩ := dqAll_split t
    exact ⟨_ :: us, v, rfl, .cons h g1, g2⟩
/-- a look at data: a truth told, all stays -/
def spQ (K : PySem.W.Frag) (g : PyData → Bool) : Sp := fun vs H Q _ => ∃ v d, vs = [v] ∧ Dq K H v d ∧ d.weight ≤ 100000 ∧ ∀ H', Same H H' → Q (.bl (g d)) H'
abbrev sPIsNumber : Stmt := topS 5
abbrev NPIsNumber : List Str := ["thing"]
theorem scPIsNumber : FnScope NPIsNumber ["thing"] (fnScope sPIsNumber) := ⟨rfl, rfl, rfl, by decide +kernel, rfl, by decide +kernel, by decide +kernel⟩
theorem c_isNumber (T : Tp mg) {f : Addr} {fd : FuncData} (D : Def K mg "is_number" sPIsNumber f fd) (b : Binds K fd ["thing"] []) : Cal P w K mg base 1 "is_number" (spQ K numB) [] := by
  refine cal0 D b .nil scPIsNumber (fun vs H Q E h => ?_) (fun cdv A outer s H vs Q E hr h => ?_)
  · obtain ⟨v, d, rfl, _⟩ := h
    rfl
  · obtain ⟨v, d, rfl, hd, _, q⟩ := h
    refine ⟨_, (pss_one (ps_ret (pe_and (pe_callB call_isQ (by rfl) T.n_isinstance (by decide +kernel) (pa_cons (pv 0) (pa_cons (pe_bltn (v := .ty "int") (by rfl) T.n_int (by decide +kernel) rfl) pa_nil))) (pe_and (pe_not (pe_callB call_isQ (by rfl) T.n_isinstance (by decide +kernel) (pa_cons (pv 0) (pa_cons (pe_bltn (v := .ty "bool") (by rfl) T.n_bool (by decide +kernel) rfl) pa_nil)))) (pe_one (pe_chain op_le op_lt pe_int (pv 0) (C8.pe_gc (by rfl) T.g_NUMBERS))))))), ?_⟩
    have q0 := q H (Same.refl H)
    refine ⟨_, rfl, v, d, "int", rfl, hd, by decide, _, rfl, ?_⟩
    cases hd with
    | int i =>
      refine iteT ?_
      refine ⟨_, rfl, _, _, "bool", rfl, .int i, by decide, _, rfl, _, rfl, iteT ?_⟩
      refine ⟨_, rfl, _, _, rfl, rfl, _, rfl, ite2 (fun e => ?_) (fun e => ?_)⟩
      · refine ⟨_, _, rfl, rfl, ?_⟩
        have e1 : numB (.int i) = decide (i < 1000000000000) := by
          show (decide (0 ≤ i) && decide (i < 1000000000000)) = _
          rw [e, Bool.true_and]
        rw [e1] at q0
        exact q0
      · have e1 : numB (.int i) = false := by
          show (decide (0 ≤ i) && decide (i < 1000000000000)) = _
          rw [eq_false_of_ne_true e, Bool.false_and]
        rw [e1] at q0
        exact q0
    | bl bb =>
      refine iteT ?_
      exact ⟨_, rfl, _, _, "bool", rfl, .bl bb, by decide, _, rfl, _, rfl, iteF q0⟩
    | _ => exact iteF q0
abbrev sPIsRef : Stmt := topS 6
abbrev NPIsRef : List Str := ["thing"]
theorem scPIsRef : FnScope NPIsRef ["thing"] (fnScope sPIsRef) := ⟨rfl, rfl, rfl, by decide +kernel, rfl, by decide +kernel, by decide +kernel⟩
theorem cut_tl (z : Str) : (cutS z (some 1) none).cps.toList = z.cps.toList.tail := by
  have hl := len_tl z
  have h1 : HT.sIx z.length 0 (some 1) = min 1 z.length := HT.sIx_nat z.length 0 1
  unfold cutS
  rw [h1, HT.sIx_none]
  show (z.cps.toList.drop (min 1 z.length)).take (z.length - min 1 z.length) = z.cps.toList.tail
  rw [List.take_of_length_le (by rw [List.length_drop]; omega)]
  cases hc : z.cps.toList with
  | nil => simp
  | cons c r =>
    rw [hc] at hl
    simp at hl
    rw [show min 1 z.length = 1 by omega]
    rfl
theorem sw_r (z : Str) : PySem.Txt.startswith z "r" = (z.cps.toList.head? == some 114) := by
  unfold PySem.Txt.startswith
  rw [PySem.StrLaws.subAt_eq]
  have hl := len_tl z
  have h1 : ("r" : Str).length = 1 := by decide +kernel
  have h2 : ("r" : Str).cps.toList = [114] := by decide +kernel
  rw [h1, h2, List.drop_zero]
  cases hc : z.cps.toList with
  | nil => simp
  | cons c r =>
    rw [hc] at hl
    simp at hl
    have : decide (0 + 1 ≤ z.length) = true := decide_eq_true (by omega)
    rw [this, Bool.true_and]
    show ([c] == [114]) = (some c == some 114)
    rw [Bool.eq_iff_iff]
    simp
theorem cutS_le (z : Str) (lo hi : Option Int) : (cutS z lo hi).length ≤ z.length := cutS_length z lo hi
theorem c_isRef (T : Tp mg) (c_PIsFigures : Cal P w K mg base 1 "is_figures" spFig []) {f : Addr} {fd : FuncData} (D : Def K mg "is_ref" sPIsRef f fd) (b : Binds K fd ["thing"] []) : Cal P w K mg base 2 "is_ref" (spQ K refB) [] := by
  refine cal0 D b .nil scPIsRef (fun vs H Q E h => ?_) (fun cdv A outer s H vs Q E hr h => ?_)
  · obtain ⟨v, d, rfl, _⟩ := h
    rfl
  · obtain ⟨v, d, rfl, hd, hw, q⟩ := h
    refine ⟨_, (pss_one (ps_ret (pe_and (pe_callB call_isQ (by rfl) T.n_isinstance (by decide +kernel) (pa_cons (pv 0) (pa_cons (pe_bltn (v := .ty "str") (by rfl) T.n_str (by decide +kernel) rfl) pa_nil))) (pe_and (pe_m1 PySem.F.slot_str_startswith PySem.F.type_str_startswith mt_startswith (pv 0) pe_str) (pe_one (pe_c c_PIsFigures hr (by decide) (by rfl) (pa_cons (pe_slice sl_str (pv 0) (po_some pe_int) po_none) pa_nil))))))), ?_⟩
    have q0 := q H (Same.refl H)
    refine ⟨_, rfl, v, d, "str", rfl, hd, by decide, _, rfl, ?_⟩
    cases hd with
    | str z =>
      refine iteT ?_
      have hz : z.length ≤ 100000 := hw
      have e : refB (.str z) = (PySem.Txt.startswith z "r" && figL (cutS z (some 1) none).cps.toList) := by
        rw [sw_r, cut_tl]
        show refL z.cps.toList = _
        cases z.cps.toList with
        | nil => rfl
        | cons c r =>
          show (c == 114 && figL r) = ((some c == some 114) && figL r)
          congr 1
      rw [e] at q0
      refine ⟨_, rfl, ⟨z, rfl⟩, z, _, rfl, rfl, _, rfl, ite2 (fun e1 => ?_) (fun e1 => ?_)⟩
      · rw [e1, Bool.true_and] at q0
        refine ⟨_, rfl, 1, rfl, z, rfl, by rw [sizeLine_eq]; omega, _, rfl, Nat.le_trans (cutS_le _ _ _) hz, q0⟩
      · rw [eq_false_of_ne_true e1, Bool.false_and] at q0
        exact q0
    | _ => exact iteF q0
abbrev sPIsPlainLeaf : Stmt := topS 9
abbrev NPIsPlainLeaf : List Str := ["thing"]
theorem scPIsPlainLeaf : FnScope NPIsPlainLeaf ["thing"] (fnScope sPIsPlainLeaf) := ⟨rfl, rfl, rfl, by decide +kernel, rfl, by decide +kernel, by decide +kernel⟩
theorem c_isPlainLeaf (T : Tp mg) (c_PIsNumber : Cal P w K mg base 1 "is_number" (spQ K numB) []) {f : Addr} {fd : FuncData} (D : Def K mg "_is_plain_leaf" sPIsPlainLeaf f fd) (b : Binds K fd ["thing"] []) : Cal P w K mg base 2 "_is_plain_leaf" (spQ K leafP) [] := by
  refine cal0 D b .nil scPIsPlainLeaf (fun vs H Q E h => ?_) (fun cdv A outer s H vs Q E hr h => ?_)
  · obtain ⟨v, d, rfl, _⟩ := h
    rfl
  · obtain ⟨v, d, rfl, hd, hw, q⟩ := h
    refine ⟨_, (pss_one (ps_ret (pe_or (pe_callB call_isQ (by rfl) T.n_isinstance (by decide +kernel) (pa_cons (pv 0) (pa_cons (pe_bltn (v := .ty "bool") (by rfl) T.n_bool (by decide +kernel) rfl) pa_nil))) (pe_one (pe_c c_PIsNumber hr (by decide) (by rfl) (pa_cons (pv 0) pa_nil)))))), ?_⟩
    refine ⟨_, rfl, v, d, "bool", rfl, hd, by decide, _, rfl, ?_⟩
    show if (isB d) = true then _ else _
    unfold leafP at q
    refine ite2 (fun e => ?_) (fun e => ?_)
    · have q0 := q H (Same.refl H)
      rw [e, Bool.true_or] at q0
      exact q0
    · rw [eq_false_of_ne_true e] at q
      exact ⟨_, rfl, v, d, rfl, hd, hw, fun H' s => by have q1 := q H' s; rwa [Bool.false_or] at q1⟩
abbrev sPLeaves : Stmt := topS 10
abbrev NPLeaves : List Str := ["thing", "found", "todo", "one"]
theorem scPLeaves : FnScope NPLeaves ["thing"] (fnScope sPLeaves) := ⟨rfl, rfl, rfl, by decide +kernel, rfl, by decide +kernel, by decide +kernel⟩
def Good (f : PyData → Bool) : Prop := ∀ xs, f (.tuple xs) = false
/-- a new list of the leaves -/
def spLeaves (K : PySem.W.Frag) : Sp := fun vs H Q _ => ∃ v d, vs = [v] ∧ Dq K H v d ∧ d.weight ≤ 100000 ∧ ∀ l H' fs gs, H l = none → Same H H' → H' l = some (.lst fs) → DqAll K H fs gs → (∀ g ∈ gs, g.weight ≤ 100000) → fs.length ≤ 100001 →
  (∀ f, Good f → gs.all f = valT f d) → Q (.ref l) H'
theorem c_leaves (T : Tp mg) {f : Addr} {fd : FuncData} (D : Def K mg "_leaves" sPLeaves f fd) (b : Binds K fd ["thing"] []) : Cal P w K mg base 1 "_leaves" (spLeaves K) [] := by
  refine cal0 D b .nil scPLeaves (fun vs H Q E h => ?_) (fun cdv A outer s H vs Q E hr h => ?_)
  · obtain ⟨v, d, rfl, _⟩ := h
    rfl
  · obtain ⟨v0, d0, rfl, hd, hw, q⟩ := h
    have nd := scPLeaves.nd
    refine ⟨_, (pss_cons (ps_set (i := 1) nd rfl (.inl rfl) (pe_lst pa_nil))
    (pss_cons (ps_set (i := 2) nd rfl (.inl rfl) (pe_lst (pa_cons (pv 0) pa_nil)))
    (pss_cons (ps_while PassesOwn.never (pt_truth (pv 2) (by intro _; rfl))
      (pss_cons (ps_set (i := 3) nd rfl (.inl rfl) (pe_bm0 PySem.F.plainAttrs_list PySem.F.slot_list_pop PySem.F.type_list_pop mt_pop (pv 2)))
    (pss_one (ps_if (PW.pt (pw_and (pt_val (pe_callB call_isQ (by rfl) T.n_isinstance (by decide +kernel) (pa_cons (pv 3) (pa_cons (pe_bltn (v := .ty "tuple") (by rfl) T.n_tuple (by decide +kernel) rfl) pa_nil)))) (pw_and1 (pt_cmpR op_le (pe_callB call_len_seq (by rfl) T.n_len (by decide +kernel) (pa_cons (pv 3) pa_nil)) (C8.pe_gc (by rfl) T.g_LONGEST_TUPLE) (nomark _)))))
      (pss_one (ps_expr (pe_bm PySem.F.plainAttrs_list PySem.F.slot_list_extend PySem.F.type_list_extend mt_extendT (pv 2) (pa_cons (pv 3) pa_nil))))
      (pss_one (ps_expr (pe_bm PySem.F.plainAttrs_list PySem.F.slot_list_append PySem.F.type_list_append mt_append (pv 1) (pa_cons (pv 3) pa_nil))))))))
    (pss_one (ps_ret (pv 1)))))), ?_⟩
    refine ⟨(by show 0 ≤ sizeLine; decide), fun lf hlf => ⟨_, rfl, (by show 1 ≤ sizeLine; decide), fun lt hlt => ?_⟩⟩
    have line := sizeLine_eq
    have s2 := (Same.new (o := .lst []) hlf).trans (Same.new (o := .lst [v0]) hlt)
    have hlt0 : H lt = none := (Same.new (o := .lst []) hlf).free hlt
    have nft : lf ≠ lt := fun e => by rw [← e, upd_same] at hlt; cases hlt
    refine ⟨fun m σ H1 => ∃ vs ds fs gs o, σ = [some v0, some (.ref lf), some (.ref lt), o] ∧ H1 lt = some (.lst vs) ∧ H1 lf = some (.lst fs) ∧ DqAll K H vs ds ∧ DqAll K H fs gs ∧ (∀ g ∈ gs, g.weight ≤ 100000) ∧
        fs.length + PyData.weightAll ds ≤ 100001 ∧ (∀ f, Good f → (gs.all f && ds.all (valT f)) = valT f d0) ∧ Same H H1 ∧ m = PyData.weightAll ds,
      ⟨_, [v0], [d0], [], [], none, rfl, upd_same, (by rw [upd_ne nft, upd_same]), .cons hd .nil, .nil, (fun g h => nomatch h), (by simp [PyData.weightAll]; omega), (fun f _ => by simp), s2, rfl⟩, ?_⟩
    rintro m σ H1 ⟨vs, ds, fs, gs, o, rfl, hat, haf, hD, hF, hG, hlen, hall, hS, rfl⟩
    refine ⟨_, rfl, !vs.isEmpty, .inl ⟨vs, SqL.of hat, rfl⟩, ?_⟩
    have hfl := hF.len
    by_cases hv : ds = []
    · subst hv
      cases hD
      refine iteF ?_
      refine ⟨_, rfl, q lf H1 fs gs hlf hS haf hF hG (by simp [PyData.weightAll] at hlen; omega) (fun f hf => ?_)⟩
      have := hall f hf
      simpa using this
    · obtain ⟨di, dx, rfl⟩ := split_last hv
      obtain ⟨us, vx, rfl, hDi, hDx⟩ := dqAll_split hD
      refine iteT' (by simp) ?_
      have hw1 : PyData.weightAll (di ++ [dx]) = PyData.weightAll di + (dx.weight + 1) := by
        rw [weightAll_app]
        simp [PyData.weightAll]
      rw [hw1] at hlen
      have hdl := len_weightAll di
      have hil := hDi.len
      have stay : ∀ {H'' : Hp} {xs : List V}, Same H H'' → Same H (upd H'' lt (.lst xs)) := fun h b o hb => by
        rw [upd_ne (ne_of_none hb hlt0)]
        exact h b o hb
      have stay2 : ∀ {H'' : Hp} {xs : List V}, Same H H'' → Same H (upd H'' lf (.lst xs)) := fun h b o hb => by
        rw [upd_ne (ne_of_none hb hlf)]
        exact h b o hb
      refine ⟨fun σ' H' => ∃ m', m' < _ ∧ ∃ vs ds fs gs o, σ' = [some v0, some (.ref lf), some (.ref lt), o] ∧ H' lt = some (.lst vs) ∧ H' lf = some (.lst fs) ∧ DqAll K H vs ds ∧ DqAll K H fs gs ∧ (∀ g ∈ gs, g.weight ≤ 100000) ∧
        fs.length + PyData.weightAll ds ≤ 100001 ∧ (∀ f, Good f → (gs.all f && ds.all (valT f)) = valT f d0) ∧ Same H H' ∧ m' = PyData.weightAll ds, fun σ' H' h => h, ?_⟩
      refine ⟨_, rfl, .inl ⟨rfl, _, SqL.of hat⟩, lt, _, vx, rfl, rfl, hat, by simp, ?_⟩
      rw [List.dropLast_concat]
      have hs2 : Same H (upd H1 lt (.lst us)) := stay hS
      have haf2 : (upd H1 lt (.lst us)) lf = some (.lst fs) := by rw [upd_ne nft]; exact haf
      have app : (isT dx = false ∨ ∃ xs, dx = .tuple xs ∧ ¬ xs.length ≤ 60) → ∃ m', m' < PyData.weightAll (di ++ [dx]) ∧ ∃ vs ds fs' gs o, [some v0, some (.ref lf), some (.ref lt), some vx] = [some v0, some (.ref lf), some (.ref lt), o] ∧ (upd (upd H1 lt (.lst us)) lf (.lst (fs ++ [vx]))) lt = some (.lst vs) ∧ (upd (upd H1 lt (.lst us)) lf (.lst (fs ++ [vx]))) lf = some (.lst fs') ∧ DqAll K H vs ds ∧ DqAll K H fs' gs ∧ (∀ g ∈ gs, g.weight ≤ 100000) ∧
        fs'.length + PyData.weightAll ds ≤ 100001 ∧ (∀ f, Good f → (gs.all f && ds.all (valT f)) = valT f d0) ∧ Same H (upd (upd H1 lt (.lst us)) lf (.lst (fs ++ [vx]))) ∧ m' = PyData.weightAll ds := fun hx => by
        refine ⟨_, ?_, us, di, fs ++ [vx], gs ++ [dx], some vx, rfl, (by rw [upd_ne nft.symm, upd_same]), upd_same, hDi, hF.app (.cons hDx .nil), ?_, ?_, ?_, stay2 hs2, rfl⟩
        · rw [hw1]; omega
        · intro g hg
          rcases List.mem_append.mp hg with hg | hg
          · exact hG g hg
          · rw [List.mem_singleton] at hg
            subst hg
            omega
        · rw [List.length_append, List.length_singleton]
          omega
        · intro f hf
          have := hall f hf
          rw [List.all_append] at this ⊢
          have e : f dx = valT f dx := by
            rcases hx with hx | ⟨xs, rfl, hx⟩
            · exact (valT_not hx).symm
            · rw [valT_tup, decide_eq_false hx, Bool.false_and]
              exact hf xs
          simp only [List.all_cons, List.all_nil, Bool.and_true] at this ⊢
          rw [← this, e, Bool.and_assoc, Bool.and_comm (valT f dx)]
      refine ⟨_, rfl, vx, dx, "tuple", rfl, hDx.mono hs2, by decide, _, rfl, ?_⟩
      have hlt1 : fs.length < sizeLine := by omega
      cases ht : isT dx with
      | false =>
        show if (isT dx) = true then _ else _
        rw [ht]
        refine iteF ?_
        exact ⟨_, rfl, .inl ⟨rfl, _, SqL.of haf2⟩, _, rfl, lf, fs, vx, rfl, rfl, haf2, hlt1, app (.inl ht)⟩
      | true =>
        show if (isT dx) = true then _ else _
        rw [ht]
        refine iteT ?_
        cases hDx with
        | @tup a xs els hq ha =>
          have hel := ha.len
          have hq2 := sqT_mono hs2 hq
          refine ⟨_, rfl, a, xs, rfl, .inr hq2, _, _, rfl, rfl, _, rfl, ite2 (fun e => ?_) (fun e => ?_)⟩
          · have e1 : els.length ≤ 60 := by
              have : ((xs.length : Nat) : Int) ≤ 60 := of_decide_eq_true e
              omega
            have hw2 : PyData.weightAll els = (PyData.tuple els).weight := by simp [PyData.weight]
            refine ⟨_, rfl, .inl ⟨rfl, _, SqL.of upd_same⟩, _, rfl, lt, a, us, xs, rfl, rfl, upd_same, hq2, by omega, ?_⟩
            refine ⟨_, ?_, us ++ xs, di ++ els, fs, gs, some (.ref a), rfl, upd_same, (by rw [upd_ne nft]; exact haf2), hDi.app ha, hF, hG, ?_, ?_, stay hs2, rfl⟩
            · rw [hw1, weightAll_app]; omega
            · rw [weightAll_app]; omega
            · intro f hf
              have := hall f hf
              rw [List.all_append] at this ⊢
              simp only [List.all_cons, List.all_nil, Bool.and_true] at this
              rw [valT_tup, decide_eq_true e1, Bool.true_and] at this
              exact this
          · have e1 : ¬ els.length ≤ 60 := fun h => e (decide_eq_true (by omega))
            exact ⟨_, rfl, .inl ⟨rfl, _, SqL.of haf2⟩, _, rfl, lf, fs, _, rfl, rfl, haf2, hlt1, app (.inr ⟨els, rfl, e1⟩)⟩
        | _ => simp [isT] at ht
end
end K13
set_option Elab.async false
set_option linter.all false
set_option maxRecDepth 100000
set_option maxHeartbeats 4000000
namespace K13
open PySem PySem.Spec PyProof.Rows L2
open C8 (Cal Def cal0 pe_c fnBody fnScope fnArgs)
section
variable {P : Program} {w : World} {K : PySem.W.Frag} {mg : Str → Option Value} {base : Heap}
theorem good_leafP : Good leafP := fun _ => rfl
theorem good_valF : Good valF := fun _ => rfl
theorem dq_at {H : Hp} {vs : List V} {ds : List PyData} {i : Nat} {v : V} (h : DqAll K H vs ds) (e : vs[i]? = some v) : ∃ d, ds[i]? = some d ∧ Dq K H v d := DqAll.at h e
theorem take_succ {α : Type} {l : List α} {i : Nat} {x : α} (h : l[i]? = some x) : l.take (i + 1) = l.take i ++ [x] := by
  rw [List.take_add_one, h]
  rfl
abbrev sPIsValue : Stmt := topS 7
abbrev NPIsValue : List Str := ["thing", "leaf"]
theorem scPIsValue : FnScope NPIsValue ["thing"] (fnScope sPIsValue) := ⟨rfl, rfl, rfl, by decide +kernel, rfl, by decide +kernel, by decide +kernel⟩
theorem c_isValue (T : Tp mg) (c_PLeaves : Cal P w K mg base 1 "_leaves" (spLeaves K) []) (c_PIsPlainLeaf : Cal P w K mg base 2 "_is_plain_leaf" (spQ K leafP) []) (c_PIsRef : Cal P w K mg base 2 "is_ref" (spQ K refB) [])
    {f : Addr} {fd : FuncData} (D : Def K mg "is_value" sPIsValue f fd) (b : Binds K fd ["thing"] []) : Cal P w K mg base 3 "is_value" (spQ K (valT valF)) [] := by
  refine cal0 D b .nil scPIsValue (fun vs H Q E h => ?_) (fun cdv A outer s H vs Q E hr h => ?_)
  · obtain ⟨v, d, rfl, _⟩ := h
    rfl
  · obtain ⟨v, d, rfl, hd, hw, q⟩ := h
    have nd := scPIsValue.nd
    refine ⟨_, (pss_one (ps_ret (pe_callB (cr_all rfl) (by rfl) T.n_all (by decide +kernel) (pa_cons (pe_lc (own := [("leaf", 1)]) (g := gName 1) (by rfl) nd (pi_list (pe_c c_PLeaves hr (by decide) (by rfl) (pa_cons (pv 0) pa_nil))) (blkOk_by (own := [("leaf", 1)]) (N := NPIsValue) (sc := fnScope sPIsValue) (by decide +kernel)) (fun _ _ _ _ _ => pg_name (i := 1) nd rfl (Or.inl rfl)) (fun _ _ _ _ _ => pts_nil) (fun _ _ _ _ _ => (pe_or (pe_c c_PIsPlainLeaf hr (by decide) (by rfl) (pa_cons (pv 1) pa_nil)) (pe_one (pe_c c_PIsRef hr (by decide) (by rfl) (pa_cons (pv 1) pa_nil)))))) pa_nil)))), ?_⟩
    have line := sizeLine_eq
    refine ⟨_, rfl, v, d, rfl, hd, hw, fun l H1 fs gs hl s1 hat hF hG hn hall => ?_⟩
    refine ⟨l, rfl, ⟨fs, SqL.of hat⟩, fun Dl hDl => ?_⟩
    have hfl := hF.len
    refine lc_list (xs := fs) (fun i H' => Same H H' ∧ H' l = some (.lst fs) ∧ H' Dl = some (.lst ((gs.take i).map fun g => V.bl (valF g)))) ⟨s1.trans (Same.new hDl), (Same.new hDl) _ _ hat, upd_same⟩ (fun i H' hi h => SqL.of h.2.1) (fun i x H' hx hW => ?_) (fun H' hW => ?_)
    · obtain ⟨sm, hlt, hD⟩ := hW
      obtain ⟨g, hg, Dg⟩ := dq_at hF hx
      have hgw := hG g (List.mem_of_getElem? hg)
      have put : ∀ H3, Same H' H3 → H3 Dl = some (.lst ((gs.take i).map fun g => V.bl (valF g))) ∧ ((gs.take i).map fun g => V.bl (valF g)).length < sizeLine ∧ Same H (upd H3 Dl (.lst (((gs.take i).map fun g => V.bl (valF g)) ++ [V.bl (valF g)]))) ∧ (upd H3 Dl (.lst (((gs.take i).map fun g => V.bl (valF g)) ++ [V.bl (valF g)]))) l = some (.lst fs) ∧ (upd H3 Dl (.lst (((gs.take i).map fun g => V.bl (valF g)) ++ [V.bl (valF g)]))) Dl = some (.lst ((gs.take (i + 1)).map fun g => V.bl (valF g))) := fun H3 s3 => by
        refine ⟨s3 _ _ hD, ?_, fun b o hb => ?_, ?_, ?_⟩
        · rw [List.length_map, List.length_take]
          omega
        · have hn : H Dl = none := by
            cases hh : H Dl with
            | none => rfl
            | some o => have := s1 _ _ hh; rw [hDl] at this; cases this
          rw [upd_ne (ne_of_none hb hn)]
          exact s3 _ _ (sm b o hb)
        · rw [upd_ne (ne_of_none hat hDl)]
          exact s3 _ _ hlt
        · rw [upd_same, take_succ hg, List.map_append]
          rfl
      refine ⟨rfl, ?_⟩
      unfold tYes; dsimp only
      rw [if_pos rfl]
      refine ⟨_, rfl, x, g, rfl, Dg.mono sm, hgw, fun H2 s2 => ⟨_, rfl, ?_⟩⟩
      cases hp : leafP g with
      | true =>
        have e : valF g = true := by unfold valF; rw [hp, Bool.true_or]
        have := put H2 s2
        rw [e] at this
        exact iteT ⟨_, this⟩
      | false =>
        refine iteF ?_
        refine ⟨_, rfl, x, g, rfl, (Dg.mono sm).mono s2, hgw, fun H3 s3 => ?_⟩
        have e : valF g = refB g := by unfold valF; rw [hp, Bool.false_or]
        have := put H3 (s2.trans s3)
        rw [e] at this
        exact ⟨_, this⟩
    · obtain ⟨sm, _, hD⟩ := hW
      rw [List.take_of_length_le (by omega)] at hD
      refine ⟨Dl, gs.map valF, rfl, ?_, ?_⟩
      · rw [List.map_map]
        exact SqL.of hD
      · have e : (gs.map valF).all id = valT valF d := by rw [List.all_map, ← hall valF good_valF]; rfl
        rw [e]
        exact q H' sm
abbrev sPIsPlain : Stmt := topS 8
abbrev NPIsPlain : List Str := ["thing", "leaf"]
theorem scPIsPlain : FnScope NPIsPlain ["thing"] (fnScope sPIsPlain) := ⟨rfl, rfl, rfl, by decide +kernel, rfl, by decide +kernel, by decide +kernel⟩
theorem c_isPlain (T : Tp mg) (c_PLeaves : Cal P w K mg base 1 "_leaves" (spLeaves K) []) (c_PIsPlainLeaf : Cal P w K mg base 2 "_is_plain_leaf" (spQ K leafP) [])
    {f : Addr} {fd : FuncData} (D : Def K mg "is_plain" sPIsPlain f fd) (b : Binds K fd ["thing"] []) : Cal P w K mg base 3 "is_plain" (spQ K (valT leafP)) [] := by
  refine cal0 D b .nil scPIsPlain (fun vs H Q E h => ?_) (fun cdv A outer s H vs Q E hr h => ?_)
  · obtain ⟨v, d, rfl, _⟩ := h
    rfl
  · obtain ⟨v, d, rfl, hd, hw, q⟩ := h
    have nd := scPIsPlain.nd
    refine ⟨_, (pss_one (ps_ret (pe_callB (cr_all rfl) (by rfl) T.n_all (by decide +kernel) (pa_cons (pe_lc (own := [("leaf", 1)]) (g := gName 1) (by rfl) nd (pi_list (pe_c c_PLeaves hr (by decide) (by rfl) (pa_cons (pv 0) pa_nil))) (blkOk_by (own := [("leaf", 1)]) (N := NPIsPlain) (sc := fnScope sPIsPlain) (by decide +kernel)) (fun _ _ _ _ _ => pg_name (i := 1) nd rfl (Or.inl rfl)) (fun _ _ _ _ _ => pts_nil) (fun _ _ _ _ _ => (pe_c c_PIsPlainLeaf hr (by decide) (by rfl) (pa_cons (pv 1) pa_nil)))) pa_nil)))), ?_⟩
    have line := sizeLine_eq
    refine ⟨_, rfl, v, d, rfl, hd, hw, fun l H1 fs gs hl s1 hat hF hG hn hall => ?_⟩
    refine ⟨l, rfl, ⟨fs, SqL.of hat⟩, fun Dl hDl => ?_⟩
    have hfl := hF.len
    refine lc_list (xs := fs) (fun i H' => Same H H' ∧ H' l = some (.lst fs) ∧ H' Dl = some (.lst ((gs.take i).map fun g => V.bl (leafP g)))) ⟨s1.trans (Same.new hDl), (Same.new hDl) _ _ hat, upd_same⟩ (fun i H' hi h => SqL.of h.2.1) (fun i x H' hx hW => ?_) (fun H' hW => ?_)
    · obtain ⟨sm, hlt, hD⟩ := hW
      obtain ⟨g, hg, Dg⟩ := dq_at hF hx
      have hgw := hG g (List.mem_of_getElem? hg)
      refine ⟨rfl, ?_⟩
      unfold tYes; dsimp only
      rw [if_pos rfl]
      refine ⟨_, rfl, x, g, rfl, Dg.mono sm, hgw, fun H3 s3 => ⟨_, s3 _ _ hD, ?_, fun b o hb => ?_, ?_, ?_⟩⟩
      · rw [List.length_map, List.length_take]
        omega
      · have hn : H Dl = none := by
          cases hh : H Dl with
          | none => rfl
          | some o => have := s1 _ _ hh; rw [hDl] at this; cases this
        rw [upd_ne (ne_of_none hb hn)]
        exact s3 _ _ (sm b o hb)
      · rw [upd_ne (ne_of_none hat hDl)]
        exact s3 _ _ hlt
      · rw [upd_same, take_succ hg, List.map_append]
        rfl
    · obtain ⟨sm, _, hD⟩ := hW
      rw [List.take_of_length_le (by omega)] at hD
      refine ⟨Dl, gs.map leafP, rfl, ?_, ?_⟩
      · rw [List.map_map]
        exact SqL.of hD
      · have e : (gs.map leafP).all id = valT leafP d := by rw [List.all_map, ← hall leafP good_leafP]; rfl
        rw [e]
        exact q H' sm
end
end K13
set_option Elab.async false
set_option linter.all false
set_option maxRecDepth 100000
set_option maxHeartbeats 4000000
namespace K13
open PySem PySem.Spec PyProof.Rows L2
open C8 (Cal Def cal0 pe_c fnBody fnScope fnArgs)
theorem weight_mem : ∀ {ds : List PyData} {d : PyData}, d ∈ ds → d.weight ≤ PyData.weightAll ds
  | x :: xs, d, h => by
    rw [PyData.weightAll]
    rcases List.mem_cons.mp h with rfl | h
    · omega
    · have := weight_mem h
      omega
theorem depth_mem : ∀ {ds : List PyData} {d : PyData}, d ∈ ds → d.depth ≤ PyData.depthAll ds
  | x :: xs, d, h => by
    rw [PyData.depthAll]
    rcases List.mem_cons.mp h with rfl | h
    · exact Nat.le_max_left _ _
    · exact Nat.le_trans (depth_mem h) (Nat.le_max_right _ _)
section
variable {P : Program} {w : World} {K : PySem.W.Frag} {mg : Str → Option Value} {base : Heap}
theorem cal_no {k : Nat} {x : Str} {st : Stmt} {f : Addr} {fd : FuncData} {ps : List Str} (sp : Sp) (h : ∀ vs H Q E, sp vs H Q E → False) (D : Def K mg x st f fd) (b : Binds K fd ps []) : Cal P w K mg base k x sp [] :=
  ⟨f, fd, ps, [], ⟨fun _ _ _ _ z => (h _ _ _ _ z).elim, fun _ _ _ _ _ _ _ _ _ _ _ _ _ z => (h _ _ _ _ z).elim⟩, D.mgf, D.kp, b, .nil⟩
def spQ2 (K : PySem.W.Frag) (g : PyData → Bool) (n : Nat) : Sp := fun vs H Q _ => ∃ v d, vs = [v] ∧ Dq K H v d ∧ d.weight ≤ 100000 ∧ d.depth < n ∧ ∀ H', Same H H' → Q (.bl (g d)) H'
/-- [part for part in xs if not look(part)] -/
theorem lc_bad {g : PyData → Bool} {n : Nat} {H : Hp} {a : Addr} {xs : List V} {ds : List PyData} {v0 : V} {R9 : Addr → Hp → Prop} (hT : SqT K H a xs) (hD : DqAll K H xs ds) (hw : PyData.weightAll ds ≤ 100000) (hdep : PyData.depthAll ds < n) (hx : ds.length ≤ 60)
    (q : ∀ D H' acc, Same H H' → H' D = some (.lst acc) → acc.isEmpty = ds.all g → R9 D H') :
    ∀ D, H D = none → ∃ W : Nat → Nat → Hp → Prop, (∃ m, W 0 m (upd H D (.lst []))) ∧ ∀ i m H1, W i m H1 →
      ((Itt K a).stop i H1 ∧ R9 D H1) ∨ ((Itt K a).go i H1 ∧ ∃ Nx : Hp → Prop, (∀ H', Nx H' → ∃ m', m' < m ∧ W (i + 1) m' H') ∧ ∀ x H', (Itt K a).yld i H1 x H' → gName 1 x (wipe [some v0, none] [1]) H' fun σ2 H2 => wipe σ2 [1] = wipe [some v0, none] [1] ∧ (tNot (tB (tCall (spQ2 K g n) [] C8.E0 (tCons (tVar 1) tNil)))) σ2 H2 fun b H3 =>
        if b = true then (tVar 1) σ2 H3 fun y H4 => ∃ acc, H4 D = some (.lst acc) ∧ acc.length < sizeLine ∧ Nx (upd H4 D (.lst (acc ++ [y]))) else Nx H3) := by
  intro D hDn
  have line := sizeLine_eq
  have hlen := hD.len
  refine lc_tup (xs := xs) (fun i H' => Same H H' ∧ ∃ acc, H' D = some (.lst acc) ∧ acc.length ≤ i ∧ acc.isEmpty = (ds.take i).all g) ⟨Same.new hDn, [], upd_same, Nat.le_refl _, by simp⟩ (fun i H' hi h => sqT_mono h.1 hT) (fun i x H' hx1 hW => ?_) (fun H' hW => ?_)
  · obtain ⟨sm, acc, hat, hal, hae⟩ := hW
    obtain ⟨d, hd, Dd⟩ := dq_at hD hx1
    have hm := List.mem_of_getElem? hd
    have h1 := weight_mem hm
    have h2 := depth_mem hm
    have hil : i < ds.length := (List.getElem?_eq_some_iff.mp hd).1
    have et : (ds.take (i + 1)).all g = ((ds.take i).all g && g d) := by rw [take_succ hd, List.all_append]; simp
    refine ⟨rfl, _, rfl, x, d, rfl, Dd.mono sm, by omega, by omega, fun H3 s3 => ⟨_, rfl, ?_⟩⟩
    cases hg : g d with
    | true =>
      refine iteF ?_
      exact ⟨sm.trans s3, acc, s3 _ _ hat, by omega, by rw [et, hg, Bool.and_true]; exact hae⟩
    | false =>
      refine iteT ?_
      refine ⟨_, rfl, acc, s3 _ _ hat, by omega, fun b o hb => ?_, acc ++ [x], upd_same, by rw [List.length_append, List.length_singleton]; omega, ?_⟩
      · rw [upd_ne (ne_of_none hb hDn)]
        exact s3 _ _ (sm b o hb)
      · rw [et, hg, Bool.and_false]
        cases acc <;> rfl
  · obtain ⟨sm, acc, hat, hal, hae⟩ := hW
    rw [List.take_of_length_le (by omega)] at hae
    exact q D H' acc sm hat hae
abbrev sLIsPlain : Stmt := topS 18
abbrev NLIsPlain : List Str := ["_law_thing", "_law_part"]
theorem scLIsPlain : FnScope NLIsPlain ["_law_thing"] (fnScope sLIsPlain) := ⟨rfl, rfl, rfl, by decide +kernel, rfl, by decide +kernel, by decide +kernel⟩
theorem c_lisPlain (T : Tp mg) {f : Addr} {fd : FuncData} (D : Def K mg "_law_is_plain" sLIsPlain f fd) (b : Binds K fd ["_law_thing"] []) :
    ∀ n : Nat, Cal P w K mg base (1 + n) "_law_is_plain" (spQ2 K (valT leafP) n) []
  | 0 => cal_no _ (fun vs H Q E ⟨v, d, _, _, _, h, _⟩ => absurd h (Nat.not_lt_zero _)) D b
  | n + 1 => by
    have c_LIsPlain := c_lisPlain T D b n
    refine cal0 D b .nil scLIsPlain (fun vs H Q E h => ?_) (fun cdv A outer s H vs Q E hr h => ?_)
    · obtain ⟨v, d, rfl, _⟩ := h
      rfl
    · obtain ⟨v, d, rfl, hd, hw, hdep, q⟩ := h
      have nd := scLIsPlain.nd
      have hr := (show Room (1 + n) _ from hr)
      refine ⟨_, (pss_cons (ps_if (pt_val (pe_callB call_isQ (by rfl) T.n_isinstance (by decide +kernel) (pa_cons (pv 0) (pa_cons (pe_bltn (v := .ty "tuple") (by rfl) T.n_tuple (by decide +kernel) rfl) pa_nil))))
      (pss_one (ps_ret (pe_and (pe_cmpR op_le (pe_callB call_len_seq (by rfl) T.n_len (by decide +kernel) (pa_cons (pv 0) pa_nil)) pe_int (nomark _)) (pe_one (pe_cmpR (op_eqNil hr.units) (pe_lc (own := [("_law_part", 1)]) (g := gName 1) (by rfl) nd (pi_tup (pv 0)) (blkOk_by (own := [("_law_part", 1)]) (N := NLIsPlain) (sc := fnScope sLIsPlain) (by decide +kernel)) (fun _ _ _ _ _ => pg_name (i := 1) nd rfl (Or.inl rfl)) (fun _ _ _ _ _ => (pts_one (pt_not (pt_val (pe_c c_LIsPlain hr (Nat.le_refl _) (by rfl) (pa_cons (pv 1) pa_nil)))))) (fun _ _ _ _ _ => (pv 1))) (pe_lst pa_nil) (nomark _))))))
      pss_nil)
    (pss_cons (ps_if (pt_val (pe_callB call_isQ (by rfl) T.n_isinstance (by decide +kernel) (pa_cons (pv 0) (pa_cons (pe_bltn (v := .ty "bool") (by rfl) T.n_bool (by decide +kernel) rfl) pa_nil))))
      (pss_one (ps_ret pe_bl))
      pss_nil)
    (pss_one (ps_ret (pe_and (pe_callB call_isQ (by rfl) T.n_isinstance (by decide +kernel) (pa_cons (pv 0) (pa_cons (pe_bltn (v := .ty "int") (by rfl) T.n_int (by decide +kernel) rfl) pa_nil))) (pe_one (pe_chain op_le op_lt pe_int (pv 0) (pe_op op_pow pe_int pe_int)))))))), ?_⟩
      refine ⟨_, rfl, v, d, "tuple", rfl, hd, by decide, _, rfl, ?_⟩
      have q0 := q H (Same.refl H)
      cases hd with
      | @tup a xs ds hq ha =>
        refine iteT ?_
        have hlen := ha.len
        rw [valT_tup] at q q0
        have hw1 : PyData.weightAll ds ≤ 100000 := by simpa only [PyData.weight] using hw
        have hd1 : PyData.depthAll ds < n := by rw [PyData.depth] at hdep; omega
        refine ⟨_, rfl, a, xs, rfl, .inr hq, _, _, rfl, rfl, _, rfl, ite2 (fun e => ?_) (fun e => ?_)⟩
        · have e1 : ds.length ≤ 60 := by
            have : ((xs.length : Nat) : Int) ≤ 60 := of_decide_eq_true e
            omega
          refine ⟨_, rfl, a, rfl, ⟨xs, hq⟩, ?_⟩
          refine lc_bad hq ha hw1 hd1 e1 (fun Dl H' acc sm hat hae => ⟨(by show 0 ≤ sizeLine; decide), fun l2 hl2 => ⟨Dl, l2, acc, rfl, rfl, SqL.of ((Same.new hl2) _ _ hat), SqL.of upd_same, ?_⟩⟩)
          have q1 := q _ (sm.trans (Same.new (o := .lst []) hl2))
          rw [decide_eq_true e1, Bool.true_and, ← hae] at q1
          exact q1
        · have e1 : ¬ ds.length ≤ 60 := fun h => e (decide_eq_true (by omega))
          rw [decide_eq_false e1, Bool.false_and] at q0
          exact q0
      | bl bb => exact iteF ⟨_, rfl, _, _, "bool", rfl, .bl bb, by decide, _, rfl, iteT (show Q (.bl true) H by simpa [valT, leafP, isB] using q0)⟩
      | int i =>
        refine iteF ?_
        refine ⟨_, rfl, _, _, "bool", rfl, .int i, by decide, _, rfl, iteF ?_⟩
        refine ⟨_, rfl, _, _, "int", rfl, .int i, by decide, _, rfl, iteT ?_⟩
        have q1 : Q (.bl (decide (0 ≤ i) && decide (i < 1000000000000))) H := by simpa only [valT, leafP, isB, numB, Bool.false_or] using q0
        refine ⟨_, rfl, _, _, rfl, rfl, _, rfl, ite2 (fun e => ?_) (fun e => ?_)⟩
        · refine ⟨_, _, rfl, rfl, (by show (0 : Int) ≤ 12 ∧ _; decide), _, _, rfl, rfl, ?_⟩
          have e12 : (10 : Int) ^ (12 : Int).toNat = 1000000000000 := by decide
          rw [e12]
          rw [e, Bool.true_and] at q1
          exact q1
        · rw [eq_false_of_ne_true e, Bool.false_and] at q1
          exact q1
      | non => exact iteF ⟨_, rfl, _, _, "bool", rfl, .non, by decide, _, rfl, iteF ⟨_, rfl, _, _, "int", rfl, .non, by decide, _, rfl, iteF (by simpa [valT, leafP, isB, numB] using q0)⟩⟩
      | str z => exact iteF ⟨_, rfl, _, _, "bool", rfl, .str z, by decide, _, rfl, iteF ⟨_, rfl, _, _, "int", rfl, .str z, by decide, _, rfl, iteF (by simpa [valT, leafP, isB, numB] using q0)⟩⟩
      | lst h1 h2 => exact iteF ⟨_, rfl, _, _, "bool", rfl, .lst h1 h2, by decide, _, rfl, iteF ⟨_, rfl, _, _, "int", rfl, .lst h1 h2, by decide, _, rfl, iteF (by simpa [valT, leafP, isB, numB] using q0)⟩⟩
      | dct h1 h2 h3 => exact iteF ⟨_, rfl, _, _, "bool", rfl, .dct h1 h2 h3, by decide, _, rfl, iteF ⟨_, rfl, _, _, "int", rfl, .dct h1 h2 h3, by decide, _, rfl, iteF (by simpa [valT, leafP, isB, numB] using q0)⟩⟩
abbrev sLIsRef : Stmt := topS 19
abbrev NLIsRef : List Str := ["_law_thing", "_law_sign"]
theorem scLIsRef : FnScope NLIsRef ["_law_thing"] (fnScope sLIsRef) := ⟨rfl, rfl, rfl, by decide +kernel, rfl, by decide +kernel, by decide +kernel⟩
abbrev d10 : Str := "0123456789"
theorem d10_tl : d10.cps.toList = List.range' 48 10 := by decide +kernel
theorem mem_d10 (c : Nat) : decide (c ∈ d10.cps.toList) = dig c := by
  rw [d10_tl, Bool.eq_iff_iff]
  unfold dig
  rw [Bool.and_eq_true, decide_eq_true_eq, decide_eq_true_eq, decide_eq_true_eq, List.mem_range'_1]
  omega
theorem cut_hd (z : Str) : (cutS z none (some 1)).cps.toList = z.cps.toList.take 1 := by
  have hl := len_tl z
  have h1 : HT.sIx z.length z.length (some 1) = min 1 z.length := HT.sIx_nat z.length z.length 1
  unfold cutS
  rw [h1, HT.sIx_none]
  show (z.cps.toList.drop 0).take (min 1 z.length - 0) = z.cps.toList.take 1
  rw [List.drop_zero]
  cases hc : z.cps.toList with
  | nil => simp
  | cons c r =>
    rw [hc] at hl
    simp at hl
    rw [show min 1 z.length - 0 = 1 by omega]
theorem c_lisRef (T : Tp mg) {f : Addr} {fd : FuncData} (D : Def K mg "_law_is_ref" sLIsRef f fd) (b : Binds K fd ["_law_thing"] []) : Cal P w K mg base 1 "_law_is_ref" (spQ K refB) [] := by
  refine cal0 D b .nil scLIsRef (fun vs H Q E h => ?_) (fun cdv A outer s H vs Q E hr h => ?_)
  · obtain ⟨v, d, rfl, _⟩ := h
    rfl
  · obtain ⟨v, d, rfl, hd, hw, q⟩ := h
    have nd := scLIsRef.nd
    refine ⟨_, (pss_cons (ps_if (PW.pt (pw_or (pt_not (pt_val (pe_callB call_isQ (by rfl) T.n_isinstance (by decide +kernel) (pa_cons (pv 0) (pa_cons (pe_bltn (v := .ty "str") (by rfl) T.n_str (by decide +kernel) rfl) pa_nil))))) (pw_or (pt_cmpR op_ne (pe_slice sl_str (pv 0) po_none (po_some pe_int)) pe_str (nomark _)) (pw_or1 (pt_cmpR op_lt (pe_callB call_len_str (by rfl) T.n_len (by decide +kernel) (pa_cons (pv 0) pa_nil)) pe_int (nomark _))))))
      (pss_one (ps_ret pe_bl))
      pss_nil)
    (pss_cons (ps_if (pt_cmpR (op_neNil hr.units) (pe_lc (own := [("_law_sign", 1)]) (g := gName 1) (by rfl) nd (pi_str (pe_slice sl_str (pv 0) (po_some pe_int) po_none)) (blkOk_by (own := [("_law_sign", 1)]) (N := NLIsRef) (sc := fnScope sLIsRef) (by decide +kernel)) (fun _ _ _ _ _ => pg_name (i := 1) nd rfl (Or.inl rfl)) (fun _ _ _ _ _ => (pts_one (pt_cmpR op_notIn_sign (pv 1) pe_str rfl))) (fun _ _ _ _ _ => (pv 1))) (pe_lst pa_nil) (nomark _))
      (pss_one (ps_ret pe_bl))
      pss_nil)
    (pss_one (ps_ret (pe_or (pe_cmpR op_ne (pe_ix ix_str (pv 0) pe_int (fun _ _ => rfl)) pe_str (nomark _)) (pe_one (pe_cmpR op_eq (pe_callB call_len_str (by rfl) T.n_len (by decide +kernel) (pa_cons (pv 0) pa_nil)) pe_int (nomark _)))))))), ?_⟩
    have q0 := q H (Same.refl H)
    have line := sizeLine_eq
    refine ⟨_, rfl, v, d, "str", rfl, hd, by decide, _, rfl, ?_⟩
    cases hd with
    | str z =>
      refine iteF ?_
      have hz : z.length ≤ 100000 := hw
      have hzl := len_tl z
      have hr1 : ("r" : Str).cps.toList = [114] := by decide +kernel
      have h01 : ("0" : Str).cps.toList = [48] := by decide +kernel
      refine ⟨_, rfl, 1, rfl, z, rfl, by omega, rfl, _, rfl, ?_⟩
      rw [dec_str2, cut_hd, hr1]
      cases hc : z.cps.toList with
      | nil =>
        refine iteT' (by simp) ?_
        have e : refB (.str z) = false := by show refL z.cps.toList = false; rw [hc]; rfl
        rw [e] at q0
        exact q0
      | cons c l =>
        rw [hc] at hzl
        have e : refB (.str z) = (c == 114 && figL l) := by show refL z.cps.toList = _; rw [hc]; rfl
        rw [e] at q q0
        by_cases hc1 : c = 114
        · subst hc1
          refine iteF' (by simp) ?_
          refine ⟨_, rfl, z, rfl, by omega, _, _, rfl, rfl, _, rfl, ite2 (fun e2 => ?_) (fun e2 => ?_)⟩
          · have e3 : (z.length : Int) < 2 := of_decide_eq_true e2
            have : l = [] := by
              cases l with
              | nil => rfl
              | cons x y => simp at hzl; omega
            subst this
            exact q0
          · have e3 : ¬ (z.length : Int) < 2 := fun h => e2 (decide_eq_true h)
            obtain ⟨c2, r, rfl⟩ : ∃ c2 r, l = c2 :: r := by
              cases l with
              | nil => simp at hzl; omega
              | cons x y => exact ⟨x, y, rfl⟩
            have ecut : (cutS z (some 1) none).cps.toList = c2 :: r := by rw [cut_tl, hc]; rfl
            refine ⟨_, rfl, 1, rfl, z, rfl, by omega, _, rfl, fun Dl hDl => ?_⟩
            refine lc_str (z := cutS z (some 1) none) (fun i H' => Same H H' ∧ ∃ acc, H' Dl = some (.lst acc) ∧ acc.length ≤ i ∧ acc.isEmpty = ((c2 :: r).take i).all dig) ⟨Same.new hDl, [], upd_same, Nat.le_refl _, by simp⟩ (fun i c' H' hc' hW => ?_) (fun H' hW => ?_)
            · obtain ⟨sm, acc, hat, hal, hae⟩ := hW
              rw [ecut] at hc'
              have et : ((c2 :: r).take (i + 1)).all dig = (((c2 :: r).take i).all dig && dig c') := by rw [take_succ hc', List.all_append]; simp
              have hil : i < (c2 :: r).length := (List.getElem?_eq_some_iff.mp hc').1
              simp at hzl hil
              refine ⟨rfl, _, rfl, c', d10, rfl, rfl, _, rfl, ?_⟩
              rw [mem_d10]
              cases hg : dig c' with
              | true =>
                refine iteF ?_
                exact ⟨sm, acc, hat, by omega, by rw [et, hg, Bool.and_true]; exact hae⟩
              | false =>
                refine iteT ?_
                refine ⟨_, rfl, acc, hat, by omega, fun b o hb => ?_, acc ++ [_], upd_same, by rw [List.length_append, List.length_singleton]; omega, ?_⟩
                · rw [upd_ne (ne_of_none hb hDl)]
                  exact sm b o hb
                · rw [et, hg, Bool.and_false]
                  cases acc <;> rfl
            · obtain ⟨sm, acc, hat, hal, hae⟩ := hW
              rw [ecut, List.take_of_length_le (Nat.le_refl _)] at hae
              refine ⟨(by show 0 ≤ sizeLine; decide), fun l2 hl2 => ⟨Dl, l2, acc, rfl, rfl, SqL.of ((Same.new hl2) _ _ hat), SqL.of upd_same, _, rfl, ?_⟩⟩
              have q1 := q _ (sm.trans (Same.new (o := .lst []) hl2))
              have e4 : ((114 : Nat) == 114 && figL (c2 :: r)) = ((c2 :: r).all dig && (c2 != 48 || r.isEmpty)) := by
                show ((dig c2 && r.all dig) && (c2 != 48 || r.isEmpty)) = _
                rw [List.all_cons]
              rw [e4] at q1
              rw [hae]
              cases hall : (c2 :: r).all dig with
              | false =>
                rw [hall, Bool.false_and] at q1
                exact iteT q1
              | true =>
                rw [hall, Bool.true_and] at q1
                refine iteF ?_
                refine ⟨_, rfl, z, 1, c2, rfl, rfl, by omega, by rw [hc]; exact atI_nat (j := 1) rfl, rfl, _, rfl, ?_⟩
                rw [dec_str2, h01]
                have h5 : ((⟨#[c2]⟩ : Str)).cps.toList = [c2] := rfl
                rw [h5]
                by_cases h48 : c2 = 48
                · subst h48
                  refine iteF' (by simp) ?_
                  refine ⟨_, rfl, z, rfl, by omega, rfl, ?_⟩
                  have e6 : decide (V.int (z.length : Int) = V.int 2) = r.isEmpty := by
                    rw [dec_vint]
                    simp at hzl
                    cases r with
                    | nil => exact decide_eq_true (by simp at hzl; omega)
                    | cons x y => exact decide_eq_false (by simp at hzl; omega)
                  show Q (.bl (decide (V.int (z.length : Int) = V.int 2))) _
                  rw [e6]
                  exact q1
                · refine iteT' (by simp [h48]) ?_
                  have e7 : (c2 != 48) = true := by simp [h48]
                  rw [e7, Bool.true_or] at q1
                  exact q1
        · refine iteT' (by simp [hc1]) ?_
          have e4 : (c == 114) = false := by simp [hc1]
          rw [e4, Bool.false_and] at q0
          exact q0
    | _ => exact iteT q0
abbrev sLIsValue : Stmt := topS 20
abbrev NLIsValue : List Str := ["_law_thing", "_law_part"]
theorem scLIsValue : FnScope NLIsValue ["_law_thing"] (fnScope sLIsValue) := ⟨rfl, rfl, rfl, by decide +kernel, rfl, by decide +kernel, by decide +kernel⟩
theorem c_lisValue (T : Tp mg) (c_LIsPlain : Cal P w K mg base 17 "_law_is_plain" (spQ2 K (valT leafP) 16) []) (c_LIsRef : Cal P w K mg base 1 "_law_is_ref" (spQ K refB) []) {f : Addr} {fd : FuncData} (D : Def K mg "_law_is_value" sLIsValue f fd) (b : Binds K fd ["_law_thing"] []) :
    ∀ n : Nat, n ≤ 16 → Cal P w K mg base (17 + n) "_law_is_value" (spQ2 K (valT valF) n) []
  | 0, _ => cal_no _ (fun vs H Q E ⟨v, d, _, _, _, h, _⟩ => absurd h (Nat.not_lt_zero _)) D b
  | n + 1, hn => by
    have c_LIsValue := c_lisValue T c_LIsPlain c_LIsRef D b n (by omega)
    refine cal0 D b .nil scLIsValue (fun vs H Q E h => ?_) (fun cdv A outer s H vs Q E hr h => ?_)
    · obtain ⟨v, d, rfl, _⟩ := h
      rfl
    · obtain ⟨v, d, rfl, hd, hw, hdep, q⟩ := h
      have nd := scLIsValue.nd
      have hr := (show Room (17 + n) _ from hr)
      refine ⟨_, (pss_cons (ps_if (pt_val (pe_callB call_isQ (by rfl) T.n_isinstance (by decide +kernel) (pa_cons (pv 0) (pa_cons (pe_bltn (v := .ty "tuple") (by rfl) T.n_tuple (by decide +kernel) rfl) pa_nil))))
      (pss_one (ps_ret (pe_and (pe_cmpR op_le (pe_callB call_len_seq (by rfl) T.n_len (by decide +kernel) (pa_cons (pv 0) pa_nil)) pe_int (nomark _)) (pe_one (pe_cmpR (op_eqNil hr.units) (pe_lc (own := [("_law_part", 1)]) (g := gName 1) (by rfl) nd (pi_tup (pv 0)) (blkOk_by (own := [("_law_part", 1)]) (N := NLIsValue) (sc := fnScope sLIsValue) (by decide +kernel)) (fun _ _ _ _ _ => pg_name (i := 1) nd rfl (Or.inl rfl)) (fun _ _ _ _ _ => (pts_one (pt_not (pt_val (pe_c c_LIsValue hr (Nat.le_refl _) (by rfl) (pa_cons (pv 1) pa_nil)))))) (fun _ _ _ _ _ => (pv 1))) (pe_lst pa_nil) (nomark _))))))
      pss_nil)
    (pss_one (ps_ret (pe_or (pe_c c_LIsPlain hr (by omega) (by rfl) (pa_cons (pv 0) pa_nil)) (pe_one (pe_c c_LIsRef hr (by omega) (by rfl) (pa_cons (pv 0) pa_nil))))))), ?_⟩
      refine ⟨_, rfl, v, d, "tuple", rfl, hd, by decide, _, rfl, ?_⟩
      have q0 := q H (Same.refl H)
      cases ht : isT d with
      | true =>
        show if (isT d) = true then _ else _
        rw [ht]
        refine iteT ?_
        cases hd with
        | @tup a xs ds hq ha =>
          have hlen := ha.len
          rw [valT_tup] at q q0
          have hw1 : PyData.weightAll ds ≤ 100000 := by simpa only [PyData.weight] using hw
          have hd1 : PyData.depthAll ds < n := by rw [PyData.depth] at hdep; omega
          refine ⟨_, rfl, a, xs, rfl, .inr hq, _, _, rfl, rfl, _, rfl, ite2 (fun e => ?_) (fun e => ?_)⟩
          · have e1 : ds.length ≤ 60 := by
              have : ((xs.length : Nat) : Int) ≤ 60 := of_decide_eq_true e
              omega
            refine ⟨_, rfl, a, rfl, ⟨xs, hq⟩, ?_⟩
            refine lc_bad hq ha hw1 hd1 e1 (fun Dl H' acc sm hat hae => ⟨(by show 0 ≤ sizeLine; decide), fun l2 hl2 => ⟨Dl, l2, acc, rfl, rfl, SqL.of ((Same.new hl2) _ _ hat), SqL.of upd_same, ?_⟩⟩)
            have q1 := q _ (sm.trans (Same.new (o := .lst []) hl2))
            rw [decide_eq_true e1, Bool.true_and, ← hae] at q1
            exact q1
          · have e1 : ¬ ds.length ≤ 60 := fun h => e (decide_eq_true (by omega))
            rw [decide_eq_false e1, Bool.false_and] at q0
            exact q0
        | _ => simp [isT] at ht
      | false =>
        show if (isT d) = true then _ else _
        rw [ht]
        refine iteF ?_
        rw [valT_not ht] at q
        refine ⟨_, rfl, v, d, rfl, hd, hw, by omega, fun H2 s2 => ⟨_, rfl, ?_⟩⟩
        rw [valT_not ht]
        cases hp : leafP d with
        | true =>
          have q1 := q H2 s2
          unfold valF at q1
          rw [hp, Bool.true_or] at q1
          exact iteT q1
        | false =>
          refine iteF ?_
          refine ⟨_, rfl, v, d, rfl, hd.mono s2, hw, fun H3 s3 => ?_⟩
          have q1 := q H3 (s2.trans s3)
          unfold valF at q1
          rw [hp, Bool.false_or] at q1
          exact q1
end
end K13
set_option Elab.async false
set_option linter.all false
set_option maxRecDepth 100000
set_option maxHeartbeats 4000000
namespace K13
open PySem PySem.Spec PyProof.Rows L2
open C8 (Cal Def cal0 pe_c fnBody fnScope fnArgs)
mutual
def noL : PyData → Bool
  | .list _ => false
  | .dict _ => false
  | .tuple xs => noLs xs
  | _ => true
def noLs : List PyData → Bool
  | [] => true
  | x :: xs => noL x && noLs xs
end
theorem rd_hid {D a : Addr} {H : Hp} {ys xs : List V} (hD : H D = some (.lst ys)) (h : Rd H a (.tup xs)) : Rd (hid D H) a (.tup xs) := by
  rcases h with h | ⟨o, h⟩
  · have n : a ≠ D := fun e => by
      rw [e, hD] at h
      cases h
    exact .inl (by rw [hid_ne n]; exact h)
  · have n : a ≠ D := fun e => by
      rw [e, hD] at h
      cases h
    exact .inr ⟨o, by rw [hid_ne n]; exact h⟩
mutual
theorem dp_hid {K : PySem.W.Frag} {D : Addr} {H : Hp} {ys : List V} (hD : H D = some (.lst ys)) : ∀ {d : PyData} {v : V}, noL d = true → Dp K H v d → Dp K (hid D H) v d
  | .none, _, _, h => by cases h; exact .non
  | .bool b, _, _, h => by cases h; exact .bl b
  | .int i, _, _, h => by cases h; exact .int i
  | .str x, _, _, h => by cases h; exact .str x
  | .list _, _, n, _ => by simp [noL] at n
  | .dict _, _, n, _ => by simp [noL] at n
  | .tuple ds, _, n, h => by
    have n' : noLs ds = true := by simpa [noL] using n
    cases h with
    | tup hq ha => exact .tup (hq.elim (fun h => .inl (rd_hid hD h)) .inr) (dpAll_hid hD n' ha)
theorem dpAll_hid {K : PySem.W.Frag} {D : Addr} {H : Hp} {ys : List V} (hD : H D = some (.lst ys)) : ∀ {ds : List PyData} {vs : List V}, noLs ds = true → DpAll K H vs ds → DpAll K (hid D H) vs ds
  | [], _, _, h => by cases h; exact .nil
  | d :: ds, _, n, h => by
    have n' : noL d = true ∧ noLs ds = true := by simpa [noLs] using n
    cases h with
    | cons a b => exact .cons (dp_hid hD n'.1 a) (dpAll_hid hD n'.2 b)
end
theorem hid_upd {D : Addr} {H : Hp} {o : HO} : hid D (upd H D o) = hid D H := by
  funext b
  unfold hid upd
  by_cases h : b = D
  · rw [if_pos h, if_pos h]
  · rw [if_neg h, if_neg h, if_neg h]
theorem hid_same {p : Addr} {H H' : Hp} (e : Same H H') : Same (hid p H) (hid p H') := fun b o h => by
  obtain ⟨n, h⟩ := hid_some h
  rw [hid_ne n]
  exact e b o h
theorem hid_hid {p D : Addr} {H : Hp} : hid D (hid p H) = hid p (hid D H) := by
  funext b
  unfold hid
  by_cases h : b = D <;> by_cases h2 : b = p <;> simp [h, h2]
theorem hid2_but {p D : Addr} {H H' : Hp} (e : But p H H') : Same (hid p (hid D H)) (hid p (hid D H')) := fun b o h => by
  obtain ⟨n, h⟩ := hid_some h
  obtain ⟨n2, h⟩ := hid_some h
  rw [hid_ne n, hid_ne n2]
  exact e b o n h
theorem noLs_app : ∀ {xs ys : List PyData}, noLs xs = true → noLs ys = true → noLs (xs ++ ys) = true
  | [], _, _, h => h
  | x :: xs, _, h, h2 => by
    have h' : noL x = true ∧ noLs xs = true := by simpa [noLs] using h
    simp only [List.cons_append, noLs, h'.1, noLs_app h'.2 h2, Bool.and_self]

mutual
theorem nl_noL : ∀ {d : PyData}, noL d = true → nl d = true ∧ d.hasDict = false
  | .none, _ => ⟨rfl, rfl⟩
  | .bool _, _ => ⟨rfl, rfl⟩
  | .int _, _ => ⟨rfl, rfl⟩
  | .str _, _ => ⟨rfl, rfl⟩
  | .list _, h => by simp [noL] at h
  | .dict _, h => by simp [noL] at h
  | .tuple xs, h => by
    have := nls_noLs (ds := xs) (by simpa [noL] using h)
    exact ⟨by simpa [nl] using this.1, by simpa [PyData.hasDict] using this.2⟩
theorem nls_noLs : ∀ {ds : List PyData}, noLs ds = true → nls ds = true ∧ PyData.hasDictAll ds = false
  | [], _ => ⟨rfl, by simp [PyData.hasDictAll]⟩
  | x :: xs, h => by
    have h' : noL x = true ∧ noLs xs = true := by simpa [noLs] using h
    have a := nl_noL h'.1
    have b := nls_noLs h'.2
    exact ⟨by simp [nls, a.1, b.1], by simp [PyData.hasDictAll, a.2, b.2]⟩
end
/-! ### small data -/
structure Ok (n m : Nat) (d : PyData) : Prop where
  dep : d.depth ≤ n
  wt : d.weight ≤ m
  ls : d.leavesShort 14 = true
  shw : d.showable = true
structure OkAll (n m : Nat) (ds : List PyData) : Prop where
  dep : PyData.depthAll ds ≤ n
  wt : PyData.weightAll ds ≤ m
  ls : PyData.leavesShortAll 14 ds = true
  shw : PyData.showableAll ds = true
theorem Ok.mono {n m n' m' : Nat} {d : PyData} (h : Ok n m d) (hn : n ≤ n') (hm : m ≤ m') : Ok n' m' d := ⟨Nat.le_trans h.dep hn, Nat.le_trans h.wt hm, h.ls, h.shw⟩
theorem OkAll.mono {n m n' m' : Nat} {ds : List PyData} (h : OkAll n m ds) (hn : n ≤ n') (hm : m ≤ m') : OkAll n' m' ds := ⟨Nat.le_trans h.dep hn, Nat.le_trans h.wt hm, h.ls, h.shw⟩
theorem OkAll.nil {n m : Nat} : OkAll n m [] := ⟨by simp [PyData.depthAll], by simp [PyData.weightAll], by simp [PyData.leavesShortAll], by simp [PyData.showableAll]⟩
theorem OkAll.cons {n a b : Nat} {d : PyData} {ds : List PyData} (h : Ok n a d) (t : OkAll n b ds) : OkAll n (a + 1 + b) (d :: ds) :=
  ⟨by simp only [PyData.depthAll]; exact Nat.max_le.mpr ⟨h.dep, t.dep⟩, by simp only [PyData.weightAll]; have := h.wt; have := t.wt; omega, by simp only [PyData.leavesShortAll, h.ls, t.ls, Bool.and_self], by simp only [PyData.showableAll, h.shw, t.shw, Bool.and_self]⟩
theorem OkAll.app {n : Nat} : ∀ {a b : Nat} {ds es : List PyData}, OkAll n a ds → OkAll n b es → OkAll n (a + b) (ds ++ es)
  | a, b, [], es, _, t => t.mono (Nat.le_refl _) (Nat.le_add_left _ _)
  | a, b, d :: ds, es, h, t => by
    have hd : max d.depth (PyData.depthAll ds) ≤ n := by simpa only [PyData.depthAll] using h.dep
    have hw : d.weight + 1 + PyData.weightAll ds ≤ a := by simpa only [PyData.weightAll] using h.wt
    have hl : d.leavesShort 14 = true ∧ PyData.leavesShortAll 14 ds = true := by simpa [PyData.leavesShortAll] using h.ls
    have hv : d.showable = true ∧ PyData.showableAll ds = true := by simpa [PyData.showableAll] using h.shw
    have h1 : Ok n d.weight d := ⟨Nat.le_trans (Nat.le_max_left _ _) hd, Nat.le_refl _, hl.1, hv.1⟩
    have h2 : OkAll n (a - d.weight - 1) ds := ⟨Nat.le_trans (Nat.le_max_right _ _) hd, by omega, hl.2, hv.2⟩
    exact (OkAll.cons h1 (OkAll.app h2 t)).mono (Nat.le_refl _) (by omega)
theorem Ok.tup {n m : Nat} {ds : List PyData} (h : OkAll n m ds) : Ok (n + 1) m (.tuple ds) :=
  ⟨by simp only [PyData.depth]; have := h.dep; omega, by simp only [PyData.weight]; exact h.wt, by simp only [PyData.leavesShort, h.ls], by simp only [PyData.showable, h.shw]⟩
theorem Ok.lst {n m : Nat} {ds : List PyData} (h : OkAll n m ds) : Ok (n + 1) m (.list ds) :=
  ⟨by simp only [PyData.depth]; have := h.dep; omega, by simp only [PyData.weight]; exact h.wt, by simp only [PyData.leavesShort, h.ls], by simp only [PyData.showable, h.shw]⟩
theorem Ok.str {n m : Nat} {z : Str} (hl : z.length ≤ m) (hc : ∀ c ∈ z.cps.toList, c < 128) : Ok n m (.str z) := by
  refine ⟨by simp [PyData.depth], by simp only [PyData.weight]; exact hl, ?_, by simp [PyData.showable]⟩
  simp only [PyData.leavesShort, List.all_eq_true, decide_eq_true_eq]
  intro c h
  have := hc c h
  have e : (16 : Nat) ^ 8 = 4294967296 := by decide
  omega
theorem Ok.bool {n m : Nat} (b : Bool) : Ok n m (.bool b) := ⟨by simp [PyData.depth], by simp [PyData.weight], rfl, rfl⟩
theorem Ok.none {n m : Nat} : Ok n m .none := ⟨by simp [PyData.depth], by simp [PyData.weight], rfl, rfl⟩
theorem Ok.dict0 {n m : Nat} (h : 1 ≤ n) : Ok n m (.dict []) := ⟨by simp only [PyData.depth, PyData.depthKv]; omega, by simp [PyData.weight, PyData.weightKv], rfl, rfl⟩
theorem Ok.num {n m : Nat} {i : Int} (h0 : -10000000000000 < i) (h1 : i < 10000000000000) (hm : 50 ≤ m) : Ok n m (.int i) := by
  have hl : i.natAbs < 2 ^ 44 := by
    have : (2 : Nat) ^ 44 = 17592186044416 := by decide
    omega
  refine ⟨by simp [PyData.depth], ?_, ?_, ?_⟩
  · simp only [PyData.weight]
    split
    · exact Nat.zero_le _
    · have := PySem.Flt.log2_lt_of (by decide : 0 < 44) hl
      omega
  · simp only [PyData.leavesShort, decide_eq_true_eq]
    show (Str.ofString (toString i)).length ≤ 14
    have e13 : (10 : Int) ^ 13 = 10000000000000 := by decide
    by_cases hn : 0 ≤ i
    · have := PyProof.Rows.toString_length_le hn (k := 13) (by decide) (by omega)
      omega
    · have e := PyProof.Rows.len_text_negI (n := i) (by omega)
      have := PyProof.Rows.toString_length_le (v := 0 - i) (by omega) (k := 13) (by decide) (by omega)
      omega
  · have := PySem.Flt.log2_lt_of (by decide : 0 < 44) hl
    simp only [PyData.showable, decide_eq_true_eq]
    omega
theorem Ok.shown {n m : Nat} {d : PyData} (h : Ok n m d) (hn : n ≤ 64) (hm : m ≤ 100000) (hk : d.hasDict = true → nl d = true) : shownQ d := by
  have hw := h.wt
  have := PyData.shown_le 14 (by decide) d h.ls
  have hd := h.dep
  exact ⟨h.shw, by omega, by rw [sizeLine_eq]; omega, hk⟩
theorem int_asc (i : Int) : ∀ c ∈ (Str.ofString (toString i)).cps.toList, c < 128 := fun c hc => by
  by_cases h : c < 128
  · exact h
  · exact absurd hc (PyProof.Rows.int_text_free' c ⟨by omega, by omega⟩ i)
theorem cat_ok {n m : Nat} {x y : Str} (hl : x.length + y.length ≤ m) (hx : ∀ c ∈ x.cps.toList, c < 128) (hy : ∀ c ∈ y.cps.toList, c < 128) : Ok n m (.str (x ++ y)) := by
  have e : (x ++ y).length = x.length + y.length := by rw [← len_tl, tl_app, List.length_append, len_tl, len_tl]
  refine .str (by omega) fun c hc => ?_
  rw [tl_app, List.mem_append] at hc
  exact hc.elim (hx c) (hy c)
def asc (z : Str) : Bool := z.cps.toList.all fun c => decide (c < 128)
theorem asc_of {z : Str} (h : asc z = true) : ∀ c ∈ z.cps.toList, c < 128 := fun c hc => of_decide_eq_true (List.all_eq_true.mp h c hc)
section
variable {P : Program} {w : World} {K : PySem.W.Frag} {mg : Str → Option Value} {base : Heap}
abbrev sLNumber : Stmt := topS 15
abbrev NLNumber : List Str := ["_law_pot_here"]
theorem scLNumber : FnScope NLNumber ["_law_pot_here"] (fnScope sLNumber) := ⟨rfl, rfl, rfl, by decide +kernel, rfl, by decide +kernel, by decide +kernel⟩
def spNumber : Sp := fun vs H Q _ => ∃ (p : Addr) (x y : Int), vs = [.ref p] ∧ Pot H p x y ∧ ∀ i H', 0 ≤ i → i < 1000000000000 → Going p H H' → Q (.int i) H'
theorem c_number (T : Tp mg) (c_LTake : Cal P w K mg base 1 "_law_take" spTake []) {f : Addr} {fd : FuncData} (D : Def K mg "_law_number" sLNumber f fd) (b : Binds K fd ["_law_pot_here"] []) : Cal P w K mg base 2 "_law_number" spNumber [] := by
  refine cal0 D b .nil scLNumber (fun vs H Q E h => ?_) (fun cdv A outer s H vs Q E hr h => ?_)
  · obtain ⟨p, x, y, rfl, _⟩ := h
    rfl
  · obtain ⟨p, x, y, rfl, hp, q⟩ := h
    refine ⟨_, (pss_one (ps_ret (pe_ix ix_list (pe_lst (pa_cons (pe_c c_LTake hr (by decide) (by rfl) (pa_cons (pv 0) (pa_cons pe_int pa_nil))) (pa_cons (pe_c c_LTake hr (by decide) (by rfl) (pa_cons (pv 0) (pa_cons (pe_op op_pow pe_int pe_int) pa_nil))) (pa_cons (pe_op op_sub (pe_op op_pow pe_int pe_int) pe_int) pa_nil)))) (pe_c c_LTake hr (by decide) (by rfl) (pa_cons (pv 0) (pa_cons pe_int pa_nil))) (fun _ _ => rfl)))), ?_⟩
    refine ⟨_, rfl, p, x, y, 4, rfl, hp, by decide, by decide, fun ra x2 y2 ra0 ra1 hp2 => ?_⟩
    have g2 := going_pot (But.refl p H) hp2
    refine ⟨_, rfl, _, _, rfl, rfl, (by show (0 : Int) ≤ 12 ∧ _; decide), p, x2, y2, _, rfl, hp2, (by decide), (by decide), fun rb x3 y3 rb0 rb1 hp3 => ?_⟩
    have g3 := g2.trans (going_pot (But.refl p _) hp3)
    refine ⟨_, _, rfl, rfl, (by show (0 : Int) ≤ 12 ∧ _; decide), _, _, rfl, rfl, (by show 3 ≤ sizeLine; decide), fun l hl => ?_⟩
    have g4 := g3.new (o := .lst [.int ra, .int rb, .int ((10 : Int) ^ (12 : Int).toNat - 1)]) hl
    obtain ⟨x4, y4, hp4⟩ := g4.2
    have nl := g3.ne hl
    refine ⟨_, rfl, p, x4, y4, 3, rfl, hp4, by decide, by decide, fun rc x5 y5 rc0 rc1 hp5 => ?_⟩
    have g5 := g4.trans (going_pot (But.refl p _) hp5)
    have e12 : (10 : Int) ^ (12 : Int).toNat = 1000000000000 := by decide
    rw [e12] at rb1
    obtain ⟨i, hi, hi0, hi1⟩ : ∃ i : Int, atI [V.int ra, .int rb, .int ((10 : Int) ^ (12 : Int).toNat - 1)] rc = some (.int i) ∧ 0 ≤ i ∧ i < 1000000000000 := by
      have hc : rc = 0 ∨ rc = 1 ∨ rc = 2 := by omega
      rcases hc with rfl | rfl | rfl
      · exact ⟨ra, atI_nat (j := 0) rfl, ra0, by omega⟩
      · exact ⟨rb, atI_nat (j := 1) rfl, rb0, rb1⟩
      · exact ⟨_, atI_nat (j := 2) rfl, by rw [e12]; decide, by rw [e12]; decide⟩
    exact ⟨l, _, rc, .int i, rfl, rfl, SqL.of (((But.refl p _).pot (o := .lst [.int x5, .int y5])) _ _ nl upd_same), hi, q i _ hi0 hi1 g5⟩
abbrev sLRef : Stmt := topS 16
abbrev NLRef : List Str := ["_law_pot_here"]
theorem scLRef : FnScope NLRef ["_law_pot_here"] (fnScope sLRef) := ⟨rfl, rfl, rfl, by decide +kernel, rfl, by decide +kernel, by decide +kernel⟩
def spRef : Sp := fun vs H Q _ => ∃ (p : Addr) (x y : Int), vs = [.ref p] ∧ Pot H p x y ∧ ∀ z H', Ok 0 61 (.str z) → Going p H H' → Q (.str z) H'
theorem c_ref (T : Tp mg) (c_LTake : Cal P w K mg base 1 "_law_take" spTake []) {f : Addr} {fd : FuncData} (D : Def K mg "_law_ref" sLRef f fd) (b : Binds K fd ["_law_pot_here"] []) : Cal P w K mg base 2 "_law_ref" spRef [] := by
  refine cal0 D b .nil scLRef (fun vs H Q E h => ?_) (fun cdv A outer s H vs Q E hr h => ?_)
  · obtain ⟨p, x, y, rfl, _⟩ := h
    rfl
  · obtain ⟨p, x, y, rfl, hp, q⟩ := h
    refine ⟨_, (pss_one (ps_ret (pe_op op_add_str pe_str (pe_callTy call_str_int (by rfl) T.n_str (by decide +kernel) (pa_cons (pe_ix ix_list (pe_lst (pa_cons (pe_c c_LTake hr (by decide) (by rfl) (pa_cons (pv 0) (pa_cons pe_int pa_nil))) (pa_cons (pe_c c_LTake hr (by decide) (by rfl) (pa_cons (pv 0) (pa_cons pe_int pa_nil))) (pa_cons (pe_c c_LTake hr (by decide) (by rfl) (pa_cons (pv 0) (pa_cons (pe_op op_pow pe_int pe_int) pa_nil))) pa_nil)))) (pe_c c_LTake hr (by decide) (by rfl) (pa_cons (pv 0) (pa_cons pe_int pa_nil))) (fun _ _ => rfl)) pa_nil))))), ?_⟩
    refine ⟨_, rfl, p, x, y, 4, rfl, hp, by decide, by decide, fun ra x2 y2 ra0 ra1 hp2 => ?_⟩
    have g2 := going_pot (But.refl p H) hp2
    refine ⟨_, rfl, p, x2, y2, 2000, rfl, hp2, (by decide), (by decide), fun rb x3 y3 rb0 rb1 hp3 => ?_⟩
    have g3 := g2.trans (going_pot (But.refl p _) hp3)
    refine ⟨_, rfl, _, _, rfl, rfl, (by show (0 : Int) ≤ 60 ∧ _; decide), p, x3, y3, _, rfl, hp3, (by decide), (by decide +kernel), fun rc x4 y4 rc0 rc1 hp4 => ?_⟩
    have g4 := g3.trans (going_pot (But.refl p _) hp4)
    refine ⟨(by show 3 ≤ sizeLine; decide), fun l hl => ?_⟩
    have g5 := g4.new (o := .lst [.int ra, .int rb, .int rc]) hl
    obtain ⟨x5, y5, hp5⟩ := g5.2
    have nl := g4.ne hl
    refine ⟨_, rfl, p, x5, y5, 3, rfl, hp5, by decide, by decide, fun rd x6 y6 rd0 rd1 hp6 => ?_⟩
    have g6 := g5.trans (going_pot (But.refl p _) hp6)
    have rc2 : rc < 10 ^ 60 := rc1
    have b60 : (2000 : Int) < 10 ^ 60 := by decide
    obtain ⟨i, hi, hi0, hi1⟩ : ∃ i : Int, atI [V.int ra, .int rb, .int rc] rd = some (.int i) ∧ 0 ≤ i ∧ i < 10 ^ 60 := by
      have hc : rd = 0 ∨ rd = 1 ∨ rd = 2 := by omega
      rcases hc with rfl | rfl | rfl
      · exact ⟨ra, atI_nat (j := 0) rfl, ra0, by omega⟩
      · exact ⟨rb, atI_nat (j := 1) rfl, rb0, by omega⟩
      · exact ⟨rc, atI_nat (j := 2) rfl, rc0, rc2⟩
    refine ⟨l, _, rd, .int i, rfl, rfl, SqL.of (((But.refl p _).pot (o := .lst [.int x6, .int y6])) _ _ nl upd_same), hi, i, rfl, ?_, ?_⟩
    · have h200 : i.natAbs < 2 ^ 200 := by
        have e1 : ((10 : Nat) ^ 60) < 2 ^ 200 := by decide +kernel
        have e2 : ((i.natAbs : Nat) : Int) < (((10 : Nat) ^ 60 : Nat) : Int) := by
          rw [Int.natAbs_of_nonneg hi0]
          exact_mod_cast hi1
        omega
      have := PySem.Flt.log2_lt_of (by decide : 0 < 200) h200
      omega
    · have hlen := PyProof.Rows.toString_length_le hi0 (k := 60) (by decide) hi1
      have h1 : ("r" : Str).length = 1 := by decide +kernel
      refine ⟨_, _, rfl, rfl, by rw [sizeLine_eq]; omega, q _ _ (cat_ok (by omega) (asc_of (z := "r") (by decide +kernel)) (int_asc i)) g6⟩
end
end K13
set_option Elab.async false
set_option linter.all false
set_option maxRecDepth 100000
set_option maxHeartbeats 4000000
namespace K13
open PySem PySem.Spec PyProof.Rows L2
open C8 (Cal Def cal0 pe_c fnBody fnScope fnArgs)
def wv : Nat → Nat
  | 0 => 70
  | k + 1 => 3 * (wv k + 1)
theorem wv_ge : ∀ m, 70 ≤ wv m
  | 0 => Nat.le_refl _
  | k + 1 => by
    have := wv_ge k
    show 70 ≤ 3 * (wv k + 1)
    omega
section
variable {P : Program} {w : World} {K : PySem.W.Frag} {mg : Str → Option Value} {base : Heap}
def spValue (K : PySem.W.Frag) (j : Nat) : Sp := fun vs H Q _ => ∃ (p : Addr) (x y : Int) (m : Nat), vs = [.ref p, .int m, .bl true] ∧ m < j ∧ Pot H p x y ∧ ∀ v d H', Ok m (wv m) d → noL d = true → Dh K p H' v d → Going p H H' → Q v H'
/-- values drawn, one behind the other: what is made so far -/
structure Row (K : PySem.W.Frag) (p D : Addr) (m : Nat) (H : Hp) (i : Nat) (H' : Hp) (vs : List V) (ds : List PyData) : Prop where
  ok : OkAll m (i * (wv m + 1)) ds
  nl : noLs ds = true
  ln : ds.length = i
  dt : DpAll K (hid p (hid D H')) vs ds
  at_ : H' D = some (.lst vs)
  go : Going p H H'
theorem lc_value {j : Nat} {p : Addr} {x y : Int} {m c : Nat} {H : Hp} {σ : L2.St} {R9 : Addr → Hp → Prop} (hm : m < j) (hc : c ≤ 3) (hp : Pot H p x y) (s0 : (wipe σ [4])[0]? = some (some (.ref p))) (s1 : (wipe σ [4])[1]? = some (some (.int ((m + 1 : Nat) : Int)))) (s2 : (wipe σ [4])[2]? = some (some (.bl true))) (hl : σ.length = 5)
    (q : ∀ D H' vs ds, D ≠ p → Row K p D m H c H' vs ds → R9 D H') :
    ∀ D, H D = none → ∃ W : Nat → Nat → Hp → Prop, (∃ m, W 0 m (upd H D (.lst []))) ∧ ∀ i m H, W i m H →
      ((Itr 0 c).stop i H ∧ R9 D H) ∨ ((Itr 0 c).go i H ∧ ∃ Nx : Hp → Prop, (∀ H', Nx H' → ∃ m', m' < m ∧ W (i + 1) m' H') ∧ ∀ x H', (Itr 0 c).yld i H x H' → gName 4 x (wipe σ [4]) H' fun σ2 H2 => wipe σ2 [4] = wipe σ [4] ∧ tYes σ2 H2 fun b H3 =>
        if b = true then (tCall (spValue K j) [] C8.E0 (tCons (tVar 0) (tCons (tOp (rI0 fun i j => .int (i - j)) (tVar 1) (tC (.int 1))) (tCons (tVar 2) tNil)))) σ2 H3 fun y H4 => ∃ acc, H4 D = some (.lst acc) ∧ acc.length < sizeLine ∧ Nx (upd H4 D (.lst (acc ++ [y]))) else Nx H3) := by
  intro D hD
  have nD := hp.ne hD
  have line := sizeLine_eq
  refine lc_range (lo := 0) (n := c) (fun i H' => ∃ vs ds, Row K p D m H i H' vs ds) ⟨[], [], ⟨OkAll.nil, rfl, rfl, .nil, upd_same, But.new hD, x, y, hp.new hD⟩⟩ (fun i H' hi hW => ?_) (fun H' hW => ?_)
  · obtain ⟨vs, ds, R⟩ := hW
    obtain ⟨x1, y1, hp1⟩ := R.go.2
    refine ⟨?_, ?_⟩
    · show ((wipe σ [4]).set 4 (some (.int (0 + (i : Int))))).set 4 none = wipe σ [4]
      rw [List.set_set]
      show ((σ.set 4 none).set 4 none) = σ.set 4 none
      rw [List.set_set]
    · unfold tYes; dsimp only
      rw [if_pos rfl]
      refine ⟨_, (by rw [List.getElem?_set_ne (by decide)]; exact s0), _, (by rw [List.getElem?_set_ne (by decide)]; exact s1), _, _, rfl, rfl, _, (by rw [List.getElem?_set_ne (by decide)]; exact s2), p, x1, y1, m, ?_, hm, hp1, fun v d H2 h4 h5 h6 h7 => ?_⟩
      · show [V.ref p, V.int (((m + 1 : Nat) : Int) - 1), V.bl true] = _
        rw [show ((m + 1 : Nat) : Int) - 1 = (m : Int) by omega]
      · have hat2 : H2 D = some (.lst vs) := h7.1 _ _ nD R.at_
        have hlen := R.dt.len
        have hln := R.ln
        refine ⟨vs, hat2, by omega, vs ++ [v], ds ++ [d], ⟨?_, noLs_app R.nl (by simp [noLs, h5]), by rw [List.length_append, R.ln]; rfl, ?_, upd_same, ?_⟩⟩
        · exact (R.ok.app (OkAll.cons (b := 0) h4 .nil)).mono (Nat.le_refl _) (by rw [Nat.succ_mul]; omega)
        · rw [hid_upd]
          refine (DpAll.mono (hid2_but h7.1) R.dt).app (.cons ?_ .nil)
          rw [← hid_hid]
          exact dp_hid (ys := vs) (by rw [hid_ne nD]; exact hat2) h5 h6
        · refine ⟨fun b o nb hb => ?_, ?_⟩
          · rw [upd_ne (ne_of_none hb hD)]
            exact h7.1 b o nb (R.go.1 b o nb hb)
          · obtain ⟨x2, y2, hp2⟩ := h7.2
            exact ⟨x2, y2, by rw [upd_ne nD.symm]; exact hp2.at_, hp2.x0, hp2.y0, hp2.y1⟩
  · obtain ⟨vs, ds, R⟩ := hW
    exact q D H' vs ds nD R
abbrev sLValue : Stmt := topS 17
abbrev NLValue : List Str := ["_law_pot_here", "_law_deep_here", "_law_refs", "_law_way", "_law_k"]
theorem scLValue : FnScope NLValue ["_law_pot_here", "_law_deep_here", "_law_refs"] (fnScope sLValue) := ⟨rfl, rfl, rfl, by decide +kernel, rfl, by decide +kernel, by decide +kernel⟩
theorem c_value (T : Tp mg) (c_LTake : Cal P w K mg base 1 "_law_take" spTake []) (c_LRef : Cal P w K mg base 2 "_law_ref" spRef []) (c_LNumber : Cal P w K mg base 2 "_law_number" spNumber []) {f : Addr} {fd : FuncData} (D : Def K mg "_law_value" sLValue f fd)
    (b : Binds K fd ["_law_pot_here", "_law_deep_here", "_law_refs"] []) : ∀ n : Nat, Cal P w K mg base (3 + n) "_law_value" (spValue K n) []
  | 0 => cal_no _ (fun vs H Q E ⟨p, x, y, m, _, h, _⟩ => absurd h (Nat.not_lt_zero _)) D b
  | n + 1 => by
    have c_LValue := c_value T c_LTake c_LRef c_LNumber D b n
    refine cal0 D b .nil scLValue (fun vs H Q E h => ?_) (fun cdv A outer s H vs Q E hr h => ?_)
    · obtain ⟨p, x, y, m, rfl, _⟩ := h
      rfl
    · obtain ⟨p, x, y, m, rfl, hm, hp, q⟩ := h
      have nd := scLValue.nd
      have hr := (show Room (3 + n) _ from hr)
      refine ⟨_, (pss_cons (ps_set (i := 3) nd rfl (.inl rfl) (pe_c c_LTake hr (by omega) (by rfl) (pa_cons (pv 0) (pa_cons pe_int pa_nil))))
    (pss_cons (ps_if (PW.pt (pw_and (pt_cmpR op_gt (pv 3) pe_int (nomark _)) (pw_and1 (pt_cmpR op_gt (pv 1) pe_int (nomark _)))))
      (pss_one (ps_ret (pe_callTy call_tuple_of (by rfl) T.n_tuple (by decide +kernel) (pa_cons (pe_lc (own := [("_law_k", 4)]) (g := gName 4) (by rfl) nd (pi_range1 (by rfl) T.n_range (pa_cons (pe_c c_LTake hr (by omega) (by rfl) (pa_cons (pv 0) (pa_cons pe_int pa_nil))) pa_nil)) (blkOk_by (own := [("_law_k", 4)]) (N := NLValue) (sc := fnScope sLValue) (by decide +kernel)) (fun _ _ _ _ _ => pg_name (i := 4) nd rfl (Or.inl rfl)) (fun _ _ _ _ _ => pts_nil) (fun _ _ _ _ _ => (pe_c c_LValue hr (Nat.le_refl _) (by rfl) (pa_cons (pv 0) (pa_cons (pe_op op_sub (pv 1) pe_int) (pa_cons (pv 2) pa_nil)))))) pa_nil))))
      pss_nil)
    (pss_cons (ps_if (PW.pt (pw_and (pt_cmpR op_eq (pv 3) pe_int (nomark _)) (pw_and1 (pt_val (pv 2)))))
      (pss_one (ps_ret (pe_c c_LRef hr (by omega) (by rfl) (pa_cons (pv 0) pa_nil))))
      pss_nil)
    (pss_cons (ps_if (pt_cmpR op_eq (pv 3) pe_int (nomark _))
      (pss_one (ps_ret (pe_cmpR op_eq (pe_c c_LTake hr (by omega) (by rfl) (pa_cons (pv 0) (pa_cons pe_int pa_nil))) pe_int (nomark _))))
      pss_nil)
    (pss_one (ps_ret (pe_c c_LNumber hr (by omega) (by rfl) (pa_cons (pv 0) pa_nil)))))))), ?_⟩
      have hge := wv_ge m
      refine ⟨_, rfl, p, x, y, 7, rfl, hp, by decide, by decide, fun r x1 y1 r0 r1 hp1 => ?_⟩
      have g1 := going_pot (But.refl p H) hp1
      refine ⟨_, rfl, _, _, rfl, rfl, _, rfl, ite2 (fun e => ⟨_, rfl, _, _, rfl, rfl, _, rfl, ite2 (fun e2 => ?_) (fun e2 => ?_)⟩) (fun e => iteF ?_)⟩
      · have e' : (0 : Int) < m := of_decide_eq_true e2
        obtain ⟨m', rfl⟩ : ∃ m', m = m' + 1 := ⟨m - 1, by omega⟩
        refine ⟨_, rfl, p, x1, y1, 4, rfl, hp1, by decide, by decide, fun c x2 y2 c0 c1 hp2 => ?_⟩
        have g2 := g1.trans (going_pot (But.refl p _) hp2)
        refine ⟨c, rfl, by omega, by omega, ?_⟩
        refine lc_value (j := n) (c := c.toNat) (σ := [some (.ref p), some (.int ((m' + 1 : Nat) : Int)), some (.bl true), some (.int r), none]) (by omega) (by omega) hp2 rfl rfl rfl rfl (fun Dl H4 vs ds nD R => ?_)
        refine ⟨Dl, vs, rfl, .inl ⟨SqL.of R.at_, fun t2 ht2 => ?_⟩⟩
        have gg : Going p H4 (upd H4 t2 (.tup vs)) := ⟨But.new ht2, let ⟨a, b, h⟩ := R.go.2; ⟨a, b, h.new ht2⟩⟩
        have dt : DhAll K p H4 vs ds := DpAll.mono (hid_same hid_in) R.dt
        refine q _ (.tuple ds) _ (((Ok.tup R.ok).mono (Nat.le_refl _) ?_)) (by simpa [noL] using R.nl) (Dp.newT ht2 (R.go.ne ht2) dt) (g2.trans (R.go.trans gg))
        show c.toNat * (wv m' + 1) ≤ 3 * (wv m' + 1)
        exact Nat.mul_le_mul_right _ (by omega)
      all_goals
        refine ⟨_, rfl, rfl, _, rfl, ite2 (fun e3 => ⟨_, rfl, true, rfl, iteT ?_⟩) (fun e3 => iteF ?_)⟩
        · exact ⟨_, rfl, p, x1, y1, rfl, hp1, fun z H2 hz g2 => q _ (.str z) _ (hz.mono (Nat.zero_le _) (by omega)) rfl (.str z) (g1.trans g2)⟩
        · refine ⟨_, rfl, rfl, _, rfl, ite2 (fun e4 => ?_) (fun e4 => ?_)⟩
          · exact ⟨_, rfl, p, x1, y1, 2, rfl, hp1, by decide, by decide, fun ra x2 y2 ra0 ra1 hp2 => ⟨rfl, q _ (.bool _) _ (.bool _) rfl (.bl _) (g1.trans (going_pot (But.refl p _) hp2))⟩⟩
          · exact ⟨_, rfl, p, x1, y1, rfl, hp1, fun i H2 i0 i1 g2 => q _ (.int i) _ (.num (by omega) (by omega) (by omega)) rfl (.int i) (g1.trans g2)⟩
end
end K13
set_option Elab.async false
set_option linter.all false
set_option maxRecDepth 100000
set_option maxHeartbeats 4000000
namespace K13
open PySem PySem.Spec PyProof.Rows L2
open C8 (Cal Def cal0 pe_c fnBody fnScope fnArgs)
/-- no list in it, or no dict in it -/
def Fl (k : Bool) (d : PyData) : Prop := if k = true then nl d = true else d.hasDict = false
def Cl (d : PyData) : Prop := ∃ k, Fl k d
theorem Cl.nd {d : PyData} (h : Cl d) (h2 : d.hasDict = true) : nl d = true := by
  obtain ⟨k, h⟩ := h
  cases k with
  | true => exact h
  | false =>
    have : d.hasDict = false := h
    rw [this] at h2
    cases h2
theorem nls_of : ∀ {ds : List PyData}, (∀ d ∈ ds, nl d = true) → nls ds = true
  | [], _ => rfl
  | x :: xs, h => by
    simp only [nls, h x List.mem_cons_self, nls_of fun d hd => h d (List.mem_cons_of_mem _ hd), Bool.and_self]
theorem hds_of : ∀ {ds : List PyData}, (∀ d ∈ ds, d.hasDict = false) → PyData.hasDictAll ds = false
  | [], _ => by simp [PyData.hasDictAll]
  | x :: xs, h => by
    simp only [PyData.hasDictAll, h x List.mem_cons_self, hds_of fun d hd => h d (List.mem_cons_of_mem _ hd), Bool.or_self]
theorem fl_tup {k : Bool} {ds : List PyData} (h : ∀ d ∈ ds, Fl k d) : Fl k (.tuple ds) := by
  cases k with
  | true => show nl (.tuple ds) = true; rw [nl]; exact nls_of h
  | false => show (PyData.tuple ds).hasDict = false; rw [PyData.hasDict]; exact hds_of h
theorem fl_lst {ds : List PyData} (h : ∀ d ∈ ds, Fl false d) : Fl false (.list ds) := by
  show (PyData.list ds).hasDict = false
  rw [PyData.hasDict]
  exact hds_of h
theorem fl_noL {k : Bool} {d : PyData} (h : noL d = true) : Fl k d := by
  have := nl_noL h
  cases k with
  | true => exact this.1
  | false => exact this.2
section
variable {K : PySem.W.Frag} {p : Addr} {H0 : Hp} {kn : List (V × PyData)} {σ : L2.St}
structure In (K : PySem.W.Frag) (p : Addr) (H0 : Hp) (kn : List (V × PyData)) (H : Hp) : Prop where
  kn : ∀ v d, (v, d) ∈ kn → Qh K p H v d
  go : Going p H0 H
theorem In.on {H H' : Hp} (I : In K p H0 kn H) (g : Going p H H') : In K p H0 kn H' := ⟨fun v d h => (I.kn v d h).but g.1, I.go.trans g⟩
theorem In.new {H : Hp} {q : Addr} {o : HO} (I : In K p H0 kn H) (hq : H q = none) : In K p H0 kn (upd H q o) := ⟨fun v d h => (I.kn v d h).but (But.new hq), I.go.new hq⟩
def Item (K : PySem.W.Frag) (p : Addr) (H0 : Hp) (kn : List (V × PyData)) (σ : L2.St) (k : Bool) (a W : Nat) (e : TE) : Prop :=
  ∀ H Q, In K p H0 kn H → (∀ v d H', Ok a W d → Fl k d → Qh K p H' v d → In K p H0 kn H' → But p H H' → Q v H') → e σ H Q
def Items (K : PySem.W.Frag) (p : Addr) (H0 : Hp) (kn : List (V × PyData)) (σ : L2.St) (k : Bool) (a W N : Nat) (es : TA) : Prop :=
  ∀ H Q, In K p H0 kn H → (∀ vs ds H', OkAll a W ds → (∀ d ∈ ds, Fl k d) → ds.length = N → QhAll K p H' vs ds → In K p H0 kn H' → But p H H' → Q vs H') → es σ H Q
def ItemsC (K : PySem.W.Frag) (p : Addr) (H0 : Hp) (kn : List (V × PyData)) (σ : L2.St) (a W N : Nat) (es : TA) : Prop :=
  ∀ H Q, In K p H0 kn H → (∀ vs ds H', OkAll a W ds → (∀ d ∈ ds, Cl d) → ds.length = N → QhAll K p H' vs ds → In K p H0 kn H' → But p H H' → Q vs H') → es σ H Q
theorem its_nil {k : Bool} {a : Nat} : Items K p H0 kn σ k a 0 0 tNil := fun H Q I q => q [] [] H .nil (fun _ h => nomatch h) rfl .nil I (But.refl p H)
theorem its_cons {k : Bool} {a W W2 N : Nat} {e : TE} {es : TA} (h1 : Item K p H0 kn σ k a W e) (h2 : Items K p H0 kn σ k a W2 N es) : Items K p H0 kn σ k a (W + 1 + W2) (N + 1) (tCons e es) := fun H Q I q =>
  h1 H _ I fun v d H1 ok f D I1 b1 => h2 H1 _ I1 fun vs ds H2 oks fs hl Ds I2 b2 => q (v :: vs) (d :: ds) H2 (OkAll.cons ok oks) (fun x hx => by
    rcases List.mem_cons.mp hx with rfl | hx
    · exact f
    · exact fs x hx) (by rw [List.length_cons, hl]) (.cons (D.but b2) Ds) I2 (b1.trans b2)
theorem isc_nil {a : Nat} : ItemsC K p H0 kn σ a 0 0 tNil := fun H Q I q => q [] [] H .nil (fun _ h => nomatch h) rfl .nil I (But.refl p H)
theorem isc_cons {k : Bool} {a W W2 N : Nat} {e : TE} {es : TA} (h1 : Item K p H0 kn σ k a W e) (h2 : ItemsC K p H0 kn σ a W2 N es) : ItemsC K p H0 kn σ a (W + 1 + W2) (N + 1) (tCons e es) := fun H Q I q =>
  h1 H _ I fun v d H1 ok f D I1 b1 => h2 H1 _ I1 fun vs ds H2 oks fs hl Ds I2 b2 => q (v :: vs) (d :: ds) H2 (OkAll.cons ok oks) (fun x hx => by
    rcases List.mem_cons.mp hx with rfl | hx
    · exact ⟨k, f⟩
    · exact fs x hx) (by rw [List.length_cons, hl]) (.cons (D.but b2) Ds) I2 (b1.trans b2)
theorem it_mono {k : Bool} {a W a' W' : Nat} {e : TE} (h : Item K p H0 kn σ k a W e) (ha : a ≤ a') (hW : W ≤ W') : Item K p H0 kn σ k a' W' e := fun H Q I q => h H Q I fun v d H1 ok f D I1 b1 => q v d H1 (ok.mono ha hW) f D I1 b1
theorem it_tup {k : Bool} {a W N : Nat} {es : TA} (h : Items K p H0 kn σ k a W N es) (hN : N ≤ 1000) : Item K p H0 kn σ k (a + 1) W (tTup es) := fun H Q I q =>
  h H _ I fun vs ds H1 ok f hl D I1 b1 => ⟨by have := D.len; rw [sizeLine_eq]; omega, fun t ht => q _ (.tuple ds) _ (Ok.tup ok) (fl_tup f) (Dq.newT ht (I1.go.ne ht) D) (I1.new ht) (b1.trans (But.new ht))⟩
theorem it_lst {a W N : Nat} {es : TA} (h : Items K p H0 kn σ false a W N es) (hN : N ≤ 1000) : Item K p H0 kn σ false (a + 1) W (tLst es) := fun H Q I q =>
  h H _ I fun vs ds H1 ok f hl D I1 b1 => ⟨by have := D.len; rw [sizeLine_eq]; omega, fun t ht => q _ (.list ds) _ (Ok.lst ok) (fl_lst f) (Dq.newL ht (I1.go.ne ht) D) (I1.new ht) (b1.trans (But.new ht))⟩
theorem it_dict {a : Nat} (ha : 1 ≤ a) : Item K p H0 kn σ true a 0 tDNewK := fun H Q I q => fun t ht => q _ (.dict []) _ (Ok.dict0 ha) rfl (Dq.new0 ht (I.go.ne ht)) (I.new ht) (But.new ht)
theorem it_c {k : Bool} {a W : Nat} {v : V} {d : PyData} (hd : ∀ H, Dq K H v d) (ok : Ok a W d) (f : Fl k d) : Item K p H0 kn σ k a W (tC v) := fun H Q I q => q v d H ok f (hd _) I (But.refl p H)
theorem it_str {k : Bool} {a : Nat} {z : Str} (h : asc z = true) (hl : z.length ≤ 60) : Item K p H0 kn σ k a 60 (tC (.str z)) := it_c (fun _ => .str z) (.str hl (asc_of h)) (fl_noL rfl)
theorem it_var {k : Bool} {a W i : Nat} {v : V} {d : PyData} (hs : σ[i]? = some (some v)) (hk : (v, d) ∈ kn) (ok : Ok a W d) (f : Fl k d) : Item K p H0 kn σ k a W (tVar i) := fun H Q I q => ⟨v, hs, q v d H ok f (I.kn v d hk) I (But.refl p H)⟩
theorem it_int {k : Bool} {a i : Nat} {m : Int} (hs : σ[i]? = some (some (.int m))) (h0 : 0 ≤ m) (h1 : m < 1000000000000) : Item K p H0 kn σ k a 60 (tVar i) := fun H Q I q => ⟨_, hs, q _ (.int m) H (.num (by omega) (by omega) (by omega)) (fl_noL rfl) (.int m) I (But.refl p H)⟩
theorem it_sub {k : Bool} {a i : Nat} {m : Int} (hs : σ[i]? = some (some (.int m))) (h0 : 0 ≤ m) (h1 : m < 1000000000000) : Item K p H0 kn σ k a 60 (tOp (rI0 fun i j => .int (i - j)) (tUn (rU fun i => .int (-i)) (tC (.int 1))) (tVar i)) := fun H Q I q =>
  ⟨_, rfl, _, hs, _, _, rfl, rfl, q _ (.int _) H (.num (by omega) (by omega) (by omega)) (fl_noL rfl) (.int _) I (But.refl p H)⟩
theorem it_add {k : Bool} {a i : Nat} {m : Int} (hs : σ[i]? = some (some (.int m))) (h0 : 0 ≤ m) (h1 : m < 1000000000000) : Item K p H0 kn σ k a 60 (tOp (rI0 fun i j => .int (i + j)) (tOp (rI CPow fun i j => .int (i ^ j.toNat)) (tC (.int 10)) (tC (.int 12))) (tVar i)) := fun H Q I q => by
  refine ⟨_, _, rfl, rfl, (by show (0 : Int) ≤ 12 ∧ _; decide), _, hs, _, _, rfl, rfl, ?_⟩
  have e12 : (10 : Int) ^ (12 : Int).toNat = 1000000000000 := by decide
  rw [e12]
  exact q _ (.int _) H (.num (by omega) (by omega) (by omega)) (fl_noL rfl) (.int _) I (But.refl p H)
abbrev rAddS : R2 := fun x y H Q => ∃ i j, x = .str i ∧ y = .str j ∧ i.length + j.length ≤ sizeLine ∧ Q (.str (i ++ j)) H
abbrev rStrI : List V → Hp → VK → Prop := fun xs H Q => ∃ i : Int, xs = [.int i] ∧ i.natAbs.log2 < 1920 ∧ Q (.str (toString i)) H
theorem log_ok {m : Int} (h0 : 0 ≤ m) (h1 : m < 1000000000000) : m.natAbs.log2 < 1920 := by
  have hl : m.natAbs < 2 ^ 44 := by
    have : (2 : Nat) ^ 44 = 17592186044416 := by decide
    omega
  have := PySem.Flt.log2_lt_of (by decide : 0 < 44) hl
  omega
theorem len_ok {m : Int} (h0 : 0 ≤ m) (h1 : m < 1000000000000) : (Str.ofString (toString m)).length ≤ 12 := by
  have e12 : (10 : Int) ^ 12 = 1000000000000 := by decide
  exact PyProof.Rows.toString_length_le h0 (k := 12) (by decide) (by omega)
theorem it_si {k : Bool} {a i : Nat} {m : Int} (hs : σ[i]? = some (some (.int m))) (h0 : 0 ≤ m) (h1 : m < 1000000000000) : Item K p H0 kn σ k a 60 (tCB rStrI (tCons (tVar i) tNil)) := fun H Q I q =>
  ⟨_, hs, m, rfl, log_ok h0 h1, q _ (.str _) H (.str (by have := len_ok h0 h1; omega) (int_asc m)) (fl_noL rfl) (.str _) I (But.refl p H)⟩
theorem it_cs {k : Bool} {a i : Nat} {m : Int} {z : Str} (hz : asc z = true) (hl : z.length ≤ 40) (hs : σ[i]? = some (some (.int m))) (h0 : 0 ≤ m) (h1 : m < 1000000000000) : Item K p H0 kn σ k a 60 (tOp rAddS (tC (.str z)) (tCB rStrI (tCons (tVar i) tNil))) := fun H Q I q => by
  have h2 := len_ok h0 h1
  exact ⟨_, hs, m, rfl, log_ok h0 h1, _, _, rfl, rfl, by rw [sizeLine_eq]; omega, q _ (.str _) H (cat_ok (by omega) (asc_of hz) (int_asc m)) (fl_noL rfl) (.str _) I (But.refl p H)⟩
theorem dq_rep {H : Hp} {m : Int} : ∀ n : Nat, DqAll K H (List.replicate n (V.int m)) (List.replicate n (PyData.int m))
  | 0 => .nil
  | n + 1 => .cons (.int m) (dq_rep n)
theorem ok_rep {m : Int} (h0 : 0 ≤ m) (h1 : m < 1000000000000) : ∀ n : Nat, OkAll 0 (n * 51) (List.replicate n (PyData.int m))
  | 0 => .nil
  | n + 1 => (OkAll.cons (a := 50) (.num (by omega) (by omega) (by omega)) (ok_rep h0 h1 n)).mono (Nat.le_refl _) (by omega)
theorem flat_rep {v : V} : ∀ n : Nat, (List.replicate n [v]).flatten = List.replicate n v
  | 0 => rfl
  | n + 1 => by rw [List.replicate_succ, List.flatten_cons, flat_rep n, List.replicate_succ]; rfl
theorem it_rep {k : Bool} {i : Nat} {m : Int} (s0 : σ[0]? = some (some (.ref p))) (hs : σ[i]? = some (some (.int m))) (h0 : 0 ≤ m) (h1 : m < 1000000000000) :
    Item K p H0 kn σ k 1 3300 (tOp (rRepT K) (tTup (tCons (tVar i) tNil)) (tOp (rI0 fun i j => .int (i + j)) (tC (.int 58)) (tCall spTake [] C8.E0 (tCons (tVar 0) (tCons (tC (.int 5)) tNil))))) := fun H Q I q => by
  refine ⟨_, hs, (by show 1 ≤ sizeLine; decide), fun t ht => ?_⟩
  have I1 := I.new (o := .tup [.int m]) ht
  have nt := I.go.ne ht
  obtain ⟨x, y, hp⟩ := I1.go.2
  refine ⟨_, s0, p, x, y, 5, rfl, hp, by decide, by decide, fun r x' y' r0 r1 hp' => ?_⟩
  have gp := going_pot (But.refl p _) hp'
  have I2 := I1.on gp
  refine ⟨_, _, rfl, rfl, t, 58 + r, [.int m], rfl, rfl, SqT.of (gp.1 _ _ nt upd_same), by simp, by omega, by omega, (by show 1 ≤ 1000; decide), fun u hu => ?_⟩
  rw [flat_rep]
  refine q _ (.tuple (List.replicate (58 + r).toNat (.int m))) _ (((Ok.tup (ok_rep h0 h1 _))).mono (by decide) (by omega)) (fl_tup fun d hd => ?_) (Dq.newT hu (I2.go.ne hu) (dq_rep _)) (I2.new hu) (((But.new ht).trans gp.1).trans (But.new hu))
  rw [List.eq_of_mem_replicate hd]
  exact fl_noL rfl
structure Some_ (K : PySem.W.Frag) (p : Addr) (H0 : Hp) (kn : List (V × PyData)) (l : Addr) (H : Hp) (a m N : Nat) (vs : List V) (ds : List PyData) : Prop where
  at_ : H l = some (.lst vs)
  ne : l ≠ p
  dat : QhAll K p H vs ds
  ok : OkAll a m ds
  cl : ∀ d ∈ ds, Cl d
  len : ds.length = N
  inn : In K p H0 kn H
theorem start_ {a W N : Nat} {es : TA} {H : Hp} {Q : VK} (I : In K p H0 kn H) (h : ItemsC K p H0 kn σ a W N es) (hN : N ≤ 1000) (q : ∀ l vs ds H', Some_ K p H0 kn l H' a W N vs ds → Q (.ref l) H') : tLst es σ H Q :=
  h H _ I fun vs ds H1 ok cl hl D I1 b1 => ⟨by have := D.len; rw [sizeLine_eq]; omega, fun l hl2 => q l vs ds _ ⟨upd_same, I1.go.ne hl2, D.but (But.new hl2), ok, cl, hl, I1.new hl2⟩⟩
theorem grow {a i W N m0 N0 : Nat} {es : TA} {H : Hp} {Q : VK} {l : Addr} {vs : List V} {ds : List PyData} (S : Some_ K p H0 kn l H a m0 N0 vs ds) (hs : σ[i]? = some (some (.ref l))) (h : ItemsC K p H0 kn σ a W N es) (hN : N0 + N ≤ 1000)
    (q : ∀ l vs ds H', Some_ K p H0 kn l H' a (m0 + W) (N0 + N) vs ds → Q (.ref l) H') : tOp rCat (tVar i) (tLst es) σ H Q := by
  refine ⟨_, hs, h H _ S.inn fun us es H1 ok cl hl D I1 b1 => ⟨by have := D.len; rw [sizeLine_eq]; omega, fun l2 hl2 => ?_⟩⟩
  have b2 := But.new (p := p) (o := .lst us) hl2
  have I2 := I1.new (o := .lst us) hl2
  refine ⟨l, l2, vs, us, rfl, rfl, b2 _ _ S.ne (b1 _ _ S.ne S.at_), upd_same, ?_, fun l3 hl3 => ?_⟩
  · have := D.len
    have := S.dat.len
    have := S.len
    rw [sizeLine_eq]
    omega
  · have b3 := But.new (p := p) (o := .lst (vs ++ us)) hl3
    exact q l3 _ (ds ++ es) _ ⟨upd_same, I2.go.ne hl3, (S.dat.but ((b1.trans b2).trans b3)).app (D.but (b2.trans b3)), S.ok.app ok, (fun d hd => by
      rcases List.mem_append.mp hd with h | h
      · exact S.cl d h
      · exact cl d h), by rw [List.length_append, S.len, hl], I2.new hl3⟩
theorem OkAll.at {n m : Nat} : ∀ {ds : List PyData} {i : Nat} {d : PyData}, OkAll n m ds → ds[i]? = some d → Ok n m d
  | [], i, d, _, e => by simp at e
  | d :: ds, i, d', h, e => by
    have hd : max d.depth (PyData.depthAll ds) ≤ n := by simpa only [PyData.depthAll] using h.dep
    have hw : d.weight + 1 + PyData.weightAll ds ≤ m := by simpa only [PyData.weightAll] using h.wt
    have hl : d.leavesShort 14 = true ∧ PyData.leavesShortAll 14 ds = true := by simpa [PyData.leavesShortAll] using h.ls
    have hv : d.showable = true ∧ PyData.showableAll ds = true := by simpa [PyData.showableAll] using h.shw
    cases i with
    | zero => simp at e; subst e; exact ⟨Nat.le_trans (Nat.le_max_left _ _) hd, by omega, hl.1, hv.1⟩
    | succ i => exact OkAll.at (i := i) (m := m) ⟨Nat.le_trans (Nat.le_max_right _ _) hd, by omega, hl.2, hv.2⟩ (by simpa using e)
theorem its_at {a W : Nat} {ds : List PyData} {vs : List V} {H : Hp} {r : Int} (ok : OkAll a W ds) (D : QhAll K p H vs ds) (r0 : 0 ≤ r) (r1 : r < (vs.length : Nat)) : ∃ v d, atI vs r = some v ∧ Ok a W d ∧ Qh K p H v d ∧ d ∈ ds := by
  obtain ⟨v, hv, e⟩ := pick_at r0 r1
  obtain ⟨d, hd, Dv⟩ := dq_at D hv
  exact ⟨v, d, atI_pick e hv, ok.at hd, Dv, List.mem_of_getElem? hd⟩
theorem it_pick {k : Bool} {a W N : Nat} {es : TA} (h0 : σ[0]? = some (some (.ref p))) (h : Items K p H0 kn σ k a W N es) (hN : N ≤ 1000) (h1 : 1 ≤ N) : Item K p H0 kn σ k a W (tOp (rIxL K) (tLst es) (tCall spTake [] C8.E0 (tCons (tVar 0) (tCons (tC (.int (N : Nat))) tNil)))) := fun H Q I q => by
  refine h H _ I fun vs ds H1 ok f hl D I1 b1 => ⟨by have := D.len; rw [sizeLine_eq]; omega, fun l hl2 => ?_⟩
  have I2 := I1.new (o := .lst vs) hl2
  have nl := I1.go.ne hl2
  have hlen := D.len
  obtain ⟨x, y, hp⟩ := I2.go.2
  refine ⟨_, h0, p, x, y, (N : Int), rfl, hp, by omega, ?_, fun r x' y' r0 r1 hp' => ?_⟩
  · rw [Int.natAbs_natCast]
    exact Nat.lt_of_le_of_lt hN (by decide +kernel)
  · have b2 : But p (upd H1 l (.lst vs)) _ := (But.refl p (upd H1 l (.lst vs))).pot (o := .lst [.int x', .int y'])
    have I3 := I2.on (going_pot (But.refl p _) hp')
    obtain ⟨v, d, hat, okd, Dv, hm⟩ := its_at ok D r0 (show r < ((vs.length : Nat) : Int) by omega)
    have b3 := (But.new (p := p) (o := .lst vs) hl2).trans b2
    exact ⟨l, _, r, v, rfl, rfl, SqL.of (b2 _ _ nl upd_same), hat, q v d _ okd (f d hm) (Dv.but b3) I3 (b1.trans b3)⟩
end
end K13
set_option Elab.async false
set_option linter.all false
set_option maxRecDepth 100000
set_option maxHeartbeats 4000000
namespace K13
open PySem PySem.Spec PyProof.Rows L2
open C8 (Cal Def cal0 pe_c fnBody fnScope fnArgs)
section
variable {P : Program} {w : World} {K : PySem.W.Frag} {mg : Str → Option Value} {base : Heap}
abbrev sLDeep : Stmt := topS 22
abbrev NLDeep : List Str := ["_law_pot_here", "_law_value_here", "_law_turn"]
theorem scLDeep : FnScope NLDeep ["_law_pot_here", "_law_value_here"] (fnScope sLDeep) := ⟨rfl, rfl, rfl, by decide +kernel, rfl, by decide +kernel, by decide +kernel⟩
def spDeep (K : PySem.W.Frag) : Sp := fun vs H Q _ => ∃ (p : Addr) (x y : Int) (v : V) (d : PyData), vs = [.ref p, v] ∧ Pot H p x y ∧ Dh K p H v d ∧ noL d = true ∧ Ok 0 61 d ∧ ∀ v d H', Ok 8 100 d → noL d = true → Dh K p H' v d → Going p H H' → Q v H'
theorem c_deep (T : Tp mg) (c_LTake : Cal P w K mg base 1 "_law_take" spTake []) {f : Addr} {fd : FuncData} (D : Def K mg "_law_deep" sLDeep f fd) (b : Binds K fd ["_law_pot_here", "_law_value_here"] []) : Cal P w K mg base 2 "_law_deep" (spDeep K) [] := by
  refine cal0 D b .nil scLDeep (fun vs H Q E h => ?_) (fun cdv A outer s H vs Q E hr h => ?_)
  · obtain ⟨p, x, y, v, d, rfl, _⟩ := h
    rfl
  · obtain ⟨p, x, y, v, d, rfl, hp, hd, hn, ho, q⟩ := h
    have nd := scLDeep.nd
    refine ⟨_, (pss_cons (ps_for PassesOwn.never rfl (pi_range1 (by rfl) T.n_range (pa_cons (pe_c c_LTake hr (by decide) (by rfl) (pa_cons (pv 0) (pa_cons pe_int pa_nil))) pa_nil)) (pg_name (i := 2) nd rfl (.inl rfl))
      (pss_one (ps_set (i := 1) nd rfl (.inl rfl) (pe_ix ix_list (pe_lst (pa_cons (pe_tup (pa_cons (pv 1) pa_nil)) (pa_cons (pe_tup (pa_cons (pv 1) (pa_cons pe_bl pa_nil))) pa_nil))) (pe_c c_LTake hr (by decide) (by rfl) (pa_cons (pv 0) (pa_cons pe_int pa_nil))) (fun _ _ => rfl)))))
    (pss_one (ps_ret (pv 1)))), ?_⟩
    refine ⟨_, rfl, p, x, y, 8, rfl, hp, by decide, by decide, fun r x1 y1 r0 r1 hp1 => ?_⟩
    have g1 := going_pot (But.refl p H) hp1
    refine ⟨r, rfl, by omega, by omega, ?_⟩
    refine for_range (lo := 0) (n := r.toNat) (fun i σ H' => ∃ v d o, σ = [some (.ref p), some v, o] ∧ Ok i (61 + 2 * i) d ∧ noL d = true ∧ Dh K p H' v d ∧ Going p H H') ⟨v, d, _, rfl, ho, hn, hd.but g1.1, g1⟩ (fun i σ H' hi hW => ?_) (fun σ H' hW => ?_)
    · obtain ⟨v, d, o, rfl, ok, nL, Dd, g⟩ := hW
      refine ⟨_, rfl, (by show 1 ≤ sizeLine; decide), fun t1 ht1 => ⟨_, rfl, (by show 2 ≤ sizeLine; decide), fun t2 ht2 => ⟨(by show 2 ≤ sizeLine; decide), fun l hl => ?_⟩⟩⟩
      have gA := g.new (o := .tup [v]) ht1
      have gB := gA.new (o := .tup [v, .bl true]) ht2
      have gC := gB.new (o := .lst [.ref t1, .ref t2]) hl
      have nl := gB.ne hl
      have D1 := Dp.newT (K := K) ht1 (g.ne ht1) (.cons Dd .nil)
      have D2 := Dp.newT (K := K) ht2 (gA.ne ht2) (.cons (Dd.but (But.new ht1)) (.cons (.bl true) .nil))
      have bC := But.new (p := p) (o := .lst [.ref t1, .ref t2]) hl
      have bB := (But.new (p := p) (o := .tup [v, .bl true]) ht2).trans bC
      obtain ⟨x3, y3, hp3⟩ := gC.2
      refine ⟨_, rfl, p, x3, y3, 2, rfl, hp3, by decide, by decide, fun rr x4 y4 rr0 rr1 hp4 => ?_⟩
      have gp := going_pot (But.refl p _) hp4
      have hL := SqL.of (K := K) (gp.1 _ _ nl upd_same)
      have hc : rr = 0 ∨ rr = 1 := by omega
      rcases hc with rfl | rfl
      · refine ⟨l, _, _, .ref t1, rfl, rfl, hL, atI_nat (j := 0) rfl, .ref t1, .tuple [d], _, rfl, ?_, by simp [noL, noLs, nL], (D1.but bB).but gp.1, gC.trans gp⟩
        exact (Ok.tup (OkAll.cons (b := 0) ok .nil)).mono (Nat.le_refl _) (by omega)
      · refine ⟨l, _, _, .ref t2, rfl, rfl, hL, atI_nat (j := 1) rfl, .ref t2, .tuple [d, .bool true], _, rfl, ?_, by simp [noL, noLs, nL], (D2.but bC).but gp.1, gC.trans gp⟩
        exact (Ok.tup (OkAll.cons ok (OkAll.cons (a := 0) (b := 0) (.bool true) .nil))).mono (Nat.le_refl _) (by omega)
    · obtain ⟨v, d, o, rfl, ok, nL, Dd, g⟩ := hW
      exact ⟨_, rfl, q v d H' (ok.mono (by omega) (by omega)) nL Dd g⟩
abbrev sLOther : Stmt := topS 21
abbrev NLOther : List Str := ["_law_pot_here", "_law_value_here", "_law_number_here", "_law_some", "_law_bad"]
theorem scLOther : FnScope NLOther ["_law_pot_here", "_law_value_here"] (fnScope sLOther) := ⟨rfl, rfl, rfl, by decide +kernel, rfl, by decide +kernel, by decide +kernel⟩
def spOther (K : PySem.W.Frag) : Sp := fun vs H Q _ => ∃ (p : Addr) (x y : Int) (v : V) (d : PyData), vs = [.ref p, v] ∧ Pot H p x y ∧ Dh K p H v d ∧ noL d = true ∧ Ok 3 2000 d ∧ ∀ v d H', Ok 8 80000 d → Cl d → Qh K p H' v d → Going p H H' → Q v H'
theorem c_other (T : Tp mg) (c_LTake : Cal P w K mg base 1 "_law_take" spTake []) (c_LNumber : Cal P w K mg base 2 "_law_number" spNumber []) {f : Addr} {fd : FuncData} (D : Def K mg "_law_other" sLOther f fd) (b : Binds K fd ["_law_pot_here", "_law_value_here"] []) : Cal P w K mg base 3 "_law_other" (spOther K) [] := by
  refine cal0 D b .nil scLOther (fun vs H Q E h => ?_) (fun cdv A outer s H vs Q E hr h => ?_)
  · obtain ⟨p, x, y, v, d, rfl, _⟩ := h
    rfl
  · obtain ⟨p, x, y, v, d, rfl, hp, hd, hn, ho, q⟩ := h
    have nd := scLOther.nd
    refine ⟨_, (pss_cons (ps_set (i := 2) nd rfl (.inl rfl) (pe_c c_LNumber hr (by decide) (by rfl) (pa_cons (pv 0) pa_nil)))
    (C8.pss_cut (ps_set (i := 3) nd rfl (.inl rfl) (pe_lst (pa_cons (pe_op op_sub (pe_un un_neg pe_int) (pv 2)) (pa_cons (pe_op op_add (pe_op op_pow pe_int pe_int) (pv 2)) (pa_cons pe_str (pa_cons (pe_op op_add_str pe_str (pe_callTy call_str_int (by rfl) T.n_str (by decide +kernel) (pa_cons (pv 2) pa_nil))) (pa_cons (pe_op op_add_str pe_str (pe_callTy call_str_int (by rfl) T.n_str (by decide +kernel) (pa_cons (pv 2) pa_nil))) (pa_cons pe_str (pa_cons pe_str (pa_cons pe_str pa_nil))))))))))
    (C8.pss_cut (ps_set (i := 3) nd rfl (.inl rfl) (pe_op op_cat (pv 3) (pe_lst (pa_cons pe_str (pa_cons pe_str pa_nil)))))
    (C8.pss_cut (ps_set (i := 3) nd rfl (.inl rfl) (pe_op op_cat (pv 3) (pe_lst (pa_cons (pe_callTy call_str_int (by rfl) T.n_str (by decide +kernel) (pa_cons (pv 2) pa_nil)) (pa_cons pe_str (pa_cons pe_str (pa_cons pe_non (pa_cons (pe_lst (pa_cons (pv 1) pa_nil)) (pa_cons pe_dnewK (pa_cons (pe_op op_repT (pe_tup (pa_cons (pv 2) pa_nil)) (pe_op op_add pe_int (pe_c c_LTake hr (by decide) (by rfl) (pa_cons (pv 0) (pa_cons pe_int pa_nil))))) (pa_cons pe_str (pa_cons pe_str pa_nil))))))))))))
    (C8.pss_cut (ps_set (i := 3) nd rfl (.inl rfl) (pe_op op_cat (pv 3) (pe_lst (pa_cons pe_str pa_nil))))
    (C8.pss_cut (ps_set (i := 4) nd rfl (.inl rfl) (pe_ix ix_list (pv 3) (pe_c c_LTake hr (by decide) (by rfl) (pa_cons (pv 0) (pa_cons (pe_callB call_len_seq (by rfl) T.n_len (by decide +kernel) (pa_cons (pv 3) pa_nil)) pa_nil))) (fun _ _ => rfl)))
    (pss_one (ps_ret (pe_ix ix_list (pe_lst (pa_cons (pv 4) (pa_cons (pe_tup (pa_cons (pv 4) pa_nil)) (pa_cons (pe_tup (pa_cons (pv 1) (pa_cons (pv 4) pa_nil))) (pa_cons (pe_tup (pa_cons (pe_tup (pa_cons (pv 1) (pa_cons (pe_tup (pa_cons (pv 4) (pa_cons (pv 1) pa_nil))) pa_nil))) (pa_cons (pv 1) pa_nil))) pa_nil))))) (pe_c c_LTake hr (by decide) (by rfl) (pa_cons (pv 0) (pa_cons pe_int pa_nil))) (fun _ _ => rfl)))))))))), ?_⟩
    refine ⟨_, rfl, p, x, y, rfl, hp, fun nm H1 n0 n1 g1 => ?_⟩
    have I0 : In K p H [(v, d)] H1 := ⟨fun v' d' h => by
      simp only [List.mem_cons, List.not_mem_nil, or_false, Prod.mk.injEq] at h
      obtain ⟨rfl, rfl⟩ := h
      exact Dp.q (hd.but g1.1), g1⟩
    have hk : (v, d) ∈ [(v, d)] := List.mem_cons_self
    have S : ∀ {σ : L2.St} (z : Str), asc z = true → z.length ≤ 60 → Item K p H [(v, d)] σ true 4 60 (tC (.str z)) := fun z h h2 => it_str h h2
    refine ⟨fun σ' H' => ∃ l vs ds m, σ' = [some (.ref p), some v, some (.int nm), some (.ref l), none] ∧ Some_ K p H [(v, d)] l H' 4 m 8 vs ds ∧ m ≤ 1000, ?_, ?_⟩
    · exact start_ I0 (isc_cons (k := true) (it_sub rfl n0 n1) (isc_cons (k := true) (it_add rfl n0 n1) (isc_cons (S "r" (by decide +kernel) (by decide)) (isc_cons (k := true) (it_cs (by decide +kernel) (by decide) rfl n0 n1) (isc_cons (k := true) (it_cs (by decide +kernel) (by decide) rfl n0 n1)
        (isc_cons (S "R1" (by decide +kernel) (by decide)) (isc_cons (S "r1 " (by decide +kernel) (by decide)) (isc_cons (S " r1" (by decide +kernel) (by decide)) isc_nil)))))))) (by decide) (fun l vs ds H' S => ⟨l, vs, ds, _, rfl, S, by decide⟩)
    · rintro σ2 H2 ⟨l, vs, ds, m, rfl, Sm, hm⟩
      refine ⟨fun σ' H' => ∃ l vs ds m, σ' = [some (.ref p), some v, some (.int nm), some (.ref l), none] ∧ Some_ K p H [(v, d)] l H' 4 m 10 vs ds ∧ m ≤ 1200, ?_, ?_⟩
      · exact grow Sm rfl (isc_cons (S "rr1" (by decide +kernel) (by decide)) (isc_cons (S "r1r" (by decide +kernel) (by decide)) isc_nil)) (by decide) (fun l vs ds H' S => ⟨l, vs, ds, _, rfl, S, by omega⟩)
      · rintro σ2 H2 ⟨l, vs, ds, m, rfl, Sm, hm⟩
        refine ⟨fun σ' H' => ∃ l vs ds m, σ' = [some (.ref p), some v, some (.int nm), some (.ref l), none] ∧ Some_ K p H [(v, d)] l H' 4 m 19 vs ds ∧ m ≤ 8000, ?_, ?_⟩
        · exact grow Sm rfl (isc_cons (k := true) (it_si rfl n0 n1) (isc_cons (S "yes" (by decide +kernel) (by decide)) (isc_cons (S "" (by decide +kernel) (by decide)) (isc_cons (k := true) (W := 0) (it_c (d := .none) (fun _ => .non) .none rfl) (isc_cons (it_lst (its_cons (it_var rfl hk ho (fl_noL hn)) its_nil) (by decide))
            (isc_cons (it_dict (by decide)) (isc_cons (k := true) (it_mono (it_rep rfl rfl n0 n1) (by decide) (Nat.le_refl _)) (isc_cons (S "r1_0" (by decide +kernel) (by decide)) (isc_cons (S "r+1" (by decide +kernel) (by decide)) isc_nil))))))))) (by decide) (fun l vs ds H' S => ⟨l, vs, ds, _, rfl, S, by omega⟩)
        · rintro σ2 H2 ⟨l, vs, ds, m, rfl, Sm, hm⟩
          refine ⟨fun σ' H' => ∃ l vs ds m, σ' = [some (.ref p), some v, some (.int nm), some (.ref l), none] ∧ Some_ K p H [(v, d)] l H' 4 m 20 vs ds ∧ m ≤ 8100, ?_, ?_⟩
          · exact grow Sm rfl (isc_cons (S "x1" (by decide +kernel) (by decide)) isc_nil) (by decide) (fun l vs ds H' S => ⟨l, vs, ds, _, rfl, S, by omega⟩)
          · rintro σ2 H2 ⟨l, vs, ds, m, rfl, Sm, hm⟩
            refine ⟨fun σ' H' => ∃ bv bd, σ' = [some (.ref p), some v, some (.int nm), some (.ref l), some bv] ∧ Ok 4 8100 bd ∧ Cl bd ∧ In K p H [(v, d), (bv, bd)] H', ?_, ?_⟩
            · obtain ⟨x5, y5, hp5⟩ := Sm.inn.go.2
              have hvl : vs.length = 20 := Sm.dat.len.trans Sm.len
              refine ⟨_, rfl, _, rfl, _, rfl, l, vs, rfl, .inl (SqL.of Sm.at_), p, x5, y5, 20, (by rw [hvl]; rfl), hp5, by decide, by decide, fun r x6 y6 r0 r1 hp6 => ?_⟩
              have gp := going_pot (But.refl p H2) hp6
              have Im := Sm.inn.on gp
              obtain ⟨bv, bd, hat5, okb, Db, hm2⟩ := its_at Sm.ok Sm.dat r0 (show r < ((vs.length : Nat) : Int) by rw [hvl]; exact r1)
              refine ⟨l, vs, r, bv, rfl, rfl, SqL.of (gp.1 _ _ Sm.ne Sm.at_), hat5, bv, bd, rfl, okb.mono (Nat.le_refl _) hm, Sm.cl bd hm2, ⟨fun v' d' h => ?_, Im.go⟩⟩
              simp only [List.mem_cons, List.not_mem_nil, or_false, Prod.mk.injEq] at h
              rcases h with ⟨rfl, rfl⟩ | ⟨rfl, rfl⟩
              · exact Im.kn _ _ hk
              · exact Db.but gp.1
            · rintro σ3 H3 ⟨bv, bd, rfl, okb, ⟨k, fb⟩, Ib⟩
              have hk1 : (v, d) ∈ [(v, d), (bv, bd)] := List.mem_cons_self
              have hk3 : (bv, bd) ∈ [(v, d), (bv, bd)] := List.mem_cons_of_mem _ List.mem_cons_self
              have B : ∀ {σ : L2.St} {a : Nat}, 4 ≤ a → σ[4]? = some (some bv) → Item K p H [(v, d), (bv, bd)] σ k a 8100 (tVar 4) := fun h hs => it_var hs hk3 (okb.mono h (Nat.le_refl _)) fb
              have U : ∀ {σ : L2.St} {a : Nat}, 3 ≤ a → σ[1]? = some (some v) → Item K p H [(v, d), (bv, bd)] σ k a 2000 (tVar 1) := fun h hs => it_var hs hk1 (ho.mono h (Nat.le_refl _)) (fl_noL hn)
              exact it_pick (k := k) (a := 8) (N := 4) rfl (its_cons (B (by decide) rfl) (its_cons (it_tup (its_cons (B (a := 7) (by decide) rfl) its_nil) (by decide)) (its_cons (it_tup (its_cons (U (a := 7) (by decide) rfl) (its_cons (B (by decide) rfl) its_nil)) (by decide))
                (its_cons (it_tup (its_cons (it_tup (its_cons (U (a := 6) (by decide) rfl) (its_cons (it_tup (its_cons (B (a := 5) (by decide) rfl) (its_cons (U (by decide) rfl) its_nil)) (by decide)) its_nil)) (by decide)) (its_cons (U (by decide) rfl) its_nil)) (by decide)) its_nil)))) (by decide) (by decide) H3 _ Ib
                (fun v d H' ok f D I b => q v d H' (ok.mono (Nat.le_refl _) (by decide)) ⟨k, f⟩ D I.go)
end
end K13
set_option Elab.async false
set_option linter.all false
set_option maxRecDepth 100000
set_option maxHeartbeats 4000000
namespace K13
open PySem PySem.Spec PyProof.Rows L2
open C8 (Cal Def cal0 pe_c fnBody fnScope fnArgs)
theorem bools_shaped (a b : Bool) : SeqAt.shaped (.list [.bool a, .bool b]) = true := by cases a <;> cases b <;> decide +kernel
section
variable {P : Program} {w : World} {K : PySem.W.Frag} {mg : Str → Option Value} {base : Heap}
theorem sqL_but {p a : Addr} {H H' : Hp} {xs : List V} (hp : H p = none) (h : SqL K H a xs) (e : But p H H') : SqL K H' a xs := by
  rcases h with (h | ⟨o, h⟩) | h
  · exact .inl (.inl (e _ _ (ne_of_none h hp) h))
  · exact .inl (.inr ⟨o, e _ _ (ne_of_none h hp) h⟩)
  · exact .inr h
theorem sqL_same {a : Addr} {H H' : Hp} {xs : List V} (h : SqL K H a xs) (e : Same H H') : SqL K H' a xs := by
  rcases h with (h | ⟨o, h⟩) | h
  · exact .inl (.inl (e _ _ h))
  · exact .inl (.inr ⟨o, e _ _ h⟩)
  · exact .inr h
theorem but_off {p l : Addr} {H H' : Hp} {o : HO} (e : But p H H') (hl : H l = none) : But p H (upd H' l o) := fun b u n h => by
  rw [upd_ne (ne_of_none h hl)]
  exact e b u n h
abbrev sLaw : Stmt := topS 23
abbrev NLaw : List Str := ["_law_script", "_law_k", "_law_pot_here", "_law_value_here", "_law_thing", "_law_kept", "_law_found", "_law_one"]
theorem scLaw : FnScope NLaw ["_law_script"] (fnScope sLaw) := ⟨rfl, rfl, rfl, by decide +kernel, rfl, by decide +kernel, by decide +kernel⟩
def spLaw (K : PySem.W.Frag) : Sp := fun vs H Q _ => ∃ (a : Addr) (ns : List Int), vs = [.ref a] ∧ SqL K H a (ns.map V.int) ∧ ns.length ≤ 63 ∧ ∀ H', Q (.bl true) H'
theorem f_law (T : Tp mg) (c_LCellAt : Cal P w K mg base 1 "_law_cell_at" (spCellAt K) []) (c_LPot : Cal P w K mg base 1 "_law_pot" spPot []) (c_LValue : Cal P w K mg base 7 "_law_value" (spValue K 4) []) (c_LNumber : Cal P w K mg base 2 "_law_number" spNumber []) (c_LRef : Cal P w K mg base 2 "_law_ref" spRef [])
    (c_LDeep : Cal P w K mg base 2 "_law_deep" (spDeep K) []) (c_LOther : Cal P w K mg base 3 "_law_other" (spOther K) []) (c_PIsValue : Cal P w K mg base 3 "is_value" (spQ K (valT valF)) []) (c_PIsPlain : Cal P w K mg base 3 "is_plain" (spQ K (valT leafP)) [])
    (c_LIsValue : Cal P w K mg base 33 "_law_is_value" (spQ2 K (valT valF) 16) []) (c_LIsPlain : Cal P w K mg base 17 "_law_is_plain" (spQ2 K (valT leafP) 16) [])
    {f : Addr} {fd : FuncData} (D : Def K mg "law" sLaw f fd) : FnG P w K mg base C8.CX0 34 f fd ["_law_script"] (spLaw K) := by
  refine fnG0 D scLaw (fun vs H Q E h => ?_) (fun cdv A outer s H vs Q E hg hr h => ?_)
  · obtain ⟨a, ns, rfl, _⟩ := h
    rfl
  · obtain ⟨a, ns, rfl, hS, hn, q⟩ := h
    have nd := scLaw.nd
    refine ⟨_, (pss_cons (ps_for PassesOwn.never rfl (pi_range1 (by rfl) T.n_range (pa_cons (pe_callB (call_max2 rfl) (by rfl) T.n_max (by decide +kernel) (pa_cons pe_int (pa_cons (pe_callB (call_min2 rfl) (by rfl) T.n_min (by decide +kernel) (pa_cons (pe_callB call_len_seq (by rfl) T.n_len (by decide +kernel) (pa_cons (pv 0) pa_nil)) (pa_cons pe_int pa_nil))) pa_nil))) pa_nil)) (pg_name (i := 1) nd rfl (.inl rfl))
      (pss_cons (ps_set (i := 2) nd rfl (.inl rfl) (pe_c c_LPot hr (by decide) (by rfl) (pa_cons (pe_c c_LCellAt hr (by decide) (by rfl) (pa_cons (pv 0) (pa_cons (pv 1) pa_nil))) (pa_cons (pv 1) pa_nil))))
    (pss_cons (ps_set (i := 3) nd rfl (.inl rfl) (pe_c c_LValue hr (by decide) (by rfl) (pa_cons (pv 2) (pa_cons pe_int (pa_cons pe_bl pa_nil)))))
    (pss_one (ps_for PassesOwn.never rfl (pi_list (pe_lst (pa_cons (pv 3) (pa_cons (pe_c c_LDeep hr (by decide) (by rfl) (pa_cons (pv 2) (pa_cons (pe_c c_LNumber hr (by decide) (by rfl) (pa_cons (pv 2) pa_nil)) pa_nil))) (pa_cons (pe_c c_LDeep hr (by decide) (by rfl) (pa_cons (pv 2) (pa_cons (pe_c c_LRef hr (by decide) (by rfl) (pa_cons (pv 2) pa_nil)) pa_nil))) (pa_cons (pe_c c_LOther hr (by decide) (by rfl) (pa_cons (pv 2) (pa_cons (pv 3) pa_nil))) pa_nil)))))) (pg_name (i := 4) nd rfl (.inl rfl))
      (pss_cons (ps_set (i := 5) nd rfl (.inl rfl) (pe_callB (call_reprQ hg (hrep_of hr)) (by rfl) T.n_repr (by decide +kernel) (pa_cons (pv 4) pa_nil)))
    (pss_cons (ps_set (i := 6) nd rfl (.inl rfl) (pe_lst (pa_cons (pe_c c_PIsValue hr (by decide) (by rfl) (pa_cons (pv 4) pa_nil)) (pa_cons (pe_c c_PIsPlain hr (by decide) (by rfl) (pa_cons (pv 4) pa_nil)) pa_nil))))
    (pss_cons (ps_if (pt_cmpR (op_neNil hr.units) (pe_lc (own := [("_law_one", 7)]) (g := gName 7) (by rfl) nd (pi_list (pv 6)) (blkOk_by (own := [("_law_one", 7)]) (N := NLaw) (sc := fnScope sLaw) (by decide +kernel)) (fun _ _ _ _ _ => pg_name (i := 7) nd rfl (Or.inl rfl)) (fun _ _ _ _ _ => (pts_one (pt_not (pt_val (pe_callB (id := "isinstance") (r := rIsQ K) call_isQ (by rfl) T.n_isinstance (by decide +kernel) (pa_cons (pv 7) (pa_cons (pe_bltn (v := .ty "bool") (by rfl) T.n_bool (by decide +kernel) rfl) pa_nil))))))) (fun _ _ _ _ _ => (pv 7))) (pe_lst pa_nil) (nomark _))
      (pss_one (ps_ret pe_bl))
      pss_nil)
    (pss_one (ps_if (PW.pt (pw_or (pt_cmpR (op_neD hr.units) (pv 6) (pe_lst (pa_cons (pe_c c_LIsValue hr (by decide) (by rfl) (pa_cons (pv 4) pa_nil)) (pa_cons (pe_c c_LIsPlain hr (by decide) (by rfl) (pa_cons (pv 4) pa_nil)) pa_nil))) (nomark _)) (pw_or1 (pt_cmpR op_ne (pe_callB (call_reprQ hg (hrep_of hr)) (by rfl) T.n_repr (by decide +kernel) (pa_cons (pv 4) pa_nil)) (pv 5) (nomark _)))))
      (pss_one (ps_ret pe_bl))
      pss_nil))))))))))
    (pss_one (ps_ret pe_bl))), ?_⟩
    have hlen : (ns.map V.int).length = ns.length := List.length_map ..
    refine ⟨_, rfl, a, _, rfl, .inl hS, _, _, rfl, _, _, rfl, _, rfl, ?_, ?_, ?_⟩
    · split <;> split <;> omega
    · split <;> split <;> omega
    · refine for_range (lo := 0) (n := (if (if (30 : Int) < ((ns.map V.int).length : Nat) then (30 : Int) else ((ns.map V.int).length : Nat)) > 1 then (if (30 : Int) < ((ns.map V.int).length : Nat) then (30 : Int) else ((ns.map V.int).length : Nat)) else 1).toNat)
        (fun i σ H' => (∃ o1 o2 o3 o4 o5 o6 o7, σ = [some (.ref a), o1, o2, o3, o4, o5, o6, o7]) ∧ SqL K H' a (ns.map V.int)) ⟨⟨_, _, _, _, _, _, _, rfl⟩, hS⟩ (fun i σ H' hi hW => ?_) (fun σ H' hW => ?_)
      · obtain ⟨⟨o1, o2, o3, o4, o5, o6, o7, rfl⟩, hS'⟩ := hW
        have hi' : i ≤ 100 := by
          have h2 : i < _ := hi
          split at h2 <;> (try split at h2) <;> omega
        have e0 : (0 : Int) + (i : Int) = (i : Int) := Int.zero_add _
        rw [e0]
        refine ⟨_, rfl, _, rfl, a, ns, i, rfl, hS', fun n => ⟨_, rfl, n, i, rfl, hi', fun p x y hpn hp => ?_⟩⟩
        have bS : But p H' (upd H' p (.lst [.int x, .int y])) := (But.refl p H').pot
        refine ⟨_, rfl, p, x, y, 3, rfl, by decide, hp, fun v d H1 ok nL D1 g1 => ?_⟩
        have okv : Ok 3 2000 d := ok.mono (by decide) (by decide)
        obtain ⟨x1, y1, hp1⟩ := g1.2
        refine ⟨_, rfl, _, rfl, _, rfl, p, x1, y1, rfl, hp1, fun m H2 m0 m1 g2 => ?_⟩
        obtain ⟨x2, y2, hp2⟩ := g2.2
        refine ⟨p, x2, y2, .int m, .int m, rfl, hp2, .int m, rfl, .num (by omega) (by omega) (by decide), fun v2 d2 H3 ok2 nL2 D2 g3 => ?_⟩
        obtain ⟨x3, y3, hp3⟩ := g3.2
        refine ⟨_, rfl, _, rfl, p, x3, y3, rfl, hp3, fun z H4 okz g4 => ?_⟩
        obtain ⟨x4, y4, hp4⟩ := g4.2
        refine ⟨p, x4, y4, .str z, .str z, rfl, hp4, .str z, rfl, okz, fun v3 d3 H5 ok3 nL3 D3 g5 => ?_⟩
        obtain ⟨x5, y5, hp5⟩ := g5.2
        have b25 := ((g2.1.trans g3.1).trans g4.1).trans g5.1
        refine ⟨_, rfl, _, rfl, p, x5, y5, v, d, rfl, hp5, D1.but b25, nL, okv, fun v4 d4 H6 ok4 cl4 D4 g6 => ?_⟩
        refine ⟨(by show 4 ≤ sizeLine; decide), fun lt hlt => ?_⟩
        have b6 := g6.1.trans (But.new (p := p) (o := .lst [v, v2, v3, v4]) hlt)
        have Q1 : Dq K (upd H6 lt (.lst [v, v2, v3, v4])) v d := (Dp.q (D1.but (b25.trans b6))).un
        have Q2 : Dq K (upd H6 lt (.lst [v, v2, v3, v4])) v2 d2 := (Dp.q (D2.but ((g4.1.trans g5.1).trans b6))).un
        have Q3 : Dq K (upd H6 lt (.lst [v, v2, v3, v4])) v3 d3 := (Dp.q (D3.but b6)).un
        have Q4 : Dq K (upd H6 lt (.lst [v, v2, v3, v4])) v4 d4 := (D4.but (But.new hlt)).un
        have bAll := (bS.trans g1.1).trans (b25.trans b6)
        have hSL := sqL_but hpn hS' bAll
        have each : ∀ (i : Nat) (x : V), [v, v2, v3, v4][i]? = some x → ∃ e, Dq K (upd H6 lt (.lst [v, v2, v3, v4])) x e ∧ Ok 8 80000 e ∧ Cl e := fun i x hx => by
          rcases i with _ | _ | _ | _ | i
          · cases hx; exact ⟨d, Q1, okv.mono (by decide) (by decide), true, fl_noL nL⟩
          · cases hx; exact ⟨d2, Q2, ok2.mono (by decide) (by decide), true, fl_noL nL2⟩
          · cases hx; exact ⟨d3, Q3, ok3.mono (by decide) (by decide), true, fl_noL nL3⟩
          · cases hx; exact ⟨d4, Q4, ok4, cl4⟩
          · simp at hx
        refine ⟨lt, rfl, ⟨_, SqL.of upd_same⟩, ?_⟩
        refine for_list (xs := [v, v2, v3, v4]) (fun j σ H7 => (∃ o4 o5 o6 o7, σ = [some (.ref a), some (.int (i : Int)), some (.ref p), some v, o4, o5, o6, o7]) ∧ Same (upd H6 lt (.lst [v, v2, v3, v4])) H7) ⟨⟨_, _, _, _, rfl⟩, Same.refl _⟩ (fun j σ H7 hj hW => SqL.of (hW.2 _ _ upd_same)) (fun j x σ H7 hx hW => ?_) (fun σ H7 hW => ?_)
        · obtain ⟨⟨o4, o5, o6, o7, rfl⟩, s7⟩ := hW
          obtain ⟨e, De, oe, ce⟩ := each j x hx
          have shE := oe.shown (by decide) (by decide) ce.nd
          have hwe : e.weight ≤ 100000 := by have := oe.wt; omega
          have hde : e.depth < 16 := by have := oe.dep; omega
          have De7 := De.mono s7
          refine ⟨_, rfl, x, e, rfl, De7, shE, ?_⟩
          refine ⟨_, rfl, x, e, rfl, De7, hwe, fun H8 s8 => ⟨_, rfl, x, e, rfl, De7.mono s8, hwe, fun H9 s9 => ⟨(by show 2 ≤ sizeLine; decide), fun lf hlf => ?_⟩⟩⟩
          have s89 := (s8.trans s9).trans (Same.new (o := .lst [.bl (valT valF e), .bl (valT leafP e)]) hlf)
          have De9 := De7.mono s89
          refine ⟨_, rfl, lf, rfl, ⟨_, SqL.of upd_same⟩, fun Dl hDl => ?_⟩
          refine lc_list (xs := [.bl (valT valF e), .bl (valT leafP e)]) (fun j' H' => Same (upd H9 lf (.lst [.bl (valT valF e), .bl (valT leafP e)])) H' ∧ H' Dl = some (.lst [])) ⟨Same.new hDl, upd_same⟩ (fun j' H' _ h => SqL.of (h.1 _ _ upd_same)) (fun j' x' H' hx' hW' => ?_) (fun H' hW' => ?_)
          · obtain ⟨bb, rfl⟩ : ∃ bb, x' = .bl bb := by
              rcases j' with _ | _ | j'
              · cases hx'; exact ⟨_, rfl⟩
              · cases hx'; exact ⟨_, rfl⟩
              · simp at hx'
            exact ⟨rfl, _, rfl, .bl bb, .bool bb, "bool", rfl, .bl bb, by decide, _, rfl, iteF hW'⟩
          · obtain ⟨sD, hD⟩ := hW'
            refine ⟨(by show 0 ≤ sizeLine; decide), fun ln hln => ⟨Dl, ln, [], rfl, rfl, SqL.of ((Same.new hln) _ _ hD), SqL.of upd_same, _, rfl, iteF ?_⟩⟩
            have sE := sD.trans (Same.new (o := .lst []) hln)
            have hf := sE _ _ (upd_same (H := H9) (a := lf) (o := .lst [.bl (valT valF e), .bl (valT leafP e)]))
            have DeE := De9.mono sE
            refine ⟨_, rfl, _, rfl, x, e, rfl, DeE, hwe, hde, fun HA sA => ⟨_, rfl, x, e, rfl, DeE.mono sA, hwe, hde, fun HB sB => ⟨(by show 2 ≤ sizeLine; decide), fun lg hlg => ?_⟩⟩⟩
            have sG := (sA.trans sB).trans (Same.new (o := .lst [.bl (valT valF e), .bl (valT leafP e)]) hlg)
            have sh := bools_shaped (valT valF e) (valT leafP e)
            refine ⟨.list [.bool (valT valF e), .bool (valT leafP e)], .list [.bool (valT valF e), .bool (valT leafP e)], .lst (SqL.of (sG _ _ hf)) (.cons (.bl _) (.cons (.bl _) .nil)), .lst (SqL.of upd_same) (.cons (.bl _) (.cons (.bl _) .nil)), sh, sh, _, rfl, iteF' (by rw [SeqAt.eqv_refl _ (SeqAt.canLay_of_shaped sh)]; rfl) ?_⟩
            refine ⟨_, rfl, x, e, rfl, DeE.mono sG, shE, _, rfl, rfl, _, rfl, iteF' (by rw [decide_eq_true rfl]; rfl) ?_⟩
            exact ⟨⟨_, _, _, _, rfl⟩, ((s7.trans s89).trans sE).trans sG⟩
        · obtain ⟨⟨o4, o5, o6, o7, rfl⟩, s7⟩ := hW
          exact ⟨⟨_, _, _, _, _, _, _, rfl⟩, sqL_same hSL s7⟩
      · exact q H'
end
end K13
set_option Elab.async false
set_option linter.all false
set_option maxRecDepth 100000
set_option maxHeartbeats 8000000
namespace K13
open PySem PySem.Spec PyProof.Rows L2
open C8 (Cal Def cal0 pe_c fnBody fnScope fnArgs)
/-- a def of the module's top -/
theorem def_mk {K : PySem.W.Frag} {h : Heap} {mg : Str → Option Value} (X : K.In h) (G : h.Ns mainGlobals mg) {x : Str} {st : Stmt} {f : Addr} {oc : Value} {od an : Option Addr} {osl : Array (Option Value)} {kV doc pm cdv ct : Value}
    (a : PySem.W.nsIn K mainGlobals x = some (some (.ref f)))
    (l : K.lookup f = some ⟨oc, od, .func (PySem.W.fnOf x x (fnArgs st) (fnBody st) (fnScope st) .none kV doc pm an cdv ct), osl⟩)
    (c : PySem.W.codeIn K cdv x = true) (k : PySem.W.keepIn K (.ref f) = true) : Def K mg x st f (PySem.W.fnOf x x (fnArgs st) (fnBody st) (fnScope st) .none kV doc pm an cdv ct) :=
  ⟨⟨⟨oc, od, .none, kV, doc, pm, an, cdv, ct, osl, rfl, l, c⟩⟩, PySem.W.mg_of X G a, k⟩
theorem all_mk {l : PySem.W.OpenLaw} {w : World} {K : PySem.W.Frag} {h : Heap} {mg : Str → Option Value} {fa : Addr} (X : K.In h) (G : h.Ns mainGlobals mg) (hfa : mg "law" = some (.ref fa))
    {f1 : Addr} {od1 an1 : Option Addr} {sl1 : Array (Option Value)} {oc1 kV1 dc1 pm1 cd1 ct1 : Value}
    {f2 : Addr} {od2 an2 : Option Addr} {sl2 : Array (Option Value)} {oc2 kV2 dc2 pm2 cd2 ct2 : Value}
    {f3 : Addr} {od3 an3 : Option Addr} {sl3 : Array (Option Value)} {oc3 kV3 dc3 pm3 cd3 ct3 : Value}
    {f4 : Addr} {od4 an4 : Option Addr} {sl4 : Array (Option Value)} {oc4 kV4 dc4 pm4 cd4 ct4 : Value}
    {f5 : Addr} {od5 an5 : Option Addr} {sl5 : Array (Option Value)} {oc5 kV5 dc5 pm5 cd5 ct5 : Value}
    {f6 : Addr} {od6 an6 : Option Addr} {sl6 : Array (Option Value)} {oc6 kV6 dc6 pm6 cd6 ct6 : Value}
    {f7 : Addr} {od7 an7 : Option Addr} {sl7 : Array (Option Value)} {oc7 kV7 dc7 pm7 cd7 ct7 : Value}
    {f8 : Addr} {od8 an8 : Option Addr} {sl8 : Array (Option Value)} {oc8 kV8 dc8 pm8 cd8 ct8 : Value}
    {f9 : Addr} {od9 an9 : Option Addr} {sl9 : Array (Option Value)} {oc9 kV9 dc9 pm9 cd9 ct9 : Value}
    {f10 : Addr} {od10 an10 : Option Addr} {sl10 : Array (Option Value)} {oc10 kV10 dc10 pm10 cd10 ct10 : Value}
    {f11 : Addr} {od11 an11 : Option Addr} {sl11 : Array (Option Value)} {oc11 kV11 dc11 pm11 cd11 ct11 : Value}
    {f12 : Addr} {od12 an12 : Option Addr} {sl12 : Array (Option Value)} {oc12 kV12 dc12 pm12 cd12 ct12 : Value}
    {f13 : Addr} {od13 an13 : Option Addr} {sl13 : Array (Option Value)} {oc13 kV13 dc13 pm13 cd13 ct13 : Value}
    {f14 : Addr} {od14 an14 : Option Addr} {sl14 : Array (Option Value)} {oc14 kV14 dc14 pm14 cd14 ct14 : Value}
    {f15 : Addr} {od15 an15 : Option Addr} {sl15 : Array (Option Value)} {oc15 kV15 dc15 pm15 cd15 ct15 : Value}
    {f16 : Addr} {od16 an16 : Option Addr} {sl16 : Array (Option Value)} {oc16 kV16 dc16 pm16 cd16 ct16 : Value}
    {f17 : Addr} {od17 an17 : Option Addr} {sl17 : Array (Option Value)} {oc17 kV17 dc17 pm17 cd17 ct17 : Value}
    {f18 : Addr} {od18 an18 : Option Addr} {sl18 : Array (Option Value)} {oc18 kV18 dc18 pm18 cd18 ct18 : Value}
    {f19 : Addr} {od19 an19 : Option Addr} {sl19 : Array (Option Value)} {oc19 kV19 dc19 pm19 cd19 ct19 : Value}
    {uN uM : Value}
    (a1 : PySem.W.nsIn K mainGlobals "is_figures" = some (some (.ref f1))) (l1 : K.lookup f1 = some ⟨oc1, od1, .func (PySem.W.fnOf "is_figures" "is_figures" (fnArgs sPIsFigures) (fnBody sPIsFigures) (fnScope sPIsFigures) .none kV1 dc1 pm1 an1 cd1 ct1), sl1⟩) (c1 : PySem.W.codeIn K cd1 "is_figures" = true) (k1 : PySem.W.keepIn K (.ref f1) = true)
    (a2 : PySem.W.nsIn K mainGlobals "is_number" = some (some (.ref f2))) (l2 : K.lookup f2 = some ⟨oc2, od2, .func (PySem.W.fnOf "is_number" "is_number" (fnArgs sPIsNumber) (fnBody sPIsNumber) (fnScope sPIsNumber) .none kV2 dc2 pm2 an2 cd2 ct2), sl2⟩) (c2 : PySem.W.codeIn K cd2 "is_number" = true) (k2 : PySem.W.keepIn K (.ref f2) = true)
    (a3 : PySem.W.nsIn K mainGlobals "is_ref" = some (some (.ref f3))) (l3 : K.lookup f3 = some ⟨oc3, od3, .func (PySem.W.fnOf "is_ref" "is_ref" (fnArgs sPIsRef) (fnBody sPIsRef) (fnScope sPIsRef) .none kV3 dc3 pm3 an3 cd3 ct3), sl3⟩) (c3 : PySem.W.codeIn K cd3 "is_ref" = true) (k3 : PySem.W.keepIn K (.ref f3) = true)
    (a4 : PySem.W.nsIn K mainGlobals "is_value" = some (some (.ref f4))) (l4 : K.lookup f4 = some ⟨oc4, od4, .func (PySem.W.fnOf "is_value" "is_value" (fnArgs sPIsValue) (fnBody sPIsValue) (fnScope sPIsValue) .none kV4 dc4 pm4 an4 cd4 ct4), sl4⟩) (c4 : PySem.W.codeIn K cd4 "is_value" = true) (k4 : PySem.W.keepIn K (.ref f4) = true)
    (a5 : PySem.W.nsIn K mainGlobals "is_plain" = some (some (.ref f5))) (l5 : K.lookup f5 = some ⟨oc5, od5, .func (PySem.W.fnOf "is_plain" "is_plain" (fnArgs sPIsPlain) (fnBody sPIsPlain) (fnScope sPIsPlain) .none kV5 dc5 pm5 an5 cd5 ct5), sl5⟩) (c5 : PySem.W.codeIn K cd5 "is_plain" = true) (k5 : PySem.W.keepIn K (.ref f5) = true)
    (a6 : PySem.W.nsIn K mainGlobals "_is_plain_leaf" = some (some (.ref f6))) (l6 : K.lookup f6 = some ⟨oc6, od6, .func (PySem.W.fnOf "_is_plain_leaf" "_is_plain_leaf" (fnArgs sPIsPlainLeaf) (fnBody sPIsPlainLeaf) (fnScope sPIsPlainLeaf) .none kV6 dc6 pm6 an6 cd6 ct6), sl6⟩) (c6 : PySem.W.codeIn K cd6 "_is_plain_leaf" = true) (k6 : PySem.W.keepIn K (.ref f6) = true)
    (a7 : PySem.W.nsIn K mainGlobals "_leaves" = some (some (.ref f7))) (l7 : K.lookup f7 = some ⟨oc7, od7, .func (PySem.W.fnOf "_leaves" "_leaves" (fnArgs sPLeaves) (fnBody sPLeaves) (fnScope sPLeaves) .none kV7 dc7 pm7 an7 cd7 ct7), sl7⟩) (c7 : PySem.W.codeIn K cd7 "_leaves" = true) (k7 : PySem.W.keepIn K (.ref f7) = true)
    (a8 : PySem.W.nsIn K mainGlobals "_law_cell_at" = some (some (.ref f8))) (l8 : K.lookup f8 = some ⟨oc8, od8, .func (PySem.W.fnOf "_law_cell_at" "_law_cell_at" (fnArgs sLCellAt) (fnBody sLCellAt) (fnScope sLCellAt) .none kV8 dc8 pm8 an8 cd8 ct8), sl8⟩) (c8 : PySem.W.codeIn K cd8 "_law_cell_at" = true) (k8 : PySem.W.keepIn K (.ref f8) = true)
    (a9 : PySem.W.nsIn K mainGlobals "_law_pot" = some (some (.ref f9))) (l9 : K.lookup f9 = some ⟨oc9, od9, .func (PySem.W.fnOf "_law_pot" "_law_pot" (fnArgs sLPot) (fnBody sLPot) (fnScope sLPot) .none kV9 dc9 pm9 an9 cd9 ct9), sl9⟩) (c9 : PySem.W.codeIn K cd9 "_law_pot" = true) (k9 : PySem.W.keepIn K (.ref f9) = true)
    (a10 : PySem.W.nsIn K mainGlobals "_law_take" = some (some (.ref f10))) (l10 : K.lookup f10 = some ⟨oc10, od10, .func (PySem.W.fnOf "_law_take" "_law_take" (fnArgs sLTake) (fnBody sLTake) (fnScope sLTake) .none kV10 dc10 pm10 an10 cd10 ct10), sl10⟩) (c10 : PySem.W.codeIn K cd10 "_law_take" = true) (k10 : PySem.W.keepIn K (.ref f10) = true)
    (a11 : PySem.W.nsIn K mainGlobals "_law_number" = some (some (.ref f11))) (l11 : K.lookup f11 = some ⟨oc11, od11, .func (PySem.W.fnOf "_law_number" "_law_number" (fnArgs sLNumber) (fnBody sLNumber) (fnScope sLNumber) .none kV11 dc11 pm11 an11 cd11 ct11), sl11⟩) (c11 : PySem.W.codeIn K cd11 "_law_number" = true) (k11 : PySem.W.keepIn K (.ref f11) = true)
    (a12 : PySem.W.nsIn K mainGlobals "_law_ref" = some (some (.ref f12))) (l12 : K.lookup f12 = some ⟨oc12, od12, .func (PySem.W.fnOf "_law_ref" "_law_ref" (fnArgs sLRef) (fnBody sLRef) (fnScope sLRef) .none kV12 dc12 pm12 an12 cd12 ct12), sl12⟩) (c12 : PySem.W.codeIn K cd12 "_law_ref" = true) (k12 : PySem.W.keepIn K (.ref f12) = true)
    (a13 : PySem.W.nsIn K mainGlobals "_law_value" = some (some (.ref f13))) (l13 : K.lookup f13 = some ⟨oc13, od13, .func (PySem.W.fnOf "_law_value" "_law_value" (fnArgs sLValue) (fnBody sLValue) (fnScope sLValue) .none kV13 dc13 pm13 an13 cd13 ct13), sl13⟩) (c13 : PySem.W.codeIn K cd13 "_law_value" = true) (k13 : PySem.W.keepIn K (.ref f13) = true)
    (a14 : PySem.W.nsIn K mainGlobals "_law_is_plain" = some (some (.ref f14))) (l14 : K.lookup f14 = some ⟨oc14, od14, .func (PySem.W.fnOf "_law_is_plain" "_law_is_plain" (fnArgs sLIsPlain) (fnBody sLIsPlain) (fnScope sLIsPlain) .none kV14 dc14 pm14 an14 cd14 ct14), sl14⟩) (c14 : PySem.W.codeIn K cd14 "_law_is_plain" = true) (k14 : PySem.W.keepIn K (.ref f14) = true)
    (a15 : PySem.W.nsIn K mainGlobals "_law_is_ref" = some (some (.ref f15))) (l15 : K.lookup f15 = some ⟨oc15, od15, .func (PySem.W.fnOf "_law_is_ref" "_law_is_ref" (fnArgs sLIsRef) (fnBody sLIsRef) (fnScope sLIsRef) .none kV15 dc15 pm15 an15 cd15 ct15), sl15⟩) (c15 : PySem.W.codeIn K cd15 "_law_is_ref" = true) (k15 : PySem.W.keepIn K (.ref f15) = true)
    (a16 : PySem.W.nsIn K mainGlobals "_law_is_value" = some (some (.ref f16))) (l16 : K.lookup f16 = some ⟨oc16, od16, .func (PySem.W.fnOf "_law_is_value" "_law_is_value" (fnArgs sLIsValue) (fnBody sLIsValue) (fnScope sLIsValue) .none kV16 dc16 pm16 an16 cd16 ct16), sl16⟩) (c16 : PySem.W.codeIn K cd16 "_law_is_value" = true) (k16 : PySem.W.keepIn K (.ref f16) = true)
    (a17 : PySem.W.nsIn K mainGlobals "_law_other" = some (some (.ref f17))) (l17 : K.lookup f17 = some ⟨oc17, od17, .func (PySem.W.fnOf "_law_other" "_law_other" (fnArgs sLOther) (fnBody sLOther) (fnScope sLOther) .none kV17 dc17 pm17 an17 cd17 ct17), sl17⟩) (c17 : PySem.W.codeIn K cd17 "_law_other" = true) (k17 : PySem.W.keepIn K (.ref f17) = true)
    (a18 : PySem.W.nsIn K mainGlobals "_law_deep" = some (some (.ref f18))) (l18 : K.lookup f18 = some ⟨oc18, od18, .func (PySem.W.fnOf "_law_deep" "_law_deep" (fnArgs sLDeep) (fnBody sLDeep) (fnScope sLDeep) .none kV18 dc18 pm18 an18 cd18 ct18), sl18⟩) (c18 : PySem.W.codeIn K cd18 "_law_deep" = true) (k18 : PySem.W.keepIn K (.ref f18) = true)
    (a19 : PySem.W.nsIn K mainGlobals "law" = some (some (.ref f19))) (l19 : K.lookup f19 = some ⟨oc19, od19, .func (PySem.W.fnOf "law" "law" (fnArgs sLaw) (fnBody sLaw) (fnScope sLaw) .none kV19 dc19 pm19 an19 cd19 ct19), sl19⟩) (c19 : PySem.W.codeIn K cd19 "law" = true) (k19 : PySem.W.keepIn K (.ref f19) = true)
    (z_isinstance : PySem.W.nsIn K mainGlobals "isinstance" = some none)
    (z_str : PySem.W.nsIn K mainGlobals "str" = some none)
    (z_tuple : PySem.W.nsIn K mainGlobals "tuple" = some none)
    (z_list : PySem.W.nsIn K mainGlobals "list" = some none)
    (z_bool : PySem.W.nsIn K mainGlobals "bool" = some none)
    (z_len : PySem.W.nsIn K mainGlobals "len" = some none)
    (z_range : PySem.W.nsIn K mainGlobals "range" = some none)
    (z_max : PySem.W.nsIn K mainGlobals "max" = some none)
    (z_min : PySem.W.nsIn K mainGlobals "min" = some none)
    (z_repr : PySem.W.nsIn K mainGlobals "repr" = some none)
    (z_int : PySem.W.nsIn K mainGlobals "int" = some none)
    (z_all : PySem.W.nsIn K mainGlobals "all" = some none)
    (gN : PySem.W.nsIn K mainGlobals "NUMBERS" = some (some uN)) (gM : PySem.W.nsIn K mainGlobals "LONGEST_TUPLE" = some (some uM))
    (rN : RelV (.int 1000000000000) uN) (rM : RelV (.int 60) uM) :
    ∃ fd : FuncData, (∀ (s : Shared) (v : Value), BindsTo s fd ⟨[v], []⟩ [("_law_script", v)]) ∧ ∀ base : Heap, K.In base → base.Ns mainGlobals mg → FnG l.prog w K mg base C8.CX0 34 fa fd ["_law_script"] (spLaw K) := by
  have e := hfa.symm.trans (PySem.W.mg_of X G a19)
  cases e
  have D1 := def_mk (st := sPIsFigures) X G a1 l1 c1 k1
  have D2 := def_mk (st := sPIsNumber) X G a2 l2 c2 k2
  have D3 := def_mk (st := sPIsRef) X G a3 l3 c3 k3
  have D4 := def_mk (st := sPIsValue) X G a4 l4 c4 k4
  have D5 := def_mk (st := sPIsPlain) X G a5 l5 c5 k5
  have D6 := def_mk (st := sPIsPlainLeaf) X G a6 l6 c6 k6
  have D7 := def_mk (st := sPLeaves) X G a7 l7 c7 k7
  have D8 := def_mk (st := sLCellAt) X G a8 l8 c8 k8
  have D9 := def_mk (st := sLPot) X G a9 l9 c9 k9
  have D10 := def_mk (st := sLTake) X G a10 l10 c10 k10
  have D11 := def_mk (st := sLNumber) X G a11 l11 c11 k11
  have D12 := def_mk (st := sLRef) X G a12 l12 c12 k12
  have D13 := def_mk (st := sLValue) X G a13 l13 c13 k13
  have D14 := def_mk (st := sLIsPlain) X G a14 l14 c14 k14
  have D15 := def_mk (st := sLIsRef) X G a15 l15 c15 k15
  have D16 := def_mk (st := sLIsValue) X G a16 l16 c16 k16
  have D17 := def_mk (st := sLOther) X G a17 l17 c17 k17
  have D18 := def_mk (st := sLDeep) X G a18 l18 c18 k18
  have D19 := def_mk (st := sLaw) X G a19 l19 c19 k19
  have b1 := D1.fn.binds rfl (ps := ["text"]) fun _ _ _ _ _ _ us hl => match us, hl with | [_], _ => rfl
  have b2 := D2.fn.binds rfl (ps := ["thing"]) fun _ _ _ _ _ _ us hl => match us, hl with | [_], _ => rfl
  have b3 := D3.fn.binds rfl (ps := ["thing"]) fun _ _ _ _ _ _ us hl => match us, hl with | [_], _ => rfl
  have b4 := D4.fn.binds rfl (ps := ["thing"]) fun _ _ _ _ _ _ us hl => match us, hl with | [_], _ => rfl
  have b5 := D5.fn.binds rfl (ps := ["thing"]) fun _ _ _ _ _ _ us hl => match us, hl with | [_], _ => rfl
  have b6 := D6.fn.binds rfl (ps := ["thing"]) fun _ _ _ _ _ _ us hl => match us, hl with | [_], _ => rfl
  have b7 := D7.fn.binds rfl (ps := ["thing"]) fun _ _ _ _ _ _ us hl => match us, hl with | [_], _ => rfl
  have b8 := D8.fn.binds rfl (ps := ["_law_script", "_law_k"]) fun _ _ _ _ _ _ us hl => match us, hl with | [_, _], _ => rfl
  have b9 := D9.fn.binds rfl (ps := ["_law_cell", "_law_k"]) fun _ _ _ _ _ _ us hl => match us, hl with | [_, _], _ => rfl
  have b10 := D10.fn.binds rfl (ps := ["_law_pot_here", "_law_many"]) fun _ _ _ _ _ _ us hl => match us, hl with | [_, _], _ => rfl
  have b11 := D11.fn.binds rfl (ps := ["_law_pot_here"]) fun _ _ _ _ _ _ us hl => match us, hl with | [_], _ => rfl
  have b12 := D12.fn.binds rfl (ps := ["_law_pot_here"]) fun _ _ _ _ _ _ us hl => match us, hl with | [_], _ => rfl
  have b13 := D13.fn.binds rfl (ps := ["_law_pot_here", "_law_deep_here", "_law_refs"]) fun _ _ _ _ _ _ us hl => match us, hl with | [_, _, _], _ => rfl
  have b14 := D14.fn.binds rfl (ps := ["_law_thing"]) fun _ _ _ _ _ _ us hl => match us, hl with | [_], _ => rfl
  have b15 := D15.fn.binds rfl (ps := ["_law_thing"]) fun _ _ _ _ _ _ us hl => match us, hl with | [_], _ => rfl
  have b16 := D16.fn.binds rfl (ps := ["_law_thing"]) fun _ _ _ _ _ _ us hl => match us, hl with | [_], _ => rfl
  have b17 := D17.fn.binds rfl (ps := ["_law_pot_here", "_law_value_here"]) fun _ _ _ _ _ _ us hl => match us, hl with | [_, _], _ => rfl
  have b18 := D18.fn.binds rfl (ps := ["_law_pot_here", "_law_value_here"]) fun _ _ _ _ _ _ us hl => match us, hl with | [_, _], _ => rfl
  have T : Tp mg := ⟨PySem.W.mg_none_of X G z_isinstance, PySem.W.mg_none_of X G z_str, PySem.W.mg_none_of X G z_tuple, PySem.W.mg_none_of X G z_list, PySem.W.mg_none_of X G z_bool, PySem.W.mg_none_of X G z_len, PySem.W.mg_none_of X G z_range, PySem.W.mg_none_of X G z_max, PySem.W.mg_none_of X G z_min, PySem.W.mg_none_of X G z_repr, PySem.W.mg_none_of X G z_int, PySem.W.mg_none_of X G z_all, ⟨uN, PySem.W.mg_of X G gN, rN⟩, ⟨uM, PySem.W.mg_of X G gM, rM⟩⟩
  refine ⟨PySem.W.fnOf "law" "law" (fnArgs sLaw) (fnBody sLaw) (fnScope sLaw) .none kV19 dc19 pm19 an19 cd19 ct19, fun s v => .of_eq rfl, fun base _ _ => ?_⟩
  have cTake := c_take (P := l.prog) (w := w) (base := base) D10 b10
  have cFig := c_isFigures (P := l.prog) (w := w) (base := base) D1 b1
  have cNum := c_isNumber (P := l.prog) (w := w) (base := base) T D2 b2
  have cRef := c_isRef T cFig D3 b3
  have cLeaf := c_isPlainLeaf T cNum D6 b6
  have cLeaves := c_leaves (P := l.prog) (w := w) (base := base) T D7 b7
  have cLNumber := c_number T cTake D11 b11
  have cLRef := c_ref T cTake D12 b12
  have cLIsPlain := c_lisPlain (P := l.prog) (w := w) (base := base) T D14 b14 16
  have cLIsRef := c_lisRef (P := l.prog) (w := w) (base := base) T D15 b15
  exact f_law T (c_cellAt T D8 b8) (c_pot D9 b9) (c_value T cTake cLRef cLNumber D13 b13 4) cLNumber cLRef (c_deep T cTake D18 b18) (c_other T cTake cLNumber D17 b17) (c_isValue T cLeaves cLeaf cRef D4 b4) (c_isPlain T cLeaves cLeaf D5 b5) (c_lisValue T cLIsPlain cLIsRef D16 b16 16 (Nat.le_refl _)) cLIsPlain D19
end K13
open PySem PySem.W PyProof.Rows
set_option maxHeartbeats 0 in
theorem PySem.Challenge.cw_changewhile_k13_values_told_holds : PySem.Challenge.rw_changewhile_k13_values_told.Holds := by
  w_on; o_law; k_head; (case hw => w_witness2)
  k_fill
  refine L2.walkG (l := PySem.Challenge.rw_changewhile_k13_values_told) (n := 63) (k := 34) (x := "_law_script") (sp := K13.spLaw) rfl (by decide) rfl ⟨rfl, by decide, by decide⟩ (fun w h Y => PySem.W.kIn_of Y) ?F (fun K H a ns hl _ hS => ⟨a, ns, rfl, hS, hl, fun _ => rfl⟩)
  case F =>
    intro w mg fa h KX G hmg
    refine' K13.all_mk KX G hmg ?a1 ?l1 ?c1 ?k1 ?a2 ?l2 ?c2 ?k2 ?a3 ?l3 ?c3 ?k3 ?a4 ?l4 ?c4 ?k4 ?a5 ?l5 ?c5 ?k5 ?a6 ?l6 ?c6 ?k6 ?a7 ?l7 ?c7 ?k7 ?a8 ?l8 ?c8 ?k8 ?a9 ?l9 ?c9 ?k9 ?a10 ?l10 ?c10 ?k10 ?a11 ?l11 ?c11 ?k11 ?a12 ?l12 ?c12 ?k12 ?a13 ?l13 ?c13 ?k13 ?a14 ?l14 ?c14 ?k14 ?a15 ?l15 ?c15 ?k15 ?a16 ?l16 ?c16 ?k16 ?a17 ?l17 ?c17 ?k17 ?a18 ?l18 ?c18 ?k18 ?a19 ?l19 ?c19 ?k19 ?z_isinstance ?z_str ?z_tuple ?z_list ?z_bool ?z_len ?z_range ?z_max ?z_min ?z_repr ?z_int ?z_all ?gN ?gM ?rN ?rM
    (case a1 => k_is); (case l1 => k_is); (case c1 => k_is); (case k1 => k_is); (case a2 => k_is); (case l2 => k_is); (case c2 => k_is); (case k2 => k_is); (case a3 => k_is); (case l3 => k_is); (case c3 => k_is); (case k3 => k_is); (case a4 => k_is); (case l4 => k_is); (case c4 => k_is); (case k4 => k_is); (case a5 => k_is); (case l5 => k_is); (case c5 => k_is); (case k5 => k_is); (case a6 => k_is); (case l6 => k_is); (case c6 => k_is); (case k6 => k_is); (case a7 => k_is); (case l7 => k_is); (case c7 => k_is); (case k7 => k_is); (case a8 => k_is); (case l8 => k_is); (case c8 => k_is); (case k8 => k_is); (case a9 => k_is); (case l9 => k_is); (case c9 => k_is); (case k9 => k_is); (case a10 => k_is); (case l10 => k_is); (case c10 => k_is); (case k10 => k_is); (case a11 => k_is); (case l11 => k_is); (case c11 => k_is); (case k11 => k_is); (case a12 => k_is); (case l12 => k_is); (case c12 => k_is); (case k12 => k_is); (case a13 => k_is); (case l13 => k_is); (case c13 => k_is); (case k13 => k_is); (case a14 => k_is); (case l14 => k_is); (case c14 => k_is); (case k14 => k_is); (case a15 => k_is); (case l15 => k_is); (case c15 => k_is); (case k15 => k_is); (case a16 => k_is); (case l16 => k_is); (case c16 => k_is); (case k16 => k_is); (case a17 => k_is); (case l17 => k_is); (case c17 => k_is); (case k17 => k_is); (case a18 => k_is); (case l18 => k_is); (case c18 => k_is); (case k18 => k_is); (case a19 => k_is); (case l19 => k_is); (case c19 => k_is); (case k19 => k_is); (case z_isinstance => k_is); (case z_str => k_is); (case z_tuple => k_is); (case z_list => k_is); (case z_bool => k_is); (case z_len => k_is); (case z_range => k_is); (case z_max => k_is); (case z_min => k_is); (case z_repr => k_is); (case z_int => k_is); (case z_all => k_is); (case gN => k_is); (case gM => k_is)
    (case rN => exact ⟨_, rfl⟩)
    (case rM => exact ⟨_, rfl⟩)
