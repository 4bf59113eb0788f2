import PyProof.Rows.All
import Wide.All
import OpenK.AllK
import Wide.FinOn
import HandS.ForMost
import HandS.Codes
import HandS.Wide
import HandS.Deep
import HandS.IsInst
import HandS.TupAny
import HandS.StrMore
import HandS.Style
import HandS.ExcOwn
import HandS.Exc
import HandS.ExcCtx
import HandS.ExcIs
import HandS.HotCalls
import HandS.ForExc
import PySem.Challenge.RW_changewhile_k12_kind_texts
import PyProof.Rows.StrJoinRep
set_option Elab.async false
set_option linter.all false
set_option maxRecDepth 100000
set_option maxHeartbeats 4000000
namespace L2
open PySem PySem.Spec PyProof.Rows
open C8 (Cal Def cal0 pe_c fnBody fnScope fnArgs)

/-! ### heaps: all but one list stays -/
def But (p : Addr) (H H' : Hp) : Prop := ∀ b o, b ≠ p → H b = some o → H' b = some o
theorem But.refl (p : Addr) (H : Hp) : But p H H := fun _ _ _ h => h
theorem But.trans {p : Addr} {H H1 H2 : Hp} (a : But p H H1) (b : But p H1 H2) : But p H H2 := fun c o n h => b c o n (a c o n h)
theorem But.same {p : Addr} {H H1 : Hp} (a : Same H H1) : But p H H1 := fun b o _ h => a b o h
theorem Same.new {q : Addr} {H : Hp} {o : HO} (h : H q = none) : Same H (upd H q o) := fun b u e => by
  rw [upd_ne (ne_of_none e h)]
  exact e
theorem But.new {p q : Addr} {H : Hp} {o : HO} (h : H q = none) : But p H (upd H q o) := But.same (Same.new h)
theorem But.pot {p : Addr} {H H' : Hp} {o : HO} (e : But p H H') : But p H (upd H' p o) := fun b u n h => by
  rw [upd_ne n]
  exact e b u n h
def hid (p : Addr) (H : Hp) : Hp := fun b => if b = p then none else H b
theorem hid_ne {p b : Addr} {H : Hp} (h : b ≠ p) : hid p H b = H b := if_neg h
theorem hid_some {p b : Addr} {H : Hp} {o : HO} (h : hid p H b = some o) : b ≠ p ∧ H b = some o := by
  unfold hid at h
  by_cases e : b = p
  · rw [if_pos e] at h; cases h
  · rw [if_neg e] at h; exact ⟨e, h⟩
theorem hid_but {p : Addr} {H H' : Hp} (e : But p H H') : Same (hid p H) (hid p H') := fun b o h => by
  obtain ⟨n, h⟩ := hid_some h
  rw [hid_ne n]
  exact e b o n h
theorem hid_in {p : Addr} {H : Hp} : Same (hid p H) H := fun b o h => (hid_some h).2

/-! ### data -/
section
variable {K : PySem.W.Frag}
theorem sqT_mono {H H' : Hp} {a : Addr} {xs : List V} (e : Same H H') (h : SqT K H a xs) : SqT K H' a xs := by
  rcases h with (h | ⟨o, h⟩) | h
  · exact .inl (.inl (e _ _ h))
  · exact .inl (.inr ⟨o, e _ _ h⟩)
  · exact .inr h
mutual
theorem Dp.mono {H H' : Hp} (e : Same H H') : ∀ {v : V} {d : PyData}, Dp K H v d → Dp K H' v d
  | _, _, .non => .non
  | _, _, .bl b => .bl b
  | _, _, .int i => .int i
  | _, _, .str x => .str x
  | _, _, .lst h a => .lst (e.seq h) (DpAll.mono e a)
  | _, _, .tup h a => .tup (sqT_mono e h) (DpAll.mono e a)
theorem DpAll.mono {H H' : Hp} (e : Same H H') : ∀ {vs : List V} {ds : List PyData}, DpAll K H vs ds → DpAll K H' vs ds
  | _, _, .nil => .nil
  | _, _, .cons h t => .cons (Dp.mono e h) (DpAll.mono e t)
end
theorem DpAll.len {H : Hp} : ∀ {vs : List V} {ds : List PyData}, DpAll K H vs ds → vs.length = ds.length
  | _, _, .nil => rfl
  | _, _, .cons _ t => congrArg (· + 1) (DpAll.len t)
theorem DpAll.app {H : Hp} : ∀ {vs ws : List V} {ds es : List PyData}, DpAll K H vs ds → DpAll K H ws es → DpAll K H (vs ++ ws) (ds ++ es)
  | _, _, _, _, .nil, t => t
  | _, _, _, _, .cons h s, t => .cons h (DpAll.app s t)
theorem DpAll.get {H : Hp} : ∀ {vs : List V} {ds : List PyData} {i : Nat} {d : PyData}, DpAll K H vs ds → ds[i]? = some d → ∃ v, vs[i]? = some v ∧ Dp K H v d
  | _, _, _, _, .nil, h => by simp at h
  | _, _, 0, _, .cons h _, e => by
    simp at e
    subst e
    exact ⟨_, rfl, h⟩
  | _, _, i + 1, _, .cons _ t, e => by
    obtain ⟨v, h1, h2⟩ := DpAll.get t (i := i) (by simpa using e)
    exact ⟨v, by simpa using h1, h2⟩
/-- data that does not come by the pot -/
abbrev Dh (K : PySem.W.Frag) (p : Addr) (H : Hp) (v : V) (d : PyData) : Prop := Dp K (hid p H) v d
abbrev DhAll (K : PySem.W.Frag) (p : Addr) (H : Hp) (vs : List V) (ds : List PyData) : Prop := DpAll K (hid p H) vs ds
theorem Dp.un {p : Addr} {H : Hp} {v : V} {d : PyData} (h : Dh K p H v d) : Dp K H v d := Dp.mono hid_in h
theorem Dp.but {p : Addr} {H H' : Hp} {v : V} {d : PyData} (e : But p H H') (h : Dh K p H v d) : Dh K p H' v d := Dp.mono (hid_but e) h
theorem DpAll.but {p : Addr} {H H' : Hp} {vs : List V} {ds : List PyData} (e : But p H H') (h : DhAll K p H vs ds) : DhAll K p H' vs ds := DpAll.mono (hid_but e) h
/-- a new tuple, a new list -/
theorem Dp.newT {p q : Addr} {H : Hp} {xs : List V} {ds : List PyData} (hq : H q = none) (n : q ≠ p) (h : DhAll K p H xs ds) : Dh K p (upd H q (.tup xs)) (.ref q) (.tuple ds) :=
  .tup (.inl (.inl (by rw [hid_ne n, upd_same]))) (DpAll.but (But.new hq) h)
theorem Dp.newL {p q : Addr} {H : Hp} {xs : List V} {ds : List PyData} (hq : H q = none) (n : q ≠ p) (h : DhAll K p H xs ds) : Dh K p (upd H q (.lst xs)) (.ref q) (.list ds) :=
  .lst (.inl (.inl (by rw [hid_ne n, upd_same]))) (DpAll.but (But.new hq) h)
theorem Dp.newT0 {q : Addr} {H : Hp} {xs : List V} {ds : List PyData} (hq : H q = none) (h : DpAll K H xs ds) : Dp K (upd H q (.tup xs)) (.ref q) (.tuple ds) :=
  .tup (.inl (.inl upd_same)) (DpAll.mono (Same.new hq) h)
theorem Dp.newL0 {q : Addr} {H : Hp} {xs : List V} {ds : List PyData} (hq : H q = none) (h : DpAll K H xs ds) : Dp K (upd H q (.lst xs)) (.ref q) (.list ds) :=
  .lst (.inl (.inl upd_same)) (DpAll.mono (Same.new hq) h)

/-! ### isinstance of data -/
def tyN : PyData → String
  | .none => "NoneType" | .bool _ => "bool" | .int _ => "int" | .str _ => "str" | .list _ => "list" | .tuple _ => "tuple" | .dict _ => "dict"
theorem Dp.ty {H : Hp} {v : V} {d : PyData} (h : Dp K H v d) : TyX K H v (.type (tyN d)) := by
  cases h with
  | non => exact .base .non
  | bl b => exact .base (.bl b)
  | int i => exact .base (.int i)
  | str x => exact .base (.str x)
  | lst hs _ =>
    rcases hs with (h | ⟨o, h⟩) | ⟨o, its, n, h, hc, _⟩
    · exact .base (.lst h)
    · exact .base (.frz h)
    · exact .kList h hc
  | tup hs _ =>
    rcases hs with (h | ⟨o, h⟩) | ⟨o, its, n, h, hc, _⟩
    · exact .base (.tup h)
    · exact .fTuple h
    · exact .kTuple h hc
def isS : PyData → Bool | .str _ => true | _ => false
def isT : PyData → Bool | .tuple _ => true | _ => false
def isL : PyData → Bool | .list _ => true | _ => false
def isB : PyData → Bool | .bool _ => true | _ => false
def isI : PyData → Bool | .bool _ => true | .int _ => true | _ => false
def isOf : String → PyData → Bool
  | "str", d => isS d
  | "tuple", d => isT d
  | "list", d => isL d
  | "bool", d => isB d
  | "int", d => isI d
  | _, _ => false
def tabN (a T : String) : Bool := a == T || (a == "bool" && T == "int")
theorem kitN : (["NoneType", "bool", "int", "str", "list", "tuple"].all fun a => ["str", "tuple", "list", "bool", "int"].all fun T => kitB a T == some (tabN a T)) = true := by decide +kernel
theorem kit_all {a T : String} (ha : a ∈ ["NoneType", "bool", "int", "str", "list", "tuple"]) (hT : T ∈ ["str", "tuple", "list", "bool", "int"]) : kitB a T = some (tabN a T) := by
  have h := List.all_eq_true.mp (List.all_eq_true.mp kitN a ha) T hT
  exact eq_of_beq h
theorem Dp.nodict {H : Hp} {v : V} {d : PyData} (h : Dp K H v d) : tyN d ≠ "dict" := by cases h <;> (intro e; exact absurd e (by simp [tyN]))
theorem isOf_tab {T : String} (hT : T ∈ ["str", "tuple", "list", "bool", "int"]) (d : PyData) : isOf T d = tabN (tyN d) T := by
  simp only [List.mem_cons, List.not_mem_nil, or_false] at hT
  rcases hT with rfl | rfl | rfl | rfl | rfl <;> cases d <;> first | rfl | decide
theorem isOf_kit {H : Hp} {v : V} {d : PyData} {T : String} (h : Dp K H v d) (hT : T ∈ ["str", "tuple", "list", "bool", "int"]) : kitB (tyN d) T = some (isOf T d) := by
  have n := h.nodict
  rw [isOf_tab hT]
  refine kit_all ?_ hT
  cases d <;> first | exact absurd rfl n | simp [tyN]
end
def rIsD (K : PySem.W.Frag) : List V → Hp → VK → Prop := fun xs H Q => ∃ (v : V) (d : PyData) (T : String), xs = [v, .ty T] ∧ Dp K H v d ∧ T ∈ ["str", "tuple", "list", "bool", "int"] ∧ Q (.bl (isOf T d)) H
section
variable {X : Cx}
theorem call_isD : CallR X (.builtin "isinstance") (rIsD X.K) := by
  intro pins s σ H xs us Q I r h
  obtain ⟨v, d, T, rfl, hd, hT, q⟩ := h
  exact call_isi pins s σ H _ us Q I r ⟨v, .ty T, .type (tyN d), .type T, isOf T d, rfl, .ty T, hd.ty, kit_ty (isOf_kit hd hT), q⟩
/-! ### repr of data -/
def shownB (d : PyData) : Prop := d.showable = true ∧ SeqAt.shaped d = true ∧ d.shown.length ≤ sizeLine
def rReprD (K : PySem.W.Frag) : List V → Hp → VK → Prop := fun xs H Q => ∃ (v : V) (d : PyData), xs = [v] ∧ Dp K H v d ∧ shownB d ∧ Q (.str d.shown) H
theorem call_reprD (hg : X.A.guards = some []) (hu : X.A.units + 70 < cLine) : CallR X (.builtin "repr") (rReprD X.K) := by
  intro pins s σ H xs us Q I r h
  obtain ⟨v, d, rfl, hd, ⟨hs, hsh, hl⟩, q⟩ := h
  obtain ⟨u, rfl, ru⟩ := vals1 r
  have hdep := SeqAt.depth_of_shaped hsh
  have hnd : d.hasDict = false := PyData.hasDict_of_canLay d (SeqAt.canLay_of_shaped hsh)
  obtain ⟨as, rd⟩ := Dp.reads I d v u hd ru
  have big : ∀ a, u = Value.ref a → wpAny (model X.prog X.w) X.A (call (.builtin "repr") [u]) (EP X pins σ Q) X.xe s := fun a e => by
    subst e
    exact repr_of_reads' rd hs (PyData.noDict_hsm hnd) hg (by omega) (fun _ _ e => e) (fun h' t tk k => ⟨.str d.shown, H, I.kept k, ⟨_, rfl⟩, q⟩) hl
  cases hd with
  | non =>
    cases ru
    exact PySem.P.repr_of_none ⟨.str _, H, I.tok _, ⟨_, rfl⟩, by simpa only [PyData.shown] using q⟩
  | bl b =>
    cases ru
    exact PySem.P.repr_of_bool ⟨.str _, H, I.tok _, ⟨_, rfl⟩, by simpa only [PyData.shown] using q⟩
  | int i =>
    obtain ⟨t, rfl⟩ := ru
    exact PySem.P.repr_of_int (by simpa [PyData.showable] using hs) ⟨.str _, H, I.tok _, ⟨_, rfl⟩, by simpa only [PyData.shown] using q⟩
  | str x =>
    obtain ⟨t, rfl⟩ := ru
    exact PySem.P.repr_of_str ⟨.str _, H, I.tok _, ⟨_, rfl⟩, by simpa only [PyData.shown] using q⟩ (by simpa only [PyData.shown] using hl)
  | lst _ _ => exact big _ ru
  | tup _ _ => exact big _ ru
end
/-! ### a comprehension over a text -/
theorem lc_str {z : Str} {g : TG} {tt : TT} {te : TE} {vs : List Nat} {σ : L2.St} {H1 : Hp} {D : Addr} {Qd : Hp → Prop} (Pv : Nat → Hp → Prop) (h0 : Pv 0 (upd H1 D (.lst [])))
    (hs : ∀ i c H, z.cps.toList[i]? = some c → Pv i H → g (.str ⟨#[c]⟩) (wipe σ vs) H fun σ2 H2 => wipe σ2 vs = wipe σ vs ∧ tt σ2 H2 fun b H3 =>
      if b = true then te σ2 H3 fun y H4 => ∃ acc, H4 D = some (.lst acc) ∧ acc.length < sizeLine ∧ Pv (i + 1) (upd H4 D (.lst (acc ++ [y]))) else Pv (i + 1) H3) (hd : ∀ H, Pv z.cps.toList.length H → Qd H) :
    ∃ W : Nat → Nat → Hp → Prop, (∃ m, W 0 m (upd H1 D (.lst []))) ∧ ∀ i m H, W i m H →
      ((Its z).stop i H ∧ Qd H) ∨ ((Its z).go i H ∧ ∃ Nx : Hp → Prop, (∀ H', Nx H' → ∃ m', m' < m ∧ W (i + 1) m' H') ∧ ∀ x H', (Its z).yld i H x H' → g x (wipe σ vs) H' fun σ2 H2 => wipe σ2 vs = wipe σ vs ∧ tt σ2 H2 fun b H3 =>
        if b = true then te σ2 H3 fun y H4 => ∃ acc, H4 D = some (.lst acc) ∧ acc.length < sizeLine ∧ Nx (upd H4 D (.lst (acc ++ [y]))) else Nx H3) := by
  have hz : z.cps.toList.length = z.cps.size := Array.length_toList
  refine ⟨fun i m H => m = z.cps.size - i ∧ i ≤ z.cps.size ∧ Pv i H, ⟨z.cps.size, by simp, Nat.zero_le _, h0⟩, ?_⟩
  rintro i m H ⟨rfl, hi, p⟩
  by_cases hlt : i < z.cps.size
  · refine .inr ⟨hlt, Pv (i + 1), fun H' p' => ⟨z.cps.size - (i + 1), by omega, rfl, hlt, p'⟩, fun x H' y => ?_⟩
    obtain ⟨e, c, hc, rfl⟩ := y
    subst e
    exact hs i c _ (by rw [Array.getElem?_toList]; exact hc) p
  · have e : i = z.cps.size := by omega
    subst e
    exact .inl ⟨Nat.le_refl _, hd H (by rw [hz]; exact p)⟩

/-! ### the pot: two numbers -/
structure Pot (H : Hp) (p : Addr) (x y : Int) : Prop where
  at_ : H p = some (.lst [.int x, .int y])
  x0 : 0 ≤ x
  y0 : 0 ≤ y
  y1 : y < 1099511627776
theorem Pot.ne {H : Hp} {p q : Addr} {x y : Int} (h : Pot H p x y) (hq : H q = none) : q ≠ p := fun e => by
  subst e
  rw [h.at_] at hq
  cases hq
theorem Pot.same {H H' : Hp} {p : Addr} {x y : Int} (h : Pot H p x y) (e : Same H H') : Pot H' p x y := ⟨e _ _ h.at_, h.x0, h.y0, h.y1⟩
theorem Pot.new {H : Hp} {p q : Addr} {x y : Int} {o : HO} (h : Pot H p x y) (hq : H q = none) : Pot (upd H q o) p x y := h.same (Same.new hq)
theorem hin_of {A : Around} {k : Nat} (hr : Room k A) : A.units + 65 < cLine := by have := hr.un; omega
theorem hrep_of {A : Around} {k : Nat} (hr : Room k A) : A.units + 70 < cLine := by have := hr.un; omega
end L2
set_option Elab.async false
set_option linter.all false
set_option maxRecDepth 100000
set_option maxHeartbeats 4000000
namespace L2
open PySem PySem.Spec PyProof.Rows
/-! ### data with dicts in it -/
mutual
inductive Dq (K : PySem.W.Frag) (H : Hp) : V → PyData → Prop
  | non : Dq K H .non .none
  | bl (b : Bool) : Dq K H (.bl b) (.bool b)
  | int (i : Int) : Dq K H (.int i) (.int i)
  | str (x : Str) : Dq K H (.str x) (.str x)
  | lst {a : Addr} {xs : List V} {ds : List PyData} : SqL K H a xs → DqAll K H xs ds → Dq K H (.ref a) (.list ds)
  | tup {a : Addr} {xs : List V} {ds : List PyData} : SqT K H a xs → DqAll K H xs ds → Dq K H (.ref a) (.tuple ds)
  | dct {a : Addr} {kvs : List (Key × V)} {ps : List (PyData × PyData)} : H a = some (.dK kvs) → DqAll K H (kvs.map fun q => kV q.1) (ps.map (·.1)) → DqAll K H (kvs.map (·.2)) (ps.map (·.2)) → Dq K H (.ref a) (.dict ps)
inductive DqAll (K : PySem.W.Frag) (H : Hp) : List V → List PyData → Prop
  | nil : DqAll K H [] []
  | cons {v : V} {vs : List V} {d : PyData} {ds : List PyData} : Dq K H v d → DqAll K H vs ds → DqAll K H (v :: vs) (d :: ds)
end
section
variable {K : PySem.W.Frag}
mutual
theorem Dp.q {H : Hp} : ∀ {v : V} {d : PyData}, Dp K H v d → Dq K H v d
  | _, _, .non => .non
  | _, _, .bl b => .bl b
  | _, _, .int i => .int i
  | _, _, .str x => .str x
  | _, _, .lst h a => .lst h (DpAll.q a)
  | _, _, .tup h a => .tup h (DpAll.q a)
theorem DpAll.q {H : Hp} : ∀ {vs : List V} {ds : List PyData}, DpAll K H vs ds → DqAll K H vs ds
  | _, _, .nil => .nil
  | _, _, .cons h t => .cons (Dp.q h) (DpAll.q t)
end
mutual
theorem Dq.mono {H H' : Hp} (e : Same H H') : ∀ {v : V} {d : PyData}, Dq K H v d → Dq K H' v d
  | _, _, .non => .non
  | _, _, .bl b => .bl b
  | _, _, .int i => .int i
  | _, _, .str x => .str x
  | _, _, .lst h a => .lst (e.seq h) (DqAll.mono e a)
  | _, _, .tup h a => .tup (sqT_mono e h) (DqAll.mono e a)
  | _, _, .dct h a b => .dct (e _ _ h) (DqAll.mono e a) (DqAll.mono e b)
theorem DqAll.mono {H H' : Hp} (e : Same H H') : ∀ {vs : List V} {ds : List PyData}, DqAll K H vs ds → DqAll K H' vs ds
  | _, _, .nil => .nil
  | _, _, .cons h t => .cons (Dq.mono e h) (DqAll.mono e t)
end
theorem DqAll.len {H : Hp} : ∀ {vs : List V} {ds : List PyData}, DqAll K H vs ds → vs.length = ds.length
  | _, _, .nil => rfl
  | _, _, .cons _ t => congrArg (· + 1) (DqAll.len t)
theorem DqAll.app {H : Hp} : ∀ {vs ws : List V} {ds es : List PyData}, DqAll K H vs ds → DqAll K H ws es → DqAll K H (vs ++ ws) (ds ++ es)
  | _, _, _, _, .nil, t => t
  | _, _, _, _, .cons h s, t => .cons h (DqAll.app s t)
theorem DqAll.at {H : Hp} : ∀ {vs : List V} {ds : List PyData} {i : Nat} {v : V}, DqAll K H vs ds → vs[i]? = some v → ∃ d, ds[i]? = some d ∧ Dq K H v d
  | _, _, i, v, .nil, e => by simp at e
  | _, _, 0, v, .cons h t, e => by
    simp at e
    exact ⟨_, rfl, e ▸ h⟩
  | _, _, i + 1, v, .cons h t, e => by
    obtain ⟨d, h1, h2⟩ := DqAll.at (i := i) t (by simpa using e)
    exact ⟨d, by simpa using h1, h2⟩
abbrev Qh (K : PySem.W.Frag) (p : Addr) (H : Hp) (v : V) (d : PyData) : Prop := Dq K (hid p H) v d
abbrev QhAll (K : PySem.W.Frag) (p : Addr) (H : Hp) (vs : List V) (ds : List PyData) : Prop := DqAll K (hid p H) vs ds
theorem Dq.un {p : Addr} {H : Hp} {v : V} {d : PyData} (h : Qh K p H v d) : Dq K H v d := Dq.mono hid_in h
theorem Dq.but {p : Addr} {H H' : Hp} {v : V} {d : PyData} (e : But p H H') (h : Qh K p H v d) : Qh K p H' v d := Dq.mono (hid_but e) h
theorem DqAll.but {p : Addr} {H H' : Hp} {vs : List V} {ds : List PyData} (e : But p H H') (h : QhAll K p H vs ds) : QhAll K p H' vs ds := DqAll.mono (hid_but e) h
theorem Dq.newT {p q : Addr} {H : Hp} {xs : List V} {ds : List PyData} (hq : H q = none) (n : q ≠ p) (h : QhAll K p H xs ds) : Qh K p (upd H q (.tup xs)) (.ref q) (.tuple ds) :=
  .tup (.inl (.inl (by rw [hid_ne n, upd_same]))) (DqAll.but (But.new hq) h)
theorem Dq.newL {p q : Addr} {H : Hp} {xs : List V} {ds : List PyData} (hq : H q = none) (n : q ≠ p) (h : QhAll K p H xs ds) : Qh K p (upd H q (.lst xs)) (.ref q) (.list ds) :=
  .lst (.inl (.inl (by rw [hid_ne n, upd_same]))) (DqAll.but (But.new hq) h)
theorem Dq.new0 {p q : Addr} {H : Hp} (hq : H q = none) (n : q ≠ p) : Qh K p (upd H q (.dK [])) (.ref q) (.dict []) :=
  .dct (kvs := []) (by rw [hid_ne n, upd_same]) .nil .nil
/-! ### isinstance -/
theorem Dq.ty {H : Hp} {v : V} {d : PyData} (h : Dq K H v d) : TyX K H v (.type (tyN d)) := by
  cases h with
  | non => exact .base .non
  | bl b => exact .base (.bl b)
  | int i => exact .base (.int i)
  | str x => exact .base (.str x)
  | lst hs _ =>
    rcases hs with (h | ⟨o, h⟩) | ⟨o, its, n, h, hc, _⟩
    · exact .base (.lst h)
    · exact .base (.frz h)
    · exact .kList h hc
  | tup hs _ =>
    rcases hs with (h | ⟨o, h⟩) | ⟨o, its, n, h, hc, _⟩
    · exact .base (.tup h)
    · exact .fTuple h
    · exact .kTuple h hc
  | dct h _ _ => exact .base (.dK h)
def isD : PyData → Bool | .dict _ => true | _ => false
def isOfQ : String → PyData → Bool
  | "str", d => isS d
  | "tuple", d => isT d
  | "list", d => isL d
  | "bool", d => isB d
  | "int", d => isI d
  | "dict", d => isD d
  | _, _ => false
theorem kitNq : (["NoneType", "bool", "int", "str", "list", "tuple", "dict"].all fun a => ["str", "tuple", "list", "bool", "int", "dict"].all fun T => kitB a T == some (tabN a T)) = true := by decide +kernel
theorem kit_allq {a T : String} (ha : a ∈ ["NoneType", "bool", "int", "str", "list", "tuple", "dict"]) (hT : T ∈ ["str", "tuple", "list", "bool", "int", "dict"]) : kitB a T = some (tabN a T) := by
  have h := List.all_eq_true.mp (List.all_eq_true.mp kitNq a ha) T hT
  exact eq_of_beq h
theorem isOfQ_tab {T : String} (hT : T ∈ ["str", "tuple", "list", "bool", "int", "dict"]) (d : PyData) : isOfQ T d = tabN (tyN d) T := by
  simp only [List.mem_cons, List.not_mem_nil, or_false] at hT
  rcases hT with rfl | rfl | rfl | rfl | rfl | rfl <;> cases d <;> first | rfl | decide
theorem isOfQ_kit {d : PyData} {T : String} (hT : T ∈ ["str", "tuple", "list", "bool", "int", "dict"]) : kitB (tyN d) T = some (isOfQ T d) := by
  rw [isOfQ_tab hT]
  refine kit_allq ?_ hT
  cases d <;> simp [tyN]
end
def rIsQ (K : PySem.W.Frag) : List V → Hp → VK → Prop := fun xs H Q => ∃ (v : V) (d : PyData) (T : String), xs = [v, .ty T] ∧ Dq K H v d ∧ T ∈ ["str", "tuple", "list", "bool", "int", "dict"] ∧ Q (.bl (isOfQ T d)) H
section
variable {X : Cx}
theorem call_isQ : CallR X (.builtin "isinstance") (rIsQ X.K) := by
  intro pins s σ H xs us Q I r h
  obtain ⟨v, d, T, rfl, hd, hT, q⟩ := h
  exact call_isi pins s σ H _ us Q I r ⟨v, .ty T, .type (tyN d), .type T, isOfQ T d, rfl, .ty T, hd.ty, kit_ty (isOfQ_kit hT), q⟩
end
/-! ### the heap's own reading of it; no list beside a dict -/
mutual
def nl : PyData → Bool
  | .list _ => false
  | .tuple xs => nls xs
  | .dict kvs => nlk kvs
  | _ => true
def nls : List PyData → Bool
  | [] => true
  | x :: xs => nl x && nls xs
def nlk : List (PyData × PyData) → Bool
  | [] => true
  | (k, v) :: r => nl k && nl v && nlk r
end
theorem nlk_of : ∀ {ps : List (PyData × PyData)}, nlk ps = true → nls (ps.map (·.1)) = true ∧ nls (ps.map (·.2)) = true
  | [], _ => ⟨rfl, rfl⟩
  | (k, v) :: r, h => by
    have h' : (nl k && nl v && nlk r) = true := by simpa [nlk] using h
    simp only [Bool.and_eq_true] at h'
    have ih := nlk_of h'.2
    simp only [List.map_cons, nls, Bool.and_eq_true]
    exact ⟨⟨h'.1.1, ih.1⟩, ⟨h'.1.2, ih.2⟩⟩
section
variable {P : Program} {w : World}
theorem kv_keys : ∀ {kvs : List (Key × V)} {vs : List (Key × Value)} {es : List DictEntry}, KV kvs vs → Pairs (mixKind P w) es vs → Vals (kvs.map fun q => kV q.1) (es.map (·.key)) ∧ Vals (kvs.map (·.2)) (es.map (·.val))
  | _, _, _, .nil, .nil => ⟨.nil, .nil⟩
  | _, _, _, .cons (a := q) (b := z) ⟨h1, h2⟩ r, .cons (e := e) k1 k2 k3 => by
    have ih := kv_keys r k3
    refine ⟨.cons ?_ ih.1, .cons ?_ ih.2⟩
    · have k1' : keyIs z.1 e.key = true := k1
      rw [← h1] at k1'
      rcases keyIs_shape k1' with ⟨i, t, e1, e2⟩ | ⟨x, t, e1, e2⟩
      · show RelV (kV q.1) e.key
        rw [e1, e2]
        exact ⟨t, rfl⟩
      · show RelV (kV q.1) e.key
        rw [e1, e2]
        exact ⟨t, rfl⟩
    · show RelV q.2 e.val
      rw [k2]
      exact h2
end
section
variable {X : Cx} {pins : List (Addr × Obj)} {σ : St} {H : Hp} {s : Shared}
mutual
theorem Dq.reads (I : Inv X pins σ H s) : ∀ {v : V} {d : PyData} {u : Value}, Dq X.K H v d → RelV v u → ∃ as, Reads s.heap u d as ∧ (nl d = true → sysModules ∉ as)
  | _, _, _, .non, r => by
    cases r
    exact ⟨_, Reads.none, fun _ h => nomatch h⟩
  | _, _, _, .bl b, r => by
    cases r
    exact ⟨_, Reads.bool b, fun _ h => nomatch h⟩
  | _, _, _, .int i, r => by
    obtain ⟨t, rfl⟩ := r
    exact ⟨_, Reads.int i t, fun _ h => nomatch h⟩
  | _, _, _, .str x, r => by
    obtain ⟨t, rfl⟩ := r
    exact ⟨_, Reads.str x t, fun _ h => nomatch h⟩
  | _, _, _, .lst hs ha, r => by
    cases r
    obtain ⟨its, rv, ⟨o, n, ho, hc, _, hd⟩, _⟩ := I.list hs
    obtain ⟨as, hr, _⟩ := DqAll.reads I ha rv
    exact ⟨_, Reads.list ho hc hd hr, fun h => by simp [nl] at h⟩
  | _, _, _, .tup hs ha, r => by
    cases r
    obtain ⟨its, rv, ⟨o, ho, hc, n, hd⟩, _⟩ := I.tuple hs
    obtain ⟨as, hr, hn⟩ := DqAll.reads I ha rv
    exact ⟨_, Reads.tuple ho hc hd hr, fun h => hn (by simpa [nl] using h)⟩
  | _, _, _, .dct (a := a) (ps := ps) hs hk hv, r => by
    cases r
    obtain ⟨_, hlow, vs, kv, o, es, ep, ho, ⟨hc, _, _⟩, hd, _, hp, _⟩ := I.hok _ _ hs
    obtain ⟨v1, v2⟩ := kv_keys kv hp
    obtain ⟨as, r1, n1⟩ := DqAll.reads I hk v1
    obtain ⟨bs, r2, n2⟩ := DqAll.reads I hv v2
    refine ⟨_, Reads.dict ho hc hd r1 r2, fun h => ?_⟩
    have h' := nlk_of (ps := ps) (by simpa [nl] using h)
    have hl := beq_eq_false_iff_ne.mp hlow
    intro hm
    rw [List.cons_append, List.mem_cons, List.mem_append] at hm
    rcases hm with hm | hm | hm
    · exact hl hm.symm
    · exact n1 h'.1 hm
    · exact n2 h'.2 hm
theorem DqAll.reads (I : Inv X pins σ H s) : ∀ {vs : List V} {ds : List PyData} {us : List Value}, DqAll X.K H vs ds → Vals vs us → ∃ as, ReadsAll s.heap us ds as ∧ (nls ds = true → sysModules ∉ as)
  | _, _, _, .nil, r => by
    cases r
    exact ⟨_, ReadsAll.nil, fun _ h => nomatch h⟩
  | _, _, _, .cons h1 h2, r => by
    cases r with
    | cons r1 r2 =>
      obtain ⟨as, q1, n1⟩ := Dq.reads I h1 r1
      obtain ⟨bs, q2, n2⟩ := DqAll.reads I h2 r2
      refine ⟨_, ReadsAll.cons q1 q2, fun h => ?_⟩
      have h' := h
      simp only [nls, Bool.and_eq_true] at h'
      intro hm
      rcases List.mem_append.mp hm with hm | hm
      · exact n1 h'.1 hm
      · exact n2 h'.2 hm
end
/-! ### repr -/
structure shownQ (d : PyData) : Prop where
  sh : d.showable = true
  dep : d.depth ≤ 64
  len : d.shown.length ≤ sizeLine
  nd : d.hasDict = true → nl d = true
def rReprQ (K : PySem.W.Frag) : List V → Hp → VK → Prop := fun xs H Q => ∃ (v : V) (d : PyData), xs = [v] ∧ Dq K H v d ∧ shownQ d ∧ Q (.str d.shown) H
theorem call_reprQ (hg : X.A.guards = some []) (hu : X.A.units + 70 < cLine) : CallR X (.builtin "repr") (rReprQ X.K) := by
  intro pins s σ H xs us Q I r h
  obtain ⟨v, d, rfl, hd, ⟨hs, hdep, hl, hnd⟩, q⟩ := h
  obtain ⟨u, rfl, ru⟩ := vals1 r
  obtain ⟨as, rd, hm⟩ := Dq.reads I hd ru
  have big : ∀ a, u = Value.ref a → wpAny (model X.prog X.w) X.A (call (.builtin "repr") [u]) (EP X pins σ Q) X.xe s := fun a e => by
    subst e
    exact repr_of_reads' rd hs (fun h => hm (hnd h)) hg (by omega) (fun _ _ e => e) (fun h' t tk k => ⟨.str d.shown, H, I.kept k, ⟨_, rfl⟩, q⟩) hl
  cases hd with
  | non =>
    cases ru
    exact PySem.P.repr_of_none ⟨.str _, H, I.tok _, ⟨_, rfl⟩, by simpa only [PyData.shown] using q⟩
  | bl b =>
    cases ru
    exact PySem.P.repr_of_bool ⟨.str _, H, I.tok _, ⟨_, rfl⟩, by simpa only [PyData.shown] using q⟩
  | int i =>
    obtain ⟨t, rfl⟩ := ru
    exact PySem.P.repr_of_int (by simpa [PyData.showable] using hs) ⟨.str _, H, I.tok _, ⟨_, rfl⟩, by simpa only [PyData.shown] using q⟩
  | str x =>
    obtain ⟨t, rfl⟩ := ru
    exact PySem.P.repr_of_str ⟨.str _, H, I.tok _, ⟨_, rfl⟩, by simpa only [PyData.shown] using q⟩ (by simpa only [PyData.shown] using hl)
  | lst _ _ => exact big _ ru
  | tup _ _ => exact big _ ru
  | dct _ _ _ => exact big _ ru
end
end L2
set_option Elab.async false
set_option linter.all false
set_option maxRecDepth 100000
set_option maxHeartbeats 4000000
namespace L2
open PySem PySem.Spec PyProof.Rows
/-! ### xs == [], xs of anything; xs.extend(t), t a tuple -/
def rEqNil (K : PySem.W.Frag) : R2 := fun x y H Q => ∃ a b xs, x = .ref a ∧ y = .ref b ∧ SqL K H a xs ∧ SqL K H b [] ∧ Q (.bl xs.isEmpty) H
def rNeNil (K : PySem.W.Frag) : R2 := fun x y H Q => ∃ a b xs, x = .ref a ∧ y = .ref b ∧ SqL K H a xs ∧ SqL K H b [] ∧ Q (.bl (!xs.isEmpty)) H
theorem list_extend_tupW (l : Addr) (items : Array Value) (n : Nat) (b : Addr) (items2 : Array Value) (n2 : Nat) (dd2 : Option Addr) (sl2 : Array (Option Value)) (hs0 : ¬(!items.isEmpty && Builtin.List.listTooLong (items.size + items2.size)) = true) (hs1 : items.size ≤ sizeLine) (hs2 : items.size + items2.size ≤ sizeLine + 1) :
    Meets (Builtin.«list.extend» ⟨[.ref l, .ref b], []⟩) (fun _ R s => s.heap.get? l = some { cls := .type "list", dict := none, data := .seq items n, slots := #[] } ∧ s.heap.get? b = some { cls := .type "tuple", dict := dd2, data := .seq items2 n2, slots := sl2 } ∧ R (.ok (.ret Value.none)) { s with heap := s.heap.update l (Obj.mapSeq fun x => x ++ items2), toks := s.toks }) :=
  .of_wp fun prog w A R s h => by
    obtain ⟨hp, g, d, tk, os⟩ := s
    obtain ⟨hl, hb, h⟩ := h
    have f1 := AutoSeq1.idx_int
    have f2 := AutoSeq1.sub_tuple_tuple
    have f3 := AutoSeq1.sub_list_list
    have f4 := AutoSeq1.sub_tuple_list
    have f5 := AutoSeq1.sub_list_tuple
    have hz' : (items ++ items2).size ≤ sizeLine + 1 := by rw [Array.size_append]; exact hs2
    wp_walk using (wpAny_updateSeq hl rfl (hz := hs1) (_hz' := hz')), AutoSeq1.wpAny_loadPart' hl, AutoSeq1.wpAny_loadPart' hb
    exact ⟨_, rfl, h⟩
def rExtT (K : PySem.W.Frag) : V → List V → Hp → VK → Prop := fun x vs H Q => ∃ l b xs zs, x = .ref l ∧ vs = [.ref b] ∧ H l = some (.lst xs) ∧ SqT K H b zs ∧ xs.length + zs.length ≤ sizeLine ∧ Q .non (upd H l (.lst (xs ++ zs)))
section
variable {X : Cx}
theorem op_eqNil (hu : X.A.units + 64 < cLine) : OpR X (compareOp .Eq) (rEqNil X.K) := by
  intro pins s σ H x y v u Q I rx ry h
  obtain ⟨a, b, xs, rfl, rfl, ha, hb, q⟩ := h
  cases rx
  cases ry
  obtain ⟨its, r1, ⟨⟨cls, dd, data, sl⟩, n, ho, hc, hdn, hd⟩, hz1⟩ := I.list ha
  obtain ⟨its2, r2, ⟨⟨cls2, dd2, data2, sl2⟩, n2, ho2, hc2, hdn2, hd2⟩, hz2⟩ := I.list hb
  simp only at hc hd hc2 hd2
  subst hc hd hc2 hd2
  cases r2
  have hl1 := r1.length
  cases xs with
  | nil =>
    cases r1
    have e := SeqAt.list_eqAt a b (#[] : Array Value) (#[] : Array Value) n n2 dd dd2 sl sl2 rfl (fun _ => true)
    exact richCompare_meets_room (op := .Eq) ⟨_, ho, rfl⟩ ⟨_, ho2, rfl⟩ F.slot_list_eq F.entry_list_eq (F.args_list_eq_2 _ _) e
      ⟨ho, ho2, fun j h1 => absurd h1 (Nat.not_lt_zero _), show Value.bool true ≠ Value.notImplemented ∧ _ from ⟨(fun x => nomatch x), .bl true, H, I, rfl, q⟩⟩ (by omega)
  | cons y ys =>
    have hne : (its.toArray.size != (#[] : Array Value).size) = true := by
      rw [List.size_toArray, ← hl1]
      rfl
    exact richCompare_meets_room (op := .Eq) ⟨_, ho, rfl⟩ ⟨_, ho2, rfl⟩ F.slot_list_eq F.entry_list_eq (F.args_list_eq_2 _ _) (SeqAt.list_eq_lengthsAt a b its.toArray #[] n n2 dd dd2 sl sl2 hne)
      ⟨ho, ho2, show Value.bool false ≠ Value.notImplemented ∧ _ from ⟨(fun x => nomatch x), .bl false, H, I, rfl, q⟩⟩ (by omega)
theorem op_neNil (hu : X.A.units + 64 < cLine) : OpR X (compareOp .NotEq) (rNeNil X.K) := by
  intro pins s σ H x y v u Q I rx ry h
  obtain ⟨a, b, xs, rfl, rfl, ha, hb, q⟩ := h
  cases rx
  cases ry
  obtain ⟨its, r1, ⟨⟨cls, dd, data, sl⟩, n, ho, hc, hdn, hd⟩, hz1⟩ := I.list ha
  obtain ⟨its2, r2, ⟨⟨cls2, dd2, data2, sl2⟩, n2, ho2, hc2, hdn2, hd2⟩, hz2⟩ := I.list hb
  simp only at hc hd hc2 hd2
  subst hc hd hc2 hd2
  cases r2
  have hl1 := r1.length
  cases xs with
  | nil =>
    cases r1
    have e := SeqAt.list_neAt a b (#[] : Array Value) (#[] : Array Value) n n2 dd dd2 sl sl2 rfl (fun _ => true)
    exact richCompare_meets_room (op := .NotEq) ⟨_, ho, rfl⟩ ⟨_, ho2, rfl⟩ F.slot_list_ne F.entry_list_ne (F.args_list_ne_2 _ _) e
      ⟨ho, ho2, fun j h1 => absurd h1 (Nat.not_lt_zero _), show Value.bool false ≠ Value.notImplemented ∧ _ from ⟨(fun x => nomatch x), .bl false, H, I, rfl, q⟩⟩ (by omega)
  | cons y ys =>
    have hne : (its.toArray.size != (#[] : Array Value).size) = true := by
      rw [List.size_toArray, ← hl1]
      rfl
    exact richCompare_meets_room (op := .NotEq) ⟨_, ho, rfl⟩ ⟨_, ho2, rfl⟩ F.slot_list_ne F.entry_list_ne (F.args_list_ne_2 _ _) (SeqAt.list_ne_lengthsAt a b its.toArray #[] n n2 dd dd2 sl sl2 hne)
      ⟨ho, ho2, show Value.bool true ≠ Value.notImplemented ∧ _ from ⟨(fun x => nomatch x), .bl true, H, I, rfl, q⟩⟩ (by omega)
theorem mt_extendT : MtM X "list.extend" (rExtT X.K) := by
  intro pins s σ H x vs v us Q I rx rv h
  obtain ⟨l, b, xs, zs, rfl, rfl, hH, hB, hz, q⟩ := h
  cases rx
  obtain ⟨u, rfl, ru⟩ := rv.one
  cases ru
  obtain ⟨z, its, n, r, hl, e⟩ := I.lstM hH
  obtain ⟨its2, r2, ⟨⟨cls2, dd2, data2, sl2⟩, ho2, hc2, n2, hd2⟩, z2⟩ := I.tuple hB
  simp only at hc2 hd2
  subst hc2 hd2
  have hl2 := r2.length
  have hsz : its.toArray.size + its2.toArray.size ≤ sizeLine := by rw [List.size_toArray, List.size_toArray]; omega
  have hlong : ¬ (!its.toArray.isEmpty && Builtin.List.listTooLong (its.toArray.size + its2.toArray.size)) = true := by
    rw [notLongL hsz, Bool.and_false]
    exact Bool.false_ne_true
  refine call_meets F.slot_list_extend ⟨_, e, rfl⟩ F.entry_list_extend (F.args_list_extend_2 _ _)
    (list_extend_tupW l its.toArray n b its2.toArray n2 dd2 sl2 hlong (by rw [List.size_toArray]; omega) (by omega)) ⟨e, ho2, ?_⟩
  refine ⟨.non, _, I.lset (its' := its ++ its2) hH e (by simp) (r.append r2) ?_, rfl, q⟩
  rw [List.length_append]
  omega
end
end L2
set_option Elab.async false
set_option linter.all false
set_option maxRecDepth 100000
set_option maxHeartbeats 4000000
namespace L2
open PySem PySem.Spec PyProof.Rows
/-! a def whose promise is asked only where no repr is under way -/
structure FnG (P : Program) (w : World) (K : PySem.W.Frag) (mg : Str → Option Value) (base : Heap) (CX : CXT) (k : Nat) (f : Addr) (fd : FuncData) (ps : List Str) (sp : Sp) : Prop where
  run : ∀ (A : Around) (outer : List Env) (s : Shared) (H : Hp) (args : Args) (us : List Value) (vs : List V) (Q : VK) (E : XK), A.guards = some [] → Room k A → Env0 P w K mg base A outer s H →
    BindsTo s fd args (ps.zip us) → Vals vs us → sp vs H Q E → codeAny (model P w) A (.call (.ref f) args) (CR CX outer P w H s Q E) s
section
variable {P : Program} {w : World} {K : PySem.W.Frag} {mg : Str → Option Value} {base : Heap} {CX : CXT} {k : Nat}
theorem fnG_of {f : Addr} {nm ql : Str} {pa : Arguments} {bd : List Stmt} {sc : Scope} {dV kV dc pm cdv ct oc : Value} {an od : Option Addr} {osl : Array (Option Value)} {N ps : List Str} {sp : Sp}
    (lk : K.lookup f = some ⟨oc, od, .func (PySem.W.fnOf nm ql pa bd sc dV kV dc pm an cdv ct), osl⟩) (hcd : PySem.W.codeIn K cdv ql = true) (S : FnScope N ps sc)
    (ln : ∀ vs H Q E, sp vs H Q E → vs.length = ps.length)
    (hb : ∀ (A : Around) (outer : List Env) (s : Shared) (H : Hp) (vs : List V) (Q : VK) (E : XK), (A.deeper (envOfC ql sc s.heap.objs.size f cdv)).guards = some [] → Room k (A.deeper (envOfC ql sc s.heap.objs.size f cdv)) → sp vs H Q E →
      ∃ t, PSs (cxOf CX P w K mg base N ql sc f cdv A outer s H E) bd t ∧ t { nx := fun _ H' => Q .non H', rt := Q } (start N vs) H) :
    FnG P w K mg base CX (k + 1) f (PySem.W.fnOf nm ql pa bd sc dV kV dc pm an cdv ct) ps sp := by
  constructor
  intro A outer s H args us vs Q E hg hr e0 hbd rv hsp
  have hln := ln _ _ _ _ hsp
  have inK : K.In s.heap := e0.mod.kin.keeps (fun b o e => (e0.bs b o e).1)
  have noL : s.heap.NoLimit := e0.mod.nolimit.keeps (fun b o e => (e0.bs b o e).1)
  have hkd : ∀ y ∈ ps.zip us, sc.names.lookup y.1 = some .local ∨ (sc.names.lookup y.1 = some .cell ∧ ((cellsFrom (s.heap.objs.size + 1) sc.names []).lookup y.1).isSome = true) := by
    rintro ⟨n, v⟩ hy
    rcases S.par n (List.of_mem_zip hy).1 with z | z
    · exact Or.inl z
    · exact Or.inr ⟨z, PySem.W.cellsFrom_some _ _ _ (Or.inl z)⟩
  refine codeAny_call_function hr.depth (inK _ _ lk) rfl S.co S.gen rfl
    (PySem.W.codeRec_of inK hcd) (hbd _ _ _ _ ?_)
  refine wpAny_newFunctionEnv_cells S.kind hkd
    (fun env he s1 x => ?_)
  subst he
  refine ⟨noL.keeps x.toInCall.keep, codeAny_func ?_⟩
  obtain ⟨t, ht, hq⟩ := hb A outer s H vs Q E hg (hr.deeper _) hsp
  have I0 := inv_start (CX := CX) (E := E) S hr.hd e0 hln rv x
  refine wpAny_mono (ht.run [] s1 (start N vs) H _ I0 hq)
    (fun fl s' hs => ?_) (fun e s' hs => hs)
  have done : ∀ {σ' : St} {H' : Hp} {v : V} {u : Value}, Inv (cxOf CX P w K mg base N ql sc f cdv A outer s H E) [] σ' H' s' → RelV v u → Q v H' → CE outer P w H s Q u s' := by
    intro σ' H' v u J r q
    exact ⟨v, H', J.os, J.bare, J.base, J.hok, r, q⟩
  cases fl with
  | ret u =>
    obtain ⟨v, σ', H', J, r, q⟩ := hs
    exact done J r q
  | next =>
    obtain ⟨σ', H', J, q⟩ := hs
    exact done (v := .non) (u := .none) J rfl q
  | brk => exact (hs.elim fun _ ⟨_, _, q⟩ => q.elim)
  | cont => exact (hs.elim fun _ ⟨_, _, q⟩ => q.elim)
/-- by its place in the text, as C8's -/
theorem fnG0 {x : Str} {st : Stmt} {f : Addr} {fd : FuncData} {N ps : List Str} {sp : Sp} (D : C8.Def K mg x st f fd) (S : FnScope N ps (C8.fnScope st)) (ln : ∀ vs H Q E, sp vs H Q E → vs.length = ps.length)
    (hb : ∀ (cdv : Value) (A : Around) (outer : List Env) (s : Shared) (H : Hp) (vs : List V) (Q : VK) (E : XK), (A.deeper (envOfC x (C8.fnScope st) s.heap.objs.size f cdv)).guards = some [] → Room k (A.deeper (envOfC x (C8.fnScope st) s.heap.objs.size f cdv)) → sp vs H Q E →
      ∃ t, PSs (cxOf C8.CX0 P w K mg base N x (C8.fnScope st) f cdv A outer s H E).nox (C8.fnBody st) t ∧ t { nx := fun _ H' => Q .non H', rt := Q } (start N vs) H) : FnG P w K mg base C8.CX0 (k + 1) f fd ps sp := by
  obtain ⟨oc, od, dV, kV, doc, pm, an, cdv, ct, osl, rfl, lk, hcd⟩ := D.fn.ex
  refine fnG_of lk hcd S ln (fun A outer s H vs Q E hg hr hsp => ?_)
  obtain ⟨t, h, q⟩ := hb cdv A outer s H vs Q E hg hr hsp
  exact ⟨t, h.nox, q⟩
end
/-- the law's call, from such a promise -/
theorem lawG {P : Program} {w : World} {K : PySem.W.Frag} {mg mb : Str → Option Value} {CX : CXT} {k : Nat} {fa a : Addr} {fd : FuncData} {x : Str} {sp : Sp} {s₁ : Shared} {vs : List Value} {ns : List Int}
    (KX : K.In s₁.heap) (hns : s₁.heap.Ns mainGlobals mg) (hb : s₁.heap.Ns builtinsNs mb) (hbb : ∀ x : Str, x ≠ "__name__" → mb x = bootBuiltins x) (hlim : s₁.heap.NoLimit) (hg : s₁.gens = #[])
    (ha : s₁.heap.get? a = some { cls := .type "list", data := .seq vs.toArray }) (hi : IntsAre vs ns) (hl : ns.length ≤ sizeLine) (hr : Room k callerA)
    (F : ∀ base : Heap, K.In base → base.Ns mainGlobals mg → FnG P w K mg base CX k fa fd [x] sp)
    (hbind : ∀ (s : Shared) (u : Value), BindsTo s fd ⟨[u], []⟩ [(x, u)])
    (hsp : ∀ H : Hp, Only H → SqL K H a (ns.map V.int) → sp [.ref a] H (fun v _ => v = .bl true) fun _ _ _ => False)
    (hCX : ∀ H e s', CX [] H s₁ (fun _ _ _ => False) e s' → False) :
    codeAny (model P w) callerA (.call (.ref fa) ⟨[.ref a], []⟩) (fun r s' => r = .ok (.ret (.bool true)) ∧ OldK s₁.heap s'.heap ∧ s'.os = s₁.os ∧ AllBare s'.gens) s₁ := by
  have vi := vals_ints hi
  have hvl := hi.length
  have main : ∀ H : Hp, Only H → SqL K H a (ns.map V.int) → HOk P w H s₁.heap → (∀ b, H b ≠ none → b = a) → (H a ≠ none → K.lookup a = none) →
      codeAny (model P w) callerA (.call (.ref fa) ⟨[.ref a], []⟩) (fun r s' => r = .ok (.ret (.bool true)) ∧ OldK s₁.heap s'.heap ∧ s'.os = s₁.os ∧ AllBare s'.gens) s₁ := by
    intro H only hS hok onlyA noK
    have free : ∀ {b : Addr} {o : Obj} {es : Array DictEntry} {ep : Nat}, s₁.heap.get? b = some o → o.data = .dict es ep → H b = none := by
      intro b o es ep e d
      cases q : H b with
      | none => rfl
      | some u =>
        have hba : b = a := onlyA b (by rw [q]; simp)
        subst hba
        rw [ha] at e
        cases e
        exact nomatch (show Data.seq vs.toArray _ = Data.dict es ep from d)
    have nsAt : ∀ {b : Addr} {m : Str → Option Value}, s₁.heap.Ns b m → (hidT s₁.heap H).Ns b m := by
      rintro b m ⟨o, es, ep, e, d, r⟩
      exact ⟨o, es, ep, hidT_get e (free e d), d, r⟩
    have inB : K.In (hidT s₁.heap H) := by
      intro b o e
      refine hidT_get (KX b o e) ?_
      cases q : H b with
      | none => rfl
      | some u =>
        have hba : b = a := onlyA b (by rw [q]; simp)
        subst hba
        rw [noK (by rw [q]; simp)] at e
        cases e
    have md : Mod K mg (hidT s₁.heap H) := by
      obtain ⟨mc, h1, h2⟩ := hlim
      exact ⟨inB, nsAt hns, ⟨mb, nsAt hb, hbb⟩, ⟨mc, nsAt h1, h2⟩⟩
    have e0 : Env0 P w K mg (hidT s₁.heap H) callerA [] s₁ H := by
      refine ⟨rfl, md, fun b o e => of_hidT e, Nat.le_of_eq (hidT_size _ _), trivial, ?_, hok, .of_eq hg⟩
      intro b hb
      exact absurd (show b ∈ ([] : List Addr) from hb) (by simp)
    have hrun := (F _ inB (nsAt hns)).run callerA [] s₁ H ⟨[.ref a], []⟩ [.ref a] [.ref a] _ _ rfl hr e0
      (hbind s₁ (.ref a)) (.cons rfl .nil) (hsp H only hS)
    refine codeAny_mono hrun (fun r s' h => ?_)
    cases r with
    | error e => exact (hCX H e s' h).elim
    | ok fl =>
      cases fl with
      | ret u =>
        obtain ⟨v, H', os, bare, un, hok', r', q⟩ := h
        have qv : v = .bl true := q
        subst qv
        have ru : u = Value.bool true := r'
        subst ru
        refine ⟨rfl, OldK.of_keep ?_, os, bare⟩
        intro b o e
        cases q : H b with
        | none => exact un.keep b o e q (fun z => absurd (show b ∈ ([] : List Addr) from z) (by simp)) (by simp)
        | some u =>
          rcases only b with z | ⟨ob, ys, z⟩
          · rw [q] at z
            cases z
          · obtain ⟨e1, _⟩ := hok b _ z
            obtain ⟨e2, _⟩ := hok' b _ (un.frzs b ob _ z)
            rw [e] at e1
            cases e1
            exact e2
      | next => exact False.elim h
      | brk => exact False.elim h
      | cont => exact False.elim h
  cases hk : K.lookup a with
  | some o =>
    have e := KX a o hk
    rw [ha] at e
    cases e
    refine main (fun _ => none) (fun _ => Or.inl rfl) (Or.inr ⟨_, vs.toArray, _, hk, rfl, rfl, rfl, ?_, ?_⟩) ?_ (fun b z => absurd rfl z) (fun z => absurd rfl z)
    · rw [List.size_toArray, hvl]
      exact hl
    · simpa using vi
    · intro b u z
      exact nomatch (show (none : Option HO) = some u from z)
  | none =>
    refine main (fun b => if b = a then some (.frz { cls := .type "list", data := .seq vs.toArray } (.lst (ns.map V.int))) else none) (fun b => ?_) (Or.inl (Or.inr ⟨_, if_pos rfl⟩)) (fun b u z => ?_) (fun b z => ?_) (fun _ => hk)
    · by_cases hba : b = a
      · exact Or.inr ⟨_, _, if_pos hba⟩
      · exact Or.inl (if_neg hba)
    · by_cases hba : b = a
      · have zz := (if_pos hba).symm.trans z
        cases zz
        subst hba
        exact ⟨ha, by rw [List.length_map]; exact hl, vs, _, vi, ha⟩
      · have zz := (if_neg hba).symm.trans z
        cases zz
    · by_cases hba : b = a
      · exact hba
      · exact absurd (if_neg hba) z
/-- the goal that the head leaves, from such a promise of the law's def -/
theorem walkG {l : PySem.W.OpenLaw} {n k : Nat} {q : Program} {loose : List Str} {XP : (Str → Option Value) → Heap → Prop} {YP : World → Heap → Prop} {d : DefRec} {K : Params → PySem.W.Frag} {sp : PySem.W.Frag → Sp} {x : Str}
    (hn : l.most = some n) (hn2 : n ≤ sizeLine) (hdf : d.params.defaults = []) (hr : Room k callerA) (hY : ∀ (w : World) (h : Heap), YP w h → (K w.params).In h)
    (F : ∀ (w : World) (mg : Str → Option Value) (fa : Addr) (h : Heap), (K w.params).In h → h.Ns mainGlobals mg → mg d.name = some (.ref fa) →
      ∃ fd : FuncData, (∀ (s : Shared) (u : Value), BindsTo s fd ⟨[u], []⟩ [(x, u)]) ∧ ∀ base : Heap, (K w.params).In base → base.Ns mainGlobals mg → FnG l.prog w (K w.params) mg base C8.CX0 k fa fd [x] (sp (K w.params)))
    (hsp : ∀ (K : PySem.W.Frag) (H : Hp) (a : Addr) (ns : List Int), ns.length ≤ n → Only H → SqL K H a (ns.map V.int) → sp K [.ref a] H (fun v _ => v = .bl true) fun _ _ _ => False) :
    PySem.W.WalkO q loose XP YP l.row.toRowW d [] (fun f vs => PySem.call f vs) := by
  refine Att.attach_call hn hdf ?_
  intro w s₀ s₁ mg mb fa o pm cd doc a vs ns G Y ho hd hcd hmg hobj hints hlen hg
  have inK := hY w _ Y
  obtain ⟨fd, hb, hF⟩ := F w mg fa _ inK G.T.g hmg
  exact lawG inK G.T.g G.T.b G.T.builtins G.T.nolimit hg hobj hints (Nat.le_trans hlen hn2) hr hF hb (fun H hO hS => hsp _ H a ns hlen hO hS) (fun H e s' z => z)
end L2
set_option Elab.async false
set_option linter.all false
set_option maxRecDepth 100000
set_option maxHeartbeats 4000000
namespace L2
open PySem PySem.Spec PyProof.Rows L2H
open C8 (Def fnBody fnScope fnArgs)
/-! ### defs that may raise -/
structure CalX (P : Program) (w : World) (K : PySem.W.Frag) (mg : Str → Option Value) (base : Heap) (k : Nat) (x : Str) (sp : Sp) : Prop where
  ex : ∃ (f : Addr) (fd : FuncData) (ps : List Str), FnOk P w K mg base (L2N.CX P w) k f fd ps sp ∧ mg x = some (.ref f) ∧ PySem.W.keepIn K (.ref f) = true ∧ Binds K fd ps []
section
variable {P : Program} {w : World} {K : PySem.W.Frag} {mg : Str → Option Value} {base : Heap}
theorem calX0 {x : Str} {st : Stmt} {f : Addr} {fd : FuncData} {N ps : List Str} {k : Nat} {sp : Sp} (D : Def K mg x st f fd) (b : Binds K fd ps []) (S : FnScope N ps (fnScope st)) (ln : ∀ vs H Q E, sp vs H Q E → vs.length = ps.length)
    (hb : ∀ (cdv : Value) (A : Around) (outer : List Env) (s : Shared) (H : Hp) (vs : List V) (Q : VK) (E : XK), Room k (A.deeper (envOfC x (fnScope st) s.heap.objs.size f cdv)) → sp vs H Q E →
      ∃ t, PSs (cxOf (L2N.CX P w) P w K mg base N x (fnScope st) f cdv A outer s H E) (fnBody st) t ∧ t { nx := fun _ H' => Q .non H', rt := Q } (start N vs) H) : CalX P w K mg base (k + 1) x sp := by
  obtain ⟨oc, od, dV, kV, doc, pm, an, cdv, ct, osl, rfl, lk, hcd⟩ := D.fn.ex
  exact ⟨f, _, ps, fn_of lk hcd S ln (fun A outer s H vs Q E hr hs => hb cdv A outer s H vs Q E hr hs), D.mgf, D.kp, b⟩
end
section
variable {X : Cx} {k j : Nat} {x : Str} {sp : Sp} {W : WX} {p pos : Pos} {e : Expr} {es : List Expr} {t : TA}
/-- such a def called: what it lets out is taken by W -/
theorem pe_cx (c : CalX X.prog X.w X.K X.mg X.base k x sp) (tk : L2N.Takes X W) (hr : Room j X.A) (hk : k ≤ j) (hg : Gl X x) (ha : PA X (e :: es) t)
    (hdb : (x == ("__debug__" : Str)) = false := by decide) (he : starEach (e :: es) X.env = (false, eval e X.env) :: starEach es X.env := by rfl) (hpl : (backTo pos (starEach es X.env)).any (·.1) = false := by rfl) :
    PE X (.Call (.Name x p) (e :: es) [] pos) (tCallS sp (WE W) t) := by
  obtain ⟨f, fd, ps, F, hm, kp, hb⟩ := c.ex
  exact pe_callS F (hr.mono hk) hg hm kp hb (fun σ => L2N.passAt tk σ) ha hdb he hpl
end
/-! ### a def called within an except suite, the exception handed in -/
/-- its promise knows the exception's own object -/
structure FnE (P : Program) (w : World) (K : PySem.W.Frag) (mg : Str → Option Value) (base : Heap) (k : Nat) (f : Addr) (fd : FuncData) (ps : List Str) (sp : Addr × Obj → Sp) : Prop where
  len : ∀ p vs H Q E, sp p vs H Q E → vs.length = ps.length
  run : ∀ (p : Addr × Obj) (A : Around), RoomH k A → Hot1 A p → ∀ (outer : List Env) (s : Shared) (H : Hp), PinOk outer H s p → Env0 P w K mg base A outer s H → ∀ (args : Args) (us : List Value) (vs : List V) (Q : VK) (E : XK),
    BindsTo s fd args (ps.zip us) → Vals vs us → sp p vs H Q E → codeAny (model P w) A (.call (.ref f) args) (CR C8.CX0 outer P w H s Q E) s
structure CalE (P : Program) (w : World) (K : PySem.W.Frag) (mg : Str → Option Value) (base : Heap) (k : Nat) (x : Str) (sp : Addr × Obj → Sp) : Prop where
  ex : ∃ (f : Addr) (fd : FuncData) (ps : List Str), FnE P w K mg base k f fd ps sp ∧ mg x = some (.ref f) ∧ PySem.W.keepIn K (.ref f) = true ∧ Binds K fd ps []
section
variable {P : Program} {w : World} {K : PySem.W.Frag} {mg : Str → Option Value} {base : Heap}
theorem calE0 {x : Str} {st : Stmt} {f : Addr} {fd : FuncData} {N ps : List Str} {k : Nat} {sp : Addr × Obj → Sp} (D : Def K mg x st f fd) (b : Binds K fd ps []) (S : FnScope N ps (fnScope st)) (ln : ∀ p vs H Q E, sp p vs H Q E → vs.length = ps.length)
    (hb : ∀ (cdv : Value) (A : Around) (outer : List Env) (s : Shared) (H : Hp) (vs : List V) (Q : VK) (E : XK) (p : Addr × Obj), Hot1 A p → RoomH k (A.deeper (envOfC x (fnScope st) s.heap.objs.size f cdv)) → sp p vs H Q E →
      ∃ t, PSs (cxH C8.CX0 P w K mg base N x (fnScope st) f cdv A outer s H E p) (fnBody st) t ∧ t { nx := fun _ H' => Q .non H', rt := Q } (start N vs) H) : CalE P w K mg base (k + 1) x sp := by
  obtain ⟨oc, od, dV, kV, doc, pm, an, cdv, ct, osl, rfl, lk, hcd⟩ := D.fn.ex
  refine ⟨f, _, ps, ⟨ln, ?_⟩, D.mgf, D.kp, b⟩
  intro p A hr hot outer s H hpin e0 args us vs Q E hbd rv hsp
  have hln := ln _ _ _ _ _ hsp
  have inK : K.In s.heap := e0.mod.kin.keeps (fun b o e => (e0.bs b o e).1)
  have noL : s.heap.NoLimit := e0.mod.nolimit.keeps (fun b o e => (e0.bs b o e).1)
  have hkd : ∀ y ∈ ps.zip us, (fnScope st).names.lookup y.1 = some .local ∨ ((fnScope st).names.lookup y.1 = some .cell ∧ ((cellsFrom (s.heap.objs.size + 1) (fnScope st).names []).lookup y.1).isSome = true) := by
    rintro ⟨n, v⟩ hy
    rcases S.par n (List.of_mem_zip hy).1 with z | z
    · exact Or.inl z
    · exact Or.inr ⟨z, PySem.W.cellsFrom_some _ _ _ (Or.inl z)⟩
  refine codeAny_call_function hr.depth (inK _ _ lk) rfl S.co S.gen rfl
    (PySem.W.codeRec_of inK hcd) (hbd _ _ _ _ ?_)
  refine wpAny_newFunctionEnv_cells S.kind hkd
    (fun env he s1 ic => ?_)
  subst he
  refine ⟨noL.keeps ic.toInCall.keep, codeAny_func ?_⟩
  obtain ⟨t, ht, hq⟩ := hb cdv A outer s H vs Q E p hot (hr.deeper _) hsp
  have I0 := inv_startH (CX := C8.CX0) (E := E) S hpin e0 hln rv ic
  refine wpAny_mono (ht.run [] s1 (start N vs) H _ I0 hq)
    (fun fl s' hs => ?_) (fun e s' hs => hs)
  have done : ∀ {σ' : St} {H' : Hp} {v : V} {u : Value}, Inv (cxH C8.CX0 P w K mg base N x (fnScope st) f cdv A outer s H E p) [] σ' H' s' → RelV v u → Q v H' → CE outer P w H s Q u s' := by
    intro σ' H' v u J r q
    exact ⟨v, H', J.os, J.bare, J.base, J.hok, r, q⟩
  cases fl with
  | ret u =>
    obtain ⟨v, σ', H', J, r, q⟩ := hs
    exact done J r q
  | next =>
    obtain ⟨σ', H', J, q⟩ := hs
    exact done (v := .non) (u := .none) J rfl q
  | brk => exact (hs.elim fun _ ⟨_, _, q⟩ => q.elim)
  | cont => exact (hs.elim fun _ ⟨_, _, q⟩ => q.elim)
end
section
variable {X : Cx} {k j : Nat} {x : Str} {sp : Addr × Obj → Sp} {q : Addr × Obj} {p pos : Pos} {e : Expr} {es : List Expr} {t : TA}
/-- the call, q the exception that is handled -/
theorem pe_ce (c : CalE X.prog X.w X.K X.mg X.base k x sp) (hot : Hot1 X.A q) (hq : q ∈ X.pn) (hr : RoomH j X.A) (hk : k ≤ j) (hg : Gl X x) (ha : PA X (e :: es) t)
    (hdb : (x == ("__debug__" : Str)) = false := by decide) (he : starEach (e :: es) X.env = (false, eval e X.env) :: starEach es X.env := by rfl) (hpl : (backTo pos (starEach es X.env)).any (·.1) = false := by rfl) :
    PE X (.Call (.Name x p) (e :: es) [] pos) (tCall (sp q) [] C8.E0 t) := by
  obtain ⟨f, fd, ps, F, hm, kp, hb⟩ := c.ex
  refine ⟨fun pins s σ H Q I h => ?_⟩
  refine wpAny_Call_Name_kw (ld_glob I hg hm ?_ hdb)
  refine PySem.W.callWith_K (h₀ := X.base) I.ok.mod.kin kp (thn (ha.run pos pins s σ H _ I h) fun us s1 ⟨vs, H1, I1, r, w⟩ => ⟨I1.kIn, ?_⟩) he hpl
  have r2 : Vals (vs ++ []) (us ++ []) := r.append .nil
  have hl : (us ++ []).length = ps.length := by rw [← r2.length]; exact F.len _ _ _ _ _ w
  have pin := I1.pin q (List.mem_append_left _ hq)
  have ok : PinOk X.stack H1 s1 q := by
    refine ⟨pin.1, pin.2.1, fun z => ?_, pin.2.2.2.2⟩
    rcases List.mem_cons.mp (I1.stkSub q.1 z) with z | z
    · exact pin.2.2.1 z
    · exact pin.2.2.2.1 z
  refine wpAny_call (codeAny_mono (F.run q X.A (hr.mono hk) hot X.stack s1 H1 ok I1.env0 ⟨us, []⟩ (us ++ []) (vs ++ []) Q C8.E0 (hb s1 us I1.kIn hl) r2 w) fun r s' hq => ?_)
  cases r with
  | error e => exact (C8.pass0 (X := X) (E := C8.E0)) pins σ H1 s1 e s' I1 hq
  | ok fl =>
    cases fl with
    | ret u => exact I1.after hq
    | next => exact False.elim hq
    | brk => exact False.elim hq
    | cont => exact False.elim hq
end
section
variable {X : Cx} {k j : Nat} {x : Str} {sp : Addr → Value → Option Addr → Sp} {a : Addr} {oe : Obj} {cls : Value} {d : Option Addr} {p pos : Pos} {e : Expr} {es : List Expr} {t : TA}
/-- .. in a suite: the promise speaks of the exception's address, class, own dict -/
theorem pe_ce2 (c : CalE X.prog X.w X.K X.mg X.base k x fun q => sp q.1 q.2.cls q.2.dict) (hot : Hot1 X.A (a, oe)) (hq : (a, oe) ∈ X.pn) (hz : L2N.Zn cls d oe) (hr : RoomH j X.A) (hk : k ≤ j) (hg : Gl X x) (ha : PA X (e :: es) t)
    (hdb : (x == ("__debug__" : Str)) = false := by decide) (he : starEach (e :: es) X.env = (false, eval e X.env) :: starEach es X.env := by rfl) (hpl : (backTo pos (starEach es X.env)).any (·.1) = false := by rfl) :
    PE X (.Call (.Name x p) (e :: es) [] pos) (tCall (sp a cls d) [] C8.E0 t) := by
  have h := pe_ce (p := p) c hot hq hr hk hg ha hdb he hpl
  rw [← hz.1, ← hz.2.1]
  exact h
/-- no exception is let out -/
theorem takes0N : L2N.Takes X (fun _ _ _ _ => False) := fun _ _ z => by
  obtain ⟨_, _, _, _, _, _, _, _, _, _, _, _, _, _, _, _, u⟩ := z
  exact u.elim
end
/-! ### isinstance of it -/
/-- an own exception's object, of the class at D -/
structure OwnE (D : Addr) (q : Addr × Obj) : Prop where
  cl : q.2.cls = .ref D
  nd : q.2.dict = none
  fl : ∃ vs, q.2.data = .fields vs
theorem OwnE.at_ {D : Addr} {q : Addr × Obj} (o : OwnE D q) {h : Heap} (e : h.get? q.1 = some q.2) : PySem.W.InstAt h q.1 q.2 D none := by
  obtain ⟨a, oc, od, oda, osl⟩ := q
  obtain ⟨h1, h2, vs, h3⟩ := o
  dsimp only at h1 h2 h3 e
  subst h1 h2 h3
  exact ⟨e, rfl, rfl, trivial⟩
def rIsP (K : PySem.W.Frag) (D : Addr) (q : Addr × Obj) : List V → Hp → VK → Prop := fun xs H Q => ∃ (c : V) (u : Value) (b : Bool), xs = [.ref q.1, c] ∧ ClsV c u ∧ PySem.W.kitOne K (.ref D) u = some b ∧ Q (.bl b) H
def rIsPs (K : PySem.W.Frag) (D : Addr) (q : Addr × Obj) : List V → Hp → VK → Prop := fun xs H Q => ∃ (tp : Addr) (cs : List V) (us : List Value) (b : Bool), xs = [.ref q.1, .ref tp] ∧ H tp = some (.tup cs) ∧ Paired ClsV cs us ∧ PySem.W.kitAny K (.ref D) us = some b ∧ Q (.bl b) H
section
variable {X : Cx} {D : Addr} {q : Addr × Obj}
theorem call_isP (C : ExcC X.K D) (o : OwnE D q) (hq : q ∈ X.pn) : CallR X (.builtin "isinstance") (rIsP X.K D q) := by
  intro pins s σ H xs us Q I r h
  obtain ⟨c, u, b, rfl, hc, e, w⟩ := h
  obtain ⟨u1, u2, rfl, r1, r2⟩ := vals2 r
  cases r1
  have e2 := hc.eq r2
  subst e2
  have J := o.at_ (I.pin q (List.mem_append_left _ hq)).1
  exact PySem.W.kia_one (PySem.W.handS_kitx_exc C.hg C.hk C.hs C.hd C.ha C.hn C.ht C.hm) I.kIn J e (fun z => nomatch z) fun tk => ⟨.bl b, H, I.kept (t' := tk) fun _ _ z => z, rfl, w⟩
theorem call_isPs (C : ExcC X.K D) (o : OwnE D q) (hq : q ∈ X.pn) : CallR X (.builtin "isinstance") (rIsPs X.K D q) := by
  intro pins s σ H xs us Q I r h
  obtain ⟨tp, cs, ws, b, rfl, hT, hc, e, w⟩ := h
  obtain ⟨u1, u2, rfl, r1, r2⟩ := vals2 r
  cases r1
  cases (show u2 = Value.ref tp from r2)
  have J := o.at_ (I.pin q (List.mem_append_left _ hq)).1
  obtain ⟨_, its, rv, ⟨oc, od, dt, sl⟩, g1, g2, n, g3⟩ := (show ObjOk X.prog X.w H s.heap tp (.tup cs) from I.hok tp _ hT)
  have e2 := ClsV.all hc rv
  simp only at g2 g3
  subst e2 g2 g3
  exact PySem.W.kia_tup (PySem.W.handS_kitx_exc C.hg C.hk C.hs C.hd C.ha C.hn C.ht C.hm) I.kIn J g1 e (fun z => nomatch z) fun tk => ⟨.bl b, H, I.kept (t' := tk) fun _ _ z => z, rfl, w⟩
end
end L2
set_option Elab.async false
set_option linter.all false
set_option maxRecDepth 100000
set_option maxHeartbeats 4000000
namespace K12
open PySem PySem.Spec PyProof.Rows L2
open C8 (Cal Def cal0 pe_c fnBody fnScope fnArgs)

def topS (i : Nat) : Stmt := PySem.Challenge.pw_changewhile_k12_kind_texts.main.body.getD i (.Pass ⟨0, 0, 0, 0⟩)
/-- what the module's names hold that are no defs -/
structure Tp (mg : Str → Option Value) : Prop where
  n_isinstance : mg "isinstance" = none
  n_str : mg "str" = none
  n_tuple : mg "tuple" = none
  n_list : mg "list" = none
  n_bool : mg "bool" = none
  n_len : mg "len" = none
  n_range : mg "range" = none
  n_max : mg "max" = none
  n_min : mg "min" = none
  n_repr : mg "repr" = none
  n_int : mg "int" = none
  n_ValueError : mg "ValueError" = none
  g_DEEPEST : ∃ u, mg "DEEPEST" = some u ∧ RelV (.int 800) u
  g_LONGEST_NAME : ∃ u, mg "LONGEST_NAME" = some u ∧ RelV (.int 8) u

/-! ### arithmetic -/
theorem fmod_lo {a n : Int} (h : 0 < n) : 0 ≤ a.fmod n := by
  rw [Int.fmod_eq_emod_of_nonneg a (by omega)]
  exact Int.emod_nonneg a (by omega)
theorem fmod_hi {a n : Int} (h : 0 < n) : a.fmod n < n := by
  rw [Int.fmod_eq_emod_of_nonneg a (by omega)]
  exact Int.emod_lt_of_pos a h
theorem div_lo {a n : Int} (h : 0 < n) (ha : 0 ≤ a) : 0 ≤ a / n := Int.ediv_nonneg ha (by omega)
theorem pot_of {H : Hp} {p : Addr} {x y : Int} (hx : 0 ≤ x) (hy : 0 ≤ y) (h : y < 1099511627776) : Pot (upd H p (.lst [.int x, .int y])) p x y := ⟨upd_same, hx, hy, h⟩

section
variable {P : Program} {w : World} {K : PySem.W.Frag} {mg : Str → Option Value} {base : Heap}
/-! ### the drawing -/
abbrev sLTake : Stmt := topS 21
abbrev NLTake : List Str := ["_law_pot_here", "_law_many", "_law_digit"]
theorem scLTake : FnScope NLTake ["_law_pot_here", "_law_many"] (fnScope sLTake) := ⟨rfl, rfl, rfl, by decide +kernel, rfl, by decide +kernel, by decide +kernel⟩
def spTake : Sp := fun vs H Q _ => ∃ (p : Addr) (x y n : Int), vs = [.ref p, .int n] ∧ Pot H p x y ∧ 0 < n ∧ n.natAbs < 2 ^ 300 ∧
  ∀ r x' y', 0 ≤ r → r < n → Pot (upd H p (.lst [.int x', .int y'])) p x' y' → Q (.int r) (upd H p (.lst [.int x', .int y']))
theorem c_take {f : Addr} {fd : FuncData} (D : Def K mg "_law_take" sLTake f fd) (b : Binds K fd ["_law_pot_here", "_law_many"] []) : Cal P w K mg base 1 "_law_take" spTake [] := by
  refine cal0 D b .nil scLTake (fun vs H Q E h => ?_) (fun cdv A outer s H vs Q E hr h => ?_)
  · obtain ⟨p, x, y, n, rfl, _⟩ := h
    rfl
  · obtain ⟨p, x, y, n, rfl, hp, n0, n1, q⟩ := h
    have nd := scLTake.nd
    refine ⟨_, (pss_cons (ps_if (pt_cmpR op_gt (pe_ix ix_list (pv 0) pe_int (fun _ _ => rfl)) pe_int (nomark _))
      (pss_cons (ps_set (i := 2) nd rfl (.inl rfl) (pe_op op_modN (pe_ix ix_list (pv 0) pe_int (fun _ _ => rfl)) (pv 1)))
      (pss_cons (ps_asg (pe_op op_fdivW (pe_ix ix_list (pv 0) pe_int (fun _ _ => rfl)) (pv 1)) (pg_sub (pv 0) pe_int set_list))
      (pss_one (ps_ret (pv 2)))))
      pss_nil)
    (pss_cons (ps_asg (pe_op op_modN (pe_op op_add (pe_op op_mul (pe_ix ix_list (pv 0) pe_int (fun _ _ => rfl)) pe_int) pe_int) pe_int) (pg_sub (pv 0) pe_int set_list))
    (pss_one (ps_ret (pe_op op_modN (pe_op op_fdivW (pe_op op_modN (pe_op op_mul (pe_ix ix_list (pv 0) pe_int (fun _ _ => rfl)) (pe_ix ix_list (pv 0) pe_int (fun _ _ => rfl))) pe_int) pe_int) (pv 1)))))), ?_⟩
    have h0 := hp.x0
    have h1 := hp.y0
    have h2 := hp.y1
    have hl := hp.at_
    refine ⟨_, rfl, _, _, _, _, rfl, rfl, SqL.of hl, atI_nat (j := 0) rfl, _, _, rfl, rfl, _, rfl, ite2 (fun e => ?_) (fun e => ?_)⟩
    · refine ⟨_, rfl, _, _, _, _, rfl, rfl, SqL.of hl, atI_nat (j := 0) rfl, _, rfl, _, _, rfl, rfl, (show n ≠ 0 by omega), ?_⟩
      refine ⟨_, rfl, _, _, _, _, rfl, rfl, SqL.of hl, atI_nat (j := 0) rfl, _, rfl, _, _, rfl, rfl, wide_div n0 n1 (by decide) (by decide), ?_⟩
      refine ⟨_, rfl, _, _, _, _, rfl, rfl, hl, rfl, ?_⟩
      refine ⟨_, rfl, ?_⟩
      exact q _ _ _ (fmod_lo n0) (fmod_hi n0) (pot_of (div_lo n0 h0) h1 h2)
    · refine ⟨_, rfl, _, _, _, _, rfl, rfl, SqL.of hl, atI_nat (j := 1) rfl, _, _, rfl, rfl, .inl ⟨by omega, by omega⟩, _, _, rfl, rfl, _, _, rfl, rfl, (by show (2147483629 : Int) ≠ 0; decide), ?_⟩
      refine ⟨_, rfl, _, _, _, _, rfl, rfl, hl, rfl, ?_⟩
      have b0 : 0 ≤ (y * 39373 + 7919).fmod 2147483629 := fmod_lo (by decide)
      have b1 : (y * 39373 + 7919).fmod 2147483629 < 2147483629 := fmod_hi (by decide)
      refine ⟨_, rfl, _, _, _, _, rfl, rfl, SqL.of upd_same, atI_nat (j := 1) rfl, _, rfl, _, _, _, _, rfl, rfl, SqL.of upd_same, atI_nat (j := 1) rfl, _, _, rfl, rfl, .inl ⟨by omega, by omega⟩, _, _, rfl, rfl, (by show (2147483563 : Int) ≠ 0; decide), _, _, rfl, rfl, wide_div (b := 64) (by decide) (by decide) (by decide) (by decide), _, rfl, _, _, rfl, rfl, (show n ≠ 0 by omega), ?_⟩
      exact q _ _ _ (fmod_lo n0) (fmod_hi n0) (pot_of h0 b0 (by omega))

/-! ### a cell, the pot -/
abbrev sLCellAt : Stmt := topS 19
abbrev NLCellAt : List Str := ["_law_script", "_law_k"]
theorem scLCellAt : FnScope NLCellAt ["_law_script", "_law_k"] (fnScope sLCellAt) := ⟨rfl, rfl, rfl, by decide +kernel, rfl, by decide +kernel, by decide +kernel⟩
def spCellAt (K : PySem.W.Frag) : Sp := fun vs H Q _ => ∃ (a : Addr) (ns : List Int) (k : Nat), vs = [.ref a, .int k] ∧ SqL K H a (ns.map V.int) ∧ ∀ n, Q (.int n) H
theorem c_cellAt (T : Tp mg) {f : Addr} {fd : FuncData} (D : Def K mg "_law_cell_at" sLCellAt f fd) (b : Binds K fd ["_law_script", "_law_k"] []) : Cal P w K mg base 1 "_law_cell_at" (spCellAt K) [] := by
  refine cal0 D b .nil scLCellAt (fun vs H Q E h => ?_) (fun cdv A outer s H vs Q E hr h => ?_)
  · obtain ⟨a, ns, k, rfl, _⟩ := h
    rfl
  · obtain ⟨a, ns, k, rfl, hs, q⟩ := h
    refine ⟨_, (pss_one (ps_ret (pe_ifExp (pt_cmpR op_lt (pv 1) (pe_callB call_len_seq (by rfl) T.n_len (by decide +kernel) (pa_cons (pv 0) pa_nil)) (nomark _)) (pe_ix ix_list (pv 0) (pv 1) (fun _ _ => rfl)) pe_int))), ?_⟩
    refine ⟨_, rfl, _, rfl, _, _, rfl, .inl hs, _, _, rfl, rfl, _, rfl, ite2 (fun e => ?_) (fun e => ?_)⟩
    · have e1 : (k : Int) < ((ns.map V.int).length : Int) := of_decide_eq_true e
      have e2 : k < ns.length := by
        rw [List.length_map] at e1
        omega
      refine ⟨_, rfl, _, rfl, _, _, _, .int ns[k], rfl, rfl, hs, atI_nat (j := k) ?_, q _⟩
      rw [List.getElem?_map, List.getElem?_eq_getElem e2]
      rfl
    · exact q _
abbrev sLPot : Stmt := topS 20
abbrev NLPot : List Str := ["_law_cell", "_law_k"]
theorem scLPot : FnScope NLPot ["_law_cell", "_law_k"] (fnScope sLPot) := ⟨rfl, rfl, rfl, by decide +kernel, rfl, by decide +kernel, by decide +kernel⟩
def spPot : Sp := fun vs H Q _ => ∃ (c : Int) (k : Nat), vs = [.int c, .int k] ∧ k ≤ 100 ∧ ∀ p x y, H p = none → Pot (upd H p (.lst [.int x, .int y])) p x y → Q (.ref p) (upd H p (.lst [.int x, .int y]))
theorem c_pot {f : Addr} {fd : FuncData} (D : Def K mg "_law_pot" sLPot f fd) (b : Binds K fd ["_law_cell", "_law_k"] []) : Cal P w K mg base 1 "_law_pot" spPot [] := by
  refine cal0 D b .nil scLPot (fun vs H Q E h => ?_) (fun cdv A outer s H vs Q E hr h => ?_)
  · obtain ⟨c, k, rfl, _⟩ := h
    rfl
  · obtain ⟨c, k, rfl, hk, q⟩ := h
    refine ⟨_, (pss_cons (ps_if (pt_cmpR op_ge (pv 0) (pe_op op_pow pe_int pe_int) (nomark _))
      (pss_one (ps_ret (pe_lst (pa_cons (pv 0) (pa_cons (pe_op op_add pe_int (pv 1)) pa_nil)))))
      pss_nil)
    (pss_one (ps_ret (pe_lst (pa_cons pe_int (pa_cons (pe_op op_modN (pe_op op_add (pe_op op_add (pe_op op_add (pe_op op_mul (pv 0) pe_int) (pe_op op_mul (pe_op op_mul pe_int (pv 1)) (pv 1))) (pe_op op_mul pe_int (pv 1))) pe_int) pe_int) pa_nil)))))), ?_⟩
    refine ⟨_, rfl, _, _, rfl, rfl, (by show (0 : Int) ≤ 18 ∧ _; decide), _, _, rfl, rfl, _, rfl, ite2 (fun e => ?_) (fun e => ?_)⟩
    · have e1 : ((10 : Int) ^ (18 : Int).toNat) ≤ c := of_decide_eq_true e
      have e2 : (10 : Int) ^ (18 : Int).toNat = 1000000000000000000 := by decide
      refine ⟨_, rfl, _, rfl, _, _, rfl, rfl, (by show 2 ≤ sizeLine; decide), fun p hp => ?_⟩
      exact q p _ _ hp (pot_of (by omega) (by omega) (by omega))
    · refine ⟨_, rfl, _, _, rfl, rfl, .inr ⟨by decide, by decide⟩, _, rfl, _, _, rfl, rfl, .inl ⟨by decide, by decide⟩, _, rfl, _, _, rfl, rfl, .inr ⟨by omega, by omega⟩, _, _, rfl, rfl, _, rfl, _, _, rfl, rfl, .inl ⟨by decide, by decide⟩, _, _, rfl, rfl, _, _, rfl, rfl, _, _, rfl, rfl, (by show (2147483647 : Int) ≠ 0; decide), (by show 2 ≤ sizeLine; decide), fun p hp => ?_⟩
      exact q p _ _ hp (pot_of (by omega) (fmod_lo (by decide)) (Int.lt_trans (fmod_hi (by decide)) (by decide)))

/-! ### names -/
def low (c : Nat) : Bool := decide (97 ≤ c) && decide (c ≤ 122)
def keptS (z : Str) : Bool := inV (.str z) [.str "number", .str "truth", .str "yes", .str "no"]
def nameS (z : Str) : Bool := (decide (1 ≤ z.length) && decide (z.length ≤ 8)) && (z.cps.toList.all low && !keptS z)
theorem len_tl (z : Str) : z.cps.toList.length = z.length := Array.length_toList
theorem tl_app (x y : Str) : (x ++ y).cps.toList = x.cps.toList ++ y.cps.toList := TL.tl_append x y
theorem abc_low : ∀ (j : Nat) (c : Nat), ("abcdefghijklmnopqrstuvwxyz" : Str).cps.toList[j]? = some c → low c = true := by
  have h : ("abcdefghijklmnopqrstuvwxyz" : Str).cps.toList.all low = true := by decide +kernel
  intro j c e
  exact List.all_eq_true.mp h c (List.mem_of_getElem? e)
def sevenN : List Str := ["a", "ab", "add", "empty", "list", "r", "x"]
theorem seven_ok : sevenN.all nameS = true := by decide +kernel
theorem kept_four {z : Str} (e : keptS z = true) : z = "number" ∨ z = "truth" ∨ z = "yes" ∨ z = "no" := by
  have h : (("number" : Str) == z || (("truth" : Str) == z || (("yes" : Str) == z || (("no" : Str) == z || false)))) = true := e
  simp only [Bool.or_eq_true, beq_iff_eq, Bool.false_eq_true, or_false] at h
  rcases h with h | h | h | h
  · exact .inl h.symm
  · exact .inr (.inl h.symm)
  · exact .inr (.inr (.inl h.symm))
  · exact .inr (.inr (.inr h.symm))
theorem kept_cut (z : Str) (e : keptS z = true) : (PySem.Txt.slice z none (some 7)).length ≤ 8 := by
  rcases kept_four e with rfl | rfl | rfl | rfl <;> decide +kernel
theorem kept_x (z : Str) (e : keptS z = true) : nameS (("x" : Str) ++ PySem.Txt.slice z none (some 7)) = true := by
  rcases kept_four e with rfl | rfl | rfl | rfl <;> decide +kernel
abbrev sLCalled : Stmt := topS 22
abbrev NLCalled : List Str := ["_law_pot_here", "_law_found", "_law_k"]
theorem scLCalled : FnScope NLCalled ["_law_pot_here"] (fnScope sLCalled) := ⟨rfl, rfl, rfl, by decide +kernel, rfl, by decide +kernel, by decide +kernel⟩
/-- all but the pot stays, and the pot stays one -/
def Going (p : Addr) (H H' : Hp) : Prop := But p H H' ∧ ∃ x y, Pot H' p x y
theorem going_pot {p : Addr} {H H' : Hp} {x' y' : Int} (g : But p H H') (h : Pot (upd H' p (.lst [.int x', .int y'])) p x' y') : Going p H (upd H' p (.lst [.int x', .int y'])) := ⟨g.pot, _, _, h⟩
theorem Going.trans {p : Addr} {H H1 H2 : Hp} (a : Going p H H1) (b : Going p H1 H2) : Going p H H2 := ⟨a.1.trans b.1, b.2⟩
theorem Going.new {p q : Addr} {H H1 : Hp} {o : HO} (a : Going p H H1) (hq : H1 q = none) : Going p H (upd H1 q o) := ⟨a.1.trans (But.new hq), let ⟨x, y, h⟩ := a.2; ⟨x, y, h.new hq⟩⟩
theorem Going.same {p : Addr} {H H1 H2 : Hp} (a : Going p H H1) (e : Same H1 H2) : Going p H H2 := ⟨a.1.trans (But.same e), let ⟨x, y, h⟩ := a.2; ⟨x, y, h.same e⟩⟩
theorem Going.ne {p q : Addr} {H H1 : Hp} (a : Going p H H1) (hq : H1 q = none) : q ≠ p := let ⟨_, _, h⟩ := a.2; h.ne hq
def spCalled : Sp := fun vs H Q _ => ∃ (p : Addr) (x y : Int), vs = [.ref p] ∧ Pot H p x y ∧ ∀ z H', nameS z = true → Going p H H' → Q (.str z) H'
theorem c_called (T : Tp mg) (c_LTake : Cal P w K mg base 1 "_law_take" spTake []) {f : Addr} {fd : FuncData} (D : Def K mg "_law_called" sLCalled f fd) (b : Binds K fd ["_law_pot_here"] []) : Cal P w K mg base 2 "_law_called" spCalled [] := by
  refine cal0 D b .nil scLCalled (fun vs H Q E h => ?_) (fun cdv A outer s H vs Q E hr h => ?_)
  · obtain ⟨p, x, y, rfl, _⟩ := h
    rfl
  · obtain ⟨p, x, y, rfl, hp, q⟩ := h
    have nd := scLCalled.nd
    refine ⟨_, (pss_cons (ps_if (pt_cmpR op_gt (pe_c c_LTake hr (by decide) (by rfl) (pa_cons (pv 0) (pa_cons pe_int pa_nil))) pe_int (nomark _))
      (pss_one (ps_ret (pe_ix ix_list (pe_lst (pa_cons pe_str (pa_cons pe_str (pa_cons pe_str (pa_cons pe_str (pa_cons pe_str (pa_cons pe_str (pa_cons pe_str pa_nil)))))))) (pe_c c_LTake hr (by decide) (by rfl) (pa_cons (pv 0) (pa_cons pe_int pa_nil))) (fun _ _ => rfl))))
      pss_nil)
    (pss_cons (ps_set (i := 1) nd rfl (.inl rfl) pe_str)
    (pss_cons (ps_for PassesOwn.never rfl (pi_range1 (by rfl) T.n_range (pa_cons (pe_op op_add pe_int (pe_c c_LTake hr (by decide) (by rfl) (pa_cons (pv 0) (pa_cons pe_int pa_nil)))) pa_nil)) (pg_name (i := 2) nd rfl (.inl rfl))
      (pss_one (ps_set (i := 1) nd rfl (.inl rfl) (pe_op op_add_str (pv 1) (pe_ix ix_str pe_str (pe_c c_LTake hr (by decide) (by rfl) (pa_cons (pv 0) (pa_cons pe_int pa_nil))) (fun _ _ => rfl))))))
    (pss_cons (ps_if (pt_cmpR op_in_seq (pv 1) (pe_lst (pa_cons pe_str (pa_cons pe_str (pa_cons pe_str (pa_cons pe_str pa_nil))))) (by rfl))
      (pss_one (ps_ret (pe_op op_add_str pe_str (pe_slice C8.sl_txt (pv 1) po_none (po_some pe_int)))))
      pss_nil)
    (pss_one (ps_ret (pv 1))))))), ?_⟩
    refine ⟨_, rfl, p, x, y, 3, rfl, hp, by decide, by decide, fun r x1 y1 r0 r1 hp1 => ?_⟩
    have g1 : Going p H (upd H p (.lst [.int x1, .int y1])) := going_pot (But.refl p H) hp1
    refine ⟨_, _, rfl, rfl, _, rfl, ite2 (fun e => ?_) (fun e => ?_)⟩
    · refine ⟨(by show 7 ≤ sizeLine; decide), fun l hl => ?_⟩
      have nl := hp1.ne hl
      refine ⟨_, rfl, p, x1, y1, 7, rfl, hp1.new hl, by decide, by decide, fun r2 x2 y2 r20 r21 hp2 => ?_⟩
      have hr2 : r2.toNat < 7 := by omega
      obtain ⟨z, hz⟩ : ∃ z, sevenN[r2.toNat]? = some z := ⟨_, List.getElem?_eq_getElem (show r2.toNat < sevenN.length from hr2)⟩
      refine ⟨l, sevenN.map V.str, r2, .str z, rfl, rfl, SqL.of (by rw [upd_ne nl, upd_same]; rfl), ?_, ?_⟩
      · have e2 : r2 = (r2.toNat : Int) := by omega
        rw [e2]
        refine atI_nat ?_
        rw [List.getElem?_map, hz]
        rfl
      · exact q z _ (List.all_eq_true.mp seven_ok z (List.mem_of_getElem? hz)) (going_pot (g1.1.trans (But.new hl)) hp2)
    · refine ⟨_, rfl, p, x1, y1, 8, rfl, hp1, by decide, by decide, fun r2 x2 y2 r20 r21 hp2 => ?_⟩
      have g2 := g1.trans (going_pot (But.refl p _) hp2)
      refine ⟨_, _, rfl, rfl, 1 + r2, rfl, by omega, by omega, ?_⟩
      refine for_range (lo := 0) (n := (1 + r2).toNat) (fun i σ H' => ∃ z v2, σ = [some (.ref p), some (.str z), v2] ∧ z.length = i ∧ z.cps.toList.all low = true ∧ Going p H H') ⟨_, _, rfl, rfl, rfl, g2⟩ (fun i σ H' hi hW => ?_) (fun σ H' hW => ?_)
      · obtain ⟨z, v2, rfl, hz, hzl, g3⟩ := hW
        obtain ⟨x3, y3, hp3⟩ := g3.2
        refine ⟨_, rfl, _, rfl, p, x3, y3, 26, rfl, hp3, by decide, by decide, fun r4 x4 y4 r40 r41 hp4 => ?_⟩
        have hr4 : r4.toNat < 26 := by omega
        obtain ⟨c, hc⟩ : ∃ c, ("abcdefghijklmnopqrstuvwxyz" : Str).cps.toList[r4.toNat]? = some c := ⟨_, List.getElem?_eq_getElem (show r4.toNat < ("abcdefghijklmnopqrstuvwxyz" : Str).cps.toList.length by rw [show ("abcdefghijklmnopqrstuvwxyz" : Str).cps.toList.length = 26 by decide +kernel]; exact hr4)⟩
        have e2 : r4 = (r4.toNat : Int) := by omega
        refine ⟨_, r4, c, rfl, rfl, (by show (26 : Nat) ≤ sizeLine; decide), (by rw [e2]; exact atI_nat hc), ?_⟩
        refine ⟨_, _, rfl, rfl, ?_, ?_⟩
        · show z.length + 1 ≤ sizeLine
          rw [hz, sizeLine_eq]
          omega
        · refine ⟨_, _, rfl, ?_, ?_, g3.trans (going_pot (But.refl p _) hp4)⟩
          · rw [← len_tl, tl_app, List.length_append, len_tl, hz]
            rfl
          · rw [tl_app, List.all_append, hzl]
            show (low c && true) = true
            rw [abc_low _ _ hc]
            rfl
      · obtain ⟨z, v2, rfl, hz, hzl, g3⟩ := hW
        refine ⟨_, rfl, (by show 4 ≤ sizeLine; decide), fun l hl => ?_⟩
        have g4 := g3.new (o := .lst [.str "number", .str "truth", .str "yes", .str "no"]) hl
        refine ⟨l, _, rfl, .inl (SqL.of upd_same), rfl, rfl, _, rfl, ?_⟩
        show if (inV (.str z) [.str "number", .str "truth", .str "yes", .str "no"]) = true then _ else _
        refine ite2 (fun e => ?_) (fun e => ?_)
        · refine ⟨_, rfl, 7, rfl, z, rfl, (by rw [hz, sizeLine_eq]; omega), _, _, rfl, rfl, ?_, ?_⟩
          · have h7 := kept_cut z e
            rw [sizeLine_eq]
            have : ("x" : Str).length = 1 := by decide
            omega
          · refine q _ _ ?_ g4
            exact kept_x z e
        · refine ⟨_, rfl, ?_⟩
          refine q z _ ?_ g4
          have e1 : keptS z = false := by simpa [keptS] using e
          unfold nameS
          rw [hzl, e1, hz, decide_eq_true (show 1 ≤ (1 + r2).toNat by omega), decide_eq_true (show (1 + r2).toNat ≤ 8 by omega)]
          rfl
end
end K12
set_option Elab.async false
set_option linter.all false
set_option maxRecDepth 100000
set_option maxHeartbeats 4000000
namespace K12
open PySem PySem.Spec PyProof.Rows L2
open C8 (Cal Def cal0 pe_c fnBody fnScope fnArgs)
inductive Kd where
  | num | tru | rcd (z : Str) | lst (k : Kd)
def Kd.d : Kd → PyData
  | .num => .tuple [.str "number"]
  | .tru => .tuple [.str "truth"]
  | .rcd z => .tuple [.str "record", .str z]
  | .lst k => .tuple [.str "list", k.d]
def Kd.ok : Kd → Prop
  | .num => True
  | .tru => True
  | .rcd z => nameS z = true
  | .lst k => k.ok
def Kd.deep : Kd → Nat
  | .lst k => k.deep + 1
  | _ => 0
section
variable {P : Program} {w : World} {K : PySem.W.Frag} {mg : Str → Option Value} {base : Heap}
/-- a promise that is never asked -/
def spNo : Sp := fun _ _ _ _ => False
theorem cal_no {k : Nat} {x : Str} {st : Stmt} {f : Addr} {fd : FuncData} {ps : List Str} (sp : Sp) (h : ∀ vs H Q E, sp vs H Q E → False) (D : Def K mg x st f fd) (b : Binds K fd ps []) : Cal P w K mg base k x sp [] :=
  ⟨f, fd, ps, [], ⟨fun _ _ _ _ z => (h _ _ _ _ z).elim, fun _ _ _ _ _ _ _ _ _ _ _ _ _ z => (h _ _ _ _ z).elim⟩, D.mgf, D.kp, b, .nil⟩
abbrev sLKind : Stmt := topS 23
abbrev NLKind : List Str := ["_law_pot_here", "_law_deep", "_law_way"]
theorem scLKind : FnScope NLKind ["_law_pot_here", "_law_deep"] (fnScope sLKind) := ⟨rfl, rfl, rfl, by decide +kernel, rfl, by decide +kernel, by decide +kernel⟩
def spKind (K : PySem.W.Frag) (n : Nat) : Sp := fun vs H Q _ => ∃ (p : Addr) (x y : Int) (m : Nat), vs = [.ref p, .int m] ∧ m < n ∧ Pot H p x y ∧
  ∀ v (k : Kd) H', k.ok → k.deep ≤ m → Dh K p H' v k.d → Going p H H' → Q v H'
theorem c_kind (T : Tp mg) (c_LTake : Cal P w K mg base 1 "_law_take" spTake []) (c_LCalled : Cal P w K mg base 2 "_law_called" spCalled []) {f : Addr} {fd : FuncData} (D : Def K mg "_law_kind" sLKind f fd) (b : Binds K fd ["_law_pot_here", "_law_deep"] []) :
    ∀ n : Nat, Cal P w K mg base (2 + n) "_law_kind" (spKind K n) []
  | 0 => cal_no _ (fun vs H Q E ⟨p, x, y, m, _, h, _⟩ => absurd h (Nat.not_lt_zero _)) D b
  | n + 1 => by
    have c_LKind := c_kind T c_LTake c_LCalled D b n
    refine cal0 D b .nil scLKind (fun vs H Q E h => ?_) (fun cdv A outer s H vs Q E hr h => ?_)
    · obtain ⟨p, x, y, m, rfl, _⟩ := h
      rfl
    · obtain ⟨p, x, y, m, rfl, hm, hp, q⟩ := h
      have nd := scLKind.nd
      have hr := (show Room (2 + n) _ from hr)
      refine ⟨_, (pss_cons (ps_set (i := 2) nd rfl (.inl rfl) (pe_c c_LTake hr (by omega) (by rfl) (pa_cons (pv 0) (pa_cons pe_int pa_nil))))
    (pss_cons (ps_if (PW.pt (pw_and (pt_cmpR op_gt (pv 2) pe_int (nomark _)) (pw_and1 (pt_cmpR op_gt (pv 1) pe_int (nomark _)))))
      (pss_one (ps_ret (pe_tup (pa_cons pe_str (pa_cons (pe_c c_LKind hr (by omega) (by rfl) (pa_cons (pv 0) (pa_cons (pe_op op_sub (pv 1) pe_int) pa_nil))) pa_nil)))))
      pss_nil)
    (pss_one (ps_ret (pe_ix ix_list (pe_lst (pa_cons (pe_tup (pa_cons pe_str pa_nil)) (pa_cons (pe_tup (pa_cons pe_str pa_nil)) (pa_cons (pe_tup (pa_cons pe_str (pa_cons (pe_c c_LCalled hr (by omega) (by rfl) (pa_cons (pv 0) pa_nil)) pa_nil))) pa_nil)))) (pe_op op_modN (pv 2) pe_int) (fun _ _ => rfl)))))), ?_⟩
      refine ⟨_, rfl, p, x, y, 6, rfl, hp, by decide, by decide, fun r x1 y1 r0 r1 hp1 => ?_⟩
      have g1 : Going p H (upd H p (.lst [.int x1, .int y1])) := going_pot (But.refl p H) hp1
      have rest : ∀ (H1 : Hp) , Going p H H1 → (tRet (tOp (rIxL K) (tLst (tCons (tTup (tCons (tC (.str "number")) tNil)) (tCons (tTup (tCons (tC (.str "truth")) tNil)) (tCons (tTup (tCons (tC (.str "record")) (tCons (tCall spCalled [] C8.E0 (tCons (tVar 0) tNil)) tNil))) tNil)))) (tOp (rI (fun _ j => j ≠ 0) fun i j => .int (i.fmod j)) (tVar 2) (tC (.int 3))))) { nx := fun _ H' => Q .non H', rt := Q } [some (.ref p), some (.int m), some (.int r)] H1 := by
        intro H1 g
        obtain ⟨x2, y2, hp2⟩ := g.2
        refine ⟨(by show 1 ≤ sizeLine; decide), fun t1 h1 => ⟨(by show 1 ≤ sizeLine; decide), fun t2 h2 => ?_⟩⟩
        have n1 := hp2.ne h1
        have gA := (g.new (o := .tup [.str "number"]) h1)
        have n2 := gA.ne h2
        have gB := (gA.new (o := .tup [.str "truth"]) h2)
        obtain ⟨x3, y3, hp3⟩ := gB.2
        refine ⟨_, rfl, p, x3, y3, rfl, hp3, fun z H2 hz g2 => ?_⟩
        refine ⟨(by show 2 ≤ sizeLine; decide), fun t3 h3 => ⟨(by show 3 ≤ sizeLine; decide), fun l hl => ?_⟩⟩
        have gC := (gB.trans g2).new (o := .tup [.str "record", .str z]) h3
        have n3 := g2.ne h3
        have gD := gC.new (o := .lst [.ref t1, .ref t2, .ref t3]) hl
        have D1 : Dh K p H2 (.ref t1) (Kd.num).d := ((Dp.newT h1 n1 (.cons (.str _) .nil)).but (But.new h2)).but g2.1
        have D2 : Dh K p H2 (.ref t2) (Kd.tru).d := (Dp.newT h2 n2 (.cons (.str _) .nil)).but g2.1
        have D3 : Dh K p (upd H2 t3 (.tup [.str "record", .str z])) (.ref t3) (Kd.rcd z).d := Dp.newT h3 n3 (.cons (.str _) (.cons (.str _) .nil))
        refine ⟨_, rfl, _, _, rfl, rfl, (by show (3 : Int) ≠ 0; decide), ?_⟩
        have r3 : 0 ≤ r.fmod 3 := fmod_lo (by decide)
        have r4 : r.fmod 3 < 3 := fmod_hi (by decide)
        have hL : SqL K (upd (upd H2 t3 (.tup [.str "record", .str z])) l (.lst [.ref t1, .ref t2, .ref t3])) l [.ref t1, .ref t2, .ref t3] := SqL.of upd_same
        have hcase : r.fmod 3 = 0 ∨ r.fmod 3 = 1 ∨ r.fmod 3 = 2 := by omega
        rcases hcase with e | e | e
        · refine ⟨l, _, _, .ref t1, rfl, rfl, hL, by rw [e]; exact atI_nat (j := 0) rfl, ?_⟩
          exact q _ .num _ True.intro (Nat.zero_le _) ((D1.but (But.new h3)).but (But.new hl)) gD
        · refine ⟨l, _, _, .ref t2, rfl, rfl, hL, by rw [e]; exact atI_nat (j := 1) rfl, ?_⟩
          exact q _ .tru _ True.intro (Nat.zero_le _) ((D2.but (But.new h3)).but (But.new hl)) gD
        · refine ⟨l, _, _, .ref t3, rfl, rfl, hL, by rw [e]; exact atI_nat (j := 2) rfl, ?_⟩
          exact q _ (.rcd z) _ hz (Nat.zero_le _) (D3.but (But.new hl)) gD
      refine ⟨_, rfl, _, _, rfl, rfl, _, rfl, ite2 (fun e => ?_) (fun e => ?_)⟩
      · refine ⟨_, rfl, _, _, rfl, rfl, _, rfl, ite2 (fun e2 => ?_) (fun e2 => ?_)⟩
        · have m0 : (0 : Int) < m := of_decide_eq_true e2
          refine ⟨_, rfl, _, rfl, _, _, rfl, rfl, p, x1, y1, m - 1, ?_, by omega, hp1, fun v k H2 hk hd hD g2 => ?_⟩
          · show [V.ref p, V.int ((m : Int) - 1)] = _
            rw [show ((m - 1 : Nat) : Int) = (m : Int) - 1 by omega]
          · refine ⟨(by show 2 ≤ sizeLine; decide), fun t ht => ?_⟩
            exact q _ (.lst k) _ hk (by show k.deep + 1 ≤ m; omega) (Dp.newT ht (g2.ne ht) (.cons (.str _) (.cons hD .nil))) ((g1.trans g2).new ht)
        · exact rest _ g1
      · show (if (false : Bool) = true then _ else _)
        exact iteF (rest _ g1)

/-! ### the program's looks -/
def nameB : PyData → Bool
  | .str z => nameS z
  | _ => false
def pairB (w : Str) : PyData → Bool
  | .tuple [.str u, _] => u == w
  | _ => false
def kindB : PyData → Bool
  | .tuple [.str w] => w == "number" || w == "truth"
  | .tuple [.str w, x] => if w == "list" then kindB x else w == "record" && nameB x
  | _ => false
theorem ascii_tab : (List.range 128).all (fun c => (Unicode.isAlpha c && !(Unicode.isUpper c || Unicode.isTitle c)) == low c && (!low c || Unicode.isLower c)) = true := by decide +kernel
theorem ascii_low {c : Nat} (h : c < 128) : (Unicode.isAlpha c && !(Unicode.isUpper c || Unicode.isTitle c)) = low c ∧ (low c = true → Unicode.isLower c = true) := by
  have h1 := List.all_eq_true.mp ascii_tab c (List.mem_range.mpr h)
  rw [Bool.and_eq_true] at h1
  refine ⟨eq_of_beq h1.1, fun hl => ?_⟩
  have h2 := h1.2
  rw [hl] at h2
  simpa using h2
theorem low128 {c : Nat} (h : low c = true) : c < 128 := by
  unfold low at h
  rw [Bool.and_eq_true] at h
  have := of_decide_eq_true h.2
  omega
theorem ascii3 {z : Str} (h : 1 ≤ z.length) : (PySem.Txt.isascii z && (PySem.Txt.isalpha z && PySem.Txt.islower z)) = z.cps.toList.all low := by
  unfold PySem.Txt.isascii PySem.Txt.isalpha PySem.Txt.islower
  simp only [← Array.all_toList, ← Array.any_toList]
  rw [Bool.eq_iff_iff]
  simp only [Bool.and_eq_true, List.all_eq_true, decide_eq_true_eq, List.any_eq_true, Bool.not_eq_true', List.any_eq_false]
  constructor
  · rintro ⟨h1, ⟨_, h3⟩, ⟨_, h5⟩⟩ c hc
    have a := (ascii_low (h1 c hc)).1
    rw [← a, h3 c hc]
    have b := h5 c hc
    simp only [Bool.not_eq_true] at b
    rw [b]
    rfl
  · intro hl
    have ne : z.cps.toList ≠ [] := fun e => by
      have := len_tl z
      rw [e] at this
      simp at this
      omega
    obtain ⟨c0, hc0⟩ := List.exists_mem_of_ne_nil _ ne
    have fact : ∀ c ∈ z.cps.toList, Unicode.isAlpha c = true ∧ (Unicode.isUpper c || Unicode.isTitle c) = false := fun c hc => by
      have a := (ascii_low (low128 (hl c hc))).1
      rw [hl c hc, Bool.and_eq_true, Bool.not_eq_true'] at a
      exact a
    refine ⟨fun c hc => low128 (hl c hc), ⟨?_, fun c hc => (fact c hc).1⟩, ⟨c0, hc0, (ascii_low (low128 (hl c0 hc0))).2 (hl c0 hc0)⟩, fun c hc => ?_⟩
    · show z.length > 0
      omega
    · simp only [Bool.not_eq_true]
      exact (fact c hc).2
/-! texts of data are short -/
mutual
def short : PyData → Bool
  | .str z => decide (z.length ≤ 1000)
  | .list xs => decide (xs.length ≤ 1000) && shortAll xs
  | .tuple xs => decide (xs.length ≤ 1000) && shortAll xs
  | .dict _ => false
  | _ => true
def shortAll : List PyData → Bool
  | [] => true
  | x :: xs => short x && shortAll xs
end
abbrev sPIsName : Stmt := topS 12
abbrev NPIsName : List Str := ["thing"]
theorem scPIsName : FnScope NPIsName ["thing"] (fnScope sPIsName) := ⟨rfl, rfl, rfl, by decide +kernel, rfl, by decide +kernel, by decide +kernel⟩
/-- a look at data: a truth told, all stays -/
def spLook (K : PySem.W.Frag) (g : PyData → Bool) : Sp := fun vs H Q _ => ∃ v d, vs = [v] ∧ Dp K H v d ∧ short d = true ∧ ∀ H', Same H H' → Q (.bl (g d)) H'
/-- the names that are kept, as the module has them -/
structure Kept (K : PySem.W.Frag) (mg : Str → Option Value) (aK : Addr) : Prop where
  g : ∃ u, mg "KEPT_WORDS" = some u ∧ RelV (.ref aK) u
  sq : ∀ H, SqT K H aK [.str "number", .str "truth", .str "yes", .str "no"]
theorem c_isName (T : Tp mg) {aK : Addr} (TK : Kept K mg aK) {f : Addr} {fd : FuncData} (D : Def K mg "is_name" sPIsName f fd) (b : Binds K fd ["thing"] []) : Cal P w K mg base 1 "is_name" (spLook K nameB) [] := by
  refine cal0 D b .nil scPIsName (fun vs H Q E h => ?_) (fun cdv A outer s H vs Q E hr h => ?_)
  · obtain ⟨v, d, rfl, _⟩ := h
    rfl
  · obtain ⟨v, d, rfl, hd, hs, q⟩ := h
    refine ⟨_, (pss_cons (ps_if (PW.pt (pw_or (pt_not (pt_val (pe_callB call_isD (by rfl) T.n_isinstance (by decide +kernel) (pa_cons (pv 0) (pa_cons (pe_bltn (v := .ty "str") (by rfl) T.n_str (by decide +kernel) rfl) pa_nil))))) (pw_or1 (pt_not (pt_chain op_le op_le pe_int (pe_callB call_len_str (by rfl) T.n_len (by decide +kernel) (pa_cons (pv 0) pa_nil)) (C8.pe_gc (by rfl) T.g_LONGEST_NAME))))))
      (pss_one (ps_ret pe_bl))
      pss_nil)
    (pss_one (ps_ret (pe_and (pe_m0 PySem.F.slot_str_isascii PySem.F.type_str_isascii mt_isascii (pv 0)) (pe_and (pe_m0 PySem.F.slot_str_isalpha PySem.F.type_str_isalpha mt_isalpha (pv 0)) (pe_and (pe_m0 PySem.F.slot_str_islower PySem.F.type_str_islower mt_islower (pv 0)) (pe_one (pe_cmpR op_notIn_seq (pv 0) (C8.pe_gc (by rfl) TK.g) (by rfl))))))))), ?_⟩
    refine ⟨_, rfl, v, d, "str", rfl, hd, by decide, _, rfl, ?_⟩
    cases hd with
    | str z =>
      have hz : z.length ≤ 1000 := of_decide_eq_true hs
      refine iteF ?_
      refine ⟨_, rfl, z, rfl, by rw [sizeLine_eq]; omega, _, _, rfl, rfl, _, rfl, ite2 (fun e1 => ?_) (fun e1 => ?_)⟩
      · have e1' : (1 : Int) ≤ z.length := of_decide_eq_true e1
        refine ⟨_, _, rfl, rfl, _, rfl, ite2 (fun e2 => ?_) (fun e2 => ?_)⟩
        · have e2' : ¬ ((z.length : Int) ≤ 8) := by simpa using e2
          show Q (.bl false) H
          have e : nameB (.str z) = false := by
            show nameS z = false
            unfold nameS
            rw [decide_eq_false (show ¬ z.length ≤ 8 by omega), Bool.and_false, Bool.false_and]
          exact e ▸ q H (Same.refl H)
        · have e2' : ((z.length : Int) ≤ 8) := by simpa using e2
          have e : nameB (.str z) = (PySem.Txt.isascii z && (PySem.Txt.isalpha z && (PySem.Txt.islower z && !keptS z))) := by
            show nameS z = _
            unfold nameS
            rw [decide_eq_true (show 1 ≤ z.length by omega), decide_eq_true (show z.length ≤ 8 by omega), ← ascii3 (show 1 ≤ z.length by omega)]
            simp only [Bool.and_assoc, Bool.true_and]
          have q' := q H (Same.refl H)
          rw [e] at q'
          refine ⟨_, rfl, ⟨z, rfl⟩, z, rfl, rfl, True.intro, _, rfl, ite2 (fun f1 => ?_) (fun f1 => ?_)⟩
          · rw [f1] at q'
            refine ⟨_, rfl, ⟨z, rfl⟩, z, rfl, rfl, True.intro, _, rfl, ite2 (fun f2 => ?_) (fun f2 => ?_)⟩
            · rw [f2] at q'
              refine ⟨_, rfl, ⟨z, rfl⟩, z, rfl, rfl, True.intro, _, rfl, ite2 (fun f3 => ?_) (fun f3 => ?_)⟩
              · rw [f3] at q'
                exact ⟨_, rfl, aK, _, rfl, .inr (TK.sq H), rfl, rfl, q'⟩
              · rw [eq_false_of_ne_true f3] at q'
                exact q'
            · rw [eq_false_of_ne_true f2] at q'
              exact q'
          · rw [eq_false_of_ne_true f1] at q'
            exact q'
      · refine ⟨_, rfl, iteT ?_⟩
        have e1' : ¬ ((1 : Int) ≤ z.length) := by simpa using e1
        have e : nameB (.str z) = false := by
          show nameS z = false
          unfold nameS
          rw [decide_eq_false (show ¬ 1 ≤ z.length by omega), Bool.false_and, Bool.false_and]
        exact e ▸ q H (Same.refl H)
    | _ => exact iteT (q H (Same.refl H))
end
end K12
set_option Elab.async false
set_option linter.all false
set_option maxRecDepth 100000
set_option maxHeartbeats 4000000
namespace K12
open PySem PySem.Spec PyProof.Rows L2
open C8 (Cal Def cal0 pe_c fnBody fnScope fnArgs)
section
variable {P : Program} {w : World} {K : PySem.W.Frag} {mg : Str → Option Value} {base : Heap}
theorem pairB_of {u : Str} {d : PyData} (h : pairB u d = true) : ∃ x, d = .tuple [.str u, x] := by
  unfold pairB at h
  split at h
  · rename_i y x
    have e : y = u := eq_of_beq h
    exact ⟨x, by rw [e]⟩
  · cases h
theorem pairB_two {u : Str} {ds : List PyData} (h : ds.length ≠ 2) : pairB u (.tuple ds) = false := by
  match ds, h with
  | [], _ => rfl
  | [_], _ => simp [pairB]
  | [_, _], h => exact absurd rfl h
  | _ :: _ :: _ :: _, _ => simp [pairB]
theorem short_all {ds : List PyData} (h : short (.tuple ds) = true) : ds.length ≤ 1000 ∧ shortAll ds = true := by
  have h' : (decide (ds.length ≤ 1000) && shortAll ds) = true := by simpa [short] using h
  rw [Bool.and_eq_true, decide_eq_true_eq] at h'
  exact h'
theorem short_two {x y : PyData} (h : short (.tuple [x, y]) = true) : short x = true ∧ short y = true := by
  have h1 := (short_all h).2
  simpa [shortAll] using h1
theorem _root_.L2.DpAll.two {H : Hp} {xs : List V} {x y : PyData} (h : DpAll K H xs [x, y]) : ∃ u v, xs = [u, v] ∧ Dp K H u x ∧ Dp K H v y := by
  cases h with
  | cons h0 t =>
    cases t with
    | cons h1 t2 =>
      cases t2
      exact ⟨_, _, rfl, h0, h1⟩
theorem _root_.L2.DpAll.one {H : Hp} {xs : List V} {x : PyData} (h : DpAll K H xs [x]) : ∃ u, xs = [u] ∧ Dp K H u x := by
  cases h with
  | cons h0 t =>
    cases t
    exact ⟨_, rfl, h0⟩
theorem two_of {α : Type} {l : List α} (h : l.length = 2) : ∃ x y, l = [x, y] := by
  match l, h with
  | [x, y], _ => exact ⟨x, y, rfl⟩
theorem one_of {α : Type} {l : List α} (h : l.length = 1) : ∃ x, l = [x] := by
  match l, h with
  | [x], _ => exact ⟨x, rfl⟩
theorem ne_int {m : Nat} {n : Nat} (h : m ≠ n) : (!decide (V.int (m : Int) = V.int (n : Int))) = true := by
  rw [decide_eq_false (fun e => h (by have := V.int.inj e; omega))]
  rfl
theorem eq_int {m : Nat} {n : Nat} (h : m = n) : (!decide (V.int (m : Int) = V.int (n : Int))) = false := by
  rw [decide_eq_true (by rw [h])]
  rfl
theorem iteT' {c : Bool} {A B : Prop} (e : c = true) (h : A) : if c = true then A else B := by
  subst e
  exact iteT h
theorem iteF' {c : Bool} {A B : Prop} (e : c = false) (h : B) : if c = true then A else B := by
  subst e
  exact iteF h
abbrev sPIsPair : Stmt := topS 14
abbrev NPIsPair : List Str := ["thing", "word"]
theorem scPIsPair : FnScope NPIsPair ["thing", "word"] (fnScope sPIsPair) := ⟨rfl, rfl, rfl, by decide +kernel, rfl, by decide +kernel, by decide +kernel⟩
def spPair (K : PySem.W.Frag) : Sp := fun vs H Q _ => ∃ v d u, vs = [v, .str u] ∧ Dp K H v d ∧ short d = true ∧ ∀ H', Same H H' → Q (.bl (pairB u d)) H'
theorem c_isPair (T : Tp mg) {f : Addr} {fd : FuncData} (D : Def K mg "_is_pair" sPIsPair f fd) (b : Binds K fd ["thing", "word"] []) : Cal P w K mg base 1 "_is_pair" (spPair K) [] := by
  refine cal0 D b .nil scPIsPair (fun vs H Q E h => ?_) (fun cdv A outer s H vs Q E hr h => ?_)
  · obtain ⟨v, d, u, rfl, _⟩ := h
    rfl
  · obtain ⟨v, d, u, rfl, hd, hs, q⟩ := h
    refine ⟨_, (pss_cons (ps_if (PW.pt (pw_or (pt_not (pt_val (pe_callB call_isD (by rfl) T.n_isinstance (by decide +kernel) (pa_cons (pv 0) (pa_cons (pe_bltn (v := .ty "tuple") (by rfl) T.n_tuple (by decide +kernel) rfl) pa_nil))))) (pw_or1 (pt_cmpR op_ne (pe_callB call_len_seq (by rfl) T.n_len (by decide +kernel) (pa_cons (pv 0) pa_nil)) pe_int (nomark _)))))
      (pss_one (ps_ret pe_bl))
      pss_nil)
    (pss_one (ps_ret (pe_and (pe_callB call_isD (by rfl) T.n_isinstance (by decide +kernel) (pa_cons (pe_ix ix_tup (pv 0) pe_int (fun _ _ => rfl)) (pa_cons (pe_bltn (v := .ty "str") (by rfl) T.n_str (by decide +kernel) rfl) pa_nil))) (pe_one (pe_cmpR op_eq (pe_ix ix_tup (pv 0) pe_int (fun _ _ => rfl)) (pv 1) (nomark _))))))), ?_⟩
    refine ⟨_, rfl, v, d, "tuple", rfl, hd, by decide, _, rfl, ?_⟩
    cases hd with
    | @tup a xs ds hq ha =>
      refine iteF ?_
      have hlen := ha.len
      refine ⟨_, rfl, a, xs, rfl, .inr hq, rfl, _, rfl, ?_⟩
      by_cases h2 : ds.length = 2
      · refine iteF' (eq_int (n := 2) (by omega)) ?_
        obtain ⟨d0, d1, rfl⟩ := two_of h2
        obtain ⟨v0, v1, rfl, h0, h1⟩ := ha.two
        refine ⟨_, rfl, a, _, _, v0, rfl, rfl, hq, atI_nat (j := 0) rfl, v0, d0, "str", rfl, h0, by decide, _, rfl, ?_⟩
        cases h0 with
        | str y =>
          refine iteT ?_
          refine ⟨_, rfl, a, _, _, .str y, rfl, rfl, hq, atI_nat (j := 0) rfl, _, rfl, rfl, ?_⟩
          have q' := q H (Same.refl H)
          rw [dec_str]
          exact q'
        | _ => exact iteF (q H (Same.refl H))
      · refine iteT' (ne_int (n := 2) (by omega)) ?_
        have q' := q H (Same.refl H)
        rw [pairB_two h2] at q'
        exact q'
    | _ => exact iteT (q H (Same.refl H))

end
end K12
set_option Elab.async false
set_option linter.all false
set_option maxRecDepth 100000
set_option maxHeartbeats 4000000
namespace K12
open PySem PySem.Spec PyProof.Rows L2
open C8 (Cal Def cal0 pe_c fnBody fnScope fnArgs)
section
variable {P : Program} {w : World} {K : PySem.W.Frag} {mg : Str → Option Value} {base : Heap}
abbrev sPIsKind : Stmt := topS 13
abbrev NPIsKind : List Str := ["thing"]
theorem scPIsKind : FnScope NPIsKind ["thing"] (fnScope sPIsKind) := ⟨rfl, rfl, rfl, by decide +kernel, rfl, by decide +kernel, by decide +kernel⟩
theorem kindB_list (x : PyData) : kindB (.tuple [.str "list", x]) = kindB x := by
  rw [kindB]
  rfl
theorem kindB_rec (x : PyData) : kindB (.tuple [.str "record", x]) = nameB x := by
  rw [kindB]
  rfl
theorem kindB_one (ds : List PyData) (h : ds.length ≠ 1) (hl : pairB "list" (.tuple ds) = false) (hr : pairB "record" (.tuple ds) = false) : kindB (.tuple ds) = false := by
  match ds, h, hl, hr with
  | [], _, _, _ => simp [kindB]
  | [_], h, _, _ => exact absurd rfl h
  | [d0, d1], _, hl, hr =>
    cases d0 with
    | str u =>
      have h1 : (u == ("list" : Str)) = false := hl
      have h2 : (u == ("record" : Str)) = false := hr
      rw [kindB, h1, h2]
      rfl
    | _ => simp [kindB]
  | _ :: _ :: _ :: _, _, _, _ => simp [kindB]
theorem kindB_not {d : PyData} (h : isT d = false) : kindB d = false := by
  cases d <;> first | (simp [isT] at h; done) | simp [kindB]
theorem depth_list (x : PyData) (u : Str) : (PyData.tuple [.str u, x]).depth = x.depth + 1 := by
  simp [PyData.depth, PyData.depthAll]
theorem c_isKind (T : Tp mg) (c_PIsPair : Cal P w K mg base 1 "_is_pair" (spPair K) []) (c_PIsName : Cal P w K mg base 1 "is_name" (spLook K nameB) []) {f : Addr} {fd : FuncData} (D : Def K mg "is_kind" sPIsKind f fd) (b : Binds K fd ["thing"] []) :
    Cal P w K mg base 2 "is_kind" (spLook K kindB) [] := by
  refine cal0 D b .nil scPIsKind (fun vs H Q E h => ?_) (fun cdv A outer s H vs Q E hr h => ?_)
  · obtain ⟨v, d, rfl, _⟩ := h
    rfl
  · obtain ⟨v0, d0, rfl, hd0, hs0, q⟩ := h
    have nd := scPIsKind.nd
    refine ⟨_, (pss_cons (ps_while PassesOwn.never (pt_val (pe_c c_PIsPair hr (by decide) (by rfl) (pa_cons (pv 0) (pa_cons pe_str pa_nil))))
      (pss_one (ps_set (i := 0) nd rfl (.inl rfl) (pe_ix ix_tup (pv 0) pe_int (fun _ _ => rfl)))))
    (pss_cons (ps_if (pt_val (pe_c c_PIsPair hr (by decide) (by rfl) (pa_cons (pv 0) (pa_cons pe_str pa_nil))))
      (pss_one (ps_ret (pe_c c_PIsName hr (by decide) (by rfl) (pa_cons (pe_ix ix_tup (pv 0) pe_int (fun _ _ => rfl)) pa_nil))))
      pss_nil)
    (pss_cons (ps_if (PW.pt (pw_or (pt_not (pt_val (pe_callB call_isD (by rfl) T.n_isinstance (by decide +kernel) (pa_cons (pv 0) (pa_cons (pe_bltn (v := .ty "tuple") (by rfl) T.n_tuple (by decide +kernel) rfl) pa_nil))))) (pw_or1 (pt_cmpR op_ne (pe_callB call_len_seq (by rfl) T.n_len (by decide +kernel) (pa_cons (pv 0) pa_nil)) pe_int (nomark _)))))
      (pss_one (ps_ret pe_bl))
      pss_nil)
    (pss_one (ps_ret (pe_and (pe_callB call_isD (by rfl) T.n_isinstance (by decide +kernel) (pa_cons (pe_ix ix_tup (pv 0) pe_int (fun _ _ => rfl)) (pa_cons (pe_bltn (v := .ty "str") (by rfl) T.n_str (by decide +kernel) rfl) pa_nil))) (pe_one (pe_cmpR op_in_seq (pe_ix ix_tup (pv 0) pe_int (fun _ _ => rfl)) (pe_tup (pa_cons pe_str (pa_cons pe_str pa_nil))) (by rfl))))))))), ?_⟩
    refine ⟨fun m σ H1 => ∃ v d, σ = [some v] ∧ Dp K H1 v d ∧ short d = true ∧ kindB d = kindB d0 ∧ Same H H1 ∧ m = d.depth, ⟨_, v0, d0, rfl, hd0, hs0, rfl, Same.refl H, rfl⟩, ?_⟩
    rintro m σ H1 ⟨v, d, rfl, hd, hs, hk, hS, rfl⟩
    refine ⟨_, rfl, v, d, "list", rfl, hd, hs, fun H2 e2 => ⟨_, rfl, ite2 (fun e => ?_) (fun e => ?_)⟩⟩
    · obtain ⟨x, rfl⟩ := pairB_of e
      cases hd with
      | tup hq ha =>
        obtain ⟨u0, u1, rfl, g0, g1⟩ := ha.two
        · refine ⟨fun σ' H' => ∃ m', m' < _ ∧ ∃ v d, σ' = [some v] ∧ Dp K H' v d ∧ short d = true ∧ kindB d = kindB d0 ∧ Same H H' ∧ m' = d.depth, fun σ' H' h => h, ?_⟩
          refine ⟨_, rfl, _, _, _, u1, rfl, rfl, sqT_mono e2 hq, atI_nat (j := 1) rfl, ?_⟩
          exact ⟨x.depth, by rw [depth_list]; exact Nat.lt_succ_self _, u1, x, rfl, g1.mono e2, (short_two hs).2, by rw [← hk, kindB_list], hS.trans e2, rfl⟩
    · have hl : pairB "list" d = false := eq_false_of_ne_true e
      have hS2 := hS.trans e2
      have hd2 := hd.mono e2
      refine ⟨_, rfl, v, d, "record", rfl, hd2, hs, fun H3 e3 => ⟨_, rfl, ite2 (fun e => ?_) (fun e => ?_)⟩⟩
      · obtain ⟨x, rfl⟩ := pairB_of e
        cases hd2 with
        | tup hq ha =>
          obtain ⟨u0, u1, rfl, g0, g1⟩ := ha.two
          · refine ⟨_, rfl, _, _, _, u1, rfl, rfl, sqT_mono e3 hq, atI_nat (j := 1) rfl, u1, x, rfl, g1.mono e3, (short_two hs).2, fun H4 e4 => ?_⟩
            have q' := q H4 ((hS2.trans e3).trans e4)
            rw [← hk, kindB_rec] at q'
            exact q'
      · have hrr : pairB "record" d = false := eq_false_of_ne_true e
        have hd3 := hd2.mono e3
        have q' := q H3 (hS2.trans e3)
        refine ⟨_, rfl, v, d, "tuple", rfl, hd3, by decide, _, rfl, ?_⟩
        cases hd3 with
        | @tup a xs ds hq ha =>
          refine iteF ?_
          have hlen := ha.len
          refine ⟨_, rfl, a, xs, rfl, .inr hq, rfl, _, rfl, ?_⟩
          by_cases h2 : ds.length = 1
          · refine iteF' (eq_int (n := 1) (by omega)) ?_
            obtain ⟨d1, rfl⟩ := one_of h2
            obtain ⟨u0, rfl, g0⟩ := ha.one
            · refine ⟨_, rfl, a, _, _, u0, rfl, rfl, hq, atI_nat (j := 0) rfl, u0, d1, "str", rfl, g0, by decide, _, rfl, ?_⟩
              cases g0 with
              | str y =>
                refine iteT ?_
                refine ⟨_, rfl, a, _, _, .str y, rfl, rfl, hq, atI_nat (j := 0) rfl, (by show 2 ≤ sizeLine; decide), fun t ht => ⟨t, _, rfl, .inr (SqT.of upd_same), rfl, rfl, ?_⟩⟩
                have q' := q _ ((hS2.trans e3).trans (Same.new (o := .tup [.str "number", .str "truth"]) ht))
                have ek : kindB (.tuple [.str y]) = inV (.str y) [.str "number", .str "truth"] := by
                  show (y == ("number" : Str) || y == ("truth" : Str)) = (("number" : Str) == y || (("truth" : Str) == y || false))
                  rw [Bool.or_false, Bool.eq_iff_iff]
                  simp only [Bool.or_eq_true, beq_iff_eq]
                  constructor <;> (rintro (h | h)) <;> first | exact .inl h.symm | exact .inr h.symm
                rw [← hk, ek] at q'
                exact q'
              | _ =>
                rw [← hk] at q'
                exact iteF (by simpa [kindB] using q')
          · refine iteT' (ne_int (n := 1) (by omega)) ?_
            rw [← hk, kindB_one ds h2 hl hrr] at q'
            exact q'
        | _ =>
          rw [← hk, kindB_not rfl] at q'
          exact iteT q'
end
end K12
set_option Elab.async false
set_option linter.all false
set_option maxRecDepth 100000
set_option maxHeartbeats 4000000
namespace K12
open PySem PySem.Spec PyProof.Rows L2 PySem.Builtin PySem.Builtin.Str
open C8 (Cal Def cal0 pe_c fnBody fnScope fnArgs)
/-! ### texts of kinds, sign by sign -/
def Kd.wordL : Kd → List Nat
  | .num => ("number" : Str).cps.toList
  | .tru => ("truth" : Str).cps.toList
  | .rcd z => z.cps.toList
  | .lst k => k.wordL
def kt : Kd → List Nat
  | .lst k => 91 :: (kt k ++ [93])
  | k => k.wordL
def ktS (k : Kd) : Str := ⟨(kt k).toArray⟩
def okB (k : Kd) : Bool := kindB k.d
theorem ktS_tl (k : Kd) : (ktS k).cps.toList = kt k := by simp [ktS]
theorem okB_lst (k : Kd) : okB (.lst k) = okB k := kindB_list k.d
theorem okB_rcd (z : Str) : okB (.rcd z) = nameS z := by
  show kindB (.tuple [.str "record", .str z]) = _
  rw [kindB_rec]
  rfl
theorem okB_of : ∀ {k : Kd}, k.ok → okB k = true
  | .num, _ => by decide +kernel
  | .tru, _ => by decide +kernel
  | .rcd z, h => by rw [okB_rcd]; exact h
  | .lst k, h => by rw [okB_lst]; exact okB_of (k := k) h
theorem ok_of : ∀ {k : Kd}, okB k = true → k.ok
  | .num, _ => True.intro
  | .tru, _ => True.intro
  | .rcd z, h => by rw [okB_rcd] at h; exact h
  | .lst k, h => ok_of (k := k) (by rw [okB_lst] at h; exact h)
/-- the bare word, of small letters -/
theorem word_low : ∀ {k : Kd}, k.ok → k.wordL.all low = true ∧ 1 ≤ k.wordL.length ∧ k.wordL.length ≤ 8
  | .num, _ => by decide +kernel
  | .tru, _ => by decide +kernel
  | .rcd z, h => by
    have h' : nameS z = true := h
    unfold nameS at h'
    simp only [Bool.and_eq_true, decide_eq_true_eq] at h'
    have hl := len_tl z
    refine ⟨h'.2.1, ?_, ?_⟩
    · show 1 ≤ z.cps.toList.length; omega
    · show z.cps.toList.length ≤ 8; omega
  | .lst k, h => word_low (k := k) h
theorem kt_form : ∀ k : Kd, kt k = List.replicate k.deep 91 ++ k.wordL ++ List.replicate k.deep 93
  | .num => by simp [kt, Kd.deep]
  | .tru => by simp [kt, Kd.deep]
  | .rcd z => by simp [kt, Kd.deep]
  | .lst k => by
    rw [kt, kt_form k]
    show 91 :: (List.replicate k.deep 91 ++ k.wordL ++ List.replicate k.deep 93 ++ [93]) = List.replicate (k.deep + 1) 91 ++ k.wordL ++ List.replicate (k.deep + 1) 93
    rw [List.replicate_succ, List.replicate_succ']
    simp [List.append_assoc]
/-- what a right kind's text has: brackets and small letters, as many of each bracket, a letter -/
theorem kt_chars {k : Kd} (h : k.ok) : ∀ c ∈ kt k, c = 91 ∨ c = 93 ∨ low c = true := fun c hc => by
  rw [kt_form] at hc
  rcases List.mem_append.mp hc with hc | hc
  · rcases List.mem_append.mp hc with hc | hc
    · exact .inl (List.eq_of_mem_replicate hc)
    · exact .inr (.inr (List.all_eq_true.mp (word_low h).1 c hc))
  · exact .inr (.inl (List.eq_of_mem_replicate hc))
theorem low_ne {c : Nat} (h : low c = true) : c ≠ 91 ∧ c ≠ 93 := by
  unfold low at h
  simp only [Bool.and_eq_true, decide_eq_true_eq] at h
  omega
theorem cnt_word {w : List Nat} (h : w.all low = true) : w.count 91 = 0 ∧ w.count 93 = 0 :=
  ⟨List.count_eq_zero.mpr fun hm => (low_ne (List.all_eq_true.mp h 91 hm)).1 rfl, List.count_eq_zero.mpr fun hm => (low_ne (List.all_eq_true.mp h 93 hm)).2 rfl⟩
theorem kt_count {k : Kd} (h : k.ok) : (kt k).count 91 = k.deep ∧ (kt k).count 93 = k.deep := by
  have hw := cnt_word (word_low h).1
  rw [kt_form]
  simp [List.count_append, hw.1, hw.2, List.count_replicate]
theorem kt_letter {k : Kd} (h : k.ok) : ∃ c ∈ kt k, low c = true := by
  obtain ⟨h1, h2, _⟩ := word_low h
  cases hw : k.wordL with
  | nil => rw [hw] at h2; simp at h2
  | cons c r =>
    rw [hw] at h1
    simp only [List.all_cons, Bool.and_eq_true] at h1
    refine ⟨c, ?_, h1.1⟩
    rw [kt_form, hw]
    simp
theorem kt_len {k : Kd} (h : k.ok) : (kt k).length ≤ 2 * k.deep + 8 := by
  have := (word_low h).2.2
  rw [kt_form]
  simp only [List.length_append, List.length_replicate]
  omega
/-! ### the reader -/
def depthS (z : Str) : Nat := z.length - (Txt.lstripChars z "[").length
def wordS (z : Str) : Str := Txt.stripChars z "[]"
def bareK (z : Str) : Kd := if z = "number" then .num else if z = "truth" then .tru else .rcd z
def wrap : Nat → Kd → Kd
  | 0, k => k
  | n + 1, k => .lst (wrap n k)
def rdK (z : Str) : Kd := wrap (depthS z) (bareK (wordS z))
def rdOk (z : Str) : Bool := decide (depthS z ≤ 800) && (okB (rdK z) && decide (ktS (rdK z) = z))
theorem con1 (c : Nat) : ("[" : Str).cps.contains c = decide (c = 91) := by
  rw [Bool.eq_iff_iff, Array.contains_iff_mem, decide_eq_true_eq]
  constructor
  · intro h
    have : c ∈ ("[" : Str).cps.toList := Array.mem_toList_iff.mpr h
    have e : ("[" : Str).cps.toList = [91] := by decide +kernel
    rw [e] at this
    simpa using this
  · rintro rfl
    decide +kernel
theorem con2 (c : Nat) : ("[]" : Str).cps.contains c = (decide (c = 91) || decide (c = 93)) := by
  rw [Bool.eq_iff_iff, Array.contains_iff_mem, Bool.or_eq_true, decide_eq_true_eq, decide_eq_true_eq]
  constructor
  · intro h
    have : c ∈ ("[]" : Str).cps.toList := Array.mem_toList_iff.mpr h
    have e : ("[]" : Str).cps.toList = [91, 93] := by decide +kernel
    rw [e] at this
    simpa using this
  · rintro (rfl | rfl) <;> decide +kernel
theorem tw_rep {p : Nat → Bool} {n c : Nat} {l : List Nat} (hc : p c = true) (hl : ∀ x t, l = x :: t → p x = false) : (List.replicate n c ++ l).takeWhile p = List.replicate n c := by
  induction n with
  | zero =>
    cases l with
    | nil => rfl
    | cons x t => simp [hl x t rfl]
  | succ n ih => rw [List.replicate_succ, List.cons_append, List.takeWhile_cons, if_pos hc, ih]
theorem tw_all {p : Nat → Bool} : ∀ {l : List Nat}, l.all p = true → l.takeWhile p = l
  | [], _ => rfl
  | x :: t, h => by
    simp only [List.all_cons, Bool.and_eq_true] at h
    rw [List.takeWhile_cons, if_pos h.1, tw_all h.2]
/-- brackets around a middle without brackets -/
structure Fm (z : Str) (a : Nat) (m : List Nat) (b : Nat) : Prop where
  eq : z.cps.toList = List.replicate a 91 ++ (m ++ List.replicate b 93)
  no : ∀ c ∈ m, c ≠ 91 ∧ c ≠ 93
theorem Fm.len {z : Str} {a b : Nat} {m : List Nat} (f : Fm z a m b) : z.length = a + m.length + b := by
  rw [← len_tl, f.eq]
  simp only [List.length_append, List.length_replicate]
  omega
theorem Fm.lo1 {z : Str} {a b : Nat} {m : List Nat} (f : Fm z a m b) : stripLo ("[" : Str).cps.contains true z = a := by
  unfold stripLo
  rw [if_pos rfl, f.eq, tw_rep (by rw [con1]; rfl), List.length_replicate]
  intro x t e
  rw [con1]
  cases hm : m with
  | nil =>
    rw [hm] at e
    cases b with
    | zero => simp at e
    | succ b =>
      rw [List.nil_append, List.replicate_succ] at e
      have := (List.cons.inj e).1
      subst this
      decide
  | cons c r =>
    rw [hm] at e
    have e1 := (List.cons.inj e).1
    subst e1
    exact decide_eq_false (f.no c (by rw [hm]; exact List.mem_cons_self)).1
theorem Fm.depth {z : Str} {a b : Nat} {m : List Nat} (f : Fm z a m b) : depthS z = a := by
  unfold depthS Txt.lstripChars
  have hl := f.len
  have hz := len_tl z
  rw [stripBy_eq, ← len_tl (Builtin.Str.strSub _ _ _), StrLaws.strSub_toList, f.lo1]
  unfold stripHi
  rw [if_neg (by decide), List.length_take, List.length_drop, hz]
  omega
theorem Fm.word {z : Str} {a b : Nat} {m : List Nat} (f : Fm z a m b) : (wordS z).cps.toList = m := by
  unfold wordS Txt.stripChars
  have hl := f.len
  have hz := len_tl z
  rw [stripBy_eq, StrLaws.strSub_toList]
  have br : ∀ n, (List.replicate n 93).all ("[]" : Str).cps.contains = true := fun n => by
    rw [List.all_eq_true]
    intro c hc
    rw [List.eq_of_mem_replicate hc, con2]
    rfl
  cases hm : m with
  | nil =>
    have hlo : stripLo ("[]" : Str).cps.contains true z = z.length := by
      unfold stripLo
      rw [if_pos rfl, tw_all, hz]
      rw [f.eq, hm, List.nil_append, List.all_append, br, Bool.and_true, List.all_eq_true]
      intro c hc
      rw [List.eq_of_mem_replicate hc, con2]
      rfl
    rw [hlo, List.drop_eq_nil_of_le (by omega), List.take_nil]
  | cons c r =>
    have hc := f.no c (by rw [hm]; exact List.mem_cons_self)
    have nc : ∀ x ∈ c :: r, ("[]" : Str).cps.contains x = false := fun x hx => by
      have := f.no x (by rw [hm]; exact hx)
      rw [con2, decide_eq_false this.1, decide_eq_false this.2]
      rfl
    have hlo : stripLo ("[]" : Str).cps.contains true z = a := by
      unfold stripLo
      rw [if_pos rfl, f.eq, hm, tw_rep (by rw [con2]; rfl), List.length_replicate]
      intro x t e
      have e1 := (List.cons.inj e).1
      subst e1
      exact nc c List.mem_cons_self
    have hdrop : z.cps.toList.drop a = (c :: r) ++ List.replicate b 93 := by
      rw [f.eq, hm, List.drop_left' (List.length_replicate ..)]
    have hhi : stripHi ("[]" : Str).cps.contains true z a = z.length - b := by
      unfold stripHi
      rw [if_pos rfl, hdrop, List.reverse_append, List.reverse_replicate, tw_rep (by rw [con2]; rfl), List.length_replicate]
      intro x t e
      refine nc x ?_
      rw [← List.mem_reverse, e]
      exact List.mem_cons_self
    rw [hlo, hhi, hdrop]
    rw [hm] at hl
    rw [List.take_append_of_le_length (by simp only [List.length_cons] at hl ⊢; omega), List.take_of_length_le (by simp only [List.length_cons] at hl ⊢; omega)]
theorem wrap_bare : ∀ {k : Kd}, k.ok → ∀ w : Str, w.cps.toList = k.wordL → wrap k.deep (bareK w) = k
  | .num, _, w, e => by
    have : w = "number" := TL.ext_tl e
    subst this
    show bareK _ = _
    unfold bareK
    rw [if_pos rfl]
  | .tru, _, w, e => by
    have : w = "truth" := TL.ext_tl e
    subst this
    show bareK _ = _
    unfold bareK
    rw [if_neg (by decide +kernel), if_pos rfl]
  | .rcd z, h, w, e => by
    have : w = z := TL.ext_tl e
    subst this
    show bareK _ = _
    have hk : keptS w = false := by
      have h' : nameS w = true := h
      unfold nameS at h'
      simp only [Bool.and_eq_true, Bool.not_eq_true'] at h'
      exact h'.2.2
    unfold bareK
    have n1 : w ≠ "number" := fun e => by subst e; revert hk; decide +kernel
    have n2 : w ≠ "truth" := fun e => by subst e; revert hk; decide +kernel
    rw [if_neg n1, if_neg n2]
  | .lst k, h, w, e => by
    show Kd.lst (wrap k.deep (bareK w)) = Kd.lst k
    rw [wrap_bare (k := k) h w e]
theorem kt_Fm {k : Kd} (h : k.ok) : Fm (ktS k) k.deep k.wordL k.deep := by
  refine ⟨by rw [ktS_tl, kt_form, List.append_assoc], fun c hc => ?_⟩
  exact low_ne (List.all_eq_true.mp (word_low h).1 c hc)
theorem rd_kt {k : Kd} (h : k.ok) : rdK (ktS k) = k := by
  unfold rdK
  rw [(kt_Fm h).depth]
  exact wrap_bare h _ (kt_Fm h).word
theorem rdOk_kt {k : Kd} (h : k.ok) (hd : k.deep ≤ 800) : rdOk (ktS k) = true := by
  unfold rdOk
  rw [rd_kt h, (kt_Fm h).depth, decide_eq_true hd, okB_of h, decide_eq_true rfl]
  rfl
theorem rdOk_inv {z : Str} (h : rdOk z = true) : ∃ k : Kd, k.ok ∧ z.cps.toList = kt k := by
  unfold rdOk at h
  simp only [Bool.and_eq_true, decide_eq_true_eq] at h
  exact ⟨rdK z, ok_of h.2.1, by rw [← h.2.2, ktS_tl, h.2.2]⟩
/-! what is no text of a kind -/
theorem bad_char {z : Str} {c : Nat} (hc : c ∈ z.cps.toList) (h : c ≠ 91 ∧ c ≠ 93 ∧ low c = false) : rdOk z = false := by
  cases hr : rdOk z with
  | false => rfl
  | true =>
    obtain ⟨k, hk, e⟩ := rdOk_inv hr
    rw [e] at hc
    rcases kt_chars hk c hc with h1 | h1 | h1
    · exact absurd h1 h.1
    · exact absurd h1 h.2.1
    · rw [h.2.2] at h1; cases h1
theorem bad_count {z : Str} (h : z.cps.toList.count 91 ≠ z.cps.toList.count 93) : rdOk z = false := by
  cases hr : rdOk z with
  | false => rfl
  | true =>
    obtain ⟨k, hk, e⟩ := rdOk_inv hr
    rw [e, (kt_count hk).1, (kt_count hk).2] at h
    exact absurd rfl h
theorem bad_none {z : Str} (h : ∀ c ∈ z.cps.toList, low c = false) : rdOk z = false := by
  cases hr : rdOk z with
  | false => rfl
  | true =>
    obtain ⟨k, hk, e⟩ := rdOk_inv hr
    obtain ⟨c, h1, h2⟩ := kt_letter hk
    rw [h c (by rw [e]; exact h1)] at h2
    cases h2
end K12
set_option Elab.async false
set_option linter.all false
set_option maxRecDepth 100000
set_option maxHeartbeats 4000000
namespace L2
open PySem PySem.Spec PyProof.Rows
/-! ### one sign, so many times -/
def rRep1 : R2 := fun x y H Q => ∃ (c : Nat) (n : Int), x = .str ⟨#[c]⟩ ∧ y = .int n ∧ 0 ≤ n ∧ n ≤ 5000 ∧ Q (.str ⟨(List.replicate n.toNat c).toArray⟩) H
theorem op_rep1 {X : Cx} : OpR X (binaryOp .Mult) rRep1 := by
  intro pins s σ H x y v u Q I rx ry h
  obtain ⟨c, n, rfl, rfl, h0, h1, q⟩ := h
  obtain ⟨t, rfl⟩ := rx
  obtain ⟨t', rfl⟩ := ry
  have e : Txt.mul ⟨#[c]⟩ n = ⟨(List.replicate n.toNat c).toArray⟩ := TL.ext_tl (by
    show (Txt.mul ⟨#[c]⟩ n).cps.toList = _
    rw [mul_one_list])
  refine SB.mul ⟨?_, fun _ _ => ?_, fun _ _ => ?_⟩ fun t2 k => ?_
  · rw [decide_eq_false (by omega), decide_eq_false (by omega)]; rfl
  · intro hgt
    have hn : 0 < n := by
      rcases Int.lt_or_le 0 n with h | h
      · exact h
      · rename_i a b; exact absurd (show n < 1 by omega) a
    have h2 : (1 : Int) ≤ (2 ^ 63 - 1) / n := by
      rw [Int.le_ediv_iff_mul_le hn]
      omega
    have h3 : (((⟨#[c]⟩ : Str).length : Nat) : Int) = 1 := rfl
    omega
  · have h3 : (⟨#[c]⟩ : Str).length = 1 := rfl
    rw [h3, Nat.one_mul]
    unfold Builtin.Str.tooLong
    rw [sizeLine_eq]
    exact decide_eq_false (by omega)
  · rw [e]
    exact ⟨.str _, H, I.kept (t' := k) fun _ _ z => z, ⟨t2, rfl⟩, q⟩
end L2
namespace K12
open PySem PySem.Spec PyProof.Rows L2
open C8 (Cal Def cal0 pe_c fnBody fnScope fnArgs)
def Kd.word : Kd → Str
  | .num => "number" | .tru => "truth" | .rcd _ => "record" | .lst _ => "list"
section
variable {K : PySem.W.Frag}
theorem kd_at {H : Hp} {kv : V} {k : Kd} (h : Dp K H kv k.d) : ∃ a xs, kv = .ref a ∧ SqT K H a xs ∧ xs[0]? = some (.str k.word) := by
  cases k with
  | num => cases h with
    | @tup a xs _ hq ha => cases ha with
      | cons h1 h2 => cases h1; exact ⟨a, _, rfl, hq, rfl⟩
  | tru => cases h with
    | @tup a xs _ hq ha => cases ha with
      | cons h1 h2 => cases h1; exact ⟨a, _, rfl, hq, rfl⟩
  | rcd z => cases h with
    | @tup a xs _ hq ha => cases ha with
      | cons h1 h2 => cases h1; exact ⟨a, _, rfl, hq, rfl⟩
  | lst k => cases h with
    | @tup a xs _ hq ha => cases ha with
      | cons h1 h2 => cases h1; exact ⟨a, _, rfl, hq, rfl⟩
theorem kd_lst {H : Hp} {kv : V} {k : Kd} (h : Dp K H kv (Kd.lst k).d) : ∃ a xs v1, kv = .ref a ∧ SqT K H a xs ∧ xs[0]? = some (.str "list") ∧ xs[1]? = some v1 ∧ Dp K H v1 k.d := by
  cases h with
  | @tup a xs _ hq ha => cases ha with
    | cons h1 h2 =>
      cases h1
      cases h2 with
      | cons h3 h4 => exact ⟨a, _, _, rfl, hq, rfl, rfl, h3⟩
/-- the last thing of a bare kind: its word -/
theorem kd_last {H : Hp} {kv : V} {k : Kd} (hb : ∀ k', k ≠ .lst k') (h : Dp K H kv k.d) : ∃ a xs w, kv = .ref a ∧ SqT K H a xs ∧ atI xs (-1) = some (.str w) ∧ w.cps.toList = k.wordL := by
  cases k with
  | num => cases h with
    | @tup a xs _ hq ha => cases ha with
      | cons h1 h2 => cases h1; cases h2; exact ⟨a, _, _, rfl, hq, atI_last [] _, rfl⟩
  | tru => cases h with
    | @tup a xs _ hq ha => cases ha with
      | cons h1 h2 => cases h1; cases h2; exact ⟨a, _, _, rfl, hq, atI_last [] _, rfl⟩
  | rcd z => cases h with
    | @tup a xs _ hq ha => cases ha with
      | cons h1 h2 =>
        cases h1
        cases h2 with
        | cons h3 h4 => cases h3; cases h4; exact ⟨a, _, _, rfl, hq, atI_last [_] _, rfl⟩
  | lst k => exact absurd rfl (hb k)
theorem kword_ne {k : Kd} (h : ∀ k', k ≠ .lst k') : decide (V.str k.word = V.str "list") = false := by
  cases k with
  | num => decide +kernel
  | tru => decide +kernel
  | rcd z => show decide (V.str "record" = V.str "list") = false; decide +kernel
  | lst k => exact absurd rfl (h k)
theorem deep0 {k : Kd} (h : ∀ k', k ≠ .lst k') : k.deep = 0 := by
  cases k with
  | lst k => exact absurd rfl (h k)
  | _ => rfl
theorem add_len (x y : Str) : (x ++ y).length = x.length + y.length := by rw [← len_tl, tl_app, List.length_append, len_tl, len_tl]
end
section
variable {P : Program} {w : World} {K : PySem.W.Frag} {mg : Str → Option Value} {base : Heap}
abbrev sPKindText : Stmt := topS 15
abbrev NPKindText : List Str := ["kind", "depth"]
theorem scPKindText : FnScope NPKindText ["kind"] (fnScope sPKindText) := ⟨rfl, rfl, rfl, by decide +kernel, rfl, by decide +kernel, by decide +kernel⟩
def spKindText (K : PySem.W.Frag) : Sp := fun vs H Q _ => ∃ v k, vs = [v] ∧ Dp K H v (Kd.d k) ∧ k.ok ∧ k.deep ≤ 1000 ∧ Q (.str (ktS k)) H
theorem c_kindText (T : Tp mg) {f : Addr} {fd : FuncData} (D : Def K mg "kind_text" sPKindText f fd) (b : Binds K fd ["kind"] []) : Cal P w K mg base 1 "kind_text" (spKindText K) [] := by
  refine cal0 D b .nil scPKindText (fun vs H Q E h => ?_) (fun cdv A outer s H vs Q E hr h => ?_)
  · obtain ⟨v, k, rfl, _⟩ := h
    rfl
  · obtain ⟨v, k, rfl, hd, hk, hdp, q⟩ := h
    have nd := scPKindText.nd
    refine ⟨_, (pss_cons (ps_set (i := 1) nd rfl (.inl rfl) pe_int)
    (pss_cons (ps_while PassesOwn.never (pt_cmpR op_eq (pe_ix ix_tup (pv 0) pe_int (fun _ _ => rfl)) pe_str (nomark _))
      (pss_cons (ps_set (i := 0) nd rfl (.inl rfl) (pe_ix ix_tup (pv 0) pe_int (fun _ _ => rfl)))
      (pss_one (ps_aug (i := 1) nd rfl (.inl rfl) pe_int ip_add))))
    (pss_one (ps_ret (pe_op op_add_str (pe_op op_add_str (pe_op op_rep1 pe_str (pv 1)) (pe_ix ix_tup (pv 0) (pe_un un_neg pe_int) (fun _ _ => rfl))) (pe_op op_rep1 pe_str (pv 1))))))), ?_⟩
    have line := sizeLine_eq
    refine ⟨fun m σ H1 => ∃ v1 k1 n, σ = [some v1, some (.int ((n : Nat) : Int))] ∧ H1 = H ∧ Dp K H v1 (Kd.d k1) ∧ k1.ok ∧ n + k1.deep = k.deep ∧ k1.wordL = k.wordL ∧ m = k1.deep, ⟨_, v, k, 0, rfl, rfl, hd, hk, by omega, rfl, rfl⟩, ?_⟩
    rintro m σ H1 ⟨v1, k1, n, rfl, rfl, hd1, hk1, hn, hwl, rfl⟩
    by_cases hkl : ∃ k2, k1 = .lst k2
    · obtain ⟨k2, rfl⟩ := hkl
      obtain ⟨a, xs, v2, rfl, hq, h0, h1, hd2⟩ := kd_lst hd1
      refine ⟨_, rfl, a, xs, 0, _, rfl, rfl, hq, atI_nat (j := 0) h0, rfl, _, rfl, iteT' (decide_eq_true rfl) ?_⟩
      refine ⟨fun σ' H' => ∃ m', m' < _ ∧ ∃ v1 k1 n, σ' = [some v1, some (.int ((n : Nat) : Int))] ∧ H' = H1 ∧ Dp K H1 v1 (Kd.d k1) ∧ k1.ok ∧ n + k1.deep = k.deep ∧ k1.wordL = k.wordL ∧ m' = k1.deep, fun σ' H' h => h, ?_⟩
      have hn' : n + (k2.deep + 1) = k.deep := hn
      refine ⟨_, rfl, a, xs, 1, v2, rfl, rfl, hq, atI_nat (j := 1) h1, _, rfl, _, _, rfl, rfl, k2.deep, Nat.lt_succ_self _, v2, k2, n + 1, rfl, rfl, hd2, hk1, by omega, hwl, rfl⟩
    · have hb : ∀ k', k1 ≠ .lst k' := fun k' e => hkl ⟨k', e⟩
      have hz := deep0 hb
      obtain ⟨a, xs, rfl, hq, h0⟩ := kd_at hd1
      refine ⟨_, rfl, a, xs, 0, _, rfl, rfl, hq, atI_nat (j := 0) h0, rfl, _, rfl, iteF' (kword_ne hb) ?_⟩
      obtain ⟨a', xs', w, e1, hq', hl, hw⟩ := kd_last hb hd1
      cases e1
      have hwl2 := (word_low hk).2.2
      have hlen : w.length ≤ 8 := by rw [← len_tl, hw, hwl]; exact hwl2
      have hrl : ∀ c : Nat, (⟨(List.replicate ((n : Nat) : Int).toNat c).toArray⟩ : Str).length = n := fun c => by simp [Str.length]
      refine ⟨_, rfl, 91, ((n : Nat) : Int), rfl, rfl, by omega, by omega, _, rfl, _, rfl, a, xs', _, .str w, rfl, rfl, hq', hl, _, _, rfl, rfl, by rw [hrl]; omega, _, rfl, 93, ((n : Nat) : Int), rfl, rfl, by omega, by omega, _, _, rfl, rfl, by rw [add_len, hrl, hrl]; omega, ?_⟩
      have e : ktS k = (⟨(List.replicate ((n : Nat) : Int).toNat 91).toArray⟩ : Str) ++ w ++ ⟨(List.replicate ((n : Nat) : Int).toNat 93).toArray⟩ := by
        refine TL.ext_tl ?_
        show (ktS k).cps.toList = _
        rw [ktS_tl, kt_form]
        show _ = ((_ ++ _ : Str)).cps.toList
        rw [tl_app, tl_app, hw, hwl]
        have : k.deep = n := by omega
        rw [this]
        simp
      rw [e] at q
      exact q
abbrev sPBareKind : Stmt := topS 17
abbrev NPBareKind : List Str := ["word"]
theorem scPBareKind : FnScope NPBareKind ["word"] (fnScope sPBareKind) := ⟨rfl, rfl, rfl, by decide +kernel, rfl, by decide +kernel, by decide +kernel⟩
def spBareKind (K : PySem.W.Frag) : Sp := fun vs H Q _ => ∃ z, vs = [.str z] ∧ ∀ v H', Same H H' → Dp K H' v (Kd.d (bareK z)) → Q v H'
theorem c_bareKind (T : Tp mg) {f : Addr} {fd : FuncData} (D : Def K mg "_bare_kind" sPBareKind f fd) (b : Binds K fd ["word"] []) : Cal P w K mg base 1 "_bare_kind" (spBareKind K) [] := by
  refine cal0 D b .nil scPBareKind (fun vs H Q E h => ?_) (fun cdv A outer s H vs Q E hr h => ?_)
  · obtain ⟨z, rfl, _⟩ := h
    rfl
  · obtain ⟨z, rfl, q⟩ := h
    refine ⟨_, (pss_cons (ps_if (pt_cmpR op_in_seq (pv 0) (pe_tup (pa_cons pe_str (pa_cons pe_str pa_nil))) (by rfl))
      (pss_one (ps_ret (pe_tup (pa_cons (pv 0) pa_nil))))
      pss_nil)
    (pss_one (ps_ret (pe_tup (pa_cons pe_str (pa_cons (pv 0) pa_nil)))))), ?_⟩
    refine ⟨_, rfl, (by show 2 ≤ sizeLine; decide), fun t ht => ⟨t, _, rfl, .inr (SqT.of upd_same), rfl, rfl, _, rfl, ?_⟩⟩
    have s1 := Same.new (o := .tup [.str "number", .str "truth"]) ht
    have hin : inV (.str z) [.str "number", .str "truth"] = (decide (z = "number") || decide (z = "truth")) := by
      show ((("number" : Str) == z) || ((("truth" : Str) == z) || false)) = _
      rw [Bool.or_false, Bool.eq_iff_iff]
      simp only [Bool.or_eq_true, beq_iff_eq, decide_eq_true_eq]
      constructor <;> (rintro (h | h)) <;> first | exact .inl h.symm | exact .inr h.symm
    refine ite2 (fun e => ?_) (fun e => ?_)
    · refine ⟨_, rfl, (by show 1 ≤ sizeLine; decide), fun t2 ht2 => ?_⟩
      have s2 := s1.trans (Same.new (o := .tup [.str z]) ht2)
      refine q _ _ s2 ?_
      have e' := hin.symm.trans e
      simp only [Bool.or_eq_true, decide_eq_true_eq] at e'
      have D1 : Dp K (upd (upd H t (.tup [.str "number", .str "truth"])) t2 (.tup [.str z])) (.ref t2) (.tuple [.str z]) := Dp.newT0 ht2 (.cons (.str z) .nil)
      unfold bareK
      rcases e' with rfl | rfl
      · rw [if_pos rfl]; exact D1
      · rw [if_neg (by decide +kernel), if_pos rfl]; exact D1
    · refine ⟨_, rfl, (by show 2 ≤ sizeLine; decide), fun t2 ht2 => ?_⟩
      have s2 := s1.trans (Same.new (o := .tup [.str "record", .str z]) ht2)
      refine q _ _ s2 ?_
      have e' := hin.symm.trans (eq_false_of_ne_true e)
      simp only [Bool.or_eq_false_iff, decide_eq_false_iff_not] at e'
      unfold bareK
      rw [if_neg e'.1, if_neg e'.2]
      exact Dp.newT0 ht2 (.cons (.str _) (.cons (.str z) .nil))
abbrev sLText : Stmt := topS 26
abbrev NLText : List Str := ["_law_kind_here"]
theorem scLText : FnScope NLText ["_law_kind_here"] (fnScope sLText) := ⟨rfl, rfl, rfl, by decide +kernel, rfl, by decide +kernel, by decide +kernel⟩
def spLText (K : PySem.W.Frag) (n : Nat) : Sp := fun vs H Q _ => ∃ v k, vs = [v] ∧ Dp K H v (Kd.d k) ∧ k.ok ∧ k.deep < n ∧ n ≤ 1000 ∧ Q (.str (ktS k)) H
theorem c_ltext (T : Tp mg) {f : Addr} {fd : FuncData} (D : Def K mg "_law_text" sLText f fd) (b : Binds K fd ["_law_kind_here"] []) : ∀ n : Nat, Cal P w K mg base (1 + n) "_law_text" (spLText K n) []
  | 0 => cal_no _ (fun vs H Q E ⟨v, k, _, _, _, h, _⟩ => absurd h (Nat.not_lt_zero _)) D b
  | n + 1 => by
    have c_LText := c_ltext T D b n
    refine cal0 D b .nil scLText (fun vs H Q E h => ?_) (fun cdv A outer s H vs Q E hr h => ?_)
    · obtain ⟨v, k, rfl, _⟩ := h
      rfl
    · obtain ⟨v, k, rfl, hd, hk, hn, hN, q⟩ := h
      have hr := (show Room (1 + n) _ from hr)
      have line := sizeLine_eq
      refine ⟨_, (pss_cons (ps_if (pt_cmpR op_eq (pe_ix ix_tup (pv 0) pe_int (fun _ _ => rfl)) pe_str (nomark _))
      (pss_one (ps_ret (pe_op op_add_str (pe_op op_add_str pe_str (pe_c c_LText hr (Nat.le_refl _) (by rfl) (pa_cons (pe_ix ix_tup (pv 0) pe_int (fun _ _ => rfl)) pa_nil))) pe_str)))
      pss_nil)
    (pss_one (ps_ret (pe_ix ix_tup (pv 0) (pe_un un_neg pe_int) (fun _ _ => rfl))))), ?_⟩
      by_cases hkl : ∃ k2, k = .lst k2
      · obtain ⟨k2, rfl⟩ := hkl
        obtain ⟨a, xs, v2, rfl, hq, h0, h1, hd2⟩ := kd_lst hd
        have hn2 : k2.deep + 1 < n + 1 := hn
        have hl2 := kt_len (k := k2) hk
        have hlS : (ktS k2).length = (kt k2).length := by rw [← len_tl, ktS_tl]
        refine ⟨_, rfl, a, xs, 0, _, rfl, rfl, hq, atI_nat (j := 0) h0, rfl, _, rfl, iteT' (decide_eq_true rfl) ?_⟩
        have h1l : ("[" : Str).length = 1 := by decide +kernel
        have h2l : ("]" : Str).length = 1 := by decide +kernel
        refine ⟨_, rfl, a, xs, 1, v2, rfl, rfl, hq, atI_nat (j := 1) h1, v2, k2, rfl, hd2, hk, by omega, by omega, _, _, rfl, rfl, by rw [h1l, hlS]; omega, _, _, rfl, rfl, by rw [add_len, h1l, h2l, hlS]; omega, ?_⟩
        have e : ktS (.lst k2) = ("[" : Str) ++ ktS k2 ++ ("]" : Str) := by
          refine TL.ext_tl ?_
          show (ktS (.lst k2)).cps.toList = ((_ ++ _ : Str)).cps.toList
          rw [tl_app, tl_app, ktS_tl, ktS_tl, kt]
          have e1 : ("[" : Str).cps.toList = [91] := by decide +kernel
          have e2 : ("]" : Str).cps.toList = [93] := by decide +kernel
          rw [e1, e2]
          simp
        rw [e] at q
        exact q
      · have hb : ∀ k', k ≠ .lst k' := fun k' e => hkl ⟨k', e⟩
        obtain ⟨a, xs, rfl, hq, h0⟩ := kd_at hd
        refine ⟨_, rfl, a, xs, 0, _, rfl, rfl, hq, atI_nat (j := 0) h0, rfl, _, rfl, iteF' (kword_ne hb) ?_⟩
        obtain ⟨a', xs', w, e1, hq', hl, hw⟩ := kd_last hb hd
        cases e1
        refine ⟨_, rfl, _, rfl, a, xs', _, .str w, rfl, rfl, hq', hl, ?_⟩
        have e : ktS k = w := by
          refine TL.ext_tl ?_
          show (ktS k).cps.toList = w.cps.toList
          rw [ktS_tl, kt_form, deep0 hb, hw]
          simp
        rw [e] at q
        exact q
end
end K12
set_option Elab.async false
set_option linter.all false
set_option maxRecDepth 100000
set_option maxHeartbeats 4000000
namespace K12
open PySem PySem.Spec PyProof.Rows L2 L2H
open C8 (Cal Def cal0 pe_c fnBody fnScope fnArgs)
/-- what the module's names tell of the exceptions -/
structure Ex (K : PySem.W.Frag) (mg : Str → Option Value) (CE CT C3 C4 C5 C6 C7 : Addr) : Prop where
  gE : mg "ChangeError" = some (.ref CE)
  gT : mg "NoText" = some (.ref CT)
  g3 : mg "NotRight" = some (.ref C3)
  g4 : mg "Stuck" = some (.ref C4)
  g5 : mg "NoFit" = some (.ref C5)
  g6 : mg "NoLead" = some (.ref C6)
  g7 : mg "NotNow" = some (.ref C7)
  kT : PySem.W.keepIn K (.ref CT) = true
  xT : PySem.W.excIn K CT [.type "ValueError", .type "Exception", .type "BaseException", .type "object"] "ValueError.__new__" = true
  bT : PySem.W.subIn K (.ref CT) (.type "BaseException") = some true
  tT : PySem.W.typeIn K (.ref CT) = some (.type "type")
  eT : PySem.W.exmOne K (.ref CT) (.ref CE) = some true
  xc : ExcC K CT
  k5 : PySem.W.kitAny K (.ref CT) [.ref C3, .ref C4, .ref C5, .ref C6, .ref C7] = some false
  k1 : PySem.W.kitOne K (.ref CT) (.ref CT) = some true
  kV : PySem.W.kitOne K (.ref CT) (.type "ValueError") = some true
theorem wrap_deep : ∀ (n : Nat) (w : Str), (wrap n (bareK w)).deep = n
  | 0, w => by
    show (bareK w).deep = 0
    unfold bareK
    split
    · rfl
    · split <;> rfl
  | n + 1, w => congrArg (· + 1) (wrap_deep n w)
theorem wrap_short : ∀ (n : Nat) {w : Str}, w.length ≤ 1000 → short (wrap n (bareK w)).d = true
  | 0, w, h => by
    show short (bareK w).d = true
    unfold bareK
    split
    · decide +kernel
    · split
      · decide +kernel
      · have e : (("record" : Str).length ≤ 1000) := by decide +kernel
        simp [Kd.d, short, shortAll, h, e]
  | n + 1, w, h => by
    have ih := wrap_short n h
    have e : (("list" : Str).length ≤ 1000) := by decide +kernel
    show short (.tuple [.str "list", (wrap n (bareK w)).d]) = true
    simp [short, shortAll, ih, e]
section
variable {P : Program} {w : World} {K : PySem.W.Frag} {mg : Str → Option Value} {base : Heap} {CE CT C3 C4 C5 C6 C7 : Addr}
abbrev sPReadKind : Stmt := topS 16
abbrev NPReadKind : List Str := ["text", "depth", "kind", "_"]
theorem scPReadKind : FnScope NPReadKind ["text"] (fnScope sPReadKind) := ⟨rfl, rfl, rfl, by decide +kernel, rfl, by decide +kernel, by decide +kernel⟩
def spRead (K : PySem.W.Frag) (CT : Addr) : Sp := fun vs H Q E =>
  (∃ z, vs = [.str z] ∧ z.length ≤ 5000 ∧ (depthS z ≤ 800 → (wordS z).length ≤ 1000) ∧ (rdOk z = true → ∀ v H', Same H H' → Dp K H' v (rdK z).d → Q v H') ∧ (rdOk z = false → ∀ H', Same H H' → E (.ref CT) none H')) ∨
  (∃ v d, vs = [v] ∧ Dp K H v d ∧ isS d = false ∧ E (.ref CT) none H)
theorem c_readKind (T : Tp mg) (Z : Ex K mg CE CT C3 C4 C5 C6 C7) (c_PIsKind : Cal P w K mg base 2 "is_kind" (spLook K kindB) []) (c_PKindText : Cal P w K mg base 1 "kind_text" (spKindText K) []) (c_PBareKind : Cal P w K mg base 1 "_bare_kind" (spBareKind K) [])
    {f : Addr} {fd : FuncData} (D : Def K mg "read_kind" sPReadKind f fd) (b : Binds K fd ["text"] []) : CalX P w K mg base 3 "read_kind" (spRead K CT) := by
  refine calX0 D b scPReadKind (fun vs H Q E h => ?_) (fun cdv A outer s H vs Q E hr h => ?_)
  · rcases h with ⟨z, rfl, _⟩ | ⟨v, d, rfl, _⟩ <;> rfl
  · have nd := scPReadKind.nd
    have line := sizeLine_eq
    refine ⟨_, (pss_cons (ps_if (pt_not (pt_val (pe_callB call_isD (by rfl) T.n_isinstance (by decide +kernel) (pa_cons (pv 0) (pa_cons (pe_bltn (v := .ty "str") (by rfl) T.n_str (by decide +kernel) rfl) pa_nil)))))
      (pss_one (L2N.ps_raise rfl (L2N.takes_of rfl rfl rfl rfl) (L2N.pmk_own PySem.F.excBase_ValueError Z.xT Z.gT Z.kT (raises_own Z.bT Z.tT) rfl)))
      pss_nil)
    (pss_cons (ps_set (i := 1) nd rfl (.inl rfl) (pe_op op_sub (pe_callB call_len_str (by rfl) T.n_len (by decide +kernel) (pa_cons (pv 0) pa_nil)) (pe_callB call_len_str (by rfl) T.n_len (by decide +kernel) (pa_cons (pe_m1 PySem.F.slot_str_lstrip PySem.F.type_str_lstrip mt_lstripChars (pv 0) pe_str) pa_nil))))
    (pss_cons (ps_if (pt_cmpR op_gt (pv 1) (C8.pe_gc (by rfl) T.g_DEEPEST) (nomark _))
      (pss_one (L2N.ps_raise rfl (L2N.takes_of rfl rfl rfl rfl) (L2N.pmk_own PySem.F.excBase_ValueError Z.xT Z.gT Z.kT (raises_own Z.bT Z.tT) rfl)))
      pss_nil)
    (pss_cons (ps_set (i := 2) nd rfl (.inl rfl) (pe_c c_PBareKind hr (by decide) (by rfl) (pa_cons (pe_m1 PySem.F.slot_str_strip PySem.F.type_str_strip mt_stripChars (pv 0) pe_str) pa_nil)))
    (pss_cons (ps_for (passes_of rfl) rfl (pi_range1 (by rfl) T.n_range (pa_cons (pv 1) pa_nil)) (pg_name (i := 3) nd rfl (.inl rfl))
      (pss_one (ps_set (i := 2) nd rfl (.inl rfl) (pe_tup (pa_cons pe_str (pa_cons (pv 2) pa_nil))))))
    (pss_cons (ps_if (PW.pt (pw_or (pt_not (pt_val (pe_c c_PIsKind hr (by decide) (by rfl) (pa_cons (pv 2) pa_nil)))) (pw_or1 (pt_cmpR op_ne (pe_c c_PKindText hr (by decide) (by rfl) (pa_cons (pv 2) pa_nil)) (pv 0) (nomark _)))))
      (pss_one (L2N.ps_raise rfl (L2N.takes_of rfl rfl rfl rfl) (L2N.pmk_own PySem.F.excBase_ValueError Z.xT Z.gT Z.kT (raises_own Z.bT Z.tT) rfl)))
      pss_nil)
    (pss_one (ps_ret (pv 2))))))))), ?_⟩
    rcases h with ⟨z, rfl, hz, hw, qt, qf⟩ | ⟨v, d, rfl, hd, hs, q⟩
    · refine ⟨_, rfl, _, _, "str", rfl, .str z, by decide, _, rfl, iteF ?_⟩
      have hll := len_lstripChars z "["
      refine ⟨_, rfl, z, rfl, by omega, _, rfl, ⟨z, rfl⟩, z, _, rfl, rfl, by omega, _, rfl, by omega, _, _, rfl, rfl, ?_⟩
      have hdep : ((z.length : Nat) : Int) - (((Txt.lstripChars z "[").length : Nat) : Int) = ((depthS z : Nat) : Int) := by unfold depthS; omega
      rw [show ((fun i j => V.int (i - j)) ((z.length : Nat) : Int) (((Txt.lstripChars z "[").length : Nat) : Int)) = V.int ((depthS z : Nat) : Int) from congrArg V.int hdep]
      refine ⟨_, rfl, _, _, rfl, rfl, _, rfl, ite2 (fun e => ?_) (fun e => ?_)⟩
      · have e1 : (800 : Int) < ((depthS z : Nat) : Int) := of_decide_eq_true e
        refine qf ?_ H (Same.refl H)
        unfold rdOk
        rw [decide_eq_false (show ¬ depthS z ≤ 800 by omega)]
        rfl
      · have e1 : ¬ (800 : Int) < ((depthS z : Nat) : Int) := fun h => e (decide_eq_true h)
        have hd8 : depthS z ≤ 800 := by omega
        have hwl := hw hd8
        refine ⟨_, rfl, ⟨z, rfl⟩, z, _, rfl, rfl, by omega, _, rfl, fun v H1 s1 Dv => ?_⟩
        refine ⟨_, rfl, _, rfl, by omega, by omega, ?_⟩
        refine for_range (lo := 0) (n := (((depthS z : Nat) : Int)).toNat) (fun i σ H' => ∃ v o, σ = [some (.str z), some (.int ((depthS z : Nat) : Int)), some v, o] ∧ Dp K H' v (wrap i (bareK (wordS z))).d ∧ Same H H') ⟨v, _, rfl, Dv, s1⟩ (fun i σ H' hi hW => ?_) (fun σ H' hW => ?_)
        · obtain ⟨v, o, rfl, Dv, sm⟩ := hW
          refine ⟨_, rfl, (by show 2 ≤ sizeLine; decide), fun t ht => ?_⟩
          exact ⟨.ref t, _, rfl, Dp.newT0 ht (.cons (.str _) (.cons Dv .nil)), sm.trans (Same.new ht)⟩
        · obtain ⟨v, o, rfl, Dv, sm⟩ := hW
          have en : (((depthS z : Nat) : Int)).toNat = depthS z := Int.toNat_natCast _
          rw [en] at Dv
          have Dv : Dp K H' v (rdK z).d := Dv
          refine ⟨_, rfl, v, _, rfl, Dv, wrap_short _ hwl, fun H2 s2 => ⟨_, rfl, ?_⟩⟩
          have rd : rdOk z = (okB (rdK z) && decide (ktS (rdK z) = z)) := by
            unfold rdOk
            rw [decide_eq_true hd8, Bool.true_and]
          show if (!(okB (rdK z))) = true then _ else _
          cases hok : okB (rdK z) with
          | false =>
            refine iteT (iteT ?_)
            refine qf ?_ H2 (sm.trans s2)
            rw [rd, hok]
            rfl
          | true =>
            refine iteF ?_
            refine ⟨_, rfl, v, rdK z, rfl, Dv.mono s2, ok_of hok, by have := wrap_deep (depthS z) (wordS z); show (wrap _ _).deep ≤ 1000; omega, _, rfl, rfl, _, rfl, ?_⟩
            by_cases he : ktS (rdK z) = z
            · refine iteF' (by rw [he, decide_eq_true rfl]; rfl) ?_
              exact ⟨_, rfl, qt (by rw [rd, hok, decide_eq_true he]; rfl) v H2 (sm.trans s2) (Dv.mono s2)⟩
            · refine iteT' (by rw [decide_eq_false (fun h => he (V.str.inj h))]; rfl) ?_
              exact qf (by rw [rd, hok, decide_eq_false he]; rfl) H2 (sm.trans s2)
    · refine ⟨_, rfl, v, d, "str", rfl, hd, by decide, _, rfl, iteT' (by show (!(isS d)) = true; rw [hs]; rfl) q⟩
/-! ### the law's word for an exception, its reading -/
abbrev sLWord : Stmt := topS 24
abbrev NLWord : List Str := ["_law_e"]
theorem scLWord : FnScope NLWord ["_law_e"] (fnScope sLWord) := ⟨rfl, rfl, rfl, by decide +kernel, rfl, by decide +kernel, by decide +kernel⟩
def spWord (CT : Addr) (a : Addr) (cls : Value) (d : Option Addr) : Sp := fun vs H Q _ => vs = [.ref a] ∧ cls = .ref CT ∧ d = none ∧ ∀ H', Same H H' → Q (.str "refused") H'
theorem c_word (T : Tp mg) (Z : Ex K mg CE CT C3 C4 C5 C6 C7) {f : Addr} {fd : FuncData} (D : Def K mg "_law_word" sLWord f fd) (b : Binds K fd ["_law_e"] []) : CalE P w K mg base 1 "_law_word" fun q => spWord CT q.1 q.2.cls q.2.dict := by
  refine calE0 D b scLWord (fun p vs H Q E h => ?_) (fun cdv A outer s H vs Q E p hot hr h => ?_)
  · rw [h.1]; rfl
  · obtain ⟨rfl, hc, hd, q⟩ := h
    have o : OwnE CT p := ⟨hc, hd, by obtain ⟨_, vs, h1, _⟩ := hot; exact ⟨vs, h1⟩⟩
    have mem : ∀ {X : Cx}, X.pn = [p] → p ∈ X.pn := fun e => by rw [e]; exact List.mem_cons_self
    refine ⟨_, (pss_cons (ps_if (pt_val (pe_callB (call_isPs Z.xc o (mem rfl)) (by rfl) T.n_isinstance (by decide +kernel) (pa_cons (pv 0) (pa_cons (pe_tup (pa_cons (C8.pe_gc (v := .ref C3) (by rfl) ⟨_, Z.g3, rfl⟩) (pa_cons (C8.pe_gc (v := .ref C4) (by rfl) ⟨_, Z.g4, rfl⟩) (pa_cons (C8.pe_gc (v := .ref C5) (by rfl) ⟨_, Z.g5, rfl⟩) (pa_cons (C8.pe_gc (v := .ref C6) (by rfl) ⟨_, Z.g6, rfl⟩) (pa_cons (C8.pe_gc (v := .ref C7) (by rfl) ⟨_, Z.g7, rfl⟩) pa_nil)))))) pa_nil))))
      (pss_one (ps_ret pe_str))
      pss_nil)
    (pss_cons (ps_if (PW.pt (pw_and (pt_val (pe_callB (call_isP Z.xc o (mem rfl)) (by rfl) T.n_isinstance (by decide +kernel) (pa_cons (pv 0) (pa_cons (C8.pe_gc (v := .ref CT) (by rfl) ⟨_, Z.gT, rfl⟩) pa_nil)))) (pw_and1 (pt_val (pe_callB (call_isP Z.xc o (mem rfl)) (by rfl) T.n_isinstance (by decide +kernel) (pa_cons (pv 0) (pa_cons (pe_bltn (v := .ty "ValueError") (by rfl) T.n_ValueError (by decide +kernel) rfl) pa_nil)))))))
      (pss_one (ps_ret pe_str))
      pss_nil)
    (pss_one (ps_ret pe_str)))), ?_⟩
    refine ⟨_, rfl, (by show 5 ≤ sizeLine; decide), fun t ht => ⟨t, _, [.ref C3, .ref C4, .ref C5, .ref C6, .ref C7], false, rfl, upd_same, .cons (.own _) (.cons (.own _) (.cons (.own _) (.cons (.own _) (.cons (.own _) .nil)))), Z.k5, _, rfl, iteF ?_⟩⟩
    refine ⟨_, rfl, .ref CT, _, true, rfl, .own _, Z.k1, _, rfl, iteT ⟨_, rfl, .ty "ValueError", _, true, rfl, .ty _, Z.kV, _, rfl, iteT ?_⟩⟩
    exact q _ (Same.new ht)
abbrev sLRead : Stmt := topS 25
abbrev NLRead : List Str := ["_law_text_here", "_law_word_here", "_law_e"]
theorem scLRead : FnScope NLRead ["_law_text_here"] (fnScope sLRead) := ⟨rfl, rfl, rfl, by decide +kernel, rfl, by decide +kernel, by decide +kernel⟩
/-- what is refused: a text that is no kind's, or no text -/
def BadV (K : PySem.W.Frag) (H : Hp) (v : V) : Prop := (∃ z, v = .str z ∧ z.length ≤ 5000 ∧ (depthS z ≤ 800 → (wordS z).length ≤ 1000) ∧ rdOk z = false) ∨ ∃ d, Dp K H v d ∧ isS d = false
def spLRead (K : PySem.W.Frag) : Sp := fun vs H Q _ => ∃ v, vs = [v] ∧ BadV K H v ∧ ∀ H', Same H H' → Q (.str "refused") H'
theorem c_lread (T : Tp mg) (Z : Ex K mg CE CT C3 C4 C5 C6 C7) (c_PReadKind : CalX P w K mg base 3 "read_kind" (spRead K CT)) (c_LWord : CalE P w K mg base 1 "_law_word" fun q => spWord CT q.1 q.2.cls q.2.dict) {f : Addr} {fd : FuncData} (D : Def K mg "_law_read" sLRead f fd) (b : Binds K fd ["_law_text_here"] []) :
    Cal P w K mg base 4 "_law_read" (spLRead K) [] := by
  refine cal0 D b .nil scLRead (fun vs H Q E h => ?_) (fun cdv A outer s H vs Q E hr h => ?_)
  · obtain ⟨v, rfl, _⟩ := h
    rfl
  · obtain ⟨v, rfl, hb, q⟩ := h
    have nd := scLRead.nd
    refine ⟨_, (pss_cons (ps_set (i := 1) nd rfl (.inl rfl) pe_str)
    (pss_cons (L2N.ps_try_as (i := 2) (c := .ref CE) (tb := fun W => tDrop (tCallS (spRead K CT) (WE W) (tCons (tVar 0) tNil))) (ts := fun a cls d => tAsg (tCall (spWord CT a cls d) [] C8.E0 (tCons (tVar 2) tNil)) (gName 1)) (Wout := fun _ _ _ _ => False) rfl rfl nd rfl rfl ⟨rfl, by decide, .inl Z.gE⟩ takes0N
      (fun W pn xe tk _ => pss_one (ps_expr (pe_cx c_PReadKind tk hr (by decide) (by rfl) (by exact (pa_cons (pv 0) pa_nil)))))
      (fun a oe cls d pn hz hf => pss_one (ps_set (i := 1) nd rfl (.inl rfl) (pe_ce2 (j := 3) (sp := spWord CT) c_LWord ⟨rfl, by obtain ⟨vs, h1⟩ := hf; exact ⟨vs, h1, hz.2.2 vs h1⟩⟩ List.mem_cons_self hz ⟨hr.dp, hr.un⟩ (by decide) (by rfl) (by exact (pa_cons (pv 2) pa_nil))))))
    (pss_one (ps_ret (pv 1))))), ?_⟩
    refine ⟨_, rfl, ?_⟩
    have caught : ∀ H1, Same H H1 → wAs K (.ref CE) 2 (fun a cls d => tAsg (tCall (spWord CT a cls d) [] C8.E0 (tCons (tVar 2) tNil)) (gName 1)) (fun _ _ _ _ => False) { nx := fun σ' H' => tRet (tVar 1) { nx := fun x H' => Q V.non H', rt := Q } σ' H', rt := Q } (.ref CT) none [some v, some (.str "told"), none] H1 := fun H1 s1 =>
      ⟨true, Z.eT, fun _ a ha => ⟨_, rfl, rfl, rfl, rfl, fun H2 s2 => ⟨_, rfl, q H2 (s1.trans s2)⟩⟩, fun h => Bool.noConfusion h⟩
    rcases hb with ⟨z, rfl, h1, h2, h3⟩ | ⟨d, h1, h2⟩
    · exact .inl ⟨z, rfl, h1, h2, (fun h => by rw [h3] at h; cases h), fun _ H1 s1 => caught H1 s1⟩
    · exact .inr ⟨v, d, rfl, h1, h2, caught H (Same.refl H)⟩
end
end K12
set_option Elab.async false
set_option linter.all false
set_option maxRecDepth 100000
set_option maxHeartbeats 4000000
namespace K12
open PySem PySem.Spec PyProof.Rows L2
open C8 (Cal Def cal0 pe_c fnBody fnScope fnArgs)
section
variable {K : PySem.W.Frag}
theorem badS {H : Hp} {z : Str} (hl : z.length ≤ 1000) (h : rdOk z = false) : BadV K H (.str z) := .inl ⟨z, rfl, by omega, fun _ => Nat.le_trans (len_stripChars z "[]") hl, h⟩
theorem BadV.mono {H H' : Hp} {v : V} (e : Same H H') (h : BadV K H v) : BadV K H' v := by
  rcases h with h | ⟨d, h1, h2⟩
  · exact .inl h
  · exact .inr ⟨d, h1.mono e, h2⟩
theorem in_right {a b : Str} {c : Nat} (h : c ∈ b.cps.toList) : c ∈ (a ++ b).cps.toList := by rw [tl_app]; exact List.mem_append_right _ h
theorem in_left {a b : Str} {c : Nat} (h : c ∈ a.cps.toList) : c ∈ (a ++ b).cps.toList := by rw [tl_app]; exact List.mem_append_left _ h
theorem cnt_app (a b : Str) (c : Nat) : (a ++ b).cps.toList.count c = a.cps.toList.count c + b.cps.toList.count c := by rw [tl_app, List.count_append]
theorem pick_at {α : Type} {l : List α} {r : Int} (h0 : 0 ≤ r) (h1 : r < (l.length : Nat)) : ∃ x, l[r.toNat]? = some x ∧ r = (r.toNat : Int) := ⟨_, List.getElem?_eq_getElem (show r.toNat < l.length by omega), by omega⟩
theorem atI_pick {xs : List V} {v : V} {r : Int} (e : r = (r.toNat : Int)) (h : xs[r.toNat]? = some v) : atI xs r = some v := by
  rw [e]
  exact atI_nat h
/-- the spoilings of a kind's text -/
structure Spoils (t : Str) : Prop where
  len : t.length ≤ 24
  p1 : rdOk (t ++ "]") = false
  p2 : rdOk ("[" ++ t) = false
  p3 : rdOk (t ++ " ") = false
  p4 : rdOk (t ++ "\n") = false
  p5 : rdOk (" " ++ t) = false
  p6 : rdOk (Txt.upper t) = false
  p7 : rdOk ("[" ++ t ++ ",]") = false
  p8 : rdOk ("[" ++ t ++ " ]") = false
  p9 : rdOk ("(" ++ t ++ ")") = false
  up : (Txt.upper t).length ≤ 24
theorem spoils {k : Kd} (h : k.ok) (hd : k.deep ≤ 8) : Spoils (ktS k) := by
  have hl := kt_len h
  have hlS : (ktS k).length = (kt k).length := by rw [← len_tl, ktS_tl]
  have c1 : (ktS k).cps.toList.count 91 = k.deep := by rw [ktS_tl]; exact (kt_count h).1
  have c2 : (ktS k).cps.toList.count 93 = k.deep := by rw [ktS_tl]; exact (kt_count h).2
  have asc : ∀ c ∈ (ktS k).cps.toList, c < 128 := fun c hc => by
    rw [ktS_tl] at hc
    rcases kt_chars h c hc with h1 | h1 | h1
    · omega
    · omega
    · exact low128 h1
  have eu := PyProof.Rows.upper_ascii asc
  refine ⟨by omega, ?_, ?_, ?_, ?_, ?_, ?_, ?_, ?_, ?_, ?_⟩
  · refine bad_count ?_
    rw [cnt_app, cnt_app, c1, c2]
    have e1 : ("]" : Str).cps.toList.count 91 = 0 := by decide +kernel
    have e2 : ("]" : Str).cps.toList.count 93 = 1 := by decide +kernel
    omega
  · refine bad_count ?_
    rw [cnt_app, cnt_app, c1, c2]
    have e1 : ("[" : Str).cps.toList.count 91 = 1 := by decide +kernel
    have e2 : ("[" : Str).cps.toList.count 93 = 0 := by decide +kernel
    omega
  · exact bad_char (c := 32) (in_right (by decide +kernel)) (by decide)
  · exact bad_char (c := 10) (in_right (by decide +kernel)) (by decide)
  · exact bad_char (c := 32) (in_left (by decide +kernel)) (by decide)
  · obtain ⟨c, hc, hlow⟩ := kt_letter h
    have hr : 97 ≤ c ∧ c ≤ 122 := by
      unfold low at hlow
      simpa only [Bool.and_eq_true, decide_eq_true_eq] using hlow
    refine bad_char (c := PyProof.Rows.up1 c) ?_ ?_
    · rw [eu]
      show PyProof.Rows.up1 c ∈ ((ktS k).cps.map PyProof.Rows.up1).toList
      rw [Array.toList_map, List.mem_map]
      exact ⟨c, by rw [ktS_tl]; exact hc, rfl⟩
    · have : PyProof.Rows.up1 c = c - 32 := by
        unfold PyProof.Rows.up1
        first
        | (split <;> omega)
        | simp [hr.1, hr.2]
      rw [this]
      refine ⟨by omega, by omega, ?_⟩
      unfold low
      rw [decide_eq_false (show ¬ 97 ≤ c - 32 by omega)]
      rfl
  · exact bad_char (c := 44) (in_right (by decide +kernel)) (by decide)
  · exact bad_char (c := 32) (in_right (by decide +kernel)) (by decide)
  · exact bad_char (c := 40) (in_left (in_left (by decide +kernel))) (by decide)
  · rw [eu]
    show ((ktS k).cps.map _).size ≤ 24
    rw [Array.size_map]
    have : (ktS k).cps.size = (ktS k).length := rfl
    omega
theorem lit1 : rdOk "[]" = false ∧ rdOk "[[]]" = false ∧ rdOk "" = false := by
  refine ⟨bad_none ?_, bad_none ?_, bad_none ?_⟩ <;> decide +kernel
theorem lit2 : rdOk "yes" = false ∧ rdOk "no" = false ∧ rdOk "[yes]" = false ∧ rdOk "abcdefghi" = false ∧ rdOk "[a1]" = false ∧ rdOk "[a, a]" = false ∧ rdOk "a]" = false ∧ rdOk "[a" = false ∧ rdOk "#a" = false := by decide +kernel
end
section
variable {P : Program} {w : World} {K : PySem.W.Frag} {mg : Str → Option Value} {base : Heap}
/-- a list of things that are refused -/
structure Bads (K : PySem.W.Frag) (p : Addr) (H0 : Hp) (l : Addr) (H : Hp) (n : Nat) (vs : List V) : Prop where
  at_ : H l = some (.lst vs)
  ne : l ≠ p
  all : ∀ v ∈ vs, BadV K (hid p H) v
  len : vs.length = n
  go : Going p H0 H
abbrev sLSpoilt : Stmt := topS 27
abbrev NLSpoilt : List Str := ["_law_pot_here", "_law_kind_here", "_law_text_here", "_law_some"]
theorem scLSpoilt : FnScope NLSpoilt ["_law_pot_here", "_law_kind_here"] (fnScope sLSpoilt) := ⟨rfl, rfl, rfl, by decide +kernel, rfl, by decide +kernel, by decide +kernel⟩
def spSpoilt (K : PySem.W.Frag) : Sp := fun vs H Q _ => ∃ (p : Addr) (x y : Int) (kv : V) (k : Kd), vs = [.ref p, kv] ∧ Pot H p x y ∧ Dh K p H kv k.d ∧ k.ok ∧ k.deep ≤ 8 ∧ ∀ v H', BadV K H' v → Going p H H' → Q v H'
theorem grow {p : Addr} {H0 H : Hp} {σ : L2.St} {l : Addr} {i n : Nat} {vs ws : List V} {es : TA} {Q : VK} (S : Bads K p H0 l H n vs) (hs : σ[i]? = some (some (.ref l))) (hn : n + ws.length ≤ 1000) (hb : ∀ v ∈ ws, ∀ H, BadV K H v)
    (he : ∀ R : List V → Hp → Prop, R ws H → es σ H R) (q : ∀ l vs H', Bads K p H0 l H' (n + ws.length) vs → Q (.ref l) H') : tOp rCat (tVar i) (tLst es) σ H Q := by
  have hvl := S.len
  refine ⟨_, hs, he _ ⟨by rw [sizeLine_eq]; omega, fun l2 hl2 => ?_⟩⟩
  have b2 := But.new (p := p) (o := .lst ws) hl2
  refine ⟨l, l2, vs, ws, rfl, rfl, b2 _ _ S.ne S.at_, upd_same, by rw [sizeLine_eq]; omega, fun l3 hl3 => ?_⟩
  have g2 := S.go.new (o := .lst ws) hl2
  have b3 := But.new (p := p) (o := .lst (vs ++ ws)) hl3
  refine q l3 (vs ++ ws) _ ⟨upd_same, g2.ne hl3, fun v hv => ?_, by rw [List.length_append, hvl], g2.new hl3⟩
  rcases List.mem_append.mp hv with hv | hv
  · exact (S.all v hv).mono (hid_but (b2.trans b3))
  · exact hb v hv _
theorem c_spoilt (T : Tp mg) (c_LTake : Cal P w K mg base 1 "_law_take" spTake []) (c_LText : Cal P w K mg base 10 "_law_text" (spLText K 9) []) {f : Addr} {fd : FuncData} (D : Def K mg "_law_spoilt" sLSpoilt f fd) (b : Binds K fd ["_law_pot_here", "_law_kind_here"] []) : Cal P w K mg base 11 "_law_spoilt" (spSpoilt K) [] := by
  refine cal0 D b .nil scLSpoilt (fun vs H Q E h => ?_) (fun cdv A outer s H vs Q E hr h => ?_)
  · obtain ⟨p, x, y, kv, k, rfl, _⟩ := h
    rfl
  · obtain ⟨p, x, y, kv, k, rfl, hp, hk, ok, hdp, q⟩ := h
    have nd := scLSpoilt.nd
    have line := sizeLine_eq
    refine ⟨_, (pss_cons (ps_set (i := 2) nd rfl (.inl rfl) (pe_c c_LText hr (by decide) (by rfl) (pa_cons (pv 1) pa_nil)))
    (C8.pss_cut (ps_set (i := 3) nd rfl (.inl rfl) (pe_lst (pa_cons (pe_op op_add_str (pv 2) pe_str) (pa_cons (pe_op op_add_str pe_str (pv 2)) (pa_cons (pe_op op_add_str (pv 2) pe_str) (pa_cons (pe_op op_add_str (pv 2) pe_str) (pa_cons (pe_op op_add_str pe_str (pv 2)) (pa_cons (pe_m0 PySem.F.slot_str_upper PySem.F.type_str_upper mt_upper (pv 2)) (pa_cons (pe_op op_add_str (pe_op op_add_str pe_str (pv 2)) pe_str) pa_nil)))))))))
    (C8.pss_cut (ps_set (i := 3) nd rfl (.inl rfl) (pe_op op_cat (pv 3) (pe_lst (pa_cons pe_str (pa_cons pe_str pa_nil)))))
    (C8.pss_cut (ps_set (i := 3) nd rfl (.inl rfl) (pe_op op_cat (pv 3) (pe_lst (pa_cons pe_str (pa_cons (pe_op op_add_str (pe_op op_add_str pe_str (pv 2)) pe_str) pa_nil)))))
    (C8.pss_cut (ps_set (i := 3) nd rfl (.inl rfl) (pe_op op_cat (pv 3) (pe_lst (pa_cons pe_str (pa_cons pe_str (pa_cons pe_str (pa_cons pe_str (pa_cons pe_str (pa_cons pe_str (pa_cons pe_str (pa_cons pe_str (pa_cons (pe_op op_add_str (pe_op op_add_str pe_str (pv 2)) pe_str) (pa_cons pe_str pa_nil)))))))))))))
    (C8.pss_cut (ps_set (i := 3) nd rfl (.inl rfl) (pe_op op_cat (pv 3) (pe_lst (pa_cons (pe_ix ix_list (pe_lst (pa_cons pe_non (pa_cons pe_int (pa_cons pe_bl (pa_cons (pe_lst (pa_cons (pv 2) pa_nil)) (pa_cons (pe_tup (pa_cons (pv 2) pa_nil)) pa_nil)))))) (pe_c c_LTake hr (by decide) (by rfl) (pa_cons (pv 0) (pa_cons pe_int pa_nil))) (fun _ _ => rfl)) pa_nil))))
    (pss_one (ps_ret (pe_ix ix_list (pv 3) (pe_c c_LTake hr (by decide) (by rfl) (pa_cons (pv 0) (pa_cons (pe_callB call_len_seq (by rfl) T.n_len (by decide +kernel) (pa_cons (pv 3) pa_nil)) pa_nil))) (fun _ _ => rfl)))))))))), ?_⟩
    have sp := spoils ok hdp
    have hl := sp.len
    have hu := sp.up
    have ob : ("[" : Str).length = 1 ∧ ("]" : Str).length = 1 ∧ (" " : Str).length = 1 ∧ ("\n" : Str).length = 1 ∧ (",]" : Str).length = 2 ∧ (" ]" : Str).length = 2 ∧ ("(" : Str).length = 1 ∧ (")" : Str).length = 1 := by decide +kernel
    obtain ⟨o1, o2, o3, o4, o5, o6, o7, o8⟩ := ob
    refine ⟨_, rfl, kv, k, rfl, hk.un, ok, by omega, by decide, ?_⟩
    generalize ht : ktS k = t at *
    have l7 : ("[" ++ t ++ ",]" : Str).length ≤ 27 := by rw [add_len, add_len]; omega
    have l8 : ("[" ++ t ++ " ]" : Str).length ≤ 27 := by rw [add_len, add_len]; omega
    have l9 : ("(" ++ t ++ ")" : Str).length ≤ 27 := by rw [add_len, add_len]; omega
    have la : ∀ {a : Str}, a.length ≤ 2 → (t ++ a).length ≤ 30 ∧ (a ++ t).length ≤ 30 := fun h => by rw [add_len, add_len]; omega
    have g0 : Going p H H := ⟨But.refl p H, x, y, hp⟩
    refine ⟨fun σ' H' => ∃ l vs, σ' = [some (.ref p), some kv, some (.str t), some (.ref l)] ∧ Bads K p H l H' 7 vs, ?_, ?_⟩
    · refine ⟨_, rfl, _, _, rfl, rfl, by omega, _, rfl, _, _, rfl, rfl, by omega, _, rfl, _, _, rfl, rfl, by omega, _, rfl, _, _, rfl, rfl, by omega, _, rfl, _, _, rfl, rfl, by omega, _, rfl, ⟨_, rfl⟩, t, rfl, rfl, by omega, _, rfl, _, _, rfl, rfl, by omega, _, _, rfl, rfl, by rw [add_len]; omega, (by show 7 ≤ sizeLine; decide), fun l hl2 => ?_⟩
      refine ⟨l, _, rfl, upd_same, g0.ne hl2, fun v hv => ?_, rfl, g0.new hl2⟩
      simp only [List.mem_cons, List.not_mem_nil, or_false] at hv
      rcases hv with rfl | rfl | rfl | rfl | rfl | rfl | rfl
      · exact badS (by have := (la (a := "]") (by omega)).1; omega) sp.p1
      · exact badS (by have := (la (a := "[") (by omega)).2; omega) sp.p2
      · exact badS (by have := (la (a := " ") (by omega)).1; omega) sp.p3
      · exact badS (by have := (la (a := "\n") (by omega)).1; omega) sp.p4
      · exact badS (by have := (la (a := " ") (by omega)).2; omega) sp.p5
      · exact badS (by omega) sp.p6
      · exact badS (by omega) sp.p7
    · rintro σ2 H2 ⟨l, vs, rfl, B⟩
      refine ⟨fun σ' H' => ∃ l vs, σ' = [some (.ref p), some kv, some (.str t), some (.ref l)] ∧ Bads K p H l H' 9 vs, ?_, ?_⟩
      · refine grow (ws := [.str "[]", .str "[[]]"]) B rfl (by decide) (fun v hv H => ?_) (fun R h => h) (fun l vs H' B => ⟨l, vs, rfl, B⟩)
        simp only [List.mem_cons, List.not_mem_nil, or_false] at hv
        rcases hv with rfl | rfl
        · exact badS (by decide +kernel) lit1.1
        · exact badS (by decide +kernel) lit1.2.1
      · rintro σ2 H2 ⟨l, vs, rfl, B⟩
        refine ⟨fun σ' H' => ∃ l vs, σ' = [some (.ref p), some kv, some (.str t), some (.ref l)] ∧ Bads K p H l H' 11 vs, ?_, ?_⟩
        · refine grow (ws := [.str "", .str ("[" ++ t ++ " ]")]) B rfl (by show 9 + 2 ≤ 1000; decide) (fun v hv H => ?_) (fun R h => ⟨_, rfl, _, _, rfl, rfl, by omega, _, _, rfl, rfl, by rw [add_len]; omega, h⟩) (fun l vs H' B => ⟨l, vs, rfl, B⟩)
          simp only [List.mem_cons, List.not_mem_nil, or_false] at hv
          rcases hv with rfl | rfl
          · exact badS (by decide +kernel) lit1.2.2
          · exact badS (by omega) sp.p8
        · rintro σ2 H2 ⟨l, vs, rfl, B⟩
          refine ⟨fun σ' H' => ∃ l vs, σ' = [some (.ref p), some kv, some (.str t), some (.ref l)] ∧ Bads K p H l H' 21 vs, ?_, ?_⟩
          · obtain ⟨m1, m2, m3, m4, m5, m6, m7, m8, m9⟩ := lit2
            refine grow (ws := [.str "yes", .str "no", .str "[yes]", .str "abcdefghi", .str "[a1]", .str "[a, a]", .str "a]", .str "[a", .str ("(" ++ t ++ ")"), .str "#a"]) B rfl (by show 11 + 10 ≤ 1000; decide) (fun v hv H => ?_) (fun R h => ⟨_, rfl, _, _, rfl, rfl, by omega, _, _, rfl, rfl, by rw [add_len]; omega, h⟩) (fun l vs H' B => ⟨l, vs, rfl, B⟩)
            simp only [List.mem_cons, List.not_mem_nil, or_false] at hv
            rcases hv with rfl | rfl | rfl | rfl | rfl | rfl | rfl | rfl | rfl | rfl
            · exact badS (by decide +kernel) m1
            · exact badS (by decide +kernel) m2
            · exact badS (by decide +kernel) m3
            · exact badS (by decide +kernel) m4
            · exact badS (by decide +kernel) m5
            · exact badS (by decide +kernel) m6
            · exact badS (by decide +kernel) m7
            · exact badS (by decide +kernel) m8
            · exact badS (by omega) sp.p9
            · exact badS (by decide +kernel) m9
          · rintro σ2 H2 ⟨l, vs, rfl, B⟩
            refine ⟨fun σ' H' => ∃ l vs, σ' = [some (.ref p), some kv, some (.str t), some (.ref l)] ∧ Bads K p H l H' 22 vs, ?_, ?_⟩
            · have hvl := B.len
              refine ⟨_, rfl, _, rfl, (by show 1 ≤ sizeLine; decide), fun l1 hl1 => ⟨_, rfl, (by show 1 ≤ sizeLine; decide), fun t1 ht1 => ⟨(by show 5 ≤ sizeLine; decide), fun l5 hl5 => ?_⟩⟩⟩
              have gA := B.go.new (o := .lst [.str t]) hl1
              have gB := gA.new (o := .tup [.str t]) ht1
              have gC := gB.new (o := .lst [.non, .int 7, .bl true, .ref l1, .ref t1]) hl5
              have nl5 := gB.ne hl5
              have bA := But.new (p := p) (o := .lst [.str t]) hl1
              have bB := But.new (p := p) (o := .tup [.str t]) ht1
              have bC := But.new (p := p) (o := .lst [.non, .int 7, .bl true, .ref l1, .ref t1]) hl5
              have D1 := Dp.newL (K := K) hl1 (B.go.ne hl1) (.cons (.str t) .nil)
              have D2 := Dp.newT (K := K) ht1 (gA.ne ht1) (.cons (.str t) .nil)
              obtain ⟨x5, y5, hp5⟩ := gC.2
              refine ⟨_, rfl, p, x5, y5, 5, rfl, hp5, by decide, by decide, fun r x6 y6 r0 r1 hp6 => ?_⟩
              have gp := going_pot (But.refl p _) hp6
              have D1' := ((D1.but bB).but bC).but gp.1
              have D2' := (D2.but bC).but gp.1
              obtain ⟨v, hv, d, Dv, hs⟩ : ∃ v, atI [V.non, .int 7, .bl true, .ref l1, .ref t1] r = some v ∧ ∃ d, Dh K p (upd (upd (upd (upd H2 l1 (.lst [.str t])) t1 (.tup [.str t])) l5 (.lst [.non, .int 7, .bl true, .ref l1, .ref t1])) p (.lst [.int x6, .int y6])) v d ∧ isS d = false := by
                have hc : r = 0 ∨ r = 1 ∨ r = 2 ∨ r = 3 ∨ r = 4 := by omega
                rcases hc with rfl | rfl | rfl | rfl | rfl
                · exact ⟨_, atI_nat (j := 0) rfl, .none, .non, rfl⟩
                · exact ⟨_, atI_nat (j := 1) rfl, .int 7, .int 7, rfl⟩
                · exact ⟨_, atI_nat (j := 2) rfl, .bool true, .bl true, rfl⟩
                · exact ⟨_, atI_nat (j := 3) rfl, _, D1', rfl⟩
                · exact ⟨_, atI_nat (j := 4) rfl, _, D2', rfl⟩
              refine ⟨l5, _, r, v, rfl, rfl, SqL.of (gp.1 _ _ nl5 upd_same), hv, ?_⟩
              have gD := gC.trans gp
              have bAll := ((bA.trans bB).trans bC).trans gp.1
              generalize hH6 : upd (upd (upd (upd H2 l1 (.lst [.str t])) t1 (.tup [.str t])) l5 (.lst [.non, .int 7, .bl true, .ref l1, .ref t1])) p (.lst [.int x6, .int y6]) = H6 at *
              refine ⟨(by show 1 ≤ sizeLine; decide), fun l6 hl6 => ?_⟩
              have b6 := But.new (p := p) (o := .lst [v]) hl6
              have gE := gD.new (o := .lst [v]) hl6
              refine ⟨l, l6, vs, [v], rfl, rfl, b6 _ _ B.ne (bAll _ _ B.ne B.at_), upd_same, by rw [hvl]; show 21 + 1 ≤ sizeLine; rw [sizeLine_eq]; omega, fun l7' hl7 => ?_⟩
              have b7 := But.new (p := p) (o := .lst (vs ++ [v])) hl7
              refine ⟨l7', _, rfl, upd_same, gE.ne hl7, fun u hu => ?_, by rw [List.length_append, hvl]; rfl, gE.new hl7⟩
              rcases List.mem_append.mp hu with hu | hu
              · exact (B.all u hu).mono (hid_but ((bAll.trans b6).trans b7))
              · rw [List.mem_singleton] at hu
                subst hu
                exact .inr ⟨d, Dv.but (b6.trans b7), hs⟩
            · rintro σ2 H2 ⟨l, vs, rfl, B⟩
              have hvl := B.len
              obtain ⟨x5, y5, hp5⟩ := B.go.2
              refine ⟨_, rfl, _, rfl, _, rfl, l, vs, rfl, .inl (SqL.of B.at_), p, x5, y5, _, rfl, hp5, by rw [hvl]; decide, by rw [hvl]; decide +kernel, fun r x6 y6 r0 r1 hp6 => ?_⟩
              have gp := going_pot (But.refl p H2) hp6
              obtain ⟨v, hv, ev⟩ := pick_at r0 r1
              refine ⟨l, vs, r, v, rfl, rfl, SqL.of (gp.1 _ _ B.ne B.at_), atI_pick ev hv, q v _ (((B.all v (List.mem_of_getElem? hv)).mono (hid_but gp.1)).mono hid_in) (B.go.trans gp)⟩
end
end K12
set_option Elab.async false
set_option linter.all false
set_option maxRecDepth 100000
set_option maxHeartbeats 4000000
namespace K12
open PySem PySem.Spec PyProof.Rows L2
open C8 (Cal Def cal0 pe_c fnBody fnScope fnArgs)
theorem shaped_of {d : PyData} (h : d.canLay0 = true) (n : d.depth ≤ 64) : SeqAt.shaped d = true := by
  show (d.canLay0 && decide (d.depth ≤ 64)) = true
  rw [h, decide_eq_true n]
  rfl
/-- small data: n deep, m heavy -/
structure Ok (n m : Nat) (d : PyData) : Prop where
  lay : d.canLay0 = true
  dep : d.depth ≤ n
  wt : d.weight ≤ m
  sh : short d = true
  ish : d.intsShort 13 = true
  shw : d.showable = true
structure OkAll (n m : Nat) (ds : List PyData) : Prop where
  lay : PyData.canLayAll0 ds = true
  dep : PyData.depthAll ds ≤ n
  wt : PyData.weightAll ds ≤ m
  sh : shortAll ds = true
  ish : PyData.intsShortAll 13 ds = true
  shw : PyData.showableAll ds = true
theorem Ok.mono {n m n' m' : Nat} {d : PyData} (h : Ok n m d) (hn : n ≤ n') (hm : m ≤ m') : Ok n' m' d := ⟨h.lay, Nat.le_trans h.dep hn, Nat.le_trans h.wt hm, h.sh, h.ish, h.shw⟩
theorem OkAll.nil {n m : Nat} : OkAll n m [] := ⟨by simp [PyData.canLayAll0], by simp [PyData.depthAll], by simp [PyData.weightAll], by simp [shortAll], by simp [PyData.intsShortAll], by simp [PyData.showableAll]⟩
theorem OkAll.cons {n a b : Nat} {d : PyData} {ds : List PyData} (h : Ok n a d) (t : OkAll n b ds) : OkAll n (a + 1 + b) (d :: ds) :=
  ⟨by simp only [PyData.canLayAll0, h.lay, t.lay, Bool.and_self], by simp only [PyData.depthAll]; exact Nat.max_le.mpr ⟨h.dep, t.dep⟩, by simp only [PyData.weightAll]; have := h.wt; have := t.wt; omega,
   by simp only [shortAll, h.sh, t.sh, Bool.and_self], by simp only [PyData.intsShortAll, h.ish, t.ish, Bool.and_self], by simp only [PyData.showableAll, h.shw, t.shw, Bool.and_self]⟩
theorem Ok.tup {n m : Nat} {ds : List PyData} (h : OkAll n m ds) (hl : ds.length ≤ 1000) : Ok (n + 1) m (.tuple ds) :=
  ⟨by simp only [PyData.canLay0, h.lay], by simp only [PyData.depth]; have := h.dep; omega, by simp only [PyData.weight]; exact h.wt, by simp only [short, h.sh, decide_eq_true hl, Bool.and_self], by simp only [PyData.intsShort, h.ish], by simp only [PyData.showable, h.shw]⟩
theorem Ok.lst {n m : Nat} {ds : List PyData} (h : OkAll n m ds) (hl : ds.length ≤ 1000) : Ok (n + 1) m (.list ds) :=
  ⟨by simp only [PyData.canLay0, h.lay], by simp only [PyData.depth]; have := h.dep; omega, by simp only [PyData.weight]; exact h.wt, by simp only [short, h.sh, decide_eq_true hl, Bool.and_self], by simp only [PyData.intsShort, h.ish], by simp only [PyData.showable, h.shw]⟩
theorem OkAll.app {n a b : Nat} : ∀ {ds es : List PyData}, OkAll n a ds → OkAll n b es → OkAll n (a + b) (ds ++ es)
  | [], es, _, t => ⟨t.lay, t.dep, Nat.le_trans t.wt (Nat.le_add_left _ _), t.sh, t.ish, t.shw⟩
  | d :: ds, es, h, t => by
    have hl : d.canLay0 = true ∧ PyData.canLayAll0 ds = true := by simpa [PyData.canLayAll0] using h.lay
    have hd : max d.depth (PyData.depthAll ds) ≤ n := by simpa only [PyData.depthAll] using h.dep
    have hw : d.weight + 1 + PyData.weightAll ds ≤ a := by simpa only [PyData.weightAll] using h.wt
    have hs : short d = true ∧ shortAll ds = true := by simpa [shortAll] using h.sh
    have hi : d.intsShort 13 = true ∧ PyData.intsShortAll 13 ds = true := by simpa [PyData.intsShortAll] using h.ish
    have hv : d.showable = true ∧ PyData.showableAll ds = true := by simpa [PyData.showableAll] using h.shw
    have h1 : Ok n d.weight d := ⟨hl.1, Nat.le_trans (Nat.le_max_left _ _) hd, Nat.le_refl _, hs.1, hi.1, hv.1⟩
    have h2 : OkAll n (a - d.weight - 1) ds := ⟨hl.2, Nat.le_trans (Nat.le_max_right _ _) hd, by omega, hs.2, hi.2, hv.2⟩
    have h3 := OkAll.cons h1 (OkAll.app h2 t)
    exact ⟨h3.lay, h3.dep, Nat.le_trans h3.wt (by omega), h3.sh, h3.ish, h3.shw⟩
theorem OkAll.at {n m : Nat} : ∀ {ds : List PyData} {i : Nat} {d : PyData}, OkAll n m ds → ds[i]? = some d → Ok n m d
  | [], i, d, _, e => by simp at e
  | d :: ds, 0, d', h, e => by
    simp at e
    subst e
    have hl : d.canLay0 = true ∧ PyData.canLayAll0 ds = true := by simpa [PyData.canLayAll0] using h.lay
    have hd : max d.depth (PyData.depthAll ds) ≤ n := by simpa only [PyData.depthAll] using h.dep
    have hw : d.weight + 1 + PyData.weightAll ds ≤ m := by simpa only [PyData.weightAll] using h.wt
    have hs : short d = true ∧ shortAll ds = true := by simpa [shortAll] using h.sh
    have hi : d.intsShort 13 = true ∧ PyData.intsShortAll 13 ds = true := by simpa [PyData.intsShortAll] using h.ish
    have hv : d.showable = true ∧ PyData.showableAll ds = true := by simpa [PyData.showableAll] using h.shw
    exact ⟨hl.1, Nat.le_trans (Nat.le_max_left _ _) hd, by omega, hs.1, hi.1, hv.1⟩
  | d :: ds, i + 1, d', h, e => by
    have hl : d.canLay0 = true ∧ PyData.canLayAll0 ds = true := by simpa [PyData.canLayAll0] using h.lay
    have hd : max d.depth (PyData.depthAll ds) ≤ n := by simpa only [PyData.depthAll] using h.dep
    have hw : d.weight + 1 + PyData.weightAll ds ≤ m := by simpa only [PyData.weightAll] using h.wt
    have hs : short d = true ∧ shortAll ds = true := by simpa [shortAll] using h.sh
    have hi : d.intsShort 13 = true ∧ PyData.intsShortAll 13 ds = true := by simpa [PyData.intsShortAll] using h.ish
    have hv : d.showable = true ∧ PyData.showableAll ds = true := by simpa [PyData.showableAll] using h.shw
    have h2 : OkAll n m ds := ⟨hl.2, Nat.le_trans (Nat.le_max_right _ _) hd, by omega, hs.2, hi.2, hv.2⟩
    exact OkAll.at (i := i) h2 (by simpa using e)
theorem Ok.str {n m : Nat} {z : Str} (hl : z.length ≤ m) (hm : z.length ≤ 1000) (hc : ∀ c ∈ z.cps.toList, c < 128) : Ok n m (.str z) := by
  refine ⟨?_, by simp [PyData.depth], by simp only [PyData.weight]; exact hl, by simp [short, hm], by simp [PyData.intsShort], by simp [PyData.showable]⟩
  simp only [PyData.canLay0, PyData.strOk]
  rw [← Array.all_toList, List.all_eq_true]
  intro c h
  have := hc c h
  exact decide_eq_true (by omega)
theorem Ok.none {n m : Nat} : Ok n m .none := ⟨rfl, by simp [PyData.depth], by simp [PyData.weight], rfl, rfl, rfl⟩
theorem Ok.bool {n m : Nat} (b : Bool) : Ok n m (.bool b) := ⟨rfl, by simp [PyData.depth], by simp [PyData.weight], rfl, rfl, rfl⟩
theorem Ok.seven {n m : Nat} (h : 3 ≤ m) : Ok n m (.int 7) := ⟨rfl, by simp [PyData.depth], Nat.le_trans (by decide +kernel) h, rfl, by decide +kernel, by decide +kernel⟩
theorem Ok.shownB {n m : Nat} {d : PyData} (h : Ok n m d) (hn : n ≤ 64) (hm : m ≤ 1000000) : shownB d := by
  have hd := h.dep
  have hw := h.wt
  have hl : PyData.layable0 d = true := by
    show (PyData.canLay0 d && decide (d.depth ≤ 64) && decide (d.weight ≤ 2 ^ 20)) = true
    rw [h.lay, decide_eq_true (show d.depth ≤ 64 by omega), decide_eq_true (show d.weight ≤ 2 ^ 20 by omega)]
    rfl
  exact ⟨h.shw, shaped_of h.lay (by omega), PyData.shown_fits_of_layable0 (B := 13) (by decide) (by decide) hl h.ish⟩
def asc (z : Str) : Bool := z.cps.toList.all fun c => decide (c < 128)
theorem asc_of {z : Str} (h : asc z = true) : ∀ c ∈ z.cps.toList, c < 128 := fun c hc => of_decide_eq_true (List.all_eq_true.mp h c hc)
theorem name_len {z : Str} (h : nameS z = true) : 1 ≤ z.length ∧ z.length ≤ 8 := by
  unfold nameS at h
  simp only [Bool.and_eq_true, decide_eq_true_eq] at h
  exact h.1
theorem name_asc {z : Str} (h : nameS z = true) : ∀ c ∈ z.cps.toList, c < 128 := fun c hc => by
  unfold nameS at h
  simp only [Bool.and_eq_true] at h
  exact low128 (List.all_eq_true.mp h.2.1 c hc)
theorem up_ok {n m : Nat} {z : Str} (hl : z.length ≤ m) (hm : z.length ≤ 1000) (hc : ∀ c ∈ z.cps.toList, c < 128) : Ok n m (.str (PySem.Txt.upper z)) := by
  have e := PyProof.Rows.upper_ascii hc
  refine .str ?_ ?_ ?_
  · rw [e]; show (z.cps.map _).size ≤ m; rw [Array.size_map]; exact hl
  · rw [e]; show (z.cps.map _).size ≤ 1000; rw [Array.size_map]; exact hm
  · rw [e]
    intro c h
    have h' : c ∈ (z.cps.map PyProof.Rows.up1).toList := h
    rw [Array.toList_map, List.mem_map] at h'
    obtain ⟨d, hd, rfl⟩ := h'
    have := hc d hd
    unfold PyProof.Rows.up1
    split <;> omega
theorem cat_ok {n m : Nat} {x y : Str} (hl : x.length + y.length ≤ m) (hm : x.length + y.length ≤ 1000) (hx : ∀ c ∈ x.cps.toList, c < 128) (hy : ∀ c ∈ y.cps.toList, c < 128) : Ok n m (.str (x ++ y)) := by
  have e : (x ++ y).length = x.length + y.length := by rw [← len_tl, tl_app, List.length_append, len_tl, len_tl]
  refine .str (by omega) (by omega) fun c hc => ?_
  rw [tl_app, List.mem_append] at hc
  exact hc.elim (hx c) (hy c)
def Kd.els : Kd → List PyData
  | .num => [.str "number"]
  | .tru => [.str "truth"]
  | .rcd z => [.str "record", .str z]
  | .lst k => [.str "list", k.d]
theorem kd_d (k : Kd) : k.d = .tuple k.els := by cases k <;> simp [Kd.d, Kd.els]
theorem lit_ok {n m : Nat} {z : Str} (h : asc z = true) (hl : z.length ≤ 1000) (hm : z.length ≤ m) : Ok n m (.str z) := .str hm hl (asc_of h)
theorem els_ok : ∀ {k : Kd}, k.ok → OkAll k.deep (16 + 6 * k.deep) k.els
  | .num, _ => (OkAll.cons (n := 0) (a := 6) (b := 9) (lit_ok (by decide +kernel) (by decide) (by decide)) .nil)
  | .tru, _ => (OkAll.cons (n := 0) (a := 6) (b := 9) (lit_ok (by decide +kernel) (by decide) (by decide)) .nil)
  | .rcd z, h => (OkAll.cons (n := 0) (a := 6) (b := 9) (lit_ok (by decide +kernel) (by decide) (by decide)) (OkAll.cons (a := 8) (b := 0) (.str (name_len h).2 (by have := (name_len h).2; omega) (name_asc h)) .nil))
  | .lst k, h => by
    have ih := els_ok (k := k) h
    have hk : Ok (k.deep + 1) (16 + 6 * k.deep) k.d := by
      rw [kd_d]
      exact .tup ih (by cases k <;> simp [Kd.els])
    have c := OkAll.cons (n := k.deep + 1) (a := 4) (lit_ok (z := "list") (by decide +kernel) (by decide) (by decide)) (OkAll.cons (b := 0) hk .nil)
    have e : 4 + 1 + (16 + 6 * k.deep + 1 + 0) = 16 + 6 * (k.deep + 1) := by omega
    rw [e] at c
    exact c
theorem els_len (k : Kd) : 1 ≤ k.els.length ∧ k.els.length ≤ 2 := by cases k <;> simp [Kd.els]
theorem kd_ok {k : Kd} (h : k.ok) (hd : k.deep ≤ 8) : Ok 9 64 k.d := by
  rw [kd_d]
  have := els_len k
  exact (Ok.tup (els_ok h) (by omega)).mono (by omega) (by omega)
end K12
set_option Elab.async false
set_option linter.all false
set_option maxRecDepth 100000
set_option maxHeartbeats 4000000
namespace K12
open PySem PySem.Spec PyProof.Rows L2
open C8 (Cal Def cal0 pe_c fnBody fnScope fnArgs)
theorem dec_vint {a b : Int} : decide (V.int a = V.int b) = decide (a = b) := by rw [Bool.eq_iff_iff, decide_eq_true_eq, decide_eq_true_eq]; exact ⟨V.int.inj, congrArg _⟩
section
variable {P : Program} {w : World} {K : PySem.W.Frag} {mg : Str → Option Value} {base : Heap} {CT : Addr}
abbrev sLBrackets : Stmt := topS 28
abbrev NLBrackets : List Str := ["_law_pot_here", "_law_left", "_law_right"]
theorem scLBrackets : FnScope NLBrackets ["_law_pot_here"] (fnScope sLBrackets) := ⟨rfl, rfl, rfl, by decide +kernel, rfl, by decide +kernel, by decide +kernel⟩
def spBrackets (K : PySem.W.Frag) : Sp := fun vs H Q _ => ∃ (p : Addr) (x y : Int), vs = [.ref p] ∧ Pot H p x y ∧ ∀ v H', BadV K H' v → Going p H H' → Q v H'
theorem rep_fm {a b : Nat} {m : Str} (h : ∀ c ∈ m.cps.toList, c ≠ 91 ∧ c ≠ 93) : Fm ((⟨(List.replicate a 91).toArray⟩ : Str) ++ m ++ ⟨(List.replicate b 93).toArray⟩) a m.cps.toList b := by
  refine ⟨?_, h⟩
  show ((_ ++ _ : Str)).cps.toList = _
  rw [tl_app, tl_app]
  simp
theorem bad_br {a b : Nat} {m : Str} (ha : a < 2000) (hb : b < 2000) (hm : m = "" ∨ m = "9" ∨ (m = "a" ∧ a ≠ b)) {H : Hp} : BadV K H (.str ((⟨(List.replicate a 91).toArray⟩ : Str) ++ m ++ ⟨(List.replicate b 93).toArray⟩)) := by
  have hc : (∀ c ∈ m.cps.toList, c ≠ 91 ∧ c ≠ 93) ∧ m.length ≤ 1 := by
    rcases hm with rfl | rfl | ⟨rfl, _⟩ <;> decide +kernel
  have f := rep_fm (a := a) (b := b) hc.1
  have hl := f.len
  have ml := len_tl m
  refine .inl ⟨_, rfl, by omega, fun _ => ?_, ?_⟩
  · have := f.word
    rw [← len_tl, this]
    omega
  · rcases hm with rfl | rfl | ⟨rfl, hne⟩
    · refine bad_none fun c hc => ?_
      rw [f.eq] at hc
      have e : ("" : Str).cps.toList = [] := by decide +kernel
      rw [e, List.nil_append] at hc
      rcases List.mem_append.mp hc with hc | hc
      · rw [List.eq_of_mem_replicate hc]; decide
      · rw [List.eq_of_mem_replicate hc]; decide
    · refine bad_char (c := 57) ?_ (by decide)
      rw [f.eq]
      have e : ("9" : Str).cps.toList = [57] := by decide +kernel
      rw [e]
      simp
    · refine bad_count ?_
      rw [f.eq]
      have e : ("a" : Str).cps.toList = [97] := by decide +kernel
      rw [e]
      simp [List.count_append, List.count_cons, List.count_replicate]
      exact hne
theorem c_brackets (T : Tp mg) (c_LTake : Cal P w K mg base 1 "_law_take" spTake []) {f : Addr} {fd : FuncData} (D : Def K mg "_law_brackets" sLBrackets f fd) (b : Binds K fd ["_law_pot_here"] []) : Cal P w K mg base 2 "_law_brackets" (spBrackets K) [] := by
  refine cal0 D b .nil scLBrackets (fun vs H Q E h => ?_) (fun cdv A outer s H vs Q E hr h => ?_)
  · obtain ⟨p, x, y, rfl, _⟩ := h
    rfl
  · obtain ⟨p, x, y, rfl, hp, q⟩ := h
    have nd := scLBrackets.nd
    have line := sizeLine_eq
    refine ⟨_, (pss_cons (ps_set (i := 1) nd rfl (.inl rfl) (pe_c c_LTake hr (by decide) (by rfl) (pa_cons (pv 0) (pa_cons pe_int pa_nil))))
    (pss_cons (ps_set (i := 2) nd rfl (.inl rfl) (pe_c c_LTake hr (by decide) (by rfl) (pa_cons (pv 0) (pa_cons pe_int pa_nil))))
    (pss_one (ps_ret (pe_op op_add_str (pe_op op_add_str (pe_op op_rep1 pe_str (pv 1)) (pe_ix ix_list (pe_lst (pa_cons pe_str (pa_cons pe_str (pa_cons pe_str pa_nil)))) (pe_c c_LTake hr (by decide) (by rfl) (pa_cons (pv 0) (pa_cons (pe_op op_add pe_int (pe_callTy call_int1 (by rfl) T.n_int (by decide +kernel) (pa_cons (pe_cmpR op_ne (pv 1) (pv 2) (nomark _)) pa_nil))) pa_nil))) (fun _ _ => rfl))) (pe_op op_rep1 pe_str (pv 2))))))), ?_⟩
    refine ⟨_, rfl, p, x, y, 2000, rfl, hp, by decide, by decide, fun a x2 y2 a0 a1 hp2 => ?_⟩
    have g2 := going_pot (But.refl p H) hp2
    refine ⟨_, rfl, p, x2, y2, 2000, rfl, hp2, by decide, by decide, fun b' x3 y3 b0 b1 hp3 => ?_⟩
    have g3 := g2.trans (going_pot (But.refl p _) hp3)
    refine ⟨_, rfl, 91, a, rfl, rfl, by omega, by omega, (by show 3 ≤ sizeLine; decide), fun l hl => ?_⟩
    have g4 := g3.new (o := .lst [.str "", .str "9", .str "a"]) hl
    have nl := g3.ne hl
    obtain ⟨x4, y4, hp4⟩ := g4.2
    refine ⟨_, rfl, _, rfl, _, rfl, rfl, .inr ⟨_, rfl, _, _, rfl, rfl, ?_⟩⟩
    have hk : (!decide (V.int a = V.int b')) = !decide (a = b') := by rw [dec_vint]
    generalize hkk : (!decide (V.int a = V.int b')) = kk at *
    refine ⟨p, x4, y4, _, rfl, hp4, ?_, ?_, fun r x5 y5 r0 r1 hp5 => ?_⟩
    · cases kk <;> decide
    · cases kk <;> decide
    · have gp := going_pot (But.refl p _) hp5
      have g5 := g4.trans gp
      obtain ⟨m, hm, hcase⟩ : ∃ m : Str, atI [V.str "", .str "9", .str "a"] r = some (.str m) ∧ (m = "" ∨ m = "9" ∨ (m = "a" ∧ a.toNat ≠ b'.toNat)) := by
        have hc : r = 0 ∨ r = 1 ∨ (r = 2 ∧ a ≠ b') := by
          by_cases he : a = b'
          · have : kk = false := by rw [hk, decide_eq_true he]; rfl
            rw [this] at r1
            have : r < 2 := r1
            omega
          · have : kk = true := by rw [hk, decide_eq_false he]; rfl
            rw [this] at r1
            have : r < 3 := r1
            omega
        rcases hc with rfl | rfl | ⟨rfl, he⟩
        · exact ⟨_, atI_nat (j := 0) rfl, .inl rfl⟩
        · exact ⟨_, atI_nat (j := 1) rfl, .inr (.inl rfl)⟩
        · exact ⟨_, atI_nat (j := 2) rfl, .inr (.inr ⟨rfl, by omega⟩)⟩
      have ml : m.length ≤ 1 := by rcases hcase with rfl | rfl | ⟨rfl, _⟩ <;> decide +kernel
      have hrl : ∀ (n c : Nat), (⟨(List.replicate n c).toArray⟩ : Str).length = n := fun n c => by simp [Str.length]
      refine ⟨l, _, r, .str m, rfl, rfl, SqL.of (gp.1 _ _ nl upd_same), hm, _, _, rfl, rfl, by rw [hrl]; omega, _, rfl, 93, b', rfl, rfl, by omega, by omega, _, _, rfl, rfl, by rw [add_len, hrl, hrl]; omega, ?_⟩
      exact q _ _ (bad_br (by omega) (by omega) hcase) g5
theorem sqL_but {p a : Addr} {H H' : Hp} {xs : List V} (hp : H p = none) (h : SqL K H a xs) (e : But p H H') : SqL K H' a xs := by
  rcases h with (h | ⟨o, h⟩) | h
  · exact .inl (.inl (e _ _ (ne_of_none h hp) h))
  · exact .inl (.inr ⟨o, e _ _ (ne_of_none h hp) h⟩)
  · exact .inr h
abbrev sLaw : Stmt := topS 29
abbrev NLaw : List Str := ["_law_script", "_law_k", "_law_pot_here", "_law_kind_here", "_law_text_here"]
theorem scLaw : FnScope NLaw ["_law_script"] (fnScope sLaw) := ⟨rfl, rfl, rfl, by decide +kernel, rfl, by decide +kernel, by decide +kernel⟩
def spLaw (K : PySem.W.Frag) : Sp := fun vs H Q _ => ∃ (a : Addr) (ns : List Int), vs = [.ref a] ∧ SqL K H a (ns.map V.int) ∧ ns.length ≤ 63 ∧ ∀ H', Q (.bl true) H'
theorem f_law (T : Tp mg) (c_LCellAt : Cal P w K mg base 1 "_law_cell_at" (spCellAt K) []) (c_LPot : Cal P w K mg base 1 "_law_pot" spPot []) (c_LTake : Cal P w K mg base 1 "_law_take" spTake []) (c_LKind : Cal P w K mg base 11 "_law_kind" (spKind K 9) []) (c_PKindText : Cal P w K mg base 1 "kind_text" (spKindText K) [])
    (c_LText : Cal P w K mg base 10 "_law_text" (spLText K 9) []) (c_PReadKind : CalX P w K mg base 3 "read_kind" (spRead K CT)) (c_LSpoilt : Cal P w K mg base 11 "_law_spoilt" (spSpoilt K) []) (c_LBrackets : Cal P w K mg base 2 "_law_brackets" (spBrackets K) []) (c_LRead : Cal P w K mg base 4 "_law_read" (spLRead K) [])
    {f : Addr} {fd : FuncData} (D : Def K mg "law" sLaw f fd) : FnG P w K mg base C8.CX0 12 f fd ["_law_script"] (spLaw K) := by
  refine fnG0 D scLaw (fun vs H Q E h => ?_) (fun cdv A outer s H vs Q E hg hr h => ?_)
  · obtain ⟨a, ns, rfl, _⟩ := h
    rfl
  · obtain ⟨a, ns, rfl, hS, hn, q⟩ := h
    have nd := scLaw.nd
    refine ⟨_, (pss_cons (ps_for PassesOwn.never rfl (pi_range1 (by rfl) T.n_range (pa_cons (pe_callB (call_max2 rfl) (by rfl) T.n_max (by decide +kernel) (pa_cons pe_int (pa_cons (pe_callB (call_min2 rfl) (by rfl) T.n_min (by decide +kernel) (pa_cons (pe_callB call_len_seq (by rfl) T.n_len (by decide +kernel) (pa_cons (pv 0) pa_nil)) (pa_cons pe_int pa_nil))) pa_nil))) pa_nil)) (pg_name (i := 1) nd rfl (.inl rfl))
      (pss_cons (ps_set (i := 2) nd rfl (.inl rfl) (pe_c c_LPot hr (by decide) (by rfl) (pa_cons (pe_c c_LCellAt hr (by decide) (by rfl) (pa_cons (pv 0) (pa_cons (pv 1) pa_nil))) (pa_cons (pv 1) pa_nil))))
    (pss_cons (ps_set (i := 3) nd rfl (.inl rfl) (pe_c c_LKind hr (by decide) (by rfl) (pa_cons (pv 2) (pa_cons pe_int pa_nil))))
    (pss_cons (ps_set (i := 4) nd rfl (.inl rfl) (pe_c c_PKindText hr (by decide) (by rfl) (pa_cons (pv 3) pa_nil)))
    (pss_cons (ps_if (PW.pt (pw_or (pt_not (pt_val (pe_callB call_isD (by rfl) T.n_isinstance (by decide +kernel) (pa_cons (pv 4) (pa_cons (pe_bltn (v := .ty "str") (by rfl) T.n_str (by decide +kernel) rfl) pa_nil))))) (pw_or (pt_cmpR op_ne (pv 4) (pe_c c_LText hr (by decide) (by rfl) (pa_cons (pv 3) pa_nil)) (nomark _)) (pw_or1 (pt_cmpR op_ne (pe_callB (call_reprD hg (hrep_of hr)) (by rfl) T.n_repr (by decide +kernel) (pa_cons (pe_cx (W := fun _ _ _ _ => False) c_PReadKind takes0N hr (by decide) (by rfl) (pa_cons (pv 4) pa_nil)) pa_nil)) (pe_callB (call_reprD hg (hrep_of hr)) (by rfl) T.n_repr (by decide +kernel) (pa_cons (pv 3) pa_nil)) (nomark _))))))
      (pss_one (ps_ret pe_bl))
      pss_nil)
    (pss_cons (ps_if (pt_cmpR op_ne (pe_c c_LRead hr (by decide) (by rfl) (pa_cons (pe_c c_LSpoilt hr (by decide) (by rfl) (pa_cons (pv 2) (pa_cons (pv 3) pa_nil))) pa_nil)) pe_str (nomark _))
      (pss_one (ps_ret pe_bl))
      pss_nil)
    (C8.pss_cut (ps_if (PW.pt (pw_and (pt_cmpR op_eq (pe_c c_LTake hr (by decide) (by rfl) (pa_cons (pv 2) (pa_cons pe_int pa_nil))) pe_int (nomark _)) (pw_and1 (pt_cmpR op_ne (pe_c c_LRead hr (by decide) (by rfl) (pa_cons (pe_c c_LBrackets hr (by decide) (by rfl) (pa_cons (pv 2) pa_nil)) pa_nil)) pe_str (nomark _)))))
      (pss_one (ps_ret pe_bl))
      pss_nil)
    (pss_one (ps_if (pt_cmpR (op_neD hr.units) (pe_cx (W := fun _ _ _ _ => False) c_PReadKind takes0N hr (by decide) (by rfl) (pa_cons (pv 4) pa_nil)) (pv 3) (nomark _))
      (pss_one (ps_ret pe_bl))
      pss_nil)))))))))
    (pss_one (ps_ret pe_bl))), ?_⟩
    have hlen : (ns.map V.int).length = ns.length := List.length_map ..
    refine ⟨_, rfl, a, _, rfl, .inl hS, _, _, rfl, _, _, rfl, _, rfl, ?_, ?_, ?_⟩
    · split <;> split <;> omega
    · split <;> split <;> omega
    · refine for_range (lo := 0) (n := (if (if (30 : Int) < ((ns.map V.int).length : Nat) then (30 : Int) else ((ns.map V.int).length : Nat)) > 1 then (if (30 : Int) < ((ns.map V.int).length : Nat) then (30 : Int) else ((ns.map V.int).length : Nat)) else 1).toNat)
        (fun i σ H' => (∃ o1 o2 o3 o4, σ = [some (.ref a), o1, o2, o3, o4]) ∧ SqL K H' a (ns.map V.int)) ⟨⟨_, _, _, _, rfl⟩, hS⟩ (fun i σ H' hi hW => ?_) (fun σ H' hW => ?_)
      · obtain ⟨⟨o1, o2, o3, o4, rfl⟩, hS'⟩ := hW
        have hi' : i ≤ 100 := by
          have h2 : i < _ := hi
          split at h2 <;> (try split at h2) <;> omega
        have e0 : (0 : Int) + (i : Int) = (i : Int) := Int.zero_add _
        rw [e0]
        refine ⟨_, rfl, _, rfl, a, ns, i, rfl, hS', fun n => ⟨_, rfl, n, i, rfl, hi', fun p x y hpn hp => ?_⟩⟩
        have bS : But p H' (upd H' p (.lst [.int x, .int y])) := (But.refl p H').pot
        refine ⟨_, rfl, p, x, y, 8, rfl, by decide, hp, fun kv k H1 ok hdp D1 g1 => ?_⟩
        have hl := kt_len ok
        have hlS : (ktS k).length = (kt k).length := by rw [← len_tl, ktS_tl]
        have okd : Ok 9 100 k.d := by
          rw [kd_d]
          exact (Ok.tup (els_ok ok) (by cases k <;> simp [Kd.els])).mono (by omega) (by omega)
        have shB := okd.shownB (by decide) (by decide)
        have rdB : (spRead K CT) [.str (ktS k)] H1 = (spRead K CT) [.str (ktS k)] H1 := rfl
        have read : ∀ {H2 : Hp} {Q2 : VK} {E2 : XK}, (∀ v H', Same H2 H' → Dp K H' v k.d → Q2 v H') → spRead K CT [.str (ktS k)] H2 Q2 E2 := fun q2 => by
          refine .inl ⟨_, rfl, by omega, fun _ => Nat.le_trans (len_stripChars _ _) (by omega), fun _ v H' s D => ?_, fun h => ?_⟩
          · rw [rd_kt ok] at D
            exact q2 v H' s D
          · rw [rdOk_kt ok (by omega)] at h
            cases h
        refine ⟨_, rfl, kv, k, rfl, D1.un, ok, by omega, ?_⟩
        refine ⟨_, rfl, _, _, "str", rfl, .str _, by decide, _, rfl, iteF ?_⟩
        refine ⟨_, rfl, _, rfl, kv, k, rfl, D1.un, ok, by omega, by decide, rfl, _, rfl, iteF' (by rw [decide_eq_true rfl]; rfl) ?_⟩
        refine ⟨_, rfl, read fun v H2 s2 Dv => ⟨v, k.d, rfl, Dv, shB, _, rfl, kv, k.d, rfl, D1.un.mono s2, shB, rfl, _, rfl, iteF' (by rw [decide_eq_true rfl]; rfl) ?_⟩⟩
        have g2 := g1.same s2
        have D2 : Dh K p H2 kv k.d := D1.but (But.same s2)
        obtain ⟨x2, y2, hp2⟩ := g2.2
        refine ⟨_, rfl, _, rfl, p, x2, y2, kv, k, rfl, hp2, D2, ok, hdp, fun v3 H3 bv3 g3 => ⟨v3, rfl, bv3, fun H4 s4 => ⟨rfl, _, rfl, iteF' (by rw [decide_eq_true rfl]; rfl) ?_⟩⟩⟩
        have g4 := (g2.trans g3).same s4
        have D4 : Dh K p H4 kv k.d := D2.but (g3.same s4).1
        obtain ⟨x4, y4, hp4⟩ := g4.2
        refine ⟨fun σ' H5 => σ' = [some (.ref a), some (.int (i : Int)), some (.ref p), some kv, some (.str (ktS k))] ∧ Going p H4 H5, ?_, ?_⟩
        · refine ⟨_, rfl, p, x4, y4, 4, rfl, hp4, by decide, by decide, fun r x5 y5 r0 r1 hp5 => ?_⟩
          have g5 := going_pot (But.refl p H4) hp5
          refine ⟨rfl, _, rfl, ite2 (fun e => ?_) (fun e => iteF ⟨rfl, g5⟩)⟩
          refine ⟨_, rfl, p, x5, y5, rfl, hp5, fun v6 H6 bv6 g6 => ⟨v6, rfl, bv6, fun H7 s7 => ⟨rfl, _, rfl, iteF' (by rw [decide_eq_true rfl]; rfl) ?_⟩⟩⟩
          exact ⟨rfl, (g5.trans g6).same s7⟩
        · rintro σ5 H5 ⟨rfl, g5⟩
          have D5 : Dh K p H5 kv k.d := D4.but g5.1
          have shp := shaped_of okd.lay (show k.d.depth ≤ 64 by have := okd.dep; omega)
          refine ⟨_, rfl, read fun v H6 s6 Dv => ⟨_, rfl, k.d, k.d, Dv, D5.un.mono s6, shp, shp, _, rfl, iteF' (by rw [SeqAt.eqv_refl _ (SeqAt.canLay_of_shaped shp)]; rfl) ?_⟩⟩
          exact ⟨⟨_, _, _, _, rfl⟩, sqL_but hpn hS' ((bS.trans (g4.trans (g5.same s6)).1))⟩
      · exact q H'
end
end K12
set_option Elab.async false
set_option linter.all false
set_option maxRecDepth 100000
set_option maxHeartbeats 8000000
namespace K12
open PySem PySem.Spec PyProof.Rows L2
open C8 (Cal Def cal0 pe_c fnBody fnScope fnArgs)
/-- a def of the module's top -/
theorem def_mk {K : PySem.W.Frag} {h : Heap} {mg : Str → Option Value} (X : K.In h) (G : h.Ns mainGlobals mg) {x : Str} {st : Stmt} {f : Addr} {oc : Value} {od an : Option Addr} {osl : Array (Option Value)} {kV doc pm cdv ct : Value}
    (a : PySem.W.nsIn K mainGlobals x = some (some (.ref f)))
    (l : K.lookup f = some ⟨oc, od, .func (PySem.W.fnOf x x (fnArgs st) (fnBody st) (fnScope st) .none kV doc pm an cdv ct), osl⟩)
    (c : PySem.W.codeIn K cdv x = true) (k : PySem.W.keepIn K (.ref f) = true) : Def K mg x st f (PySem.W.fnOf x x (fnArgs st) (fnBody st) (fnScope st) .none kV doc pm an cdv ct) :=
  ⟨⟨⟨oc, od, .none, kV, doc, pm, an, cdv, ct, osl, rfl, l, c⟩⟩, PySem.W.mg_of X G a, k⟩
theorem all_mk {l : PySem.W.OpenLaw} {w : World} {K : PySem.W.Frag} {h : Heap} {mg : Str → Option Value} {fa aK CE CT C3 C4 C5 C6 C7 : Addr} {dK : Option Addr} {iK : Array Value} {nK : Nat} {sK : Array (Option Value)} (X : K.In h) (G : h.Ns mainGlobals mg) (hfa : mg "law" = some (.ref fa))
    {f1 : Addr} {od1 an1 : Option Addr} {sl1 : Array (Option Value)} {oc1 kV1 dc1 pm1 cd1 ct1 : Value}
    {f2 : Addr} {od2 an2 : Option Addr} {sl2 : Array (Option Value)} {oc2 kV2 dc2 pm2 cd2 ct2 : Value}
    {f3 : Addr} {od3 an3 : Option Addr} {sl3 : Array (Option Value)} {oc3 kV3 dc3 pm3 cd3 ct3 : Value}
    {f4 : Addr} {od4 an4 : Option Addr} {sl4 : Array (Option Value)} {oc4 kV4 dc4 pm4 cd4 ct4 : Value}
    {f5 : Addr} {od5 an5 : Option Addr} {sl5 : Array (Option Value)} {oc5 kV5 dc5 pm5 cd5 ct5 : Value}
    {f6 : Addr} {od6 an6 : Option Addr} {sl6 : Array (Option Value)} {oc6 kV6 dc6 pm6 cd6 ct6 : Value}
    {f7 : Addr} {od7 an7 : Option Addr} {sl7 : Array (Option Value)} {oc7 kV7 dc7 pm7 cd7 ct7 : Value}
    {f8 : Addr} {od8 an8 : Option Addr} {sl8 : Array (Option Value)} {oc8 kV8 dc8 pm8 cd8 ct8 : Value}
    {f9 : Addr} {od9 an9 : Option Addr} {sl9 : Array (Option Value)} {oc9 kV9 dc9 pm9 cd9 ct9 : Value}
    {f10 : Addr} {od10 an10 : Option Addr} {sl10 : Array (Option Value)} {oc10 kV10 dc10 pm10 cd10 ct10 : Value}
    {f11 : Addr} {od11 an11 : Option Addr} {sl11 : Array (Option Value)} {oc11 kV11 dc11 pm11 cd11 ct11 : Value}
    {f12 : Addr} {od12 an12 : Option Addr} {sl12 : Array (Option Value)} {oc12 kV12 dc12 pm12 cd12 ct12 : Value}
    {f13 : Addr} {od13 an13 : Option Addr} {sl13 : Array (Option Value)} {oc13 kV13 dc13 pm13 cd13 ct13 : Value}
    {f14 : Addr} {od14 an14 : Option Addr} {sl14 : Array (Option Value)} {oc14 kV14 dc14 pm14 cd14 ct14 : Value}
    {f15 : Addr} {od15 an15 : Option Addr} {sl15 : Array (Option Value)} {oc15 kV15 dc15 pm15 cd15 ct15 : Value}
    {f16 : Addr} {od16 an16 : Option Addr} {sl16 : Array (Option Value)} {oc16 kV16 dc16 pm16 cd16 ct16 : Value}
    {f17 : Addr} {od17 an17 : Option Addr} {sl17 : Array (Option Value)} {oc17 kV17 dc17 pm17 cd17 ct17 : Value}
    {u_DEEPEST u_LONGEST_NAME : Value}
    (a1 : PySem.W.nsIn K mainGlobals "is_name" = some (some (.ref f1))) (l1 : K.lookup f1 = some ⟨oc1, od1, .func (PySem.W.fnOf "is_name" "is_name" (fnArgs sPIsName) (fnBody sPIsName) (fnScope sPIsName) .none kV1 dc1 pm1 an1 cd1 ct1), sl1⟩) (c1 : PySem.W.codeIn K cd1 "is_name" = true) (k1 : PySem.W.keepIn K (.ref f1) = true)
    (a2 : PySem.W.nsIn K mainGlobals "is_kind" = some (some (.ref f2))) (l2 : K.lookup f2 = some ⟨oc2, od2, .func (PySem.W.fnOf "is_kind" "is_kind" (fnArgs sPIsKind) (fnBody sPIsKind) (fnScope sPIsKind) .none kV2 dc2 pm2 an2 cd2 ct2), sl2⟩) (c2 : PySem.W.codeIn K cd2 "is_kind" = true) (k2 : PySem.W.keepIn K (.ref f2) = true)
    (a3 : PySem.W.nsIn K mainGlobals "_is_pair" = some (some (.ref f3))) (l3 : K.lookup f3 = some ⟨oc3, od3, .func (PySem.W.fnOf "_is_pair" "_is_pair" (fnArgs sPIsPair) (fnBody sPIsPair) (fnScope sPIsPair) .none kV3 dc3 pm3 an3 cd3 ct3), sl3⟩) (c3 : PySem.W.codeIn K cd3 "_is_pair" = true) (k3 : PySem.W.keepIn K (.ref f3) = true)
    (a4 : PySem.W.nsIn K mainGlobals "kind_text" = some (some (.ref f4))) (l4 : K.lookup f4 = some ⟨oc4, od4, .func (PySem.W.fnOf "kind_text" "kind_text" (fnArgs sPKindText) (fnBody sPKindText) (fnScope sPKindText) .none kV4 dc4 pm4 an4 cd4 ct4), sl4⟩) (c4 : PySem.W.codeIn K cd4 "kind_text" = true) (k4 : PySem.W.keepIn K (.ref f4) = true)
    (a5 : PySem.W.nsIn K mainGlobals "read_kind" = some (some (.ref f5))) (l5 : K.lookup f5 = some ⟨oc5, od5, .func (PySem.W.fnOf "read_kind" "read_kind" (fnArgs sPReadKind) (fnBody sPReadKind) (fnScope sPReadKind) .none kV5 dc5 pm5 an5 cd5 ct5), sl5⟩) (c5 : PySem.W.codeIn K cd5 "read_kind" = true) (k5 : PySem.W.keepIn K (.ref f5) = true)
    (a6 : PySem.W.nsIn K mainGlobals "_bare_kind" = some (some (.ref f6))) (l6 : K.lookup f6 = some ⟨oc6, od6, .func (PySem.W.fnOf "_bare_kind" "_bare_kind" (fnArgs sPBareKind) (fnBody sPBareKind) (fnScope sPBareKind) .none kV6 dc6 pm6 an6 cd6 ct6), sl6⟩) (c6 : PySem.W.codeIn K cd6 "_bare_kind" = true) (k6 : PySem.W.keepIn K (.ref f6) = true)
    (a7 : PySem.W.nsIn K mainGlobals "_law_cell_at" = some (some (.ref f7))) (l7 : K.lookup f7 = some ⟨oc7, od7, .func (PySem.W.fnOf "_law_cell_at" "_law_cell_at" (fnArgs sLCellAt) (fnBody sLCellAt) (fnScope sLCellAt) .none kV7 dc7 pm7 an7 cd7 ct7), sl7⟩) (c7 : PySem.W.codeIn K cd7 "_law_cell_at" = true) (k7 : PySem.W.keepIn K (.ref f7) = true)
    (a8 : PySem.W.nsIn K mainGlobals "_law_pot" = some (some (.ref f8))) (l8 : K.lookup f8 = some ⟨oc8, od8, .func (PySem.W.fnOf "_law_pot" "_law_pot" (fnArgs sLPot) (fnBody sLPot) (fnScope sLPot) .none kV8 dc8 pm8 an8 cd8 ct8), sl8⟩) (c8 : PySem.W.codeIn K cd8 "_law_pot" = true) (k8 : PySem.W.keepIn K (.ref f8) = true)
    (a9 : PySem.W.nsIn K mainGlobals "_law_take" = some (some (.ref f9))) (l9 : K.lookup f9 = some ⟨oc9, od9, .func (PySem.W.fnOf "_law_take" "_law_take" (fnArgs sLTake) (fnBody sLTake) (fnScope sLTake) .none kV9 dc9 pm9 an9 cd9 ct9), sl9⟩) (c9 : PySem.W.codeIn K cd9 "_law_take" = true) (k9 : PySem.W.keepIn K (.ref f9) = true)
    (a10 : PySem.W.nsIn K mainGlobals "_law_called" = some (some (.ref f10))) (l10 : K.lookup f10 = some ⟨oc10, od10, .func (PySem.W.fnOf "_law_called" "_law_called" (fnArgs sLCalled) (fnBody sLCalled) (fnScope sLCalled) .none kV10 dc10 pm10 an10 cd10 ct10), sl10⟩) (c10 : PySem.W.codeIn K cd10 "_law_called" = true) (k10 : PySem.W.keepIn K (.ref f10) = true)
    (a11 : PySem.W.nsIn K mainGlobals "_law_kind" = some (some (.ref f11))) (l11 : K.lookup f11 = some ⟨oc11, od11, .func (PySem.W.fnOf "_law_kind" "_law_kind" (fnArgs sLKind) (fnBody sLKind) (fnScope sLKind) .none kV11 dc11 pm11 an11 cd11 ct11), sl11⟩) (c11 : PySem.W.codeIn K cd11 "_law_kind" = true) (k11 : PySem.W.keepIn K (.ref f11) = true)
    (a12 : PySem.W.nsIn K mainGlobals "_law_word" = some (some (.ref f12))) (l12 : K.lookup f12 = some ⟨oc12, od12, .func (PySem.W.fnOf "_law_word" "_law_word" (fnArgs sLWord) (fnBody sLWord) (fnScope sLWord) .none kV12 dc12 pm12 an12 cd12 ct12), sl12⟩) (c12 : PySem.W.codeIn K cd12 "_law_word" = true) (k12 : PySem.W.keepIn K (.ref f12) = true)
    (a13 : PySem.W.nsIn K mainGlobals "_law_read" = some (some (.ref f13))) (l13 : K.lookup f13 = some ⟨oc13, od13, .func (PySem.W.fnOf "_law_read" "_law_read" (fnArgs sLRead) (fnBody sLRead) (fnScope sLRead) .none kV13 dc13 pm13 an13 cd13 ct13), sl13⟩) (c13 : PySem.W.codeIn K cd13 "_law_read" = true) (k13 : PySem.W.keepIn K (.ref f13) = true)
    (a14 : PySem.W.nsIn K mainGlobals "_law_text" = some (some (.ref f14))) (l14 : K.lookup f14 = some ⟨oc14, od14, .func (PySem.W.fnOf "_law_text" "_law_text" (fnArgs sLText) (fnBody sLText) (fnScope sLText) .none kV14 dc14 pm14 an14 cd14 ct14), sl14⟩) (c14 : PySem.W.codeIn K cd14 "_law_text" = true) (k14 : PySem.W.keepIn K (.ref f14) = true)
    (a15 : PySem.W.nsIn K mainGlobals "_law_spoilt" = some (some (.ref f15))) (l15 : K.lookup f15 = some ⟨oc15, od15, .func (PySem.W.fnOf "_law_spoilt" "_law_spoilt" (fnArgs sLSpoilt) (fnBody sLSpoilt) (fnScope sLSpoilt) .none kV15 dc15 pm15 an15 cd15 ct15), sl15⟩) (c15 : PySem.W.codeIn K cd15 "_law_spoilt" = true) (k15 : PySem.W.keepIn K (.ref f15) = true)
    (a16 : PySem.W.nsIn K mainGlobals "_law_brackets" = some (some (.ref f16))) (l16 : K.lookup f16 = some ⟨oc16, od16, .func (PySem.W.fnOf "_law_brackets" "_law_brackets" (fnArgs sLBrackets) (fnBody sLBrackets) (fnScope sLBrackets) .none kV16 dc16 pm16 an16 cd16 ct16), sl16⟩) (c16 : PySem.W.codeIn K cd16 "_law_brackets" = true) (k16 : PySem.W.keepIn K (.ref f16) = true)
    (a17 : PySem.W.nsIn K mainGlobals "law" = some (some (.ref f17))) (l17 : K.lookup f17 = some ⟨oc17, od17, .func (PySem.W.fnOf "law" "law" (fnArgs sLaw) (fnBody sLaw) (fnScope sLaw) .none kV17 dc17 pm17 an17 cd17 ct17), sl17⟩) (c17 : PySem.W.codeIn K cd17 "law" = true) (k17 : PySem.W.keepIn K (.ref f17) = true)
    (z_isinstance : PySem.W.nsIn K mainGlobals "isinstance" = some none)
    (z_str : PySem.W.nsIn K mainGlobals "str" = some none)
    (z_tuple : PySem.W.nsIn K mainGlobals "tuple" = some none)
    (z_list : PySem.W.nsIn K mainGlobals "list" = some none)
    (z_bool : PySem.W.nsIn K mainGlobals "bool" = some none)
    (z_len : PySem.W.nsIn K mainGlobals "len" = some none)
    (z_range : PySem.W.nsIn K mainGlobals "range" = some none)
    (z_max : PySem.W.nsIn K mainGlobals "max" = some none)
    (z_min : PySem.W.nsIn K mainGlobals "min" = some none)
    (z_repr : PySem.W.nsIn K mainGlobals "repr" = some none)
    (z_int : PySem.W.nsIn K mainGlobals "int" = some none)
    (z_ValueError : PySem.W.nsIn K mainGlobals "ValueError" = some none)
    (g_DEEPEST : PySem.W.nsIn K mainGlobals "DEEPEST" = some (some u_DEEPEST)) (r_DEEPEST : RelV (.int 800) u_DEEPEST)
    (g_LONGEST_NAME : PySem.W.nsIn K mainGlobals "LONGEST_NAME" = some (some u_LONGEST_NAME)) (r_LONGEST_NAME : RelV (.int 8) u_LONGEST_NAME)
    (gK : PySem.W.nsIn K mainGlobals "KEPT_WORDS" = some (some (.ref aK)))
    (lK : K.lookup aK = some ⟨.type "tuple", dK, .seq iK nK, sK⟩)
    (gE : PySem.W.nsIn K mainGlobals "ChangeError" = some (some (.ref CE)))
    (gT : PySem.W.nsIn K mainGlobals "NoText" = some (some (.ref CT)))
    (g3 : PySem.W.nsIn K mainGlobals "NotRight" = some (some (.ref C3)))
    (g4 : PySem.W.nsIn K mainGlobals "Stuck" = some (some (.ref C4)))
    (g5 : PySem.W.nsIn K mainGlobals "NoFit" = some (some (.ref C5)))
    (g6 : PySem.W.nsIn K mainGlobals "NoLead" = some (some (.ref C6)))
    (g7 : PySem.W.nsIn K mainGlobals "NotNow" = some (some (.ref C7)))
    (kT : PySem.W.keepIn K (.ref CT) = true)
    (xT : PySem.W.excIn K CT [.type "ValueError", .type "Exception", .type "BaseException", .type "object"] "ValueError.__new__" = true)
    (bT : PySem.W.subIn K (.ref CT) (.type "BaseException") = some true)
    (tT : PySem.W.typeIn K (.ref CT) = some (.type "type"))
    (bE : PySem.W.subIn K (.ref CE) (.type "BaseException") = some true)
    (dE : PySem.W.hasDictIn K CE = true)
    (tE : PySem.W.typeIn K (.ref CE) = some (.type "type"))
    (sE : PySem.W.subIn K (.ref CT) (.ref CE) = some true)
    (xg : PySem.W.findIn K (.ref CT) "__getattribute__" = some (some (.builtin "BaseException.__getattribute__")))
    (xk : PySem.W.findIn K (.ref CT) "__getattr__" = some none)
    (xd : PySem.W.hasDictIn K CT = true)
    (xa : PySem.W.findIn K (.ref CT) "__class__" = some (some (.builtin "object.__class__")))
    (xn : PySem.W.specialIn K (.builtin "object.__class__") "__get__" = some (some (.builtin "getset_descriptor.__get__")))
    (xt : PySem.W.takesIn K (.builtin "object.__class__") = some true)
    (xm : PySem.W.mroIn K CT (.type "object") = some true)
    (q5 : PySem.W.kitAny K (.ref CT) [.ref C3, .ref C4, .ref C5, .ref C6, .ref C7] = some false)
    (q1 : PySem.W.kitOne K (.ref CT) (.ref CT) = some true)
    (qV : PySem.W.kitOne K (.ref CT) (.type "ValueError") = some true)
    (vK : Vals [.str "number", .str "truth", .str "yes", .str "no"] iK.toList)
    (hz : iK.size ≤ sizeLine)
    : ∃ fd : FuncData, (∀ (s : Shared) (v : Value), BindsTo s fd ⟨[v], []⟩ [("_law_script", v)]) ∧ ∀ base : Heap, K.In base → base.Ns mainGlobals mg → FnG l.prog w K mg base C8.CX0 12 fa fd ["_law_script"] (spLaw K) := by
  have e := hfa.symm.trans (PySem.W.mg_of X G a17)
  cases e
  have D_is_name := def_mk (st := sPIsName) X G a1 l1 c1 k1
  have D_is_kind := def_mk (st := sPIsKind) X G a2 l2 c2 k2
  have D__is_pair := def_mk (st := sPIsPair) X G a3 l3 c3 k3
  have D_kind_text := def_mk (st := sPKindText) X G a4 l4 c4 k4
  have D_read_kind := def_mk (st := sPReadKind) X G a5 l5 c5 k5
  have D__bare_kind := def_mk (st := sPBareKind) X G a6 l6 c6 k6
  have D__law_cell_at := def_mk (st := sLCellAt) X G a7 l7 c7 k7
  have D__law_pot := def_mk (st := sLPot) X G a8 l8 c8 k8
  have D__law_take := def_mk (st := sLTake) X G a9 l9 c9 k9
  have D__law_called := def_mk (st := sLCalled) X G a10 l10 c10 k10
  have D__law_kind := def_mk (st := sLKind) X G a11 l11 c11 k11
  have D__law_word := def_mk (st := sLWord) X G a12 l12 c12 k12
  have D__law_read := def_mk (st := sLRead) X G a13 l13 c13 k13
  have D__law_text := def_mk (st := sLText) X G a14 l14 c14 k14
  have D__law_spoilt := def_mk (st := sLSpoilt) X G a15 l15 c15 k15
  have D__law_brackets := def_mk (st := sLBrackets) X G a16 l16 c16 k16
  have D_law := def_mk (st := sLaw) X G a17 l17 c17 k17
  have b_is_name := D_is_name.fn.binds rfl (ps := ["thing"]) fun _ _ _ _ _ _ us hl => match us, hl with | [_], _ => rfl
  have b_is_kind := D_is_kind.fn.binds rfl (ps := ["thing"]) fun _ _ _ _ _ _ us hl => match us, hl with | [_], _ => rfl
  have b__is_pair := D__is_pair.fn.binds rfl (ps := ["thing", "word"]) fun _ _ _ _ _ _ us hl => match us, hl with | [_, _], _ => rfl
  have b_kind_text := D_kind_text.fn.binds rfl (ps := ["kind"]) fun _ _ _ _ _ _ us hl => match us, hl with | [_], _ => rfl
  have b_read_kind := D_read_kind.fn.binds rfl (ps := ["text"]) fun _ _ _ _ _ _ us hl => match us, hl with | [_], _ => rfl
  have b__bare_kind := D__bare_kind.fn.binds rfl (ps := ["word"]) fun _ _ _ _ _ _ us hl => match us, hl with | [_], _ => rfl
  have b__law_cell_at := D__law_cell_at.fn.binds rfl (ps := ["_law_script", "_law_k"]) fun _ _ _ _ _ _ us hl => match us, hl with | [_, _], _ => rfl
  have b__law_pot := D__law_pot.fn.binds rfl (ps := ["_law_cell", "_law_k"]) fun _ _ _ _ _ _ us hl => match us, hl with | [_, _], _ => rfl
  have b__law_take := D__law_take.fn.binds rfl (ps := ["_law_pot_here", "_law_many"]) fun _ _ _ _ _ _ us hl => match us, hl with | [_, _], _ => rfl
  have b__law_called := D__law_called.fn.binds rfl (ps := ["_law_pot_here"]) fun _ _ _ _ _ _ us hl => match us, hl with | [_], _ => rfl
  have b__law_kind := D__law_kind.fn.binds rfl (ps := ["_law_pot_here", "_law_deep"]) fun _ _ _ _ _ _ us hl => match us, hl with | [_, _], _ => rfl
  have b__law_word := D__law_word.fn.binds rfl (ps := ["_law_e"]) fun _ _ _ _ _ _ us hl => match us, hl with | [_], _ => rfl
  have b__law_read := D__law_read.fn.binds rfl (ps := ["_law_text_here"]) fun _ _ _ _ _ _ us hl => match us, hl with | [_], _ => rfl
  have b__law_text := D__law_text.fn.binds rfl (ps := ["_law_kind_here"]) fun _ _ _ _ _ _ us hl => match us, hl with | [_], _ => rfl
  have b__law_spoilt := D__law_spoilt.fn.binds rfl (ps := ["_law_pot_here", "_law_kind_here"]) fun _ _ _ _ _ _ us hl => match us, hl with | [_, _], _ => rfl
  have b__law_brackets := D__law_brackets.fn.binds rfl (ps := ["_law_pot_here"]) fun _ _ _ _ _ _ us hl => match us, hl with | [_], _ => rfl
  have T : Tp mg := ⟨PySem.W.mg_none_of X G z_isinstance, PySem.W.mg_none_of X G z_str, PySem.W.mg_none_of X G z_tuple, PySem.W.mg_none_of X G z_list, PySem.W.mg_none_of X G z_bool, PySem.W.mg_none_of X G z_len, PySem.W.mg_none_of X G z_range, PySem.W.mg_none_of X G z_max, PySem.W.mg_none_of X G z_min, PySem.W.mg_none_of X G z_repr, PySem.W.mg_none_of X G z_int, PySem.W.mg_none_of X G z_ValueError, ⟨u_DEEPEST, PySem.W.mg_of X G g_DEEPEST, r_DEEPEST⟩, ⟨u_LONGEST_NAME, PySem.W.mg_of X G g_LONGEST_NAME, r_LONGEST_NAME⟩⟩
  refine ⟨PySem.W.fnOf "law" "law" (fnArgs sLaw) (fnBody sLaw) (fnScope sLaw) .none kV17 dc17 pm17 an17 cd17 ct17, fun s v => .of_eq rfl, fun base _ _ => ?_⟩
  have TK : Kept K mg aK := ⟨⟨_, PySem.W.mg_of X G gK, rfl⟩, fun H => .inr ⟨_, iK, nK, lK, rfl, rfl, hz, vK⟩⟩
  have Z : Ex K mg CE CT C3 C4 C5 C6 C7 := ⟨PySem.W.mg_of X G gE, PySem.W.mg_of X G gT, PySem.W.mg_of X G g3, PySem.W.mg_of X G g4, PySem.W.mg_of X G g5, PySem.W.mg_of X G g6, PySem.W.mg_of X G g7, kT, xT, bT, tT, PySem.W.exm_ref bE dE tE sE, ⟨xg, xk, bT, xd, xa, xn, xt, xm⟩, q5, q1, qV⟩
  have cTake := c_take (P := l.prog) (w := w) (base := base) D__law_take b__law_take
  have cCalled := c_called T cTake D__law_called b__law_called
  have cIsName := c_isName (P := l.prog) (w := w) (base := base) T TK D_is_name b_is_name
  have cIsPair := c_isPair (P := l.prog) (w := w) (base := base) T D__is_pair b__is_pair
  have cIsKind := c_isKind T cIsPair cIsName D_is_kind b_is_kind
  have cKindText := c_kindText (P := l.prog) (w := w) (base := base) T D_kind_text b_kind_text
  have cBare := c_bareKind (P := l.prog) (w := w) (base := base) T D__bare_kind b__bare_kind
  have cRead := c_readKind T Z cIsKind cKindText cBare D_read_kind b_read_kind
  have cWord := c_word (P := l.prog) (w := w) (base := base) T Z D__law_word b__law_word
  have cLRead := c_lread T Z cRead cWord D__law_read b__law_read
  have cLText := c_ltext (P := l.prog) (w := w) (base := base) T D__law_text b__law_text 9
  exact f_law T (c_cellAt T D__law_cell_at b__law_cell_at) (c_pot D__law_pot b__law_pot) cTake (c_kind T cTake cCalled D__law_kind b__law_kind 9) cKindText cLText cRead (c_spoilt T cTake cLText D__law_spoilt b__law_spoilt) (c_brackets T cTake D__law_brackets b__law_brackets) cLRead D_law
end K12
open PySem PySem.W PyProof.Rows
set_option maxHeartbeats 0 in
theorem PySem.Challenge.cw_changewhile_k12_kind_texts_holds : PySem.Challenge.rw_changewhile_k12_kind_texts.Holds := by
  w_on; o_law; k_head; (case hw => w_witness2)
  k_fill
  refine L2.walkG (l := PySem.Challenge.rw_changewhile_k12_kind_texts) (n := 63) (k := 12) (x := "_law_script") (sp := K12.spLaw) rfl (by decide) rfl ⟨rfl, by decide, by decide⟩ (fun w h Y => PySem.W.kIn_of Y) ?F (fun K H a ns hl _ hS => ⟨a, ns, rfl, hS, hl, fun _ => rfl⟩)
  case F =>
    intro w mg fa h KX G hmg
    refine' K12.all_mk KX G hmg ?a1 ?l1 ?c1 ?k1 ?a2 ?l2 ?c2 ?k2 ?a3 ?l3 ?c3 ?k3 ?a4 ?l4 ?c4 ?k4 ?a5 ?l5 ?c5 ?k5 ?a6 ?l6 ?c6 ?k6 ?a7 ?l7 ?c7 ?k7 ?a8 ?l8 ?c8 ?k8 ?a9 ?l9 ?c9 ?k9 ?a10 ?l10 ?c10 ?k10 ?a11 ?l11 ?c11 ?k11 ?a12 ?l12 ?c12 ?k12 ?a13 ?l13 ?c13 ?k13 ?a14 ?l14 ?c14 ?k14 ?a15 ?l15 ?c15 ?k15 ?a16 ?l16 ?c16 ?k16 ?a17 ?l17 ?c17 ?k17 ?z_isinstance ?z_str ?z_tuple ?z_list ?z_bool ?z_len ?z_range ?z_max ?z_min ?z_repr ?z_int ?z_ValueError ?g_DEEPEST ?r_DEEPEST ?g_LONGEST_NAME ?r_LONGEST_NAME ?gK ?lK ?gE ?gT ?g3 ?g4 ?g5 ?g6 ?g7 ?kT ?xT ?bT ?tT ?bE ?dE ?tE ?sE ?xg ?xk ?xd ?xa ?xn ?xt ?xm ?q5 ?q1 ?qV ?vK ?hz
    (case a1 => k_is); (case l1 => k_is); (case c1 => k_is); (case k1 => k_is); (case a2 => k_is); (case l2 => k_is); (case c2 => k_is); (case k2 => k_is); (case a3 => k_is); (case l3 => k_is); (case c3 => k_is); (case k3 => k_is); (case a4 => k_is); (case l4 => k_is); (case c4 => k_is); (case k4 => k_is); (case a5 => k_is); (case l5 => k_is); (case c5 => k_is); (case k5 => k_is); (case a6 => k_is); (case l6 => k_is); (case c6 => k_is); (case k6 => k_is); (case a7 => k_is); (case l7 => k_is); (case c7 => k_is); (case k7 => k_is); (case a8 => k_is); (case l8 => k_is); (case c8 => k_is); (case k8 => k_is); (case a9 => k_is); (case l9 => k_is); (case c9 => k_is); (case k9 => k_is); (case a10 => k_is); (case l10 => k_is); (case c10 => k_is); (case k10 => k_is); (case a11 => k_is); (case l11 => k_is); (case c11 => k_is); (case k11 => k_is); (case a12 => k_is); (case l12 => k_is); (case c12 => k_is); (case k12 => k_is); (case a13 => k_is); (case l13 => k_is); (case c13 => k_is); (case k13 => k_is); (case a14 => k_is); (case l14 => k_is); (case c14 => k_is); (case k14 => k_is); (case a15 => k_is); (case l15 => k_is); (case c15 => k_is); (case k15 => k_is); (case a16 => k_is); (case l16 => k_is); (case c16 => k_is); (case k16 => k_is); (case a17 => k_is); (case l17 => k_is); (case c17 => k_is); (case k17 => k_is); (case z_isinstance => k_is); (case z_str => k_is); (case z_tuple => k_is); (case z_list => k_is); (case z_bool => k_is); (case z_len => k_is); (case z_range => k_is); (case z_max => k_is); (case z_min => k_is); (case z_repr => k_is); (case z_int => k_is); (case z_ValueError => k_is); (case g_DEEPEST => k_is); (case g_LONGEST_NAME => k_is)
    (case r_DEEPEST => exact ⟨_, rfl⟩)
    (case r_LONGEST_NAME => exact ⟨_, rfl⟩)
    (case gK => k_is)
    (case lK => k_is)
    (case gE => k_is)
    (case gT => k_is)
    (case g3 => k_is)
    (case g4 => k_is)
    (case g5 => k_is)
    (case g6 => k_is)
    (case g7 => k_is)
    (case kT => k_is)
    (case xT => k_exc)
    (case bT => k_is)
    (case tT => k_is)
    (case bE => k_is)
    (case dE => k_is)
    (case tE => k_is)
    (case sE => k_is)
    (case xg => k_is)
    (case xk => k_is)
    (case xd => k_is)
    (case xa => k_is)
    (case xn => k_is)
    (case xt => k_is)
    (case xm => k_is)
    (case q5 => kit_is)
    (case q1 => kit_is)
    (case qV => kit_is)
    (case vK => exact .cons ⟨_, rfl⟩ (.cons ⟨_, rfl⟩ (.cons ⟨_, rfl⟩ (.cons ⟨_, rfl⟩ (.nil)))))
    (case hz => rw [sizeLine_eq]; decide)
