import PyProof.Rows.All
import Wide.All
import OpenK.AllK
import Wide.FinOn
import HandS.ForMost
import HandS.Codes
import HandS.Wide
import HandS.Deep
import HandS.IsInst
import HandS.TupAny
import HandS.StrMore
import HandS.Style
import HandS.ExcOwn
import PySem.Challenge.RW_changewhile_k18_names_exchanged
import HandS.More
import HandS.Set
import HandS.SetTxt0
import HandS.SetFor
import HandS.Strs
import HandS.TupSets
import HandS.DeepEq
import HandS.DictComp
import HandS.Iter
import HandS.Walk
import KE.GoesEnum
import KE.GoesMore
import HandS.Dict
import HandS.Star
import HandS.Finally
import PyProof.SetRoads
import KE.KRevSl
import HandS.Lambda
import HandS.Nested
import HandS.EndTab
set_option Elab.async false
set_option linter.all false
set_option maxRecDepth 100000
set_option maxHeartbeats 4000000
namespace L2
open PySem PySem.Spec PyProof.Rows
open C8 (Cal Def cal0 pe_c fnBody fnScope fnArgs)

/-! ### heaps: all but one list stays -/
def But (p : Addr) (H H' : Hp) : Prop := ∀ b o, b ≠ p → H b = some o → H' b = some o
theorem But.refl (p : Addr) (H : Hp) : But p H H := fun _ _ _ h => h
theorem But.trans {p : Addr} {H H1 H2 : Hp} (a : But p H H1) (b : But p H1 H2) : But p H H2 := fun c o n h => b c o n (a c o n h)
theorem But.same {p : Addr} {H H1 : Hp} (a : Same H H1) : But p H H1 := fun b o _ h => a b o h
theorem Same.new {q : Addr} {H : Hp} {o : HO} (h : H q = none) : Same H (upd H q o) := fun b u e => by
  rw [upd_ne (ne_of_none e h)]
  exact e
theorem But.new {p q : Addr} {H : Hp} {o : HO} (h : H q = none) : But p H (upd H q o) := But.same (Same.new h)
theorem But.pot {p : Addr} {H H' : Hp} {o : HO} (e : But p H H') : But p H (upd H' p o) := fun b u n h => by
  rw [upd_ne n]
  exact e b u n h
def hid (p : Addr) (H : Hp) : Hp := fun b => if b = p then none else H b
theorem hid_ne {p b : Addr} {H : Hp} (h : b ≠ p) : hid p H b = H b := if_neg h
theorem hid_some {p b : Addr} {H : Hp} {o : HO} (h : hid p H b = some o) : b ≠ p ∧ H b = some o := by
  unfold hid at h
  by_cases e : b = p
  · rw [if_pos e] at h; cases h
  · rw [if_neg e] at h; exact ⟨e, h⟩
theorem hid_but {p : Addr} {H H' : Hp} (e : But p H H') : Same (hid p H) (hid p H') := fun b o h => by
  obtain ⟨n, h⟩ := hid_some h
  rw [hid_ne n]
  exact e b o n h
theorem hid_in {p : Addr} {H : Hp} : Same (hid p H) H := fun b o h => (hid_some h).2

/-! ### data -/
section
variable {K : PySem.W.Frag}
theorem sqT_mono {H H' : Hp} {a : Addr} {xs : List V} (e : Same H H') (h : SqT K H a xs) : SqT K H' a xs := by
  rcases h with (h | ⟨o, h⟩) | h
  · exact .inl (.inl (e _ _ h))
  · exact .inl (.inr ⟨o, e _ _ h⟩)
  · exact .inr h
mutual
theorem Dp.mono {H H' : Hp} (e : Same H H') : ∀ {v : V} {d : PyData}, Dp K H v d → Dp K H' v d
  | _, _, .non => .non
  | _, _, .bl b => .bl b
  | _, _, .int i => .int i
  | _, _, .str x => .str x
  | _, _, .lst h a => .lst (e.seq h) (DpAll.mono e a)
  | _, _, .tup h a => .tup (sqT_mono e h) (DpAll.mono e a)
theorem DpAll.mono {H H' : Hp} (e : Same H H') : ∀ {vs : List V} {ds : List PyData}, DpAll K H vs ds → DpAll K H' vs ds
  | _, _, .nil => .nil
  | _, _, .cons h t => .cons (Dp.mono e h) (DpAll.mono e t)
end
theorem DpAll.len {H : Hp} : ∀ {vs : List V} {ds : List PyData}, DpAll K H vs ds → vs.length = ds.length
  | _, _, .nil => rfl
  | _, _, .cons _ t => congrArg (· + 1) (DpAll.len t)
theorem DpAll.app {H : Hp} : ∀ {vs ws : List V} {ds es : List PyData}, DpAll K H vs ds → DpAll K H ws es → DpAll K H (vs ++ ws) (ds ++ es)
  | _, _, _, _, .nil, t => t
  | _, _, _, _, .cons h s, t => .cons h (DpAll.app s t)
theorem DpAll.get {H : Hp} : ∀ {vs : List V} {ds : List PyData} {i : Nat} {d : PyData}, DpAll K H vs ds → ds[i]? = some d → ∃ v, vs[i]? = some v ∧ Dp K H v d
  | _, _, _, _, .nil, h => by simp at h
  | _, _, 0, _, .cons h _, e => by
    simp at e
    subst e
    exact ⟨_, rfl, h⟩
  | _, _, i + 1, _, .cons _ t, e => by
    obtain ⟨v, h1, h2⟩ := DpAll.get t (i := i) (by simpa using e)
    exact ⟨v, by simpa using h1, h2⟩
/-- data that does not come by the pot -/
abbrev Dh (K : PySem.W.Frag) (p : Addr) (H : Hp) (v : V) (d : PyData) : Prop := Dp K (hid p H) v d
abbrev DhAll (K : PySem.W.Frag) (p : Addr) (H : Hp) (vs : List V) (ds : List PyData) : Prop := DpAll K (hid p H) vs ds
theorem Dp.un {p : Addr} {H : Hp} {v : V} {d : PyData} (h : Dh K p H v d) : Dp K H v d := Dp.mono hid_in h
theorem Dp.but {p : Addr} {H H' : Hp} {v : V} {d : PyData} (e : But p H H') (h : Dh K p H v d) : Dh K p H' v d := Dp.mono (hid_but e) h
theorem DpAll.but {p : Addr} {H H' : Hp} {vs : List V} {ds : List PyData} (e : But p H H') (h : DhAll K p H vs ds) : DhAll K p H' vs ds := DpAll.mono (hid_but e) h
/-- a new tuple, a new list -/
theorem Dp.newT {p q : Addr} {H : Hp} {xs : List V} {ds : List PyData} (hq : H q = none) (n : q ≠ p) (h : DhAll K p H xs ds) : Dh K p (upd H q (.tup xs)) (.ref q) (.tuple ds) :=
  .tup (.inl (.inl (by rw [hid_ne n, upd_same]))) (DpAll.but (But.new hq) h)
theorem Dp.newL {p q : Addr} {H : Hp} {xs : List V} {ds : List PyData} (hq : H q = none) (n : q ≠ p) (h : DhAll K p H xs ds) : Dh K p (upd H q (.lst xs)) (.ref q) (.list ds) :=
  .lst (.inl (.inl (by rw [hid_ne n, upd_same]))) (DpAll.but (But.new hq) h)
theorem Dp.newT0 {q : Addr} {H : Hp} {xs : List V} {ds : List PyData} (hq : H q = none) (h : DpAll K H xs ds) : Dp K (upd H q (.tup xs)) (.ref q) (.tuple ds) :=
  .tup (.inl (.inl upd_same)) (DpAll.mono (Same.new hq) h)
theorem Dp.newL0 {q : Addr} {H : Hp} {xs : List V} {ds : List PyData} (hq : H q = none) (h : DpAll K H xs ds) : Dp K (upd H q (.lst xs)) (.ref q) (.list ds) :=
  .lst (.inl (.inl upd_same)) (DpAll.mono (Same.new hq) h)

/-! ### isinstance of data -/
def tyN : PyData → String
  | .none => "NoneType" | .bool _ => "bool" | .int _ => "int" | .str _ => "str" | .list _ => "list" | .tuple _ => "tuple" | .dict _ => "dict"
theorem Dp.ty {H : Hp} {v : V} {d : PyData} (h : Dp K H v d) : TyX K H v (.type (tyN d)) := by
  cases h with
  | non => exact .base .non
  | bl b => exact .base (.bl b)
  | int i => exact .base (.int i)
  | str x => exact .base (.str x)
  | lst hs _ =>
    rcases hs with (h | ⟨o, h⟩) | ⟨o, its, n, h, hc, _⟩
    · exact .base (.lst h)
    · exact .base (.frz h)
    · exact .kList h hc
  | tup hs _ =>
    rcases hs with (h | ⟨o, h⟩) | ⟨o, its, n, h, hc, _⟩
    · exact .base (.tup h)
    · exact .fTuple h
    · exact .kTuple h hc
def isS : PyData → Bool | .str _ => true | _ => false
def isT : PyData → Bool | .tuple _ => true | _ => false
def isL : PyData → Bool | .list _ => true | _ => false
def isB : PyData → Bool | .bool _ => true | _ => false
def isI : PyData → Bool | .bool _ => true | .int _ => true | _ => false
def isOf : String → PyData → Bool
  | "str", d => isS d
  | "tuple", d => isT d
  | "list", d => isL d
  | "bool", d => isB d
  | "int", d => isI d
  | _, _ => false
def tabN (a T : String) : Bool := a == T || (a == "bool" && T == "int")
theorem kitN : (["NoneType", "bool", "int", "str", "list", "tuple"].all fun a => ["str", "tuple", "list", "bool", "int"].all fun T => kitB a T == some (tabN a T)) = true := by decide +kernel
theorem kit_all {a T : String} (ha : a ∈ ["NoneType", "bool", "int", "str", "list", "tuple"]) (hT : T ∈ ["str", "tuple", "list", "bool", "int"]) : kitB a T = some (tabN a T) := by
  have h := List.all_eq_true.mp (List.all_eq_true.mp kitN a ha) T hT
  exact eq_of_beq h
theorem Dp.nodict {H : Hp} {v : V} {d : PyData} (h : Dp K H v d) : tyN d ≠ "dict" := by cases h <;> (intro e; exact absurd e (by simp [tyN]))
theorem isOf_tab {T : String} (hT : T ∈ ["str", "tuple", "list", "bool", "int"]) (d : PyData) : isOf T d = tabN (tyN d) T := by
  simp only [List.mem_cons, List.not_mem_nil, or_false] at hT
  rcases hT with rfl | rfl | rfl | rfl | rfl <;> cases d <;> first | rfl | decide
theorem isOf_kit {H : Hp} {v : V} {d : PyData} {T : String} (h : Dp K H v d) (hT : T ∈ ["str", "tuple", "list", "bool", "int"]) : kitB (tyN d) T = some (isOf T d) := by
  have n := h.nodict
  rw [isOf_tab hT]
  refine kit_all ?_ hT
  cases d <;> first | exact absurd rfl n | simp [tyN]
end
def rIsD (K : PySem.W.Frag) : List V → Hp → VK → Prop := fun xs H Q => ∃ (v : V) (d : PyData) (T : String), xs = [v, .ty T] ∧ Dp K H v d ∧ T ∈ ["str", "tuple", "list", "bool", "int"] ∧ Q (.bl (isOf T d)) H
section
variable {X : Cx}
theorem call_isD : CallR X (.builtin "isinstance") (rIsD X.K) := by
  intro pins s σ H xs us Q I r h
  obtain ⟨v, d, T, rfl, hd, hT, q⟩ := h
  exact call_isi pins s σ H _ us Q I r ⟨v, .ty T, .type (tyN d), .type T, isOf T d, rfl, .ty T, hd.ty, kit_ty (isOf_kit hd hT), q⟩
/-! ### repr of data -/
def shownB (d : PyData) : Prop := d.showable = true ∧ SeqAt.shaped d = true ∧ d.shown.length ≤ sizeLine
def rReprD (K : PySem.W.Frag) : List V → Hp → VK → Prop := fun xs H Q => ∃ (v : V) (d : PyData), xs = [v] ∧ Dp K H v d ∧ shownB d ∧ Q (.str d.shown) H
theorem call_reprD (hg : X.A.guards = some []) (hu : X.A.units + 70 < cLine) : CallR X (.builtin "repr") (rReprD X.K) := by
  intro pins s σ H xs us Q I r h
  obtain ⟨v, d, rfl, hd, ⟨hs, hsh, hl⟩, q⟩ := h
  obtain ⟨u, rfl, ru⟩ := vals1 r
  have hdep := SeqAt.depth_of_shaped hsh
  have hnd : d.hasDict = false := PyData.hasDict_of_canLay d (SeqAt.canLay_of_shaped hsh)
  obtain ⟨as, rd⟩ := Dp.reads I d v u hd ru
  have big : ∀ a, u = Value.ref a → wpAny (model X.prog X.w) X.A (call (.builtin "repr") [u]) (EP X pins σ Q) X.xe s := fun a e => by
    subst e
    exact repr_of_reads' rd hs (PyData.noDict_hsm hnd) hg (by omega) (fun _ _ e => e) (fun h' t tk k => ⟨.str d.shown, H, I.kept k, ⟨_, rfl⟩, q⟩) hl
  cases hd with
  | non =>
    cases ru
    exact PySem.P.repr_of_none ⟨.str _, H, I.tok _, ⟨_, rfl⟩, by simpa only [PyData.shown] using q⟩
  | bl b =>
    cases ru
    exact PySem.P.repr_of_bool ⟨.str _, H, I.tok _, ⟨_, rfl⟩, by simpa only [PyData.shown] using q⟩
  | int i =>
    obtain ⟨t, rfl⟩ := ru
    exact PySem.P.repr_of_int (by simpa [PyData.showable] using hs) ⟨.str _, H, I.tok _, ⟨_, rfl⟩, by simpa only [PyData.shown] using q⟩
  | str x =>
    obtain ⟨t, rfl⟩ := ru
    exact PySem.P.repr_of_str ⟨.str _, H, I.tok _, ⟨_, rfl⟩, by simpa only [PyData.shown] using q⟩ (by simpa only [PyData.shown] using hl)
  | lst _ _ => exact big _ ru
  | tup _ _ => exact big _ ru
end
/-! ### a comprehension over a text -/
theorem lc_str {z : Str} {g : TG} {tt : TT} {te : TE} {vs : List Nat} {σ : L2.St} {H1 : Hp} {D : Addr} {Qd : Hp → Prop} (Pv : Nat → Hp → Prop) (h0 : Pv 0 (upd H1 D (.lst [])))
    (hs : ∀ i c H, z.cps.toList[i]? = some c → Pv i H → g (.str ⟨#[c]⟩) (wipe σ vs) H fun σ2 H2 => wipe σ2 vs = wipe σ vs ∧ tt σ2 H2 fun b H3 =>
      if b = true then te σ2 H3 fun y H4 => ∃ acc, H4 D = some (.lst acc) ∧ acc.length < sizeLine ∧ Pv (i + 1) (upd H4 D (.lst (acc ++ [y]))) else Pv (i + 1) H3) (hd : ∀ H, Pv z.cps.toList.length H → Qd H) :
    ∃ W : Nat → Nat → Hp → Prop, (∃ m, W 0 m (upd H1 D (.lst []))) ∧ ∀ i m H, W i m H →
      ((Its z).stop i H ∧ Qd H) ∨ ((Its z).go i H ∧ ∃ Nx : Hp → Prop, (∀ H', Nx H' → ∃ m', m' < m ∧ W (i + 1) m' H') ∧ ∀ x H', (Its z).yld i H x H' → g x (wipe σ vs) H' fun σ2 H2 => wipe σ2 vs = wipe σ vs ∧ tt σ2 H2 fun b H3 =>
        if b = true then te σ2 H3 fun y H4 => ∃ acc, H4 D = some (.lst acc) ∧ acc.length < sizeLine ∧ Nx (upd H4 D (.lst (acc ++ [y]))) else Nx H3) := by
  have hz : z.cps.toList.length = z.cps.size := Array.length_toList
  refine ⟨fun i m H => m = z.cps.size - i ∧ i ≤ z.cps.size ∧ Pv i H, ⟨z.cps.size, by simp, Nat.zero_le _, h0⟩, ?_⟩
  rintro i m H ⟨rfl, hi, p⟩
  by_cases hlt : i < z.cps.size
  · refine .inr ⟨hlt, Pv (i + 1), fun H' p' => ⟨z.cps.size - (i + 1), by omega, rfl, hlt, p'⟩, fun x H' y => ?_⟩
    obtain ⟨e, c, hc, rfl⟩ := y
    subst e
    exact hs i c _ (by rw [Array.getElem?_toList]; exact hc) p
  · have e : i = z.cps.size := by omega
    subst e
    exact .inl ⟨Nat.le_refl _, hd H (by rw [hz]; exact p)⟩

/-! ### the pot: two numbers -/
structure Pot (H : Hp) (p : Addr) (x y : Int) : Prop where
  at_ : H p = some (.lst [.int x, .int y])
  x0 : 0 ≤ x
  y0 : 0 ≤ y
  y1 : y < 1099511627776
theorem Pot.ne {H : Hp} {p q : Addr} {x y : Int} (h : Pot H p x y) (hq : H q = none) : q ≠ p := fun e => by
  subst e
  rw [h.at_] at hq
  cases hq
theorem Pot.same {H H' : Hp} {p : Addr} {x y : Int} (h : Pot H p x y) (e : Same H H') : Pot H' p x y := ⟨e _ _ h.at_, h.x0, h.y0, h.y1⟩
theorem Pot.new {H : Hp} {p q : Addr} {x y : Int} {o : HO} (h : Pot H p x y) (hq : H q = none) : Pot (upd H q o) p x y := h.same (Same.new hq)
theorem hin_of {A : Around} {k : Nat} (hr : Room k A) : A.units + 65 < cLine := by have := hr.un; omega
theorem hrep_of {A : Around} {k : Nat} (hr : Room k A) : A.units + 70 < cLine := by have := hr.un; omega
end L2
set_option Elab.async false
set_option linter.all false
set_option maxRecDepth 100000
set_option maxHeartbeats 4000000
namespace K18
open PySem PySem.Spec PyProof.Rows L2
open C8 (Cal Def cal0 pe_c fnBody fnScope fnArgs)

def topS (i : Nat) : Stmt := PySem.Challenge.pw_changewhile_k18_names_exchanged.main.body.getD i (.Pass ⟨0, 0, 0, 0⟩)
/-- what the module's names hold that are no defs -/
structure Tp (mg : Str → Option Value) : Prop where
  n_isinstance : mg "isinstance" = none
  n_str : mg "str" = none
  n_tuple : mg "tuple" = none
  n_list : mg "list" = none
  n_bool : mg "bool" = none
  n_len : mg "len" = none
  n_range : mg "range" = none
  n_max : mg "max" = none
  n_min : mg "min" = none
  n_repr : mg "repr" = none
  n_int : mg "int" = none

/-! ### the pot: three numbers -/
structure Pot (H : Hp) (p : Addr) (x y n : Int) : Prop where
  at_ : H p = some (.lst [.int x, .int y, .int n])
  x0 : 0 ≤ x
  y0 : 0 ≤ y
  y1 : y < 1099511627776
theorem Pot.ne {H : Hp} {p q : Addr} {x y n : Int} (h : Pot H p x y n) (hq : H q = none) : q ≠ p := fun e => by
  subst e
  rw [h.at_] at hq
  cases hq
theorem Pot.same {H H' : Hp} {p : Addr} {x y n : Int} (h : Pot H p x y n) (e : Same H H') : Pot H' p x y n := ⟨e _ _ h.at_, h.x0, h.y0, h.y1⟩
theorem Pot.new {H : Hp} {p q : Addr} {x y n : Int} {o : HO} (h : Pot H p x y n) (hq : H q = none) : Pot (upd H q o) p x y n := h.same (Same.new hq)
/-! ### arithmetic -/
theorem fmod_lo {a n : Int} (h : 0 < n) : 0 ≤ a.fmod n := by
  rw [Int.fmod_eq_emod_of_nonneg a (by omega)]
  exact Int.emod_nonneg a (by omega)
theorem fmod_hi {a n : Int} (h : 0 < n) : a.fmod n < n := by
  rw [Int.fmod_eq_emod_of_nonneg a (by omega)]
  exact Int.emod_lt_of_pos a h
theorem div_lo {a n : Int} (h : 0 < n) (ha : 0 ≤ a) : 0 ≤ a / n := Int.ediv_nonneg ha (by omega)
theorem pot_of {H : Hp} {p : Addr} {x y n : Int} (hx : 0 ≤ x) (hy : 0 ≤ y) (h : y < 1099511627776) : Pot (upd H p (.lst [.int x, .int y, .int n])) p x y n := ⟨upd_same, hx, hy, h⟩

section
variable {P : Program} {w : World} {K : PySem.W.Frag} {mg : Str → Option Value} {base : Heap}
/-! ### the drawing -/
abbrev sLTake : Stmt := topS 10
abbrev NLTake : List Str := ["_law_pot_here", "_law_many", "_law_digit"]
theorem scLTake : FnScope NLTake ["_law_pot_here", "_law_many"] (fnScope sLTake) := ⟨rfl, rfl, rfl, by decide +kernel, rfl, by decide +kernel, by decide +kernel⟩
def spTake : Sp := fun vs H Q _ => ∃ (p : Addr) (x y m n : Int), vs = [.ref p, .int n] ∧ Pot H p x y m ∧ 0 < n ∧ n.natAbs < 2 ^ 300 ∧
  ∀ r x' y', 0 ≤ r → r < n → Pot (upd H p (.lst [.int x', .int y', .int m])) p x' y' m → Q (.int r) (upd H p (.lst [.int x', .int y', .int m]))
theorem c_take {f : Addr} {fd : FuncData} (D : Def K mg "_law_take" sLTake f fd) (b : Binds K fd ["_law_pot_here", "_law_many"] []) : Cal P w K mg base 1 "_law_take" spTake [] := by
  refine cal0 D b .nil scLTake (fun vs H Q E h => ?_) (fun cdv A outer s H vs Q E hr h => ?_)
  · obtain ⟨p, x, y, m, n, rfl, _⟩ := h
    rfl
  · obtain ⟨p, x, y, m, n, rfl, hp, n0, n1, q⟩ := h
    have nd := scLTake.nd
    refine ⟨_, (pss_cons (ps_if (pt_cmpR op_gt (pe_ix ix_list (pv 0) pe_int (fun _ _ => rfl)) pe_int (nomark _))
      (pss_cons (ps_set (i := 2) nd rfl (.inl rfl) (pe_op op_modN (pe_ix ix_list (pv 0) pe_int (fun _ _ => rfl)) (pv 1)))
      (pss_cons (ps_asg (pe_op op_fdivW (pe_ix ix_list (pv 0) pe_int (fun _ _ => rfl)) (pv 1)) (pg_sub (pv 0) pe_int set_list))
      (pss_one (ps_ret (pv 2)))))
      pss_nil)
    (pss_cons (ps_asg (pe_op op_modN (pe_op op_add (pe_op op_mul (pe_ix ix_list (pv 0) pe_int (fun _ _ => rfl)) pe_int) pe_int) pe_int) (pg_sub (pv 0) pe_int set_list))
    (pss_one (ps_ret (pe_op op_modN (pe_op op_fdivW (pe_op op_modN (pe_op op_mul (pe_ix ix_list (pv 0) pe_int (fun _ _ => rfl)) (pe_ix ix_list (pv 0) pe_int (fun _ _ => rfl))) pe_int) pe_int) (pv 1)))))), ?_⟩
    have h0 := hp.x0
    have h1 := hp.y0
    have h2 := hp.y1
    have hl := hp.at_
    refine ⟨_, rfl, _, _, _, _, rfl, rfl, SqL.of hl, atI_nat (j := 0) rfl, _, _, rfl, rfl, _, rfl, ite2 (fun e => ?_) (fun e => ?_)⟩
    · refine ⟨_, rfl, _, _, _, _, rfl, rfl, SqL.of hl, atI_nat (j := 0) rfl, _, rfl, _, _, rfl, rfl, (show n ≠ 0 by omega), ?_⟩
      refine ⟨_, rfl, _, _, _, _, rfl, rfl, SqL.of hl, atI_nat (j := 0) rfl, _, rfl, _, _, rfl, rfl, wide_div n0 n1 (by decide) (by decide), ?_⟩
      refine ⟨_, rfl, _, _, _, _, rfl, rfl, hl, rfl, ?_⟩
      refine ⟨_, rfl, ?_⟩
      exact q _ _ _ (fmod_lo n0) (fmod_hi n0) (pot_of (div_lo n0 h0) h1 h2)
    · refine ⟨_, rfl, _, _, _, _, rfl, rfl, SqL.of hl, atI_nat (j := 1) rfl, _, _, rfl, rfl, .inl ⟨by omega, by omega⟩, _, _, rfl, rfl, _, _, rfl, rfl, (by show (2147483629 : Int) ≠ 0; decide), ?_⟩
      refine ⟨_, rfl, _, _, _, _, rfl, rfl, hl, rfl, ?_⟩
      have b0 : 0 ≤ (y * 39373 + 7919).fmod 2147483629 := fmod_lo (by decide)
      have b1 : (y * 39373 + 7919).fmod 2147483629 < 2147483629 := fmod_hi (by decide)
      refine ⟨_, rfl, _, _, _, _, rfl, rfl, SqL.of upd_same, atI_nat (j := 1) rfl, _, rfl, _, _, _, _, rfl, rfl, SqL.of upd_same, atI_nat (j := 1) rfl, _, _, rfl, rfl, .inl ⟨by omega, by omega⟩, _, _, rfl, rfl, (by show (2147483563 : Int) ≠ 0; decide), _, _, rfl, rfl, wide_div (b := 64) (by decide) (by decide) (by decide) (by decide), _, rfl, _, _, rfl, rfl, (show n ≠ 0 by omega), ?_⟩
      exact q _ _ _ (fmod_lo n0) (fmod_hi n0) (pot_of h0 b0 (by omega))

/-! ### a cell, the pot -/
abbrev sLCellAt : Stmt := topS 8
abbrev NLCellAt : List Str := ["_law_script", "_law_k"]
theorem scLCellAt : FnScope NLCellAt ["_law_script", "_law_k"] (fnScope sLCellAt) := ⟨rfl, rfl, rfl, by decide +kernel, rfl, by decide +kernel, by decide +kernel⟩
def spCellAt (K : PySem.W.Frag) : Sp := fun vs H Q _ => ∃ (a : Addr) (ns : List Int) (k : Nat), vs = [.ref a, .int k] ∧ SqL K H a (ns.map V.int) ∧ ∀ n, Q (.int n) H
theorem c_cellAt (T : Tp mg) {f : Addr} {fd : FuncData} (D : Def K mg "_law_cell_at" sLCellAt f fd) (b : Binds K fd ["_law_script", "_law_k"] []) : Cal P w K mg base 1 "_law_cell_at" (spCellAt K) [] := by
  refine cal0 D b .nil scLCellAt (fun vs H Q E h => ?_) (fun cdv A outer s H vs Q E hr h => ?_)
  · obtain ⟨a, ns, k, rfl, _⟩ := h
    rfl
  · obtain ⟨a, ns, k, rfl, hs, q⟩ := h
    refine ⟨_, (pss_one (ps_ret (pe_ifExp (pt_cmpR op_lt (pv 1) (pe_callB call_len_seq (by rfl) T.n_len (by decide +kernel) (pa_cons (pv 0) pa_nil)) (nomark _)) (pe_ix ix_list (pv 0) (pv 1) (fun _ _ => rfl)) pe_int))), ?_⟩
    refine ⟨_, rfl, _, rfl, _, _, rfl, .inl hs, _, _, rfl, rfl, _, rfl, ite2 (fun e => ?_) (fun e => ?_)⟩
    · have e1 : (k : Int) < ((ns.map V.int).length : Int) := of_decide_eq_true e
      have e2 : k < ns.length := by
        rw [List.length_map] at e1
        omega
      refine ⟨_, rfl, _, rfl, _, _, _, .int ns[k], rfl, rfl, hs, atI_nat (j := k) ?_, q _⟩
      rw [List.getElem?_map, List.getElem?_eq_getElem e2]
      rfl
    · exact q _
abbrev sLPot : Stmt := topS 9
abbrev NLPot : List Str := ["_law_cell", "_law_k"]
theorem scLPot : FnScope NLPot ["_law_cell", "_law_k"] (fnScope sLPot) := ⟨rfl, rfl, rfl, by decide +kernel, rfl, by decide +kernel, by decide +kernel⟩
def spPot : Sp := fun vs H Q _ => ∃ (c : Int) (k : Nat), vs = [.int c, .int k] ∧ k ≤ 100 ∧ ∀ p x y, H p = none → 0 ≤ x → 0 ≤ y → y < 1099511627776 → Q (.ref p) (upd H p (.lst [.int x, .int y]))
theorem c_pot {f : Addr} {fd : FuncData} (D : Def K mg "_law_pot" sLPot f fd) (b : Binds K fd ["_law_cell", "_law_k"] []) : Cal P w K mg base 1 "_law_pot" spPot [] := by
  refine cal0 D b .nil scLPot (fun vs H Q E h => ?_) (fun cdv A outer s H vs Q E hr h => ?_)
  · obtain ⟨c, k, rfl, _⟩ := h
    rfl
  · obtain ⟨c, k, rfl, hk, q⟩ := h
    refine ⟨_, (pss_cons (ps_if (pt_cmpR op_ge (pv 0) (pe_op op_pow pe_int pe_int) (nomark _))
      (pss_one (ps_ret (pe_lst (pa_cons (pv 0) (pa_cons (pe_op op_add pe_int (pv 1)) pa_nil)))))
      pss_nil)
    (pss_one (ps_ret (pe_lst (pa_cons pe_int (pa_cons (pe_op op_modN (pe_op op_add (pe_op op_add (pe_op op_add (pe_op op_mul (pv 0) pe_int) (pe_op op_mul (pe_op op_mul pe_int (pv 1)) (pv 1))) (pe_op op_mul pe_int (pv 1))) pe_int) pe_int) pa_nil)))))), ?_⟩
    refine ⟨_, rfl, _, _, rfl, rfl, (by show (0 : Int) ≤ 18 ∧ _; decide), _, _, rfl, rfl, _, rfl, ite2 (fun e => ?_) (fun e => ?_)⟩
    · have e1 : ((10 : Int) ^ (18 : Int).toNat) ≤ c := of_decide_eq_true e
      have e2 : (10 : Int) ^ (18 : Int).toNat = 1000000000000000000 := by decide
      refine ⟨_, rfl, _, rfl, _, _, rfl, rfl, (by show 2 ≤ sizeLine; decide), fun p hp => ?_⟩
      exact q p _ _ hp (by omega) (by omega) (by omega)
    · refine ⟨_, rfl, _, _, rfl, rfl, .inr ⟨by decide, by decide⟩, _, rfl, _, _, rfl, rfl, .inl ⟨by decide, by decide⟩, _, rfl, _, _, rfl, rfl, .inr ⟨by omega, by omega⟩, _, _, rfl, rfl, _, rfl, _, _, rfl, rfl, .inl ⟨by decide, by decide⟩, _, _, rfl, rfl, _, _, rfl, rfl, _, _, rfl, rfl, (by show (2147483647 : Int) ≠ 0; decide), (by show 2 ≤ sizeLine; decide), fun p hp => ?_⟩
      exact q p _ _ hp (by omega) (fmod_lo (by decide)) (Int.lt_trans (fmod_hi (by decide)) (by decide))

/-! ### names -/
def low (c : Nat) : Bool := decide (97 ≤ c) && decide (c ≤ 122)
def keptS (z : Str) : Bool := inV (.str z) [.str "number", .str "truth", .str "yes", .str "no"]
def nameS (z : Str) : Bool := (decide (1 ≤ z.length) && decide (z.length ≤ 8)) && (z.cps.toList.all low && !keptS z)
theorem len_tl (z : Str) : z.cps.toList.length = z.length := Array.length_toList
theorem tl_app (x y : Str) : (x ++ y).cps.toList = x.cps.toList ++ y.cps.toList := TL.tl_append x y
theorem abc_low : ∀ (j : Nat) (c : Nat), ("abcdefghijklmnopqrstuvwxyz" : Str).cps.toList[j]? = some c → low c = true := by
  have h : ("abcdefghijklmnopqrstuvwxyz" : Str).cps.toList.all low = true := by decide +kernel
  intro j c e
  exact List.all_eq_true.mp h c (List.mem_of_getElem? e)
def sevenN : List Str := ["a", "ab", "add", "empty", "list", "r", "x"]
theorem seven_ok : sevenN.all nameS = true := by decide +kernel
theorem kept_four {z : Str} (e : keptS z = true) : z = "number" ∨ z = "truth" ∨ z = "yes" ∨ z = "no" := by
  have h : (("number" : Str) == z || (("truth" : Str) == z || (("yes" : Str) == z || (("no" : Str) == z || false)))) = true := e
  simp only [Bool.or_eq_true, beq_iff_eq, Bool.false_eq_true, or_false] at h
  rcases h with h | h | h | h
  · exact .inl h.symm
  · exact .inr (.inl h.symm)
  · exact .inr (.inr (.inl h.symm))
  · exact .inr (.inr (.inr h.symm))
theorem kept_cut (z : Str) (e : keptS z = true) : (PySem.Txt.slice z none (some 7)).length ≤ 8 := by
  rcases kept_four e with rfl | rfl | rfl | rfl <;> decide +kernel
theorem kept_x (z : Str) (e : keptS z = true) : nameS (("x" : Str) ++ PySem.Txt.slice z none (some 7)) = true := by
  rcases kept_four e with rfl | rfl | rfl | rfl <;> decide +kernel
abbrev sLCalled : Stmt := topS 11
abbrev NLCalled : List Str := ["_law_pot_here", "_law_found", "_law_k"]
theorem scLCalled : FnScope NLCalled ["_law_pot_here"] (fnScope sLCalled) := ⟨rfl, rfl, rfl, by decide +kernel, rfl, by decide +kernel, by decide +kernel⟩
/-- all but the pot stays, and the pot stays one -/
def Going (p : Addr) (n : Int) (H H' : Hp) : Prop := But p H H' ∧ ∃ x y, Pot H' p x y n
theorem going_pot {p : Addr} {H H' : Hp} {x' y' n' : Int} (g : But p H H') (h : Pot (upd H' p (.lst [.int x', .int y', .int n'])) p x' y' n') : Going p n' H (upd H' p (.lst [.int x', .int y', .int n'])) := ⟨g.pot, _, _, h⟩
theorem Going.trans {p : Addr} {n m : Int} {H H1 H2 : Hp} (a : Going p n H H1) (b : Going p m H1 H2) : Going p m H H2 := ⟨a.1.trans b.1, b.2⟩
theorem Going.new {p q : Addr} {n : Int} {H H1 : Hp} {o : HO} (a : Going p n H H1) (hq : H1 q = none) : Going p n H (upd H1 q o) := ⟨a.1.trans (But.new hq), let ⟨x, y, h⟩ := a.2; ⟨x, y, h.new hq⟩⟩
theorem Going.same {p : Addr} {n : Int} {H H1 H2 : Hp} (a : Going p n H H1) (e : Same H1 H2) : Going p n H H2 := ⟨a.1.trans (But.same e), let ⟨x, y, h⟩ := a.2; ⟨x, y, h.same e⟩⟩
theorem Going.ne {p q : Addr} {n : Int} {H H1 : Hp} (a : Going p n H H1) (hq : H1 q = none) : q ≠ p := let ⟨_, _, h⟩ := a.2; h.ne hq
def spCalled : Sp := fun vs H Q _ => ∃ (p : Addr) (x y n : Int), vs = [.ref p] ∧ Pot H p x y n ∧ ∀ z H', nameS z = true → Going p n H H' → Q (.str z) H'
theorem c_called (T : Tp mg) (c_LTake : Cal P w K mg base 1 "_law_take" spTake []) {f : Addr} {fd : FuncData} (D : Def K mg "_law_called" sLCalled f fd) (b : Binds K fd ["_law_pot_here"] []) : Cal P w K mg base 2 "_law_called" spCalled [] := by
  refine cal0 D b .nil scLCalled (fun vs H Q E h => ?_) (fun cdv A outer s H vs Q E hr h => ?_)
  · obtain ⟨p, x, y, n, rfl, _⟩ := h
    rfl
  · obtain ⟨p, x, y, n, rfl, hp, q⟩ := h
    have nd := scLCalled.nd
    refine ⟨_, (pss_cons (ps_if (pt_cmpR op_gt (pe_c c_LTake hr (by decide) (by rfl) (pa_cons (pv 0) (pa_cons pe_int pa_nil))) pe_int (nomark _))
      (pss_one (ps_ret (pe_ix ix_list (pe_lst (pa_cons pe_str (pa_cons pe_str (pa_cons pe_str (pa_cons pe_str (pa_cons pe_str (pa_cons pe_str (pa_cons pe_str pa_nil)))))))) (pe_c c_LTake hr (by decide) (by rfl) (pa_cons (pv 0) (pa_cons pe_int pa_nil))) (fun _ _ => rfl))))
      pss_nil)
    (pss_cons (ps_set (i := 1) nd rfl (.inl rfl) pe_str)
    (pss_cons (ps_for PassesOwn.never rfl (pi_range1 (by rfl) T.n_range (pa_cons (pe_op op_add pe_int (pe_c c_LTake hr (by decide) (by rfl) (pa_cons (pv 0) (pa_cons pe_int pa_nil)))) pa_nil)) (pg_name (i := 2) nd rfl (.inl rfl))
      (pss_one (ps_set (i := 1) nd rfl (.inl rfl) (pe_op op_add_str (pv 1) (pe_ix ix_str pe_str (pe_c c_LTake hr (by decide) (by rfl) (pa_cons (pv 0) (pa_cons pe_int pa_nil))) (fun _ _ => rfl))))))
    (pss_cons (ps_if (pt_cmpR op_in_seq (pv 1) (pe_lst (pa_cons pe_str (pa_cons pe_str (pa_cons pe_str (pa_cons pe_str pa_nil))))) (by rfl))
      (pss_one (ps_ret (pe_op op_add_str pe_str (pe_slice C8.sl_txt (pv 1) po_none (po_some pe_int)))))
      pss_nil)
    (pss_one (ps_ret (pv 1))))))), ?_⟩
    refine ⟨_, rfl, p, x, y, n, 3, rfl, hp, by decide, by decide, fun r x1 y1 r0 r1 hp1 => ?_⟩
    have g1 : Going p n H (upd H p (.lst [.int x1, .int y1, .int n])) := going_pot (But.refl p H) hp1
    refine ⟨_, _, rfl, rfl, _, rfl, ite2 (fun e => ?_) (fun e => ?_)⟩
    · refine ⟨(by show 7 ≤ sizeLine; decide), fun l hl => ?_⟩
      have nl := hp1.ne hl
      refine ⟨_, rfl, p, x1, y1, n, 7, rfl, hp1.new hl, by decide, by decide, fun r2 x2 y2 r20 r21 hp2 => ?_⟩
      have hr2 : r2.toNat < 7 := by omega
      obtain ⟨z, hz⟩ : ∃ z, sevenN[r2.toNat]? = some z := ⟨_, List.getElem?_eq_getElem (show r2.toNat < sevenN.length from hr2)⟩
      refine ⟨l, sevenN.map V.str, r2, .str z, rfl, rfl, SqL.of (by rw [upd_ne nl, upd_same]; rfl), ?_, ?_⟩
      · have e2 : r2 = (r2.toNat : Int) := by omega
        rw [e2]
        refine atI_nat ?_
        rw [List.getElem?_map, hz]
        rfl
      · exact q z _ (List.all_eq_true.mp seven_ok z (List.mem_of_getElem? hz)) (going_pot (g1.1.trans (But.new hl)) hp2)
    · refine ⟨_, rfl, p, x1, y1, n, 8, rfl, hp1, by decide, by decide, fun r2 x2 y2 r20 r21 hp2 => ?_⟩
      have g2 := g1.trans (going_pot (But.refl p _) hp2)
      refine ⟨_, _, rfl, rfl, 1 + r2, rfl, by omega, by omega, ?_⟩
      refine for_range (lo := 0) (n := (1 + r2).toNat) (fun i σ H' => ∃ z v2, σ = [some (.ref p), some (.str z), v2] ∧ z.length = i ∧ z.cps.toList.all low = true ∧ Going p n H H') ⟨_, _, rfl, rfl, rfl, g2⟩ (fun i σ H' hi hW => ?_) (fun σ H' hW => ?_)
      · obtain ⟨z, v2, rfl, hz, hzl, g3⟩ := hW
        obtain ⟨x3, y3, hp3⟩ := g3.2
        refine ⟨_, rfl, _, rfl, p, x3, y3, n, 26, rfl, hp3, by decide, by decide, fun r4 x4 y4 r40 r41 hp4 => ?_⟩
        have hr4 : r4.toNat < 26 := by omega
        obtain ⟨c, hc⟩ : ∃ c, ("abcdefghijklmnopqrstuvwxyz" : Str).cps.toList[r4.toNat]? = some c := ⟨_, List.getElem?_eq_getElem (show r4.toNat < ("abcdefghijklmnopqrstuvwxyz" : Str).cps.toList.length by rw [show ("abcdefghijklmnopqrstuvwxyz" : Str).cps.toList.length = 26 by decide +kernel]; exact hr4)⟩
        have e2 : r4 = (r4.toNat : Int) := by omega
        refine ⟨_, r4, c, rfl, rfl, (by show (26 : Nat) ≤ sizeLine; decide), (by rw [e2]; exact atI_nat hc), ?_⟩
        refine ⟨_, _, rfl, rfl, ?_, ?_⟩
        · show z.length + 1 ≤ sizeLine
          rw [hz, sizeLine_eq]
          omega
        · refine ⟨_, _, rfl, ?_, ?_, g3.trans (going_pot (But.refl p _) hp4)⟩
          · rw [← len_tl, tl_app, List.length_append, len_tl, hz]
            rfl
          · rw [tl_app, List.all_append, hzl]
            show (low c && true) = true
            rw [abc_low _ _ hc]
            rfl
      · obtain ⟨z, v2, rfl, hz, hzl, g3⟩ := hW
        refine ⟨_, rfl, (by show 4 ≤ sizeLine; decide), fun l hl => ?_⟩
        have g4 := g3.new (o := .lst [.str "number", .str "truth", .str "yes", .str "no"]) hl
        refine ⟨l, _, rfl, .inl (SqL.of upd_same), rfl, rfl, _, rfl, ?_⟩
        show if (inV (.str z) [.str "number", .str "truth", .str "yes", .str "no"]) = true then _ else _
        refine ite2 (fun e => ?_) (fun e => ?_)
        · refine ⟨_, rfl, 7, rfl, z, rfl, (by rw [hz, sizeLine_eq]; omega), _, _, rfl, rfl, ?_, ?_⟩
          · have h7 := kept_cut z e
            rw [sizeLine_eq]
            have : ("x" : Str).length = 1 := by decide
            omega
          · refine q _ _ ?_ g4
            exact kept_x z e
        · refine ⟨_, rfl, ?_⟩
          refine q z _ ?_ g4
          have e1 : keptS z = false := by simpa [keptS] using e
          unfold nameS
          rw [hzl, e1, hz, decide_eq_true (show 1 ≤ (1 + r2).toNat by omega), decide_eq_true (show (1 + r2).toNat ≤ 8 by omega)]
          rfl
end
end K18
set_option Elab.async false
set_option linter.all false
set_option maxRecDepth 100000
set_option maxHeartbeats 4000000
namespace K18
open PySem PySem.Spec PyProof.Rows L2
open C8 (Cal Def cal0 pe_c fnBody fnScope fnArgs)
inductive Kd where
  | num | tru | rcd (z : Str) | lst (k : Kd)
def Kd.d : Kd → PyData
  | .num => .tuple [.str "number"]
  | .tru => .tuple [.str "truth"]
  | .rcd z => .tuple [.str "record", .str z]
  | .lst k => .tuple [.str "list", k.d]
def Kd.ok : Kd → Prop
  | .num => True
  | .tru => True
  | .rcd z => nameS z = true
  | .lst k => k.ok
def Kd.deep : Kd → Nat
  | .lst k => k.deep + 1
  | _ => 0
section
variable {P : Program} {w : World} {K : PySem.W.Frag} {mg : Str → Option Value} {base : Heap}
/-- a promise that is never asked -/
def spNo : Sp := fun _ _ _ _ => False
theorem cal_no {k : Nat} {x : Str} {st : Stmt} {f : Addr} {fd : FuncData} {ps : List Str} (sp : Sp) (h : ∀ vs H Q E, sp vs H Q E → False) (D : Def K mg x st f fd) (b : Binds K fd ps []) : Cal P w K mg base k x sp [] :=
  ⟨f, fd, ps, [], ⟨fun _ _ _ _ z => (h _ _ _ _ z).elim, fun _ _ _ _ _ _ _ _ _ _ _ _ _ z => (h _ _ _ _ z).elim⟩, D.mgf, D.kp, b, .nil⟩
abbrev sLKind : Stmt := topS 12
abbrev NLKind : List Str := ["_law_pot_here", "_law_deep", "_law_way"]
theorem scLKind : FnScope NLKind ["_law_pot_here", "_law_deep"] (fnScope sLKind) := ⟨rfl, rfl, rfl, by decide +kernel, rfl, by decide +kernel, by decide +kernel⟩
def spKind (K : PySem.W.Frag) (n : Nat) : Sp := fun vs H Q _ => ∃ (p : Addr) (x y pn : Int) (m : Nat), vs = [.ref p, .int m] ∧ m < n ∧ Pot H p x y pn ∧
  ∀ v (k : Kd) H', k.ok → k.deep ≤ m → Dh K p H' v k.d → Going p pn H H' → Q v H'
theorem c_kind (T : Tp mg) (c_LTake : Cal P w K mg base 1 "_law_take" spTake []) (c_LCalled : Cal P w K mg base 2 "_law_called" spCalled []) {f : Addr} {fd : FuncData} (D : Def K mg "_law_kind" sLKind f fd) (b : Binds K fd ["_law_pot_here", "_law_deep"] []) :
    ∀ n : Nat, Cal P w K mg base (2 + n) "_law_kind" (spKind K n) []
  | 0 => cal_no _ (fun vs H Q E ⟨p, x, y, pn, m, _, h, _⟩ => absurd h (Nat.not_lt_zero _)) D b
  | n + 1 => by
    have c_LKind := c_kind T c_LTake c_LCalled D b n
    refine cal0 D b .nil scLKind (fun vs H Q E h => ?_) (fun cdv A outer s H vs Q E hr h => ?_)
    · obtain ⟨p, x, y, pn, m, rfl, _⟩ := h
      rfl
    · obtain ⟨p, x, y, pn, m, rfl, hm, hp, q⟩ := h
      have nd := scLKind.nd
      have hr := (show Room (2 + n) _ from hr)
      refine ⟨_, (pss_cons (ps_set (i := 2) nd rfl (.inl rfl) (pe_c c_LTake hr (by omega) (by rfl) (pa_cons (pv 0) (pa_cons pe_int pa_nil))))
    (pss_cons (ps_if (PW.pt (pw_and (pt_cmpR op_gt (pv 2) pe_int (nomark _)) (pw_and1 (pt_cmpR op_gt (pv 1) pe_int (nomark _)))))
      (pss_one (ps_ret (pe_tup (pa_cons pe_str (pa_cons (pe_c c_LKind hr (by omega) (by rfl) (pa_cons (pv 0) (pa_cons (pe_op op_sub (pv 1) pe_int) pa_nil))) pa_nil)))))
      pss_nil)
    (pss_one (ps_ret (pe_ix ix_list (pe_lst (pa_cons (pe_tup (pa_cons pe_str pa_nil)) (pa_cons (pe_tup (pa_cons pe_str pa_nil)) (pa_cons (pe_tup (pa_cons pe_str (pa_cons (pe_c c_LCalled hr (by omega) (by rfl) (pa_cons (pv 0) pa_nil)) pa_nil))) pa_nil)))) (pe_op op_modN (pv 2) pe_int) (fun _ _ => rfl)))))), ?_⟩
      refine ⟨_, rfl, p, x, y, pn, 6, rfl, hp, by decide, by decide, fun r x1 y1 r0 r1 hp1 => ?_⟩
      have g1 : Going p pn H (upd H p (.lst [.int x1, .int y1, .int pn])) := going_pot (But.refl p H) hp1
      have rest : ∀ (H1 : Hp) , Going p pn H H1 → (tRet (tOp (rIxL K) (tLst (tCons (tTup (tCons (tC (.str "number")) tNil)) (tCons (tTup (tCons (tC (.str "truth")) tNil)) (tCons (tTup (tCons (tC (.str "record")) (tCons (tCall spCalled [] C8.E0 (tCons (tVar 0) tNil)) tNil))) tNil)))) (tOp (rI (fun _ j => j ≠ 0) fun i j => .int (i.fmod j)) (tVar 2) (tC (.int 3))))) { nx := fun _ H' => Q .non H', rt := Q } [some (.ref p), some (.int m), some (.int r)] H1 := by
        intro H1 g
        obtain ⟨x2, y2, hp2⟩ := g.2
        refine ⟨(by show 1 ≤ sizeLine; decide), fun t1 h1 => ⟨(by show 1 ≤ sizeLine; decide), fun t2 h2 => ?_⟩⟩
        have n1 := hp2.ne h1
        have gA := (g.new (o := .tup [.str "number"]) h1)
        have n2 := gA.ne h2
        have gB := (gA.new (o := .tup [.str "truth"]) h2)
        obtain ⟨x3, y3, hp3⟩ := gB.2
        refine ⟨_, rfl, p, x3, y3, pn, rfl, hp3, fun z H2 hz g2 => ?_⟩
        refine ⟨(by show 2 ≤ sizeLine; decide), fun t3 h3 => ⟨(by show 3 ≤ sizeLine; decide), fun l hl => ?_⟩⟩
        have gC := (gB.trans g2).new (o := .tup [.str "record", .str z]) h3
        have n3 := g2.ne h3
        have gD := gC.new (o := .lst [.ref t1, .ref t2, .ref t3]) hl
        have D1 : Dh K p H2 (.ref t1) (Kd.num).d := ((Dp.newT h1 n1 (.cons (.str _) .nil)).but (But.new h2)).but g2.1
        have D2 : Dh K p H2 (.ref t2) (Kd.tru).d := (Dp.newT h2 n2 (.cons (.str _) .nil)).but g2.1
        have D3 : Dh K p (upd H2 t3 (.tup [.str "record", .str z])) (.ref t3) (Kd.rcd z).d := Dp.newT h3 n3 (.cons (.str _) (.cons (.str _) .nil))
        refine ⟨_, rfl, _, _, rfl, rfl, (by show (3 : Int) ≠ 0; decide), ?_⟩
        have r3 : 0 ≤ r.fmod 3 := fmod_lo (by decide)
        have r4 : r.fmod 3 < 3 := fmod_hi (by decide)
        have hL : SqL K (upd (upd H2 t3 (.tup [.str "record", .str z])) l (.lst [.ref t1, .ref t2, .ref t3])) l [.ref t1, .ref t2, .ref t3] := SqL.of upd_same
        have hcase : r.fmod 3 = 0 ∨ r.fmod 3 = 1 ∨ r.fmod 3 = 2 := by omega
        rcases hcase with e | e | e
        · refine ⟨l, _, _, .ref t1, rfl, rfl, hL, by rw [e]; exact atI_nat (j := 0) rfl, ?_⟩
          exact q _ .num _ True.intro (Nat.zero_le _) ((D1.but (But.new h3)).but (But.new hl)) gD
        · refine ⟨l, _, _, .ref t2, rfl, rfl, hL, by rw [e]; exact atI_nat (j := 1) rfl, ?_⟩
          exact q _ .tru _ True.intro (Nat.zero_le _) ((D2.but (But.new h3)).but (But.new hl)) gD
        · refine ⟨l, _, _, .ref t3, rfl, rfl, hL, by rw [e]; exact atI_nat (j := 2) rfl, ?_⟩
          exact q _ (.rcd z) _ hz (Nat.zero_le _) (D3.but (But.new hl)) gD
      refine ⟨_, rfl, _, _, rfl, rfl, _, rfl, ite2 (fun e => ?_) (fun e => ?_)⟩
      · refine ⟨_, rfl, _, _, rfl, rfl, _, rfl, ite2 (fun e2 => ?_) (fun e2 => ?_)⟩
        · have m0 : (0 : Int) < m := of_decide_eq_true e2
          refine ⟨_, rfl, _, rfl, _, _, rfl, rfl, p, x1, y1, pn, m - 1, ?_, by omega, hp1, fun v k H2 hk hd hD g2 => ?_⟩
          · show [V.ref p, V.int ((m : Int) - 1)] = _
            rw [show ((m - 1 : Nat) : Int) = (m : Int) - 1 by omega]
          · refine ⟨(by show 2 ≤ sizeLine; decide), fun t ht => ?_⟩
            exact q _ (.lst k) _ hk (by show k.deep + 1 ≤ m; omega) (Dp.newT ht (g2.ne ht) (.cons (.str _) (.cons hD .nil))) ((g1.trans g2).new ht)
        · exact rest _ g1
      · show (if (false : Bool) = true then _ else _)
        exact iteF (rest _ g1)

/-! ### the program's looks -/
def nameB : PyData → Bool
  | .str z => nameS z
  | _ => false
def pairB (w : Str) : PyData → Bool
  | .tuple [.str u, _] => u == w
  | _ => false
def kindB : PyData → Bool
  | .tuple [.str w] => w == "number" || w == "truth"
  | .tuple [.str w, x] => if w == "list" then kindB x else w == "record" && nameB x
  | _ => false
theorem ascii_tab : (List.range 128).all (fun c => (Unicode.isAlpha c && !(Unicode.isUpper c || Unicode.isTitle c)) == low c && (!low c || Unicode.isLower c)) = true := by decide +kernel
theorem ascii_low {c : Nat} (h : c < 128) : (Unicode.isAlpha c && !(Unicode.isUpper c || Unicode.isTitle c)) = low c ∧ (low c = true → Unicode.isLower c = true) := by
  have h1 := List.all_eq_true.mp ascii_tab c (List.mem_range.mpr h)
  rw [Bool.and_eq_true] at h1
  refine ⟨eq_of_beq h1.1, fun hl => ?_⟩
  have h2 := h1.2
  rw [hl] at h2
  simpa using h2
theorem low128 {c : Nat} (h : low c = true) : c < 128 := by
  unfold low at h
  rw [Bool.and_eq_true] at h
  have := of_decide_eq_true h.2
  omega
theorem ascii3 {z : Str} (h : 1 ≤ z.length) : (PySem.Txt.isascii z && (PySem.Txt.isalpha z && PySem.Txt.islower z)) = z.cps.toList.all low := by
  unfold PySem.Txt.isascii PySem.Txt.isalpha PySem.Txt.islower
  simp only [← Array.all_toList, ← Array.any_toList]
  rw [Bool.eq_iff_iff]
  simp only [Bool.and_eq_true, List.all_eq_true, decide_eq_true_eq, List.any_eq_true, Bool.not_eq_true', List.any_eq_false]
  constructor
  · rintro ⟨h1, ⟨_, h3⟩, ⟨_, h5⟩⟩ c hc
    have a := (ascii_low (h1 c hc)).1
    rw [← a, h3 c hc]
    have b := h5 c hc
    simp only [Bool.not_eq_true] at b
    rw [b]
    rfl
  · intro hl
    have ne : z.cps.toList ≠ [] := fun e => by
      have := len_tl z
      rw [e] at this
      simp at this
      omega
    obtain ⟨c0, hc0⟩ := List.exists_mem_of_ne_nil _ ne
    have fact : ∀ c ∈ z.cps.toList, Unicode.isAlpha c = true ∧ (Unicode.isUpper c || Unicode.isTitle c) = false := fun c hc => by
      have a := (ascii_low (low128 (hl c hc))).1
      rw [hl c hc, Bool.and_eq_true, Bool.not_eq_true'] at a
      exact a
    refine ⟨fun c hc => low128 (hl c hc), ⟨?_, fun c hc => (fact c hc).1⟩, ⟨c0, hc0, (ascii_low (low128 (hl c0 hc0))).2 (hl c0 hc0)⟩, fun c hc => ?_⟩
    · show z.length > 0
      omega
    · simp only [Bool.not_eq_true]
      exact (fact c hc).2
/-! texts of data are short -/
mutual
def short : PyData → Bool
  | .str z => decide (z.length ≤ 1000)
  | .list xs => decide (xs.length ≤ 1000) && shortAll xs
  | .tuple xs => decide (xs.length ≤ 1000) && shortAll xs
  | .dict _ => false
  | _ => true
def shortAll : List PyData → Bool
  | [] => true
  | x :: xs => short x && shortAll xs
end
abbrev NPIsName : List Str := ["thing"]
/-- a look at data: a truth told, all stays -/
def spLook (K : PySem.W.Frag) (g : PyData → Bool) : Sp := fun vs H Q _ => ∃ v d, vs = [v] ∧ Dp K H v d ∧ short d = true ∧ ∀ H', Same H H' → Q (.bl (g d)) H'
/-- the names that are kept, as the module has them -/
structure Kept (K : PySem.W.Frag) (mg : Str → Option Value) (aK : Addr) : Prop where
  g : ∃ u, mg "KEPT_WORDS" = some u ∧ RelV (.ref aK) u
  sq : ∀ H, SqT K H aK [.str "number", .str "truth", .str "yes", .str "no"]
end
end K18
set_option Elab.async false
set_option linter.all false
set_option maxRecDepth 100000
set_option maxHeartbeats 4000000
namespace K18
open PySem PySem.Spec PyProof.Rows L2
open C8 (Cal Def cal0 pe_c fnBody fnScope fnArgs)
section
variable {P : Program} {w : World} {K : PySem.W.Frag} {mg : Str → Option Value} {base : Heap}
theorem pairB_of {u : Str} {d : PyData} (h : pairB u d = true) : ∃ x, d = .tuple [.str u, x] := by
  unfold pairB at h
  split at h
  · rename_i y x
    have e : y = u := eq_of_beq h
    exact ⟨x, by rw [e]⟩
  · cases h
theorem pairB_two {u : Str} {ds : List PyData} (h : ds.length ≠ 2) : pairB u (.tuple ds) = false := by
  match ds, h with
  | [], _ => rfl
  | [_], _ => simp [pairB]
  | [_, _], h => exact absurd rfl h
  | _ :: _ :: _ :: _, _ => simp [pairB]
theorem short_all {ds : List PyData} (h : short (.tuple ds) = true) : ds.length ≤ 1000 ∧ shortAll ds = true := by
  have h' : (decide (ds.length ≤ 1000) && shortAll ds) = true := by simpa [short] using h
  rw [Bool.and_eq_true, decide_eq_true_eq] at h'
  exact h'
theorem short_two {x y : PyData} (h : short (.tuple [x, y]) = true) : short x = true ∧ short y = true := by
  have h1 := (short_all h).2
  simpa [shortAll] using h1
theorem _root_.L2.DpAll.two {H : Hp} {xs : List V} {x y : PyData} (h : DpAll K H xs [x, y]) : ∃ u v, xs = [u, v] ∧ Dp K H u x ∧ Dp K H v y := by
  cases h with
  | cons h0 t =>
    cases t with
    | cons h1 t2 =>
      cases t2
      exact ⟨_, _, rfl, h0, h1⟩
theorem _root_.L2.DpAll.one {H : Hp} {xs : List V} {x : PyData} (h : DpAll K H xs [x]) : ∃ u, xs = [u] ∧ Dp K H u x := by
  cases h with
  | cons h0 t =>
    cases t
    exact ⟨_, rfl, h0⟩
theorem two_of {α : Type} {l : List α} (h : l.length = 2) : ∃ x y, l = [x, y] := by
  match l, h with
  | [x, y], _ => exact ⟨x, y, rfl⟩
theorem one_of {α : Type} {l : List α} (h : l.length = 1) : ∃ x, l = [x] := by
  match l, h with
  | [x], _ => exact ⟨x, rfl⟩
theorem ne_int {m : Nat} {n : Nat} (h : m ≠ n) : (!decide (V.int (m : Int) = V.int (n : Int))) = true := by
  rw [decide_eq_false (fun e => h (by have := V.int.inj e; omega))]
  rfl
theorem eq_int {m : Nat} {n : Nat} (h : m = n) : (!decide (V.int (m : Int) = V.int (n : Int))) = false := by
  rw [decide_eq_true (by rw [h])]
  rfl
theorem iteT' {c : Bool} {A B : Prop} (e : c = true) (h : A) : if c = true then A else B := by
  subst e
  exact iteT h
theorem iteF' {c : Bool} {A B : Prop} (e : c = false) (h : B) : if c = true then A else B := by
  subst e
  exact iteF h
abbrev NPIsPair : List Str := ["thing", "word"]
def spPair (K : PySem.W.Frag) : Sp := fun vs H Q _ => ∃ v d u, vs = [v, .str u] ∧ Dp K H v d ∧ short d = true ∧ ∀ H', Same H H' → Q (.bl (pairB u d)) H'
end
end K18
set_option Elab.async false
set_option linter.all false
set_option maxRecDepth 100000
set_option maxHeartbeats 4000000
namespace K18
open PySem PySem.Spec PyProof.Rows L2
open C8 (Cal Def cal0 pe_c fnBody fnScope fnArgs)
section
variable {P : Program} {w : World} {K : PySem.W.Frag} {mg : Str → Option Value} {base : Heap}
abbrev NPIsKind : List Str := ["thing"]
theorem kindB_list (x : PyData) : kindB (.tuple [.str "list", x]) = kindB x := by
  rw [kindB]
  rfl
theorem kindB_rec (x : PyData) : kindB (.tuple [.str "record", x]) = nameB x := by
  rw [kindB]
  rfl
theorem kindB_one (ds : List PyData) (h : ds.length ≠ 1) (hl : pairB "list" (.tuple ds) = false) (hr : pairB "record" (.tuple ds) = false) : kindB (.tuple ds) = false := by
  match ds, h, hl, hr with
  | [], _, _, _ => simp [kindB]
  | [_], h, _, _ => exact absurd rfl h
  | [d0, d1], _, hl, hr =>
    cases d0 with
    | str u =>
      have h1 : (u == ("list" : Str)) = false := hl
      have h2 : (u == ("record" : Str)) = false := hr
      rw [kindB, h1, h2]
      rfl
    | _ => simp [kindB]
  | _ :: _ :: _ :: _, _, _, _ => simp [kindB]
theorem kindB_not {d : PyData} (h : isT d = false) : kindB d = false := by
  cases d <;> first | (simp [isT] at h; done) | simp [kindB]
theorem depth_list (x : PyData) (u : Str) : (PyData.tuple [.str u, x]).depth = x.depth + 1 := by
  simp [PyData.depth, PyData.depthAll]
end
end K18
set_option Elab.async false
set_option linter.all false
set_option maxRecDepth 100000
set_option maxHeartbeats 4000000
namespace K18
open PySem PySem.Spec PyProof.Rows L2
open C8 (Cal Def cal0 pe_c fnBody fnScope fnArgs)
section
variable {P : Program} {w : World} {K : PySem.W.Frag} {mg : Str → Option Value} {base : Heap}
abbrev abc : Str := "abcdefghijklmnopqrstuvwxyz"
theorem abc_tl : abc.cps.toList = List.range' 97 26 := by decide +kernel
theorem mem_abc (c : Nat) : decide (c ∈ abc.cps.toList) = low c := by
  rw [abc_tl, Bool.eq_iff_iff]
  unfold low
  rw [Bool.and_eq_true, decide_eq_true_eq, decide_eq_true_eq, decide_eq_true_eq, List.mem_range'_1]
  omega
def outs (z : Str) : List PyData := (z.cps.toList.filter fun c => !low c).map fun c => PyData.str ⟨#[c]⟩
/-- the data of the list that grows: signs that are no small letters -/
def outsN (l : List Nat) : List V := (l.filter fun c => !low c).map fun c => V.str ⟨#[c]⟩
def outsD (l : List Nat) : List PyData := (l.filter fun c => !low c).map fun c => PyData.str ⟨#[c]⟩
theorem outs_dp {H : Hp} : ∀ l : List Nat, DpAll K H (outsN l) (outsD l)
  | [] => .nil
  | c :: l => by
    unfold outsN outsD
    rw [List.filter_cons]
    by_cases h : (!low c) = true
    · rw [if_pos h]
      exact .cons (.str _) (outs_dp l)
    · rw [if_neg h]
      exact outs_dp l
theorem strOk_all {z : Str} (h : (PyData.str z).canLay0 = true) : ∀ c ∈ z.cps.toList, c < 0x110000 := by
  have h0 : z.cps.all (· < 0x110000) = true := by simpa only [PyData.canLay0, PyData.strOk] using h
  intro c hc
  have := (Array.all_eq_true_iff_forall_mem.mp h0) c (Array.mem_toList_iff.mp hc)
  simpa using this
theorem outs_lay : ∀ l : List Nat, (∀ c ∈ l, c < 0x110000) → PyData.canLayAll0 (outsD l) = true
  | [], _ => by simp [outsD, PyData.canLayAll0]
  | c :: l, h => by
    have ih := outs_lay l fun d hd => h d (List.mem_cons_of_mem _ hd)
    have hc := h c List.mem_cons_self
    unfold outsD at ih ⊢
    rw [List.filter_cons]
    by_cases hl : (!low c) = true
    · rw [if_pos hl, List.map_cons]
      simp only [PyData.canLayAll0, PyData.canLay0, PyData.strOk, Bool.and_eq_true]
      exact ⟨by simpa using hc, ih⟩
    · rw [if_neg hl]
      exact ih
theorem outs_depth : ∀ l : List Nat, PyData.depthAll (outsD l) = 0
  | [] => by simp [outsD, PyData.depthAll]
  | c :: l => by
    have ih := outs_depth l
    unfold outsD at ih ⊢
    rw [List.filter_cons]
    by_cases hl : (!low c) = true
    · rw [if_pos hl, List.map_cons]
      simp only [PyData.depthAll, PyData.depth, ih]
      rfl
    · rw [if_neg hl]
      exact ih
theorem outs_shaped {z : Str} (h : (PyData.str z).canLay0 = true) : SeqAt.shaped (.list (outsD z.cps.toList)) = true := by
  show ((PyData.list _).canLay0 && decide ((PyData.list _).depth ≤ 64)) = true
  rw [Bool.and_eq_true]
  refine ⟨by simp only [PyData.canLay0]; exact outs_lay _ (strOk_all h), decide_eq_true ?_⟩
  simp only [PyData.depth, outs_depth]
  decide
theorem outs_eqv (z : Str) : PyData.eqv (.list (outsD z.cps.toList)) (.list []) = z.cps.toList.all low := by
  simp only [PyData.eqv]
  unfold outsD
  induction z.cps.toList with
  | nil => simp [PyData.eqvAll]
  | cons c l ih =>
    rw [List.filter_cons, List.all_cons]
    by_cases hl : low c = true
    · rw [if_neg (by rw [hl]; decide), hl, Bool.true_and]
      exact ih
    · rw [eq_false_of_ne_true hl, if_pos (by decide), List.map_cons]
      simp [PyData.eqvAll]
theorem nil_shaped : SeqAt.shaped (.list []) = true := by
  show ((PyData.list []).canLay0 && decide ((PyData.list []).depth ≤ 64)) = true
  simp [PyData.canLay0, PyData.canLayAll0, PyData.depth, PyData.depthAll]
abbrev NLIsName : List Str := ["_law_thing", "_law_sign"]
/-- a look at data that may be laid -/
def spLook2 (K : PySem.W.Frag) (g : PyData → Bool) (n : Nat) : Sp := fun vs H Q _ => ∃ v d, vs = [v] ∧ Dp K H v d ∧ short d = true ∧ d.canLay0 = true ∧ d.depth < n ∧ n ≤ 64 ∧ ∀ H', Same H H' → Q (.bl (g d)) H'
end
end K18
set_option Elab.async false
set_option linter.all false
set_option maxRecDepth 100000
set_option maxHeartbeats 4000000
namespace K18
open PySem PySem.Spec PyProof.Rows L2
open C8 (Cal Def cal0 pe_c fnBody fnScope fnArgs)
section
variable {P : Program} {w : World} {K : PySem.W.Frag} {mg : Str → Option Value} {base : Heap}
def strB (w : Str) : PyData → Bool
  | .str u => u == w
  | _ => false
theorem eqv_strB (d : PyData) (w : Str) : PyData.eqv d (.str w) = strB w d := by
  cases d <;> simp [PyData.eqv, strB]
theorem eqv_strB2 (d : PyData) (w : Str) : PyData.eqv (.str w) d = strB w d := by
  cases d <;> simp [PyData.eqv, strB]
  rw [Bool.eq_iff_iff]
  simp only [beq_iff_eq]
  exact ⟨fun h => h.symm, fun h => h.symm⟩
theorem eqv_tup1 (a b : PyData) : PyData.eqv (.tuple [a]) (.tuple [b]) = PyData.eqv a b := by
  rw [PyData.eqv, PyData.eqvAll, PyData.eqvAll, Bool.and_true]
theorem shaped_str {w : Str} (h : (PyData.str w).canLay0 = true) : SeqAt.shaped (.str w) = true := by
  show ((PyData.str w).canLay0 && decide ((PyData.str w).depth ≤ 64)) = true
  rw [h]
  simp [PyData.depth]
theorem shaped_of {d : PyData} (h : d.canLay0 = true) (n : d.depth ≤ 64) : SeqAt.shaped d = true := by
  show (d.canLay0 && decide (d.depth ≤ 64)) = true
  rw [h, decide_eq_true n]
  rfl
theorem lay_two {x y : PyData} (h : (PyData.tuple [x, y]).canLay0 = true) : x.canLay0 = true ∧ y.canLay0 = true := by
  simpa [PyData.canLay0, PyData.canLayAll0] using h
theorem depth_two (x y : PyData) : (PyData.tuple [x, y]).depth = max x.depth y.depth + 1 := by
  simp [PyData.depth, PyData.depthAll]
theorem kindB_one1 (d1 : PyData) : kindB (.tuple [d1]) = (strB "number" d1 || strB "truth" d1) := by
  cases d1 <;> simp [kindB, strB]
theorem kindB_two (x y : PyData) : kindB (.tuple [x, y]) = if strB "list" x then kindB y else (strB "record" x && nameB y) := by
  cases x <;> simp [kindB, strB]
theorem kindB_len (ds : List PyData) (h1 : ds.length ≠ 1) (h2 : ds.length ≠ 2) : kindB (.tuple ds) = false := by
  refine kindB_one ds h1 (pairB_two h2) (pairB_two h2)
theorem lay_lit (w : Str) (h : (PyData.str w).canLay0 = true) : (PyData.str w).canLay0 = true := h
abbrev NLIsKind : List Str := ["_law_thing"]
theorem two_lit_shaped : SeqAt.shaped (.list [.tuple [.str "number"], .tuple [.str "truth"]]) = true := by decide +kernel
end
end K18
set_option Elab.async false
set_option linter.all false
set_option maxRecDepth 100000
set_option maxHeartbeats 4000000
namespace K18
open PySem PySem.Spec PyProof.Rows L2
open C8 (Cal Def cal0 pe_c fnBody fnScope fnArgs)
/-- small data: n deep, m heavy -/
structure Ok (n m : Nat) (d : PyData) : Prop where
  lay : d.canLay0 = true
  dep : d.depth ≤ n
  wt : d.weight ≤ m
  sh : short d = true
  ish : d.intsShort 13 = true
  shw : d.showable = true
structure OkAll (n m : Nat) (ds : List PyData) : Prop where
  lay : PyData.canLayAll0 ds = true
  dep : PyData.depthAll ds ≤ n
  wt : PyData.weightAll ds ≤ m
  sh : shortAll ds = true
  ish : PyData.intsShortAll 13 ds = true
  shw : PyData.showableAll ds = true
theorem Ok.mono {n m n' m' : Nat} {d : PyData} (h : Ok n m d) (hn : n ≤ n') (hm : m ≤ m') : Ok n' m' d := ⟨h.lay, Nat.le_trans h.dep hn, Nat.le_trans h.wt hm, h.sh, h.ish, h.shw⟩
theorem OkAll.nil {n m : Nat} : OkAll n m [] := ⟨by simp [PyData.canLayAll0], by simp [PyData.depthAll], by simp [PyData.weightAll], by simp [shortAll], by simp [PyData.intsShortAll], by simp [PyData.showableAll]⟩
theorem OkAll.cons {n a b : Nat} {d : PyData} {ds : List PyData} (h : Ok n a d) (t : OkAll n b ds) : OkAll n (a + 1 + b) (d :: ds) :=
  ⟨by simp only [PyData.canLayAll0, h.lay, t.lay, Bool.and_self], by simp only [PyData.depthAll]; exact Nat.max_le.mpr ⟨h.dep, t.dep⟩, by simp only [PyData.weightAll]; have := h.wt; have := t.wt; omega,
   by simp only [shortAll, h.sh, t.sh, Bool.and_self], by simp only [PyData.intsShortAll, h.ish, t.ish, Bool.and_self], by simp only [PyData.showableAll, h.shw, t.shw, Bool.and_self]⟩
theorem Ok.tup {n m : Nat} {ds : List PyData} (h : OkAll n m ds) (hl : ds.length ≤ 1000) : Ok (n + 1) m (.tuple ds) :=
  ⟨by simp only [PyData.canLay0, h.lay], by simp only [PyData.depth]; have := h.dep; omega, by simp only [PyData.weight]; exact h.wt, by simp only [short, h.sh, decide_eq_true hl, Bool.and_self], by simp only [PyData.intsShort, h.ish], by simp only [PyData.showable, h.shw]⟩
theorem Ok.lst {n m : Nat} {ds : List PyData} (h : OkAll n m ds) (hl : ds.length ≤ 1000) : Ok (n + 1) m (.list ds) :=
  ⟨by simp only [PyData.canLay0, h.lay], by simp only [PyData.depth]; have := h.dep; omega, by simp only [PyData.weight]; exact h.wt, by simp only [short, h.sh, decide_eq_true hl, Bool.and_self], by simp only [PyData.intsShort, h.ish], by simp only [PyData.showable, h.shw]⟩
theorem OkAll.app {n a b : Nat} : ∀ {ds es : List PyData}, OkAll n a ds → OkAll n b es → OkAll n (a + b) (ds ++ es)
  | [], es, _, t => ⟨t.lay, t.dep, Nat.le_trans t.wt (Nat.le_add_left _ _), t.sh, t.ish, t.shw⟩
  | d :: ds, es, h, t => by
    have hl : d.canLay0 = true ∧ PyData.canLayAll0 ds = true := by simpa [PyData.canLayAll0] using h.lay
    have hd : max d.depth (PyData.depthAll ds) ≤ n := by simpa only [PyData.depthAll] using h.dep
    have hw : d.weight + 1 + PyData.weightAll ds ≤ a := by simpa only [PyData.weightAll] using h.wt
    have hs : short d = true ∧ shortAll ds = true := by simpa [shortAll] using h.sh
    have hi : d.intsShort 13 = true ∧ PyData.intsShortAll 13 ds = true := by simpa [PyData.intsShortAll] using h.ish
    have hv : d.showable = true ∧ PyData.showableAll ds = true := by simpa [PyData.showableAll] using h.shw
    have h1 : Ok n d.weight d := ⟨hl.1, Nat.le_trans (Nat.le_max_left _ _) hd, Nat.le_refl _, hs.1, hi.1, hv.1⟩
    have h2 : OkAll n (a - d.weight - 1) ds := ⟨hl.2, Nat.le_trans (Nat.le_max_right _ _) hd, by omega, hs.2, hi.2, hv.2⟩
    have h3 := OkAll.cons h1 (OkAll.app h2 t)
    exact ⟨h3.lay, h3.dep, Nat.le_trans h3.wt (by omega), h3.sh, h3.ish, h3.shw⟩
theorem OkAll.at {n m : Nat} : ∀ {ds : List PyData} {i : Nat} {d : PyData}, OkAll n m ds → ds[i]? = some d → Ok n m d
  | [], i, d, _, e => by simp at e
  | d :: ds, 0, d', h, e => by
    simp at e
    subst e
    have hl : d.canLay0 = true ∧ PyData.canLayAll0 ds = true := by simpa [PyData.canLayAll0] using h.lay
    have hd : max d.depth (PyData.depthAll ds) ≤ n := by simpa only [PyData.depthAll] using h.dep
    have hw : d.weight + 1 + PyData.weightAll ds ≤ m := by simpa only [PyData.weightAll] using h.wt
    have hs : short d = true ∧ shortAll ds = true := by simpa [shortAll] using h.sh
    have hi : d.intsShort 13 = true ∧ PyData.intsShortAll 13 ds = true := by simpa [PyData.intsShortAll] using h.ish
    have hv : d.showable = true ∧ PyData.showableAll ds = true := by simpa [PyData.showableAll] using h.shw
    exact ⟨hl.1, Nat.le_trans (Nat.le_max_left _ _) hd, by omega, hs.1, hi.1, hv.1⟩
  | d :: ds, i + 1, d', h, e => by
    have hl : d.canLay0 = true ∧ PyData.canLayAll0 ds = true := by simpa [PyData.canLayAll0] using h.lay
    have hd : max d.depth (PyData.depthAll ds) ≤ n := by simpa only [PyData.depthAll] using h.dep
    have hw : d.weight + 1 + PyData.weightAll ds ≤ m := by simpa only [PyData.weightAll] using h.wt
    have hs : short d = true ∧ shortAll ds = true := by simpa [shortAll] using h.sh
    have hi : d.intsShort 13 = true ∧ PyData.intsShortAll 13 ds = true := by simpa [PyData.intsShortAll] using h.ish
    have hv : d.showable = true ∧ PyData.showableAll ds = true := by simpa [PyData.showableAll] using h.shw
    have h2 : OkAll n m ds := ⟨hl.2, Nat.le_trans (Nat.le_max_right _ _) hd, by omega, hs.2, hi.2, hv.2⟩
    exact OkAll.at (i := i) h2 (by simpa using e)
theorem Ok.str {n m : Nat} {z : Str} (hl : z.length ≤ m) (hm : z.length ≤ 1000) (hc : ∀ c ∈ z.cps.toList, c < 128) : Ok n m (.str z) := by
  refine ⟨?_, by simp [PyData.depth], by simp only [PyData.weight]; exact hl, by simp [short, hm], by simp [PyData.intsShort], by simp [PyData.showable]⟩
  simp only [PyData.canLay0, PyData.strOk]
  rw [← Array.all_toList, List.all_eq_true]
  intro c h
  have := hc c h
  exact decide_eq_true (by omega)
theorem Ok.none {n m : Nat} : Ok n m .none := ⟨rfl, by simp [PyData.depth], by simp [PyData.weight], rfl, rfl, rfl⟩
theorem Ok.bool {n m : Nat} (b : Bool) : Ok n m (.bool b) := ⟨rfl, by simp [PyData.depth], by simp [PyData.weight], rfl, rfl, rfl⟩
theorem Ok.seven {n m : Nat} (h : 3 ≤ m) : Ok n m (.int 7) := ⟨rfl, by simp [PyData.depth], Nat.le_trans (by decide +kernel) h, rfl, by decide +kernel, by decide +kernel⟩
theorem Ok.shownB {n m : Nat} {d : PyData} (h : Ok n m d) (hn : n ≤ 64) (hm : m ≤ 1000000) : shownB d := by
  have hd := h.dep
  have hw := h.wt
  have hl : PyData.layable0 d = true := by
    show (PyData.canLay0 d && decide (d.depth ≤ 64) && decide (d.weight ≤ 2 ^ 20)) = true
    rw [h.lay, decide_eq_true (show d.depth ≤ 64 by omega), decide_eq_true (show d.weight ≤ 2 ^ 20 by omega)]
    rfl
  exact ⟨h.shw, shaped_of h.lay (by omega), PyData.shown_fits_of_layable0 (B := 13) (by decide) (by decide) hl h.ish⟩
def asc (z : Str) : Bool := z.cps.toList.all fun c => decide (c < 128)
theorem asc_of {z : Str} (h : asc z = true) : ∀ c ∈ z.cps.toList, c < 128 := fun c hc => of_decide_eq_true (List.all_eq_true.mp h c hc)
theorem name_len {z : Str} (h : nameS z = true) : 1 ≤ z.length ∧ z.length ≤ 8 := by
  unfold nameS at h
  simp only [Bool.and_eq_true, decide_eq_true_eq] at h
  exact h.1
theorem name_asc {z : Str} (h : nameS z = true) : ∀ c ∈ z.cps.toList, c < 128 := fun c hc => by
  unfold nameS at h
  simp only [Bool.and_eq_true] at h
  exact low128 (List.all_eq_true.mp h.2.1 c hc)
theorem up_ok {n m : Nat} {z : Str} (hl : z.length ≤ m) (hm : z.length ≤ 1000) (hc : ∀ c ∈ z.cps.toList, c < 128) : Ok n m (.str (PySem.Txt.upper z)) := by
  have e := PyProof.Rows.upper_ascii hc
  refine .str ?_ ?_ ?_
  · rw [e]; show (z.cps.map _).size ≤ m; rw [Array.size_map]; exact hl
  · rw [e]; show (z.cps.map _).size ≤ 1000; rw [Array.size_map]; exact hm
  · rw [e]
    intro c h
    have h' : c ∈ (z.cps.map PyProof.Rows.up1).toList := h
    rw [Array.toList_map, List.mem_map] at h'
    obtain ⟨d, hd, rfl⟩ := h'
    have := hc d hd
    unfold PyProof.Rows.up1
    split <;> omega
theorem cat_ok {n m : Nat} {x y : Str} (hl : x.length + y.length ≤ m) (hm : x.length + y.length ≤ 1000) (hx : ∀ c ∈ x.cps.toList, c < 128) (hy : ∀ c ∈ y.cps.toList, c < 128) : Ok n m (.str (x ++ y)) := by
  have e : (x ++ y).length = x.length + y.length := by rw [← len_tl, tl_app, List.length_append, len_tl, len_tl]
  refine .str (by omega) (by omega) fun c hc => ?_
  rw [tl_app, List.mem_append] at hc
  exact hc.elim (hx c) (hy c)
def Kd.els : Kd → List PyData
  | .num => [.str "number"]
  | .tru => [.str "truth"]
  | .rcd z => [.str "record", .str z]
  | .lst k => [.str "list", k.d]
theorem kd_d (k : Kd) : k.d = .tuple k.els := by cases k <;> simp [Kd.d, Kd.els]
theorem lit_ok {n m : Nat} {z : Str} (h : asc z = true) (hl : z.length ≤ 1000) (hm : z.length ≤ m) : Ok n m (.str z) := .str hm hl (asc_of h)
theorem els_ok : ∀ {k : Kd}, k.ok → OkAll k.deep (16 + 6 * k.deep) k.els
  | .num, _ => (OkAll.cons (n := 0) (a := 6) (b := 9) (lit_ok (by decide +kernel) (by decide) (by decide)) .nil)
  | .tru, _ => (OkAll.cons (n := 0) (a := 6) (b := 9) (lit_ok (by decide +kernel) (by decide) (by decide)) .nil)
  | .rcd z, h => (OkAll.cons (n := 0) (a := 6) (b := 9) (lit_ok (by decide +kernel) (by decide) (by decide)) (OkAll.cons (a := 8) (b := 0) (.str (name_len h).2 (by have := (name_len h).2; omega) (name_asc h)) .nil))
  | .lst k, h => by
    have ih := els_ok (k := k) h
    have hk : Ok (k.deep + 1) (16 + 6 * k.deep) k.d := by
      rw [kd_d]
      exact .tup ih (by cases k <;> simp [Kd.els])
    have c := OkAll.cons (n := k.deep + 1) (a := 4) (lit_ok (z := "list") (by decide +kernel) (by decide) (by decide)) (OkAll.cons (b := 0) hk .nil)
    have e : 4 + 1 + (16 + 6 * k.deep + 1 + 0) = 16 + 6 * (k.deep + 1) := by omega
    rw [e] at c
    exact c
theorem els_len (k : Kd) : 1 ≤ k.els.length ∧ k.els.length ≤ 2 := by cases k <;> simp [Kd.els]
theorem kd_ok {k : Kd} (h : k.ok) (hd : k.deep ≤ 8) : Ok 9 64 k.d := by
  rw [kd_d]
  have := els_len k
  exact (Ok.tup (els_ok h) (by omega)).mono (by omega) (by omega)
end K18
set_option Elab.async false
set_option linter.all false
set_option maxRecDepth 100000
set_option maxHeartbeats 4000000
namespace K18
open PySem PySem.Spec PyProof.Rows L2
open C8 (Cal Def cal0 pe_c fnBody fnScope fnArgs)
/-! ### what a term is -/
def leafW (u : Str) : Bool := inV (.str u) [.str "number", .str "truth", .str "name", .str "box", .str "empty"]
def numB : PyData → Bool
  | .int i => decide (0 ≤ i) && decide (i < 1000000000000)
  | _ => false
def leafB (u : Str) (d : PyData) : Bool := if u == "number" then numB d else if u == "truth" then isB d else if u == "empty" then kindB d else nameB d
def counts : List (Str × Int) := [("add", 2), ("less", 2), ("times", 2), ("under", 2), ("same", 2), ("both", 2), ("join", 2), ("not", 1), ("many", 1), ("pick", 3), ("at", 3)]
/-- of a tuple: its first a word, what stands behind it -/
def shapedW (u : Str) (rest : List PyData) : Bool :=
  if leafW u then decide (rest.length = 1) && (rest[0]?.map (leafB u)).getD false
  else if u == "field" then decide (rest.length = 2) && (rest[1]?.map nameB).getD false
  else if u == "list" then decide (rest.length ≤ 8)
  else match counts.lookup u with
    | some c => decide ((rest.length : Int) = c)
    | none => false
def shapedB : PyData → Bool
  | .tuple (.str u :: rest) => decide (1 ≤ rest.length) && shapedW u rest
  | _ => false
/-- the places of the terms right within -/
def selW {α : Type} (u : Str) (rest : List α) : List α := if leafW u then [] else if u == "field" then rest.take 1 else rest
def partsD : PyData → List PyData
  | .tuple (.str u :: rest) => selW u rest
  | _ => []
mutual
def termB : PyData → Bool
  | .tuple ds => shapedB (.tuple ds) && ((match ds with | .str u :: _ => selW u ((termL ds).drop 1) | _ => []).all id)
  | _ => false
def termL : List PyData → List Bool
  | [] => []
  | x :: xs => termB x :: termL xs
end
theorem termL_map : ∀ ds : List PyData, termL ds = ds.map termB
  | [] => by simp [termL]
  | x :: xs => by simp [termL, termL_map xs]
theorem selW_map {α β : Type} (f : α → β) (u : Str) (l : List α) : selW u (l.map f) = (selW u l).map f := by
  unfold selW
  split
  · rfl
  · split
    · rw [List.map_take]
    · rfl
theorem termB_eq (d : PyData) : termB d = (shapedB d && (partsD d).all termB) := by
  cases d with
  | tuple ds =>
    cases ds with
    | nil => simp [termB, shapedB]
    | cons x rest =>
      cases x with
      | str u =>
        rw [termB, termL_map]
        show (shapedB (.tuple (.str u :: rest)) && (selW u (rest.map termB)).all id) = (shapedB (.tuple (.str u :: rest)) && (selW u rest).all termB)
        rw [selW_map, List.all_map]
        rfl
      | _ => simp [termB, shapedB]
  | _ => simp [termB, shapedB]
theorem sel_len {α : Type} (u : Str) (l : List α) : (selW u l).length ≤ l.length := by
  unfold selW
  split
  · exact Nat.zero_le _
  · split
    · rw [List.length_take]; omega
    · exact Nat.le_refl _
section
variable {K : PySem.W.Frag}
theorem dpAll_take {H : Hp} : ∀ {vs : List V} {ds : List PyData} (n : Nat), DpAll K H vs ds → DpAll K H (vs.take n) (ds.take n)
  | _, _, 0, _ => by rw [List.take_zero, List.take_zero]; exact .nil
  | _, _, _ + 1, .nil => .nil
  | _, _, n + 1, .cons h t => .cons h (dpAll_take n t)
theorem sel_dp {H : Hp} {vs : List V} {ds : List PyData} (u : Str) (h : DpAll K H vs ds) : DpAll K H (selW u vs) (selW u ds) := by
  unfold selW
  split
  · exact .nil
  · split
    · exact dpAll_take 1 h
    · exact h
end
/-! ### a written dict of numbers by texts -/
def EntsAre : List DictEntry → List (Str × Int) → Prop := Paired fun e p => (∃ t, e.key = .str p.1 t) ∧ ∃ t, e.val = .int p.2 t
theorem isStr_key {e : DictEntry} {x z : Str} {t : Tok} (h : e.key = .str x t) : e.key.isStr z = (z == x) := by
  rw [h, PySem.W.isStr_of, Bool.eq_iff_iff, beq_iff_eq]
  constructor
  · intro q
    obtain ⟨t', e'⟩ := Value.isStrOf_shape q
    injection e' with e1
    exact e1.symm
  · intro q
    rw [q]
    simp [Value.isStrOf]
theorem find_cs : ∀ {es : List DictEntry} {cs : List (Str × Int)}, EntsAre es cs → ∀ z, (match cs.lookup z with | some i => ∃ e, es.find? (·.key.isStr z) = some e ∧ RelV (.int i) e.val | none => es.find? (·.key.isStr z) = none) ∧ es.any (·.refKey) = false
  | _, _, .nil, z => ⟨rfl, rfl⟩
  | _, _, .cons (a := e) (b := p) ⟨⟨t, hk⟩, t', hv⟩ r, z => by
    obtain ⟨i1, i2⟩ := find_cs r z
    obtain ⟨y, i⟩ := p
    refine ⟨?_, ?_⟩
    · rw [List.lookup_cons, List.find?_cons, isStr_key hk]
      cases h : (z == y) with
      | true => exact ⟨e, rfl, t', hv⟩
      | false => exact i1
    · rw [List.any_cons, i2, Bool.or_false]
      unfold DictEntry.refKey
      rw [hk]
theorem nsIn_cs {K : PySem.W.Frag} {a : Addr} {c : Value} {od : Option Addr} {es : Array DictEntry} {n : Nat} {sl : Array (Option Value)} {cs : List (Str × Int)} (h : K.lookup a = some ⟨c, od, .dict es n, sl⟩) (hc : EntsAre es.toList cs) (z : Str) :
    (∃ i u, cs.lookup z = some i ∧ PySem.W.nsIn K a z = some (some u) ∧ RelV (.int i) u) ∨ (cs.lookup z = none ∧ PySem.W.nsIn K a z = some none) := by
  obtain ⟨h1, h2⟩ := find_cs hc z
  unfold PySem.W.nsIn
  rw [h]
  cases hl : cs.lookup z with
  | some i =>
    rw [hl] at h1
    obtain ⟨e, h3, h4⟩ := h1
    refine .inl ⟨i, e.val, rfl, ?_, h4⟩
    dsimp only
    rw [h3]
  | none =>
    rw [hl] at h1
    refine .inr ⟨rfl, ?_⟩
    dsimp only
    rw [h1, h2]
    rfl

section
variable {P : Program} {w : World} {K : PySem.W.Frag} {mg : Str → Option Value} {base : Heap}
abbrev NPIsNumber : List Str := ["thing"]
/-- a truth of data told, all stays -/
def spSee (K : PySem.W.Frag) (g : PyData → Bool) : Sp := fun vs H Q _ => ∃ v d, vs = [v] ∧ Dp K H v d ∧ ∀ H', Same H H' → Q (.bl (g d)) H'
abbrev NPIsLeafPart : List Str := ["word", "part"]
def spLeafPart (K : PySem.W.Frag) : Sp := fun vs H Q _ => ∃ u v d, vs = [.str u, v] ∧ Dp K H v d ∧ short d = true ∧ ∀ H', Same H H' → Q (.bl (leafB u d)) H'
end
end K18
set_option Elab.async false
set_option linter.all false
set_option maxRecDepth 100000
set_option maxHeartbeats 4000000
namespace K18
open PySem PySem.Spec PyProof.Rows L2
open C8 (Cal Def cal0 pe_c fnBody fnScope fnArgs)
/-- the leaves' words, as the module has them -/
structure Lv (K : PySem.W.Frag) (mg : Str → Option Value) (aL : Addr) : Prop where
  g : ∃ u, mg "LEAVES" = some u ∧ RelV (.ref aL) u
  sq : ∀ H, SqT K H aL [.str "number", .str "truth", .str "name", .str "box", .str "empty"]
/-- the counts, as the module has them -/
structure Ct (K : PySem.W.Frag) (w : World) (mg : Str → Option Value) (aC : Addr) (es : Array DictEntry) (n : Nat) : Prop where
  g : ∃ u, mg "COUNTS" = some u ∧ RelV (.ref aC) u
  d : KDict K w aC es n
  ent : EntsAre es.toList counts
section
variable {P : Program} {w : World} {K : PySem.W.Frag} {mg : Str → Option Value} {base : Heap}
theorem dpAll_head {H : Hp} {xs : List V} {x : PyData} {rest : List PyData} (h : DpAll K H xs (x :: rest)) : ∃ v vr, xs = v :: vr ∧ Dp K H v x ∧ DpAll K H vr rest := by
  cases h with
  | cons a b => exact ⟨_, _, rfl, a, b⟩
theorem head_of {ds : List PyData} (h : 2 ≤ ds.length) : ∃ x rest, ds = x :: rest ∧ 1 ≤ rest.length := by
  cases ds with
  | nil => exact absurd h (by decide)
  | cons x rest => exact ⟨x, rest, rfl, by simp at h; omega⟩
theorem short_mem {ds : List PyData} : ∀ {i : Nat} {d : PyData}, shortAll ds = true → ds[i]? = some d → short d = true := by
  induction ds with
  | nil => intro i d _ h; simp at h
  | cons x xs ih =>
    intro i d h e
    have h' : short x = true ∧ shortAll xs = true := by simpa [shortAll] using h
    cases i with
    | zero => simp at e; rw [← e]; exact h'.1
    | succ i => exact ih h'.2 (by simpa using e)
theorem at_some {α : Type} {l : List α} {i : Nat} (h : i < l.length) : ∃ x, l[i]? = some x := ⟨_, List.getElem?_eq_getElem h⟩
abbrev NPIsShaped : List Str := ["thing", "word"]
abbrev sPPartsOf : Stmt := topS 2
abbrev NPPartsOf : List Str := ["term"]
theorem scPPartsOf : FnScope NPPartsOf ["term"] (fnScope sPPartsOf) := ⟨rfl, rfl, rfl, by decide +kernel, rfl, by decide +kernel, by decide +kernel⟩
/-- of a tuple that begins with a word: a new list of the things at the places of its terms -/
def spParts (K : PySem.W.Frag) : Sp := fun vs H Q _ => ∃ a u vr, vs = [.ref a] ∧ SqT K H a (.str u :: vr) ∧ 1 ≤ vr.length ∧ vr.length ≤ 1000 ∧ ∀ l H', H l = none → Same H H' → H' l = some (.lst (selW u vr)) → Q (.ref l) H'
theorem slice_tail {H : Hp} {a : Addr} {x : V} {vr : List V} {Q : V → Hp → Prop} (hq : SqT K H a (x :: vr)) (q : ∀ p, H p = none → Q (.ref p) (upd H p (.tup vr))) : (rSlA K) (.ref a) (some 1) none H Q := by
  have hs1 : HT.sIx (x :: vr).length 0 (some 1) = 1 := by
    rw [show HT.sIx (x :: vr).length 0 (some 1) = min 1 (x :: vr).length from HT.sIx_nat (x :: vr).length 0 1, List.length_cons]
    omega
  have ec : cutV (x :: vr) (some 1) none = vr := by
    unfold cutV
    rw [hs1, HT.sIx_none]
    exact List.take_of_length_le (by simp)
  refine ⟨a, x :: vr, rfl, hq, fun h => ?_, fun _ p hp => ?_⟩
  · rw [hs1] at h
    exact absurd h.1 (by decide)
  · rw [ec]
    exact q p hp
theorem c_partsOf (T : Tp mg) {aL : Addr} (TL : Lv K mg aL) {f : Addr} {fd : FuncData} (D : Def K mg "parts_of" sPPartsOf f fd) (b : Binds K fd ["term"] []) : Cal P w K mg base 1 "parts_of" (spParts K) [] := by
  refine cal0 D b .nil scPPartsOf (fun vs H Q E h => ?_) (fun cdv A outer s H vs Q E hr h => ?_)
  · obtain ⟨a, u, vr, rfl, _⟩ := h
    rfl
  · obtain ⟨a, u, vr, rfl, hq, h1, h2, q⟩ := h
    refine ⟨_, (pss_cons (ps_if (pt_cmpR op_in_seq (pe_ix ix_tup (pv 0) pe_int (fun _ _ => rfl)) (C8.pe_gc (by rfl) TL.g) (by rfl))
      (pss_one (ps_ret (pe_lst pa_nil)))
      pss_nil)
    (pss_cons (ps_if (pt_cmpR op_eq (pe_ix ix_tup (pv 0) pe_int (fun _ _ => rfl)) pe_str (nomark _))
      (pss_one (ps_ret (pe_lst (pa_cons (pe_ix ix_tup (pv 0) pe_int (fun _ _ => rfl)) pa_nil))))
      pss_nil)
    (pss_one (ps_ret (pe_callTy call_list_of (by rfl) T.n_list (by decide +kernel) (pa_cons (pe_slice sl_tupA (pv 0) (po_some pe_int) po_none) pa_nil)))))), ?_⟩
    unfold selW at q
    refine ⟨_, rfl, a, _, _, .str u, rfl, rfl, hq, atI_nat (j := 0) rfl, aL, _, rfl, .inr (TL.sq H), rfl, rfl, _, rfl, ?_⟩
    show if (leafW u) = true then _ else _
    refine ite2 (fun e => ?_) (fun e => ?_)
    · rw [if_pos e] at q
      exact ⟨(by show 0 ≤ sizeLine; decide), fun l hl => q l _ hl (Same.new hl) upd_same⟩
    · rw [if_neg e] at q
      refine ⟨_, rfl, a, _, _, .str u, rfl, rfl, hq, atI_nat (j := 0) rfl, rfl, _, rfl, ?_⟩
      rw [dec_str]
      refine ite2 (fun e2 => ?_) (fun e2 => ?_)
      · rw [if_pos e2] at q
        cases vr with
        | nil => exact absurd h1 (by decide)
        | cons v1 vr2 =>
          refine ⟨_, rfl, a, _, _, v1, rfl, rfl, hq, atI_nat (j := 1) rfl, (by show 1 ≤ sizeLine; decide), fun l hl => q l _ hl (Same.new hl) upd_same⟩
      · rw [if_neg e2] at q
        refine ⟨_, rfl, 1, rfl, ?_⟩
        refine slice_tail (Q := fun x H1 => ∃ p ys, [x] = [V.ref p] ∧ (SqL K H1 p ys ∨ SqT K H1 p ys) ∧ ∀ l, H1 l = none → Q (V.ref l) (upd H1 l (.lst ys))) hq fun p hp => ⟨p, vr, rfl, .inr (SqT.of upd_same), fun l hl => ?_⟩
        exact q l _ ((Same.new hp).free hl) ((Same.new hp).trans (Same.new hl)) upd_same

/-! ### is_term -/
theorem weightAll_app : ∀ (xs ys : List PyData), PyData.weightAll (xs ++ ys) = PyData.weightAll xs + PyData.weightAll ys
  | [], ys => by simp [PyData.weightAll]
  | x :: xs, ys => by
    rw [List.cons_append, PyData.weightAll, PyData.weightAll, weightAll_app xs ys]
    omega
theorem len_weightAll : ∀ xs : List PyData, xs.length ≤ PyData.weightAll xs
  | [] => Nat.zero_le _
  | x :: xs => by
    have := len_weightAll xs
    rw [PyData.weightAll, List.length_cons]
    omega
theorem weight_sel (u : Str) (l : List PyData) : PyData.weightAll (selW u l) ≤ PyData.weightAll l := by
  unfold selW
  split
  · simp [PyData.weightAll]
  · split
    · cases l with
      | nil => simp [PyData.weightAll]
      | cons x r => simp only [List.take, PyData.weightAll]; omega
    · exact Nat.le_refl _
theorem weight_parts (d : PyData) : PyData.weightAll (partsD d) ≤ d.weight := by
  cases d with
  | tuple ds =>
    cases ds with
    | nil => simp [partsD, PyData.weightAll]
    | cons x rest =>
      cases x with
      | str u =>
        have := weight_sel u rest
        show PyData.weightAll (selW u rest) ≤ (PyData.tuple (.str u :: rest)).weight
        rw [PyData.weight, PyData.weightAll]
        omega
      | _ => simp [partsD, PyData.weightAll]
  | _ => simp [partsD, PyData.weightAll]
theorem shaped_form {d : PyData} (h : shapedB d = true) : ∃ u rest, d = .tuple (.str u :: rest) ∧ 1 ≤ rest.length := by
  unfold shapedB at h
  split at h
  · rename_i u rest
    rw [Bool.and_eq_true] at h
    exact ⟨u, rest, rfl, of_decide_eq_true h.1⟩
  · cases h
theorem short_sel {u : Str} {l : List PyData} (h : shortAll l = true) : shortAll (selW u l) = true := by
  unfold selW
  split
  · rfl
  · split
    · cases l with
      | nil => rfl
      | cons x r =>
        have h' : short x = true ∧ shortAll r = true := by simpa [shortAll] using h
        simp [List.take, shortAll, h'.1]
    · exact h
theorem shortAll_app : ∀ {xs ys : List PyData}, shortAll xs = true → shortAll ys = true → shortAll (xs ++ ys) = true
  | [], _, _, h => h
  | x :: xs, _, h, h2 => by
    have h' : short x = true ∧ shortAll xs = true := by simpa [shortAll] using h
    simp only [List.cons_append, shortAll, h'.1, shortAll_app h'.2 h2, Bool.and_self]
theorem shortAll_init : ∀ {xs ys : List PyData}, shortAll (xs ++ ys) = true → shortAll xs = true
  | [], _, _ => rfl
  | x :: xs, ys, h => by
    have h' : short x = true ∧ shortAll (xs ++ ys) = true := by simpa [shortAll] using h
    simp only [shortAll, h'.1, shortAll_init h'.2, Bool.and_self]
theorem split_last {α : Type} {l : List α} (h : l ≠ []) : ∃ i x, l = i ++ [x] := ⟨l.dropLast, l.getLast h, (List.dropLast_concat_getLast h).symm⟩
theorem dpAll_split {H : Hp} {vs : List V} {xs : List PyData} {x : PyData} (h : DpAll K H vs (xs ++ [x])) : ∃ us v, vs = us ++ [v] ∧ DpAll K H us xs ∧ Dp K H v x := by
  induction xs generalizing vs with
  | nil =>
    obtain ⟨u, rfl, g⟩ := DpAll.one h
    exact ⟨[], u, rfl, .nil, g⟩
  | cons y ys ih =>
    obtain ⟨v0, vr, rfl, g, gr⟩ := dpAll_head h
    obtain ⟨us, v, rfl, g1, g2⟩ := ih gr
    exact ⟨v0 :: us, v, rfl, .cons g g1, g2⟩
abbrev NPIsTerm : List Str := ["thing", "todo", "one"]
def spTerm (K : PySem.W.Frag) : Sp := fun vs H Q _ => ∃ v d, vs = [v] ∧ Dp K H v d ∧ short d = true ∧ d.weight ≤ 1000000 ∧ ∀ H', Same H H' → Q (.bl (termB d)) H'
end
end K18
set_option Elab.async false
set_option linter.all false
set_option maxRecDepth 100000
set_option maxHeartbeats 4000000
namespace K18
open PySem PySem.Spec PyProof.Rows L2
open C8 (Cal Def cal0 pe_c fnBody fnScope fnArgs)
theorem pick_at {α : Type} {l : List α} {r : Int} (h0 : 0 ≤ r) (h1 : r < (l.length : Nat)) : ∃ x, l[r.toNat]? = some x ∧ r = (r.toNat : Int) := ⟨_, List.getElem?_eq_getElem (show r.toNat < l.length by omega), by omega⟩
theorem atI_pick {xs : List V} {v : V} {r : Int} (e : r = (r.toNat : Int)) (h : xs[r.toNat]? = some v) : atI xs r = some v := by
  rw [e]
  exact atI_nat h
theorem atI_strs {l : List Str} {r : Int} (h0 : 0 ≤ r) (h1 : r < (l.length : Nat)) : ∃ z, z ∈ l ∧ atI (l.map V.str) r = some (.str z) := by
  obtain ⟨z, hz, e⟩ := pick_at h0 h1
  exact ⟨z, List.mem_of_getElem? hz, atI_pick e (by rw [List.getElem?_map, hz]; rfl)⟩
theorem kd_ok2 {k : Kd} (h : k.ok) (hd : k.deep ≤ 2) : Ok 3 28 k.d := by
  rw [kd_d]
  have := els_len k
  exact (Ok.tup (els_ok h) (by omega)).mono (by omega) (by omega)
theorem Ok.num {n m : Nat} {i : Int} (h0 : 0 ≤ i) (h1 : i < 1000000000000) (hm : 41 ≤ m) : Ok n m (.int i) := by
  have ha : i.natAbs < 10 ^ 12 := by
    have : (10 : Nat) ^ 12 = 1000000000000 := by decide
    omega
  have hl : i.natAbs < 2 ^ 40 := by
    have : (2 : Nat) ^ 40 = 1099511627776 := by decide
    omega
  refine ⟨rfl, by simp [PyData.depth], ?_, rfl, ?_, ?_⟩
  · simp only [PyData.weight]
    split
    · exact Nat.zero_le _
    · have := PySem.Flt.log2_lt_of (by decide : 0 < 40) hl
      omega
  · simp only [PyData.intsShort, decide_eq_true_eq]
    exact PyData.shown_int_le ha
  · have := PySem.Flt.log2_lt_of (by decide : 0 < 40) hl
    simp only [PyData.showable, decide_eq_true_eq]
    omega
/-! data without lists stand beside any list -/
mutual
def noL : PyData → Bool
  | .list _ => false
  | .dict _ => false
  | .tuple xs => noLs xs
  | _ => true
def noLs : List PyData → Bool
  | [] => true
  | x :: xs => noL x && noLs xs
end
def isNm : List PyData → Bool
  | [.str u, .str _] => u == "name"
  | _ => false
/-! how many names stand in it -/
mutual
def lvD : PyData → Nat
  | .tuple ds => if isNm ds then 1 else lvL ds
  | _ => 0
def lvL : List PyData → Nat
  | [] => 0
  | x :: xs => lvD x + lvL xs
end
theorem lvL_app : ∀ xs ys : List PyData, lvL (xs ++ ys) = lvL xs + lvL ys
  | [], ys => by simp [lvL]
  | x :: xs, ys => by
    rw [List.cons_append, lvL, lvL, lvL_app xs ys]
    omega
/-- no lists in it, and at most one name more than k -/
def NV (d : PyData) (k : Int) : Prop := noL d = true ∧ (lvD d : Int) ≤ 1 + k
theorem nv_node {u : Str} {ds : List PyData} {k : Int} (h : noLs ds = true) (hl : (lvL ds : Int) ≤ k) (hk : 0 ≤ k) : NV (.tuple (.str u :: ds)) k := by
  refine ⟨by simp [noL, noLs, h], ?_⟩
  rw [lvD]
  split
  · omega
  · rw [lvL, lvD]
    · omega
    · intro ds h
      cases h
theorem rd_hid {D a : Addr} {H : Hp} {ys xs : List V} (hD : H D = some (.lst ys)) (h : Rd H a (.tup xs)) : Rd (hid D H) a (.tup xs) := by
  rcases h with h | ⟨o, h⟩
  · have n : a ≠ D := fun e => by
      rw [e, hD] at h
      cases h
    exact .inl (by rw [hid_ne n]; exact h)
  · have n : a ≠ D := fun e => by
      rw [e, hD] at h
      cases h
    exact .inr ⟨o, by rw [hid_ne n]; exact h⟩
mutual
theorem dp_hid {K : PySem.W.Frag} {D : Addr} {H : Hp} {ys : List V} (hD : H D = some (.lst ys)) : ∀ {d : PyData} {v : V}, noL d = true → Dp K H v d → Dp K (hid D H) v d
  | .none, _, _, h => by cases h; exact .non
  | .bool b, _, _, h => by cases h; exact .bl b
  | .int i, _, _, h => by cases h; exact .int i
  | .str x, _, _, h => by cases h; exact .str x
  | .list _, _, n, _ => by simp [noL] at n
  | .dict _, _, n, _ => by simp [noL] at n
  | .tuple ds, _, n, h => by
    have n' : noLs ds = true := by simpa [noL] using n
    cases h with
    | tup hq ha => exact .tup (hq.elim (fun h => .inl (rd_hid hD h)) .inr) (dpAll_hid hD n' ha)
theorem dpAll_hid {K : PySem.W.Frag} {D : Addr} {H : Hp} {ys : List V} (hD : H D = some (.lst ys)) : ∀ {ds : List PyData} {vs : List V}, noLs ds = true → DpAll K H vs ds → DpAll K (hid D H) vs ds
  | [], _, _, h => by cases h; exact .nil
  | d :: ds, _, n, h => by
    have n' : noL d = true ∧ noLs ds = true := by simpa [noLs] using n
    cases h with
    | cons a b => exact .cons (dp_hid hD n'.1 a) (dpAll_hid hD n'.2 b)
end
theorem kd_noL : ∀ k : Kd, noL k.d = true
  | .num => by simp [Kd.d, noL, noLs]
  | .tru => by simp [Kd.d, noL, noLs]
  | .rcd z => by simp [Kd.d, noL, noLs]
  | .lst k => by simp [Kd.d, noL, noLs, kd_noL k]
theorem kd_lv : ∀ k : Kd, lvD k.d = 0
  | .num => by simp [Kd.d, lvD, lvL, isNm]
  | .tru => by simp [Kd.d, lvD, lvL, isNm]
  | .rcd z => by
    have e : (("record" : Str) == ("name" : Str)) = false := by decide +kernel
    simp [Kd.d, lvD, lvL, isNm, e]
  | .lst k => by
    have e : isNm [.str "list", k.d] = false := by
      cases k <;> rfl
    simp [Kd.d, lvD, lvL, e, kd_lv k]
theorem kind_true : ∀ {k : Kd}, k.ok → kindB k.d = true
  | .num, _ => by simp [Kd.d, kindB]
  | .tru, _ => by simp [Kd.d, kindB]
  | .rcd z, h => by
    show kindB (.tuple [.str "record", .str z]) = true
    rw [kindB_rec]
    exact h
  | .lst k, h => by
    show kindB (.tuple [.str "list", k.d]) = true
    rw [kindB_list]
    exact kind_true (k := k) h
theorem termB_leaf {u : Str} {d : PyData} (h1 : leafW u = true) (h2 : leafB u d = true) : termB (.tuple [.str u, d]) = true := by
  rw [termB_eq]
  have e1 : shapedB (.tuple [.str u, d]) = true := by
    show (decide (1 ≤ [d].length) && shapedW u [d]) = true
    unfold shapedW
    rw [if_pos h1]
    show (true && (true && leafB u d)) = true
    rw [h2]
    rfl
  have e2 : partsD (.tuple [.str u, d]) = [] := by
    show selW u [d] = []
    unfold selW
    rw [if_pos h1]
  rw [e1, e2]
  rfl
theorem termB_field {z : Str} {d : PyData} (h1 : nameS z = true) (h2 : termB d = true) : termB (.tuple [.str "field", d, .str z]) = true := by
  rw [termB_eq]
  have e1 : shapedB (.tuple [.str "field", d, .str z]) = true := by
    show (true && (true && nameS z)) = true
    rw [h1]
    rfl
  have e2 : partsD (.tuple [.str "field", d, .str z]) = [d] := rfl
  rw [e1, e2]
  simp [h2]
theorem termB_node {u : Str} {ds : List PyData} (h0 : leafW u = false) (hf : (u == ("field" : Str)) = false) (h1 : 1 ≤ ds.length) (h2 : shapedW u ds = true) (h3 : ds.all termB = true) : termB (.tuple (.str u :: ds)) = true := by
  rw [termB_eq]
  have e1 : shapedB (.tuple (.str u :: ds)) = true := by
    show (decide (1 ≤ ds.length) && shapedW u ds) = true
    rw [h2, decide_eq_true h1]
    rfl
  have e2 : partsD (.tuple (.str u :: ds)) = ds := by
    show selW u ds = ds
    unfold selW
    rw [h0, hf]
    rfl
  rw [e1, e2, h3]
  rfl
section
variable {P : Program} {w : World} {K : PySem.W.Frag} {mg : Str → Option Value} {base : Heap}
abbrev sLLeaf : Stmt := topS 15
abbrev NLLeaf : List Str := ["_law_pot_here", "_law_way"]
theorem scLLeaf : FnScope NLLeaf ["_law_pot_here"] (fnScope sLLeaf) := ⟨rfl, rfl, rfl, by decide +kernel, rfl, by decide +kernel, by decide +kernel⟩
/-- a leaf drawn: the pot's third number stays -/
def spLeaf (K : PySem.W.Frag) : Sp := fun vs H Q _ => ∃ (p : Addr) (x y n : Int), vs = [.ref p] ∧ Pot H p x y n ∧ ∀ v d H', Ok 4 100 d → termB d = true → NV d 0 → Dh K p H' v d → Going p n H H' → Q v H'
theorem c_leaf (T : Tp mg) (c_LTake : Cal P w K mg base 1 "_law_take" spTake []) (c_LCalled : Cal P w K mg base 2 "_law_called" spCalled []) (c_LKind : Cal P w K mg base 5 "_law_kind" (spKind K 3) []) {f : Addr} {fd : FuncData} (D : Def K mg "_law_leaf" sLLeaf f fd) (b : Binds K fd ["_law_pot_here"] []) :
    Cal P w K mg base 6 "_law_leaf" (spLeaf K) [] := by
  refine cal0 D b .nil scLLeaf (fun vs H Q E h => ?_) (fun cdv A outer s H vs Q E hr h => ?_)
  · obtain ⟨p, x, y, n, rfl, _⟩ := h
    rfl
  · obtain ⟨p, x, y, n, rfl, hp, q⟩ := h
    have nd := scLLeaf.nd
    refine ⟨_, (pss_cons (ps_set (i := 1) nd rfl (.inl rfl) (pe_c c_LTake hr (by decide) (by rfl) (pa_cons (pv 0) (pa_cons pe_int pa_nil))))
    (pss_cons (ps_if (pt_cmpR op_eq (pv 1) pe_int (nomark _))
      (pss_one (ps_ret (pe_tup (pa_cons pe_str (pa_cons (pe_ix ix_list (pe_lst (pa_cons (pe_c c_LTake hr (by decide) (by rfl) (pa_cons (pv 0) (pa_cons pe_int pa_nil))) (pa_cons (pe_c c_LTake hr (by decide) (by rfl) (pa_cons (pv 0) (pa_cons (pe_op op_pow pe_int pe_int) pa_nil))) (pa_cons (pe_op op_sub (pe_op op_pow pe_int pe_int) pe_int) pa_nil)))) (pe_c c_LTake hr (by decide) (by rfl) (pa_cons (pv 0) (pa_cons pe_int pa_nil))) (fun _ _ => rfl)) pa_nil)))))
      pss_nil)
    (pss_cons (ps_if (pt_cmpR op_eq (pv 1) pe_int (nomark _))
      (pss_one (ps_ret (pe_tup (pa_cons pe_str (pa_cons (pe_cmpR op_eq (pe_c c_LTake hr (by decide) (by rfl) (pa_cons (pv 0) (pa_cons pe_int pa_nil))) pe_int (nomark _)) pa_nil)))))
      pss_nil)
    (pss_cons (ps_if (pt_cmpR op_eq (pv 1) pe_int (nomark _))
      (pss_one (ps_ret (pe_tup (pa_cons pe_str (pa_cons (pe_c c_LCalled hr (by decide) (by rfl) (pa_cons (pv 0) pa_nil)) pa_nil)))))
      pss_nil)
    (pss_cons (ps_if (pt_cmpR op_eq (pv 1) pe_int (nomark _))
      (pss_one (ps_ret (pe_tup (pa_cons pe_str (pa_cons (pe_c c_LKind hr (by decide) (by rfl) (pa_cons (pv 0) (pa_cons pe_int pa_nil))) pa_nil)))))
      pss_nil)
    (pss_one (ps_ret (pe_tup (pa_cons pe_str (pa_cons (pe_c c_LCalled hr (by decide) (by rfl) (pa_cons (pv 0) pa_nil)) pa_nil)))))))))), ?_⟩
    have wd : ∀ {z : Str}, asc z = true → z.length ≤ 20 → Ok 3 20 (.str z) := fun h hl => .str hl (by omega) (asc_of h)
    refine ⟨_, rfl, p, x, y, n, 6, rfl, hp, by decide, by decide, fun r x1 y1 r0 r1 hp1 => ?_⟩
    have g1 := going_pot (But.refl p H) hp1
    refine ⟨_, rfl, rfl, _, rfl, ite2 (fun _ => ?_) (fun _ => ?_)⟩
    · refine ⟨_, rfl, p, x1, y1, n, 3, rfl, hp1, by decide, by decide, fun ra x2 y2 ra0 ra1 hp2 => ?_⟩
      have g2 := g1.trans (going_pot (But.refl p _) hp2)
      refine ⟨_, rfl, _, _, rfl, rfl, (by show (0 : Int) ≤ 12 ∧ _; decide), p, x2, y2, n, _, rfl, hp2, (by decide), (by decide), fun rb x3 y3 rb0 rb1 hp3 => ?_⟩
      have g3 := g2.trans (going_pot (But.refl p _) hp3)
      refine ⟨_, _, rfl, rfl, (by show (0 : Int) ≤ 12 ∧ _; decide), _, _, rfl, rfl, (by show 3 ≤ sizeLine; decide), fun l hl => ?_⟩
      have g4 := g3.new (o := .lst [.int ra, .int rb, .int ((10 : Int) ^ (12 : Int).toNat - 1)]) hl
      obtain ⟨x4, y4, hp4⟩ := g4.2
      have nl := g3.ne hl
      refine ⟨_, rfl, p, x4, y4, n, 3, rfl, hp4, by decide, by decide, fun rc x5 y5 rc0 rc1 hp5 => ?_⟩
      have g5 := g4.trans (going_pot (But.refl p _) hp5)
      have e12 : (10 : Int) ^ (12 : Int).toNat = 1000000000000 := by decide
      rw [e12] at rb1
      obtain ⟨i, hi, hi0, hi1⟩ : ∃ i : Int, atI [V.int ra, .int rb, .int ((10 : Int) ^ (12 : Int).toNat - 1)] rc = some (.int i) ∧ 0 ≤ i ∧ i < 1000000000000 := by
        have hc : rc = 0 ∨ rc = 1 ∨ rc = 2 := by omega
        rcases hc with rfl | rfl | rfl
        · exact ⟨ra, atI_nat (j := 0) rfl, ra0, by omega⟩
        · exact ⟨rb, atI_nat (j := 1) rfl, rb0, rb1⟩
        · exact ⟨_, atI_nat (j := 2) rfl, by rw [e12]; decide, by rw [e12]; decide⟩
      refine ⟨l, _, rc, .int i, rfl, rfl, SqL.of (((But.refl p _).pot (o := .lst [.int x5, .int y5, .int n])) _ _ nl upd_same), hi, (by show 2 ≤ sizeLine; decide), fun t ht => ?_⟩
      refine q _ (.tuple [.str "number", .int i]) _ ?_ (termB_leaf (by decide +kernel) ?_) (nv_node (by simp [noL, noLs]) (by simp [lvL, lvD]) (Int.le_refl _)) (Dp.newT ht (g5.ne ht) (.cons (.str _) (.cons (.int i) .nil))) (g5.new ht)
      · exact (Ok.tup (OkAll.cons (wd (z := "number") (by decide +kernel) (by decide)) (OkAll.cons (a := 45) (b := 0) (.num hi0 hi1 (by decide)) .nil)) (by show 2 ≤ 1000; decide)).mono (by decide) (by decide)
      · show (decide (0 ≤ i) && decide (i < 1000000000000)) = true
        rw [decide_eq_true hi0, decide_eq_true hi1]
        rfl
    · refine ⟨_, rfl, rfl, _, rfl, ite2 (fun _ => ?_) (fun _ => ?_)⟩
      · refine ⟨_, rfl, p, x1, y1, n, 2, rfl, hp1, by decide, by decide, fun ra x2 y2 ra0 ra1 hp2 => ⟨rfl, (by show 2 ≤ sizeLine; decide), fun t ht => ?_⟩⟩
        have g2 := g1.trans (going_pot (But.refl p _) hp2)
        refine q _ (.tuple [.str "truth", .bool _]) _ ?_ (termB_leaf (by decide +kernel) rfl) (nv_node (by simp [noL, noLs]) (by simp [lvL, lvD]) (Int.le_refl _)) (Dp.newT ht (g2.ne ht) (.cons (.str _) (.cons (.bl _) .nil))) (g2.new ht)
        exact (Ok.tup (OkAll.cons (wd (z := "truth") (by decide +kernel) (by decide)) (OkAll.cons (a := 45) (b := 0) (.bool _) .nil)) (by show 2 ≤ 1000; decide)).mono (by decide) (by decide)
      · refine ⟨_, rfl, rfl, _, rfl, ite2 (fun _ => ?_) (fun _ => ?_)⟩
        · refine ⟨_, rfl, p, x1, y1, n, rfl, hp1, fun z H2 hz g2 => ⟨(by show 2 ≤ sizeLine; decide), fun t ht => ?_⟩⟩
          have g3 := g1.trans g2
          have zl := name_len hz
          refine q _ (.tuple [.str "box", .str z]) _ ?_ (termB_leaf (by decide +kernel) hz) (nv_node (by simp [noL, noLs]) (by simp [lvL, lvD]) (Int.le_refl _)) (Dp.newT ht (g3.ne ht) (.cons (.str _) (.cons (.str _) .nil))) (g3.new ht)
          exact (Ok.tup (OkAll.cons (wd (z := "box") (by decide +kernel) (by decide)) (OkAll.cons (a := 45) (b := 0) (.str (by omega) (by omega) (name_asc hz)) .nil)) (by show 2 ≤ 1000; decide)).mono (by decide) (by decide)
        · refine ⟨_, rfl, rfl, _, rfl, ite2 (fun _ => ?_) (fun _ => ?_)⟩
          · refine ⟨_, rfl, p, x1, y1, n, 2, rfl, by decide, hp1, fun v k H2 kok kd hD g2 => ⟨(by show 2 ≤ sizeLine; decide), fun t ht => ?_⟩⟩
            have g3 := g1.trans g2
            refine q _ (.tuple [.str "empty", k.d]) _ ?_ (termB_leaf (by decide +kernel) (kind_true kok)) (nv_node (by simp [noLs, kd_noL k]) (by simp [lvL, kd_lv k]) (Int.le_refl _)) (Dp.newT ht (g3.ne ht) (.cons (.str _) (.cons hD .nil))) (g3.new ht)
            exact (Ok.tup (OkAll.cons (wd (z := "empty") (by decide +kernel) (by decide)) (OkAll.cons (b := 0) (kd_ok2 kok kd) .nil)) (by show 2 ≤ 1000; decide)).mono (by decide) (by decide)
          · refine ⟨_, rfl, p, x1, y1, n, rfl, hp1, fun z H2 hz g2 => ⟨(by show 2 ≤ sizeLine; decide), fun t ht => ?_⟩⟩
            have g3 := g1.trans g2
            have zl := name_len hz
            refine q _ (.tuple [.str "name", .str z]) _ ?_ (termB_leaf (by decide +kernel) hz) (nv_node (by simp [noL, noLs]) (by simp [lvL, lvD]) (Int.le_refl _)) (Dp.newT ht (g3.ne ht) (.cons (.str _) (.cons (.str _) .nil))) (g3.new ht)
            exact (Ok.tup (OkAll.cons (wd (z := "name") (by decide +kernel) (by decide)) (OkAll.cons (a := 45) (b := 0) (.str (by omega) (by omega) (name_asc hz)) .nil)) (by show 2 ≤ 1000; decide)).mono (by decide) (by decide)
end
end K18
set_option Elab.async false
set_option linter.all false
set_option maxRecDepth 100000
set_option maxHeartbeats 4000000
namespace K18
open PySem PySem.Spec PyProof.Rows L2
open C8 (Cal Def cal0 pe_c fnBody fnScope fnArgs)
section
variable {P : Program} {w : World} {K : PySem.W.Frag} {mg : Str → Option Value} {base : Heap}
/-- a term drawn, deep at most m < j: how many terms were drawn within is told by the pot's third number -/
def Drawn (K : PySem.W.Frag) (p : Addr) (m : Nat) (n : Int) (H : Hp) (Q : VK) : Prop :=
  ∀ v d H' n' (W : Nat), n' ≤ n → (n ≤ n' ∨ -(8 * (m : Int)) ≤ n') → (W : Int) ≤ 100 + 100 * (n - n') → Ok (m + 4) W d → termB d = true → NV d (n - n') → Dh K p H' v d → Going p n' H H' → Q v H'
def spT (K : PySem.W.Frag) (j : Nat) : Sp := fun vs H Q _ => ∃ (p : Addr) (x y n : Int) (m : Nat), vs = [.ref p, .int m] ∧ m < j ∧ Pot H p x y n ∧ Drawn K p m n H Q
def spI (K : PySem.W.Frag) (j : Nat) : Sp := fun vs H Q _ => ∃ (p : Addr) (x y n : Int) (m : Nat), vs = [.ref p, .int ((m + 1 : Nat) : Int)] ∧ m < j ∧ Pot H p x y n ∧ Drawn K p m (n - 1) H Q
abbrev sLInner : Stmt := topS 14
abbrev NLInner : List Str := ["_law_pot_here", "_law_deep"]
theorem scLInner : FnScope NLInner ["_law_pot_here", "_law_deep"] (fnScope sLInner) := ⟨rfl, rfl, rfl, by decide +kernel, rfl, by decide +kernel, by decide +kernel⟩
theorem atI_m1 {x y z : V} : atI [x, y, z] (-1) = some z := atI_last [x, y] z
theorem c_inner {j lv : Nat} (c_LTerm : Cal P w K mg base lv "_law_term" (spT K j) []) {f : Addr} {fd : FuncData} (D : Def K mg "_law_inner" sLInner f fd) (b : Binds K fd ["_law_pot_here", "_law_deep"] []) : Cal P w K mg base (lv + 1) "_law_inner" (spI K j) [] := by
  refine cal0 D b .nil scLInner (fun vs H Q E h => ?_) (fun cdv A outer s H vs Q E hr h => ?_)
  · obtain ⟨p, x, y, n, m, rfl, _⟩ := h
    rfl
  · obtain ⟨p, x, y, n, m, rfl, hm, hp, q⟩ := h
    refine ⟨_, (pss_cons (ps_asg (pe_op op_sub (pe_ix ix_list (pv 0) (pe_un un_neg pe_int) (fun _ _ => rfl)) pe_int) (pg_sub (pv 0) (pe_un un_neg pe_int) set_list))
    (pss_one (ps_ret (pe_c c_LTerm hr (Nat.le_refl _) (by rfl) (pa_cons (pv 0) (pa_cons (pe_op op_sub (pv 1) pe_int) pa_nil)))))), ?_⟩
    refine ⟨_, rfl, 1, rfl, _, _, _, _, rfl, rfl, SqL.of hp.at_, atI_m1, _, _, rfl, rfl, ?_⟩
    refine ⟨_, rfl, 1, rfl, p, _, _, 2, rfl, rfl, hp.at_, rfl, ?_⟩
    have hp2 : Pot (upd H p (.lst [.int x, .int y, .int (n - 1)])) p x y (n - 1) := ⟨upd_same, hp.x0, hp.y0, hp.y1⟩
    refine ⟨_, rfl, _, rfl, _, _, rfl, rfl, p, x, y, n - 1, m, ?_, hm, hp2, fun v d H' n' W h1 h2 h3 h4 h5 h5' h6 h7 => ?_⟩
    · show [V.ref p, V.int (((m + 1 : Nat) : Int) - 1)] = _
      rw [show ((m + 1 : Nat) : Int) - 1 = (m : Int) by omega]
    · exact q v d H' n' W h1 h2 h3 h4 h5 h5' h6 ⟨((But.refl p H).pot).trans h7.1, h7.2⟩
theorem hid_upd {D : Addr} {H : Hp} {o : HO} : hid D (upd H D o) = hid D H := by
  funext b
  unfold hid upd
  by_cases h : b = D
  · rw [if_pos h, if_pos h]
  · rw [if_neg h, if_neg h, if_neg h]
theorem hid_same {p : Addr} {H H' : Hp} (e : Same H H') : Same (hid p H) (hid p H') := fun b o h => by
  obtain ⟨n, h⟩ := hid_some h
  rw [hid_ne n]
  exact e b o h
theorem hid_hid {p D : Addr} {H : Hp} : hid D (hid p H) = hid p (hid D H) := by
  funext b
  unfold hid
  by_cases h : b = D <;> by_cases h2 : b = p <;> simp [h, h2]
theorem hid2_but {p D : Addr} {H H' : Hp} (e : But p H H') : Same (hid p (hid D H)) (hid p (hid D H')) := fun b o h => by
  obtain ⟨n, h⟩ := hid_some h
  obtain ⟨n2, h⟩ := hid_some h
  rw [hid_ne n, hid_ne n2]
  exact e b o n h
theorem noLs_app : ∀ {xs ys : List PyData}, noLs xs = true → noLs ys = true → noLs (xs ++ ys) = true
  | [], _, _, h => h
  | x :: xs, _, h, h2 => by
    have h' : noL x = true ∧ noLs xs = true := by simpa [noLs] using h
    simp only [List.cons_append, noLs, h'.1, noLs_app h'.2 h2, Bool.and_self]
/-- several terms drawn, one behind the other, in a comprehension: what is made so far -/
structure Row (K : PySem.W.Frag) (p D : Addr) (m : Nat) (n : Int) (H : Hp) (i : Nat) (H' : Hp) (n' : Int) (vs : List V) (ds : List PyData) (W : Nat) : Prop where
  hi : n' ≤ n - i
  lo : n - i ≤ n' ∨ -(8 * (m : Int)) - i ≤ n'
  wt : (W : Int) ≤ 101 * i + 100 * (n - i - n')
  ok : OkAll (m + 4) W ds
  tm : ds.all termB = true
  nl : noLs ds = true ∧ (lvL ds : Int) ≤ n - n'
  ln : ds.length = i
  dt : DpAll K (hid p (hid D H')) vs ds
  at_ : H' D = some (.lst vs)
  go : Going p n' H H'
theorem lc_inner {j : Nat} {p : Addr} {x y n : Int} {m c : Nat} {H : Hp} {σ : L2.St} {R9 : Addr → Hp → Prop} (hm : m < j) (hc : c ≤ 8) (hp : Pot H p x y n) (s0 : (wipe σ [4])[0]? = some (some (.ref p))) (s1 : (wipe σ [4])[1]? = some (some (.int ((m + 1 : Nat) : Int)))) (hl : σ.length = 5)
    (q : ∀ D H' n' vs ds W, D ≠ p → Row K p D m n H c H' n' vs ds W → R9 D H') :
    ∀ D, H D = none → ∃ W : Nat → Nat → Hp → Prop, (∃ m, W 0 m (upd H D (.lst []))) ∧ ∀ i m H, W i m H →
      ((Itr 0 c).stop i H ∧ R9 D H) ∨ ((Itr 0 c).go i H ∧ ∃ Nx : Hp → Prop, (∀ H', Nx H' → ∃ m', m' < m ∧ W (i + 1) m' H') ∧ ∀ x H', (Itr 0 c).yld i H x H' → gName 4 x (wipe σ [4]) H' fun σ2 H2 => wipe σ2 [4] = wipe σ [4] ∧ tYes σ2 H2 fun b H3 =>
        if b = true then (tCall (spI K j) [] C8.E0 (tCons (tVar 0) (tCons (tVar 1) tNil))) σ2 H3 fun y H4 => ∃ acc, H4 D = some (.lst acc) ∧ acc.length < sizeLine ∧ Nx (upd H4 D (.lst (acc ++ [y]))) else Nx H3) := by
  intro D hD
  have nD := hp.ne hD
  refine lc_range (lo := 0) (n := c) (fun i H' => ∃ n' vs ds W, Row K p D m n H i H' n' vs ds W)
    ⟨n, [], [], 0, by omega, .inl (by omega), by omega, .nil, rfl, ⟨rfl, by show ((0 : Nat) : Int) ≤ n - n; omega⟩, rfl, .nil, upd_same, But.new hD, x, y, hp.new hD⟩ (fun i H' hi hW => ?_) (fun H' hW => ?_)
  · obtain ⟨n', vs, ds, W, R⟩ := hW
    obtain ⟨x1, y1, hp1⟩ := R.go.2
    have lenw : (wipe σ [4]).length = 5 := by rw [wipe_length, hl]
    refine ⟨?_, ?_⟩
    · show ((wipe σ [4]).set 4 (some (.int (0 + (i : Int))))).set 4 none = wipe σ [4]
      rw [List.set_set]
      show ((σ.set 4 none).set 4 none) = σ.set 4 none
      rw [List.set_set]
    · unfold tYes; dsimp only
      rw [if_pos rfl]
      refine ⟨_, (by rw [List.getElem?_set_ne (by decide)]; exact s0), _, (by rw [List.getElem?_set_ne (by decide)]; exact s1), p, x1, y1, n', m, rfl, hm, hp1, fun v d H2 n2 W2 h1 h2 h3 h4 h5 h5' h6 h7 => ?_⟩
      have hat2 : H2 D = some (.lst vs) := h7.1 _ _ nD R.at_
      have hlen := R.dt.len
      have hln := R.ln
      have line := sizeLine_eq
      refine ⟨vs, hat2, by omega, n2, vs ++ [v], ds ++ [d], W + (W2 + 1), ?_, ?_, ?_, ?_, ?_, ?_, ?_, ?_, upd_same, ?_⟩
      · have := R.hi; omega
      · have := R.hi
        have := R.lo
        rcases h2 with h2 | h2 <;> omega
      · have := R.wt
        have := R.hi
        omega
      · have := R.ok.app (OkAll.cons (b := 0) h4 .nil)
        exact this
      · rw [List.all_append, R.tm]
        simp [h5]
      · refine ⟨noLs_app R.nl.1 (by simp [noLs, h5'.1]), ?_⟩
        have e1 := R.nl.2
        have e2 := h5'.2
        rw [lvL_app, lvL, lvL]
        omega
      · rw [List.length_append, R.ln]
        rfl
      · rw [hid_upd]
        refine (DpAll.mono (hid2_but h7.1) R.dt).app (.cons ?_ .nil)
        rw [← hid_hid]
        exact dp_hid (ys := vs) (by rw [hid_ne nD]; exact hat2) h5'.1 h6
      · refine ⟨fun b o nb hb => ?_, ?_⟩
        · rw [upd_ne (ne_of_none hb hD)]
          exact h7.1 b o nb (R.go.1 b o nb hb)
        · obtain ⟨x2, y2, hp2⟩ := h7.2
          exact ⟨x2, y2, by rw [upd_ne nD.symm]; exact hp2.at_, hp2.x0, hp2.y0, hp2.y1⟩
  · obtain ⟨n', vs, ds, W, R⟩ := hW
    exact q D H' n' vs ds W nD R
end
end K18
set_option Elab.async false
set_option linter.all false
set_option maxRecDepth 100000
set_option maxHeartbeats 4000000
namespace K18
open PySem PySem.Spec PyProof.Rows L2
open C8 (Cal Def cal0 pe_c fnBody fnScope fnArgs)
theorem shapedW_cnt {u : Str} {ds : List PyData} {c : Int} (h0 : leafW u = false) (h1 : (u == ("field" : Str)) = false) (h2 : (u == ("list" : Str)) = false) (h3 : counts.lookup u = some c) (h4 : (ds.length : Int) = c) : shapedW u ds = true := by
  unfold shapedW
  rw [h0, h1, h2, h3]
  exact decide_eq_true h4
theorem shapedW_list {ds : List PyData} (h : ds.length ≤ 8) : shapedW "list" ds = true := by
  unfold shapedW
  rw [show leafW "list" = false by decide +kernel, show (("list" : Str) == ("field" : Str)) = false by decide +kernel, show (("list" : Str) == ("list" : Str)) = true by decide +kernel]
  exact decide_eq_true h
/-- a word of terms with so many terms behind it -/
structure Word (u : Str) (c : Int) : Prop where
  leaf : leafW u = false
  fld : (u == ("field" : Str)) = false
  lst : (u == ("list" : Str)) = false
  cnt : counts.lookup u = some c
  ok : asc u = true
  len : u.length ≤ 10
theorem words1 {u : Str} (h : u ∈ (["not", "many"] : List Str)) : Word u 1 := by
  simp only [List.mem_cons, List.not_mem_nil, or_false] at h
  rcases h with rfl | rfl <;> exact ⟨by decide +kernel, by decide +kernel, by decide +kernel, by decide +kernel, by decide +kernel, by decide⟩
theorem words3 {u : Str} (h : u ∈ (["pick", "at"] : List Str)) : Word u 3 := by
  simp only [List.mem_cons, List.not_mem_nil, or_false] at h
  rcases h with rfl | rfl <;> exact ⟨by decide +kernel, by decide +kernel, by decide +kernel, by decide +kernel, by decide +kernel, by decide⟩
theorem words2 {u : Str} (h : u ∈ (["add", "less", "times", "under", "same", "both", "join"] : List Str)) : Word u 2 := by
  simp only [List.mem_cons, List.not_mem_nil, or_false] at h
  rcases h with rfl | rfl | rfl | rfl | rfl | rfl | rfl <;> exact ⟨by decide +kernel, by decide +kernel, by decide +kernel, by decide +kernel, by decide +kernel, by decide⟩
theorem Word.str {u : Str} {c : Int} {n : Nat} (h : Word u c) : Ok n 10 (.str u) := .str h.len (by have := h.len; omega) (asc_of h.ok)
section
variable {P : Program} {w : World} {K : PySem.W.Frag} {mg : Str → Option Value} {base : Heap}
abbrev sLTerm : Stmt := topS 13
abbrev NLTerm : List Str := ["_law_pot_here", "_law_deep", "_law_way", "_law_word", "_law_k"]
theorem scLTerm : FnScope NLTerm ["_law_pot_here", "_law_deep"] (fnScope sLTerm) := ⟨rfl, rfl, rfl, by decide +kernel, rfl, by decide +kernel, by decide +kernel⟩
theorem Row.dat {p D : Addr} {m : Nat} {n : Int} {H H' : Hp} {i : Nat} {n' : Int} {vs : List V} {ds : List PyData} {W : Nat} (R : Row K p D m n H i H' n' vs ds W) : DhAll K p H' vs ds := DpAll.mono (hid_same hid_in) R.dt
/-- a word and the row of terms behind it make a term -/
theorem row_term {p D : Addr} {m c : Nat} {n : Int} {H H0 H' H2 : Hp} {n' : Int} {vs : List V} {ds : List PyData} {W : Nat} {u : Str} {q : Addr} {Q : VK} (hn : 0 < n) (hc : c ≤ 8) (hc1 : 1 ≤ c) (g0 : Going p n H0 H) (R : Row K p D m n H c H' n' vs ds W) (g : Going p n' H' H2) (hq : H2 q = none)
    (ok : Ok 0 10 (.str u)) (h0 : leafW u = false) (hf : (u == ("field" : Str)) = false) (hs : ds.length = c → shapedW u ds = true) (hd : Drawn K p (m + 1) n H0 Q) : Q (.ref q) (upd H2 q (.tup (.str u :: vs))) := by
  have h1 := R.hi
  have h2 := R.lo
  have h3 := R.wt
  have h4 := R.ln
  refine hd (.ref q) (.tuple (.str u :: ds)) _ n' (10 + 1 + W) (by omega) (.inr (by rcases h2 with h2 | h2 <;> omega)) (by omega) ?_ (termB_node h0 hf (by omega) (hs R.ln) R.tm) ?_ (Dp.newT hq (g.ne hq) (.cons (.str _) (R.dat.but g.1))) ((g0.trans (R.go.trans g)).new hq)
  · exact Ok.tup (OkAll.cons (ok.mono (Nat.zero_le _) (Nat.le_refl _)) R.ok) (by rw [List.length_cons]; omega)
  · exact nv_node R.nl.1 R.nl.2 (by omega)
theorem c_term (T : Tp mg) (c_LTake : Cal P w K mg base 1 "_law_take" spTake []) (c_LCalled : Cal P w K mg base 2 "_law_called" spCalled []) (c_LLeaf : Cal P w K mg base 6 "_law_leaf" (spLeaf K) [])
    {f fI : Addr} {fd fdI : FuncData} (D : Def K mg "_law_term" sLTerm f fd) (b : Binds K fd ["_law_pot_here", "_law_deep"] []) (DI : Def K mg "_law_inner" sLInner fI fdI) (bI : Binds K fdI ["_law_pot_here", "_law_deep"] []) :
    ∀ j : Nat, Cal P w K mg base (7 + 2 * j) "_law_term" (spT K j) []
  | 0 => cal_no _ (fun vs H Q E ⟨p, x, y, n, m, _, h, _⟩ => absurd h (Nat.not_lt_zero _)) D b
  | j + 1 => by
    have c_LInner := c_inner (c_term T c_LTake c_LCalled c_LLeaf D b DI bI j) DI bI
    have e9 : 7 + 2 * (j + 1) = (8 + 2 * j) + 1 := by omega
    rw [e9]
    refine cal0 D b .nil scLTerm (fun vs H Q E h => ?_) (fun cdv A outer s H vs Q E hr h => ?_)
    · obtain ⟨p, x, y, n, m, rfl, _⟩ := h
      rfl
    · obtain ⟨p, x, y, n, m, rfl, hm, hp, q⟩ := h
      have nd := scLTerm.nd
      have line := sizeLine_eq
      refine ⟨_, (C8.pss_cut (ps_set (i := 2) nd rfl (.inl rfl) (pe_op op_mul (pe_c c_LTake hr (by omega) (by rfl) (pa_cons (pv 0) (pa_cons pe_int pa_nil))) (pe_callTy call_int1 (by rfl) T.n_int (by decide +kernel) (pa_cons (pe_and (pe_cmpR op_gt (pv 1) pe_int (nomark _)) (pe_one (pe_cmpR op_gt (pe_ix ix_list (pv 0) (pe_un un_neg pe_int) (fun _ _ => rfl)) pe_int (nomark _)))) pa_nil))))
    (pss_cons (ps_if (pt_cmpR op_lt (pv 2) pe_int (nomark _))
      (pss_one (ps_ret (pe_c c_LLeaf hr (by omega) (by rfl) (pa_cons (pv 0) pa_nil))))
      pss_nil)
    (pss_cons (ps_if (pt_cmpR op_eq (pv 2) pe_int (nomark _))
      (pss_one (ps_ret (pe_tup (pa_cons pe_str (pa_cons (pe_c c_LInner hr (by omega) (by rfl) (pa_cons (pv 0) (pa_cons (pv 1) pa_nil))) (pa_cons (pe_c c_LCalled hr (by omega) (by rfl) (pa_cons (pv 0) pa_nil)) pa_nil))))))
      pss_nil)
    (pss_cons (ps_if (pt_cmpR op_eq (pv 2) pe_int (nomark _))
      (pss_one (ps_ret (pe_op op_catA (pe_tup (pa_cons pe_str pa_nil)) (pe_callTy call_tuple_of (by rfl) T.n_tuple (by decide +kernel) (pa_cons (pe_lc (own := [("_law_k", 4)]) (g := gName 4) (by rfl) nd (pi_range1 (by rfl) T.n_range (pa_cons (pe_op op_add pe_int (pe_c c_LTake hr (by omega) (by rfl) (pa_cons (pv 0) (pa_cons pe_int pa_nil)))) pa_nil)) (blkOk_by (own := [("_law_k", 4)]) (N := NLTerm) (sc := fnScope sLTerm) (by decide +kernel)) (fun _ _ _ _ _ => pg_name (i := 4) nd rfl (Or.inl rfl)) (fun _ _ _ _ _ => pts_nil) (fun _ _ _ _ _ => (pe_c c_LInner hr (by omega) (by rfl) (pa_cons (pv 0) (pa_cons (pv 1) pa_nil))))) pa_nil)))))
      pss_nil)
    (pss_cons (ps_if (pt_cmpR op_eq (pv 2) pe_int (nomark _))
      (pss_one (ps_ret (pe_op op_catA (pe_tup (pa_cons (pe_ix ix_list (pe_lst (pa_cons pe_str (pa_cons pe_str pa_nil))) (pe_c c_LTake hr (by omega) (by rfl) (pa_cons (pv 0) (pa_cons pe_int pa_nil))) (fun _ _ => rfl)) pa_nil)) (pe_callTy call_tuple_of (by rfl) T.n_tuple (by decide +kernel) (pa_cons (pe_lc (own := [("_law_k", 4)]) (g := gName 4) (by rfl) nd (pi_range1 (by rfl) T.n_range (pa_cons pe_int pa_nil)) (blkOk_by (own := [("_law_k", 4)]) (N := NLTerm) (sc := fnScope sLTerm) (by decide +kernel)) (fun _ _ _ _ _ => pg_name (i := 4) nd rfl (Or.inl rfl)) (fun _ _ _ _ _ => pts_nil) (fun _ _ _ _ _ => (pe_c c_LInner hr (by omega) (by rfl) (pa_cons (pv 0) (pa_cons (pv 1) pa_nil))))) pa_nil)))))
      pss_nil)
    (pss_cons (ps_if (pt_cmpR op_eq (pv 2) pe_int (nomark _))
      (pss_one (ps_ret (pe_tup (pa_cons (pe_ix ix_list (pe_lst (pa_cons pe_str (pa_cons pe_str pa_nil))) (pe_c c_LTake hr (by omega) (by rfl) (pa_cons (pv 0) (pa_cons pe_int pa_nil))) (fun _ _ => rfl)) (pa_cons (pe_c c_LInner hr (by omega) (by rfl) (pa_cons (pv 0) (pa_cons (pv 1) pa_nil))) pa_nil)))))
      pss_nil)
    (pss_cons (ps_set (i := 3) nd rfl (.inl rfl) (pe_ix ix_list (pe_lst (pa_cons pe_str (pa_cons pe_str (pa_cons pe_str (pa_cons pe_str (pa_cons pe_str (pa_cons pe_str (pa_cons pe_str pa_nil)))))))) (pe_c c_LTake hr (by omega) (by rfl) (pa_cons (pv 0) (pa_cons pe_int pa_nil))) (fun _ _ => rfl)))
    (pss_one (ps_ret (pe_tup (pa_cons (pv 3) (pa_cons (pe_c c_LInner hr (by omega) (by rfl) (pa_cons (pv 0) (pa_cons (pv 1) pa_nil))) (pa_cons (pe_c c_LInner hr (by omega) (by rfl) (pa_cons (pv 0) (pa_cons (pv 1) pa_nil))) pa_nil))))))))))))), ?_⟩
      refine ⟨fun σ' H' => ∃ wy : Int, σ' = [some (.ref p), some (.int m), some (.int wy), none, none] ∧ (wy < 4 ∨ (0 < m ∧ 0 < n)) ∧ Going p n H H', ?_, ?_⟩
      · refine ⟨_, rfl, p, x, y, n, 12, rfl, hp, by decide, by decide, fun r x1 y1 r0 r1 hp1 => ?_⟩
        have g1 := going_pot (But.refl p H) hp1
        refine ⟨_, rfl, _, _, rfl, rfl, _, rfl, ite2 (fun e => ?_) (fun e => ?_)⟩
        · have e' : (0 : Int) < m := of_decide_eq_true e
          refine ⟨_, rfl, 1, rfl, _, _, _, _, rfl, rfl, SqL.of hp1.at_, atI_m1, _, _, rfl, rfl, .inr ⟨_, rfl, _, _, rfl, rfl, .inl ⟨by omega, by omega⟩, ?_⟩⟩
          refine ⟨_, rfl, ?_, g1⟩
          by_cases hn : 0 < n
          · exact .inr ⟨by omega, hn⟩
          · exact .inl (by rw [decide_eq_false hn]; show r * 0 < 4; omega)
        · refine .inr ⟨_, rfl, _, _, rfl, rfl, .inl ⟨by omega, by omega⟩, ?_⟩
          exact ⟨_, rfl, .inl (by show r * 0 < 4; omega), g1⟩
      · rintro σ' H1 ⟨wy, rfl, hw, g1⟩
        obtain ⟨x1, y1, hp1⟩ := g1.2
        refine ⟨_, rfl, _, _, rfl, rfl, _, rfl, ite2 (fun e => ?_) (fun e => ?_)⟩
        · refine ⟨_, rfl, p, x1, y1, n, rfl, hp1, fun v d H2 h1 h2 h3 h4 g2 => ?_⟩
          exact q v d H2 n 100 (Int.le_refl _) (.inl (Int.le_refl _)) (by omega) (h1.mono (by omega) (Nat.le_refl _)) h2 (by rw [Int.sub_self]; exact h3) h4 (g1.trans g2)
        · have hw' : 0 < m ∧ 0 < n := by
            rcases hw with h | h
            · exact absurd (decide_eq_true h) e
            · exact h
          obtain ⟨m', rfl⟩ : ∃ m', m = m' + 1 := ⟨m - 1, by omega⟩
          have hm' : m' < j := by omega
          have hn := hw'.2
          refine ⟨_, rfl, rfl, _, rfl, ite2 (fun _ => ?_) (fun _ => ?_)⟩
          · refine ⟨_, rfl, _, rfl, p, x1, y1, n, m', rfl, hm', hp1, fun v d H2 n2 W h1 h2 h3 h4 h5 h6 h7 g2 => ?_⟩
            obtain ⟨x2, y2, hp2⟩ := g2.2
            refine ⟨_, rfl, p, x2, y2, n2, rfl, hp2, fun z H3 hz g3 => ⟨(by show 3 ≤ sizeLine; decide), fun t ht => ?_⟩⟩
            have zl := name_len hz
            have g4 := g1.trans (g2.trans g3)
            refine q _ (.tuple [.str "field", d, .str z]) _ n2 (5 + 1 + (W + 1 + (8 + 1 + 0))) (by omega) (.inr (by rcases h2 with h2 | h2 <;> omega)) (by omega) ?_ (termB_field hz h5) (nv_node (by simp [noL, noLs, h6.1]) (by have := h6.2; simp only [lvL, lvD]; omega) (by omega)) (Dp.newT ht (g4.ne ht) (.cons (.str _) (.cons (h7.but g3.1) (.cons (.str _) .nil)))) (g4.new ht)
            exact Ok.tup (OkAll.cons (lit_ok (z := "field") (by decide +kernel) (by decide) (by decide)) (OkAll.cons h4 (OkAll.cons (b := 0) (.str zl.2 (by omega) (name_asc hz)) .nil))) (by show 3 ≤ 1000; decide)
          · refine ⟨_, rfl, rfl, _, rfl, ite2 (fun _ => ?_) (fun _ => ?_)⟩
            · refine ⟨(by show 1 ≤ sizeLine; decide), fun t1 ht1 => ?_⟩
              have g2 := g1.new (o := .tup [.str "list"]) ht1
              obtain ⟨x2, y2, hp2⟩ := g2.2
              have n1 := g1.ne ht1
              refine ⟨_, rfl, p, x2, y2, n, 8, rfl, hp2, by decide, by decide, fun r x3 y3 r0 r1 hp3 => ?_⟩
              have g3 := g2.trans (going_pot (But.refl p _) hp3)
              refine ⟨_, _, rfl, rfl, 1 + r, rfl, by omega, by omega, ?_⟩
              refine lc_inner (j := j) (c := (1 + r).toNat) (σ := [some (.ref p), some (.int ((m' + 1 : Nat) : Int)), some (.int wy), none, none]) hm' (by omega) hp3 rfl rfl rfl (fun Dl H4 n4 vs ds W nD R => ?_)
              refine ⟨Dl, vs, rfl, .inl ⟨SqL.of R.at_, fun t2 ht2 => ?_⟩⟩
              have g4 := R.go.new (o := .tup vs) ht2
              have hl := R.dt.len
              have hl2 := R.ln
              have hn1 := R.go.1
              have ht1a : (upd H4 t2 (.tup vs)) t1 = some (.tup [.str "list"]) := (But.new (p := p) ht2) _ _ n1 (hn1 _ _ n1 ((But.refl p _).pot _ _ n1 upd_same))
              refine ⟨t1, t2, _, _, rfl, rfl, SqT.of ht1a, SqT.of upd_same, by show 1 + vs.length ≤ sizeLine; omega, (fun e => nomatch e), (fun _ e => ?_), fun _ _ t3 ht3 => ?_⟩
              · rw [e] at hl
                simp at hl
                omega
              · have gg : Going p n4 H4 (upd H4 t2 (.tup vs)) := ⟨But.new ht2, let ⟨a, b, h⟩ := R.go.2; ⟨a, b, h.new ht2⟩⟩
                exact row_term hn (by omega) (by omega) g3 R gg ht3 (lit_ok (by decide +kernel) (by decide) (by decide)) (by decide +kernel) (by decide +kernel) (fun h => shapedW_list (by omega)) q
            · refine ⟨_, rfl, rfl, _, rfl, ite2 (fun _ => ?_) (fun _ => ?_)⟩
              · refine ⟨(by show 2 ≤ sizeLine; decide), fun l1 hl1 => ?_⟩
                have g2 := g1.new (o := .lst [.str "pick", .str "at"]) hl1
                obtain ⟨x2, y2, hp2⟩ := g2.2
                have nl1 := g1.ne hl1
                refine ⟨_, rfl, p, x2, y2, n, 2, rfl, hp2, by decide, by decide, fun r x3 y3 r0 r1 hp3 => ?_⟩
                have g3 := g2.trans (going_pot (But.refl p _) hp3)
                obtain ⟨u, hu, hat⟩ := atI_strs (l := ["pick", "at"]) r0 r1
                have wu := words3 hu
                refine ⟨l1, _, r, .str u, rfl, rfl, SqL.of ((But.refl p _).pot _ _ nl1 upd_same), hat, (by show 1 ≤ sizeLine; decide), fun t1 ht1 => ?_⟩
                have n1 := g3.ne ht1
                have g3' := g3.new (o := .tup [.str u]) ht1
                obtain ⟨x4, y4, hp4⟩ := g3'.2
                refine ⟨3, rfl, by decide, by decide, ?_⟩
                refine lc_inner (j := j) (c := 3) (σ := [some (.ref p), some (.int ((m' + 1 : Nat) : Int)), some (.int wy), none, none]) hm' (by decide) hp4 rfl rfl rfl (fun Dl H4 n4 vs ds W nD R => ?_)
                refine ⟨Dl, vs, rfl, .inl ⟨SqL.of R.at_, fun t2 ht2 => ?_⟩⟩
                have hl := R.dt.len
                have hl2 := R.ln
                have ht1a : (upd H4 t2 (.tup vs)) t1 = some (.tup [.str u]) := (But.new (p := p) ht2) _ _ n1 (R.go.1 _ _ n1 upd_same)
                refine ⟨t1, t2, _, _, rfl, rfl, SqT.of ht1a, SqT.of upd_same, by show 1 + vs.length ≤ sizeLine; omega, (fun e => nomatch e), (fun _ e => ?_), fun _ _ t3 ht3 => ?_⟩
                · rw [e] at hl
                  simp at hl
                  omega
                · have gg : Going p n4 H4 (upd H4 t2 (.tup vs)) := ⟨But.new ht2, let ⟨a, b, h⟩ := R.go.2; ⟨a, b, h.new ht2⟩⟩
                  exact row_term hn (by decide) (by decide) g3' R gg ht3 wu.str wu.leaf wu.fld (fun h => shapedW_cnt wu.leaf wu.fld wu.lst wu.cnt (by omega)) q
              · refine ⟨_, rfl, rfl, _, rfl, ite2 (fun _ => ?_) (fun _ => ?_)⟩
                · refine ⟨(by show 2 ≤ sizeLine; decide), fun l1 hl1 => ?_⟩
                  have g2 := g1.new (o := .lst [.str "not", .str "many"]) hl1
                  obtain ⟨x2, y2, hp2⟩ := g2.2
                  have nl1 := g1.ne hl1
                  refine ⟨_, rfl, p, x2, y2, n, 2, rfl, hp2, by decide, by decide, fun r x3 y3 r0 r1 hp3 => ?_⟩
                  have g3 := g2.trans (going_pot (But.refl p _) hp3)
                  obtain ⟨u, hu, hat⟩ := atI_strs (l := ["not", "many"]) r0 r1
                  have wu := words1 hu
                  refine ⟨l1, _, r, .str u, rfl, rfl, SqL.of ((But.refl p _).pot _ _ nl1 upd_same), hat, ?_⟩
                  refine ⟨_, rfl, _, rfl, p, x3, y3, n, m', rfl, hm', hp3, fun v d H2 n2 W h1 h2 h3 h4 h5 h6 h7 g4 => ⟨(by show 2 ≤ sizeLine; decide), fun t ht => ?_⟩⟩
                  have g5 := g3.trans g4
                  refine q _ (.tuple [.str u, d]) _ n2 (10 + 1 + (W + 1 + 0)) (by omega) (.inr (by rcases h2 with h2 | h2 <;> omega)) (by omega) ?_ (termB_node wu.leaf wu.fld (by show 1 ≤ 1; decide) (shapedW_cnt wu.leaf wu.fld wu.lst wu.cnt rfl) (by simp [h5])) (nv_node (by simp [noLs, h6.1]) (by have := h6.2; rw [lvL, lvL]; omega) (by omega)) (Dp.newT ht (g5.ne ht) (.cons (.str _) (.cons h7 .nil))) (g5.new ht)
                  exact Ok.tup (OkAll.cons wu.str (OkAll.cons h4 .nil)) (by show 2 ≤ 1000; decide)
                · refine ⟨(by show 7 ≤ sizeLine; decide), fun l1 hl1 => ?_⟩
                  have g2 := g1.new (o := .lst [.str "add", .str "less", .str "times", .str "under", .str "same", .str "both", .str "join"]) hl1
                  obtain ⟨x2, y2, hp2⟩ := g2.2
                  have nl1 := g1.ne hl1
                  refine ⟨_, rfl, p, x2, y2, n, 7, rfl, hp2, by decide, by decide, fun r x3 y3 r0 r1 hp3 => ?_⟩
                  have g3 := g2.trans (going_pot (But.refl p _) hp3)
                  obtain ⟨u, hu, hat⟩ := atI_strs (l := ["add", "less", "times", "under", "same", "both", "join"]) r0 r1
                  have wu := words2 hu
                  refine ⟨l1, _, r, .str u, rfl, rfl, SqL.of ((But.refl p _).pot _ _ nl1 upd_same), hat, ?_⟩
                  refine ⟨_, rfl, _, rfl, _, rfl, p, x3, y3, n, m', rfl, hm', hp3, fun v d H2 n2 W h1 h2 h3 h4 h5 h6 h7 g4 => ?_⟩
                  obtain ⟨x4, y4, hp4⟩ := g4.2
                  refine ⟨_, rfl, _, rfl, p, x4, y4, n2, m', rfl, hm', hp4, fun v' d' H3 n3 W' k1 k2 k3 k4 k5 k6 k7 g5 => ⟨(by show 3 ≤ sizeLine; decide), fun t ht => ?_⟩⟩
                  have g6 := g3.trans (g4.trans g5)
                  refine q _ (.tuple [.str u, d, d']) _ n3 (10 + 1 + (W + 1 + (W' + 1 + 0))) (by omega) (.inr (by rcases h2 with h2 | h2 <;> rcases k2 with k2 | k2 <;> omega)) (by omega) ?_ (termB_node wu.leaf wu.fld (by show 1 ≤ 2; decide) (shapedW_cnt wu.leaf wu.fld wu.lst wu.cnt rfl) (by simp [h5, k5])) (nv_node (by simp [noLs, h6.1, k6.1]) (by have := h6.2; have := k6.2; rw [lvL, lvL, lvL]; omega) (by omega)) (Dp.newT ht (g6.ne ht) (.cons (.str _) (.cons (h7.but g5.1) (.cons k7 .nil)))) (g6.new ht)
                  exact Ok.tup (OkAll.cons wu.str (OkAll.cons h4 (OkAll.cons k4 .nil))) (by show 3 ≤ 1000; decide)
end
end K18
set_option Elab.async false
set_option linter.all false
set_option maxRecDepth 100000
set_option maxHeartbeats 4000000
/-! set(a list), step by step by a predicate J i on heaps; sets of texts, of ints; sorted of them. -/
namespace L2
open PySem PySem.Spec PyProof.Rows
abbrev freshSet (w : World) : Obj := { cls := .type "set", dict := none, data := .set #[] 0 (.fresh 0 0 (!w.params.followText "set-order")) }
/-- what a set has got from the first i things -/
structure SetStep (P : Program) (w : World) (S : Addr) (J : Nat → Heap → Prop) (Pv : Nat → Value → Prop) : Prop where
  frame : ∀ i h h', J i h → (∀ o, h.get? S = some o → h'.get? S = some o) → J i h'
  step : ∀ (A : Around) (E : Value → Shared → Prop) i v (s : Shared) (Q : Bool → Shared → Prop), Pv i v → J i s.heap → (∀ b h' tk, Heap.SameBut S s.heap h' → s.toks ≤ tk → J (i + 1) h' → Q b { s with heap := h', toks := tk }) → wpAny (model P w) A (setAdd S v) Q E s
section
variable {P : Program} {w : World} {A : Around} {E : Value → Shared → Prop} {s : Shared}
theorem set_upd {I : Addr} {fp wr : List Addr} {G : Array GenState → Array GenState → Prop} {n : Nat} {Pv : Nat → Value → Prop} {St : Nat → Shared → Prop} {R : Result → Shared → Prop}
    (W : WalksS P w A.in1 I fp wr G n Pv St) {S : Addr} (hSf : S ∉ fp) {J : Nat → Heap → Prop} (T : SetStep P w S J Pv) :
    ∀ (k i : Nat) (s : Shared), n - i = k → i ≤ n → St i s → J i s.heap → (∀ s', Moved (S :: wr) G s s' → J n s'.heap → R (.ok (.ret .none)) s') →
      codeAny (model P w) A (.builtin "set.update.loop" ⟨[.ref S, .ref I], []⟩) R s := by
  have hSw : S ∉ wr := fun h => hSf (W.sub _ h)
  have up : ∀ b ∈ wr, b ∈ S :: wr := fun b hb => List.mem_cons_of_mem _ hb
  intro k
  induction k with
  | zero =>
    intro i s hk hi hst hJ hR
    have e : i = n := Nat.le_antisymm hi (by omega)
    subst e
    refine codeAny_builtin F.entry_set_update_loop ?_
    rw [Around.under_plainId F.plain_set_update_loop _]
    show wpAny _ A.in1 (pyNext (.ref I) >>= _) _ _ s
    refine wpAny_bind (W.done s _ _ hst fun s' hm => ?_)
    show wpAny _ A.in1 (ret Value.none) _ _ s'
    exact wpAny_pure (hR s' (hm.mono up) (T.frame _ _ _ hJ fun o e => hm.heap S o hSw e))
  | succ k ih =>
    intro i s hk hi hst hJ hR
    have hlt : i < n := by omega
    refine codeAny_builtin F.entry_set_update_loop ?_
    rw [Around.under_plainId F.plain_set_update_loop _]
    show wpAny _ A.in1 (pyNext (.ref I) >>= _) _ _ s
    refine wpAny_bind (W.item i s _ _ hlt hst fun v s' hP hst' hm => ?_)
    have hJ' := T.frame _ _ _ hJ fun o e => hm.heap S o hSw e
    show wpAny _ A.in1 (holding [v] (setAdd S v) >>= _) _ _ s'
    refine wpAny_bind (wpAny_holding (T.step _ _ i v s' _ hP hJ' fun b h' tk sb ht hJ2 => ?_))
    refine wpAny_pure ⟨plainId_quiet F.plain_set_update_loop _, ih (i + 1) _ (by omega) hlt (W.frame _ s' _ _ hst' ht fun c hc o e => ?_) hJ2 fun s'' hm'' hJ'' => ?_⟩
    · rw [sb.2 c fun z => hSf (z ▸ hc)]; exact e
    · refine hR s'' (Moved.trans W.gtrans ((hm.mono up).then_heap ht fun c o hc e => ?_) hm'') hJ''
      rw [sb.2 c fun z => hc (z ▸ List.mem_cons_self)]; exact e
set_option maxHeartbeats 6400000 in
theorem call_set_list {l : Addr} {items : Array Value} {J : Nat → Heap → Prop} {Q : Value → Shared → Prop} (hh : A.handled = none) (hl : s.heap.IsList l items)
    (T : SetStep P w s.heap.objs.size J fun i v => items[i]? = some v) (J0 : ∀ h : Heap, h.get? s.heap.objs.size = some (freshSet w) → J 0 h)
    (h : ∀ (h' : Heap) (tk : Nat), J items.size h' → (∀ b o, s.heap.get? b = some o → h'.get? b = some o) → Q (.ref s.heap.objs.size) { s with heap := h', toks := tk }) :
    wpAny (model P w) A (call (.type "set") [.ref l]) Q E s := by
  obtain ⟨c, tl, hmro⟩ := F.called_set.mro
  have hmade := F.called_set.made
  have hsub := F.called_set.sub
  refine wpAny_call (codeAny_of_tree ?_)
  show wpAny _ _ (callAny (.type "set") _) _ _ _
  refine wpAny_pure ⟨Code.quiet_builtin _ (by decide +kernel), codeAny_builtin F.entry_type_call ?_⟩
  rw [Around.under_plain (weight_type_call_type "set" [.ref l] []) rfl]
  have h1 := F.called_set.notType
  have h2 := F.called_set.canCreate
  have hct := F.typeCall_set_1 (.ref l)
  repeat (any_goals (first | assumption | wp_step))
  refine codeAny_mono (code_set_led1 (.ref l) (E := E) (Q₁ := fun obj s₁ => obj = .ref s.heap.objs.size ∧ s₁ = { s with heap := s.heap.push (freshSet w) }) ⟨rfl, rfl⟩) fun r s₁ hr => ?_
  cases r with
  | error e => exact hr
  | ok fl =>
    cases fl with
    | ret obj =>
      obtain ⟨rfl, rfl⟩ := hr
      have hS : (s.heap.push (freshSet w)).get? s.heap.objs.size = some (freshSet w) := Heap.get?_push_size _ rfl
      have hT : Shared.TypeIs { s with heap := s.heap.push (freshSet w) } (.ref s.heap.objs.size) "set" := ⟨_, hS, rfl⟩
      have hli := F.called_set.init.lookup
      have hbi := F.called_set.init.bind (.ref s.heap.objs.size)
      repeat (any_goals (first | assumption | wp_step))
      refine codeAny_mono (codeAny_call_builtin (R := wants (fun r s₂ => r = .none ∧ ∃ h' tk, s₂ = { s with heap := h', toks := tk } ∧ J items.size h' ∧ (∀ b o, s.heap.get? b = some o → h'.get? b = some o)) E) F.called_set.init.plain F.entry_set_init (check_set_init_1 hT ?_)) fun r₂ s₂ hr₂ => ?_
      · obtain ⟨ol, hol, hcl, nl, hdl⟩ := hl
        obtain ⟨ocls, odict, odata, oslots⟩ := ol
        simp only at hcl hdl
        subst hcl; subst hdl
        have hol' : (s.heap.push (freshSet w)).get? l = some { cls := .type "list", dict := odict, data := .seq items nl, slots := oslots } := Heap.get?_push_of_some _ hol
        have hsls := F.sub_list_set
        have hslf := F.sub_list_frozenset
        have hne : (Value.type "list" == Value.type "dict") = false := by decide
        have hl1 : (s.heap.push (freshSet w)).IsList l items := ⟨_, hol', rfl, nl, rfl⟩
        unfold Builtin.«set.__init__» noKeywords Builtin.Frozenset.updateFrom
        generalize hPI : pyIter = PI
        wp_walk
        subst hPI
        refine wpAny_pyIter_list hl1 ?_
        refine wpAny_bind (wpAny_runValue ?_)
        have hlS : l < s.heap.objs.size := Heap.lt_size hol
        have hh3 : A.in1.in1.in1.handled = none := by simp [hh]
        have hneI : l ≠ (s.heap.push (freshSet w)).objs.size := by
          rw [Heap.size_push]; exact Nat.ne_of_lt (Nat.lt_succ_of_lt hlS)
        have hSf : s.heap.objs.size ∉ [(s.heap.push (freshSet w)).objs.size, l] := by
          rw [Heap.size_push]; simp only [List.mem_cons, List.mem_singleton, List.not_mem_nil, or_false, not_or]
          exact ⟨Nat.ne_of_lt (Nat.lt_succ_self _), Nat.ne_of_gt hlS⟩
        refine set_upd ((Walks.list hh3 _ l hneI items).toS) hSf T (items.size - 0) 0 _ (by omega) (Nat.zero_le _)
          ⟨⟨_, Heap.get?_push_size _ rfl, rfl, rfl⟩, (hl1.push _)⟩ (J0 _ (Heap.get?_push_of_some _ hS)) fun s' hm hJ => ?_
        obtain ⟨h', g2, d', tk', os'⟩ := s'
        have eg : g2 = s.gens := hm.gens
        have ed : d' = s.drawn := hm.drawn
        have eo : os' = s.os := hm.os
        subst eg; subst ed; subst eo
        show wpAny _ _ _ _ _ _
        refine wpAny_pure ?_
        show wpAny _ _ (ret Value.none) _ _ _
        refine wpAny_pure ⟨rfl, h', tk', rfl, hJ, fun b o e => ?_⟩
        have hb := Heap.lt_size e
        refine hm.heap b o (fun z => ?_) (Heap.get?_push_of_some _ (Heap.get?_push_of_some _ e))
        rcases List.mem_cons.mp z with z | z
        · exact absurd hb (by rw [z]; exact Nat.lt_irrefl _)
        · have z := List.mem_singleton.mp z
          first
            | exact absurd hb (by rw [z, Heap.size_push]; exact Nat.not_lt_of_le (Nat.le_succ _))
            | exact absurd hb (by rw [z]; exact Nat.not_lt_of_le (Nat.le_succ _))
      · cases r₂ with
        | error e => exact hr₂
        | ok fl₂ =>
          cases fl₂ with
          | ret r =>
            obtain ⟨rfl, h', tk, rfl, hJ, hk⟩ := hr₂
            repeat (any_goals (first | assumption | wp_step))
            exact h _ _ hJ hk
          | _ => exact hr₂.elim
    | _ => exact hr.elim
end
end L2
set_option Elab.async false
set_option linter.all false
set_option maxRecDepth 100000
set_option maxHeartbeats 4000000
/-! set(a list of texts), sorted of it; set(a list of ints). -/
namespace L2
open PySem PySem.Spec PyProof.Rows PySem.Froz
/-- the set at a holds just the texts l -/
def SetX (P : Program) (w : World) (h : Heap) (a : Addr) (l : List Str) : Prop :=
  ∃ D : SD, h.get? a = some (sObj "set" D) ∧ TxOk P w D l ∧ l.Nodup ∧ Ris D.2.2.place.toList ∧ (w.params.followText "set-order" = true ∨ D.2.2.led = true)
theorem tail_ris {ep : Nat} {es1 : Array (Int × Value)} {t2 : SetTable} {b : Bool} (r : Ris t2.place.toList) : Ris (tailTx ep es1 t2 b).2.2.place.toList ∧ (tailTx ep es1 t2 b).2.2.led = t2.led := by
  unfold tailTx
  split
  · exact ⟨relayAll_ris _ _ _, relayAll_led _ _ _⟩
  · exact ⟨r, rfl⟩
theorem add_ris {h : Int} {v : Value} {D : SD} (r : Ris D.2.2.place.toList) : Ris (addTx h v D).2.2.place.toList ∧ (addTx h v D).2.2.led = D.2.2.led := by
  have r1 := layNew_ris D.2.2 D.1 h v r
  have l1 := layNew_led D.2.2 D.1 h v
  unfold addTx
  have r2 : Ris (if (layNew D.2.2 D.1 h v).2.1.plain = true then { (layNew D.2.2 D.1 h v).2.1 with plain := false } else (layNew D.2.2 D.1 h v).2.1).place.toList := by split <;> exact r1
  have l2 : (if (layNew D.2.2 D.1 h v).2.1.plain = true then { (layNew D.2.2 D.1 h v).2.1 with plain := false } else (layNew D.2.2 D.1 h v).2.1).led = D.2.2.led := by split <;> exact l1
  exact ⟨(tail_ris r2).1, (tail_ris r2).2.trans l2⟩
section
variable {P : Program} {w : World} {A : Around} {E : Value → Shared → Prop} {s : Shared}
theorem SetX.fresh {h : Heap} {a : Addr} (e : h.get? a = some (freshSet w)) : SetX P w h a [] :=
  ⟨(#[], 0, .fresh 0 0 (!w.params.followText "set-order")), e, TxOk.nil rfl, List.Pairwise.nil, List.Pairwise.nil, by
    show _ ∨ (!w.params.followText "set-order") = true
    cases w.params.followText "set-order"
    · exact .inr rfl
    · exact .inl rfl⟩
theorem SetX.keep {h h' : Heap} {a : Addr} {l : List Str} (x : SetX P w h a l) (k : ∀ o, h.get? a = some o → h'.get? a = some o) : SetX P w h' a l := by
  obtain ⟨D, e, r⟩ := x
  exact ⟨D, k _ e, r⟩
/-- one text more, or the same -/
def more (l : List Str) (k : Str) : List Str := if k ∈ l then l else k :: l
theorem SetX.add {a : Addr} {l : List Str} {k : Str} {u : Tok} {Q : Bool → Shared → Prop} (x : SetX P w s.heap a l) (hb : l.length + 1 < scanBound)
    (q : ∀ b h', Heap.SameBut a s.heap h' → SetX P w h' a (more l k) → Q b { s with heap := h' }) : wpAny (model P w) A (setAddHashed a (.str k u) (hashStr w k)) Q E s := by
  obtain ⟨D, e, F, nd, r, ld⟩ := x
  by_cases hk : k ∈ l
  · obtain ⟨es, ep, t⟩ := D
    have hd : (sObj "set" (es, ep, t)).data = .set es ep t := rfl
    have hf : t.fits es.size = true := F.fit
    have hel : ElemsOf (PySem.strKind P w) es.toList := F.el
    have hsz : es.size = l.length := F.sz
    have hb0 : es.size < scanBound := by omega
    have hkey : (PySem.strKind P w).is k (.str k u) = true := PySem.Froz.is_str k u
    obtain ⟨e1, he1, p1⟩ := (F.mem k).mp hk
    unfold setAddHashed setAddHashedIn
    refine wpAny_holding (wpAny_bind (wpAny_setState_of e hd hf ?_))
    dsimp only
    rw [byScan_of rfl hb0 hel]
    simp only [↓reduceIte]
    unfold setAddByScan
    refine wpAny_bind ?_
    refine wpAny_bind (wpAny_rule ?_)
    refine wpAny_bind (wpAny_setScan_of (knd := PySem.strKind P w) (k := k) hkey e hd hf hel ?_)
    cases hfi : List.findIdx? (fun e => (PySem.strKind P w).is k e.2) es.toList with
    | none =>
      have c := List.findIdx?_eq_none_iff.mp hfi e1 he1
      rw [p1] at c
      cases c
    | some j =>
      dsimp only
      refine wpAny_pure (wpAny_pure (q _ s.heap (Heap.SameBut.refl a s.heap) ?_))
      unfold more
      rw [if_pos hk]
      exact ⟨(es, ep, t), e, F, nd, r, ld⟩
  · refine add_x e F hk hb (q _ _ (Heap.SameBut.update s.heap a _) ?_)
    unfold more
    rw [if_neg hk]
    exact ⟨_, get_upd _ e rfl, add_ok u F, List.nodup_cons.mpr ⟨hk, nd⟩, (add_ris r).1, ld.imp id fun z => (add_ris r).2.trans z⟩
/-- what a set of these texts holds -/
def dd (xs : List Str) : List Str := xs.foldl more []
theorem dd_len : ∀ (xs l : List Str), (xs.foldl more l).length ≤ l.length + xs.length
  | [], l => Nat.le_refl _
  | x :: xs, l => by
    have h := dd_len xs (more l x)
    have h2 : (more l x).length ≤ l.length + 1 := by unfold more; split <;> simp
    simp only [List.foldl_cons, List.length_cons]
    omega
theorem dd_nodup : ∀ (xs l : List Str), l.Nodup → (xs.foldl more l).Nodup
  | [], l, h => h
  | x :: xs, l, h => dd_nodup xs _ (by
    unfold more
    split
    · exact h
    · rename_i c
      exact List.nodup_cons.mpr ⟨c, h⟩)
theorem dd_mem : ∀ (xs l : List Str) (k : Str), k ∈ xs.foldl more l ↔ k ∈ l ∨ k ∈ xs
  | [], l, k => by simp
  | x :: xs, l, k => by
    rw [List.foldl_cons, dd_mem xs]
    unfold more
    split
    · rename_i c
      exact ⟨fun z => z.elim .inl (fun y => .inr (List.mem_cons_of_mem _ y)), fun z => z.elim .inl fun y => (List.mem_cons.mp y).elim (fun y => .inl (y ▸ c)) .inr⟩
    · constructor
      · rintro (z | z)
        · exact (List.mem_cons.mp z).elim (fun y => .inr (y ▸ List.mem_cons_self)) .inl
        · exact .inr (List.mem_cons_of_mem _ z)
      · rintro (z | z)
        · exact .inl (List.mem_cons_of_mem _ z)
        · exact (List.mem_cons.mp z).elim (fun y => .inl (y ▸ List.mem_cons_self)) .inr
theorem take_more {xs : List Str} {i : Nat} {k : Str} (h : xs[i]? = some k) : more ((xs.take i).foldl more []) k = (xs.take (i + 1)).foldl more [] := by
  rw [List.take_succ, h, List.foldl_append] <;> rfl
theorem setX_steps (S : Addr) (xs : List Str) (hb : xs.length + 1 < scanBound) {items : Array Value} (hi : StrsAre items.toList xs) :
    SetStep P w S (fun i h => SetX P w h S ((xs.take i).foldl more [])) fun i v => items[i]? = some v where
  frame := fun i h h' x k => x.keep k
  step := fun A E i v s Q hv x q => by
    have hv' : items.toList[i]? = some v := by rw [Array.getElem?_toList]; exact hv
    have key : ∀ {vs : List Value} {ys : List Str}, StrsAre vs ys → ∀ {i : Nat} {v : Value}, vs[i]? = some v → ∃ k u, v = .str k u ∧ ys[i]? = some k := by
      intro vs ys h
      induction h with
      | nil => intro i v e; simp at e
      | cons x t h ih =>
        intro i v e
        cases i with
        | zero => exact ⟨x, t, by simpa using e.symm, rfl⟩
        | succ i => exact ih (by simpa using e)
    obtain ⟨k, u, rfl, hk⟩ := key hi hv'
    have hln : ((xs.take i).foldl more []).length ≤ xs.length := by
      have h1 := dd_len (xs.take i) []
      have h2 : (xs.take i).length ≤ xs.length := by rw [List.length_take]; omega
      simp only [List.length_nil] at h1
      omega
    unfold setAdd
    refine wpAny_holding ?_
    refine wpAny_bind ((PySem.strKind P w).pyHash (k := k) (PySem.Froz.is_str k u) ?_)
    refine SetX.add (s := { s with toks := s.toks + 1 }) (l := (xs.take i).foldl more []) x (by omega) fun b h' sb x' => ?_
    exact q b h' _ sb (Nat.le_succ _) (by rw [← take_more hk]; exact x')
theorem perm_of : ∀ (l ss : List Str), l.Nodup → (∀ x ∈ l, x ∈ ss) → ss.length ≤ l.length → ss.Perm l
  | [], ss, _, _, h => by
    cases ss with
    | nil => exact List.Perm.nil
    | cons a b => simp at h
  | x :: l, ss, nd, h, hl => by
    obtain ⟨a, b, rfl⟩ := List.append_of_mem (h x List.mem_cons_self)
    obtain ⟨n1, n2⟩ := List.nodup_cons.mp nd
    have ih := perm_of l (a ++ b) n2 (fun y hy => by
      have z := h y (List.mem_cons_of_mem _ hy)
      rcases List.mem_append.mp z with z | z
      · exact List.mem_append_left _ z
      · rcases List.mem_cons.mp z with z | z
        · exact absurd (z ▸ hy) n1
        · exact List.mem_append_right _ z) (by
      simp only [List.length_append, List.length_cons] at hl ⊢
      omega)
    exact List.perm_middle.trans (ih.cons x)
theorem StrsAre.mem_ {vs : List Value} {ss : List Str} (h : StrsAre vs ss) : ∀ {x : Str} {u : Tok}, Value.str x u ∈ vs → x ∈ ss := by
  induction h with
  | nil => intro x u e; cases e
  | cons y t h ih =>
    intro x u e
    rcases List.mem_cons.mp e with z | z
    · cases z; exact List.mem_cons_self
    · exact List.mem_cons_of_mem _ (ih z)
theorem sorted_setX {a : Addr} {l : List Str} {Q : Value → Shared → Prop} (x : SetX P w s.heap a l) (hh : A.handled = none) (h64 : l.length < 64)
    (hQ : ∀ s' p (out : Array Value) (c : Nat) (ys : List Str), (∀ b o, s.heap.get? b = some o → s'.heap.get? b = some o) → s'.gens = s.gens → s'.os = s.os → s.heap.objs.size ≤ p →
      s'.heap.get? p = some (seqObj "list" out c) → StrsAre out.toList ys → ys.Perm l → sortedS ys = true → Q (.ref p) s') :
    wpAny (model P w) A (call (.builtin "sorted") [.ref a]) Q E s := by
  obtain ⟨⟨es, ep, t⟩, e, F, nd, r, ld⟩ := x
  have hsz : es.size = l.length := F.sz
  refine Calls.call_function_entry kind_sorted plain_sorted entry_sorted (args_sorted1 _) ?_
  unfold Builtin.«sorted»
  refine wpAny_bind (m := checkCount "sorted" 1 1 _) (wpAny_pure ?_)
  refine wpAny_bind (collect_set (A := A.in1) (es := es) (ep := ep) (t := t) hh ⟨_, e, rfl, rfl⟩ F.fit (by rw [hsz]; unfold scanBound; omega) r ld fun s1 vs k1 hz g1 o1 pm => ?_)
  have hvl : vs.length = l.length := by rw [pm.length_eq, List.length_map, Array.length_toList]; exact hsz
  have el := F.el
  have hS : StrsAre vs (vs.map strOf) := strsAre_map vs fun v hv => by
    obtain ⟨q, hq, e'⟩ := List.mem_map.mp (pm.mem_iff.mp hv)
    obtain ⟨⟨k, hk, _⟩, _⟩ := el q hq
    subst e'
    generalize q.2 = y at hk
    cases y with
    | str z u => exact ⟨z, u, rfl⟩
    | _ => exact nomatch hk
  have pl : (vs.map strOf).Perm l := by
    refine perm_of l _ nd (fun x hx => ?_) (by rw [List.length_map, hvl]; exact Nat.le_refl _)
    obtain ⟨q, hq, hk⟩ := (F.mem x).mp hx
    have hm : q.2 ∈ vs := pm.mem_iff.mpr (List.mem_map.mpr ⟨q, hq, rfl⟩)
    obtain ⟨⟨k, hk', _⟩, _⟩ := el q hq
    generalize q.2 = y at hk hm
    cases y with
    | str z u =>
      have z2 : x = z := (PySem.strKind P w).inj (.str z u) x z hk (PySem.Froz.is_str z u)
      rw [z2]
      exact StrsAre.mem_ hS hm
    | _ => exact nomatch hk
  refine wpAny_bind (wpAny_newList ?_ (by rw [hvl, sizeLine_eq]; omega))
  have hoL : (s1.heap.push (seqObj "list" vs.toArray 0)).get? s1.heap.objs.size = some (seqObj "list" vs.toArray 0) := Heap.get?_push_size _ rfl
  refine wpAny_bind (wpAny_holding (wpAny_call_entry slot_list_sort ⟨_, hoL, rfl⟩ entry_list_sort (list_sort_treeK strKind_oneLt hoL hS.keysOf (fun v₁ v₂ rest e => keyKind_strs (by rw [← e]; exact hS)) (by rw [hvl]; exact h64) fun st' hp hs => ⟨_, rfl, ?_⟩) (args_list_sort _)))
  obtain ⟨ss', a1, a2, a3⟩ := sorted_out_str hS hp hs
  obtain ⟨c, hc⟩ := sortedHeap_at (vs := vs) (out := (arrOf st').map (·.2)) hoL
  refine wpAny_pure ⟨_, rfl, hQ _ s1.heap.objs.size _ c ss' (fun b u eb => ?_) g1 o1 hz hc a1 (a2.trans pl) a3⟩
  have q := k1 b u eb
  have hlt := Heap.lt_size q
  show (sortedHeap (s1.heap.push (seqObj "list" vs.toArray 0)) s1.heap.objs.size vs _).get? b = some u
  rw [sortedHeap_old (Nat.ne_of_lt hlt) (by rw [size_push']; exact Nat.lt_succ_of_lt hlt)]
  exact Heap.get?_push_of_some _ q
/-! ### ints -/
theorem setI_steps (S : Addr) (ns : List Int) (hb : ns.length + 1 < scanBound) {items : Array Value} (hi : IntsAre items.toList ns) :
    SetStep P w S (fun i h => ∃ n, n ≤ i ∧ SetR w h S (fun j => decide (j ∈ ns.take i)) n) fun i v => items[i]? = some v where
  frame := fun i h h' ⟨n, hn, x⟩ k => ⟨n, hn, SetR.at x k⟩
  step := fun A E i v s Q hv ⟨n, hn, x⟩ q => by
    have hv' : items.toList[i]? = some v := by rw [Array.getElem?_toList]; exact hv
    have key : ∀ {vs : List Value} {ys : List Int}, IntsAre vs ys → ∀ {i : Nat} {v : Value}, vs[i]? = some v → ∃ k u, v = .int k u ∧ ys[i]? = some k := by
      intro vs ys h
      induction h with
      | nil => intro i v e; simp at e
      | cons x t h ih =>
        intro i v e
        cases i with
        | zero => exact ⟨x, t, by simpa using e.symm, rfl⟩
        | succ i => exact ih (by simpa using e)
    obtain ⟨k, u, rfl, hk⟩ := key hi hv'
    have hil : i < ns.length := by
      obtain ⟨z, _⟩ := List.getElem?_eq_some_iff.mp hk
      exact z
    unfold setAdd
    refine wpAny_holding ?_
    refine wpAny_bind ((intKind P w).pyHash (intKind_is P w k u) ?_)
    refine setR_add_hashed (P := P) (s := { s with toks := s.toks + 1 }) x (by omega) fun h' sb x' => ?_
    refine q _ h' _ sb (Nat.le_succ _) ⟨_, ?_, x'.congr fun j => ?_⟩
    · split <;> omega
    · rw [List.take_succ, hk]
      show decide (j ∈ ns.take i ++ [k]) = (decide (j ∈ ns.take i) || decide (j = k))
      rw [Bool.eq_iff_iff]
      simp [List.mem_append]
end
/-! ### the words -/
def SetXO (P : Program) (w : World) (a : Addr) (l : List Str) : HO := .ext fun h => SetX P w h a l
theorem setXO_new {P : Program} {w : World} {H : Hp} {h : Heap} {a : Addr} {l : List Str} (R : SetX P w h a l) : ObjOk P w H h a (SetXO P w a l) := by
  have ⟨D, e, _⟩ := R
  exact ⟨R, ⟨_, e⟩, fun h1 h2 p k => SetX.keep p k⟩
section
variable {X : Cx}
def rSetS (K : PySem.W.Frag) (P : Program) (w : World) : List V → Hp → VK → Prop := fun xs H Q => ∃ (l : Addr) (zs : List Str), xs = [V.ref l] ∧ SqL K H l (zs.map V.str) ∧ zs.length < 1000 ∧
  ∀ a, H a = none → Q (.ref a) (upd H a (SetXO P w a (dd zs)))
theorem cr_setS (hc : X.calm = true) : CallR X (.type "set") (rSetS X.K X.prog X.w) := by
  intro pins s σ H xs us Q I r h
  obtain ⟨l, zs, rfl, hl, hf, q⟩ := h
  rw [Vals.ref1 r]
  obtain ⟨its, rv, pl, hz⟩ := I.list hl
  have hi : StrsAre its zs := rv.strs
  have hn : H s.heap.objs.size = none := I.hok.fresh (Nat.le_refl _)
  refine call_set_list (P := X.prog) (w := X.w) (I.ok.hd hc) pl.isList (setX_steps _ zs (by unfold scanBound; omega) (by simpa using hi)) (fun h e => SetX.fresh e) fun h' tk x k => ?_
  have e : zs.take its.toArray.size = zs := by
    rw [List.size_toArray, PyProof.Rows.StrsAre.length hi, List.take_length]
  simp only [e] at x
  exact ⟨.ref s.heap.objs.size, _, I.laid (t' := tk) k (Nat.le_refl _) (setXO_new x), rfl, q _ hn⟩
def rSetI (K : PySem.W.Frag) (w : World) : List V → Hp → VK → Prop := fun xs H Q => ∃ (l : Addr) (ns : List Int), xs = [V.ref l] ∧ SqL K H l (ns.map V.int) ∧ ns.length < 64 ∧
  ∀ a n, H a = none → n ≤ ns.length → Q (.ref a) (upd H a (SetO w a (fun j => decide (j ∈ ns)) n))
theorem cr_setI (hc : X.calm = true) : CallR X (.type "set") (rSetI X.K X.w) := by
  intro pins s σ H xs us Q I r h
  obtain ⟨l, ns, rfl, hl, hf, q⟩ := h
  rw [Vals.ref1 r]
  obtain ⟨its, rv, pl, hz⟩ := I.list hl
  have hi : IntsAre its ns := rv.ints
  have hn : H s.heap.objs.size = none := I.hok.fresh (Nat.le_refl _)
  refine call_set_list (P := X.prog) (w := X.w) (I.ok.hd hc) pl.isList (setI_steps _ ns (by unfold scanBound; omega) (by simpa using hi)) (fun h e => ⟨0, Nat.le_refl _, ?_⟩) fun h' tk x k => ?_
  · refine ⟨_, #[], 0, _, e, ⟨rfl, rfl, rfl⟩, rfl, (fun e he => by simp at he), (by simp), (fun k => by simp), (by decide), (by rfl), rfl, List.Pairwise.nil, ?_⟩
    show _ ∨ (!X.w.params.followText "set-order") = true
    cases X.w.params.followText "set-order"
    · exact .inr rfl
    · exact .inl rfl
  · have e : ns.take its.toArray.size = ns := by
      rw [List.size_toArray, hi.length, List.take_length]
    obtain ⟨n, h1, h2⟩ := x
    simp only [e] at h2
    have h1' : n ≤ ns.length := by rw [← hi.length]; simpa using h1
    exact ⟨.ref s.heap.objs.size, _, I.laid (t' := tk) k (Nat.le_refl _) (setO_new h2), rfl, q _ n hn h1'⟩
def rSortedX (P : Program) (w : World) : List V → Hp → VK → Prop := fun vs H Q => ∃ (a : Addr) (l : List Str), vs = [V.ref a] ∧ H a = some (SetXO P w a l) ∧ l.length < 64 ∧
  ∀ (ys : List Str) (p : Addr), ys.Perm l → sortedS ys = true → H p = none → Q (.ref p) (upd H p (.lst (ys.map V.str)))
theorem cr_sortedX (hc : X.calm = true) : CallR X (.builtin "sorted") (rSortedX X.prog X.w) := by
  intro pins s σ H vs us Q I r h
  obtain ⟨a, l, rfl, ha, h64, q⟩ := h
  have x : SetX X.prog X.w s.heap a l := (I.hok a _ ha).1
  rw [Vals.ref1 r]
  refine sorted_setX x (I.ok.hd hc) h64 fun s' p out c ys k g o hp hg hout pm so => ?_
  have hlen : (ys.map V.str).length ≤ sizeLine := by rw [List.length_map, pm.length_eq, sizeLine_eq]; omega
  have hn : H p = none := I.hok.fresh hp
  have J : Inv X pins σ (upd H p (.lst (ys.map V.str))) { s with heap := s'.heap, gens := s'.gens, drawn := s'.drawn, toks := s'.toks } :=
    I.call (ch := []) (Un.laid k hp hn) (I.hok.laid k hp ⟨hlen, out.toList, c, vals_of_strs hout, hg⟩) (by rw [g]; exact I.bare) (fun _ z => nomatch z)
  have e : s' = { s with heap := s'.heap, gens := s'.gens, drawn := s'.drawn, toks := s'.toks } := by
    cases s'
    cases s
    cases o
    rfl
  rw [e]
  exact ⟨.ref p, _, J, rfl, q ys p pm so hn⟩
end
end L2
set_option Elab.async false
set_option linter.all false
set_option maxRecDepth 100000
set_option maxHeartbeats 4000000
/-! == of a dict and an empty one; != of dicts whose values are data alike; texts in order. -/
namespace L2
open PySem PySem.Spec PyProof.Rows
section
variable {X : Cx}
def rEqE : R2 := fun x y H Q => ∃ a b ks, x = .ref a ∧ y = .ref b ∧ H a = some (.dK ks) ∧ H b = some (.dK []) ∧ ∀ c, Q (.bl c) H
theorem op_eqE (hu : X.A.units < cLine) : OpR X (compareOp .Eq) rEqE := by
  intro pins s σ H x y v u Q I rx ry h
  obtain ⟨a, b, ks, rfl, rfl, ea, eb, q⟩ := h
  cases (show v = Value.ref a from rx)
  cases (show u = Value.ref b from ry)
  obtain ⟨_, ya, va, ra, da⟩ := (show ObjOk X.prog X.w H s.heap a (.dK ks) from I.hok a _ ea)
  obtain ⟨_, yb, vb, rb, db⟩ := (show ObjOk X.prog X.w H s.heap b (.dK []) from I.hok b _ eb)
  cases rb
  refine PySem.W.rcP_dicts (knd := mixKind X.prog X.w) (r := true) ya yb da db hu (fun e => ?_) _ _ ⟨.bl _, H, I, rfl, q _⟩
  cases va with
  | nil => exact .nil
  | cons p r => cases e
/-- two dicts of the same keys, their values data alike -/
def rNeV (K : PySem.W.Frag) : R2 := fun x y H Q => ∃ a b ks ls, x = .ref a ∧ y = .ref b ∧ H a = some (.dK ks) ∧ H b = some (.dK ls) ∧ ks.length = ls.length ∧
  (∀ p ∈ ks, ∃ u d, valV ls p.1 = some u ∧ Dp K H p.2 d ∧ Dp K H u d ∧ d.canLay0 = true ∧ d.depth ≤ 60) ∧ Q (.bl false) H
theorem hitsD {pins : List (Addr × Obj)} {σ : St} {H : Hp} {s : Shared} (I : Inv X pins σ H s) {A : Around} (hu : A.units + 61 < cLine) {kvs : List (Key × V)} {vb : List (Key × Value)} (rb : KV kvs vb) {ks : List (Key × V)} {va : List (Key × Value)} (ra : KV ks va) :
    (∀ p ∈ ks, ∃ u d, valV kvs p.1 = some u ∧ Dp X.K H p.2 d ∧ Dp X.K H u d ∧ d.canLay0 = true ∧ d.depth ≤ 60) → PySem.W.KeqHits A s vb va true := by
  unfold KV at ra
  induction ra with
  | nil => intro _; exact .nil
  | @cons p q ps qs h t ih =>
    intro hp
    obtain ⟨h1, h2⟩ := h
    obtain ⟨u, d, e, d1, d2, hl, hd⟩ := hp p List.mem_cons_self
    have rr : RelO (some u) (valueAt vb p.1) := by rw [← e]; exact rb.val p.1
    obtain ⟨y, hy, ry⟩ := rr.some_of
    obtain ⟨k1, w1⟩ := q
    cases (show p.1 = k1 from h1)
    obtain ⟨as, r1⟩ := Dp.reads I d p.2 w1 d1 h2
    obtain ⟨bs, r2⟩ := Dp.reads I d u y d2 ry
    have eq : SeqAt.EqAt A s w1 y (PyData.eqv d d) := SeqAt.eqAt_reads d d A s w1 y as bs r1 r2 hl hl (by omega)
    rw [SeqAt.eqv_refl d hl] at eq
    show PySem.W.KeqHits A s vb ((p.1, w1) :: qs) (true && true)
    exact .hit hy eq (ih fun p' hm => hp p' (List.mem_cons_of_mem _ hm))
theorem op_neV (hu : X.A.units + 64 < cLine) : OpR X (compareOp .NotEq) (rNeV X.K) := by
  intro pins s σ H x y v u Q I rx ry h
  obtain ⟨a, b, ks, ls, rfl, rfl, ea, eb, hlen, hp, q⟩ := h
  obtain rfl : v = Value.ref a := rx
  obtain rfl : u = Value.ref b := ry
  obtain ⟨_, ya, va, ra, da⟩ := (show ObjOk X.prog X.w H s.heap a (.dK ks) from I.hok a _ ea)
  obtain ⟨_, yb, vb, rb, db⟩ := (show ObjOk X.prog X.w H s.heap b (.dK ls) from I.hok b _ eb)
  have hl : va.length = vb.length := by rw [← ra.length, ← rb.length]; exact hlen
  refine PySem.W.keq_ne (knd := mixKind X.prog X.w) (r := true) ya yb da db (by omega) (fun _ => hitsD I (by show X.A.units + 1 + 61 < cLine; omega) rb ra hp) ⟨.bl _, H, I, rfl, ?_⟩
  simpa [hl] using q
end
/-! ### texts in order -/
theorem le_of_lt_false {a b : List Nat} (h : ltCps b a = false) : a ≤ b := by
  rw [ltCps_eq, decide_eq_false_iff_not] at h
  exact List.not_lt.mp h
theorem rising_all : ∀ (l : List Str) (p : Str), risingS p l = true → ∀ x ∈ l, p.cps.toList ≤ x.cps.toList
  | [], _, _, x, hx => nomatch hx
  | y :: l, p, h, x, hx => by
    have h' : (!ltCps y.cps.toList p.cps.toList && risingS y l) = true := h
    rw [Bool.and_eq_true, Bool.not_eq_true'] at h'
    have h1 := le_of_lt_false h'.1
    rcases List.mem_cons.mp hx with z | z
    · rw [z]; exact h1
    · exact List.le_trans h1 (rising_all l y h'.2 x z)
theorem rising_tail : ∀ {l : List Str} {p : Str}, risingS p l = true → sortedS l = true
  | [], _, _ => rfl
  | y :: l, p, h => by
    have h' : (!ltCps y.cps.toList p.cps.toList && risingS y l) = true := h
    rw [Bool.and_eq_true] at h'
    exact h'.2
theorem sortedS_uniq : ∀ (ys zs : List Str), ys.Perm zs → sortedS ys = true → sortedS zs = true → ys = zs
  | [], zs, pm, _, _ => (List.nil_perm.mp pm).symm
  | y :: ys, [], pm, _, _ => absurd (List.perm_nil.mp pm) (fun z => nomatch z)
  | y :: ys, z :: zs, pm, h1, h2 => by
    have e : y = z := by
      have a1 : y ∈ z :: zs := pm.mem_iff.mp List.mem_cons_self
      have a2 : z ∈ y :: ys := pm.mem_iff.mpr List.mem_cons_self
      rcases List.mem_cons.mp a1 with c | c
      · exact c
      · rcases List.mem_cons.mp a2 with d | d
        · exact d.symm
        · have l1 := rising_all zs z h2 y c
          have l2 := rising_all ys y h1 z d
          have e := List.le_antisymm l2 l1
          have e2 : y.cps = z.cps := Array.toList_inj.mp e
          cases y
          cases z
          exact congrArg _ e2
    subst e
    rw [sortedS_uniq ys zs (List.Perm.cons_inv pm) (rising_tail h1) (rising_tail h2)]
theorem sortedS_pw : ∀ (l : List Str), sortedS l = true → l.Pairwise fun a b => a.cps.toList ≤ b.cps.toList
  | [], _ => List.Pairwise.nil
  | x :: l, h => List.pairwise_cons.mpr ⟨rising_all l x h, sortedS_pw l (rising_tail h)⟩
theorem sortedS_sub {ks ys : List Str} (h : sortedS ys = true) (sl : ks.Sublist ys) : sortedS ks = true := by
  refine sortedS_of_pairwise _ (((sortedS_pw ys h).sublist sl).imp fun {a b} hab => ?_)
  rw [ltCps_eq, decide_eq_false_iff_not]
  exact List.not_lt.mpr hab
theorem valV_out {k : List (Key × V)} {c : Key} (h : ∀ q ∈ k, q.1 ≠ c) : valV k c = none := by
  unfold valV
  have e : k.find? (fun kv => decide (kv.1 = c)) = none := List.find?_eq_none.mpr fun q hq => by simpa using h q hq
  rw [e]
  rfl
end L2
set_option Elab.async false
set_option linter.all false
set_option maxRecDepth 100000
set_option maxHeartbeats 4000000
/-! for i, x in enumerate(a tuple). -/
namespace L2
open PySem PySem.Spec PyProof.Rows PySem.W
set_option maxHeartbeats 1000000 in
theorem enum_new1 {v : Value} {o : Obj} {H : Heap → Prop} (B : Begins v o H) :
    Meets (Builtin.«enumerate.__new__» ⟨[.type "enumerate", v], []⟩) (fun _ R s => H s.heap ∧
      R (.ok (.ret (.ref (s.heap.push o).objs.size))) { s with heap := (s.heap.push o).push { cls := .type "enumerate", data := .fields #[.none, .bool false, .ref s.heap.objs.size, rawInt 0, .none, .none] } }) :=
  .of_wp fun prog w A R s h => by
    obtain ⟨hp, g, d, tk, os⟩ := s; obtain ⟨h1, h⟩ := h
    have hsub := sub_enumerate
    have q1 : ∀ {A' : Around} {E : Value → Shared → Prop} {Q : Value → Shared → Prop}, Q (.ref hp.objs.size) ⟨hp.push o, g, d, tk, os⟩ → wpAny (model prog w) A' (pyIter v) Q E ⟨hp, g, d, tk, os⟩ :=
      fun q => B.iter prog w _ _ ⟨hp, g, d, tk, os⟩ _ h1 q
    wp_walk using q1
    refine wpAny_stack_any fun st => wpAny_pure ?_
    split
    · rename_i c _ _ _ _ _
      cases (c == Value.type "enumerate")
      · wp_walk using q1
        exact ⟨_, rfl, h⟩
      · wp_walk using q1
        exact ⟨_, rfl, h⟩
    · wp_walk using q1
      exact ⟨_, rfl, h⟩
section
variable {prog : Program} {w : World} {A : Around} {E : Value → Shared → Prop} {s : Shared}
theorem enum_begins1 {v : Value} {o : Obj} {H : Heap → Prop} {Q : Value → Shared → Prop} (B : Begins v o H) (h1 : H s.heap)
    (h : ∀ h', IsEnum h' (s.heap.objs.size + 1) s.heap.objs.size 0 .none → h'.get? s.heap.objs.size = some o → h'.objs.size = s.heap.objs.size + 2 →
      (∀ b o, s.heap.get? b = some o → h'.get? b = some o) → Q (.ref (s.heap.objs.size + 1)) { s with heap := h' }) :
    wpAny (model prog w) A (call (.type "enumerate") [v]) Q E s := by
  refine callType_new F.called_enumerate (by decide) (F.typeCall_enumerate_1 _) (F.newCall_enumerate_1 _) (fun obj => F.args_object_init_2 obj _) F.entry_enumerate_new (enum_new1 B) ⟨h1, ?_⟩
  have hz : (s.heap.push o).objs.size = s.heap.objs.size + 1 := Heap.size_push ..
  show _ ∧ _
  rw [hz]
  have he : IsEnum ((s.heap.push o).push { cls := .type "enumerate", data := .fields #[.none, .bool false, .ref s.heap.objs.size, rawInt 0, .none, .none] }) (s.heap.objs.size + 1) s.heap.objs.size 0 .none := by
    have := Heap.get?_push_size (s.heap.push o) (o := { cls := .type "enumerate", data := .fields #[.none, .bool false, .ref s.heap.objs.size, rawInt 0, .none, .none] }) rfl
    rw [hz] at this; exact this
  exact ⟨⟨_, he, rfl⟩, h _ he (Heap.get?_push_of_some _ (Heap.get?_push_size _ B.free)) (by rw [Heap.size_push, hz]) fun b o x => Heap.get?_push_of_some _ (Heap.get?_push_of_some _ x)⟩
end
def IteT (K : PySem.W.Frag) (a : Addr) : It :=
  ⟨fun i H => ∃ (xs : List V) (x : V), SqT K H a xs ∧ xs[i]? = some x, fun i H v H' => ∃ T x, v = .ref T ∧ H T = none ∧ H' = upd H T (.tup [.int (i : Nat), x]) ∧ ∀ xs, SqT K H a xs → xs[i]? = some x, fun i H => ∃ xs : List V, SqT K H a xs ∧ xs.length ≤ i⟩
theorem turn_enumT {P : Program} {w : World} {K : PySem.W.Frag} {elts : List Expr} {kk : Nat} {tpos : Pos} (a e it : Addr) :
    Turn P w K (.Tuple elts kk tpos) (IteT K a) [e, it] e (fun i h => (∃ old, IsEnum h e it ((i : Nat) : Int) old) ∧ h.IsTupleIter it a i ∧ e ≠ it ∧ a ≠ it ∧ a ≠ e) where
  mem := by simp
  obj := fun i h st b hb => by
    obtain ⟨⟨old, he⟩, ⟨o, ho, hc, hd⟩, _⟩ := st
    have e' : b = e ∨ b = it := by simpa using hb
    rcases e' with z | z
    · rw [z]; exact ⟨_, he, fun v q => nomatch q⟩
    · rw [z]; exact ⟨o, ho, fun v q => by rw [hd] at q; cases q⟩
  keep := fun i h h' st k => let ⟨⟨old, he⟩, hi, hne⟩ := st; ⟨⟨old, k e (by simp) _ he⟩, hi.at fun o q => k it (by simp) o q, hne⟩
  item := by
    intro X hP hw hK hc i pins s σ H E I hf st hg
    subst hP hw hK
    obtain ⟨⟨old, he⟩, hit, hne, hai, hae⟩ := st
    obtain ⟨xs, x, hq, hx⟩ := hg
    obtain ⟨its, rv, p, hz⟩ := I.tuple hq
    obtain ⟨u, hu, ru⟩ := rv.get hx
    have hlt : i < its.length := by
      obtain ⟨z, _⟩ := List.getElem?_eq_some_iff.mp hu
      exact z
    have hel : e < s.heap.objs.size := Heap.lt_size he
    have hil : it < s.heap.objs.size := by obtain ⟨_, q, _⟩ := hit; exact Heap.lt_size q
    have D := Draws.tuple (prog := X.prog) (w := X.w) (A := X.A.in1) (show X.A.in1.handled = none from I.ok.hd hc) it a hai its.toArray
    refine wpAny_pyNext_enum_itemD D he ⟨hit, p⟩ (by simpa using hlt) hne (by simp [hne, hae.symm]) fun y h' tk hy ho st' hT hsz hk => ?_
    have hyu : y = u := by
      have h1 : its[i]? = some y := by simpa using hy
      rw [hu] at h1
      exact (Option.some.inj h1).symm
    subst hyu
    refine ⟨_, rfl, wpAny_letOwnedTupleGo_enum (s := { s with heap := h', toks := tk + 1 }) ho fun h'' he' sb => ?_⟩
    have hT2 : h''.get? s.heap.objs.size = some { cls := .type "tuple", data := .seq #[.int i tk, y] } := (sb.2 _ (Nat.ne_of_gt hel)).trans hT
    have new : ObjOk X.prog X.w (upd H s.heap.objs.size (.tup [.int (i : Nat), x])) h'' s.heap.objs.size (.tup [.int (i : Nat), x]) :=
      ⟨by show 2 ≤ sizeLine; decide, [.int i tk, y], .cons ⟨_, rfl⟩ (.cons ru .nil), ⟨_, hT2, rfl, _, rfl⟩⟩
    have I1 : Inv X pins σ (upd H s.heap.objs.size (.tup [.int (i : Nat), x])) { s with heap := h'', toks := tk + 1 } :=
      I.turnedNew (ch := [e, it]) (fun b ob hb q => (sb.2 b (fun z => hb (by simp [z]))).trans (hk b ob (fun z => hb (by simp [z])) (fun z => hb (by simp [z])) q)) hf (Nat.le_refl _) new
    refine ⟨.ref s.heap.objs.size, _, I1, rfl, ⟨_, x, rfl, I.hok.fresh (Nat.le_refl _), rfl, fun ys hy => by rw [I.tuple_inj hy hq]; exact hx⟩, ⟨⟨y, ?_⟩, st'.1.at fun o q => (sb.2 it (Ne.symm hne)).trans q, hne, hai, hae⟩, fun b hb => ?_⟩
    · have e1 : ((i + 1 : Nat) : Int) = (i : Int) + 1 := by omega
      rw [e1]; exact he'
    · have hb' : b < s.heap.objs.size := by
        have e' : b = e ∨ b = it := by simpa using hb
        rcases e' with z | z
        · rw [z]; exact hel
        · rw [z]; exact hil
      rw [upd_ne (Nat.ne_of_lt hb')]
      exact (hf b hb).1
  done := by
    intro X hP hw hK hc i pins s σ H E I hf st hg
    subst hP hw hK
    obtain ⟨⟨old, he⟩, hit, hne, hai, hae⟩ := st
    obtain ⟨xs, hq, hx⟩ := hg
    obtain ⟨its, rv, p, hz⟩ := I.tuple hq
    obtain ⟨f0, f1, f2, f3, f4, f5⟩ := hf it (by simp)
    have hl := rv.length
    have hh : X.A.in1.handled = none := I.ok.hd hc
    have D : Draws X.prog X.w X.A.in1 it [it, a] i (fun _ _ => False) (fun j h => j = i ∧ h.IsTupleIter it a j ∧ h.IsTuple a its.toArray) :=
      { live := fun _ _ st => let ⟨o, ho, _⟩ := st.2.1; ⟨o, ho⟩
        frame := fun _ _ _ st hk => ⟨st.1, st.2.1.at fun o e => hk it (by simp) o e, st.2.2.at fun o e => hk a (by simp) o e⟩
        item := fun j s Q E hj st hQ => absurd hj (by rw [st.1]; exact Nat.lt_irrefl _)
        done := fun s Q E st hE => wpAny_nextOf_tuple_end hh st.2.1 st.2.2 (by simp; omega) hE }
    exact wpAny_pyNext_enum_endD D he ⟨rfl, hit, p⟩ fun h' eb => ⟨rfl, I.turned (t' := s.toks) (fun b o hb q => eb b o hb q) f0 f1 f3 f4 f5⟩
  self := fun A i s Q E st h => let ⟨⟨_, he⟩, _⟩ := st; wpAny_pyIter_enum he h
def iEnumT (K : PySem.W.Frag) (ta : TA) : TI := fun σ H R => ta σ H fun vs H1 => ∃ a xs, vs = [.ref a] ∧ SqT K H1 a xs ∧ R (IteT K a) H1
theorem pi_enumT {X : Cx} {e : Expr} {ta : TA} {p pos tpos : Pos} {elts : List Expr} {kk : Nat} (hg : Gl X "enumerate") (hm : X.mg "enumerate" = none) (ha : PA X [e] ta) (hs : starEach [e] X.env = [(false, eval e X.env)] := by rfl) :
    PI X (.Tuple elts kk tpos) (.Call (.Name "enumerate" p) [e] [] pos) (iEnumT X.K ta) := by
  refine ⟨fun pins s σ H R I h => ?_⟩
  refine Call_ (ld_blt I hg hm boot_enumerate (PyProof.Rows.callWith_type1 (thn (ha.run pos pins s σ H _ I h) fun us s1 ⟨vs, H1, I1, r1, q1⟩ => ?_) hs rfl))
  obtain ⟨a, xs, ex, hq, q⟩ := q1
  subst ex
  cases r1 with
  | cons r rr =>
    cases rr
    cases r
    obtain ⟨its, rv, p', hz⟩ := I1.tuple hq
    have hal : a < s1.heap.objs.size := by obtain ⟨_, z, _⟩ := p'; exact Heap.lt_size z
    refine enum_begins1 (begins_tuple a its.toArray) p' fun h' he hit hsz hk => wpAny_pyIter_enum he ?_
    have I2 : Inv X pins σ H1 { s1 with heap := h' } := I1.kept (t' := s1.toks) hk
    have hit' : h'.IsTupleIter s1.heap.objs.size a 0 := ⟨_, hit, rfl, rfl⟩
    refine ⟨s1.heap.objs.size + 1, [s1.heap.objs.size + 1, s1.heap.objs.size], _, _, H1, rfl, I2, turn_enumT a (s1.heap.objs.size + 1) s1.heap.objs.size, ⟨⟨.none, he⟩, hit', Nat.succ_ne_self _, Nat.ne_of_lt hal, Nat.ne_of_lt (Nat.lt_succ_of_lt hal)⟩, fun b hb => ?_, q⟩
    have e' : b = s1.heap.objs.size + 1 ∨ b = s1.heap.objs.size := by simpa using hb
    have hle : s1.heap.objs.size ≤ b := by
      rcases e' with z | z
      · rw [z]; exact Nat.le_add_right _ _
      · rw [z]; exact Nat.le_refl _
    exact I1.fpOk hle (I1.hok.fresh hle)
/-- the i-th of xs with its number, in a new pair -/
theorem walk_enumT {K : PySem.W.Frag} {a : Addr} {xs : List V} : Walk (IteT K a) xs.length (fun H => SqT K H a xs) (fun i H v H' => ∃ T x, v = .ref T ∧ H T = none ∧ H' = upd H T (.tup [.int (i : Nat), x]) ∧ xs[i]? = some x) where
  goes := fun i H hi h => ⟨xs, xs[i], h, List.getElem?_eq_getElem hi⟩
  stops := fun H h => ⟨xs, h, Nat.le_refl _⟩
  yields := fun i H v H' hi h ⟨T, x, e, hT, eH, hx⟩ => ⟨T, x, e, hT, eH, hx xs h⟩
end L2
set_option Elab.async false
set_option linter.all false
set_option maxRecDepth 100000
set_option maxHeartbeats 4000000
namespace L2
open PySem PySem.Spec PyProof.Rows
/-! ### data with dicts in it -/
mutual
inductive Dq (K : PySem.W.Frag) (H : Hp) : V → PyData → Prop
  | non : Dq K H .non .none
  | bl (b : Bool) : Dq K H (.bl b) (.bool b)
  | int (i : Int) : Dq K H (.int i) (.int i)
  | str (x : Str) : Dq K H (.str x) (.str x)
  | lst {a : Addr} {xs : List V} {ds : List PyData} : SqL K H a xs → DqAll K H xs ds → Dq K H (.ref a) (.list ds)
  | tup {a : Addr} {xs : List V} {ds : List PyData} : SqT K H a xs → DqAll K H xs ds → Dq K H (.ref a) (.tuple ds)
  | dct {a : Addr} {kvs : List (Key × V)} {ps : List (PyData × PyData)} : H a = some (.dK kvs) → DqAll K H (kvs.map fun q => kV q.1) (ps.map (·.1)) → DqAll K H (kvs.map (·.2)) (ps.map (·.2)) → Dq K H (.ref a) (.dict ps)
inductive DqAll (K : PySem.W.Frag) (H : Hp) : List V → List PyData → Prop
  | nil : DqAll K H [] []
  | cons {v : V} {vs : List V} {d : PyData} {ds : List PyData} : Dq K H v d → DqAll K H vs ds → DqAll K H (v :: vs) (d :: ds)
end
section
variable {K : PySem.W.Frag}
mutual
theorem Dp.q {H : Hp} : ∀ {v : V} {d : PyData}, Dp K H v d → Dq K H v d
  | _, _, .non => .non
  | _, _, .bl b => .bl b
  | _, _, .int i => .int i
  | _, _, .str x => .str x
  | _, _, .lst h a => .lst h (DpAll.q a)
  | _, _, .tup h a => .tup h (DpAll.q a)
theorem DpAll.q {H : Hp} : ∀ {vs : List V} {ds : List PyData}, DpAll K H vs ds → DqAll K H vs ds
  | _, _, .nil => .nil
  | _, _, .cons h t => .cons (Dp.q h) (DpAll.q t)
end
mutual
theorem Dq.mono {H H' : Hp} (e : Same H H') : ∀ {v : V} {d : PyData}, Dq K H v d → Dq K H' v d
  | _, _, .non => .non
  | _, _, .bl b => .bl b
  | _, _, .int i => .int i
  | _, _, .str x => .str x
  | _, _, .lst h a => .lst (e.seq h) (DqAll.mono e a)
  | _, _, .tup h a => .tup (sqT_mono e h) (DqAll.mono e a)
  | _, _, .dct h a b => .dct (e _ _ h) (DqAll.mono e a) (DqAll.mono e b)
theorem DqAll.mono {H H' : Hp} (e : Same H H') : ∀ {vs : List V} {ds : List PyData}, DqAll K H vs ds → DqAll K H' vs ds
  | _, _, .nil => .nil
  | _, _, .cons h t => .cons (Dq.mono e h) (DqAll.mono e t)
end
theorem DqAll.len {H : Hp} : ∀ {vs : List V} {ds : List PyData}, DqAll K H vs ds → vs.length = ds.length
  | _, _, .nil => rfl
  | _, _, .cons _ t => congrArg (· + 1) (DqAll.len t)
theorem DqAll.app {H : Hp} : ∀ {vs ws : List V} {ds es : List PyData}, DqAll K H vs ds → DqAll K H ws es → DqAll K H (vs ++ ws) (ds ++ es)
  | _, _, _, _, .nil, t => t
  | _, _, _, _, .cons h s, t => .cons h (DqAll.app s t)
theorem DqAll.at {H : Hp} : ∀ {vs : List V} {ds : List PyData} {i : Nat} {v : V}, DqAll K H vs ds → vs[i]? = some v → ∃ d, ds[i]? = some d ∧ Dq K H v d
  | _, _, i, v, .nil, e => by simp at e
  | _, _, 0, v, .cons h t, e => by
    simp at e
    exact ⟨_, rfl, e ▸ h⟩
  | _, _, i + 1, v, .cons h t, e => by
    obtain ⟨d, h1, h2⟩ := DqAll.at (i := i) t (by simpa using e)
    exact ⟨d, by simpa using h1, h2⟩
abbrev Qh (K : PySem.W.Frag) (p : Addr) (H : Hp) (v : V) (d : PyData) : Prop := Dq K (hid p H) v d
abbrev QhAll (K : PySem.W.Frag) (p : Addr) (H : Hp) (vs : List V) (ds : List PyData) : Prop := DqAll K (hid p H) vs ds
theorem Dq.un {p : Addr} {H : Hp} {v : V} {d : PyData} (h : Qh K p H v d) : Dq K H v d := Dq.mono hid_in h
theorem Dq.but {p : Addr} {H H' : Hp} {v : V} {d : PyData} (e : But p H H') (h : Qh K p H v d) : Qh K p H' v d := Dq.mono (hid_but e) h
theorem DqAll.but {p : Addr} {H H' : Hp} {vs : List V} {ds : List PyData} (e : But p H H') (h : QhAll K p H vs ds) : QhAll K p H' vs ds := DqAll.mono (hid_but e) h
theorem Dq.newT {p q : Addr} {H : Hp} {xs : List V} {ds : List PyData} (hq : H q = none) (n : q ≠ p) (h : QhAll K p H xs ds) : Qh K p (upd H q (.tup xs)) (.ref q) (.tuple ds) :=
  .tup (.inl (.inl (by rw [hid_ne n, upd_same]))) (DqAll.but (But.new hq) h)
theorem Dq.newL {p q : Addr} {H : Hp} {xs : List V} {ds : List PyData} (hq : H q = none) (n : q ≠ p) (h : QhAll K p H xs ds) : Qh K p (upd H q (.lst xs)) (.ref q) (.list ds) :=
  .lst (.inl (.inl (by rw [hid_ne n, upd_same]))) (DqAll.but (But.new hq) h)
theorem Dq.new0 {p q : Addr} {H : Hp} (hq : H q = none) (n : q ≠ p) : Qh K p (upd H q (.dK [])) (.ref q) (.dict []) :=
  .dct (kvs := []) (by rw [hid_ne n, upd_same]) .nil .nil
/-! ### isinstance -/
theorem Dq.ty {H : Hp} {v : V} {d : PyData} (h : Dq K H v d) : TyX K H v (.type (tyN d)) := by
  cases h with
  | non => exact .base .non
  | bl b => exact .base (.bl b)
  | int i => exact .base (.int i)
  | str x => exact .base (.str x)
  | lst hs _ =>
    rcases hs with (h | ⟨o, h⟩) | ⟨o, its, n, h, hc, _⟩
    · exact .base (.lst h)
    · exact .base (.frz h)
    · exact .kList h hc
  | tup hs _ =>
    rcases hs with (h | ⟨o, h⟩) | ⟨o, its, n, h, hc, _⟩
    · exact .base (.tup h)
    · exact .fTuple h
    · exact .kTuple h hc
  | dct h _ _ => exact .base (.dK h)
def isD : PyData → Bool | .dict _ => true | _ => false
def isOfQ : String → PyData → Bool
  | "str", d => isS d
  | "tuple", d => isT d
  | "list", d => isL d
  | "bool", d => isB d
  | "int", d => isI d
  | "dict", d => isD d
  | _, _ => false
theorem kitNq : (["NoneType", "bool", "int", "str", "list", "tuple", "dict"].all fun a => ["str", "tuple", "list", "bool", "int", "dict"].all fun T => kitB a T == some (tabN a T)) = true := by decide +kernel
theorem kit_allq {a T : String} (ha : a ∈ ["NoneType", "bool", "int", "str", "list", "tuple", "dict"]) (hT : T ∈ ["str", "tuple", "list", "bool", "int", "dict"]) : kitB a T = some (tabN a T) := by
  have h := List.all_eq_true.mp (List.all_eq_true.mp kitNq a ha) T hT
  exact eq_of_beq h
theorem isOfQ_tab {T : String} (hT : T ∈ ["str", "tuple", "list", "bool", "int", "dict"]) (d : PyData) : isOfQ T d = tabN (tyN d) T := by
  simp only [List.mem_cons, List.not_mem_nil, or_false] at hT
  rcases hT with rfl | rfl | rfl | rfl | rfl | rfl <;> cases d <;> first | rfl | decide
theorem isOfQ_kit {d : PyData} {T : String} (hT : T ∈ ["str", "tuple", "list", "bool", "int", "dict"]) : kitB (tyN d) T = some (isOfQ T d) := by
  rw [isOfQ_tab hT]
  refine kit_allq ?_ hT
  cases d <;> simp [tyN]
end
def rIsQ (K : PySem.W.Frag) : List V → Hp → VK → Prop := fun xs H Q => ∃ (v : V) (d : PyData) (T : String), xs = [v, .ty T] ∧ Dq K H v d ∧ T ∈ ["str", "tuple", "list", "bool", "int", "dict"] ∧ Q (.bl (isOfQ T d)) H
section
variable {X : Cx}
theorem call_isQ : CallR X (.builtin "isinstance") (rIsQ X.K) := by
  intro pins s σ H xs us Q I r h
  obtain ⟨v, d, T, rfl, hd, hT, q⟩ := h
  exact call_isi pins s σ H _ us Q I r ⟨v, .ty T, .type (tyN d), .type T, isOfQ T d, rfl, .ty T, hd.ty, kit_ty (isOfQ_kit hT), q⟩
end
/-! ### the heap's own reading of it; no list beside a dict -/
mutual
def nl : PyData → Bool
  | .list _ => false
  | .tuple xs => nls xs
  | .dict kvs => nlk kvs
  | _ => true
def nls : List PyData → Bool
  | [] => true
  | x :: xs => nl x && nls xs
def nlk : List (PyData × PyData) → Bool
  | [] => true
  | (k, v) :: r => nl k && nl v && nlk r
end
theorem nlk_of : ∀ {ps : List (PyData × PyData)}, nlk ps = true → nls (ps.map (·.1)) = true ∧ nls (ps.map (·.2)) = true
  | [], _ => ⟨rfl, rfl⟩
  | (k, v) :: r, h => by
    have h' : (nl k && nl v && nlk r) = true := by simpa [nlk] using h
    simp only [Bool.and_eq_true] at h'
    have ih := nlk_of h'.2
    simp only [List.map_cons, nls, Bool.and_eq_true]
    exact ⟨⟨h'.1.1, ih.1⟩, ⟨h'.1.2, ih.2⟩⟩
section
variable {P : Program} {w : World}
theorem kv_keys : ∀ {kvs : List (Key × V)} {vs : List (Key × Value)} {es : List DictEntry}, KV kvs vs → Pairs (mixKind P w) es vs → Vals (kvs.map fun q => kV q.1) (es.map (·.key)) ∧ Vals (kvs.map (·.2)) (es.map (·.val))
  | _, _, _, .nil, .nil => ⟨.nil, .nil⟩
  | _, _, _, .cons (a := q) (b := z) ⟨h1, h2⟩ r, .cons (e := e) k1 k2 k3 => by
    have ih := kv_keys r k3
    refine ⟨.cons ?_ ih.1, .cons ?_ ih.2⟩
    · have k1' : keyIs z.1 e.key = true := k1
      rw [← h1] at k1'
      rcases keyIs_shape k1' with ⟨i, t, e1, e2⟩ | ⟨x, t, e1, e2⟩
      · show RelV (kV q.1) e.key
        rw [e1, e2]
        exact ⟨t, rfl⟩
      · show RelV (kV q.1) e.key
        rw [e1, e2]
        exact ⟨t, rfl⟩
    · show RelV q.2 e.val
      rw [k2]
      exact h2
end
section
variable {X : Cx} {pins : List (Addr × Obj)} {σ : St} {H : Hp} {s : Shared}
mutual
theorem Dq.reads (I : Inv X pins σ H s) : ∀ {v : V} {d : PyData} {u : Value}, Dq X.K H v d → RelV v u → ∃ as, Reads s.heap u d as ∧ (nl d = true → sysModules ∉ as)
  | _, _, _, .non, r => by
    cases r
    exact ⟨_, Reads.none, fun _ h => nomatch h⟩
  | _, _, _, .bl b, r => by
    cases r
    exact ⟨_, Reads.bool b, fun _ h => nomatch h⟩
  | _, _, _, .int i, r => by
    obtain ⟨t, rfl⟩ := r
    exact ⟨_, Reads.int i t, fun _ h => nomatch h⟩
  | _, _, _, .str x, r => by
    obtain ⟨t, rfl⟩ := r
    exact ⟨_, Reads.str x t, fun _ h => nomatch h⟩
  | _, _, _, .lst hs ha, r => by
    cases r
    obtain ⟨its, rv, ⟨o, n, ho, hc, _, hd⟩, _⟩ := I.list hs
    obtain ⟨as, hr, _⟩ := DqAll.reads I ha rv
    exact ⟨_, Reads.list ho hc hd hr, fun h => by simp [nl] at h⟩
  | _, _, _, .tup hs ha, r => by
    cases r
    obtain ⟨its, rv, ⟨o, ho, hc, n, hd⟩, _⟩ := I.tuple hs
    obtain ⟨as, hr, hn⟩ := DqAll.reads I ha rv
    exact ⟨_, Reads.tuple ho hc hd hr, fun h => hn (by simpa [nl] using h)⟩
  | _, _, _, .dct (a := a) (ps := ps) hs hk hv, r => by
    cases r
    obtain ⟨_, hlow, vs, kv, o, es, ep, ho, ⟨hc, _, _⟩, hd, _, hp, _⟩ := I.hok _ _ hs
    obtain ⟨v1, v2⟩ := kv_keys kv hp
    obtain ⟨as, r1, n1⟩ := DqAll.reads I hk v1
    obtain ⟨bs, r2, n2⟩ := DqAll.reads I hv v2
    refine ⟨_, Reads.dict ho hc hd r1 r2, fun h => ?_⟩
    have h' := nlk_of (ps := ps) (by simpa [nl] using h)
    have hl := beq_eq_false_iff_ne.mp hlow
    intro hm
    rw [List.cons_append, List.mem_cons, List.mem_append] at hm
    rcases hm with hm | hm | hm
    · exact hl hm.symm
    · exact n1 h'.1 hm
    · exact n2 h'.2 hm
theorem DqAll.reads (I : Inv X pins σ H s) : ∀ {vs : List V} {ds : List PyData} {us : List Value}, DqAll X.K H vs ds → Vals vs us → ∃ as, ReadsAll s.heap us ds as ∧ (nls ds = true → sysModules ∉ as)
  | _, _, _, .nil, r => by
    cases r
    exact ⟨_, ReadsAll.nil, fun _ h => nomatch h⟩
  | _, _, _, .cons h1 h2, r => by
    cases r with
    | cons r1 r2 =>
      obtain ⟨as, q1, n1⟩ := Dq.reads I h1 r1
      obtain ⟨bs, q2, n2⟩ := DqAll.reads I h2 r2
      refine ⟨_, ReadsAll.cons q1 q2, fun h => ?_⟩
      have h' := h
      simp only [nls, Bool.and_eq_true] at h'
      intro hm
      rcases List.mem_append.mp hm with hm | hm
      · exact n1 h'.1 hm
      · exact n2 h'.2 hm
end
/-! ### repr -/
structure shownQ (d : PyData) : Prop where
  sh : d.showable = true
  dep : d.depth ≤ 64
  len : d.shown.length ≤ sizeLine
  nd : d.hasDict = true → nl d = true
def rReprQ (K : PySem.W.Frag) : List V → Hp → VK → Prop := fun xs H Q => ∃ (v : V) (d : PyData), xs = [v] ∧ Dq K H v d ∧ shownQ d ∧ Q (.str d.shown) H
theorem call_reprQ (hg : X.A.guards = some []) (hu : X.A.units + 70 < cLine) : CallR X (.builtin "repr") (rReprQ X.K) := by
  intro pins s σ H xs us Q I r h
  obtain ⟨v, d, rfl, hd, ⟨hs, hdep, hl, hnd⟩, q⟩ := h
  obtain ⟨u, rfl, ru⟩ := vals1 r
  obtain ⟨as, rd, hm⟩ := Dq.reads I hd ru
  have big : ∀ a, u = Value.ref a → wpAny (model X.prog X.w) X.A (call (.builtin "repr") [u]) (EP X pins σ Q) X.xe s := fun a e => by
    subst e
    exact repr_of_reads' rd hs (fun h => hm (hnd h)) hg (by omega) (fun _ _ e => e) (fun h' t tk k => ⟨.str d.shown, H, I.kept k, ⟨_, rfl⟩, q⟩) hl
  cases hd with
  | non =>
    cases ru
    exact PySem.P.repr_of_none ⟨.str _, H, I.tok _, ⟨_, rfl⟩, by simpa only [PyData.shown] using q⟩
  | bl b =>
    cases ru
    exact PySem.P.repr_of_bool ⟨.str _, H, I.tok _, ⟨_, rfl⟩, by simpa only [PyData.shown] using q⟩
  | int i =>
    obtain ⟨t, rfl⟩ := ru
    exact PySem.P.repr_of_int (by simpa [PyData.showable] using hs) ⟨.str _, H, I.tok _, ⟨_, rfl⟩, by simpa only [PyData.shown] using q⟩
  | str x =>
    obtain ⟨t, rfl⟩ := ru
    exact PySem.P.repr_of_str ⟨.str _, H, I.tok _, ⟨_, rfl⟩, by simpa only [PyData.shown] using q⟩ (by simpa only [PyData.shown] using hl)
  | lst _ _ => exact big _ ru
  | tup _ _ => exact big _ ru
  | dct _ _ _ => exact big _ ru
end
end L2
set_option Elab.async false
set_option linter.all false
set_option maxRecDepth 100000
set_option maxHeartbeats 4000000
namespace L2
open PySem PySem.Spec PyProof.Rows
/-! ### data with dicts in it whose lists were all made by the run: repr of it, lists beside dicts too -/
mutual
inductive Dr (K : PySem.W.Frag) (H : Hp) : V → PyData → Prop
  | non : Dr K H .non .none
  | bl (b : Bool) : Dr K H (.bl b) (.bool b)
  | int (i : Int) : Dr K H (.int i) (.int i)
  | str (x : Str) : Dr K H (.str x) (.str x)
  | lst {a : Addr} {xs : List V} {ds : List PyData} : a ≠ sysModules → SqL K H a xs → DrAll K H xs ds → Dr K H (.ref a) (.list ds)
  | tup {a : Addr} {xs : List V} {ds : List PyData} : SqT K H a xs → DrAll K H xs ds → Dr K H (.ref a) (.tuple ds)
  | dct {a : Addr} {kvs : List (Key × V)} {ps : List (PyData × PyData)} : H a = some (.dK kvs) → DrAll K H (kvs.map fun q => kV q.1) (ps.map (·.1)) → DrAll K H (kvs.map (·.2)) (ps.map (·.2)) → Dr K H (.ref a) (.dict ps)
inductive DrAll (K : PySem.W.Frag) (H : Hp) : List V → List PyData → Prop
  | nil : DrAll K H [] []
  | cons {v : V} {vs : List V} {d : PyData} {ds : List PyData} : Dr K H v d → DrAll K H vs ds → DrAll K H (v :: vs) (d :: ds)
end
section
variable {K : PySem.W.Frag}
mutual
theorem Dr.q {H : Hp} : ∀ {v : V} {d : PyData}, Dr K H v d → Dq K H v d
  | _, _, .non => .non
  | _, _, .bl b => .bl b
  | _, _, .int i => .int i
  | _, _, .str x => .str x
  | _, _, .lst _ h a => .lst h (DrAll.q a)
  | _, _, .tup h a => .tup h (DrAll.q a)
  | _, _, .dct h a b => .dct h (DrAll.q a) (DrAll.q b)
theorem DrAll.q {H : Hp} : ∀ {vs : List V} {ds : List PyData}, DrAll K H vs ds → DqAll K H vs ds
  | _, _, .nil => .nil
  | _, _, .cons h t => .cons (Dr.q h) (DrAll.q t)
end
mutual
theorem Dr.mono {H H' : Hp} (e : Same H H') : ∀ {v : V} {d : PyData}, Dr K H v d → Dr K H' v d
  | _, _, .non => .non
  | _, _, .bl b => .bl b
  | _, _, .int i => .int i
  | _, _, .str x => .str x
  | _, _, .lst n h a => .lst n (e.seq h) (DrAll.mono e a)
  | _, _, .tup h a => .tup (sqT_mono e h) (DrAll.mono e a)
  | _, _, .dct h a b => .dct (e _ _ h) (DrAll.mono e a) (DrAll.mono e b)
theorem DrAll.mono {H H' : Hp} (e : Same H H') : ∀ {vs : List V} {ds : List PyData}, DrAll K H vs ds → DrAll K H' vs ds
  | _, _, .nil => .nil
  | _, _, .cons h t => .cons (Dr.mono e h) (DrAll.mono e t)
end
/-! data without lists and dicts, as it was read before -/
mutual
def pureD : PyData → Bool
  | .list _ => false
  | .dict _ => false
  | .tuple xs => pureDs xs
  | _ => true
def pureDs : List PyData → Bool
  | [] => true
  | x :: xs => pureD x && pureDs xs
end
mutual
theorem Dp.r {H : Hp} : ∀ {v : V} {d : PyData}, pureD d = true → Dp K H v d → Dr K H v d
  | _, _, _, .non => .non
  | _, _, _, .bl b => .bl b
  | _, _, _, .int i => .int i
  | _, _, _, .str x => .str x
  | _, _, n, .lst h a => by simp [pureD] at n
  | _, _, n, .tup h a => .tup h (DpAll.r (by simpa [pureD] using n) a)
theorem DpAll.r {H : Hp} : ∀ {vs : List V} {ds : List PyData}, pureDs ds = true → DpAll K H vs ds → DrAll K H vs ds
  | _, _, _, .nil => .nil
  | _, _, n, .cons h t => by
    have n' := n
    simp only [pureDs, Bool.and_eq_true] at n'
    exact .cons (Dp.r n'.1 h) (DpAll.r n'.2 t)
end
end
section
variable {X : Cx} {pins : List (Addr × Obj)} {σ : St} {H : Hp} {s : Shared}
mutual
theorem Dr.reads (I : Inv X pins σ H s) : ∀ {v : V} {d : PyData} {u : Value}, Dr X.K H v d → RelV v u → ∃ as, Reads s.heap u d as ∧ sysModules ∉ as
  | _, _, _, .non, r => by
    cases r
    exact ⟨_, Reads.none, fun h => nomatch h⟩
  | _, _, _, .bl b, r => by
    cases r
    exact ⟨_, Reads.bool b, fun h => nomatch h⟩
  | _, _, _, .int i, r => by
    obtain ⟨t, rfl⟩ := r
    exact ⟨_, Reads.int i t, fun h => nomatch h⟩
  | _, _, _, .str x, r => by
    obtain ⟨t, rfl⟩ := r
    exact ⟨_, Reads.str x t, fun h => nomatch h⟩
  | _, _, _, .lst (a := a) ne hs ha, r => by
    cases r
    obtain ⟨its, rv, ⟨o, n, ho, hc, _, hd⟩, _⟩ := I.list hs
    obtain ⟨as, hr, hn⟩ := DrAll.reads I ha rv
    refine ⟨_, Reads.list ho hc hd hr, fun hm => ?_⟩
    rcases List.mem_cons.mp hm with e | hm
    · exact ne e.symm
    · exact hn hm
  | _, _, _, .tup hs ha, r => by
    cases r
    obtain ⟨its, rv, ⟨o, ho, hc, n, hd⟩, _⟩ := I.tuple hs
    obtain ⟨as, hr, hn⟩ := DrAll.reads I ha rv
    exact ⟨_, Reads.tuple ho hc hd hr, hn⟩
  | _, _, _, .dct (a := a) (ps := ps) hs hk hv, r => by
    cases r
    obtain ⟨_, hlow, vs, kv, o, es, ep, ho, ⟨hc, _, _⟩, hd, _, hp, _⟩ := I.hok _ _ hs
    obtain ⟨v1, v2⟩ := kv_keys kv hp
    obtain ⟨as, r1, n1⟩ := DrAll.reads I hk v1
    obtain ⟨bs, r2, n2⟩ := DrAll.reads I hv v2
    refine ⟨_, Reads.dict ho hc hd r1 r2, fun hm => ?_⟩
    have hl := beq_eq_false_iff_ne.mp hlow
    rw [List.cons_append, List.mem_cons, List.mem_append] at hm
    rcases hm with hm | hm | hm
    · exact hl hm.symm
    · exact n1 hm
    · exact n2 hm
theorem DrAll.reads (I : Inv X pins σ H s) : ∀ {vs : List V} {ds : List PyData} {us : List Value}, DrAll X.K H vs ds → Vals vs us → ∃ as, ReadsAll s.heap us ds as ∧ sysModules ∉ as
  | _, _, _, .nil, r => by
    cases r
    exact ⟨_, ReadsAll.nil, fun h => nomatch h⟩
  | _, _, _, .cons h1 h2, r => by
    cases r with
    | cons r1 r2 =>
      obtain ⟨as, q1, n1⟩ := Dr.reads I h1 r1
      obtain ⟨bs, q2, n2⟩ := DrAll.reads I h2 r2
      refine ⟨_, ReadsAll.cons q1 q2, fun hm => ?_⟩
      rcases List.mem_append.mp hm with hm | hm
      · exact n1 hm
      · exact n2 hm
end
/-- a list written out: new, and not sys.modules -/
def tLstN (t : TA) : TE := fun σ H Q => t σ H fun xs H1 => xs.length ≤ sizeLine ∧ ∀ p, H1 p = none → p ≠ sysModules → Q (.ref p) (upd H1 p (.lst xs))
theorem pe_lstN {es : List Expr} {pos : Pos} {t : TA} (h : PA X es t) : PE X (.List es pos) (tLstN t) := by
  refine ⟨fun pins s σ H Q I hq => ?_⟩
  refine wpAny_List_spliced (thn (h.run pos pins s σ H _ I hq) fun us s1 ⟨xs, H1, I1, r, z, q⟩ => ⟨by rw [← r.length]; exact z, ?_⟩)
  have hf : H1 s1.heap.objs.size = none := I1.hok.fresh (Nat.le_refl _)
  have hb : s1.heap.objs.size ≠ sysModules := fun e => by
    have := I1.big
    rw [e] at this
    exact Nat.lt_irrefl _ this
  refine ⟨.ref s1.heap.objs.size, upd H1 s1.heap.objs.size (.lst xs), I1.laid (t' := s1.toks) (fun b u e => Heap.get?_push_of_some _ e) (Nat.le_refl _) ?_, rfl, q _ hf hb⟩
  exact ⟨z, us, 0, r, Heap.get?_push_size _ rfl⟩
structure shownR (d : PyData) : Prop where
  sh : d.showable = true
  dep : d.depth ≤ 64
  len : d.shown.length ≤ sizeLine
def rReprR (K : PySem.W.Frag) : List V → Hp → VK → Prop := fun xs H Q => ∃ (v : V) (d : PyData), xs = [v] ∧ Dr K H v d ∧ shownR d ∧ Q (.str d.shown) H
theorem call_reprR (hg : X.A.guards = some []) (hu : X.A.units + 70 < cLine) : CallR X (.builtin "repr") (rReprR X.K) := by
  intro pins s σ H xs us Q I r h
  obtain ⟨v, d, rfl, hd, ⟨hs, hdep, hl⟩, q⟩ := h
  obtain ⟨u, rfl, ru⟩ := vals1 r
  obtain ⟨as, rd, hm⟩ := Dr.reads I hd ru
  have big : ∀ a, u = Value.ref a → wpAny (model X.prog X.w) X.A (call (.builtin "repr") [u]) (EP X pins σ Q) X.xe s := fun a e => by
    subst e
    exact repr_of_reads' rd hs (fun _ => hm) hg (by omega) (fun _ _ e => e) (fun h' t tk k => ⟨.str d.shown, H, I.kept k, ⟨_, rfl⟩, q⟩) hl
  cases hd with
  | non =>
    cases ru
    exact PySem.P.repr_of_none ⟨.str _, H, I.tok _, ⟨_, rfl⟩, by simpa only [PyData.shown] using q⟩
  | bl b =>
    cases ru
    exact PySem.P.repr_of_bool ⟨.str _, H, I.tok _, ⟨_, rfl⟩, by simpa only [PyData.shown] using q⟩
  | int i =>
    obtain ⟨t, rfl⟩ := ru
    exact PySem.P.repr_of_int (by simpa [PyData.showable] using hs) ⟨.str _, H, I.tok _, ⟨_, rfl⟩, by simpa only [PyData.shown] using q⟩
  | str x =>
    obtain ⟨t, rfl⟩ := ru
    exact PySem.P.repr_of_str ⟨.str _, H, I.tok _, ⟨_, rfl⟩, by simpa only [PyData.shown] using q⟩ (by simpa only [PyData.shown] using hl)
  | lst _ _ => exact big _ ru
  | tup _ _ => exact big _ ru
  | dct _ _ _ => exact big _ ru
end
end L2
set_option Elab.async false
set_option linter.all false
set_option maxRecDepth 100000
set_option maxHeartbeats 4000000
namespace L2
open PySem PySem.Spec PyProof.Rows
/-! a def whose promise is asked only where no repr is under way -/
structure FnG (P : Program) (w : World) (K : PySem.W.Frag) (mg : Str → Option Value) (base : Heap) (CX : CXT) (k : Nat) (f : Addr) (fd : FuncData) (ps : List Str) (sp : Sp) : Prop where
  run : ∀ (A : Around) (outer : List Env) (s : Shared) (H : Hp) (args : Args) (us : List Value) (vs : List V) (Q : VK) (E : XK), A.guards = some [] → Room k A → Env0 P w K mg base A outer s H →
    BindsTo s fd args (ps.zip us) → Vals vs us → sp vs H Q E → codeAny (model P w) A (.call (.ref f) args) (CR CX outer P w H s Q E) s
section
variable {P : Program} {w : World} {K : PySem.W.Frag} {mg : Str → Option Value} {base : Heap} {CX : CXT} {k : Nat}
theorem fnG_of {f : Addr} {nm ql : Str} {pa : Arguments} {bd : List Stmt} {sc : Scope} {dV kV dc pm cdv ct oc : Value} {an od : Option Addr} {osl : Array (Option Value)} {N ps : List Str} {sp : Sp}
    (lk : K.lookup f = some ⟨oc, od, .func (PySem.W.fnOf nm ql pa bd sc dV kV dc pm an cdv ct), osl⟩) (hcd : PySem.W.codeIn K cdv ql = true) (S : FnScope N ps sc)
    (ln : ∀ vs H Q E, sp vs H Q E → vs.length = ps.length)
    (hb : ∀ (A : Around) (outer : List Env) (s : Shared) (H : Hp) (vs : List V) (Q : VK) (E : XK), (A.deeper (envOfC ql sc s.heap.objs.size f cdv)).guards = some [] → Room k (A.deeper (envOfC ql sc s.heap.objs.size f cdv)) → sp vs H Q E →
      ∃ t, PSs (cxOf CX P w K mg base N ql sc f cdv A outer s H E) bd t ∧ t { nx := fun _ H' => Q .non H', rt := Q } (start N vs) H) :
    FnG P w K mg base CX (k + 1) f (PySem.W.fnOf nm ql pa bd sc dV kV dc pm an cdv ct) ps sp := by
  constructor
  intro A outer s H args us vs Q E hg hr e0 hbd rv hsp
  have hln := ln _ _ _ _ hsp
  have inK : K.In s.heap := e0.mod.kin.keeps (fun b o e => (e0.bs b o e).1)
  have noL : s.heap.NoLimit := e0.mod.nolimit.keeps (fun b o e => (e0.bs b o e).1)
  have hkd : ∀ y ∈ ps.zip us, sc.names.lookup y.1 = some .local ∨ (sc.names.lookup y.1 = some .cell ∧ ((cellsFrom (s.heap.objs.size + 1) sc.names []).lookup y.1).isSome = true) := by
    rintro ⟨n, v⟩ hy
    rcases S.par n (List.of_mem_zip hy).1 with z | z
    · exact Or.inl z
    · exact Or.inr ⟨z, PySem.W.cellsFrom_some _ _ _ (Or.inl z)⟩
  refine codeAny_call_function hr.depth (inK _ _ lk) rfl S.co S.gen rfl
    (PySem.W.codeRec_of inK hcd) (hbd _ _ _ _ ?_)
  refine wpAny_newFunctionEnv_cells S.kind hkd
    (fun env he s1 x => ?_)
  subst he
  refine ⟨noL.keeps x.toInCall.keep, codeAny_func ?_⟩
  obtain ⟨t, ht, hq⟩ := hb A outer s H vs Q E hg (hr.deeper _) hsp
  have I0 := inv_start (CX := CX) (E := E) S hr.hd e0 hln rv x
  refine wpAny_mono (ht.run [] s1 (start N vs) H _ I0 hq)
    (fun fl s' hs => ?_) (fun e s' hs => hs)
  have done : ∀ {σ' : St} {H' : Hp} {v : V} {u : Value}, Inv (cxOf CX P w K mg base N ql sc f cdv A outer s H E) [] σ' H' s' → RelV v u → Q v H' → CE outer P w H s Q u s' := by
    intro σ' H' v u J r q
    exact ⟨v, H', J.os, J.bare, J.base, J.hok, r, q⟩
  cases fl with
  | ret u =>
    obtain ⟨v, σ', H', J, r, q⟩ := hs
    exact done J r q
  | next =>
    obtain ⟨σ', H', J, q⟩ := hs
    exact done (v := .non) (u := .none) J rfl q
  | brk => exact (hs.elim fun _ ⟨_, _, q⟩ => q.elim)
  | cont => exact (hs.elim fun _ ⟨_, _, q⟩ => q.elim)
/-- by its place in the text, as C8's -/
theorem fnG0 {x : Str} {st : Stmt} {f : Addr} {fd : FuncData} {N ps : List Str} {sp : Sp} (D : C8.Def K mg x st f fd) (S : FnScope N ps (C8.fnScope st)) (ln : ∀ vs H Q E, sp vs H Q E → vs.length = ps.length)
    (hb : ∀ (cdv : Value) (A : Around) (outer : List Env) (s : Shared) (H : Hp) (vs : List V) (Q : VK) (E : XK), (A.deeper (envOfC x (C8.fnScope st) s.heap.objs.size f cdv)).guards = some [] → Room k (A.deeper (envOfC x (C8.fnScope st) s.heap.objs.size f cdv)) → sp vs H Q E →
      ∃ t, PSs (cxOf C8.CX0 P w K mg base N x (C8.fnScope st) f cdv A outer s H E).nox (C8.fnBody st) t ∧ t { nx := fun _ H' => Q .non H', rt := Q } (start N vs) H) : FnG P w K mg base C8.CX0 (k + 1) f fd ps sp := by
  obtain ⟨oc, od, dV, kV, doc, pm, an, cdv, ct, osl, rfl, lk, hcd⟩ := D.fn.ex
  refine fnG_of lk hcd S ln (fun A outer s H vs Q E hg hr hsp => ?_)
  obtain ⟨t, h, q⟩ := hb cdv A outer s H vs Q E hg hr hsp
  exact ⟨t, h.nox, q⟩
end
/-- the law's call, from such a promise -/
theorem lawG {P : Program} {w : World} {K : PySem.W.Frag} {mg mb : Str → Option Value} {CX : CXT} {k : Nat} {fa a : Addr} {fd : FuncData} {x : Str} {sp : Sp} {s₁ : Shared} {vs : List Value} {ns : List Int}
    (KX : K.In s₁.heap) (hns : s₁.heap.Ns mainGlobals mg) (hb : s₁.heap.Ns builtinsNs mb) (hbb : ∀ x : Str, x ≠ "__name__" → mb x = bootBuiltins x) (hlim : s₁.heap.NoLimit) (hg : s₁.gens = #[])
    (ha : s₁.heap.get? a = some { cls := .type "list", data := .seq vs.toArray }) (hi : IntsAre vs ns) (hl : ns.length ≤ sizeLine) (hr : Room k callerA)
    (F : ∀ base : Heap, K.In base → base.Ns mainGlobals mg → FnG P w K mg base CX k fa fd [x] sp)
    (hbind : ∀ (s : Shared) (u : Value), BindsTo s fd ⟨[u], []⟩ [(x, u)])
    (hsp : ∀ H : Hp, Only H → SqL K H a (ns.map V.int) → sp [.ref a] H (fun v _ => v = .bl true) fun _ _ _ => False)
    (hCX : ∀ H e s', CX [] H s₁ (fun _ _ _ => False) e s' → False) :
    codeAny (model P w) callerA (.call (.ref fa) ⟨[.ref a], []⟩) (fun r s' => r = .ok (.ret (.bool true)) ∧ OldK s₁.heap s'.heap ∧ s'.os = s₁.os ∧ AllBare s'.gens) s₁ := by
  have vi := vals_ints hi
  have hvl := hi.length
  have main : ∀ H : Hp, Only H → SqL K H a (ns.map V.int) → HOk P w H s₁.heap → (∀ b, H b ≠ none → b = a) → (H a ≠ none → K.lookup a = none) →
      codeAny (model P w) callerA (.call (.ref fa) ⟨[.ref a], []⟩) (fun r s' => r = .ok (.ret (.bool true)) ∧ OldK s₁.heap s'.heap ∧ s'.os = s₁.os ∧ AllBare s'.gens) s₁ := by
    intro H only hS hok onlyA noK
    have free : ∀ {b : Addr} {o : Obj} {es : Array DictEntry} {ep : Nat}, s₁.heap.get? b = some o → o.data = .dict es ep → H b = none := by
      intro b o es ep e d
      cases q : H b with
      | none => rfl
      | some u =>
        have hba : b = a := onlyA b (by rw [q]; simp)
        subst hba
        rw [ha] at e
        cases e
        exact nomatch (show Data.seq vs.toArray _ = Data.dict es ep from d)
    have nsAt : ∀ {b : Addr} {m : Str → Option Value}, s₁.heap.Ns b m → (hidT s₁.heap H).Ns b m := by
      rintro b m ⟨o, es, ep, e, d, r⟩
      exact ⟨o, es, ep, hidT_get e (free e d), d, r⟩
    have inB : K.In (hidT s₁.heap H) := by
      intro b o e
      refine hidT_get (KX b o e) ?_
      cases q : H b with
      | none => rfl
      | some u =>
        have hba : b = a := onlyA b (by rw [q]; simp)
        subst hba
        rw [noK (by rw [q]; simp)] at e
        cases e
    have md : Mod K mg (hidT s₁.heap H) := by
      obtain ⟨mc, h1, h2⟩ := hlim
      exact ⟨inB, nsAt hns, ⟨mb, nsAt hb, hbb⟩, ⟨mc, nsAt h1, h2⟩⟩
    have e0 : Env0 P w K mg (hidT s₁.heap H) callerA [] s₁ H := by
      refine ⟨rfl, md, fun b o e => of_hidT e, Nat.le_of_eq (hidT_size _ _), trivial, ?_, hok, .of_eq hg⟩
      intro b hb
      exact absurd (show b ∈ ([] : List Addr) from hb) (by simp)
    have hrun := (F _ inB (nsAt hns)).run callerA [] s₁ H ⟨[.ref a], []⟩ [.ref a] [.ref a] _ _ rfl hr e0
      (hbind s₁ (.ref a)) (.cons rfl .nil) (hsp H only hS)
    refine codeAny_mono hrun (fun r s' h => ?_)
    cases r with
    | error e => exact (hCX H e s' h).elim
    | ok fl =>
      cases fl with
      | ret u =>
        obtain ⟨v, H', os, bare, un, hok', r', q⟩ := h
        have qv : v = .bl true := q
        subst qv
        have ru : u = Value.bool true := r'
        subst ru
        refine ⟨rfl, OldK.of_keep ?_, os, bare⟩
        intro b o e
        cases q : H b with
        | none => exact un.keep b o e q (fun z => absurd (show b ∈ ([] : List Addr) from z) (by simp)) (by simp)
        | some u =>
          rcases only b with z | ⟨ob, ys, z⟩
          · rw [q] at z
            cases z
          · obtain ⟨e1, _⟩ := hok b _ z
            obtain ⟨e2, _⟩ := hok' b _ (un.frzs b ob _ z)
            rw [e] at e1
            cases e1
            exact e2
      | next => exact False.elim h
      | brk => exact False.elim h
      | cont => exact False.elim h
  cases hk : K.lookup a with
  | some o =>
    have e := KX a o hk
    rw [ha] at e
    cases e
    refine main (fun _ => none) (fun _ => Or.inl rfl) (Or.inr ⟨_, vs.toArray, _, hk, rfl, rfl, rfl, ?_, ?_⟩) ?_ (fun b z => absurd rfl z) (fun z => absurd rfl z)
    · rw [List.size_toArray, hvl]
      exact hl
    · simpa using vi
    · intro b u z
      exact nomatch (show (none : Option HO) = some u from z)
  | none =>
    refine main (fun b => if b = a then some (.frz { cls := .type "list", data := .seq vs.toArray } (.lst (ns.map V.int))) else none) (fun b => ?_) (Or.inl (Or.inr ⟨_, if_pos rfl⟩)) (fun b u z => ?_) (fun b z => ?_) (fun _ => hk)
    · by_cases hba : b = a
      · exact Or.inr ⟨_, _, if_pos hba⟩
      · exact Or.inl (if_neg hba)
    · by_cases hba : b = a
      · have zz := (if_pos hba).symm.trans z
        cases zz
        subst hba
        exact ⟨ha, by rw [List.length_map]; exact hl, vs, _, vi, ha⟩
      · have zz := (if_neg hba).symm.trans z
        cases zz
    · by_cases hba : b = a
      · exact hba
      · exact absurd (if_neg hba) z
/-- the goal that the head leaves, from such a promise of the law's def -/
theorem walkG {l : PySem.W.OpenLaw} {n k : Nat} {q : Program} {loose : List Str} {XP : (Str → Option Value) → Heap → Prop} {YP : World → Heap → Prop} {d : DefRec} {K : Params → PySem.W.Frag} {sp : PySem.W.Frag → Sp} {x : Str}
    (hn : l.most = some n) (hn2 : n ≤ sizeLine) (hdf : d.params.defaults = []) (hr : Room k callerA) (hY : ∀ (w : World) (h : Heap), YP w h → (K w.params).In h)
    (F : ∀ (w : World) (mg : Str → Option Value) (fa : Addr) (h : Heap), (K w.params).In h → h.Ns mainGlobals mg → mg d.name = some (.ref fa) →
      ∃ fd : FuncData, (∀ (s : Shared) (u : Value), BindsTo s fd ⟨[u], []⟩ [(x, u)]) ∧ ∀ base : Heap, (K w.params).In base → base.Ns mainGlobals mg → FnG l.prog w (K w.params) mg base C8.CX0 k fa fd [x] (sp (K w.params)))
    (hsp : ∀ (K : PySem.W.Frag) (H : Hp) (a : Addr) (ns : List Int), ns.length ≤ n → Only H → SqL K H a (ns.map V.int) → sp K [.ref a] H (fun v _ => v = .bl true) fun _ _ _ => False) :
    PySem.W.WalkO q loose XP YP l.row.toRowW d [] (fun f vs => PySem.call f vs) := by
  refine Att.attach_call hn hdf ?_
  intro w s₀ s₁ mg mb fa o pm cd doc a vs ns G Y ho hd hcd hmg hobj hints hlen hg
  have inK := hY w _ Y
  obtain ⟨fd, hb, hF⟩ := F w mg fa _ inK G.T.g hmg
  exact lawG inK G.T.g G.T.b G.T.builtins G.T.nolimit hg hobj hints (Nat.le_trans hlen hn2) hr hF hb (fun H hO hS => hsp _ H a ns hlen hO hS) (fun H e s' z => z)
end L2
set_option Elab.async false
set_option linter.all false
set_option maxRecDepth 100000
set_option maxHeartbeats 4000000
namespace L2
open PySem PySem.Spec PyProof.Rows
/-- a def by its name, its promise asked only where no repr is under way -/
structure CalG (P : Program) (w : World) (K : PySem.W.Frag) (mg : Str → Option Value) (base : Heap) (k : Nat) (x : Str) (sp : Sp) : Prop where
  ex : ∃ (f : Addr) (fd : FuncData) (ps : List Str), (∀ vs H Q E, sp vs H Q E → vs.length = ps.length) ∧ FnG P w K mg base C8.CX0 k f fd ps sp ∧ mg x = some (.ref f) ∧ PySem.W.keepIn K (.ref f) = true ∧ Binds K fd ps []
section
variable {X : Cx} {k j : Nat} {x : Str} {sp : Sp} {p pos : Pos} {e : Expr} {es : List Expr} {t : TA}
theorem pe_cg (c : CalG X.prog X.w X.K X.mg X.base k x sp) (hgd : X.A.guards = some []) (hr : Room j X.A) (hk : k ≤ j) (hg : Gl X x) (ha : PA X (e :: es) t)
    (hdb : (x == ("__debug__" : Str)) = false := by decide) (he : starEach (e :: es) X.env = (false, eval e X.env) :: starEach es X.env := by rfl) (hpl : (backTo pos (starEach es X.env)).any (·.1) = false := by rfl) :
    PE X (.Call (.Name x p) (e :: es) [] pos) (tCall sp [] C8.E0 t) := by
  obtain ⟨f, fd, ps, ln, F, hm, kp, hb⟩ := c.ex
  refine ⟨fun pins s σ H Q I h => ?_⟩
  refine wpAny_Call_Name_kw (ld_glob I hg hm ?_ hdb)
  refine PySem.W.callWith_K (h₀ := X.base) I.ok.mod.kin kp (thn (ha.run pos pins s σ H _ I h) fun us s1 ⟨vs, H1, I1, r, q⟩ => ⟨I1.kIn, ?_⟩) he hpl
  have r2 : Vals (vs ++ []) (us ++ []) := r.append .nil
  have hl : (us ++ []).length = ps.length := by rw [← r2.length]; exact ln _ _ _ _ q
  refine wpAny_call (codeAny_mono (F.run X.A X.stack s1 H1 ⟨us, []⟩ (us ++ []) (vs ++ []) Q C8.E0 hgd (hr.mono hk) I1.env0 (hb s1 us I1.kIn hl) r2 q) fun r s' hq => ?_)
  cases r with
  | error e => exact (C8.pass0 (X := X) (E := C8.E0)) pins σ H1 s1 e s' I1 hq
  | ok fl =>
    cases fl with
    | ret u => exact I1.after hq
    | next => exact False.elim hq
    | brk => exact False.elim hq
    | cont => exact False.elim hq
end
end L2
set_option Elab.async false
set_option linter.all false
set_option maxRecDepth 100000
set_option maxHeartbeats 4000000
/-! *d of a dict in a list written out; d != {}; small data; data of tuples alone. -/
namespace L2
open PySem PySem.Spec PyProof.Rows
section
variable {X : Cx} {pins : List (Addr × Obj)} {σ : L2.St} {H : Hp} {s : Shared}
theorem star_dct (hcalm : X.calm = true) {a : Addr} {kvs : List (Key × V)} {E : Value → Shared → Prop} {Q : List Value → Shared → Prop} (I : Inv X pins σ H s) (h : H a = some (.dK kvs)) (hQ : ∀ us s', Inv X pins σ H s' → Vals (kvs.map fun q => kV q.1) us → Q us s') : PySem.W.StarOf (model X.prog X.w) X.A E (.ref a) Q s := by
  obtain ⟨z, lo, vs, rel, dd⟩ := dk_rd I.hok (.inl h)
  obtain ⟨ep, hat⟩ := dd.dictAt
  have hl : vs.length = kvs.length := rel.length.symm
  have hT : s.TypeIs (.ref a) "dict" := dd.typeIs
  have w : wpAny (model X.prog X.w) X.A (collect (.ref a)) Q E s := by
    refine PySem.W.kdu_collect (A := X.A) (PySem.W.kdl_dict (knd := mixKind X.prog X.w) (kvs := vs) (ep := ep) lo) (I.ok.hd hcalm) hat (by omega) fun h' tk acc hk hacc => ?_
    refine hQ _ _ (I.kept hk) ?_
    have e : (kvs.map fun q => kV q.1) = vs.map fun q => kV q.1 := by
      have e1 := rel.keys
      have e2 : (kvs.map (·.1)).map kV = (vs.map (·.1)).map kV := by rw [e1]
      simpa [List.map_map, Function.comp_def] using e2
    rw [e]
    refine keys_at (by rw [Array.length_toList, hacc.1]) fun j v hv => ?_
    exact hacc.2 j v (by rw [← Array.getElem?_toList]; exact hv)
  unfold PySem.W.StarOf notIterableAtAll
  exact wpAny_bind (wpAny_specialOf hT PySem.F.slot_dict_iter.lookup (wpAny_pure ⟨rfl, w⟩))
/-- *d in a list: the keys of a dict -/
def tStarD (te : TE) (t : TA) : TA := fun σ H Q => te σ H fun x H1 => ∃ p kvs, x = V.ref p ∧ H1 p = some (.dK kvs) ∧ t σ H1 fun ys H2 => Q ((kvs.map fun q => kV q.1) ++ ys) H2
theorem pa_starD (hcalm : X.calm = true) {e : Expr} {es : List Expr} {te : TE} {t : TA} {p : Pos} (he : PE X e te) (hr : PA X es t) (hs : starEach (.Starred e p :: es) X.env = (true, eval e X.env) :: starEach es X.env := by rfl) : PA X (.Starred e p :: es) (tStarD te t) := by
  refine ⟨fun pos pins s σ H Q I h => ?_⟩
  refine PySem.W.items_star (thn (he.run pins s σ H _ I h) fun v s1 ⟨y, H1, I1, ry, a, kvs, ey, hx, q⟩ => ?_) hs
  subst ey
  obtain rfl : v = Value.ref a := ry
  refine star_dct hcalm I1 hx fun us s2 I2 rv => ?_
  exact thn (hr.run pos pins s2 σ H1 _ I2 q) fun ws s3 ⟨vs, H3, I3, r3, q3⟩ => ⟨_, H3, I3, rv.append r3, q3⟩
def rNeE : R2 := fun x y H Q => ∃ a b ks, x = .ref a ∧ y = .ref b ∧ H a = some (.dK ks) ∧ H b = some (.dK []) ∧ Q (.bl (!ks.isEmpty)) H
theorem op_neE (hu : X.A.units < cLine) : OpR X (compareOp .NotEq) rNeE := by
  intro pins s σ H x y v u Q I rx ry h
  obtain ⟨a, b, ks, rfl, rfl, ea, eb, q⟩ := h
  obtain rfl : v = Value.ref a := rx
  obtain rfl : u = Value.ref b := ry
  obtain ⟨_, ya, va, ra, da⟩ := (show ObjOk X.prog X.w H s.heap a (.dK ks) from I.hok a _ ea)
  obtain ⟨_, yb, vb, rb, db⟩ := (show ObjOk X.prog X.w H s.heap b (.dK []) from I.hok b _ eb)
  cases rb
  have hl : va.length = ks.length := ra.length.symm
  refine PySem.W.keq_ne (knd := mixKind X.prog X.w) (r := true) ya yb da db hu (fun e => ?_) ⟨.bl _, H, I, rfl, ?_⟩
  · cases va with
    | nil => exact .nil
    | cons p r => cases e
  · have e : (va.length == ([] : List (Key × Value)).length && true) = ks.isEmpty := by
      rw [hl]
      cases ks <;> rfl
    rw [e]
    exact q
end
end L2

/-! ### small data -/
namespace KD
open PySem PySem.Spec PyProof.Rows L2
structure Ok (n m : Nat) (d : PyData) : Prop where
  dep : d.depth ≤ n
  wt : d.weight ≤ m
  ls : d.leavesShort 14 = true
  shw : d.showable = true
structure OkAll (n m : Nat) (ds : List PyData) : Prop where
  dep : PyData.depthAll ds ≤ n
  wt : PyData.weightAll ds ≤ m
  ls : PyData.leavesShortAll 14 ds = true
  shw : PyData.showableAll ds = true
theorem Ok.mono {n m n' m' : Nat} {d : PyData} (h : Ok n m d) (hn : n ≤ n') (hm : m ≤ m') : Ok n' m' d := ⟨Nat.le_trans h.dep hn, Nat.le_trans h.wt hm, h.ls, h.shw⟩
theorem OkAll.mono {n m n' m' : Nat} {ds : List PyData} (h : OkAll n m ds) (hn : n ≤ n') (hm : m ≤ m') : OkAll n' m' ds := ⟨Nat.le_trans h.dep hn, Nat.le_trans h.wt hm, h.ls, h.shw⟩
theorem OkAll.nil {n m : Nat} : OkAll n m [] := ⟨by simp [PyData.depthAll], by simp [PyData.weightAll], by simp [PyData.leavesShortAll], by simp [PyData.showableAll]⟩
theorem OkAll.cons {n a b : Nat} {d : PyData} {ds : List PyData} (h : Ok n a d) (t : OkAll n b ds) : OkAll n (a + 1 + b) (d :: ds) :=
  ⟨by simp only [PyData.depthAll]; exact Nat.max_le.mpr ⟨h.dep, t.dep⟩, by simp only [PyData.weightAll]; have := h.wt; have := t.wt; omega, by simp only [PyData.leavesShortAll, h.ls, t.ls, Bool.and_self], by simp only [PyData.showableAll, h.shw, t.shw, Bool.and_self]⟩
theorem OkAll.app {n : Nat} : ∀ {a b : Nat} {ds es : List PyData}, OkAll n a ds → OkAll n b es → OkAll n (a + b) (ds ++ es)
  | a, b, [], es, _, t => t.mono (Nat.le_refl _) (Nat.le_add_left _ _)
  | a, b, d :: ds, es, h, t => by
    have hd : max d.depth (PyData.depthAll ds) ≤ n := by simpa only [PyData.depthAll] using h.dep
    have hw : d.weight + 1 + PyData.weightAll ds ≤ a := by simpa only [PyData.weightAll] using h.wt
    have hl : d.leavesShort 14 = true ∧ PyData.leavesShortAll 14 ds = true := by simpa [PyData.leavesShortAll] using h.ls
    have hv : d.showable = true ∧ PyData.showableAll ds = true := by simpa [PyData.showableAll] using h.shw
    have h1 : Ok n d.weight d := ⟨Nat.le_trans (Nat.le_max_left _ _) hd, Nat.le_refl _, hl.1, hv.1⟩
    have h2 : OkAll n (a - d.weight - 1) ds := ⟨Nat.le_trans (Nat.le_max_right _ _) hd, by omega, hl.2, hv.2⟩
    exact (OkAll.cons h1 (OkAll.app h2 t)).mono (Nat.le_refl _) (by omega)
theorem Ok.tup {n m : Nat} {ds : List PyData} (h : OkAll n m ds) : Ok (n + 1) m (.tuple ds) :=
  ⟨by simp only [PyData.depth]; have := h.dep; omega, by simp only [PyData.weight]; exact h.wt, by simp only [PyData.leavesShort, h.ls], by simp only [PyData.showable, h.shw]⟩
theorem Ok.lst {n m : Nat} {ds : List PyData} (h : OkAll n m ds) : Ok (n + 1) m (.list ds) :=
  ⟨by simp only [PyData.depth]; have := h.dep; omega, by simp only [PyData.weight]; exact h.wt, by simp only [PyData.leavesShort, h.ls], by simp only [PyData.showable, h.shw]⟩
theorem Ok.str {n m : Nat} {z : Str} (hl : z.length ≤ m) (hc : ∀ c ∈ z.cps.toList, c < 128) : Ok n m (.str z) := by
  refine ⟨by simp [PyData.depth], by simp only [PyData.weight]; exact hl, ?_, by simp [PyData.showable]⟩
  simp only [PyData.leavesShort, List.all_eq_true, decide_eq_true_eq]
  intro c h
  have := hc c h
  have e : (16 : Nat) ^ 8 = 4294967296 := by decide
  omega
theorem Ok.bool {n m : Nat} (b : Bool) : Ok n m (.bool b) := ⟨by simp [PyData.depth], by simp [PyData.weight], rfl, rfl⟩
theorem Ok.none {n m : Nat} : Ok n m .none := ⟨by simp [PyData.depth], by simp [PyData.weight], rfl, rfl⟩
theorem Ok.num {n m : Nat} {i : Int} (h0 : -10000000000000 < i) (h1 : i < 10000000000000) (hm : 50 ≤ m) : Ok n m (.int i) := by
  have hl : i.natAbs < 2 ^ 44 := by
    have : (2 : Nat) ^ 44 = 17592186044416 := by decide
    omega
  refine ⟨by simp [PyData.depth], ?_, ?_, ?_⟩
  · simp only [PyData.weight]
    split
    · exact Nat.zero_le _
    · have := PySem.Flt.log2_lt_of (by decide : 0 < 44) hl
      omega
  · simp only [PyData.leavesShort, decide_eq_true_eq]
    show (Str.ofString (toString i)).length ≤ 14
    have e13 : (10 : Int) ^ 13 = 10000000000000 := by decide
    by_cases hn : 0 ≤ i
    · have := PyProof.Rows.toString_length_le hn (k := 13) (by decide) (by omega)
      omega
    · have e := PyProof.Rows.len_text_negI (n := i) (by omega)
      have := PyProof.Rows.toString_length_le (v := 0 - i) (by omega) (k := 13) (by decide) (by omega)
      omega
  · have := PySem.Flt.log2_lt_of (by decide : 0 < 44) hl
    simp only [PyData.showable, decide_eq_true_eq]
    omega
structure OkKv (n m : Nat) (ps : List (PyData × PyData)) : Prop where
  dep : PyData.depthKv ps ≤ n
  wt : PyData.weightKv ps ≤ m
  ls : PyData.leavesShortKv 14 ps = true
  shw : PyData.showableKv ps = true
theorem OkKv.nil {n m : Nat} : OkKv n m [] := ⟨by simp [PyData.depthKv], by simp [PyData.weightKv], by simp [PyData.leavesShortKv], by simp [PyData.showableKv]⟩
theorem OkKv.mono {n m n' m' : Nat} {ps : List (PyData × PyData)} (h : OkKv n m ps) (hn : n ≤ n') (hm : m ≤ m') : OkKv n' m' ps := ⟨Nat.le_trans h.dep hn, Nat.le_trans h.wt hm, h.ls, h.shw⟩
theorem OkKv.cons {n a b : Nat} {k v : PyData} {ps : List (PyData × PyData)} (hk : Ok n a k) (hv : Ok n a v) (t : OkKv n b ps) : OkKv n (2 * a + 2 + b) ((k, v) :: ps) :=
  ⟨by simp only [PyData.depthKv]; exact Nat.max_le.mpr ⟨Nat.max_le.mpr ⟨hk.dep, hv.dep⟩, t.dep⟩, by simp only [PyData.weightKv]; have := hk.wt; have := hv.wt; have := t.wt; omega, by simp only [PyData.leavesShortKv, hk.ls, hv.ls, t.ls, Bool.and_self], by simp only [PyData.showableKv, hk.shw, hv.shw, t.shw, Bool.and_self]⟩
theorem Ok.dict {n m : Nat} {ps : List (PyData × PyData)} (h : OkKv n m ps) : Ok (n + 1) m (.dict ps) :=
  ⟨by simp only [PyData.depth]; have := h.dep; omega, by simp only [PyData.weight]; exact h.wt, by simp only [PyData.leavesShort, h.ls], by simp only [PyData.showable, h.shw]⟩
theorem Ok.shown {n m : Nat} {d : PyData} (h : Ok n m d) (hn : n ≤ 64) (hm : m ≤ 100000) (hk : nl d = true) : shownQ d := by
  have hw := h.wt
  have := PyData.shown_le 14 (by decide) d h.ls
  have hd := h.dep
  exact ⟨h.shw, by omega, by rw [sizeLine_eq]; omega, fun _ => hk⟩
theorem Ok.shownR_ {n m : Nat} {d : PyData} (h : Ok n m d) (hn : n ≤ 64) (hm : m ≤ 100000) : shownR d := by
  have hw := h.wt
  have := PyData.shown_le 14 (by decide) d h.ls
  have hd := h.dep
  exact ⟨h.shw, by omega, by rw [sizeLine_eq]; omega⟩
/-! ### tuples stay -/
def TupS (H H' : Hp) : Prop := ∀ b xs, H b = some (.tup xs) → H' b = some (.tup xs)
theorem TupS.refl (H : Hp) : TupS H H := fun _ _ h => h
theorem TupS.trans {H H1 H2 : Hp} (a : TupS H H1) (b : TupS H1 H2) : TupS H H2 := fun c xs h => b c xs (a c xs h)
theorem TupS.same {H H' : Hp} (e : Same H H') : TupS H H' := fun b xs h => e _ _ h
theorem TupS.new {H : Hp} {q : Addr} {o : HO} (h : H q = none) : TupS H (upd H q o) := TupS.same (Same.new h)
theorem TupS.put {H : Hp} {q : Addr} {xs : List V} {o : HO} (h : H q = some (.lst xs)) : TupS H (upd H q o) := fun b ys e => by
  have n : b ≠ q := fun z => by
    rw [z, h] at e
    cases e
  rw [upd_ne n]
  exact e
theorem TupS.dput {H : Hp} {q : Addr} {xs : List (Key × V)} {o : HO} (h : H q = some (.dK xs)) : TupS H (upd H q o) := fun b ys e => by
  have n : b ≠ q := fun z => by
    rw [z, h] at e
    cases e
  rw [upd_ne n]
  exact e
/-! ### data of tuples alone -/
mutual
inductive Td (H : Hp) : V → PyData → Prop
  | bl (b : Bool) : Td H (.bl b) (.bool b)
  | int (i : Int) : Td H (.int i) (.int i)
  | str (x : Str) : Td H (.str x) (.str x)
  | tup {a : Addr} {xs : List V} {ds : List PyData} : H a = some (.tup xs) → TdAll H xs ds → Td H (.ref a) (.tuple ds)
inductive TdAll (H : Hp) : List V → List PyData → Prop
  | nil : TdAll H [] []
  | cons {v : V} {vs : List V} {d : PyData} {ds : List PyData} : Td H v d → TdAll H vs ds → TdAll H (v :: vs) (d :: ds)
end
mutual
theorem Td.mono {H H' : Hp} (e : TupS H H') : ∀ {v : V} {d : PyData}, Td H v d → Td H' v d
  | _, _, .bl b => .bl b
  | _, _, .int i => .int i
  | _, _, .str x => .str x
  | _, _, .tup h a => .tup (e _ _ h) (TdAll.mono e a)
theorem TdAll.mono {H H' : Hp} (e : TupS H H') : ∀ {vs : List V} {ds : List PyData}, TdAll H vs ds → TdAll H' vs ds
  | _, _, .nil => .nil
  | _, _, .cons h t => .cons (Td.mono e h) (TdAll.mono e t)
end
mutual
theorem Td.p {K : PySem.W.Frag} {H : Hp} : ∀ {v : V} {d : PyData}, Td H v d → Dp K H v d
  | _, _, .bl b => .bl b
  | _, _, .int i => .int i
  | _, _, .str x => .str x
  | _, _, .tup h a => .tup (SqT.of h) (TdAll.p a)
theorem TdAll.p {K : PySem.W.Frag} {H : Hp} : ∀ {vs : List V} {ds : List PyData}, TdAll H vs ds → DpAll K H vs ds
  | _, _, .nil => .nil
  | _, _, .cons h t => .cons (Td.p h) (TdAll.p t)
end
mutual
theorem Td.nl {H : Hp} : ∀ {v : V} {d : PyData}, Td H v d → L2.nl d = true
  | _, _, .bl b => by simp [L2.nl]
  | _, _, .int i => by simp [L2.nl]
  | _, _, .str x => by simp [L2.nl]
  | _, _, .tup h a => by simpa [L2.nl] using TdAll.nl a
theorem TdAll.nl {H : Hp} : ∀ {vs : List V} {ds : List PyData}, TdAll H vs ds → nls ds = true
  | _, _, .nil => by simp [nls]
  | _, _, .cons h t => by simp [nls, Td.nl h, TdAll.nl t]
end
theorem TdAll.app {H : Hp} : ∀ {vs ws : List V} {ds es : List PyData}, TdAll H vs ds → TdAll H ws es → TdAll H (vs ++ ws) (ds ++ es)
  | _, _, _, _, .nil, t => t
  | _, _, _, _, .cons h s, t => .cons h (TdAll.app s t)
theorem TdAll.len {H : Hp} : ∀ {vs : List V} {ds : List PyData}, TdAll H vs ds → vs.length = ds.length
  | _, _, .nil => rfl
  | _, _, .cons _ t => congrArg (· + 1) (TdAll.len t)
theorem Td.newT {q : Addr} {H : Hp} {xs : List V} {ds : List PyData} (hq : H q = none) (h : TdAll H xs ds) : Td (upd H q (.tup xs)) (.ref q) (.tuple ds) := .tup upd_same (h.mono (TupS.new hq))
theorem td_strs {H : Hp} : ∀ zs : List Str, TdAll H (zs.map V.str) (zs.map PyData.str)
  | [] => .nil
  | z :: zs => .cons (.str z) (td_strs zs)
theorem ok_strs {n m : Nat} : ∀ {zs : List Str}, (∀ z ∈ zs, z.length ≤ m ∧ ∀ c ∈ z.cps.toList, c < 128) → OkAll n (zs.length * (m + 1)) (zs.map PyData.str)
  | [], _ => .nil
  | z :: zs, h => (OkAll.cons (a := m) (.str (h z List.mem_cons_self).1 (h z List.mem_cons_self).2) (ok_strs fun y hy => h y (List.mem_cons_of_mem _ hy))).mono (Nat.le_refl _) (by rw [List.length_cons, Nat.succ_mul]; omega)
end KD
set_option Elab.async false
set_option linter.all false
set_option maxRecDepth 100000
set_option maxHeartbeats 4000000
/-! len of a set of texts -/
namespace L2
open PySem PySem.Spec PyProof.Rows
abbrev rLenS (K : PySem.W.Frag) : List V → Hp → VK → Prop := fun xs H Q => ∃ p ys, xs = [.ref p] ∧ (SqL K H p ys ∨ SqT K H p ys) ∧ Q (.int ys.length) H
def rLenX (P : Program) (w : World) : List V → Hp → VK → Prop := fun vs H Q => ∃ (a : Addr) (l : List Str), vs = [V.ref a] ∧ H a = some (SetXO P w a l) ∧ l.length < 100000 ∧ Q (.int (l.length : Nat)) H
section
variable {X : Cx}
theorem call_lenX : CallR X (.builtin "len") (rLenX X.prog X.w) := by
  intro pins s σ H vs us Q I r h
  obtain ⟨a, l, rfl, ha, h64, q⟩ := h
  have x : SetX X.prog X.w s.heap a l := (I.hok a _ ha).1
  obtain ⟨⟨es, ep, t⟩, e, F, nd, ri, ld⟩ := x
  have hsz : es.size = l.length := F.sz
  rw [Vals.ref1 r]
  refine call_len_set e ⟨rfl, rfl, rfl⟩ rfl F.fit (by rw [hsz]; have : (2 : Int) ^ 63 = 9223372036854775808 := by decide
                                                      omega) ⟨.int (l.length : Nat), H, I.tok _, ⟨_, by rw [hsz]⟩, q⟩
end
/-! ### a tuple == () -/
def rEqTNil (K : PySem.W.Frag) : R2 := fun x y H Q => ∃ a b xs, x = .ref a ∧ y = .ref b ∧ SqT K H a xs ∧ SqT K H b [] ∧ Q (.bl xs.isEmpty) H
section
variable {X : Cx}
theorem op_eqTNil (hu : X.A.units + 64 < cLine) : OpR X (compareOp .Eq) (rEqTNil X.K) := by
  intro pins s σ H x y v u Q I rx ry h
  obtain ⟨a, b, xs, rfl, rfl, ha, hb, q⟩ := h
  cases rx
  cases ry
  obtain ⟨its, r1, ⟨⟨cls, dd, data, sl⟩, ho, hc, n, hd⟩, hz1⟩ := I.tuple ha
  obtain ⟨its2, r2, ⟨⟨cls2, dd2, data2, sl2⟩, ho2, hc2, n2, hd2⟩, hz2⟩ := I.tuple hb
  simp only at hc hd hc2 hd2
  subst hc hd hc2 hd2
  cases r2
  have hl1 := r1.length
  have e := SeqAt.tuple_eqAt a b its.toArray (#[] : Array Value) n n2 dd dd2 sl sl2 (fun _ => true)
  have er : ((List.range (min its.toArray.size (#[] : Array Value).size)).all (fun _ => true) && its.toArray.size == (#[] : Array Value).size) = xs.isEmpty := by
    have h0 : min its.toArray.size (#[] : Array Value).size = 0 := Nat.min_zero _
    rw [h0, List.size_toArray, ← hl1]
    cases xs <;> rfl
  exact richCompare_meets_room (op := .Eq) ⟨_, ho, rfl⟩ ⟨_, ho2, rfl⟩ F.slot_tuple_eq F.entry_tuple_eq (F.args_tuple_eq_2 _ _) e
    ⟨ho, ho2, fun j h1 h2 => absurd h2 (Nat.not_lt_zero _), show Value.bool _ ≠ Value.notImplemented ∧ _ from ⟨(fun x => nomatch x), .bl _, H, I, by rw [er]; rfl, q⟩⟩ (by omega)
end
/-! ### two for in one comprehension: over a tuple, and over a list within -/
/-- what a loop wants, by what stands at each place -/
theorem by_place {n : Nat} {H0 : Hp} {Go Stop : Nat → Hp → Prop} {Body : Nat → Hp → (Hp → Prop) → Prop} (At : Nat → Hp → Prop) (h0 : At 0 H0) (hs : ∀ i H, i < n → At i H → Go i H ∧ Body i H (At (i + 1))) (hd : ∀ H, At n H → Stop n H) :
    ∃ W : Nat → Nat → Hp → Prop, (∃ m, W 0 m H0) ∧ ∀ i m H, W i m H → Stop i H ∨ (Go i H ∧ ∃ Nx : Hp → Prop, (∀ H', Nx H' → ∃ m', m' < m ∧ W (i + 1) m' H') ∧ Body i H Nx) := by
  refine ⟨fun i m H => i + m = n ∧ At i H, ⟨n, Nat.zero_add n, h0⟩, fun i m H w => ?_⟩
  obtain ⟨e, p⟩ := w
  cases m with
  | zero =>
    obtain rfl : i = n := e
    exact Or.inl (hd H p)
  | succ m =>
    have r := hs i H (by omega) p
    exact Or.inr ⟨r.1, At (i + 1), fun H' p' => ⟨m, Nat.lt_succ_self m, by omega, p'⟩, r.2⟩
theorem lc2_tup {K : PySem.W.Frag} {a : Addr} {xs : List V} {g g1 : TG} {tt tt1 : TT} {wi1 : TI} {te : TE} {vs vs1 : List Nat} {σ : L2.St} {H1 : Hp} {D : Addr} {Qd : Hp → Prop} (Pv : Nat → Hp → Prop) (h0 : Pv 0 (upd H1 D (.lst []))) (hl : ∀ i H, i ≤ xs.length → Pv i H → SqT K H a xs)
    (hs : ∀ i x H, xs[i]? = some x → Pv i H → g x (wipe σ vs) H fun σ2 H2 => wipe σ2 vs = wipe σ vs ∧ tt σ2 H2 fun b H3 =>
      if b = true then wi1 σ2 H3 fun J1 H4 => ∃ W1 : Nat → Nat → Hp → Prop, (∃ m, W1 0 m H4) ∧ ∀ j k H, W1 j k H →
        (J1.stop j H ∧ Pv (i + 1) H) ∨ (J1.go j H ∧ ∃ Nx1 : Hp → Prop, (∀ H', Nx1 H' → ∃ k', k' < k ∧ W1 (j + 1) k' H') ∧ ∀ x H', J1.yld j H x H' → g1 x (wipe σ2 vs1) H' fun σ3 H5 => wipe σ3 vs1 = wipe σ2 vs1 ∧ tt1 σ3 H5 fun b H6 =>
          if b = true then te σ3 H6 fun y H7 => ∃ acc, H7 D = some (.lst acc) ∧ acc.length < sizeLine ∧ Nx1 (upd H7 D (.lst (acc ++ [y]))) else Nx1 H6)
      else Pv (i + 1) H3) (hd : ∀ H, Pv xs.length H → Qd H) :
    ∃ W : Nat → Nat → Hp → Prop, (∃ m, W 0 m (upd H1 D (.lst []))) ∧ ∀ q m H, W q m H →
      ((Itt K a).stop q H ∧ Qd H) ∨ ((Itt K a).go q H ∧ ∃ Nx : Hp → Prop, (∀ H', Nx H' → ∃ m', m' < m ∧ W (q + 1) m' H') ∧ ∀ x H', (Itt K a).yld q H x H' → g x (wipe σ vs) H' fun σ2 H2 => wipe σ2 vs = wipe σ vs ∧ tt σ2 H2 fun b H3 =>
        if b = true then wi1 σ2 H3 fun J1 H4 => ∃ W1 : Nat → Nat → Hp → Prop, (∃ m, W1 0 m H4) ∧ ∀ j k H, W1 j k H →
          (J1.stop j H ∧ Nx H) ∨ (J1.go j H ∧ ∃ Nx1 : Hp → Prop, (∀ H', Nx1 H' → ∃ k', k' < k ∧ W1 (j + 1) k' H') ∧ ∀ x H', J1.yld j H x H' → g1 x (wipe σ2 vs1) H' fun σ3 H5 => wipe σ3 vs1 = wipe σ2 vs1 ∧ tt1 σ3 H5 fun b H6 =>
            if b = true then te σ3 H6 fun y H7 => ∃ acc, H7 D = some (.lst acc) ∧ acc.length < sizeLine ∧ Nx1 (upd H7 D (.lst (acc ++ [y]))) else Nx1 H6)
        else Nx H3) := by
  refine by_place (n := xs.length) Pv h0 (fun i H hi p => ⟨⟨xs, xs[i], hl i H (Nat.le_of_lt hi) p, List.getElem?_eq_getElem hi⟩, fun x H' y => ?_⟩) (fun H p => ⟨⟨xs, hl _ H (Nat.le_refl _) p, Nat.le_refl _⟩, hd H p⟩)
  rw [y.1]
  exact hs i x H (y.2 xs (hl i H (Nat.le_of_lt hi) p)) p
theorem lc2_in {K : PySem.W.Frag} {l : Addr} {ys : List V} {g1 : TG} {tt1 : TT} {te : TE} {vs1 : List Nat} {σ2 : L2.St} {H4 : Hp} {D : Addr} {Nx : Hp → Prop} (Pi : Nat → Hp → Prop) (h0 : Pi 0 H4) (hl : ∀ j H, j ≤ ys.length → Pi j H → SqL K H l ys)
    (hs : ∀ j y H, ys[j]? = some y → Pi j H → g1 y (wipe σ2 vs1) H fun σ3 H5 => wipe σ3 vs1 = wipe σ2 vs1 ∧ tt1 σ3 H5 fun b H6 =>
      if b = true then te σ3 H6 fun y H7 => ∃ acc, H7 D = some (.lst acc) ∧ acc.length < sizeLine ∧ Pi (j + 1) (upd H7 D (.lst (acc ++ [y]))) else Pi (j + 1) H6) (hd : ∀ H, Pi ys.length H → Nx H) :
    ∃ W1 : Nat → Nat → Hp → Prop, (∃ m, W1 0 m H4) ∧ ∀ j k H, W1 j k H →
      ((Itl K l).stop j H ∧ Nx H) ∨ ((Itl K l).go j H ∧ ∃ Nx1 : Hp → Prop, (∀ H', Nx1 H' → ∃ k', k' < k ∧ W1 (j + 1) k' H') ∧ ∀ x H', (Itl K l).yld j H x H' → g1 x (wipe σ2 vs1) H' fun σ3 H5 => wipe σ3 vs1 = wipe σ2 vs1 ∧ tt1 σ3 H5 fun b H6 =>
        if b = true then te σ3 H6 fun y H7 => ∃ acc, H7 D = some (.lst acc) ∧ acc.length < sizeLine ∧ Nx1 (upd H7 D (.lst (acc ++ [y]))) else Nx1 H6) := by
  refine by_place (n := ys.length) Pi h0 (fun j H hj p => ⟨⟨ys, ys[j], hl j H (Nat.le_of_lt hj) p, List.getElem?_eq_getElem hj⟩, fun x H' y => ?_⟩) (fun H p => ⟨⟨ys, hl _ H (Nat.le_refl _) p, Nat.le_refl _⟩, hd H p⟩)
  rw [y.1]
  exact hs j x H (y.2 ys (hl j H (Nat.le_of_lt hj) p)) p
end L2
set_option Elab.async false
set_option linter.all false
set_option maxRecDepth 100000
set_option maxHeartbeats 4000000
/-! t[::-1] of a tuple -/
namespace L2
open PySem PySem.Spec PyProof.Rows
section
variable {prog : Program} {w : World} {A : Around} {E : Value → Shared → Prop} {s : Shared}
theorem back_places (n : Nat) : Builtin.Slice.slicePlaces ((n : Int) - 1) (-1) (-1) = n := by
  unfold Builtin.Slice.slicePlaces
  rw [if_neg (by decide)]
  cases n with
  | zero => rfl
  | succ m =>
    rw [if_pos (by omega)]
    have e : (((m + 1 : Nat) : Int) - 1 - -1 - 1) / (- -1) + 1 = ((m + 1 : Nat) : Int) := by
      rw [show (- -1 : Int) = 1 by decide, Int.ediv_one]
      omega
    rw [e]
    rfl
theorem back_pick (xs : Array Value) : ((List.range xs.size).filterMap fun (k : Nat) => xs[((xs.size : Int) - 1 + (k : Int) * (-1)).toNat]?) = xs.toList.reverse := by
  have e : (fun (k : Nat) => xs[((xs.size : Int) - 1 + (k : Int) * (-1)).toNat]?) = (fun j => xs[j]?) ∘ fun (k : Nat) => ((xs.size : Int) - 1 + (k : Int) * (-1)).toNat := rfl
  rw [e, ← List.filterMap_map]
  have e2 : (List.range xs.size).map (fun (k : Nat) => ((xs.size : Int) - 1 + (k : Int) * (-1)).toNat) = (List.range xs.size).reverse := by
    rw [← PySem.W.krv_range]
    refine List.map_congr_left fun k hk => ?_
    have := List.mem_range.mp hk
    omega
  rw [e2, List.filterMap_reverse, PySem.W.krv_all]
theorem back_applied {sl : Addr} {vs : Value} {n : Nat} {Q : Int × Int × Nat → Shared → Prop} (hs : s.heap.IsSliceOf sl .none .none vs) (ps : IsPart vs (some (-1))) (h : Q ((n : Int) - 1, -1, n) s) :
    wpAny (model prog w) A (Builtin.Slice.sliceApplied (.ref sl) (pure (n : Int))) Q E s := by
  obtain ⟨os, hos, _, hds⟩ := id hs
  unfold Builtin.Slice.sliceApplied Builtin.Slice.sliceFields
  refine wpAny_bind (wpAny_bind (wpAny_field hos hds (x := .none) rfl (wpAny_bind (wpAny_field hos hds (x := .none) rfl (wpAny_bind (wpAny_field hos hds (x := vs) rfl (wpAny_pure ?_)))))))
  refine wpAny_bind (HT.slicePart_ ps ?_)
  show wpAny _ _ (if ((-1 : Int) == 0) = true then _ else _) _ _ s
  rw [if_neg (by decide)]
  refine wpAny_bind (slicePart_none (wpAny_bind (slicePart_none (wpAny_bind (wpAny_pure ?_)))))
  show wpAny _ _ (pure ((n : Int) - 1, (-1 : Int), Builtin.Slice.slicePlaces ((n : Int) - 1) (-1) (-1))) _ _ s
  rw [back_places]
  exact wpAny_pure h
theorem getItem_tuple_back {t sl : Addr} {items : Array Value} {vs : Value} {Q : Value → Shared → Prop} (ht : IsTup s.heap t items) (hs : s.heap.IsSliceOf sl .none .none vs) (ps : IsPart vs (some (-1)))
    (h : Q (.ref s.heap.objs.size) { s with heap := s.heap.push { cls := .type "tuple", data := .seq items.toList.reverse.toArray } }) (hsz : items.size ≤ sizeLine) : wpAny (model prog w) A (getItem (.ref t) (.ref sl)) Q E s := by
  have hok : sizeOk (.seq items.toList.reverse.toArray) := by
    show items.toList.reverse.toArray.size ≤ sizeLine
    rw [List.size_toArray, List.length_reverse, Array.length_toList]
    exact hsz
  obtain ⟨os, hos, hcs, _⟩ := id hs
  have tySl : s.TypeIs (.ref sl) "slice" := ⟨os, hos, hcs⟩
  (unfold getItem); (try with_reducible refine wpAny_holding ?_); (first | refine wpAny_bind (wpAny_pure ?_) | skip)
  refine wpAny_bind (wpAny_sequenceKey ht.typeIs (by decide) (wpAny_bind (wpAny_callSpecial?_slot (name := Str.ofString "__getitem__") ht.typeIs PyProof.Rows.slot_tuple_getitem (wpAny_call_entry PyProof.Rows.slot_tuple_getitem ht.typeIs entry_tuple_getitem ?_ (args_tuple_getitem _ _)))))
  refine (show wpAny _ _ (Builtin.Tuple.tupleItemsOf (.ref t) >>= _) _ _ s from ?_)
  refine wpAny_bind (tupleItemsOf_ ht (wpAny_bind (wpAny_typeOf tySl ?_)))
  rw [if_pos (by decide)]
  refine wpAny_bind (back_applied (n := items.size) hs ps ?_)
  have no : ¬ ((((items.size : Int) - 1 == 0) && ((-1 : Int) == 1) && (items.size == items.size)) = true) := by
    rw [show ((-1 : Int) == 1) = false by decide, Bool.and_false, Bool.false_and]
    exact Bool.false_ne_true
  show wpAny _ _ (if (((items.size : Int) - 1 == 0) && ((-1 : Int) == 1) && (items.size == items.size)) = true then _ else _) _ _ s
  rw [if_neg no, back_pick]
  first
    | exact wpAny_bind (m := Builtin.Tuple.tupleExact _) (wpAny_newObj_type (wpAny_pure ⟨_, rfl, wpAny_pure h⟩) hok)
    | exact wpAny_bind (wpAny_bind (m := Builtin.Tuple.tupleExact _) (wpAny_newObj_type (wpAny_pure (wpAny_pure ⟨_, rfl, wpAny_pure h⟩)) hok))
    | exact wpAny_bind (m := Builtin.Tuple.tupleExact _) (wpAny_newObj_type (wpAny_bind (wpAny_pure (wpAny_pure ⟨_, rfl, wpAny_pure h⟩))) hok)
end
def tRevT (K : PySem.W.Frag) (te : TE) : TE := fun σ H Q => te σ H fun x H1 => ∃ a xs, x = .ref a ∧ SqT K H1 a xs ∧ ∀ p, H1 p = none → Q (.ref p) (upd H1 p (.tup xs.reverse))
section
variable {X : Cx}
theorem pe_revT {e : Expr} {te : TE} {k : Nat} {k1 k2 k3 pos : Pos} (he : PE X e te) : PE X (.Subscript e (.Slice none none (some (.UnaryOp .USub (.Constant (.int 1) k k1) k2)) k3) pos) (tRevT X.K te) := by
  refine ⟨fun pins s σ H Q I h => Subscript_ (thn (he.run pins s σ H _ I h) fun v u1 ⟨x, G1, J1, r1, q1⟩ => ?_)⟩
  obtain ⟨a, xs, rfl, hx, q⟩ := q1
  cases r1
  have hneg : PO X (some (.UnaryOp .USub (.Constant (.int 1) k k1) k2)) (tPart (tUn (rU fun i => .int (-i)) (tC (.int 1)))) := po_some (pe_un un_neg pe_int)
  refine wpAny_Slice (thn (po_none.run pins u1 σ G1 (fun o G2 => o = none ∧ G2 = G1) J1 ⟨rfl, rfl⟩) fun vl u2 ⟨l, G2, J2, pl, el, e2⟩ => ?_)
  subst el e2
  refine thn (po_none.run pins u2 σ G2 (fun o G3 => o = none ∧ G3 = G2) J2 ⟨rfl, rfl⟩) fun vu u3 ⟨u, G3, J3, pu, eu, e3⟩ => ?_
  subst eu e3
  refine thn (hneg.run pins u3 σ G3 (fun o G4 => o = some (-1) ∧ G4 = G3) J3 ⟨1, rfl, -1, rfl, rfl, rfl⟩) fun vs u4 ⟨o, G4, J4, ps, eo, e4⟩ => ?_
  subst eo e4
  cases pl
  cases pu
  have J5 : Inv X pins σ G4 { u4 with heap := u4.heap.push { cls := .type "slice", data := .fields #[.none, .none, vs] } } := J4.kept (t' := u4.toks) fun b ob q => Heap.get?_push_of_some _ q
  obtain ⟨its, r, ht, hz⟩ := J5.tuple hx
  have hlen := r.length
  refine tail_any (ops := [.ref a, .ref u4.heap.objs.size]) ht.typeIs PyProof.Rows.slot_tuple_getitem.lookup ?_ (by with_unfolding_all rfl)
  refine getItem_tuple_back ht (Heap.IsSliceOf.new _ .none .none vs) ps ?_ (by rw [List.size_toArray]; omega)
  refine ⟨.ref _, _, J5.laid (t' := u4.toks) (o := .tup xs.reverse) (fun b ob q => Heap.get?_push_of_some _ q) (Nat.le_refl _) ?_, rfl, q _ (J5.hok.fresh (Nat.le_refl _))⟩
  exact ⟨by rw [List.length_reverse]; exact hz, _, r.reverse, IsTup.new _ _⟩
end
end L2
/-! ### a tuple != () -/
namespace L2
open PySem PySem.Spec PyProof.Rows
def rNeTNil (K : PySem.W.Frag) : R2 := fun x y H Q => ∃ a b xs, x = .ref a ∧ y = .ref b ∧ SqT K H a xs ∧ SqT K H b [] ∧ Q (.bl !xs.isEmpty) H
section
variable {X : Cx}
theorem op_neTNil (hu : X.A.units + 64 < cLine) : OpR X (compareOp .NotEq) (rNeTNil X.K) := by
  intro pins s σ H x y v u Q I rx ry h
  obtain ⟨a, b, xs, rfl, rfl, ha, hb, q⟩ := h
  cases rx
  cases ry
  obtain ⟨its, r1, ⟨⟨cls, dd, data, sl⟩, ho, hc, n, hd⟩, hz1⟩ := I.tuple ha
  obtain ⟨its2, r2, ⟨⟨cls2, dd2, data2, sl2⟩, ho2, hc2, n2, hd2⟩, hz2⟩ := I.tuple hb
  simp only at hc hd hc2 hd2
  subst hc hd hc2 hd2
  cases r2
  have hl1 := r1.length
  have e := SeqAt.tuple_neAt a b its.toArray (#[] : Array Value) n n2 dd dd2 sl sl2 (fun _ => true)
  have er : (!((List.range (min its.toArray.size (#[] : Array Value).size)).all (fun _ => true) && its.toArray.size == (#[] : Array Value).size)) = !xs.isEmpty := by
    have h0 : min its.toArray.size (#[] : Array Value).size = 0 := Nat.min_zero _
    rw [h0, List.size_toArray, ← hl1]
    cases xs <;> rfl
  exact richCompare_meets_room (op := .NotEq) ⟨_, ho, rfl⟩ ⟨_, ho2, rfl⟩ F.slot_tuple_ne F.entry_tuple_ne (F.args_tuple_ne_2 _ _) e
    ⟨ho, ho2, fun j h1 h2 => absurd h2 (Nat.not_lt_zero _), show Value.bool _ ≠ Value.notImplemented ∧ _ from ⟨(fun x => nomatch x), .bl _, H, I, by rw [er]; rfl, q⟩⟩ (by omega)
end
end L2
set_option Elab.async false
set_option linter.all false
set_option maxRecDepth 100000
set_option maxHeartbeats 2000000
/-! del xs[a:] -/
namespace L2
open PySem PySem.Spec PyProof.Rows
theorem sel_take {a : Nat} {sel : Nat → Bool} : ∀ (items : List Value) (m : Nat), (∀ k, m ≤ k → k < m + items.length → sel k = decide (a ≤ k)) → ((items.zipIdx m).filterMap fun q => if sel q.2 = true then none else some q.1) = items.take (a - m)
  | [], m, _ => by simp
  | x :: xs, m, h => by
    have ih := sel_take xs (m + 1) fun k h1 h2 => h k (by omega) (by rw [List.length_cons]; omega)
    rw [List.zipIdx_cons, List.filterMap_cons]
    dsimp only
    rw [h m (Nat.le_refl _) (by rw [List.length_cons]; omega)]
    by_cases e : a ≤ m
    · rw [decide_eq_true e, if_pos rfl]
      dsimp only
      rw [ih, show a - (m + 1) = 0 by omega, show a - m = 0 by omega]
      simp
    · rw [decide_eq_false e, if_neg Bool.false_ne_true]
      dsimp only
      rw [ih, show a - m = (a - (m + 1)) + 1 by omega]
      rfl
def selF (a n : Nat) (k : Nat) : Bool := if (1 : Int) > 0 then decide ((a : Int) ≤ (k : Int)) && decide ((k : Int) < (n : Int)) && ((k : Int) - (a : Int)) % 1 == 0 else decide ((n : Int) < (k : Int)) && decide ((k : Int) ≤ (a : Int)) && ((a : Int) - (k : Int)) % (-1) == 0
theorem selF_at {a n k : Nat} (hk : k < n) : selF a n k = decide (a ≤ k) := by
  unfold selF
  rw [if_pos (by decide)]
  have e1 : decide ((k : Int) < (n : Int)) = true := decide_eq_true (by omega)
  have e2 : (((k : Int) - (a : Int)) % 1 == 0) = true := by rw [Int.emod_one]; rfl
  rw [e1, e2, Bool.and_true, Bool.and_true]
  by_cases z : a ≤ k
  · rw [decide_eq_true z]
    exact decide_eq_true (by omega)
  · rw [decide_eq_false z]
    exact decide_eq_false (by omega)
section
variable {prog : Program} {w : World} {A : Around} {E : Value → Shared → Prop} {s : Shared}
theorem from_bounds {a n : Nat} (ha : a ≤ n) : sliceBounds (some (a : Int)) none none n = ((a : Int), (n : Int), 1) := by
  simp only [sliceBounds, Option.getD_none]
  have h1 : ¬ ((a : Int) < 0) := by omega
  simp only [h1, if_false, show (1 : Int) > 0 by decide, if_true]
  congr 1
  · omega
theorem delItem_from {l sl : Addr} {items : Array Value} {n : Nat} {vl : Value} {a : Nat} {Q : Unit → Shared → Prop} (e : s.heap.get? l = some { cls := .type "list", data := .seq items n }) (hs : s.heap.IsSliceOf sl vl .none .none) (pl : IsPart vl (some (a : Int)))
    (ha : a ≤ items.size) (hsz : items.size ≤ sizeLine) (h : ∀ F : Array Value → Array Value, F items = (items.toList.take a).toArray → Q () { s with heap := s.heap.update l (Obj.mapSeq F) }) :
    wpAny (model prog w) A (delItem (.ref l) (.ref sl)) Q E s := by
  have hl : s.heap.IsList l items := PySem.IsL.isList e
  obtain ⟨os, hos, hcs, hds⟩ := id hs
  have hTs : s.TypeIs (.ref sl) "slice" := ⟨os, hos, hcs⟩
  have hstep : ¬ ((rawPart none == rawInt 0) = true) := Bool.false_ne_true
  refine wpAny_delItem_slot hl.typeIs (by decide) F.slot_list_delitem (wpAny_call_entry F.slot_list_delitem hl.typeIs F.entry_list_delitem ?_ (F.args_list_delitem_2 _ _))
  show wpAny _ _ (Builtin.List.listSubscript? (.ref sl) >>= _) _ _ s
  refine wpAny_bind ?_
  unfold Builtin.List.listSubscript?
  refine wpAny_bind (wpAny_specialOf hTs slice_no_index ?_)
  simp only [Option.isNone_none, if_true]
  refine wpAny_pure ?_
  show wpAny _ _ (typeOf (.ref sl) >>= _) _ _ s
  refine wpAny_bind (wpAny_typeOf hTs ?_)
  first
    | rw [if_neg (by decide)]
    | refine PySem.W.KFB.if_not (by decide) ?_
  rw [listSliceParts_eq]
  refine wpAny_bind (wpAny_bind (wpAny_field hos hds (x := .none) rfl (wpAny_bind (wpAny_listPart .none ?_))))
  rw [if_neg hstep]
  refine wpAny_bind (wpAny_field hos hds (x := vl) rfl (wpAny_bind (wpAny_listPart pl ?_)))
  refine wpAny_bind (wpAny_field hos hds (x := .none) rfl (wpAny_bind (wpAny_listPart .none (wpAny_pure ?_))))
  unfold Builtin.List.listItems
  refine wpAny_bind (wpAny_bind (wpAny_seqItems e rfl (wpAny_pure ?_)))
  refine wpAny_bind (wpAny_of_eq ((sliceIndices_raw (some (a : Int)) none none items.size (by simp)).trans (congrArg (pure : Int × Int × Int → Sem (Int × Int × Int)) (from_bounds ha))) ?_)
  refine wpAny_bind (wpAny_rule ?_)
  have key : (items.toList.zipIdx.filterMap fun q => if selF a items.size q.2 = true then none else some q.1) = items.toList.take a :=
    sel_take (a := a) (sel := selF a items.size) items.toList 0 fun k _ hk => by
      rw [Array.length_toList] at hk
      exact selF_at (by omega)
  refine wpAny_bind (wpAny_updateSeq (hz := hsz) (_hz' := ?hz) e rfl ?_)
  case hz =>
    refine Nat.le_trans (m := items.size) ?_ (by omega)
    refine Nat.le_trans (Nat.le_of_eq (congrArg (fun l : List Value => l.toArray.size) key)) ?_
    show (items.toList.take a).toArray.size ≤ _
    rw [List.size_toArray, List.length_take, Array.length_toList]
    omega
  · refine wpAny_bind (wpAny_letGo ?_)
    exact wpAny_pure ⟨.none, rfl, h _ (congrArg List.toArray key)⟩
end
section
variable {X : Cx}
/-- del xs[a:], a a number within the list -/
def tDelFrom (to ti : TE) : TS := fun D σ H => to σ H fun x H1 => tPart ti σ H1 fun o H2 => ∃ (l : Addr) (xs : List V) (a : Nat), x = .ref l ∧ o = some (a : Int) ∧ H2 l = some (.lst xs) ∧ a ≤ xs.length ∧ D.nx σ (upd H2 l (.lst (xs.take a)))
theorem ps_delFrom {o i : Expr} {to ti : TE} {tpos p2 pos : Pos} (ho : PE X o to) (hi : PE X i ti) : PS X (.Delete [.Subscript o (.Slice (some i) none none p2) tpos] pos) (tDelFrom to ti) := by
  refine ⟨fun pins s σ H D I h => ?_⟩
  refine wpAny_Delete (wpAny_deleteEach_cons (wpAny_delete_Subscript (thn (ho.run pins s σ H _ I h) fun u s1 ⟨x, H1, I1, rx, q1⟩ => ?_)))
  refine wpAny_Slice (thn ((po_some (X := X) hi).run pins s1 σ H1 _ I1 q1) fun vl s2 ⟨o2, H2, I2, pl, q2⟩ => thn (po_none.run pins s2 σ H2 (fun o H3 => o = none ∧ H3 = H2) I2 ⟨rfl, rfl⟩) fun vu s3 ⟨u2, H3, I3, pu, eu, e3⟩ => ?_)
  · subst eu e3
    obtain ⟨l, xs, a, rfl, rfl, hH, ha, q⟩ := q2
    rw [evalPart_none]
    refine wpAny_pure ?_
    have I4 : Inv X pins σ H3 { s3 with heap := s3.heap.push { cls := .type "slice", data := .fields #[vl, vu, .none] } } := I3.kept (t' := s3.toks) fun b ob q => Heap.get?_push_of_some _ q
    obtain ⟨z, its, n, r, hl, e⟩ := I4.lstM hH
    cases (show u = Value.ref l from rx)
    cases pu
    refine delItem_from (a := a) e (Heap.IsSliceOf.new ..) pl (by rw [List.size_toArray, ← hl]; exact ha) (by rw [List.size_toArray, ← hl]; exact z) fun F hF => ?_
    refine wpAny_deleteEach_nil ⟨σ, _, I4.lset (its' := its.take a) (t' := s3.toks) hH e hF (r.take a) ?_, q⟩
    rw [List.length_take]
    omega
end
end L2
set_option Elab.async false
set_option linter.all false
set_option maxRecDepth 100000
set_option maxHeartbeats 2000000
/-! a lambda with parameters that keeps names of the def around, handed to a def and called there -/
namespace LamC
open PySem PySem.Spec PyProof.Rows L2 LamX NdefX
open C8 (Cal Def fnBody fnScope fnArgs)
/-- the object at f is the lambda F with the body b -/
def LamO (f : Addr) (F : NF) (b : Expr) : HO := .ext fun h => ∃ (pm ctv : Value), h.get? f = some (PySem.W.kla_obj F.name F.qual F.params b F.scope F.cl pm F.c ctv)
theorem lamO_ne {f : Addr} {F : NF} {b : Expr} (ps : Array Value) : LamO f F b ≠ .tbl ps := fun z => by
  unfold LamO at z
  cases z
theorem lamO_at {P : Program} {w : World} {H : Hp} {h : Heap} {f : Addr} {F : NF} {b : Expr} (hok : HOk P w H h) (e : H f = some (LamO f F b)) : ∃ (pm ctv : Value), h.get? f = some (PySem.W.kla_obj F.name F.qual F.params b F.scope F.cl pm F.c ctv) := by
  obtain ⟨z, _, _⟩ := hok f _ e
  exact z
section
variable {X : Cx} {pins : List (Addr × Obj)} {σ : L2.St} {H : Hp} {s : Shared}
theorem inv_lam {F : NF} {b : Expr} {t' : Nat} {pm ctv : Value} (I : Inv X pins σ H s) :
    Inv X pins σ (upd H s.heap.objs.size (LamO s.heap.objs.size F b)) { s with heap := s.heap.push (PySem.W.kla_obj F.name F.qual F.params b F.scope F.cl pm F.c ctv), toks := t' } := by
  refine I.laid (a := s.heap.objs.size) (fun b u e => Heap.get?_push_of_some _ e) (Nat.le_refl _) ?_
  have e : (s.heap.push (PySem.W.kla_obj F.name F.qual F.params b F.scope F.cl pm F.c ctv)).get? s.heap.objs.size = some (PySem.W.kla_obj F.name F.qual F.params b F.scope F.cl pm F.c ctv) := Heap.get?_push_size _ rfl
  exact ⟨⟨pm, ctv, e⟩, ⟨_, e⟩, fun h1 h2 ⟨p, t, z⟩ st => ⟨p, t, st _ z⟩⟩
/-- the lambda of this place, its code object at c' -/
abbrev lamF (X : Cx) (params : Arguments) (scope : Scope) (c' : Addr) : NF := ⟨"<lambda>", X.env.qual ++ "<lambda>", params, [], scope, cloFrom X.env.cells scope.names [], c'⟩
theorem lam_makeO {T : List (Addr × Str)} {c P : Addr} {params : Arguments} {body : Expr} {scope : Scope} {pos : Pos} {E : Value → Shared → Prop} {Q : Value → Shared → Prop} (I : Inv X pins σ H s) (TB : TabB X.base X.mg c P) (hcode : X.env.code = .ref c)
    (hm : (P, X.env.qual ++ "<lambda>") ∈ T) (hu : ∀ p ∈ T, p.1 = P → p.2 = X.env.qual ++ "<lambda>") (hT : Tabs T H) (hdef : defaultsOf params X.env = ([], [])) (hfree : ∀ y ∈ scope.names, y.2 = .free → ∃ c, X.env.cells.lookup y.1 = some c)
    (h : ∀ (f c' : Addr) (H1 : Hp) (s' : Shared), Inv X pins σ H1 s' → ExtN H H1 → (∀ b, H1 b = Option.none → H b = Option.none) → Tabs T H1 → H f = none → H1 f = some (LamO f (lamF X params scope c') body) → H1 c' = some (CodeO c' (X.env.qual ++ "<lambda>")) → Q (.ref f) s') :
    wpAny (model X.prog X.w) X.A (eval (.Lambda params body scope pos) X.env) Q E s := by
  obtain ⟨ps, hP, ht, ha⟩ := hT _ hm
  refine PySem.W.kla_eval hdef ?_
  have bP : s.heap.BuiltinsAt X.mg P := TB.bm.keeps I.bk
  have hP' : s.heap.get? P = some { cls := .none, data := .fields ps } := I.hok P _ hP
  cases hc : codeAmong pos ps.toList with
  | none =>
    refine PySem.W.kla_makeFunction (mg := X.mg) (c := c) (P := P) (ps := ps) (closure_ok hfree) I.ok.glob (I.mod.glob.keeps I.bk) hcode (TB.code.keeps I.bk) hP' ht hc TB.gP bP fun c' ctv h' tk hx hge hlt hrec htb => ?_
    obtain ⟨c2, oc, vs, t, e2, hoc, hd, hv⟩ := hrec
    cases e2
    have nC : H c' = none := I.hok.fresh hge
    have I1 := inv_table (t' := tk) (more := #[rawInt pos.line, rawInt pos.col, .ref c']) (h' := h') I hP (fun b o hb e => hx b o hb e) htb hge ⟨oc, vs, t, hoc, hd, hv⟩
    have hE : ExtN H (upd (upd H P (.tbl (ps ++ #[rawInt pos.line, rawInt pos.col, .ref c']))) c' (CodeO c' (X.env.qual ++ "<lambda>"))) := fun b o e n => by
      rw [upd_ne (ne_of_none e nC), upd_ne (fun z => n ps (Option.some.inj (e.symm.trans (by rw [z]; exact hP))))]
      exact e
    have eL : (ps ++ #[rawInt pos.line, rawInt pos.col, .ref c']).toList = ps.toList ++ [rawInt pos.line, rawInt pos.col, .ref c'] := by simp
    have T1 : Tabs T (upd (upd H P (.tbl (ps ++ #[rawInt pos.line, rawInt pos.col, .ref c']))) c' (CodeO c' (X.env.qual ++ "<lambda>"))) := fun p hp => by
      by_cases hb : p.1 = P
      · rw [hu p hp hb, hb]
        refine ⟨_, by rw [upd_ne (ne_of_none hP nC), upd_same], by rw [eL]; exact PySem.TriplesOk_snoc _ _ _ _ ht, fun p' cv hcv => ?_⟩
        rw [eL] at hcv
        rcases among_app _ ht hcv with z | z
        · obtain ⟨c0, e1, e2⟩ := ha p' cv z
          exact ⟨c0, e1, hE _ _ e2 codeO_ne⟩
        · exact ⟨c', z, upd_same⟩
      · obtain ⟨ps', a1, a2, a3⟩ := hT p hp
        refine ⟨ps', by rw [upd_ne (ne_of_none a1 nC), upd_ne hb]; exact a1, a2, fun p' cv hcv => ?_⟩
        obtain ⟨c0, e1, e2⟩ := a3 p' cv hcv
        exact ⟨c0, e1, hE _ _ e2 codeO_ne⟩
    have nF := I1.hok.fresh (Nat.le_refl _)
    have I2 := inv_lam (F := lamF X params scope c') (b := body) (t' := tk) (pm := (X.mg "__name__").getD .none) (ctv := ctv) I1
    refine h h'.objs.size c' _ _ I2 (fun b o e n => ?_) (fun b e => upd_none (upd_none (upd_none e))) (T1.ext fun b o e => ?_) (I.hok.fresh (Nat.le_trans hge (Nat.le_of_lt hlt))) upd_same ?_
    · have e1 := hE b o e n
      exact (upd_ne (ne_of_none e1 nF)).trans e1
    · exact (upd_ne (ne_of_none e nF)).trans e
    · exact (upd_ne (Nat.ne_of_lt hlt)).trans upd_same
  | some cv =>
    obtain ⟨c', e, hco⟩ := ha pos cv hc
    subst e
    refine PySem.W.kla_makeFunctionHit (mg := X.mg) (c := c) (P := P) (ps := ps) (closure_ok hfree) I.ok.glob (I.mod.glob.keeps I.bk) hcode (TB.code.keeps I.bk) hP' ht hc bP fun ctv h' tk hx hsz => ?_
    have I1 : Inv X pins σ H { s with heap := h', toks := tk } := I.kept hx
    have nF : H h'.objs.size = none := I1.hok.fresh (Nat.le_refl _)
    have I2 := inv_lam (F := lamF X params scope c') (b := body) (t' := tk) (pm := (X.mg "__name__").getD .none) (ctv := ctv) I1
    refine h h'.objs.size c' _ _ I2 (fun b o e n => ?_) (fun b e => upd_none e) (hT.ext fun b o e => ?_) nF upd_same ?_
    · exact (upd_ne (ne_of_none e nF)).trans e
    · exact (upd_ne (ne_of_none e nF)).trans e
    · exact (upd_ne (ne_of_none hco nF)).trans hco
/-- the reading of a lambda -/
def tLamO (T : List (Addr × Str)) (mk : Addr → NF) (b : Expr) : TE := fun _ H Q => Tabs T H ∧ ∀ (f c' : Addr) (H1 : Hp), ExtN H H1 → (∀ b, H1 b = Option.none → H b = Option.none) → Tabs T H1 → H f = none → H1 f = some (LamO f (mk c') b) → H1 c' = some (CodeO c' (mk c').qual) → Q (.ref f) H1
theorem pe_lam {T : List (Addr × Str)} {c P : Addr} {params : Arguments} {body : Expr} {scope : Scope} {pos : Pos} (TB : TabB X.base X.mg c P) (hcode : X.env.code = .ref c) (hm : (P, X.env.qual ++ "<lambda>") ∈ T) (hu : ∀ p ∈ T, p.1 = P → p.2 = X.env.qual ++ "<lambda>")
    (hdef : defaultsOf params X.env = ([], [])) (hfree : ∀ y ∈ scope.names, y.2 = .free → X.env.scope.names.lookup y.1 = some .cell ∨ X.env.scope.names.lookup y.1 = some .free) : PE X (.Lambda params body scope pos) (tLamO T (lamF X params scope) body) := by
  refine ⟨fun pins s σ H Q I h => ?_⟩
  obtain ⟨hT, h⟩ := h
  refine lam_makeO I TB hcode hm hu hT hdef (fun y hy e => (hfree y hy e).elim (fun z => I.ok.has _ (.inl z)) fun z => I.ok.has _ (.inr z)) fun f c' H1 s' I1 eN b1 T1 hn hf hc => ?_
  exact ⟨.ref f, H1, I1, rfl, h f c' H1 eN b1 T1 hn hf hc⟩
end
/-! ### its promise -/
structure LOk (P : Program) (w : World) (K : PySem.W.Frag) (mg : Str → Option Value) (base : Heap) (CX : CXT) (k : Nat) (f : Addr) (F : NF) (b : Expr) (ps fr : List Str) (sp : List (Option V) → Sp) : Prop where
  len : ∀ ws vs H Q E, sp ws vs H Q E → vs.length = ps.length
  run : ∀ (A : Around) (outer : List Env) (s : Shared) (H : Hp) (us : List Value) (vs : List V) (ws : List (Option V)) (Q : VK) (E : XK), Room k A → Env0 P w K mg base A outer s H → H f = some (LamO f F b) → H F.c = some (CodeO F.c F.qual) →
    CellsAt F.cl fr ws s.heap H → Vals vs us → sp ws vs H Q E → codeAny (model P w) A (.call (.ref f) ⟨us, []⟩) (CR CX outer P w H s Q E) s
section
variable {CX : CXT} {P : Program} {w : World} {K : PySem.W.Frag} {mg : Str → Option Value} {base : Heap} {N ps fr : List Str} {F : NF} {b : Expr} {f : Addr} {k j : Nat} {sp : List (Option V) → Sp}
theorem lok_of (S : NScope N ps fr F.scope) (hb : ∀ (pm ctv : Value) (us : List Value), us.length = ps.length → bindArgs (PySem.W.kla_fn F.name F.qual F.params b F.scope F.cl pm (.ref F.c) ctv) ⟨us, []⟩ = pure (ps.zip us)) (len : ∀ ws vs H Q E, sp ws vs H Q E → vs.length = ps.length)
    (hbody : ∀ (A : Around) (outer : List Env) (s : Shared) (H : Hp) (vs : List V) (ws : List (Option V)) (Q : VK) (E : XK), Room k (A.deeper (envF F f s.heap.objs.size)) → ws.length = fr.length → sp ws vs H Q E →
      ∃ t, PE (ncx CX P w K mg base N F f A outer s H E) b t ∧ t (startF N vs ws) H Q) : LOk P w K mg base CX (k + 1) f F b ps fr sp := by
  refine ⟨len, fun A outer s H us vs ws Q E hr e0 hf hc C r hsp => ?_⟩
  have hl := len _ _ _ _ _ hsp
  have lim : s.heap.NoLimit := e0.mod.nolimit.keeps fun b o e => (e0.bs b o e).1
  obtain ⟨pm, ctv, ho⟩ := lamO_at e0.hok hf
  refine PySem.W.kla_callFunE hr.depth ho rfl S.co S.gen rfl (codeO_at e0.hok hc) ?_
  rw [hb pm ctv us (by rw [← r.length]; exact hl)]
  refine wpAny_pure (wpAny_newFunctionEnv S.nocell (fun ⟨n, _⟩ hy => S.par n (List.of_mem_zip hy).1) (fun h₁ hns hsb => ⟨lim.fresh _ hsb, ?_⟩) S.kind)
  show codeAny _ _ (.expr b (envF F f s.heap.objs.size)) _ _
  have kp : ∀ b o, s.heap.get? b = some o → h₁.get? b = some o := fun b o e => hsb.extBut b o (Nat.ne_of_lt (Heap.lt_size e)) (Heap.get?_push_of_some _ e)
  obtain ⟨t, ht, hq⟩ := hbody A outer s H vs ws Q E (hr.deeper _) C.len hsp
  have I : Inv (ncx CX P w K mg base N F f A outer s H E) [] (startF N vs ws) H { s with heap := h₁, toks := s.toks + (ps.zip us).length } := inv_startN S hr.hd e0 hl r C hns kp
  refine PySem.W.kla_codeExpr (wpAny_mono (ht.run [] _ (startF N vs ws) H _ I hq) (fun v s' hs => ?_) fun e s' hs => hs)
  obtain ⟨w', H', J, rv, q⟩ := hs
  exact ⟨w', H', J.os, J.bare, J.base, J.hok, rv, q⟩
end
/-! ### called where it was handed to -/
section
variable {X : Cx} {CX : CXT} {cl : List (Str × Addr)} {ps fr : List Str} {ws : List (Option V)} {js : List Nat} {i j k : Nat} {x : Str} {f : Addr} {F : NF} {b : Expr} {sp : List (Option V) → Sp} {E : XK} {t : TA} {e : Expr} {es : List Expr} {p pos : Pos}
theorem cells_later {pins : List (Addr × Obj)} {σ : L2.St} {H : Hp} {s : Shared} (C : CellsAt cl fr ws X.s_0.heap X.H_0) (hx : ∀ c, c ∉ X.ex) (I : Inv X pins σ H s) : CellsAt cl fr ws s.heap H := by
  have kp : ∀ y c, cl.lookup y = some c → ∀ v, X.s_0.heap.IsCell c v → s.heap.IsCell c v := fun y c e v ⟨o, ho, hd⟩ => by
    obtain ⟨sl, q⟩ := I.base.any ho (C.all y c e).1 (hx c)
    exact ⟨_, q, hd⟩
  refine ⟨C.len, fun y c e => ?_, C.inj, fun i y e => ?_⟩
  · obtain ⟨n, v, z⟩ := C.all y c e
    refine ⟨?_, v, kp y c e v z⟩
    obtain ⟨o, ho, _⟩ := z
    exact I.base.free c o ho n (hx c)
  · obtain ⟨c, hc, hv⟩ := C.has i y e
    refine ⟨c, hc, fun v ev => ?_⟩
    obtain ⟨u, r, z⟩ := hv v ev
    exact ⟨u, r, kp y c hc _ z⟩
theorem lamAt_of {pins : List (Addr × Obj)} {σ : L2.St} {H : Hp} {s : Shared} (I : Inv X pins σ H s) (e : H f = some (LamO f F b)) : PySem.W.FnAt f s.heap := by
  obtain ⟨pm, ctv, ho⟩ := lamO_at I.hok e
  exact ⟨_, _, _, _, ho⟩
/-- x(..): the slot i holds the lambda at f -/
def tCallLam (i : Nat) (f : Addr) (F : NF) (b : Expr) (ws : List (Option V)) (sp : List (Option V) → Sp) (E : XK) (t : TA) : TE := fun σ H Q => σ[i]? = some (some (.ref f)) ∧ H f = some (LamO f F b) ∧ t σ H fun vs H1 => H1 f = some (LamO f F b) ∧ H1 F.c = some (CodeO F.c F.qual) ∧ sp ws vs H1 Q E
theorem pe_callLam (Fn : LOk X.prog X.w X.K X.mg X.base CX k f F b ps fr sp) (C0 : CellsAt F.cl fr ws X.s_0.heap X.H_0) (hex : ∀ c, c ∉ X.ex) (hr : Room j X.A) (hk : k ≤ j) (hx : Passes CX X E) (hN : X.N[i]? = some x) (hv : Vis X.env.scope x) (ha : PA X (e :: es) t)
    (hd : (x == ("__debug__" : Str)) = false := by decide) (hcd : (x == ("__classdict__" : Str)) = false := by decide)
    (he : starEach (e :: es) X.env = (false, eval e X.env) :: starEach es X.env := by rfl) (hpl : (backTo pos (starEach es X.env)).any (·.1) = false := by rfl) :
    PE X (.Call (.Name x p) (e :: es) [] pos) (tCallLam i f F b ws sp E t) := by
  refine ⟨fun pins s σ H Q I h => ?_⟩
  obtain ⟨hs, hf, ht⟩ := h
  refine wpAny_Call_Name_kw (thn ((pe_var (pos := p) hN hv hd hcd).run pins s σ H (fun v H1 => v = .ref f ∧ H1 = H) I ⟨.ref f, hs, rfl, rfl⟩) fun u s1 ⟨v, H1, I1, r1, q1⟩ => ?_)
  obtain ⟨ev, eH⟩ := q1
  subst ev
  rw [eH] at I1
  obtain rfl : u = Value.ref f := r1
  refine PySem.W.callWith_F (first := []) (lamAt_of I1 hf) (thn (ha.run pos pins s1 σ H _ I1 ht) fun us s2 ⟨vs, H2, I2, r, h1, h2, q⟩ => ⟨lamAt_of I2 h1, ?_⟩) he hpl
  show wpAny _ _ (call (.ref f) us) _ _ _
  refine wpAny_call (codeAny_mono (Fn.run X.A X.stack s2 H2 us vs _ Q E (hr.mono hk) I2.env0 h1 h2 (cells_later C0 hex I2) r q) fun r s' hq => ?_)
  cases r with
  | error e => exact hx pins σ H2 s2 e s' I2 hq
  | ok fl =>
    cases fl with
    | ret u => exact I2.after hq
    | next => exact False.elim hq
    | brk => exact False.elim hq
    | cont => exact False.elim hq
end
/-! ### a def whose promise is told of the state where it begins -/
structure CalS (P : Program) (w : World) (K : PySem.W.Frag) (mg : Str → Option Value) (base : Heap) (k : Nat) (x : Str) (sp : Shared → List V → Hp → VK → Prop) : Prop where
  ex : ∃ (f : Addr) (fd : FuncData) (ps : List Str), (∀ s vs H Q, sp s vs H Q → vs.length = ps.length) ∧
    (∀ (A : Around) (outer : List Env) (s : Shared) (H : Hp) (args : Args) (us : List Value) (vs : List V) (Q : VK), Room k A → Env0 P w K mg base A outer s H → BindsTo s fd args (ps.zip us) → Vals vs us → sp s vs H Q → codeAny (model P w) A (.call (.ref f) args) (CR C8.CX0 outer P w H s Q C8.E0) s) ∧
    mg x = some (.ref f) ∧ PySem.W.keepIn K (.ref f) = true ∧ Binds K fd ps []
theorem calS0 {P : Program} {w : World} {K : PySem.W.Frag} {mg : Str → Option Value} {base : Heap} {x : Str} {st : Stmt} {f : Addr} {fd : FuncData} {N ps : List Str} {k : Nat} {sp : Shared → List V → Hp → VK → Prop} (F : Def K mg x st f fd) (b : Binds K fd ps []) (S : FnScope N ps (fnScope st)) (len : ∀ s vs H Q, sp s vs H Q → vs.length = ps.length)
    (hbody : ∀ (cdv : Value) (A : Around) (outer : List Env) (s : Shared) (H : Hp) (vs : List V) (Q : VK), Room k (A.deeper (envOfC x (fnScope st) s.heap.objs.size f cdv)) → sp s vs H Q →
      ∃ t, PSs (cxOf C8.CX0 P w K mg base N x (fnScope st) f cdv A outer s H C8.E0).nox (fnBody st) t ∧ t { nx := fun _ H' => Q .non H', rt := Q } (start N vs) H) : CalS P w K mg base (k + 1) x sp := by
  obtain ⟨oc, od, dV, kV, doc, pm, an, cdv, ct, osl, e, lk, hcd⟩ := F.fn.ex
  refine ⟨f, fd, ps, len, fun A outer s H args us vs Q hr e0 hb r hsp => ?_, F.mgf, F.kp, b⟩
  subst e
  refine run_ofS (N := N) (ps := ps) (us := us) (vs := vs) lk hcd S hr e0 hb r (len _ _ _ _ hsp) fun hr' => ?_
  obtain ⟨t, ht, hq⟩ := hbody cdv A outer s H vs Q hr' hsp
  exact ⟨t, ht.nox, hq⟩
section
variable {X : Cx} {cl : List (Str × Addr)} {fr : List Str} {js : List Nat} {j k : Nat} {x : Str} {sp : Shared → List V → Hp → VK → Prop} {Sc : List (Option V) → List V → Hp → VK → Prop} {t : TA} {e : Expr} {es : List Expr} {p pos : Pos}
/-- .. called where the cells of the running def are told, too -/
theorem pe_cS (c : CalS X.prog X.w X.K X.mg X.base k x sp) (hr : Room j X.A) (hk : k ≤ j) (hg : Gl X x) (cp : X.Ok → Caps X cl fr js) (hsp : ∀ s ws vs H Q, CellsAt cl fr ws s.heap H → Sc ws vs H Q → sp s vs H Q) (ha : PA X (e :: es) t)
    (hdb : (x == ("__debug__" : Str)) = false := by decide) (he : starEach (e :: es) X.env = (false, eval e X.env) :: starEach es X.env := by rfl) (hpl : (backTo pos (starEach es X.env)).any (·.1) = false := by rfl) :
    PE X (.Call (.Name x p) (e :: es) [] pos) (fun σ H Q => t σ H fun vs H1 => Sc (js.map (slotAt σ)) vs H1 Q) := by
  obtain ⟨f, fd, ps, len, run, hm, kp, b⟩ := c.ex
  refine ⟨fun pins s σ H Q I h => ?_⟩
  refine wpAny_Call_Name_kw (ld_glob I hg hm ?_ hdb)
  refine PySem.W.callWith_K (h₀ := X.base) I.ok.mod.kin kp (thn (ha.run pos pins s σ H _ I h) fun us s1 ⟨vs, H1, I1, r, q⟩ => ⟨I1.kIn, ?_⟩) he hpl
  have q2 := hsp s1 _ vs H1 Q (cells_of I1 (cp I1.ok)) q
  have hl : us.length = ps.length := by rw [← r.length]; exact len _ _ _ _ q2
  refine wpAny_call (codeAny_mono (run X.A X.stack s1 H1 ⟨us, []⟩ us vs Q (hr.mono hk) I1.env0 ?_ r q2) fun r s' hq => ?_)
  · have z := b s1 us I1.kIn (by rw [List.append_nil]; exact hl)
    rw [List.append_nil] at z
    exact z
  cases r with
  | error e => exact (show False from hq).elim
  | ok fl =>
    cases fl with
    | ret u => exact I1.after hq
    | next => exact False.elim hq
    | brk => exact False.elim hq
    | cont => exact False.elim hq
end
end LamC
set_option Elab.async false
set_option linter.all false
set_option maxRecDepth 100000
set_option maxHeartbeats 1000000
namespace K18
open PySem PySem.Spec PyProof.Rows L2
open C8 (Cal Def cal0 pe_c fnBody fnScope fnArgs)
/-! ### data of tuples stand where tuples stand -/
def TR (H H' : Hp) : Prop := ∀ a xs, Rd H a (.tup xs) → Rd H' a (.tup xs)
theorem TR.refl (H : Hp) : TR H H := fun _ _ h => h
theorem TR.trans {H H1 H2 : Hp} (a : TR H H1) (b : TR H1 H2) : TR H H2 := fun c xs h => b c xs (a c xs h)
theorem TR.same {H H' : Hp} (e : Same H H') : TR H H' := fun a xs h => by
  rcases h with h | ⟨o, h⟩
  · exact .inl (e _ _ h)
  · exact .inr ⟨o, e _ _ h⟩
theorem TR.new {H : Hp} {q : Addr} {o : HO} (h : H q = none) : TR H (upd H q o) := TR.same (Same.new h)
theorem TR.put {H : Hp} {q : Addr} {xs : List V} {o : HO} (h : H q = some (.lst xs)) : TR H (upd H q o) := fun a ys e => by
  have n : a ≠ q := fun z => by
    rcases e with e | ⟨o, e⟩ <;> rw [z, h] at e <;> cases e
  rcases e with e | ⟨o, e⟩
  · exact .inl (by rw [upd_ne n]; exact e)
  · exact .inr ⟨o, by rw [upd_ne n]; exact e⟩
theorem TR.dput {H : Hp} {q : Addr} {xs : List (Key × V)} {o : HO} (h : H q = some (.dK xs)) : TR H (upd H q o) := fun a ys e => by
  have n : a ≠ q := fun z => by
    rcases e with e | ⟨o, e⟩ <;> rw [z, h] at e <;> cases e
  rcases e with e | ⟨o, e⟩
  · exact .inl (by rw [upd_ne n]; exact e)
  · exact .inr ⟨o, by rw [upd_ne n]; exact e⟩
theorem TR.ext {H H' : Hp} (e : LamX.ExtN H H') : TR H H' := fun a xs h => by
  rcases h with h | ⟨o, h⟩
  · exact .inl (e _ _ h fun ps z => nomatch z)
  · exact .inr ⟨o, e _ _ h fun ps z => nomatch z⟩
theorem TR.but {p : Addr} {H H' : Hp} {xs : List V} (e : But p H H') (hp : H p = some (.lst xs)) : TR H H' := fun a ys h => by
  have n : a ≠ p := fun z => by
    rcases h with h | ⟨o, h⟩ <;> rw [z, hp] at h <;> cases h
  rcases h with h | ⟨o, h⟩
  · exact .inl (e _ _ n h)
  · exact .inr ⟨o, e _ _ n h⟩
section
variable {K : PySem.W.Frag}
theorem TR.sq {H H' : Hp} {a : Addr} {xs : List V} (e : TR H H') (h : SqT K H a xs) : SqT K H' a xs := h.elim (fun h => .inl (e _ _ h)) .inr
mutual
theorem dp_tr {H H' : Hp} (e : TR H H') : ∀ {d : PyData} {v : V}, noL d = true → Dp K H v d → Dp K H' v d
  | .none, _, _, h => by cases h; exact .non
  | .bool b, _, _, h => by cases h; exact .bl b
  | .int i, _, _, h => by cases h; exact .int i
  | .str x, _, _, h => by cases h; exact .str x
  | .list _, _, n, _ => by simp [noL] at n
  | .dict _, _, n, _ => by simp [noL] at n
  | .tuple ds, _, n, h => by
    have n' : noLs ds = true := by simpa [noL] using n
    cases h with
    | tup hq ha => exact .tup (e.sq hq) (dpAll_tr e n' ha)
theorem dpAll_tr {H H' : Hp} (e : TR H H') : ∀ {ds : List PyData} {vs : List V}, noLs ds = true → DpAll K H vs ds → DpAll K H' vs ds
  | [], _, _, h => by cases h; exact .nil
  | d :: ds, _, n, h => by
    have n' : noL d = true ∧ noLs ds = true := by simpa [noLs] using n
    cases h with
    | cons a b => exact .cons (dp_tr e n'.1 a) (dpAll_tr e n'.2 b)
end
/-- tuples of tuples -/
structure Tn (K : PySem.W.Frag) (H : Hp) (v : V) (d : PyData) : Prop where
  dp : Dp K H v d
  nl : noL d = true
structure TnAll (K : PySem.W.Frag) (H : Hp) (vs : List V) (ds : List PyData) : Prop where
  dp : DpAll K H vs ds
  nl : noLs ds = true
theorem Tn.tr {H H' : Hp} {v : V} {d : PyData} (h : Tn K H v d) (e : TR H H') : Tn K H' v d := ⟨dp_tr e h.nl h.dp, h.nl⟩
theorem TnAll.tr {H H' : Hp} {vs : List V} {ds : List PyData} (h : TnAll K H vs ds) (e : TR H H') : TnAll K H' vs ds := ⟨dpAll_tr e h.nl h.dp, h.nl⟩
theorem TnAll.nil {H : Hp} : TnAll K H [] [] := ⟨.nil, rfl⟩
theorem TnAll.cons {H : Hp} {v : V} {vs : List V} {d : PyData} {ds : List PyData} (h : Tn K H v d) (t : TnAll K H vs ds) : TnAll K H (v :: vs) (d :: ds) := ⟨.cons h.dp t.dp, by simp [noLs, h.nl, t.nl]⟩
theorem TnAll.app {H : Hp} {vs ws : List V} {ds es : List PyData} (h : TnAll K H vs ds) (t : TnAll K H ws es) : TnAll K H (vs ++ ws) (ds ++ es) := ⟨h.dp.app t.dp, noLs_app h.nl t.nl⟩
theorem TnAll.len {H : Hp} {vs : List V} {ds : List PyData} (h : TnAll K H vs ds) : vs.length = ds.length := h.dp.len
theorem TnAll.uncons {H : Hp} {vs : List V} {d : PyData} {ds : List PyData} (h : TnAll K H vs (d :: ds)) : ∃ v vr, vs = v :: vr ∧ Tn K H v d ∧ TnAll K H vr ds := by
  obtain ⟨h1, h2⟩ := h
  have n' : noL d = true ∧ noLs ds = true := by simpa [noLs] using h2
  cases h1 with
  | cons a b => exact ⟨_, _, rfl, ⟨a, n'.1⟩, ⟨b, n'.2⟩⟩
theorem TnAll.split {H : Hp} : ∀ {xs ys : List PyData} {vs : List V}, TnAll K H vs (xs ++ ys) → ∃ us ws, vs = us ++ ws ∧ TnAll K H us xs ∧ TnAll K H ws ys
  | [], ys, vs, h => ⟨[], vs, rfl, .nil, h⟩
  | x :: xs, ys, vs, h => by
    obtain ⟨v, vr, rfl, h1, h2⟩ := TnAll.uncons (show TnAll K H vs (x :: (xs ++ ys)) from h)
    obtain ⟨us, ws, rfl, h3, h4⟩ := TnAll.split h2
    exact ⟨v :: us, ws, rfl, .cons h1 h3, h4⟩
theorem TnAll.rev {H : Hp} : ∀ {ds : List PyData} {vs : List V}, TnAll K H vs ds → TnAll K H vs.reverse ds.reverse
  | [], vs, h => by
    obtain ⟨h1, h2⟩ := h
    cases h1
    exact .nil
  | d :: ds, vs, h => by
    obtain ⟨v, vr, rfl, h1, h2⟩ := h.uncons
    rw [List.reverse_cons, List.reverse_cons]
    exact (TnAll.rev h2).app (.cons h1 .nil)
theorem Tn.tup {H : Hp} {v : V} {ds : List PyData} (h : Tn K H v (.tuple ds)) : ∃ a xs, v = .ref a ∧ SqT K H a xs ∧ TnAll K H xs ds := by
  obtain ⟨h1, h2⟩ := h
  have n' : noLs ds = true := by simpa [noL] using h2
  cases h1 with
  | tup hq ha => exact ⟨_, _, rfl, hq, ha, n'⟩
theorem Tn.of {H : Hp} {a : Addr} {xs : List V} {ds : List PyData} (h : SqT K H a xs) (t : TnAll K H xs ds) : Tn K H (.ref a) (.tuple ds) := ⟨.tup h t.dp, by simp [noL, t.nl]⟩
theorem Tn.newT {H : Hp} {q : Addr} {xs : List V} {ds : List PyData} (hq : H q = none) (t : TnAll K H xs ds) : Tn K (upd H q (.tup xs)) (.ref q) (.tuple ds) := .of (SqT.of upd_same) (t.tr (TR.new hq))
theorem Tn.str {H : Hp} (z : Str) : Tn K H (.str z) (.str z) := ⟨.str z, rfl⟩
theorem Tn.bl {H : Hp} (b : Bool) : Tn K H (.bl b) (.bool b) := ⟨.bl b, rfl⟩
theorem Tn.strv {H : Hp} {v : V} {z : Str} (h : Tn K H v (.str z)) : v = .str z := by
  cases h.dp
  rfl
end
/-! ### names exchanged, on data -/
abbrev Mp := Str → Option PyData
/-- a leaf, looked up -/
def exchD (m : Mp) : PyData → PyData
  | .tuple [.str u, .str z] => if u == "name" then (m z).getD (.tuple [.str u, .str z]) else .tuple [.str u, .str z]
  | d => d
/-- a term with other parts -/
def withD : PyData → List PyData → PyData
  | .tuple (.str u :: rest), ps => if u == "field" then .tuple (.str u :: (ps.take 1 ++ rest.drop 1)) else .tuple (.str u :: ps)
  | d, _ => d
mutual
def putD (m : Mp) : PyData → PyData
  | .tuple ds => if (partsD (.tuple ds)).isEmpty then exchD m (.tuple ds) else withD (.tuple ds) (partsD (.tuple (match ds with | x :: _ => x :: (putL m ds).drop 1 | [] => [])))
  | d => d
def putL (m : Mp) : List PyData → List PyData
  | [] => []
  | x :: xs => putD m x :: putL m xs
end
theorem putL_map (m : Mp) : ∀ ds : List PyData, putL m ds = ds.map (putD m)
  | [] => by simp [putL]
  | x :: xs => by simp [putL, putL_map m xs]
theorem putD_eq (m : Mp) (u : Str) (rest : List PyData) : putD m (.tuple (.str u :: rest)) = if (partsD (.tuple (.str u :: rest))).isEmpty then exchD m (.tuple (.str u :: rest)) else withD (.tuple (.str u :: rest)) ((partsD (.tuple (.str u :: rest))).map (putD m)) := by
  rw [putD, putL_map]
  have e : partsD (.tuple (.str u :: (List.map (putD m) (.str u :: rest)).drop 1)) = (partsD (.tuple (.str u :: rest))).map (putD m) := by
    show selW u (rest.map (putD m)) = (selW u rest).map (putD m)
    exact selW_map (putD m) u rest
  rw [← e]
/-! ### the stack of what is to be done, on data -/
def stepD (m : Mp) (q : PyData × Bool) (done : List PyData) : Option (List PyData) :=
  if q.2 && !(partsD q.1).isEmpty then
    if (partsD q.1).length ≤ done.length then some (done.take (done.length - (partsD q.1).length) ++ [withD q.1 (done.drop (done.length - (partsD q.1).length))]) else none
  else some (done ++ [putD m q.1])
def finD (m : Mp) : List (PyData × Bool) → List PyData → Option (List PyData)
  | [], done => some done
  | q :: t, done => (stepD m q done).bind (finD m t)
theorem finD_falses (m : Mp) : ∀ (ps : List PyData) (t : List (PyData × Bool)) (done : List PyData), finD m (ps.map (fun p => (p, false)) ++ t) done = finD m t (done ++ ps.map (putD m))
  | [], t, done => by simp
  | p :: ps, t, done => by
    show (stepD m (p, false) done).bind (finD m (ps.map (fun p => (p, false)) ++ t)) = _
    have e : stepD m (p, false) done = some (done ++ [putD m p]) := rfl
    rw [e]
    show finD m (ps.map (fun p => (p, false)) ++ t) (done ++ [putD m p]) = _
    rw [finD_falses m ps t, List.append_assoc]
    rfl
theorem finD_open (m : Mp) (u : Str) (rest : List PyData) (hp : (partsD (.tuple (.str u :: rest))).isEmpty = false) (t : List (PyData × Bool)) (done : List PyData) :
    finD m ((partsD (.tuple (.str u :: rest))).map (fun p => (p, false)) ++ (.tuple (.str u :: rest), true) :: t) done = finD m ((.tuple (.str u :: rest), false) :: t) done := by
  rw [finD_falses]
  show (stepD m (.tuple (.str u :: rest), true) (done ++ (partsD (.tuple (.str u :: rest))).map (putD m))).bind (finD m t) = (stepD m (.tuple (.str u :: rest), false) done).bind (finD m t)
  have e2 : stepD m (.tuple (.str u :: rest), false) done = some (done ++ [putD m (.tuple (.str u :: rest))]) := rfl
  have e1 : stepD m (.tuple (.str u :: rest), true) (done ++ (partsD (.tuple (.str u :: rest))).map (putD m)) = some (done ++ [putD m (.tuple (.str u :: rest))]) := by
    unfold stepD
    rw [if_pos (by show (true && !(partsD (.tuple (.str u :: rest))).isEmpty) = true; rw [hp]; rfl)]
    rw [if_pos (by show (partsD (.tuple (.str u :: rest))).length ≤ _; rw [List.length_append, List.length_map]; omega)]
    have ek : (done ++ (partsD (.tuple (.str u :: rest))).map (putD m)).length - (partsD (.tuple (.str u :: rest))).length = done.length := by
      rw [List.length_append, List.length_map]
      omega
    show some (List.take ((done ++ (partsD (.tuple (.str u :: rest))).map (putD m)).length - (partsD (.tuple (.str u :: rest))).length) _ ++ [withD _ (List.drop ((done ++ (partsD (.tuple (.str u :: rest))).map (putD m)).length - (partsD (.tuple (.str u :: rest))).length) _)]) = _
    rw [ek, List.take_left, List.drop_left, putD_eq, hp, if_neg Bool.false_ne_true]
  rw [e1, e2]
/-- how much is left to do -/
def muQ (q : PyData × Bool) : Nat := if q.2 then 1 else 2 * q.1.weight + 2
def muS : List (PyData × Bool) → Nat
  | [] => 0
  | q :: t => muQ q + muS t
theorem muS_app : ∀ (s t : List (PyData × Bool)), muS (s ++ t) = muS s + muS t
  | [], t => by simp [muS]
  | q :: s, t => by
    rw [List.cons_append, muS, muS, muS_app s t]
    omega
theorem muS_falses : ∀ ps : List PyData, muS (ps.map fun p => (p, false)) = 2 * PyData.weightAll ps
  | [] => by simp [muS, PyData.weightAll]
  | p :: ps => by
    rw [List.map_cons, muS, muS_falses ps, PyData.weightAll]
    show 2 * p.weight + 2 + _ = _
    omega
theorem muS_len : ∀ s : List (PyData × Bool), s.length ≤ muS s
  | [] => Nat.zero_le _
  | q :: s => by
    have := muS_len s
    rw [List.length_cons, muS]
    have : 1 ≤ muQ q := by
      unfold muQ
      split <;> omega
    omega
/-- a pair of the stack, as data -/
def prQ (q : PyData × Bool) : PyData := .tuple [q.1, .bool q.2]
end K18
set_option Elab.async false
set_option linter.all false
set_option maxRecDepth 100000
set_option maxHeartbeats 1000000
namespace K18
open PySem PySem.Spec PyProof.Rows L2 LamX NdefX LamC StX
open C8 (Cal Def cal0 pe_c fnBody fnScope fnArgs)
theorem term_form {d : PyData} (h : termB d = true) : ∃ u rest, d = .tuple (.str u :: rest) ∧ 1 ≤ rest.length ∧ shapedW u rest = true ∧ (selW u rest).all termB = true := by
  rw [termB_eq, Bool.and_eq_true] at h
  obtain ⟨u, rest, rfl, h1⟩ := shaped_form h.1
  have h2 : (decide (1 ≤ rest.length) && shapedW u rest) = true := h.1
  rw [Bool.and_eq_true] at h2
  exact ⟨u, rest, rfl, h1, h2.2, h.2⟩
theorem leaf_form {d : PyData} (h : termB d = true) (h2 : (partsD d).isEmpty = true) : ∃ u x, d = .tuple [.str u, x] ∧ leafW u = true ∧ leafB u x = true := by
  obtain ⟨u, rest, rfl, h1, hs, _⟩ := term_form h
  have h3 : (selW u rest).isEmpty = true := h2
  unfold selW at h3
  unfold shapedW at hs
  by_cases e : leafW u = true
  · rw [if_pos e, Bool.and_eq_true] at hs
    have hl := of_decide_eq_true hs.1
    match rest, hl with
    | [x], _ => exact ⟨u, x, rfl, e, hs.2⟩
  · rw [if_neg e] at h3
    cases rest with
    | nil => exact absurd h1 (by decide)
    | cons x r =>
      split at h3 <;> cases h3
theorem field_form {u : Str} {rest : List PyData} (h : shapedW u rest = true) (hu : (u == ("field" : Str)) = true) : ∃ x z, rest = [x, .str z] := by
  have eu : u = ("field" : Str) := eq_of_beq hu
  subst eu
  unfold shapedW at h
  rw [if_neg (by decide +kernel), if_pos hu, Bool.and_eq_true] at h
  have hl := of_decide_eq_true h.1
  match rest, hl with
  | [x, y], _ =>
    have h2 : nameB y = true := h.2
    unfold nameB at h2
    split at h2
    · exact ⟨x, _, rfl⟩
    · cases h2
/-- what the dict holds -/
def MapOk (K : PySem.W.Frag) (H : Hp) (kvs : List (Key × V)) (m : Mp) : Prop := ∀ z : Str, (valV kvs (.inr z) = none ∧ m z = none) ∨ ∃ v d, valV kvs (.inr z) = some v ∧ m z = some d ∧ Tn K H v d ∧ termB d = true
theorem MapOk.tr {K : PySem.W.Frag} {H H' : Hp} {kvs : List (Key × V)} {m : Mp} (h : MapOk K H kvs m) (e : TR H H') : MapOk K H' kvs m := fun z => by
  rcases h z with h | ⟨v, d, h1, h2, h3, h4⟩
  · exact .inl h
  · exact .inr ⟨v, d, h1, h2, h3.tr e, h4⟩
section
variable {P : Program} {w : World} {K : PySem.W.Frag} {mg : Str → Option Value} {base : Heap}
abbrev sPExchanged : Stmt := topS 5
abbrev NPExchanged : List Str := ["leaf", "terms"]
theorem scPExchanged : FnScope NPExchanged ["leaf", "terms"] (fnScope sPExchanged) := ⟨rfl, rfl, rfl, by decide +kernel, rfl, by decide +kernel, by decide +kernel⟩
def spExch (K : PySem.W.Frag) : Sp := fun vs H Q _ => ∃ v d da kvs m, vs = [v, .ref da] ∧ Tn K H v d ∧ termB d = true ∧ (partsD d).isEmpty = true ∧ H da = some (.dK kvs) ∧ MapOk K H kvs m ∧ ∀ v', Tn K H v' (exchD m d) → Q v' H
theorem c_exchanged {f : Addr} {fd : FuncData} (D : Def K mg "_exchanged" sPExchanged f fd) (b : Binds K fd ["leaf", "terms"] []) : Cal P w K mg base 1 "_exchanged" (spExch K) [] := by
  refine cal0 D b .nil scPExchanged (fun vs H Q E h => ?_) (fun cdv A outer s H vs Q E hr h => ?_)
  · obtain ⟨v, d, da, kvs, m, rfl, _⟩ := h
    rfl
  · obtain ⟨v, d, da, kvs, m, rfl, hv, ht, hp, hda, hm, q⟩ := h
    have nd := scPExchanged.nd
    refine ⟨_, (pss_cons (ps_if (PW.pt (pw_and (pt_cmpR op_eq (pe_ix ix_tup (pv 0) pe_int (fun _ _ => rfl)) pe_str (nomark _)) (pw_and1 (pt_cmp (pc_din (hu_of hr) (pe_ix ix_tup (pv 0) pe_int (fun _ _ => rfl)) (pv 1)) rfl))))
      (pss_one (ps_ret (pe_dget (hu_of hr) (pv 1) (pe_ix ix_tup (pv 0) pe_int (fun _ _ => rfl)) (fun _ _ => rfl))))
      pss_nil)
    (pss_one (ps_ret (pv 0)))), ?_⟩
    obtain ⟨u, x, rfl, hu, hx⟩ := leaf_form ht hp
    obtain ⟨a, xs, rfl, hq, ha⟩ := hv.tup
    obtain ⟨uv, r1, rfl, h1, ha2⟩ := ha.uncons
    have eu := h1.strv
    subst eu
    obtain ⟨xv, r2, rfl, h2, ha3⟩ := ha2.uncons
    refine ⟨_, rfl, a, _, _, .str u, rfl, rfl, hq, atI_nat (j := 0) rfl, rfl, _, rfl, ?_⟩
    rw [dec_str]
    refine ite2 (fun e => ?_) (fun e => ?_)
    · have eu : u = ("name" : Str) := eq_of_beq e
      subst eu
      have hx2 : nameB x = true := hx
      unfold nameB at hx2
      split at hx2
      · rename_i z
        have ez := h2.strv
        subst ez
        have ex : exchD m (.tuple [.str "name", .str z]) = (m z).getD (.tuple [.str "name", .str z]) := rfl
        rw [ex] at q
        refine ⟨_, rfl, a, _, _, .str z, rfl, rfl, hq, atI_nat (j := 1) rfl, _, rfl, da, _, rfl, DGet.k (k := .inr z) hda, ?_⟩
        rcases hm z with ⟨e1, e2⟩ | ⟨v2, d2, e1, e2, e3, e4⟩
        · rw [e1]
          refine ⟨_, rfl, iteF ?_⟩
          rw [e2] at q
          exact ⟨_, rfl, q _ hv⟩
        · rw [e1]
          refine ⟨_, rfl, iteT ?_⟩
          rw [e2] at q
          have g := DGet.k (k := .inr z) hda
          rw [e1] at g
          exact ⟨_, rfl, _, rfl, a, _, _, .str z, rfl, rfl, hq, atI_nat (j := 1) rfl, da, v2, rfl, g, q _ e3⟩
      · cases hx2
    · have ex : exchD m (.tuple [.str u, x]) = .tuple [.str u, x] := by
        unfold exchD
        split
        · rename_i heq
          cases heq
          rw [if_neg e]
        · rfl
      rw [ex] at q
      exact ⟨_, rfl, q _ hv⟩
abbrev sPWithParts : Stmt := topS 6
abbrev NPWithParts : List Str := ["term", "parts"]
theorem scPWithParts : FnScope NPWithParts ["term", "parts"] (fnScope sPWithParts) := ⟨rfl, rfl, rfl, by decide +kernel, rfl, by decide +kernel, by decide +kernel⟩
def spWithP (K : PySem.W.Frag) : Sp := fun vs H Q _ => ∃ v d l vm ds, vs = [v, .ref l] ∧ Tn K H v d ∧ termB d = true ∧ H l = some (.lst vm) ∧ TnAll K H vm ds ∧ 1 ≤ ds.length ∧ ds.length ≤ 1000 ∧ ∀ v' H', Same H H' → Tn K H' v' (withD d ds) → Q v' H'
theorem c_withParts {f : Addr} {fd : FuncData} (D : Def K mg "with_parts" sPWithParts f fd) (b : Binds K fd ["term", "parts"] []) : Cal P w K mg base 1 "with_parts" (spWithP K) [] := by
  refine cal0 D b .nil scPWithParts (fun vs H Q E h => ?_) (fun cdv A outer s H vs Q E hr h => ?_)
  · obtain ⟨v, d, l, vm, ds, rfl, _⟩ := h
    rfl
  · obtain ⟨v, d, l, vm, ds, rfl, hv, ht, hl, hds, h1, h1000, q⟩ := h
    have nd := scPWithParts.nd
    refine ⟨_, (pss_cons (ps_if (pt_cmpR op_eq (pe_ix ix_tup (pv 0) pe_int (fun _ _ => rfl)) pe_str (nomark _))
      (pss_one (ps_ret (pe_tup (pa_cons pe_str (pa_cons (pe_ix ix_list (pv 1) pe_int (fun _ _ => rfl)) (pa_cons (pe_ix ix_tup (pv 0) pe_int (fun _ _ => rfl)) pa_nil))))))
      pss_nil)
    (pss_one (ps_ret (pe_tup (pa_cons (pe_ix ix_tup (pv 0) pe_int (fun _ _ => rfl)) (pa_star (pv 1) pa_nil)))))), ?_⟩
    obtain ⟨u, rest, rfl, hr1, hsh, _⟩ := term_form ht
    obtain ⟨a, xs, rfl, hq, ha⟩ := hv.tup
    obtain ⟨uv, r1, rfl, hu1, ha2⟩ := ha.uncons
    have eu := hu1.strv
    subst eu
    have line := sizeLine_eq
    refine ⟨_, rfl, a, _, _, .str u, rfl, rfl, hq, atI_nat (j := 0) rfl, rfl, _, rfl, ?_⟩
    rw [dec_str]
    refine ite2 (fun e => ?_) (fun e => ?_)
    · obtain ⟨x, z, rfl⟩ := field_form hsh e
      have eu : u = ("field" : Str) := eq_of_beq e
      subst eu
      obtain ⟨xv, r2, rfl, hx, ha3⟩ := ha2.uncons
      obtain ⟨zv, r3, rfl, hz, ha4⟩ := ha3.uncons
      cases ds with
      | nil => exact absurd h1 (by decide)
      | cons d1 dr =>
        obtain ⟨dv, vr, rfl, hd1, hdr⟩ := hds.uncons
        refine ⟨_, rfl, l, _, _, dv, rfl, rfl, SqL.of hl, atI_nat (j := 0) rfl, _, rfl, a, _, _, zv, rfl, rfl, hq, atI_nat (j := 2) rfl, (by show 3 ≤ sizeLine; decide), fun t ht => ?_⟩
        exact q _ _ (Same.new ht) (Tn.newT ht (.cons (.str _) (.cons hd1 (.cons hz .nil))))
    · have hvl := hds.len
      refine ⟨_, rfl, a, _, _, .str u, rfl, rfl, hq, atI_nat (j := 0) rfl, _, rfl, l, vm, rfl, .inr (SqL.of hl), ?_⟩
      refine ⟨by rw [List.length_cons, List.length_append]; show vm.length + 0 + 1 ≤ sizeLine; omega, fun t ht => ?_⟩
      have ew : withD (.tuple (.str u :: rest)) ds = .tuple (.str u :: ds) := by
        show (if (u == ("field" : Str)) = true then _ else _) = _
        rw [if_neg e]
      rw [ew] at q
      have z := q (.ref t) _ (Same.new ht) (Tn.newT ht (.cons (.str u) hds))
      rw [List.append_nil]
      exact z
end
end K18
set_option Elab.async false
set_option linter.all false
set_option maxRecDepth 100000
set_option maxHeartbeats 1500000
namespace K18
open PySem PySem.Spec PyProof.Rows L2 LamX NdefX LamC StX
open C8 (Cal Def cal0 pe_c fnBody fnScope fnArgs)
/-! ### the lambda in with_names -/
abbrev sPWithNames : Stmt := topS 4
abbrev lamParams : Arguments := match fnBody sPWithNames with
  | [.Return (some (.Call _ [_, .Lambda p _ _ _] _ _)) _] => p
  | _ => fnArgs sPWithNames
abbrev lamBody : Expr := match fnBody sPWithNames with
  | [.Return (some (.Call _ [_, .Lambda _ b _ _] _ _)) _] => b
  | _ => .Constant (.int 0) 0 ⟨0, 0, 0, 0⟩
abbrev lamScope : Scope := match fnBody sPWithNames with
  | [.Return (some (.Call _ [_, .Lambda _ _ s _] _ _)) _] => s
  | _ => fnScope sPWithNames
abbrev lamN : List Str := ["one", "parts", "terms"]
theorem lamSc : NScope lamN ["one", "parts"] ["terms"] lamScope := nscope_by (by decide +kernel)
def resD (m : Mp) (d : PyData) (ds : List PyData) : PyData := if ds.isEmpty then exchD m d else withD d ds
def spLam (K : PySem.W.Frag) (da : Addr) (kvs : List (Key × V)) (m : Mp) : List (Option V) → Sp := fun ws vs H Q _ => ws = [some (.ref da)] ∧ ∃ v d l vm ds, vs = [v, .ref l] ∧ Tn K H v d ∧ termB d = true ∧ H l = some (.lst vm) ∧ TnAll K H vm ds ∧ ds.length ≤ 1000 ∧ ds.isEmpty = (partsD d).isEmpty ∧ H da = some (.dK kvs) ∧ MapOk K H kvs m ∧
  ∀ v' H', Same H H' → Tn K H' v' (resD m d ds) → Q v' H'
section
variable {P : Program} {w : World} {K : PySem.W.Frag} {mg : Str → Option Value} {base : Heap}
theorem lok_lam (c_PWithParts : Cal P w K mg base 1 "with_parts" (spWithP K) []) (c_PExchanged : Cal P w K mg base 1 "_exchanged" (spExch K) []) (nm ql : Str) (cl : List (Str × Addr)) (c f da : Addr) (kvs : List (Key × V)) (m : Mp) :
    LOk P w K mg base C8.CX0 2 f ⟨nm, ql, lamParams, [], lamScope, cl, c⟩ lamBody ["one", "parts"] ["terms"] (spLam K da kvs m) := by
  refine lok_of (N := lamN) lamSc (fun pm ctv us hl => ?_) (fun ws vs H Q E h => ?_) (fun A outer s H vs ws Q E hr hws h => ?_)
  · match us, hl with
    | [a, b], _ => rfl
  · obtain ⟨_, v, d, l, vm, ds, rfl, _⟩ := h
    rfl
  · obtain ⟨rfl, v, d, l, vm, ds, rfl, hv, ht, hl, hds, h1000, he, hda, hm, q⟩ := h
    refine ⟨_, pe_ifExp (pt_truth (pv 1) (by intro _; rfl)) (pe_c c_PWithParts hr (by decide) (by rfl) (pa_cons (pv 0) (pa_cons (pv 1) pa_nil))) (pe_c c_PExchanged hr (by decide) (by rfl) (pa_cons (pv 0) (pa_cons (pv 2) pa_nil))), ?_⟩
    have hvl := hds.len
    refine ⟨_, rfl, !vm.isEmpty, .inl ⟨vm, SqL.of hl, rfl⟩, ?_⟩
    unfold resD at q
    cases vm with
    | nil =>
      cases ds with
      | cons x y => cases hvl
      | nil =>
        refine iteF ⟨_, rfl, _, rfl, v, d, da, kvs, m, rfl, hv, ht, he.symm, hda, hm, fun v' tn => q v' H (Same.refl H) tn⟩
    | cons x y =>
      cases ds with
      | nil => cases hvl
      | cons dx dy =>
        refine iteT ⟨_, rfl, _, rfl, v, d, l, _, _, rfl, hv, ht, hl, hds, by rw [List.length_cons]; omega, h1000, fun v' H' s tn => q v' H' s tn⟩
theorem sel_tn {H : Hp} {vs : List V} {ds : List PyData} (u : Str) (h : TnAll K H vs ds) : TnAll K H (selW u vs) (selW u ds) := by
  refine ⟨sel_dp u h.dp, ?_⟩
  unfold selW
  split
  · rfl
  · split
    · have n := h.nl
      cases ds with
      | nil => rfl
      | cons x y =>
        have n' : noL x = true ∧ noLs y = true := by simpa [noLs] using n
        simp [noLs, n'.1]
    · exact h.nl
end
end K18
set_option Elab.async false
set_option linter.all false
set_option maxRecDepth 100000
set_option maxHeartbeats 1500000
namespace K18
open PySem PySem.Spec PyProof.Rows L2 LamX NdefX LamC StX
open C8 (Cal Def cal0 pe_c fnBody fnScope fnArgs)
theorem TnAll.at {K : PySem.W.Frag} {H : Hp} : ∀ {ds : List PyData} {vs : List V} {i : Nat} {v : V}, TnAll K H vs ds → vs[i]? = some v → ∃ d, ds[i]? = some d ∧ Tn K H v d
  | [], vs, i, v, h, e => by
    have := h.len
    cases vs with
    | nil => simp at e
    | cons x y => cases this
  | d :: ds, vs, i, v, h, e => by
    obtain ⟨v0, vr, rfl, h1, h2⟩ := h.uncons
    cases i with
    | zero =>
      simp at e
      exact ⟨d, rfl, e ▸ h1⟩
    | succ i =>
      obtain ⟨d', h3, h4⟩ := TnAll.at h2 (i := i) (by simpa using e)
      exact ⟨d', by simpa using h3, h4⟩
theorem TnAll.takes {K : PySem.W.Frag} {H : Hp} {ds : List PyData} {vs : List V} (k : Nat) (h : TnAll K H vs ds) : TnAll K H (vs.take k) (ds.take k) ∧ TnAll K H (vs.drop k) (ds.drop k) := by
  have e := List.take_append_drop k ds
  rw [← e] at h
  obtain ⟨us, ws, rfl, h1, h2⟩ := h.split
  have hl := h1.len
  have hv := h2.len
  by_cases hk : k ≤ ds.length
  · have l1 : us.length = k := by rw [hl, List.length_take]; omega
    rw [← l1] at h1 h2 ⊢
    rw [List.take_left, List.drop_left]
    exact ⟨h1, h2⟩
  · have e1 : ds.take k = ds := List.take_of_length_le (by omega)
    have e2 : ds.drop k = [] := List.drop_of_length_le (by omega)
    rw [e2] at hv h2 ⊢
    rw [e1] at hl h1 ⊢
    have ew : ws = [] := List.length_eq_zero_iff.mp hv
    subst ew
    rw [List.append_nil, List.take_of_length_le (by omega), List.drop_of_length_le (by omega)]
    exact ⟨h1, .nil⟩
theorem from_cut {xs : List V} {k : Nat} (hk : k ≤ xs.length) : cutV xs (some (k : Int)) none = xs.drop k := by
  have e : HT.sIx xs.length 0 (some (k : Int)) = k := by
    show (if (k : Int) < 0 then ((k : Int) + (xs.length : Int)).toNat else min (k : Int).toNat xs.length) = k
    rw [if_neg (by omega)]
    omega
  unfold cutV
  rw [e, HT.sIx_none]
  exact List.take_of_length_le (by rw [List.length_drop]; omega)
theorem same_put {H H1 : Hp} {l : Addr} {o : HO} (e : Same H H1) (h : H l = none) : Same H (upd H1 l o) := fun b u q => by
  rw [upd_ne (ne_of_none q h)]
  exact e b u q
theorem weightAll_rev : ∀ l : List PyData, PyData.weightAll l.reverse = PyData.weightAll l
  | [] => rfl
  | x :: xs => by
    rw [List.reverse_cons, weightAll_app, weightAll_rev xs]
    simp only [PyData.weightAll]
    omega
theorem fin_close (m : Mp) {u : Str} {rest : List PyData} {fx : Bool} {t : List (PyData × Bool)} {ds r : List PyData} (h : finD m ((.tuple (.str u :: rest), fx) :: t) ds = some r) (hc : (selW u rest).isEmpty = true ∨ fx = true) :
    (selW u rest).length ≤ ds.length ∧ finD m t (ds.take (ds.length - (selW u rest).length) ++ [resD m (.tuple (.str u :: rest)) (ds.drop (ds.length - (selW u rest).length))]) = some r ∧ (ds.drop (ds.length - (selW u rest).length)).isEmpty = (selW u rest).isEmpty := by
  have h : (stepD m (.tuple (.str u :: rest), fx) ds).bind (finD m t) = some r := h
  have hpl : partsD (.tuple (.str u :: rest)) = selW u rest := rfl
  have hpe := putD_eq m u rest
  rw [hpl] at hpe
  unfold stepD at h
  dsimp only at h
  rw [hpl] at h
  by_cases he : (selW u rest).isEmpty = true
  · have e0 : selW u rest = [] := List.isEmpty_iff.mp he
    rw [he, if_pos rfl] at hpe
    rw [he] at h
    rw [if_neg (by simp)] at h
    rw [e0]
    refine ⟨Nat.zero_le _, ?_, by simp⟩
    rw [hpe] at h
    simp only [List.length_nil, Nat.sub_zero, List.take_length, List.drop_length]
    exact h
  · have hfx : fx = true := hc.elim (fun z => absurd z he) id
    have hf : (selW u rest).isEmpty = false := by simpa using he
    subst hfx
    rw [hf] at h
    rw [if_pos (by rfl)] at h
    by_cases hl : (selW u rest).length ≤ ds.length
    · rw [if_pos hl] at h
      have hd : (ds.drop (ds.length - (selW u rest).length)).isEmpty = false := by
        cases e : ds.drop (ds.length - (selW u rest).length) with
        | cons x y => rfl
        | nil =>
          have := List.length_drop (i := ds.length - (selW u rest).length) (l := ds)
          rw [e] at this
          have h0 : (selW u rest).length = 0 := by simp at this; omega
          rw [List.length_eq_zero_iff.mp h0] at hf
          cases hf
      refine ⟨hl, ?_, hd.trans hf.symm⟩
      unfold resD
      rw [hd, if_neg Bool.false_ne_true]
      exact h
    · rw [if_neg hl] at h
      cases h
section
variable {P : Program} {w : World} {K : PySem.W.Frag} {mg : Str → Option Value} {base : Heap}
abbrev sPFolded : Stmt := topS 3
abbrev NPFolded : List Str := ["term", "told", "done", "todo", "one", "are_parts_done", "parts", "ahead", "made", "part"]
theorem scPFolded : FnScope NPFolded ["term", "told"] (fnScope sPFolded) := ⟨rfl, rfl, rfl, by decide +kernel, rfl, by decide +kernel, by decide +kernel⟩
def spFold (P : Program) (w : World) (K : PySem.W.Frag) (mg : Str → Option Value) (base : Heap) : Shared → List V → Hp → VK → Prop := fun s vs H Q => ∃ v d f F da kvs m, vs = [v, .ref f] ∧ Tn K H v d ∧ termB d = true ∧ d.weight ≤ 100000 ∧ (∀ e ∈ [d], short e = true) ∧
  LOk P w K mg base C8.CX0 2 f F lamBody ["one", "parts"] ["terms"] (spLam K da kvs m) ∧ H f = some (LamO f F lamBody) ∧ H F.c = some (CodeO F.c F.qual) ∧ CellsAt F.cl ["terms"] [some (.ref da)] s.heap H ∧ H da = some (.dK kvs) ∧ MapOk K H kvs m ∧
  ∀ v' H', Same H H' → Tn K H' v' (putD m d) → Q v' H'
/-- what stands while the stack is worked off -/
structure StF (K : PySem.W.Frag) (H : Hp) (m : Mp) (d0 : PyData) (ld lt : Addr) (n : Nat) (H1 : Hp) (vd : List V) (ds : List PyData) (vq : List V) (qs : List (PyData × Bool)) : Prop where
  ad : H1 ld = some (.lst vd)
  at_ : H1 lt = some (.lst vq)
  td : TnAll K H1 vd ds
  tq : TnAll K H1 vq (qs.map prQ)
  tm : ∀ q ∈ qs, termB q.1 = true
  sh : ∀ q ∈ qs, short q.1 = true
  fin : finD m qs.reverse ds = some [putD m d0]
  same : Same H H1
  mu : n = muS qs
  le : ds.length + muS qs ≤ 200002
theorem short_kids {u : Str} {rest : List PyData} (h : short (.tuple (.str u :: rest)) = true) : ∀ p ∈ selW u rest, short p = true := fun p hp => by
  have h2 := (short_all h).2
  have h3 : short (.str u) = true ∧ shortAll rest = true := by simpa [shortAll] using h2
  have hm : p ∈ rest := by
    unfold selW at hp
    split at hp
    · cases hp
    · split at hp
      · exact List.mem_of_mem_take hp
      · exact hp
  obtain ⟨i, hi⟩ := List.mem_iff_getElem?.mp hm
  exact short_mem h3.2 hi
theorem c_folded (T : Tp mg) (c_PPartsOf : Cal P w K mg base 1 "parts_of" (spParts K) []) {f : Addr} {fd : FuncData} (D : Def K mg "folded" sPFolded f fd) (b : Binds K fd ["term", "told"] []) : CalS P w K mg base 3 "folded" (spFold P w K mg base) := by
  refine calS0 D b scPFolded (fun s vs H Q h => ?_) (fun cdv A outer s H vs Q hr h => ?_)
  · obtain ⟨v, d, f, F, da, kvs, m, rfl, _⟩ := h
    rfl
  · obtain ⟨v0, d0, f, F, da, kvs, m, rfl, hv0, ht0, hw0, hsh0, Fn, hf, hc, C0, hda, hm, q⟩ := h
    have nd := scPFolded.nd
    have line := sizeLine_eq
    refine ⟨_, (pss_cons (ps_set (i := 2) nd rfl (.inl rfl) (pe_lst pa_nil))
    (pss_cons (ps_set (i := 3) nd rfl (.inl rfl) (pe_lst (pa_cons (pe_tup (pa_cons (pv 0) (pa_cons pe_bl pa_nil))) pa_nil)))
    (pss_cons (ps_while PassesOwn.never (pt_truth (pv 3) (by intro _; rfl))
      (pss_cons (ps_asg (pe_bm0 PySem.F.plainAttrs_list PySem.F.slot_list_pop PySem.F.type_list_pop mt_pop (pv 3)) (pg_tup (n := 2) rfl (pgs_cons (pg_name (i := 4) nd rfl (.inl rfl)) (pgs_cons (pg_name (i := 5) nd rfl (.inl rfl)) pgs_nil))))
    (pss_cons (ps_set (i := 6) nd rfl (.inl rfl) (pe_c c_PPartsOf hr (by decide) (by rfl) (pa_cons (pv 4) pa_nil)))
    (pss_one (ps_if (PW.pt (pw_and (pt_truth (pv 6) (by intro _; rfl)) (pw_and1 (pt_not (pt_val (pv 5))))))
      (pss_cons (ps_expr (pe_bm PySem.F.plainAttrs_list PySem.F.slot_list_append PySem.F.type_list_append mt_append (pv 3) (pa_cons (pe_tup (pa_cons (pv 4) (pa_cons pe_bl pa_nil))) pa_nil)))
    (pss_one (ps_expr (pe_bm PySem.F.plainAttrs_list PySem.F.slot_list_extend PySem.F.type_list_extend mt_extend (pv 3) (pa_cons (pe_lc (own := [("part", 9)]) (g := gName 9) (by rfl) nd (pi_list (pe_revL (pv 6))) (blkOk_by (own := [("part", 9)]) (N := NPFolded) (sc := fnScope sPFolded) (by decide +kernel)) (fun _ _ _ _ _ => pg_name (i := 9) nd rfl (Or.inl rfl)) (fun _ _ _ _ _ => pts_nil) (fun _ _ _ _ _ => pe_tup (pa_cons (pv 9) (pa_cons pe_bl pa_nil)))) pa_nil)))))
      (pss_cons (ps_set (i := 7) nd rfl (.inl rfl) (pe_op op_sub (pe_callB call_len_seq (by rfl) T.n_len (by decide +kernel) (pa_cons (pv 2) pa_nil)) (pe_callB call_len_seq (by rfl) T.n_len (by decide +kernel) (pa_cons (pv 6) pa_nil))))
    (pss_cons (ps_set (i := 8) nd rfl (.inl rfl) (pe_slice sl_list (pv 2) (po_some (pv 7)) po_none))
    (pss_cons (ps_delFrom (pv 2) (pv 7))
    (pss_one (ps_expr (pe_bm PySem.F.plainAttrs_list PySem.F.slot_list_append PySem.F.type_list_append mt_append (pv 2) (pa_cons (pe_callLam (i := 1) (E := C8.E0) (ws := [some (.ref da)]) Fn C0 (fun c z => nomatch z) hr (by decide) C8.pass0 rfl (.inl rfl) (pa_cons (pv 4) (pa_cons (pv 8) pa_nil))) pa_nil))))))))))))
    (pss_one (ps_ret (pe_ix ix_list (pv 2) pe_int (fun _ _ => rfl))))))), ?_⟩
    refine ⟨(by show 0 ≤ sizeLine; decide), fun ld hld => ?_⟩
    refine ⟨_, rfl, (by show 2 ≤ sizeLine; decide), fun t0 ht0' => ⟨(by show 1 ≤ sizeLine; decide), fun lt hlt => ?_⟩⟩
    have nltd : lt ≠ ld := fun e => by
      rw [e, Same.new ht0' _ _ upd_same] at hlt
      cases hlt
    have hltH : H lt = none := (Same.new hld).free ((Same.new ht0').free hlt)
    refine ⟨fun n σ H1 => ∃ vd ds vq qs o4 o5 o6 o7 o8, σ = [some v0, some (.ref f), some (.ref ld), some (.ref lt), o4, o5, o6, o7, o8, none] ∧ StF K H m d0 ld lt n H1 vd ds vq qs,
      ⟨muS [(d0, false)], [], [], [.ref t0], [(d0, false)], none, none, none, none, none, rfl, ?_⟩, ?_⟩
    · have s1 := (Same.new (o := .lst []) hld).trans (Same.new (o := .tup [v0, .bl false]) ht0')
      refine ⟨Same.new hlt _ _ (Same.new ht0' _ _ upd_same), upd_same, .nil, .cons ?_ .nil, (fun q hq => by rw [List.mem_singleton.mp hq]; exact ht0), (fun q hq => by rw [List.mem_singleton.mp hq]; exact hsh0 _ (by simp)), rfl, s1.trans (Same.new hlt), rfl, ?_⟩
      · exact (Tn.newT ht0' (.cons (hv0.tr (TR.new hld)) (.cons (.bl _) .nil))).tr (TR.new hlt)
      · show 0 + (2 * d0.weight + 2 + 0) ≤ 200002
        omega
    rintro n σ H1 ⟨vd, ds, vq, qs, o4, o5, o6, o7, o8, rfl, S⟩
    refine ⟨_, rfl, !vq.isEmpty, .inl ⟨vq, SqL.of S.at_, rfl⟩, ?_⟩
    by_cases hqs : qs = []
    · subst hqs
      have hvq : vq = [] := List.length_eq_zero_iff.mp S.tq.len
      subst hvq
      have hds : ds = [putD m d0] := Option.some.inj S.fin
      subst hds
      obtain ⟨v', vr, rfl, h1, h2⟩ := S.td.uncons
      exact iteF ⟨_, rfl, ld, _, _, v', rfl, rfl, SqL.of S.ad, atI_nat (j := 0) rfl, q v' H1 S.same h1⟩
    · obtain ⟨qi, ⟨dx, fx⟩, rfl⟩ := split_last hqs
      have tq := S.tq
      rw [List.map_append] at tq
      obtain ⟨us, wx, rfl, tqi, tqx⟩ := tq.split
      obtain ⟨vx, wr, rfl, tvx, hwr⟩ := tqx.uncons
      have ewr : wr = [] := List.length_eq_zero_iff.mp hwr.len
      subst ewr
      obtain ⟨tx, xs, rfl, hqx, hxs⟩ := tvx.tup
      obtain ⟨v, xr, rfl, hv, hxr⟩ := hxs.uncons
      obtain ⟨bv, xr2, rfl, hbv, hx2⟩ := hxr.uncons
      have exr : xr2 = [] := List.length_eq_zero_iff.mp hx2.len
      subst exr
      obtain rfl : bv = .bl fx := by cases hbv.dp; rfl
      have htx : termB dx = true := S.tm (dx, fx) (by simp)
      have hshx : short dx = true := S.sh (dx, fx) (by simp)
      have htmi : ∀ q ∈ qi, termB q.1 = true := fun q hq => S.tm q (List.mem_append_left _ hq)
      have hshi : ∀ q ∈ qi, short q.1 = true := fun q hq => S.sh q (List.mem_append_left _ hq)
      have hfin := S.fin
      rw [List.reverse_append] at hfin
      have hfin : finD m ((dx, fx) :: qi.reverse) ds = some [putD m d0] := hfin
      have hmu : n = muS qi + (muQ (dx, fx) + 0) := S.mu.trans (muS_app _ _)
      have hle := S.le
      rw [muS_app] at hle
      have hle : ds.length + (muS qi + (muQ (dx, fx) + 0)) ≤ 200002 := hle
      have hqil := muS_len qi
      obtain ⟨u, rest, rfl, hr1, hshp, hkt⟩ := term_form htx
      obtain ⟨a, ys, rfl, hqa, hya⟩ := hv.tup
      obtain ⟨uv, vr, rfl, huv, hvr⟩ := hya.uncons
      have euv := huv.strv
      subst euv
      have hvrl := hvr.len
      have hrl : rest.length ≤ 1000 := by
        have := (short_all hshx).1
        rw [List.length_cons] at this
        omega
      refine iteT' (by simp) ?_
      refine ⟨fun σ' H' => ∃ n', n' < n ∧ ∃ vd ds vq qs o4 o5 o6 o7 o8, σ' = [some v0, some (.ref f), some (.ref ld), some (.ref lt), o4, o5, o6, o7, o8, none] ∧ StF K H m d0 ld lt n' H' vd ds vq qs, fun σ' H' h => h, ?_⟩
      refine ⟨_, rfl, .inl ⟨rfl, _, SqL.of S.at_⟩, lt, _, .ref tx, rfl, rfl, S.at_, by simp, ?_⟩
      rw [List.dropLast_concat]
      have t12 : TR H1 (upd H1 lt (.lst us)) := TR.put S.at_
      have s2 : Same H (upd H1 lt (.lst us)) := same_put S.same hltH
      have hd2 : (upd H1 lt (.lst us)) ld = some (.lst vd) := by rw [upd_ne nltd.symm]; exact S.ad
      have hat2 : (upd H1 lt (.lst us)) lt = some (.lst us) := upd_same
      generalize hH2 : upd H1 lt (.lst us) = H2 at *
      refine ⟨tx, _, rfl, t12.sq hqx, rfl, .ref a, _, rfl, .bl fx, _, rfl, rfl, ?_⟩
      refine ⟨_, rfl, a, u, vr, rfl, t12.sq hqa, by omega, by omega, fun lp H3 hlp s23 hlp3 => ?_⟩
      have t23 := TR.same s23
      have t13 := t12.trans t23
      have s3 := s2.trans s23
      have hd3 := s23 _ _ hd2
      have hat3 := s23 _ _ hat2
      have hkids : TnAll K H3 (selW u vr) (selW u rest) := (sel_tn u hvr).tr t13
      have hkl := hkids.len
      have hpl : (partsD (.tuple (.str u :: rest))) = selW u rest := rfl
      have hslen : (selW u rest).length ≤ 1000 := Nat.le_trans (sel_len u rest) hrl
      have hnp : lp ≠ ld := fun e => by rw [e, hd2] at hlp; cases hlp
      have hnt : lp ≠ lt := fun e => by rw [e, hat2] at hlp; cases hlp
      refine (fun (els : ((¬ ((!(selW u vr).isEmpty) = true)) ∨ ¬ ((!fx) = true)) → _) => ⟨_, rfl, !(selW u vr).isEmpty, .inl ⟨_, SqL.of hlp3, rfl⟩, ite2 (fun e => ⟨_, rfl, fx, rfl, ite2 (fun e2 => ?_) (fun e2 => els (.inr e2))⟩) (fun e => els (.inl e))⟩) ?_
      · intro hels
        have hcl : (selW u rest).isEmpty = true ∨ fx = true := by
          rcases hels with h | h
          · left
            cases e1 : selW u rest with
            | nil => rfl
            | cons x y =>
              rw [e1] at hkl
              cases e2 : selW u vr with
              | nil => rw [e2] at hkl; cases hkl
              | cons x2 y2 => rw [e2] at h; exact absurd rfl h
          · right
            cases fx with
            | true => rfl
            | false => exact absurd rfl h
        obtain ⟨hk1, hfin2, hemp⟩ := fin_close m hfin hcl
        have hvd := S.td.len
        obtain ⟨k, hk⟩ : ∃ k : Nat, k = ds.length - (selW u rest).length := ⟨_, rfl⟩
        rw [← hk] at hfin2 hemp
        have ek : ((vd.length : Nat) : Int) - (((selW u vr).length : Nat) : Int) = ((k : Nat) : Int) := by omega
        refine ⟨_, rfl, ld, vd, rfl, .inl (SqL.of hd3), _, rfl, lp, _, rfl, .inl (SqL.of hlp3), _, _, rfl, rfl, ?_⟩
        refine (show gName 7 (.int (((vd.length : Nat) : Int) - (((selW u vr).length : Nat) : Int))) _ _ _ from ?_)
        rw [ek]
        refine ⟨_, rfl, _, rfl, (k : Int), rfl, ld, vd, rfl, SqL.of hd3, fun lm hlm => ?_⟩
        rw [from_cut (by omega)]
        have nmd : lm ≠ ld := fun e => by rw [e, hd3] at hlm; cases hlm
        have nmt : lm ≠ lt := fun e => by rw [e, hat3] at hlm; cases hlm
        have s4 := s3.trans (Same.new (o := .lst (vd.drop k)) hlm)
        have hd4 : (upd H3 lm (.lst (vd.drop k))) ld = some (.lst vd) := Same.new hlm _ _ hd3
        have hat4 : (upd H3 lm (.lst (vd.drop k))) lt = some (.lst us) := Same.new hlm _ _ hat3
        have t34 : TR H3 (upd H3 lm (.lst (vd.drop k))) := TR.new hlm
        have hlm4 : (upd H3 lm (.lst (vd.drop k))) lm = some (.lst (vd.drop k)) := upd_same
        generalize upd H3 lm (.lst (vd.drop k)) = H4 at *
        refine ⟨_, rfl, _, rfl, _, rfl, ld, vd, k, rfl, rfl, hd4, by omega, ?_⟩
        have s5 := same_put (o := .lst (vd.take k)) s4 hld
        have t45 : TR H4 (upd H4 ld (.lst (vd.take k))) := TR.put hd4
        have hd5 : (upd H4 ld (.lst (vd.take k))) ld = some (.lst (vd.take k)) := upd_same
        have hat5 : (upd H4 ld (.lst (vd.take k))) lt = some (.lst us) := by rw [upd_ne nltd]; exact hat4
        have hlm5 : (upd H4 ld (.lst (vd.take k))) lm = some (.lst (vd.drop k)) := by rw [upd_ne nmd]; exact hlm4
        generalize upd H4 ld (.lst (vd.take k)) = H5 at *
        have t15 := (t13.trans t34).trans t45
        obtain ⟨hT, hDr⟩ := (S.td.tr t15).takes k
        refine ⟨_, rfl, .inl ⟨rfl, _, SqL.of hd5⟩, rfl, s5 _ _ hf, _, rfl, _, rfl, s5 _ _ hf, s5 _ _ hc, rfl, .ref a, _, lm, _, _, rfl, hv.tr t15, htx, hlm5, hDr, ?_, hemp, s5 _ _ hda, hm.tr (TR.same s5), fun v' H6 s56 tn6 => ⟨ld, _, v', rfl, rfl, s56 _ _ hd5, ?_, ?_⟩⟩
        · rw [List.length_drop]
          omega
        · rw [List.length_take]
          omega
        · have t67 : TR H6 (upd H6 ld (.lst (vd.take k ++ [v']))) := TR.put (s56 _ _ hd5)
          have t57 := (TR.same s56).trans t67
          refine ⟨muS qi, ?_, _, ds.take k ++ [resD m (.tuple (.str u :: rest)) (ds.drop k)], us, qi, _, _, _, _, _, rfl, upd_same, by rw [upd_ne nltd]; exact s56 _ _ hat5, (hT.tr t57).app (.cons (tn6.tr t67) .nil), tqi.tr (t15.trans t57), htmi, hshi, hfin2, same_put (s5.trans s56) hld, rfl, ?_⟩
          · rw [hmu]
            have : 1 ≤ muQ (.tuple (.str u :: rest), fx) := by
              unfold muQ
              split <;> omega
            omega
          · rw [List.length_append, List.length_take, List.length_singleton]
            have h1 : 1 ≤ muQ (.tuple (.str u :: rest), fx) := by
              unfold muQ
              split <;> omega
            omega
      · have hfx : fx = false := by
          cases fx with
          | false => rfl
          | true => exact absurd e2 Bool.false_ne_true
        subst hfx
        have hne : (partsD (.tuple (.str u :: rest))).isEmpty = false := by
          show (selW u rest).isEmpty = false
          cases e1 : selW u rest with
          | cons x y => rfl
          | nil =>
            rw [e1] at hkl
            have e3 := List.length_eq_zero_iff.mp hkl
            rw [e3] at e
            cases e
        have hop := finD_open m u rest hne qi.reverse ds
        have hwp := weight_parts (.tuple (.str u :: rest))
        rw [hpl] at hop hwp
        have hul := tqi.len
        rw [List.length_map] at hul
        have hkw := len_weightAll (selW u rest)
        have emq : muQ (.tuple (.str u :: rest), false) = 2 * (PyData.tuple (.str u :: rest)).weight + 2 := rfl
        rw [emq] at hmu hle
        refine ⟨_, rfl, .inl ⟨rfl, _, SqL.of hat3⟩, _, rfl, (by show 2 ≤ sizeLine; decide), fun t ht => ⟨lt, us, _, rfl, rfl, Same.new ht _ _ hat3, by omega, ?_⟩⟩
        have t34 : TR H3 (upd H3 t (.tup [.ref a, .bl true])) := TR.new ht
        have s4 := s3.trans (Same.new (o := .tup [.ref a, .bl true]) ht)
        have hat4 : (upd H3 t (.tup [.ref a, .bl true])) lt = some (.lst us) := Same.new ht _ _ hat3
        have hd4 : (upd H3 t (.tup [.ref a, .bl true])) ld = some (.lst vd) := Same.new ht _ _ hd3
        have hlp4 : (upd H3 t (.tup [.ref a, .bl true])) lp = some (.lst (selW u vr)) := Same.new ht _ _ hlp3
        have tn4 : Tn K (upd H3 t (.tup [.ref a, .bl true])) (.ref t) (prQ (.tuple (.str u :: rest), true)) := Tn.newT ht (.cons (hv.tr t13) (.cons (.bl true) .nil))
        generalize upd H3 t (.tup [.ref a, .bl true]) = H4 at *
        have t45 : TR H4 (upd H4 lt (.lst (us ++ [.ref t]))) := TR.put hat4
        have s5 := same_put (o := .lst (us ++ [.ref t])) s4 hltH
        have hat5 : (upd H4 lt (.lst (us ++ [.ref t]))) lt = some (.lst (us ++ [.ref t])) := upd_same
        have hd5 : (upd H4 lt (.lst (us ++ [.ref t]))) ld = some (.lst vd) := by rw [upd_ne nltd.symm]; exact hd4
        have hlp5 : (upd H4 lt (.lst (us ++ [.ref t]))) lp = some (.lst (selW u vr)) := by rw [upd_ne hnt]; exact hlp4
        generalize upd H4 lt (.lst (us ++ [.ref t])) = H5 at *
        refine ⟨_, rfl, .inl ⟨rfl, _, SqL.of hat5⟩, _, rfl, lp, _, rfl, SqL.of hlp5, fun lr hlr => ⟨lr, rfl, ⟨_, SqL.of upd_same⟩, fun Dl hDl => ?_⟩⟩
        have s56 : Same H5 (upd H5 lr (.lst (selW u vr).reverse)) := Same.new hlr
        have hlr6 : (upd H5 lr (.lst (selW u vr).reverse)) lr = some (.lst (selW u vr).reverse) := upd_same
        generalize upd H5 lr (.lst (selW u vr).reverse) = H6 at *
        have t36 := (t34.trans t45).trans (TR.same s56)
        have hrev : TnAll K H6 (selW u vr).reverse (selW u rest).reverse := (hkids.tr t36).rev
        have nDr : Dl ≠ lr := fun z => by rw [z, hlr6] at hDl; cases hDl
        refine lc_list (K := K) (a := lr) (xs := (selW u vr).reverse) (fun i H' => ∃ acc, H' Dl = some (.lst acc) ∧ acc.length = i ∧ Same H6 H' ∧ TnAll K H' acc (((selW u rest).reverse.take i).map fun p => prQ (p, false))) ⟨[], upd_same, rfl, Same.new hDl, .nil⟩ (fun i H' _ hW => ?_) (fun i x H' hi hW => ?_) (fun H' hW => ?_)
        · obtain ⟨acc, h1, h2, h3, h4⟩ := hW
          exact SqL.of (h3 _ _ hlr6)
        · obtain ⟨acc, h1, h2, h3, h4⟩ := hW
          obtain ⟨pd, hpd, tpd⟩ := hrev.at hi
          have hil : i < (selW u vr).reverse.length := (List.getElem?_eq_some_iff.mp hi).1
          rw [List.length_reverse] at hil
          refine ⟨rfl, ?_⟩
          unfold tYes; dsimp only
          rw [if_pos rfl]
          refine ⟨_, rfl, (by show 2 ≤ sizeLine; decide), fun t2 ht2 => ?_⟩
          have h1' : (upd H' t2 (.tup [x, .bl false])) Dl = some (.lst acc) := Same.new ht2 _ _ h1
          have tp : TR (upd H' t2 (.tup [x, .bl false])) (upd (upd H' t2 (.tup [x, .bl false])) Dl (.lst (acc ++ [.ref t2]))) := TR.put h1'
          refine ⟨acc, h1', by omega, acc ++ [.ref t2], upd_same, by rw [List.length_append, h2]; rfl, same_put (h3.trans (Same.new ht2)) hDl, ?_⟩
          rw [List.take_succ, hpd]
          show TnAll K _ _ (List.map _ (_ ++ [pd]))
          rw [List.map_append]
          exact ((h4.tr (TR.new ht2)).tr tp).app (.cons ((Tn.newT ht2 (.cons (tpd.tr (TR.same h3)) (.cons (.bl false) .nil))).tr tp) .nil)
        · obtain ⟨acc, h1, h2, h3, h4⟩ := hW
          rw [List.length_reverse] at h2
          have hat7 := h3 _ _ (s56 _ _ hat5)
          have hd7 := h3 _ _ (s56 _ _ hd5)
          have e7 : (selW u rest).reverse.take (selW u vr).reverse.length = (selW u rest).reverse := List.take_of_length_le (by rw [List.length_reverse, List.length_reverse]; omega)
          rw [e7] at h4
          refine ⟨lt, Dl, _, acc, rfl, rfl, hat7, h1, by rw [List.length_append, List.length_singleton]; omega, ?_⟩
          have t78 : TR H' (upd H' lt (.lst (us ++ [.ref t] ++ acc))) := TR.put hat7
          have t48 : TR H4 (upd H' lt (.lst (us ++ [.ref t] ++ acc))) := ((t45.trans (TR.same s56)).trans (TR.same h3)).trans t78
          have t18 := (t13.trans t34).trans t48
          have em : muS ((qi ++ [(PyData.tuple (.str u :: rest), true)]) ++ (selW u rest).reverse.map fun p => (p, false)) = muS qi + 1 + 2 * PyData.weightAll (selW u rest) := by
            rw [muS_app, muS_app, muS_falses, weightAll_rev]
            rfl
          refine ⟨muS ((qi ++ [(PyData.tuple (.str u :: rest), true)]) ++ (selW u rest).reverse.map fun p => (p, false)), ?_, vd, ds, _, (qi ++ [(PyData.tuple (.str u :: rest), true)]) ++ (selW u rest).reverse.map (fun p => (p, false)), _, _, _, _, _, rfl, by rw [upd_ne nltd.symm]; exact hd7, upd_same, S.td.tr t18, ?_, ?_, ?_, ?_, same_put ((s5.trans s56).trans h3) hltH, rfl, ?_⟩
          · rw [em, hmu]
            omega
          · rw [List.map_append, List.map_append, List.map_map]
            exact ((tqi.tr t18).app (.cons (tn4.tr t48) .nil)).app (h4.tr t78)
          · intro q hq
            rcases List.mem_append.mp hq with hq | hq
            · rcases List.mem_append.mp hq with hq | hq
              · exact htmi q hq
              · rw [List.mem_singleton.mp hq]
                exact htx
            · obtain ⟨p, hp, rfl⟩ := List.mem_map.mp hq
              exact List.all_eq_true.mp hkt p (List.mem_reverse.mp hp)
          · intro q hq
            rcases List.mem_append.mp hq with hq | hq
            · rcases List.mem_append.mp hq with hq | hq
              · exact hshi q hq
              · rw [List.mem_singleton.mp hq]
                exact hshx
            · obtain ⟨p, hp, rfl⟩ := List.mem_map.mp hq
              exact short_kids hshx p (List.mem_reverse.mp hp)
          · rw [List.reverse_append, List.reverse_append, ← List.map_reverse, List.reverse_reverse]
            exact hop.trans hfin
          · rw [em]
            omega
end
end K18
set_option Elab.async false
set_option linter.all false
set_option maxRecDepth 100000
set_option maxHeartbeats 1500000
namespace LamC
open PySem PySem.Spec PyProof.Rows L2 LamX NdefX
open C8 (Cal Def fnBody fnScope fnArgs)
/-- a def whose code object is known -/
theorem calL0 {P : Program} {w : World} {K : PySem.W.Frag} {mg : Str → Option Value} {base : Heap} {x : Str} {st : Stmt} {f c : Addr} {N ps : List Str} {k : Nat} {sp : Sp} {oc dV kV doc pm ct : Value} {od an : Option Addr} {osl : Array (Option Value)}
    (lk : K.lookup f = some ⟨oc, od, .func (PySem.W.fnOf x x (fnArgs st) (fnBody st) (fnScope st) dV kV doc pm an (.ref c) ct), osl⟩) (hcd : PySem.W.codeIn K (.ref c) x = true) (hm : mg x = some (.ref f)) (kp : PySem.W.keepIn K (.ref f) = true)
    (b : Binds K (PySem.W.fnOf x x (fnArgs st) (fnBody st) (fnScope st) dV kV doc pm an (.ref c) ct) ps []) (S : FnScope N ps (fnScope st)) (len : ∀ vs H Q E, sp vs H Q E → vs.length = ps.length)
    (hbody : ∀ (A : Around) (outer : List Env) (s : Shared) (H : Hp) (vs : List V) (Q : VK) (E : XK), Room k (A.deeper (envOfC x (fnScope st) s.heap.objs.size f (.ref c))) → sp vs H Q E →
      ∃ t, PSs (cxOf C8.CX0 P w K mg base N x (fnScope st) f (.ref c) A outer s H E).nox (fnBody st) t ∧ t { nx := fun _ H' => Q .non H', rt := Q } (start N vs) H) : Cal P w K mg base (k + 1) x sp [] := by
  refine ⟨f, _, ps, [], ⟨len, fun A outer s H args us vs Q E hr e0 hb r h => ?_⟩, hm, kp, b, .nil⟩
  refine run_ofS lk hcd S hr e0 hb r (len _ _ _ _ h) fun hr' => ?_
  obtain ⟨t, ht, hq⟩ := hbody A outer s H vs Q E hr' h
  exact ⟨t, ht.nox, hq⟩
end LamC
namespace K18
open PySem PySem.Spec PyProof.Rows L2 LamX NdefX LamC StX
open C8 (Cal Def cal0 pe_c fnBody fnScope fnArgs)
section
variable {P : Program} {w : World} {K : PySem.W.Frag} {mg : Str → Option Value} {base : Heap}
abbrev NPWithNames : List Str := ["term", "terms"]
theorem scPWithNames : FnScope NPWithNames ["term", "terms"] (fnScope sPWithNames) := ⟨rfl, rfl, rfl, by decide +kernel, rfl, by decide +kernel, by decide +kernel⟩
abbrev lamQ : Str := (("with_names" : Str) ++ ".<locals>.") ++ "<lambda>"
def spWN (K : PySem.W.Frag) (Pt : Addr) : Sp := fun vs H Q _ => ∃ v d da kvs m, vs = [v, .ref da] ∧ Tn K H v d ∧ termB d = true ∧ d.weight ≤ 100000 ∧ short d = true ∧ H da = some (.dK kvs) ∧ MapOk K H kvs m ∧ Tabs [(Pt, lamQ)] H ∧
  ∀ v' H', ExtN H H' → (∀ b, H' b = none → H b = none) → Tabs [(Pt, lamQ)] H' → Tn K H' v' (putD m d) → Q v' H'
def ScWN (K : PySem.W.Frag) (F : Addr → NF) : List (Option V) → List V → Hp → VK → Prop := fun ws vs H Q => ∃ v d g c' da kvs m, vs = [v, .ref g] ∧ ws = [some (.ref da)] ∧ Tn K H v d ∧ termB d = true ∧ d.weight ≤ 100000 ∧ short d = true ∧ H g = some (LamO g (F c') lamBody) ∧ H (F c').c = some (CodeO (F c').c (F c').qual) ∧ H da = some (.dK kvs) ∧ MapOk K H kvs m ∧
  ∀ v' H', Same H H' → Tn K H' v' (putD m d) → Q v' H'
theorem lamFree : ndefB (fnScope sPWithNames) lamScope ["terms"] = true := by decide +kernel
theorem c_withNames (cFold : CalS P w K mg base 3 "folded" (spFold P w K mg base)) (c_PWithParts : Cal P w K mg base 1 "with_parts" (spWithP K) []) (c_PExchanged : Cal P w K mg base 1 "_exchanged" (spExch K) []) {Pt : Addr} {f c : Addr} {oc dV kV doc pm ct : Value} {od an : Option Addr} {osl : Array (Option Value)}
    (lk : K.lookup f = some ⟨oc, od, .func (PySem.W.fnOf "with_names" "with_names" (fnArgs sPWithNames) (fnBody sPWithNames) (fnScope sPWithNames) dV kV doc pm an (.ref c) ct), osl⟩) (hcd : PySem.W.codeIn K (.ref c) "with_names" = true) (hmg : mg "with_names" = some (.ref f)) (kp : PySem.W.keepIn K (.ref f) = true)
    (b : L2.Binds K (PySem.W.fnOf "with_names" "with_names" (fnArgs sPWithNames) (fnBody sPWithNames) (fnScope sPWithNames) dV kV doc pm an (.ref c) ct) ["term", "terms"] []) (TB : TabB base mg c Pt) : Cal P w K mg base 4 "with_names" (spWN K Pt) [] := by
  refine calL0 (N := NPWithNames) lk hcd hmg kp b scPWithNames (fun vs H Q E h => ?_) (fun A outer s H vs Q E hr h => ?_)
  · obtain ⟨v, d, da, kvs, m, rfl, _⟩ := h
    rfl
  · obtain ⟨v, d, da, kvs, m, rfl, hv, ht, hw, hsh, hda, hm, hT, q⟩ := h
    have nd := scPWithNames.nd
    have hfree := ndef_free lamFree
    have hfr := ndef_fr lamFree
    refine ⟨_, pss_one (ps_ret (pe_cS (js := [1]) (fr := ["terms"]) (Sc := ScWN K (lamF (cxOf C8.CX0 P w K mg base NPWithNames "with_names" (fnScope sPWithNames) f (.ref c) A outer s H E).nox lamParams lamScope)) cFold hr (by decide) (by rfl) (fun ok => Caps.made ok hfree hfr rfl) (fun s' ws vs' H' Q' C h' => ?_) (pa_cons (pv 0) (pa_cons (pe_lam (T := [(Pt, lamQ)]) TB rfl ?_ ?_ rfl hfree) pa_nil)))), ?_⟩
    · obtain ⟨v1, d1, g, c', da1, kvs1, m1, rfl, rfl, h1, h2, h3, h4, h5, h6, h7, h8, h9⟩ := h'
      exact ⟨v1, d1, g, _, da1, kvs1, m1, rfl, h1, h2, h3, (fun e he => by rw [List.mem_singleton.mp he]; exact h4), lok_lam c_PWithParts c_PExchanged _ _ _ _ _ _ _ _, h5, h6, C, h7, h8, h9⟩
    · exact List.mem_singleton.mpr rfl
    · intro p hp _
      rw [List.mem_singleton.mp hp]
      rfl
    · refine ⟨_, rfl, hT, fun g c' H1 eN bN T1 hg0 hg hc' => ?_⟩
      exact ⟨v, d, g, c', da, kvs, m, rfl, rfl, hv.tr (TR.ext eN), ht, hw, hsh, hg, hc', eN _ _ hda (fun ps z => nomatch z), hm.tr (TR.ext eN), fun v' H' s' tn => q v' H' (eN.trans (ExtN.of s')) (fun b hb => bN b (s'.free hb)) (T1.ext s') tn⟩
end
end K18
set_option Elab.async false
set_option linter.all false
set_option maxRecDepth 100000
set_option maxHeartbeats 1500000
namespace K18
open PySem PySem.Spec PyProof.Rows L2 LamX NdefX LamC StX
open C8 (Cal Def cal0 pe_c fnBody fnScope fnArgs)
theorem leaf_words {u : Str} (h : (u == ("name" : Str)) = false) : inV (.str u) [.str "number", .str "truth", .str "empty", .str "box"] = leafW u := by
  have h2 : (("name" : Str) == u) = false := by
    cases e : (("name" : Str) == u) with
    | false => rfl
    | true =>
      rw [← eq_of_beq e] at h
      exact absurd h (by decide +kernel)
  unfold leafW inV
  simp only [List.any_cons, List.any_nil, eqV, Bool.or_false]
  rw [h2]
  cases (("number" : Str) == u) <;> cases (("truth" : Str) == u) <;> cases (("empty" : Str) == u) <;> cases (("box" : Str) == u) <;> rfl
theorem tail_ix {x : V} {vr : List V} : HT.sIx (x :: vr).length 0 (some 1) = 1 := by
  rw [show HT.sIx (x :: vr).length 0 (some 1) = min 1 (x :: vr).length from HT.sIx_nat (x :: vr).length 0 1, List.length_cons]
  omega
theorem tail_ne {x : V} {vr : List V} : ¬ (HT.sIx (x :: vr).length 0 (some 1) = 0 ∧ HT.sIx (x :: vr).length (x :: vr).length none = (x :: vr).length) := fun h => by
  rw [tail_ix] at h
  exact absurd h.1 (by decide)
theorem tail_cut {x : V} {vr : List V} : cutV (x :: vr) (some 1) none = vr := by
  unfold cutV
  rw [tail_ix, HT.sIx_none]
  exact List.take_of_length_le (by simp)
theorem rest_kind {d : PyData} {u : Str} {rest : List PyData} (ht : termB (.tuple (.str u :: rest)) = true) (hl : leafW u = false) : ∀ p ∈ rest, termB p = true ∨ ∃ z, p = .str z := fun p hp => by
  obtain ⟨u', rest', e, h1, hsh, hk⟩ := term_form ht
  cases e
  by_cases hu : (u == ("field" : Str)) = true
  · obtain ⟨x, z, rfl⟩ := field_form hsh hu
    have e1 : selW u [x, .str z] = [x] := by
      unfold selW
      rw [hl, if_neg Bool.false_ne_true, if_pos hu]
      rfl
    rw [e1] at hk
    simp only [List.mem_cons, List.not_mem_nil, or_false] at hp
    rcases hp with rfl | rfl
    · exact .inl (List.all_eq_true.mp hk _ (by simp))
    · exact .inr ⟨z, rfl⟩
  · have e1 : selW u rest = rest := by
      unfold selW
      rw [hl, if_neg Bool.false_ne_true, if_neg hu]
    rw [e1] at hk
    exact .inl (List.all_eq_true.mp hk p hp)
theorem depth_mem {ds : List PyData} : ∀ {p : PyData}, p ∈ ds → p.depth ≤ PyData.depthAll ds := by
  induction ds with
  | nil => intro p h; cases h
  | cons x xs ih =>
    intro p h
    simp only [PyData.depthAll]
    rcases List.mem_cons.mp h with rfl | h
    · omega
    · have := ih h
      omega
theorem depth_kid {u : Str} {rest : List PyData} {p : PyData} (hp : p ∈ rest) : p.depth + 1 ≤ (PyData.tuple (.str u :: rest)).depth := by
  have := depth_mem hp
  simp only [PyData.depth, PyData.depthAll]
  omega
theorem weight_mem {ds : List PyData} : ∀ {p : PyData}, p ∈ ds → p.weight + 1 ≤ PyData.weightAll ds := by
  induction ds with
  | nil => intro p h; cases h
  | cons x xs ih =>
    intro p h
    rw [PyData.weightAll]
    rcases List.mem_cons.mp h with rfl | h
    · omega
    · have := ih h
      omega
theorem weight_take : ∀ (ds : List PyData) (k : Nat), PyData.weightAll (ds.take k) ≤ PyData.weightAll ds
  | [], k => by simp [PyData.weightAll]
  | x :: xs, 0 => by simp [PyData.weightAll]
  | x :: xs, k + 1 => by
    have := weight_take xs k
    rw [List.take_succ_cons, PyData.weightAll, PyData.weightAll]
    omega
theorem isOf_str (z : Str) : isOf "tuple" (.str z) = false := by rfl
theorem isOf_term {d : PyData} (h : termB d = true) : isOf "tuple" d = true := by
  obtain ⟨u, rest, rfl, _⟩ := term_form h
  rfl
section
variable {P : Program} {w : World} {K : PySem.W.Frag} {mg : Str → Option Value} {base : Heap}
abbrev sLNames : Stmt := topS 16
abbrev NLNames : List Str := ["_law_term_here", "_law_found", "_law_part"]
theorem scLNames : FnScope NLNames ["_law_term_here"] (fnScope sLNames) := ⟨rfl, rfl, rfl, by decide +kernel, rfl, by decide +kernel, by decide +kernel⟩
def spNames (K : PySem.W.Frag) (n : Nat) : Sp := fun vs H Q _ => ∃ v d, vs = [v] ∧ Tn K H v d ∧ termB d = true ∧ short d = true ∧ d.depth ≤ n ∧ d.weight ≤ 100000 ∧
  ∀ (l : Addr) (zs : List Str) (H' : Hp), H l = none → Same H H' → H' l = some (.lst (zs.map V.str)) → (∀ z ∈ zs, nameS z = true) → zs.length ≤ d.weight → Q (.ref l) H'
theorem c_lnames (T : Tp mg) {f : Addr} {fd : FuncData} (D : Def K mg "_law_names" sLNames f fd) (b : Binds K fd ["_law_term_here"] []) :
    ∀ n : Nat, Cal P w K mg base (1 + n) "_law_names" (spNames K n) []
  | 0 => cal_no _ (fun vs H Q E ⟨v, d, _, _, ht, _, hd, _⟩ => by
      obtain ⟨u, rest, rfl, _⟩ := term_form ht
      simp only [PyData.depth] at hd
      omega) D b
  | n + 1 => by
    have c_LNames := c_lnames T D b n
    have e9 : 1 + (n + 1) = (1 + n) + 1 := by omega
    rw [e9]
    refine cal0 D b .nil scLNames (fun vs H Q E h => ?_) (fun cdv A outer s H vs Q E hr h => ?_)
    · obtain ⟨v, d, rfl, _⟩ := h
      rfl
    · obtain ⟨v, d, rfl, hv, ht, hsh, hdp, hw, q⟩ := h
      have nd := scLNames.nd
      have line := sizeLine_eq
      refine ⟨_, (pss_cons (ps_if (pt_cmpR op_eq (pe_ix ix_tup (pv 0) pe_int (fun _ _ => rfl)) pe_str (nomark _))
      (pss_one (ps_ret (pe_lst (pa_cons (pe_ix ix_tup (pv 0) pe_int (fun _ _ => rfl)) pa_nil))))
      pss_nil)
    (pss_cons (ps_if (pt_cmpR op_in_seq (pe_ix ix_tup (pv 0) pe_int (fun _ _ => rfl)) (pe_lst (pa_cons pe_str (pa_cons pe_str (pa_cons pe_str (pa_cons pe_str pa_nil))))) (by rfl))
      (pss_one (ps_ret (pe_lst pa_nil)))
      pss_nil)
    (pss_cons (ps_set (i := 1) nd rfl (.inl rfl) (pe_lst pa_nil))
    (pss_cons (ps_for PassesOwn.never rfl (pi_tup (pe_slice sl_tupA (pv 0) (po_some pe_int) po_none)) (pg_name (i := 2) nd rfl (.inl rfl))
      (pss_one (ps_if (pt_val (pe_callB call_isD (by rfl) T.n_isinstance (by decide +kernel) (pa_cons (pv 2) (pa_cons (pe_bltn (v := .ty "tuple") (by rfl) T.n_tuple (by decide +kernel) rfl) pa_nil))))
      (pss_one (ps_set (i := 1) nd rfl (.inl rfl) (pe_op op_cat (pv 1) (pe_c c_LNames hr (by omega) (by rfl) (pa_cons (pv 2) pa_nil)))))
      pss_nil)))
    (pss_one (ps_ret (pv 1))))))), ?_⟩
      obtain ⟨u, rest, rfl, hr1, hshp, hkt⟩ := term_form ht
      obtain ⟨a, ys, rfl, hqa, hya⟩ := hv.tup
      obtain ⟨uv, vr, rfl, huv, hvr⟩ := hya.uncons
      have euv := huv.strv
      subst euv
      have hvl := hvr.len
      have hwr : PyData.weightAll rest ≤ (PyData.tuple (.str u :: rest)).weight := by
        simp only [PyData.weight, PyData.weightAll]
        omega
      refine ⟨_, rfl, a, _, _, .str u, rfl, rfl, hqa, atI_nat (j := 0) rfl, rfl, _, rfl, ?_⟩
      rw [dec_str]
      refine ite2 (fun e => ?_) (fun e => ?_)
      · have eu : u = ("name" : Str) := eq_of_beq e
        subst eu
        obtain ⟨u2, x, e2, _, hx⟩ := leaf_form ht (by show (selW "name" rest).isEmpty = true; unfold selW; rw [show leafW "name" = true by decide +kernel]; rfl)
        cases e2
        have hx2 : nameB x = true := hx
        unfold nameB at hx2
        split at hx2
        · rename_i z
          obtain ⟨xv, r2, rfl, hxv, _⟩ := hvr.uncons
          have ez := hxv.strv
          subst ez
          refine ⟨_, rfl, a, _, _, .str z, rfl, rfl, hqa, atI_nat (j := 1) rfl, (by show 1 ≤ sizeLine; decide), fun l hl => q l [z] _ hl (Same.new hl) upd_same (fun y hy => by rw [List.mem_singleton.mp hy]; exact hx2) ?_⟩
          simp only [PyData.weight, PyData.weightAll, List.length_singleton]
          omega
        · cases hx2
      · have e0 : (u == ("name" : Str)) = false := by simpa using e
        refine ⟨_, rfl, a, _, _, .str u, rfl, rfl, hqa, atI_nat (j := 0) rfl, (by show 4 ≤ sizeLine; decide), fun l1 hl1 => ⟨l1, _, rfl, .inl (SqL.of upd_same), rfl, rfl, _, rfl, ?_⟩⟩
        have s1 := Same.new (o := .lst [.str "number", .str "truth", .str "empty", .str "box"]) hl1
        show if (inV (.str u) [.str "number", .str "truth", .str "empty", .str "box"]) = true then _ else _
        rw [leaf_words e0]
        refine ite2 (fun e1 => ?_) (fun e1 => ?_)
        · exact ⟨(by show 0 ≤ sizeLine; decide), fun l hl => q l [] _ (s1.free hl) (s1.trans (Same.new hl)) upd_same (fun y hy => nomatch hy) (Nat.zero_le _)⟩
        · have hlf : leafW u = false := by simpa using e1
          have hkind := rest_kind (d := .none) ht hlf
          generalize upd H l1 (.lst [.str "number", .str "truth", .str "empty", .str "box"]) = H1 at *
          refine ⟨(by show 0 ≤ sizeLine; decide), fun l2 hl2 => ?_⟩
          have s2 := s1.trans (Same.new (o := .lst []) hl2)
          have hl2H := s1.free hl2
          have at2 : (upd H1 l2 (.lst [])) l2 = some (.lst []) := upd_same
          generalize upd H1 l2 (.lst []) = H2 at *
          refine ⟨_, rfl, 1, rfl, a, _, rfl, sqT_mono s2 hqa, tail_ne.elim, fun _ p hp => ?_⟩
          rw [tail_cut]
          have s3 := s2.trans (Same.new (o := .tup vr) hp)
          have atp : SqT K (upd H2 p (.tup vr)) p vr := SqT.of upd_same
          have at3 : (upd H2 p (.tup vr)) l2 = some (.lst []) := Same.new hp _ _ at2
          generalize upd H2 p (.tup vr) = H3 at *
          refine ⟨p, rfl, ⟨vr, atp⟩, ?_⟩
          have hvr3 : TnAll K H3 vr rest := hvr.tr (TR.same s3)
          refine for_tup (K := K) (xs := vr) (fun i σ H' => ∃ (l : Addr) (zs : List Str) (o : Option V), σ = [some (.ref a), some (.ref l), o] ∧ Same H3 H' ∧ H l = none ∧ H' l = some (.lst (zs.map V.str)) ∧ (∀ z ∈ zs, nameS z = true) ∧ zs.length ≤ PyData.weightAll (rest.take i))
            ⟨l2, [], none, rfl, Same.refl H3, hl2H, at3, (fun z h => nomatch h), Nat.zero_le _⟩ (fun i σ H' _ hW => ?_) (fun i x σ H' hx hW => ?_) (fun σ H' hW => ?_)
          · obtain ⟨l, zs, o, rfl, sm, _⟩ := hW
            exact sqT_mono sm atp
          · obtain ⟨l, zs, o, rfl, sm, hlH, hl', hzs, hzl⟩ := hW
            obtain ⟨d, hd, tnx⟩ := hvr3.at hx
            have hdm := List.mem_of_getElem? hd
            have tnx' := tnx.tr (TR.same sm)
            have ewt : PyData.weightAll (rest.take (i + 1)) = PyData.weightAll (rest.take i) + (d.weight + 1) := by
              rw [List.take_succ, hd]
              show PyData.weightAll (_ ++ [d]) = _
              rw [weightAll_app]
              simp only [PyData.weightAll]
            refine ⟨_, rfl, x, d, "tuple", rfl, tnx'.dp, by decide, _, rfl, ?_⟩
            rcases hkind d hdm with hd2 | ⟨z, rfl⟩
            · rw [isOf_term hd2]
              refine iteT ⟨_, rfl, _, rfl, x, d, rfl, tnx', hd2, ?_, ?_, ?_, fun l4 zs4 H4 hl4 s4 h4 hz4 hw4 => ⟨l, l4, _, _, rfl, rfl, s4 _ _ hl', h4, ?_, fun l5 hl5 => ?_⟩⟩
              · obtain ⟨j, hj⟩ := List.mem_iff_getElem?.mp hdm
                have h2 := (short_all hsh).2
                have h3 : short (.str u) = true ∧ shortAll rest = true := by simpa [shortAll] using h2
                exact short_mem h3.2 hj
              · have := depth_kid (u := u) hdm
                omega
              · have := weight_mem hdm
                omega
              · have h6 := weight_take rest (i + 1)
                rw [List.length_map, List.length_map]
                omega
              · refine ⟨l5, zs ++ zs4, _, rfl, (sm.trans s4).trans (Same.new hl5), ?_, by rw [upd_same, List.map_append], (fun z hz => ?_), ?_⟩
                · exact (s3.trans (sm.trans s4)).free hl5
                · rcases List.mem_append.mp hz with hz | hz
                  · exact hzs z hz
                  · exact hz4 z hz
                · rw [List.length_append, ewt]
                  omega
            · rw [isOf_str]
              refine iteF ⟨l, zs, _, rfl, sm, hlH, hl', hzs, ?_⟩
              rw [ewt]
              omega
          · obtain ⟨l, zs, o, rfl, sm, hlH, hl', hzs, hzl⟩ := hW
            rw [hvl, List.take_length] at hzl
            exact ⟨_, rfl, q l zs H' hlH (s3.trans sm) hl' hzs (by omega)⟩
end
end K18
set_option Elab.async false
set_option linter.all false
set_option maxRecDepth 100000
set_option maxHeartbeats 1500000
namespace K18
open PySem PySem.Spec PyProof.Rows L2 LamX NdefX LamC StX
open C8 (Cal Def cal0 pe_c fnBody fnScope fnArgs)
theorem leaf_words5 {u : Str} : inV (.str u) [.str "number", .str "truth", .str "empty", .str "box", .str "name"] = leafW u := by
  unfold leafW inV
  simp only [List.any_cons, List.any_nil, eqV, Bool.or_false]
  cases (("number" : Str) == u) <;> cases (("truth" : Str) == u) <;> cases (("empty" : Str) == u) <;> cases (("box" : Str) == u) <;> cases (("name" : Str) == u) <;> rfl
theorem put_str (m : Mp) (z : Str) : putD m (.str z) = .str z := by rw [putD]; intro ds h; cases h
theorem put_leaf (m : Mp) {u : Str} {rest : List PyData} (h : leafW u = true) : putD m (.tuple (.str u :: rest)) = exchD m (.tuple (.str u :: rest)) := by
  have e : (partsD (.tuple (.str u :: rest))).isEmpty = true := by
    show (selW u rest).isEmpty = true
    unfold selW
    rw [h]
    rfl
  rw [putD_eq, e, if_pos rfl]
theorem put_node (m : Mp) {u : Str} {rest : List PyData} (ht : termB (.tuple (.str u :: rest)) = true) (h : leafW u = false) : putD m (.tuple (.str u :: rest)) = .tuple (.str u :: rest.map (putD m)) := by
  obtain ⟨u', rest', e, h1, hsh, hk⟩ := term_form ht
  cases e
  rw [putD_eq]
  have e0 : partsD (.tuple (.str u :: rest)) = selW u rest := rfl
  rw [e0]
  by_cases hu : (u == ("field" : Str)) = true
  · obtain ⟨x, z, rfl⟩ := field_form hsh hu
    have e1 : selW u [x, .str z] = [x] := by
      unfold selW
      rw [h, if_neg Bool.false_ne_true, if_pos hu]
      rfl
    rw [e1, if_neg (by simp)]
    show (if (u == ("field" : Str)) = true then _ else _) = _
    rw [if_pos hu]
    show PyData.tuple (.str u :: [putD m x, .str z]) = .tuple (.str u :: [putD m x, putD m (.str z)])
    rw [put_str]
  · have e1 : selW u rest = rest := by
      unfold selW
      rw [h, if_neg Bool.false_ne_true, if_neg hu]
    have e2 : rest.isEmpty = false := by
      cases rest with
      | nil => exact absurd h1 (by decide)
      | cons x y => rfl
    rw [e1, e2, if_neg Bool.false_ne_true]
    show (if (u == ("field" : Str)) = true then _ else _) = _
    rw [if_neg hu]
section
variable {P : Program} {w : World} {K : PySem.W.Frag} {mg : Str → Option Value} {base : Heap}
abbrev sLPut : Stmt := topS 17
abbrev NLPut : List Str := ["_law_term_here", "_law_exchanged_here", "_law_parts", "_law_part"]
theorem scLPut : FnScope NLPut ["_law_term_here", "_law_exchanged_here"] (fnScope sLPut) := ⟨rfl, rfl, rfl, by decide +kernel, rfl, by decide +kernel, by decide +kernel⟩
def spPut (K : PySem.W.Frag) (n : Nat) : Sp := fun vs H Q _ => ∃ v d da kvs m, vs = [v, .ref da] ∧ Tn K H v d ∧ termB d = true ∧ short d = true ∧ d.depth ≤ n ∧ H da = some (.dK kvs) ∧ MapOk K H kvs m ∧
  ∀ v' H', Same H H' → Tn K H' v' (putD m d) → Q v' H'
theorem c_lput (T : Tp mg) {f : Addr} {fd : FuncData} (D : Def K mg "_law_put" sLPut f fd) (b : Binds K fd ["_law_term_here", "_law_exchanged_here"] []) :
    ∀ n : Nat, Cal P w K mg base (1 + n) "_law_put" (spPut K n) []
  | 0 => cal_no _ (fun vs H Q E ⟨v, d, _, _, _, _, _, ht, _, hd, _⟩ => by
      obtain ⟨u, rest, rfl, _⟩ := term_form ht
      simp only [PyData.depth] at hd
      omega) D b
  | n + 1 => by
    have c_LPut := c_lput T D b n
    have e9 : 1 + (n + 1) = (1 + n) + 1 := by omega
    rw [e9]
    refine cal0 D b .nil scLPut (fun vs H Q E h => ?_) (fun cdv A outer s H vs Q E hr h => ?_)
    · obtain ⟨v, d, da, kvs, m, rfl, _⟩ := h
      rfl
    · obtain ⟨v, d, da, kvs, m, rfl, hv, ht, hsh, hdp, hda, hm, q⟩ := h
      have nd := scLPut.nd
      have line := sizeLine_eq
      refine ⟨_, (pss_cons (ps_if (PW.pt (pw_and (pt_cmpR op_eq (pe_ix ix_tup (pv 0) pe_int (fun _ _ => rfl)) pe_str (nomark _)) (pw_and1 (pt_cmp (pc_din (hu_of hr) (pe_ix ix_tup (pv 0) pe_int (fun _ _ => rfl)) (pv 1)) rfl))))
      (pss_one (ps_ret (pe_dget (hu_of hr) (pv 1) (pe_ix ix_tup (pv 0) pe_int (fun _ _ => rfl)) (fun _ _ => rfl))))
      pss_nil)
    (pss_cons (ps_if (pt_cmpR op_in_seq (pe_ix ix_tup (pv 0) pe_int (fun _ _ => rfl)) (pe_lst (pa_cons pe_str (pa_cons pe_str (pa_cons pe_str (pa_cons pe_str (pa_cons pe_str pa_nil)))))) (by rfl))
      (pss_one (ps_ret (pv 0)))
      pss_nil)
    (pss_cons (ps_setLc (i := 2) (own := [("_law_part", 3)]) (g := gName 3) rfl nd rfl rfl (sw_true rfl rfl rfl (by decide +kernel)) (pi_tup (pe_slice sl_tupA (pv 0) (po_some pe_int) po_none)) (blkOk_by (own := [("_law_part", 3)]) (N := NLPut) (sc := fnScope sLPut) (by decide +kernel)) (fun _ _ _ _ _ => pg_name (i := 3) nd rfl (Or.inl rfl)) (fun _ _ _ _ _ => pts_nil) (fun _ _ _ _ _ => (pe_ifExp (pt_val (pe_callB (r := rIsD K) (id := "isinstance") call_isD (by rfl) T.n_isinstance (by decide +kernel) (pa_cons (pv 3) (pa_cons (pe_bltn (v := .ty "tuple") (by rfl) T.n_tuple (by decide +kernel) rfl) pa_nil)))) (pe_c c_LPut hr (by omega) (by rfl) (pa_cons (pv 3) (pa_cons (pv 1) pa_nil))) (pv 3))))
    (pss_one (ps_ret (pe_op op_catA (pe_tup (pa_cons (pe_ix ix_tup (pv 0) pe_int (fun _ _ => rfl)) pa_nil)) (pe_callTy call_tuple_of (by rfl) T.n_tuple (by decide +kernel) (pa_cons (pv 2) pa_nil)))))))), ?_⟩
      obtain ⟨u, rest, rfl, hr1, hshp, hkt⟩ := term_form ht
      obtain ⟨a, ys, rfl, hqa, hya⟩ := hv.tup
      obtain ⟨uv, vr, rfl, huv, hvr⟩ := hya.uncons
      have euv := huv.strv
      subst euv
      have hvl := hvr.len
      have hrl : rest.length ≤ 1000 := by
        have := (short_all hsh).1
        rw [List.length_cons] at this
        omega
      refine (fun (els : (leafW u = true → putD m (.tuple (.str u :: rest)) = .tuple (.str u :: rest)) → _) => ⟨_, rfl, a, _, _, .str u, rfl, rfl, hqa, atI_nat (j := 0) rfl, rfl, _, rfl, ite2 (fun e => ?_) (fun e => els fun hl => ?_)⟩) ?_
      · intro hpl
        refine ⟨_, rfl, a, _, _, .str u, rfl, rfl, hqa, atI_nat (j := 0) rfl, (by show 5 ≤ sizeLine; decide), fun l1 hl1 => ⟨l1, _, rfl, .inl (SqL.of upd_same), rfl, rfl, _, rfl, ?_⟩⟩
        have s1 := Same.new (o := .lst [.str "number", .str "truth", .str "empty", .str "box", .str "name"]) hl1
        show if (inV (.str u) [.str "number", .str "truth", .str "empty", .str "box", .str "name"]) = true then _ else _
        rw [leaf_words5]
        refine ite2 (fun e1 => ?_) (fun e1 => ?_)
        · have z := q (.ref a) _ s1
          rw [hpl e1] at z
          exact ⟨_, rfl, z (hv.tr (TR.same s1))⟩
        · have hlf : leafW u = false := by simpa using e1
          rw [put_node m ht hlf] at q
          have hkind := rest_kind (d := .none) ht hlf
          generalize upd H l1 (.lst [.str "number", .str "truth", .str "empty", .str "box", .str "name"]) = H1 at *
          refine ⟨_, rfl, 1, rfl, a, _, rfl, sqT_mono s1 hqa, tail_ne.elim, fun _ p hp => ?_⟩
          rw [tail_cut]
          have s3 := s1.trans (Same.new (o := .tup vr) hp)
          have atp : SqT K (upd H1 p (.tup vr)) p vr := SqT.of upd_same
          generalize upd H1 p (.tup vr) = H3 at *
          refine ⟨p, rfl, ⟨vr, atp⟩, fun Dl hDl => ?_⟩
          have hvr3 : TnAll K H3 vr rest := hvr.tr (TR.same s3)
          refine lc_tup (K := K) (xs := vr) (fun i H' => ∃ acc, H' Dl = some (.lst acc) ∧ acc.length = i ∧ Same H3 H' ∧ TnAll K H' acc ((rest.take i).map (putD m))) ⟨[], upd_same, rfl, Same.new hDl, .nil⟩ (fun i H' _ hW => ?_) (fun i x H' hx hW => ?_) (fun H' hW => ?_)
          · obtain ⟨acc, h1, h2, h3, h4⟩ := hW
            exact sqT_mono h3 atp
          · obtain ⟨acc, h1, h2, h3, h4⟩ := hW
            obtain ⟨d, hd, tnx⟩ := hvr3.at hx
            have hdm := List.mem_of_getElem? hd
            have tnx' := tnx.tr (TR.same h3)
            have hil : i < vr.length := (List.getElem?_eq_some_iff.mp hx).1
            have fin : ∀ v' H'', Same H' H'' → Tn K H'' v' (putD m d) → ∃ acc, H'' Dl = some (.lst acc) ∧ acc.length < sizeLine ∧ ∃ acc', (upd H'' Dl (.lst (acc ++ [v']))) Dl = some (.lst acc') ∧ acc'.length = i + 1 ∧ Same H3 (upd H'' Dl (.lst (acc ++ [v']))) ∧ TnAll K (upd H'' Dl (.lst (acc ++ [v']))) acc' ((rest.take (i + 1)).map (putD m)) := fun v' H'' s4 tn4 => by
              have h1' := s4 _ _ h1
              have tp : TR H'' (upd H'' Dl (.lst (acc ++ [v']))) := TR.put h1'
              refine ⟨acc, h1', by omega, acc ++ [v'], upd_same, by rw [List.length_append, h2]; rfl, same_put (h3.trans s4) hDl, ?_⟩
              rw [List.take_succ, hd]
              show TnAll K _ _ (List.map _ (_ ++ [d]))
              rw [List.map_append]
              exact ((h4.tr (TR.same s4)).tr tp).app (.cons (tn4.tr tp) .nil)
            refine ⟨rfl, ?_⟩
            unfold tYes; dsimp only
            rw [if_pos rfl]
            refine ⟨_, rfl, x, d, "tuple", rfl, tnx'.dp, by decide, _, rfl, ?_⟩
            rcases hkind d hdm with hd2 | ⟨z, rfl⟩
            · rw [isOf_term hd2]
              refine iteT ⟨_, rfl, _, rfl, x, d, da, kvs, m, rfl, tnx', hd2, ?_, ?_, h3 _ _ (s3 _ _ hda), hm.tr (TR.same (s3.trans h3)), fun v' H'' s4 tn4 => fin v' H'' s4 tn4⟩
              · obtain ⟨j, hj⟩ := List.mem_iff_getElem?.mp hdm
                have h2 := (short_all hsh).2
                have h3 : short (.str u) = true ∧ shortAll rest = true := by simpa [shortAll] using h2
                exact short_mem h3.2 hj
              · have := depth_kid (u := u) hdm
                omega
            · rw [isOf_str]
              refine iteF ⟨_, rfl, fin x H' (Same.refl H') ?_⟩
              rw [put_str]
              exact tnx'
          · obtain ⟨acc, h1, h2, h3, h4⟩ := hW
            rw [hvl, List.take_length] at h4
            have s5 := s3.trans h3
            refine ⟨_, rfl, a, _, _, .str u, rfl, rfl, sqT_mono s5 hqa, atI_nat (j := 0) rfl, (by show 1 ≤ sizeLine; decide), fun t1 ht1 => ?_⟩
            have h1' : (upd H' t1 (.tup [.str u])) Dl = some (.lst acc) := Same.new ht1 _ _ h1
            refine ⟨_, rfl, Dl, acc, rfl, .inl ⟨SqL.of h1', fun t2 ht2 => ?_⟩⟩
            have s6 := (Same.new (o := .tup [.str u]) ht1).trans (Same.new (o := .tup acc) ht2)
            have ht1a : (upd (upd H' t1 (.tup [.str u])) t2 (.tup acc)) t1 = some (.tup [.str u]) := Same.new ht2 _ _ upd_same
            refine ⟨t1, t2, _, _, rfl, rfl, SqT.of ht1a, SqT.of upd_same, by show 1 + acc.length ≤ sizeLine; omega, (fun e => nomatch e), (fun _ e => ?_), fun _ _ t3 ht3 => ?_⟩
            · rw [e] at h2
              simp at h2
              omega
            · exact q (.ref t3) _ ((s5.trans s6).trans (Same.new ht3)) (Tn.newT ht3 (.cons (.str u) (h4.tr (TR.same s6))))
      · have eu : u = ("name" : Str) := by
          have e' := of_decide_eq_true e
          injection e'
        subst eu
        obtain ⟨u2, x, e2, _, hx⟩ := leaf_form ht (by show (selW "name" rest).isEmpty = true; unfold selW; rw [show leafW "name" = true by decide +kernel]; rfl)
        cases e2
        have hx2 : nameB x = true := hx
        unfold nameB at hx2
        split at hx2
        · rename_i z
          obtain ⟨xv, r2, rfl, hxv, _⟩ := hvr.uncons
          have ez := hxv.strv
          subst ez
          have ep : putD m (.tuple [.str "name", .str z]) = (m z).getD (.tuple [.str "name", .str z]) := by
            rw [put_leaf m (by decide +kernel)]
            rfl
          refine ⟨_, rfl, a, _, _, .str z, rfl, rfl, hqa, atI_nat (j := 1) rfl, _, rfl, da, _, rfl, DGet.k (k := .inr z) hda, ?_⟩
          rcases hm z with ⟨e1, e2⟩ | ⟨v2, d2, e1, e2, e3, e4⟩
          · rw [e1]
            exact ⟨false, rfl, els fun _ => by rw [ep, e2]; rfl⟩
          · rw [e1]
            have g := DGet.k (k := .inr z) hda
            rw [e1] at g
            rw [ep, e2] at q
            exact ⟨_, rfl, iteT ⟨_, rfl, _, rfl, a, _, _, .str z, rfl, rfl, hqa, atI_nat (j := 1) rfl, da, v2, rfl, g, q _ H (Same.refl H) e3⟩⟩
        · cases hx2
      · have e0 : ¬ ((u == ("name" : Str)) = true) := fun h => by
          rw [eq_of_beq h] at e
          exact e (decide_eq_true rfl)
        rw [put_leaf m hl]
        unfold exchD
        split
        · rename_i heq
          cases heq
          rw [if_neg e0]
        · rfl
end
end K18
set_option Elab.async false
set_option linter.all false
set_option maxRecDepth 100000
set_option maxHeartbeats 1500000
namespace K18
open PySem PySem.Spec PyProof.Rows L2 LamX NdefX LamC StX
open C8 (Cal Def cal0 pe_c fnBody fnScope fnArgs)
theorem small300 {n : Int} (h0 : 0 ≤ n) (h : n < 1000000) : n.natAbs < 2 ^ 300 := by
  have h1 : n.natAbs < 1000000 := by omega
  have h2 : (1000000 : Nat) ≤ 2 ^ 300 := Nat.le_trans (by decide : (1000000 : Nat) ≤ 2 ^ 20) (Nat.pow_le_pow_right (by decide) (by decide))
  exact Nat.lt_of_lt_of_le h1 h2
/-- what the drawn dict holds -/
def ExD (K : PySem.W.Frag) (H : Hp) (kvs : List (Key × V)) : Prop := ∀ q ∈ kvs, ∃ (z : Str) (d : PyData), q.1 = .inr z ∧ nameS z = true ∧ Tn K H q.2 d ∧ Ok 7 3100 d
theorem ExD.tr {K : PySem.W.Frag} {H H' : Hp} {kvs : List (Key × V)} (h : ExD K H kvs) (e : TR H H') : ExD K H' kvs := fun q hq => by
  obtain ⟨z, d, h1, h2, h3, h4⟩ := h q hq
  exact ⟨z, d, h1, h2, h3.tr e, h4⟩
theorem mem_putK {kvs : List (Key × V)} {k : Key} {v : V} {q : Key × V} (h : q ∈ putK kvs k v) : q ∈ kvs ∨ q = (k, v) := by
  unfold putK at h
  split at h
  · obtain ⟨r, hr, e⟩ := List.mem_map.mp h
    split at e
    · rename_i ek
      right
      rw [← e, ek]
    · left
      rw [← e]
      exact hr
  · rcases List.mem_append.mp h with h | h
    · exact .inl h
    · exact .inr (List.mem_singleton.mp h)
/-- .. and what it says -/
def OkM (m : Mp) : Prop := ∀ z d, m z = some d → Ok 7 3100 d ∧ termB d = true
def putM (m : Mp) (z : Str) (d : PyData) : Mp := fun y => if y = z then some d else m y
theorem okM_put {m : Mp} {z : Str} {d : PyData} (h : OkM m) (h1 : Ok 7 3100 d) (h2 : termB d = true) : OkM (putM m z d) := fun y e he => by
  unfold putM at he
  split at he
  · cases he
    exact ⟨h1, h2⟩
  · exact h y e he
theorem mapOk_put {K : PySem.W.Frag} {H : Hp} {kvs : List (Key × V)} {m : Mp} {z : Str} {v : V} {d : PyData} (h : MapOk K H kvs m) (hv : Tn K H v d) (ht : termB d = true) : MapOk K H (putK kvs (.inr z) v) (putM m z d) := fun y => by
  rw [valV_put]
  unfold putM
  by_cases e : y = z
  · rw [if_pos e, if_pos (by rw [e])]
    exact .inr ⟨v, d, rfl, rfl, hv, ht⟩
  · rw [if_neg e, if_neg (fun c => e (by injection c))]
    exact h y
theorem exD_put {K : PySem.W.Frag} {H : Hp} {kvs : List (Key × V)} {z : Str} {v : V} {d : PyData} (h : ExD K H kvs) (hz : nameS z = true) (hv : Tn K H v d) (ho : Ok 7 3100 d) : ExD K H (putK kvs (.inr z) v) := fun q hq => by
  rcases mem_putK hq with hq | rfl
  · exact h q hq
  · exact ⟨z, d, rfl, hz, hv, ho⟩
theorem strs_at {zs : List Str} {r : Int} (r0 : 0 ≤ r) (r1 : r < (zs.length : Nat)) : ∃ z, z ∈ zs ∧ atI (zs.map V.str) r = some (.str z) := atI_strs r0 r1
section
variable {P : Program} {w : World} {K : PySem.W.Frag} {mg : Str → Option Value} {base : Heap}
abbrev sLExchanged : Stmt := topS 18
abbrev NLExchanged : List Str := ["_law_pot_here", "_law_term_here", "_law_names_here", "_law_exchanged_here", "_law_k"]
theorem scLExchanged : FnScope NLExchanged ["_law_pot_here", "_law_term_here"] (fnScope sLExchanged) := ⟨rfl, rfl, rfl, by decide +kernel, rfl, by decide +kernel, by decide +kernel⟩
def spExchanged (K : PySem.W.Frag) : Sp := fun vs H Q _ => ∃ (p : Addr) (x y n : Int) (v : V) (d : PyData), vs = [.ref p, v] ∧ Pot H p x y n ∧ Tn K H v d ∧ termB d = true ∧ Ok 10 7300 d ∧
  ∀ (da : Addr) (kvs : List (Key × V)) (m : Mp) (n' : Int) (H' : Hp), H da = none → H' da = some (.dK kvs) → MapOk K H' kvs m → ExD K H' kvs → OkM m → kvs.length ≤ 6 → Going p n' H H' → Q (.ref da) H'
/-- while the dict is filled -/
structure StE (K : PySem.W.Frag) (p : Addr) (H : Hp) (da ln : Addr) (H' : Hp) (n' : Int) (zs : List Str) (kvs : List (Key × V)) (m : Mp) (i : Nat) : Prop where
  go : Going p n' H H'
  nm : H' ln = some (.lst (zs.map V.str))
  ne : ln ≠ p
  z1 : 1 ≤ zs.length
  zl : zs.length ≤ 10000 + i
  zn : ∀ z ∈ zs, nameS z = true
  dk : H' da = some (.dK kvs)
  dn : da ≠ p
  mo : MapOk K H' kvs m
  ex : ExD K H' kvs
  ok : OkM m
  kl : kvs.length ≤ i
theorem StE.on {p da ln : Addr} {H H1 H2 : Hp} {n n' x y : Int} {zs : List Str} {kvs : List (Key × V)} {m : Mp} {i : Nat} (S : StE K p H da ln H1 n zs kvs m i) (hp : Pot H1 p x y n) (g : Going p n' H1 H2) : StE K p H da ln H2 n' zs kvs m i :=
  ⟨S.go.trans g, g.1 _ _ S.ne S.nm, S.ne, S.z1, S.zl, S.zn, g.1 _ _ S.dn S.dk, S.dn, S.mo.tr (TR.but g.1 hp.at_), S.ex.tr (TR.but g.1 hp.at_), S.ok, S.kl⟩
theorem StE.put {p da ln : Addr} {H H1 : Hp} {n : Int} {zs : List Str} {kvs : List (Key × V)} {m : Mp} {i : Nat} {z : Str} {v : V} {d : PyData} (hda : H da = none) (S : StE K p H da ln H1 n zs kvs m i) (hz : nameS z = true) (hv : Tn K H1 v d) (ho : Ok 7 3100 d) (ht : termB d = true) :
    StE K p H da ln (upd H1 da (.dK (putK kvs (.inr z) v))) n zs (putK kvs (.inr z) v) (putM m z d) (i + 1) := by
  have nld : ln ≠ da := fun e => by
    have := S.nm
    rw [e, S.dk] at this
    cases this
  have t : TR H1 (upd H1 da (.dK (putK kvs (.inr z) v))) := TR.dput S.dk
  refine ⟨⟨fun b o nb e => by rw [upd_ne (ne_of_none e hda)]; exact S.go.1 b o nb e, ?_⟩, by rw [upd_ne nld]; exact S.nm, S.ne, S.z1, by have := S.zl; omega, S.zn, upd_same, S.dn, (mapOk_put S.mo hv ht).tr t, (exD_put S.ex hz hv ho).tr t, okM_put S.ok ho ht, by have := length_putK kvs (.inr z) v; have := S.kl; omega⟩
  obtain ⟨x, y, hp⟩ := S.go.2
  exact ⟨x, y, by rw [upd_ne S.dn.symm]; exact hp.at_, hp.x0, hp.y0, hp.y1⟩
theorem StE.names {p da ln l1 l2 : Addr} {H H1 : Hp} {n : Int} {zs : List Str} {kvs : List (Key × V)} {m : Mp} {i : Nat} {z : Str} (S : StE K p H da ln H1 n zs kvs m i) (hz : nameS z = true) (hl1 : H1 l1 = none) (hl2 : (upd H1 l1 (.lst [.str z])) l2 = none) (hi : zs.length + 1 ≤ 10000 + i) :
    StE K p H da l2 (upd (upd H1 l1 (.lst [.str z])) l2 (.lst (zs.map V.str ++ [.str z]))) n (zs ++ [z]) kvs m i := by
  have g1 := S.go.new (o := .lst [.str z]) hl1
  have g2 := g1.new (o := .lst (zs.map V.str ++ [.str z])) hl2
  have s := (Same.new (o := .lst [.str z]) hl1).trans (Same.new (o := .lst (zs.map V.str ++ [.str z])) hl2)
  refine ⟨g2, by rw [upd_same, List.map_append]; rfl, g1.ne hl2, by rw [List.length_append, List.length_singleton]; omega, by rw [List.length_append, List.length_singleton]; omega, (fun y hy => ?_), s _ _ S.dk, S.dn, S.mo.tr (TR.same s), S.ex.tr (TR.same s), S.ok, S.kl⟩
  rcases List.mem_append.mp hy with hy | hy
  · exact S.zn y hy
  · rw [List.mem_singleton.mp hy]
    exact hz
theorem c_lexch (T : Tp mg) (c_LTake : Cal P w K mg base 1 "_law_take" spTake []) (c_LCalled : Cal P w K mg base 2 "_law_called" spCalled []) (c_LNames : Cal P w K mg base 11 "_law_names" (spNames K 10) []) (c_LTerm : Cal P w K mg base 21 "_law_term" (spT K 7) [])
    {f : Addr} {fd : FuncData} (D : Def K mg "_law_exchanged" sLExchanged f fd) (b : Binds K fd ["_law_pot_here", "_law_term_here"] []) : Cal P w K mg base 22 "_law_exchanged" (spExchanged K) [] := by
  refine cal0 D b .nil scLExchanged (fun vs H Q E h => ?_) (fun cdv A outer s H vs Q E hr h => ?_)
  · obtain ⟨p, x, y, n, v, d, rfl, _⟩ := h
    rfl
  · obtain ⟨p, x, y, n, v0, d0, rfl, hp, hv, ht, hok, q⟩ := h
    have nd := scLExchanged.nd
    have line := sizeLine_eq
    refine ⟨_, (pss_cons (ps_set (i := 2) nd rfl (.inl rfl) (pe_op op_cat (pe_c c_LNames hr (by decide) (by rfl) (pa_cons (pv 1) pa_nil)) (pe_lst (pa_cons (pe_c c_LCalled hr (by decide) (by rfl) (pa_cons (pv 0) pa_nil)) pa_nil))))
    (pss_cons (ps_set (i := 3) nd rfl (.inl rfl) pe_dnewK)
    (pss_cons (ps_for PassesOwn.never rfl (pi_range1 (by rfl) T.n_range (pa_cons (pe_c c_LTake hr (by decide) (by rfl) (pa_cons (pv 0) (pa_cons pe_int pa_nil))) pa_nil)) (pg_name (i := 4) nd rfl (.inl rfl))
      (pss_cons (ps_asg pe_int (pg_sub (pv 0) (pe_un un_neg pe_int) set_list))
    (pss_cons (ps_dput (hu_of hr) (pv 3) (pe_ix ix_list (pv 2) (pe_c c_LTake hr (by decide) (by rfl) (pa_cons (pv 0) (pa_cons (pe_callB call_len_seq (by rfl) T.n_len (by decide +kernel) (pa_cons (pv 2) pa_nil)) pa_nil))) (fun _ _ => rfl)) (pe_c c_LTerm hr (by decide) (by rfl) (pa_cons (pv 0) (pa_cons pe_int pa_nil))) rfl)
    (pss_one (ps_set (i := 2) nd rfl (.inl rfl) (pe_op op_cat (pv 2) (pe_lst (pa_cons (pe_c c_LCalled hr (by decide) (by rfl) (pa_cons (pv 0) pa_nil)) pa_nil))))))))
    (pss_cons (ps_if (pt_cmpR op_eq (pe_c c_LTake hr (by decide) (by rfl) (pa_cons (pv 0) (pa_cons pe_int pa_nil))) pe_int (nomark _))
      (pss_one (ps_dput (hu_of hr) (pv 3) (pe_ix ix_list (pv 2) pe_int (fun _ _ => rfl)) (pe_tup (pa_cons pe_str (pa_cons (pe_tup (pa_cons pe_str (pa_cons (pe_ix ix_list (pv 2) pe_int (fun _ _ => rfl)) pa_nil))) (pa_cons (pe_tup (pa_cons pe_str (pa_cons (pe_ix ix_list (pv 2) (pe_un un_neg pe_int) (fun _ _ => rfl)) pa_nil))) pa_nil)))) rfl))
      pss_nil)
    (pss_one (ps_ret (pv 3))))))), ?_⟩
    refine ⟨_, rfl, v0, d0, rfl, hv, ht, hok.sh, hok.dep, by have := hok.wt; omega, fun l0 zs0 H1 hl0 s1 at0 zn0 zl0 => ?_⟩
    have g1 : Going p n H H1 := ⟨But.same s1, x, y, hp.same s1⟩
    refine ⟨_, rfl, p, x, y, n, rfl, hp.same s1, fun z1 H2 hz1 g2 => ?_⟩
    have at1 : H2 l0 = some (.lst (zs0.map V.str)) := g2.1 _ _ (hp.ne hl0) at0
    refine ⟨(by show 1 ≤ sizeLine; decide), fun l1 hl1 => ⟨l0, l1, _, _, rfl, rfl, Same.new hl1 _ _ at1, upd_same, ?_, fun ln hln => ?_⟩⟩
    · have := hok.wt
      rw [List.length_map, List.length_singleton]
      omega
    have g3 : Going p n H (upd H2 l1 (.lst [.str z1])) := (g1.trans g2).new hl1
    have g4 : Going p n H (upd (upd H2 l1 (.lst [.str z1])) ln (.lst (zs0.map V.str ++ [.str z1]))) := g3.new hln
    have n4 := g3.ne hln
    have at4 : (upd (upd H2 l1 (.lst [.str z1])) ln (.lst (zs0.map V.str ++ [.str z1]))) ln = some (.lst ((zs0 ++ [z1]).map V.str)) := by
      rw [upd_same, List.map_append]
      rfl
    generalize upd (upd H2 l1 (.lst [.str z1])) ln (.lst (zs0.map V.str ++ [.str z1])) = H4 at *
    intro da hda
    have g5 : Going p n H (upd H4 da (.dK [])) := g4.new hda
    have n5 := g4.ne hda
    have hda0 : H da = none := by
      cases e : H da with
      | none => rfl
      | some o =>
        have := g4.1 da o n5 e
        rw [hda] at this
        cases this
    have S0 : StE K p H da ln (upd H4 da (.dK [])) n (zs0 ++ [z1]) [] (fun _ => none) 0 := ⟨g5, Same.new hda _ _ at4, n4, by rw [List.length_append, List.length_singleton]; omega, by rw [List.length_append, List.length_singleton]; have := hok.wt; omega, (fun z hz => by
      rcases List.mem_append.mp hz with hz | hz
      · exact zn0 z hz
      · rw [List.mem_singleton.mp hz]; exact hz1), upd_same, n5, (fun z => .inl ⟨rfl, rfl⟩), (fun q hq => nomatch hq), (fun z d h => nomatch h), Nat.le_refl _⟩
    generalize upd H4 da (.dK []) = H5 at *
    obtain ⟨x5, y5, hp5⟩ := S0.go.2
    refine ⟨_, rfl, p, x5, y5, n, 5, rfl, hp5, by decide, by decide, fun r x6 y6 r0 r1 hp6 => ⟨r, rfl, by omega, by omega, ?_⟩⟩
    have gg6 : Going p n H5 (upd H5 p (.lst [.int x6, .int y6, .int n])) := going_pot (But.refl p H5) hp6
    have S6 := S0.on hp5 gg6
    generalize upd H5 p (.lst [.int x6, .int y6, .int n]) = H6 at *
    refine for_range (lo := 0) (n := r.toNat) (fun i σ H' => ∃ (n' : Int) (ln : Addr) (zs : List Str) (kvs : List (Key × V)) (m : Mp) (o : Option V), σ = [some (.ref p), some v0, some (.ref ln), some (.ref da), o] ∧ StE K p H da ln H' n' zs kvs m i)
      ⟨n, ln, _, _, _, none, rfl, S6⟩ (fun i σ H' hi hW => ?_) (fun σ H' hW => ?_)
    · obtain ⟨n', ln, zs, kvs, m, o, rfl, S⟩ := hW
      obtain ⟨x7, y7, hp7⟩ := S.go.2
      refine ⟨_, rfl, 1, rfl, p, _, _, 2, rfl, rfl, hp7.at_, rfl, ?_⟩
      have hp8 : Pot (upd H' p (.lst [.int x7, .int y7, .int 6])) p x7 y7 6 := ⟨upd_same, hp7.x0, hp7.y0, hp7.y1⟩
      have gg8 : Going p 6 H' (upd H' p (.lst [.int x7, .int y7, .int 6])) := going_pot (But.refl p H') hp8
      have S8 := S.on hp7 gg8
      refine ⟨_, rfl, p, x7, y7, 6, 3, rfl, by decide, hp8, fun v d H9 n9 W h1 h2 h3 h4 h5 h6 h7 g9 => ?_⟩
      have S9 := S8.on hp8 g9
      obtain ⟨x9, y9, hp9⟩ := S9.go.2
      have hW : W ≤ 3100 := by rcases h2 with h2 | h2 <;> omega
      have tn9 : Tn K H9 v d := ⟨h7.un, h6.1⟩
      have zl := S9.zl
      have hzlm : (zs.map V.str).length = zs.length := List.length_map ..
      have hi5 : i < 5 := by omega
      refine ⟨_, rfl, _, rfl, _, rfl, _, rfl, ln, _, rfl, .inl (SqL.of S9.nm), p, x9, y9, n9, ((zs.map V.str).length : Nat), rfl, hp9, by have := S9.z1; omega, small300 (by omega) (by omega), fun r2 x10 y10 r20 r21 hp10 => ?_⟩
      have gg10 : Going p n9 H9 (upd H9 p (.lst [.int x10, .int y10, .int n9])) := going_pot (But.refl p H9) hp10
      have S10 := S9.on hp9 gg10
      have tn10 := tn9.tr (TR.but gg10.1 hp9.at_)
      obtain ⟨z, hz, hat⟩ := strs_at (zs := zs) r20 (by omega)
      generalize upd H9 p (.lst [.int x10, .int y10, .int n9]) = H10 at *
      refine ⟨ln, _, r2, .str z, rfl, rfl, SqL.of S10.nm, hat, da, _, rfl, DPut.k (k := .inr z) S10.dk (by have := S10.kl; omega), ?_⟩
      have ok7 : Ok 7 3100 d := h4.mono (by decide) hW
      have S11 := S10.put hda0 (S10.zn z hz) tn10 ok7 h5
      generalize upd H10 da (.dK (putK kvs (.inr z) v)) = H11 at *
      obtain ⟨x11, y11, hp11⟩ := S11.go.2
      refine ⟨_, rfl, _, rfl, p, x11, y11, n9, rfl, hp11, fun z2 H12 hz2 g12 => ?_⟩
      have S12 := S11.on hp11 g12
      refine ⟨(by show 1 ≤ sizeLine; decide), fun l1 hl1 => ⟨ln, l1, _, _, rfl, rfl, Same.new hl1 _ _ S12.nm, upd_same, by rw [List.length_map, List.length_singleton]; omega, fun l2 hl2 => ?_⟩⟩
      exact ⟨n9, l2, zs ++ [z2], _, _, _, rfl, S12.names hz2 hl1 hl2 (by omega)⟩
    · obtain ⟨n', ln, zs, kvs, m, o, rfl, S⟩ := hW
      obtain ⟨x7, y7, hp7⟩ := S.go.2
      have hr5 : r.toNat ≤ 4 := by omega
      refine ⟨_, rfl, p, x7, y7, n', 4, rfl, hp7, by decide, by decide, fun r2 x8 y8 r20 r21 hp8 => ?_⟩
      have gg8 : Going p n' H' (upd H' p (.lst [.int x8, .int y8, .int n'])) := going_pot (But.refl p H') hp8
      have S8 := S.on hp7 gg8
      generalize upd H' p (.lst [.int x8, .int y8, .int n']) = H8 at *
      refine ⟨rfl, _, rfl, ite2 (fun e => ?_) (fun e => ?_)⟩
      · obtain ⟨z0, hz0, hat0⟩ := strs_at (zs := zs) (r := 0) (Int.le_refl _) (by have := S8.z1; omega)
        obtain ⟨zi, zl, hzs⟩ := split_last (l := zs) (fun c => by have := S8.z1; rw [c] at this; exact absurd this (by decide))
        have hzl : zl ∈ zs := by rw [hzs]; simp
        have hatl : atI (zs.map V.str) (-1) = some (.str zl) := by
          rw [hzs, List.map_append]
          exact atI_last (zi.map V.str) (.str zl)
        refine ⟨_, rfl, ln, _, _, .str z0, rfl, rfl, SqL.of S8.nm, hat0, (by show 2 ≤ sizeLine; decide), fun t1 ht1 => ?_⟩
        have s1 := Same.new (o := .tup [.str "name", .str z0]) ht1
        refine ⟨_, rfl, 1, rfl, ln, _, _, .str zl, rfl, rfl, SqL.of (s1 _ _ S8.nm), hatl, (by show 2 ≤ sizeLine; decide), fun t2 ht2 => ⟨(by show 3 ≤ sizeLine; decide), fun t3 ht3 => ?_⟩⟩
        have s2 := s1.trans (Same.new (o := .tup [.str "name", .str zl]) ht2)
        have tn1 : Tn K (upd H8 t1 (.tup [.str "name", .str z0])) (.ref t1) (.tuple [.str "name", .str z0]) := Tn.newT ht1 (.cons (.str _) (.cons (.str _) .nil))
        have tn2 : Tn K (upd (upd H8 t1 (.tup [.str "name", .str z0])) t2 (.tup [.str "name", .str zl])) (.ref t2) (.tuple [.str "name", .str zl]) := Tn.newT ht2 (.cons (.str _) (.cons (.str _) .nil))
        have tn1' := tn1.tr (TR.new (o := .tup [.str "name", .str zl]) ht2)
        generalize upd (upd H8 t1 (.tup [.str "name", .str z0])) t2 (.tup [.str "name", .str zl]) = H9 at *
        have s3 := s2.trans (Same.new (o := .tup [.str "add", .ref t1, .ref t2]) ht3)
        have tn3 : Tn K (upd H9 t3 (.tup [.str "add", .ref t1, .ref t2])) (.ref t3) (.tuple [.str "add", .tuple [.str "name", .str z0], .tuple [.str "name", .str zl]]) := Tn.newT ht3 (.cons (.str _) (.cons tn1' (.cons tn2 .nil)))
        generalize upd H9 t3 (.tup [.str "add", .ref t1, .ref t2]) = H10 at *
        have S10 := S8.on hp8 (n' := n') ⟨But.same s3, x8, y8, hp8.same s3⟩
        have nm1 : ∀ z, z ∈ zs → termB (.tuple [.str "name", .str z]) = true ∧ Ok 1 14 (.tuple [.str "name", .str z]) := fun z hz => by
          have zl := name_len (S8.zn z hz)
          refine ⟨termB_leaf (by decide +kernel) (S8.zn z hz), ?_⟩
          exact Ok.tup (OkAll.cons (lit_ok (m := 4) (z := "name") (by decide +kernel) (by decide) (by decide)) (OkAll.cons (a := 8) (b := 0) (.str zl.2 (by omega) (name_asc (S8.zn z hz))) .nil)) (by show 2 ≤ 1000; decide)
        have wu := words2 (u := "add") (by simp)
        have ok3 : Ok 7 3100 (.tuple [.str "add", .tuple [.str "name", .str z0], .tuple [.str "name", .str zl]]) := (Ok.tup (OkAll.cons (wu.str (n := 1)) (OkAll.cons (nm1 z0 hz0).2 (OkAll.cons (b := 0) (nm1 zl hzl).2 .nil))) (by show 3 ≤ 1000; decide)).mono (by decide) (by decide)
        have tm3 : termB (.tuple [.str "add", .tuple [.str "name", .str z0], .tuple [.str "name", .str zl]]) = true := termB_node wu.leaf wu.fld (by show 1 ≤ 2; decide) (shapedW_cnt wu.leaf wu.fld wu.lst wu.cnt rfl) (by simp [(nm1 z0 hz0).1, (nm1 zl hzl).1])
        refine ⟨_, rfl, _, rfl, ln, _, _, .str z0, rfl, rfl, SqL.of S10.nm, hat0, da, _, rfl, DPut.k (k := .inr z0) S10.dk (by have := S10.kl; omega), ?_⟩
        have S11 := S10.put hda0 (S10.zn z0 hz0) tn3 ok3 tm3
        have kl := S11.kl
        exact ⟨_, rfl, q da _ _ n' _ hda0 S11.dk S11.mo S11.ex S11.ok (by omega) S11.go⟩
      · have kl := S8.kl
        exact ⟨_, rfl, q da kvs m n' H8 hda0 S8.dk S8.mo S8.ex S8.ok (by omega) S8.go⟩
end
end K18
set_option Elab.async false
set_option linter.all false
set_option maxRecDepth 100000
set_option maxHeartbeats 1500000
namespace K18
open PySem PySem.Spec PyProof.Rows L2 LamX NdefX LamC StX
open C8 (Cal Def cal0 pe_c fnBody fnScope fnArgs)
theorem Ok.els {n m : Nat} {ds : List PyData} (h : Ok (n + 1) m (.tuple ds)) : OkAll n (PyData.weightAll ds) ds ∧ ds.length ≤ 1000 := by
  have h1 : PyData.canLayAll0 ds = true := by simpa [PyData.canLay0] using h.lay
  have h2 : PyData.depthAll ds + 1 ≤ n + 1 := by simpa only [PyData.depth] using h.dep
  have h4 : ds.length ≤ 1000 ∧ shortAll ds = true := short_all h.sh
  have h5 : PyData.intsShortAll 13 ds = true := by simpa only [PyData.intsShort] using h.ish
  have h6 : PyData.showableAll ds = true := by simpa only [PyData.showable] using h.shw
  exact ⟨⟨h1, by omega, Nat.le_refl _, h4.2, h5, h6⟩, h4.1⟩
theorem OkAll.uncons {n m : Nat} {d : PyData} {ds : List PyData} (h : OkAll n m (d :: ds)) : Ok n d.weight d ∧ OkAll n (PyData.weightAll ds) ds := by
  have hl : d.canLay0 = true ∧ PyData.canLayAll0 ds = true := by simpa [PyData.canLayAll0] using h.lay
  have hd : max d.depth (PyData.depthAll ds) ≤ n := by simpa only [PyData.depthAll] using h.dep
  have hs : short d = true ∧ shortAll ds = true := by simpa [shortAll] using h.sh
  have hi : d.intsShort 13 = true ∧ PyData.intsShortAll 13 ds = true := by simpa [PyData.intsShortAll] using h.ish
  have hv : d.showable = true ∧ PyData.showableAll ds = true := by simpa [PyData.showableAll] using h.shw
  exact ⟨⟨hl.1, Nat.le_trans (Nat.le_max_left _ _) hd, Nat.le_refl _, hs.1, hi.1, hv.1⟩, ⟨hl.2, Nat.le_trans (Nat.le_max_right _ _) hd, Nat.le_refl _, hs.2, hi.2, hv.2⟩⟩
theorem isNm_leaf {u : Str} {rest : List PyData} (h : leafW u = false) : isNm (.str u :: rest) = false := by
  cases e : isNm (.str u :: rest) with
  | false => rfl
  | true =>
    unfold isNm at e
    split at e
    · rename_i heq
      cases heq
      rw [eq_of_beq e] at h
      exact absurd h (by decide +kernel)
    · cases e
theorem lvD_node {u : Str} {rest : List PyData} (h : leafW u = false) : lvD (.tuple (.str u :: rest)) = lvL rest := by
  rw [lvD, isNm_leaf h, if_neg Bool.false_ne_true, lvL, lvD]
  · omega
  · intro ds h
    cases h
theorem put_all {m : Mp} {n : Nat} (C : ∀ d, termB d = true → Ok n d.weight d → Ok (n + 7) (d.weight + lvD d * 3101) (putD m d)) : ∀ rest : List PyData, OkAll n (PyData.weightAll rest) rest → (∀ p ∈ rest, termB p = true ∨ ∃ z, p = .str z) → OkAll (n + 7) (PyData.weightAll rest + lvL rest * 3101) (rest.map (putD m))
  | [], _, _ => .nil
  | x :: xs, h, hk => by
    obtain ⟨h1, h2⟩ := h.uncons
    have ih := put_all C xs h2 fun p hp => hk p (List.mem_cons_of_mem _ hp)
    have hx : Ok (n + 7) (x.weight + lvD x * 3101) (putD m x) := by
      rcases hk x List.mem_cons_self with ht | ⟨z, rfl⟩
      · exact C x ht h1
      · rw [put_str]
        exact h1.mono (by omega) (by omega)
    have := OkAll.cons hx ih
    rw [List.map_cons]
    have e : PyData.weightAll (x :: xs) + lvL (x :: xs) * 3101 = x.weight + lvD x * 3101 + 1 + (PyData.weightAll xs + lvL xs * 3101) := by
      rw [PyData.weightAll, lvL]
      omega
    rw [e]
    exact this
theorem put_ok {m : Mp} (hm : OkM m) : ∀ (n : Nat) (d : PyData), termB d = true → Ok n d.weight d → Ok (n + 7) (d.weight + lvD d * 3101) (putD m d)
  | 0, d, ht, h => by
    obtain ⟨u, rest, rfl, _⟩ := term_form ht
    have := h.dep
    simp only [PyData.depth] at this
    omega
  | n + 1, d, ht, h => by
    obtain ⟨u, rest, rfl, h1, hsh, hk⟩ := term_form ht
    cases hl : leafW u with
    | true =>
      rw [put_leaf m hl]
      have same : Ok (n + 1 + 7) ((PyData.tuple (.str u :: rest)).weight + lvD (.tuple (.str u :: rest)) * 3101) (.tuple (.str u :: rest)) := h.mono (by omega) (by omega)
      unfold exchD
      split
      · rename_i u' z heq
        cases heq
        split
        · rename_i hu
          cases e : m z with
          | none => exact same
          | some t =>
            obtain ⟨ok, _⟩ := hm z t e
            refine ok.mono (by omega) ?_
            have e1 : lvD (.tuple [.str u, .str z]) = 1 := by
              rw [lvD]
              have : isNm [.str u, .str z] = true := hu
              rw [this, if_pos rfl]
            rw [e1]
            omega
        · exact same
      · exact same
    | false =>
      rw [put_node m ht hl]
      obtain ⟨ha, hlen⟩ := h.els
      obtain ⟨hu, hr⟩ := ha.uncons
      have hall := put_all (put_ok hm n) rest hr (rest_kind (d := .none) ht hl)
      have e : (PyData.tuple (.str u :: rest)).weight + lvD (.tuple (.str u :: rest)) * 3101 = (PyData.str u).weight + 1 + (PyData.weightAll rest + lvL rest * 3101) := by
        rw [lvD_node hl]
        simp only [PyData.weight, PyData.weightAll]
        omega
      rw [e]
      refine Ok.tup (OkAll.cons (hu.mono (by omega) (Nat.le_refl _)) hall) ?_
      rw [List.length_cons, List.length_map]
      rw [List.length_cons] at hlen
      exact hlen
/-- nothing exchanged -/
theorem put_none : ∀ (n : Nat) (d : PyData), termB d = true → d.depth ≤ n → putD (fun _ => none) d = d
  | 0, d, ht, h => by
    obtain ⟨u, rest, rfl, _⟩ := term_form ht
    simp only [PyData.depth] at h
    omega
  | n + 1, d, ht, h => by
    obtain ⟨u, rest, rfl, h1, hsh, hk⟩ := term_form ht
    cases hl : leafW u with
    | true =>
      rw [put_leaf _ hl]
      unfold exchD
      split
      · rename_i heq
        cases heq
        split <;> rfl
      · rfl
    | false =>
      rw [put_node _ ht hl]
      have e : rest.map (putD fun _ => none) = rest := by
        conv => rhs; rw [← List.map_id rest]
        refine List.map_congr_left fun p hp => ?_
        rcases rest_kind (d := .none) ht hl p hp with h2 | ⟨z, rfl⟩
        · exact put_none n p h2 (by have := depth_kid (u := u) hp; omega)
        · exact put_str _ z
      rw [e]
/-! ### the dict as data -/
structure KvOk (ps : List (PyData × PyData)) : Prop where
  ls : PyData.leavesShortKv 13 ps = true
  shw : PyData.showableKv ps = true
  dep : PyData.depthKv ps ≤ 7
  wt : PyData.weightKv ps ≤ ps.length * 3120
  nl : nlk ps = true
mutual
theorem nl_of : ∀ {d : PyData}, noL d = true → nl d = true
  | .none, _ => rfl
  | .bool _, _ => rfl
  | .int _, _ => rfl
  | .str _, _ => rfl
  | .list _, h => by simp [noL] at h
  | .dict _, h => by simp [noL] at h
  | .tuple ds, h => by
    have h' : noLs ds = true := by simpa [noL] using h
    simpa [nl] using nls_of h'
theorem nls_of : ∀ {ds : List PyData}, noLs ds = true → nls ds = true
  | [], _ => rfl
  | x :: xs, h => by
    have h' : noL x = true ∧ noLs xs = true := by simpa [noLs] using h
    simp [nls, nl_of h'.1, nls_of h'.2]
end
theorem ex_data {K : PySem.W.Frag} {H : Hp} : ∀ {kvs : List (Key × V)}, ExD K H kvs → ∃ ps : List (PyData × PyData), KvOk ps ∧ ps.length = kvs.length ∧ ∀ H', TR H H' → DqAll K H' (kvs.map fun q => kV q.1) (ps.map (·.1)) ∧ DqAll K H' (kvs.map (·.2)) (ps.map (·.2))
  | [], _ => ⟨[], ⟨rfl, rfl, by simp [PyData.depthKv], by simp [PyData.weightKv], rfl⟩, rfl, fun _ _ => ⟨.nil, .nil⟩⟩
  | q :: kvs, h => by
    obtain ⟨ps, C, hl, h12⟩ := ex_data (kvs := kvs) fun q hq => h q (List.mem_cons_of_mem _ hq)
    obtain ⟨z, d, e, hz, hv, ho⟩ := h q List.mem_cons_self
    have zl := name_len hz
    have zo : Ok 1 8 (.str z) := .str zl.2 (by omega) (name_asc hz)
    refine ⟨(.str z, d) :: ps, ⟨?_, ?_, ?_, ?_, ?_⟩, by rw [List.length_cons, List.length_cons, hl], fun H' e' => ⟨?_, ?_⟩⟩
    · simp only [PyData.leavesShortKv, Bool.and_eq_true]
      exact ⟨⟨PyData.leavesShort_of_canLay0 13 _ zo.lay zo.ish, PyData.leavesShort_of_canLay0 13 _ ho.lay ho.ish⟩, C.ls⟩
    · simp only [PyData.showableKv, Bool.and_eq_true]
      exact ⟨⟨zo.shw, ho.shw⟩, C.shw⟩
    · simp only [PyData.depthKv]
      have := zo.dep
      have := ho.dep
      have := C.dep
      omega
    · simp only [PyData.weightKv, List.length_cons]
      have := zo.wt
      have := ho.wt
      have := C.wt
      omega
    · simp only [nlk, Bool.and_eq_true]
      exact ⟨⟨rfl, nl_of hv.nl⟩, C.nl⟩
    · rw [List.map_cons, List.map_cons, e]
      exact .cons (.str z) (h12 H' e').1
    · exact .cons (hv.tr e').dp.q (h12 H' e').2
theorem pair_shown {d : PyData} {ps : List (PyData × PyData)} (ho : Ok 10 7300 d) (hn : noL d = true) (C : KvOk ps) (hl : ps.length ≤ 6) : shownQ (.tuple [d, .dict ps]) := by
  have hd := ho.dep
  have hw := ho.wt
  have cd := C.dep
  have cw := C.wt
  have ls : (PyData.tuple [d, .dict ps]).leavesShort 13 = true := by
    simp only [PyData.leavesShort, PyData.leavesShortAll, Bool.and_eq_true]
    exact ⟨PyData.leavesShort_of_canLay0 13 _ ho.lay ho.ish, C.ls, trivial⟩
  have wt : (PyData.tuple [d, .dict ps]).weight ≤ 2 ^ 20 := by
    simp only [PyData.weight, PyData.weightAll]
    have : (2 : Nat) ^ 20 = 1048576 := by decide
    omega
  refine ⟨?_, ?_, PyData.shown_fits (by decide) (by decide) ls wt, fun _ => ?_⟩
  · simp only [PyData.showable, PyData.showableAll, Bool.and_eq_true]
    exact ⟨ho.shw, C.shw, trivial⟩
  · simp only [PyData.depth, PyData.depthAll]
    omega
  · simp only [nl, nls, Bool.and_eq_true]
    exact ⟨nl_of hn, C.nl, trivial⟩
end K18
set_option Elab.async false
set_option linter.all false
set_option maxRecDepth 100000
set_option maxHeartbeats 1500000
namespace K18
open PySem PySem.Spec PyProof.Rows L2 LamX NdefX LamC StX
open C8 (Cal Def cal0 pe_c fnBody fnScope fnArgs)
theorem sqL_ext {K : PySem.W.Frag} {a : Addr} {H H' : Hp} {xs : List V} (h : SqL K H a xs) (e : ExtN H H') : SqL K H' a xs := by
  rcases h with (h | ⟨o, h⟩) | h
  · exact .inl (.inl (e _ _ h fun ps z => nomatch z))
  · exact .inl (.inr ⟨o, e _ _ h fun ps z => nomatch z⟩)
  · exact .inr h
theorem ext_but {p : Addr} {H H1 H2 : Hp} (e : ExtN H H1) (b : But p H1 H2) (hp : H p = none) : ExtN H H2 := fun c o h n => b c o (fun z => by rw [z, hp] at h; cases h) (e c o h n)
theorem tabs_but {T : List (Addr × Str)} {p : Addr} {H H' : Hp} {xs : List V} (t : Tabs T H) (e : But p H H') (hp : H p = some (.lst xs)) : Tabs T H' := fun q hq => by
  obtain ⟨ps, h1, h2, h3⟩ := t q hq
  refine ⟨ps, e _ _ (fun z => by rw [z, hp] at h1; cases h1) h1, h2, fun pos cv hc => ?_⟩
  obtain ⟨c, e1, e2⟩ := h3 pos cv hc
  exact ⟨c, e1, e _ _ (fun z => by rw [z, hp] at e2; cases e2) e2⟩
theorem ne_self {x : V} : (!decide (x = x)) = false := by rw [decide_eq_true rfl]; rfl
section
variable {P : Program} {w : World} {K : PySem.W.Frag} {mg : Str → Option Value} {base : Heap}
abbrev sLaw : Stmt := topS 19
abbrev NLaw : List Str := ["_law_script", "_law_k", "_law_pot_here", "_law_term_here", "_law_exchanged_here", "_law_kept", "_law_turn"]
theorem scLaw : FnScope NLaw ["_law_script"] (fnScope sLaw) := ⟨rfl, rfl, rfl, by decide +kernel, rfl, by decide +kernel, by decide +kernel⟩
def spLaw (K : PySem.W.Frag) (Pt : Addr) : Sp := fun vs H Q _ => ∃ (a : Addr) (ns : List Int), vs = [.ref a] ∧ SqL K H a (ns.map V.int) ∧ ns.length ≤ 63 ∧ Tabs [(Pt, lamQ)] H ∧ ∀ H', Q (.bl true) H'
theorem f_law (T : Tp mg) {Pt : Addr} (c_LCellAt : Cal P w K mg base 1 "_law_cell_at" (spCellAt K) []) (c_LPot : Cal P w K mg base 1 "_law_pot" spPot []) (c_LTerm : Cal P w K mg base 21 "_law_term" (spT K 7) []) (c_LExchanged : Cal P w K mg base 22 "_law_exchanged" (spExchanged K) [])
    (c_PWithNames : Cal P w K mg base 4 "with_names" (spWN K Pt) []) (c_LPut : Cal P w K mg base 11 "_law_put" (spPut K 10) [])
    {f : Addr} {fd : FuncData} (D : Def K mg "law" sLaw f fd) : FnG P w K mg base C8.CX0 23 f fd ["_law_script"] (spLaw K Pt) := by
  refine fnG0 D scLaw (fun vs H Q E h => ?_) (fun cdv A outer s H vs Q E hg hr h => ?_)
  · obtain ⟨a, ns, rfl, _⟩ := h
    rfl
  · obtain ⟨a, ns, rfl, hS, hn, hT, q⟩ := h
    have nd := scLaw.nd
    refine ⟨_, (pss_cons (ps_for PassesOwn.never rfl (pi_range1 (by rfl) T.n_range (pa_cons (pe_callB (call_max2 rfl) (by rfl) T.n_max (by decide +kernel) (pa_cons pe_int (pa_cons (pe_callB (call_min2 rfl) (by rfl) T.n_min (by decide +kernel) (pa_cons (pe_callB call_len_seq (by rfl) T.n_len (by decide +kernel) (pa_cons (pv 0) pa_nil)) (pa_cons pe_int pa_nil))) pa_nil))) pa_nil)) (pg_name (i := 1) nd rfl (.inl rfl))
      (pss_cons (ps_set (i := 2) nd rfl (.inl rfl) (pe_op op_cat (pe_c c_LPot hr (by decide) (by rfl) (pa_cons (pe_c c_LCellAt hr (by decide) (by rfl) (pa_cons (pv 0) (pa_cons (pv 1) pa_nil))) (pa_cons (pv 1) pa_nil))) (pe_lst (pa_cons pe_int pa_nil))))
    (pss_cons (ps_set (i := 3) nd rfl (.inl rfl) (pe_c c_LTerm hr (by decide) (by rfl) (pa_cons (pv 2) (pa_cons pe_int pa_nil))))
    (pss_cons (ps_set (i := 4) nd rfl (.inl rfl) (pe_c c_LExchanged hr (by decide) (by rfl) (pa_cons (pv 2) (pa_cons (pv 3) pa_nil))))
    (pss_cons (ps_set (i := 5) nd rfl (.inl rfl) (pe_callB (call_reprQ hg (hrep_of hr)) (by rfl) T.n_repr (by decide +kernel) (pa_cons (pe_tup (pa_cons (pv 3) (pa_cons (pv 4) pa_nil))) pa_nil)))
    (pss_cons (ps_for PassesOwn.never rfl (pi_range1 (by rfl) T.n_range (pa_cons pe_int pa_nil)) (pg_name (i := 6) nd rfl (.inl rfl))
      (pss_one (ps_if (pt_cmpR op_ne (pe_callB (call_reprD hg (hrep_of hr)) (by rfl) T.n_repr (by decide +kernel) (pa_cons (pe_c c_PWithNames hr (by decide) (by rfl) (pa_cons (pv 3) (pa_cons (pv 4) pa_nil))) pa_nil)) (pe_callB (call_reprD hg (hrep_of hr)) (by rfl) T.n_repr (by decide +kernel) (pa_cons (pe_c c_LPut hr (by decide) (by rfl) (pa_cons (pv 3) (pa_cons (pv 4) pa_nil))) pa_nil)) (nomark _))
      (pss_one (ps_ret pe_bl))
      pss_nil)))
    (pss_one (ps_if (PW.pt (pw_or (pt_cmpR op_ne (pe_callB (call_reprQ hg (hrep_of hr)) (by rfl) T.n_repr (by decide +kernel) (pa_cons (pe_tup (pa_cons (pv 3) (pa_cons (pv 4) pa_nil))) pa_nil)) (pv 5) (nomark _)) (pw_or1 (pt_cmpR (op_neD hr.units) (pe_c c_PWithNames hr (by decide) (by rfl) (pa_cons (pv 3) (pa_cons pe_dnewK pa_nil))) (pv 3) (nomark _)))))
      (pss_one (ps_ret pe_bl))
      pss_nil))))))))
    (pss_one (ps_ret pe_bl))), ?_⟩
    have hlen : (ns.map V.int).length = ns.length := List.length_map ..
    refine ⟨_, rfl, a, _, rfl, .inl hS, _, _, rfl, _, _, rfl, _, rfl, ?_, ?_, ?_⟩
    · split <;> split <;> omega
    · split <;> split <;> omega
    · refine for_range (lo := 0) (n := (if (if (20 : Int) < ((ns.map V.int).length : Nat) then (20 : Int) else ((ns.map V.int).length : Nat)) > 1 then (if (20 : Int) < ((ns.map V.int).length : Nat) then (20 : Int) else ((ns.map V.int).length : Nat)) else 1).toNat)
        (fun i σ H' => (∃ o1 o2 o3 o4 o5 o6, σ = [some (.ref a), o1, o2, o3, o4, o5, o6]) ∧ SqL K H' a (ns.map V.int) ∧ Tabs [(Pt, lamQ)] H') ⟨⟨_, _, _, _, _, _, rfl⟩, hS, hT⟩ (fun i σ H' hi hW => ?_) (fun σ H' hW => ?_)
      · obtain ⟨⟨o1, o2, o3, o4, o5, o6, rfl⟩, hS', hT'⟩ := hW
        have hi' : i ≤ 100 := by
          have h2 : i < _ := hi
          split at h2 <;> (try split at h2) <;> omega
        have e0 : (0 : Int) + (i : Int) = (i : Int) := Int.zero_add _
        rw [e0]
        refine ⟨_, rfl, _, rfl, a, ns, i, rfl, hS', fun n => ⟨_, rfl, n, i, rfl, hi', fun p0 x y hp0 x0 y0 y1 => ⟨(by show 1 ≤ sizeLine; decide), fun l0 hl0 => ?_⟩⟩⟩
        have s0 : Same H' _ := (Same.new (o := .lst [.int x, .int y]) hp0).trans (Same.new (o := .lst [.int 24]) hl0)
        refine ⟨p0, l0, [.int x, .int y], [.int 24], rfl, rfl, (Same.new hl0) _ _ upd_same, upd_same, (by show 2 + 1 ≤ sizeLine; decide), fun p hpn => ?_⟩
        have hpH := s0.free hpn
        have s1 := s0.trans (Same.new (o := .lst ([.int x, .int y] ++ [.int 24])) hpn)
        have hp : Pot (upd (upd (upd H' p0 (.lst [.int x, .int y])) l0 (.lst [.int 24])) p (.lst ([.int x, .int y] ++ [.int 24]))) p x y 24 := ⟨upd_same, x0, y0, y1⟩
        generalize upd (upd (upd H' p0 (.lst [.int x, .int y])) l0 (.lst [.int 24])) p (.lst ([.int x, .int y] ++ [.int 24])) = H1 at *
        have E1 : ExtN H' H1 := ExtN.of s1
        have T1 := hT'.ext s1
        refine ⟨_, rfl, p, x, y, 24, 6, rfl, by decide, hp, fun v d H2 n2 W h1 h2 h3 okd htm hnv hD g1 => ?_⟩
        have okt : Ok 10 7300 d := okd.mono (by decide) (by rcases h2 with h2 | h2 <;> omega)
        have hlv : lvD d ≤ 73 := by
          have := hnv.2
          rcases h2 with h2 | h2 <;> omega
        have E2 := ext_but E1 g1.1 hpH
        have T2 := tabs_but T1 g1.1 hp.at_
        have tn2 : Tn K H2 v d := ⟨hD.un, hnv.1⟩
        obtain ⟨x2, y2, hp2⟩ := g1.2
        refine ⟨_, rfl, _, rfl, p, x2, y2, n2, v, d, rfl, hp2, tn2, htm, okt, fun da kvs m n3 H3 hda0 hda hmo hex hokm hkl g2 => ?_⟩
        have E3 := ext_but E2 g2.1 hpH
        have T3 := tabs_but T2 g2.1 hp2.at_
        have tn3 := tn2.tr (TR.but g2.1 hp2.at_)
        obtain ⟨ps, C, hpl, hps⟩ := ex_data hex
        have shQ := pair_shown okt hnv.1 C (by omega)
        have okp : Ok 17 1000000 (putD m d) := by
          have e1 : Ok 10 d.weight d := ⟨okt.lay, okt.dep, Nat.le_refl _, okt.sh, okt.ish, okt.shw⟩
          have := okt.wt
          exact (put_ok hokm 10 d htm e1).mono (by decide) (by omega)
        have shP := okp.shownB (by decide) (Nat.le_refl _)
        have hw : d.weight ≤ 100000 := by have := okt.wt; omega
        have hpair : ∀ {Hx : Hp} {t : Addr}, ExtN H3 Hx → Hx t = none → Dq K (upd Hx t (.tup [v, .ref da])) (.ref t) (.tuple [d, .dict ps]) := fun {Hx t} e ht => by
          have tr := (TR.ext e).trans (TR.new (o := .tup [v, .ref da]) ht)
          obtain ⟨k1, k2⟩ := hps _ tr
          exact .tup (SqT.of upd_same) (.cons (tn3.tr tr).dp.q (.cons (.dct (Same.new ht _ _ (e _ _ hda fun ps z => nomatch z)) k1 k2) .nil))
        refine ⟨_, rfl, _, rfl, (by show 2 ≤ sizeLine; decide), fun t ht => ⟨.ref t, _, rfl, hpair (ExtN.refl H3) ht, shQ, ?_⟩⟩
        have s4 : Same H3 (upd H3 t (.tup [v, .ref da])) := Same.new ht
        have T4 := T3.ext s4
        have E4 : ExtN H3 (upd H3 t (.tup [v, .ref da])) := ExtN.of s4
        generalize upd H3 t (.tup [v, .ref da]) = H4 at *
        refine ⟨2, rfl, by decide, by decide, ?_⟩
        refine for_range (lo := 0) (n := 2) (fun j σ Hx => (∃ o, σ = [some (.ref a), some (.int i), some (.ref p), some v, some (.ref da), some (.str (PyData.tuple [d, .dict ps]).shown), o]) ∧ ExtN H3 Hx ∧ Tabs [(Pt, lamQ)] Hx)
          ⟨⟨_, rfl⟩, E4, T4⟩ (fun j σ Hx _ hW => ?_) (fun σ Hx hW => ?_)
        · obtain ⟨⟨o, rfl⟩, Ex, Tx⟩ := hW
          refine ⟨_, rfl, _, rfl, v, d, da, kvs, m, rfl, tn3.tr (TR.ext Ex), htm, hw, okt.sh, Ex _ _ hda (fun ps z => nomatch z), hmo.tr (TR.ext Ex), Tx, fun v5 H5 e5 b5 T5 tn5 => ⟨v5, _, rfl, tn5.dp, shP, ?_⟩⟩
          have Ex5 := Ex.trans e5
          refine ⟨_, rfl, _, rfl, v, d, da, kvs, m, rfl, tn3.tr (TR.ext Ex5), htm, okt.sh, okt.dep, Ex5 _ _ hda (fun ps z => nomatch z), hmo.tr (TR.ext Ex5), fun v6 H6 s6 tn6 => ⟨v6, _, rfl, tn6.dp, shP, ?_⟩⟩
          refine ⟨rfl, _, rfl, iteF' ne_self ?_⟩
          exact ⟨⟨_, rfl⟩, Ex5.trans (ExtN.of s6), T5.ext s6⟩
        · obtain ⟨⟨o, rfl⟩, Ex, Tx⟩ := hW
          refine ⟨_, rfl, _, rfl, (by show 2 ≤ sizeLine; decide), fun t5 ht5 => ⟨.ref t5, _, rfl, hpair Ex ht5, shQ, ?_⟩⟩
          have s5 : Same Hx (upd Hx t5 (.tup [v, .ref da])) := Same.new ht5
          have Ex5 := Ex.trans (ExtN.of s5)
          have T5 := Tx.ext s5
          generalize upd Hx t5 (.tup [v, .ref da]) = H5 at *
          refine ⟨_, rfl, rfl, _, rfl, iteF' ne_self ?_⟩
          refine ⟨_, rfl, fun t6 ht6 => ?_⟩
          have s6 : Same H5 (upd H5 t6 (.dK [])) := Same.new ht6
          have Ex6 := Ex5.trans (ExtN.of s6)
          have T6 := T5.ext s6
          have at6 : (upd H5 t6 (.dK [])) t6 = some (.dK []) := upd_same
          generalize upd H5 t6 (.dK []) = H6 at *
          have tn6 := tn3.tr (TR.ext Ex6)
          refine ⟨v, d, t6, [], fun _ => none, rfl, tn6, htm, hw, okt.sh, at6, (fun z => .inl ⟨rfl, rfl⟩), T6, fun v7 H7 e7 b7 T7 tn7 => ?_⟩
          have Ex7 := Ex6.trans e7
          rw [put_none 10 d htm okt.dep] at tn7
          have shd : SeqAt.shaped d = true := shaped_of okt.lay (by have := okt.dep; omega)
          refine ⟨_, rfl, d, d, tn7.dp, (tn3.tr (TR.ext Ex7)).dp, shd, shd, _, rfl, iteF' (by rw [SeqAt.eqv_refl d okt.lay]; rfl) ?_⟩
          exact ⟨⟨_, _, _, _, _, _, rfl⟩, sqL_ext hS' (E3.trans Ex7), T7⟩
      · exact q H'
end
end K18
set_option Elab.async false
set_option linter.all false
set_option maxRecDepth 100000
set_option maxHeartbeats 2000000
/-! the law's call where one table of code objects grows, and repr is asked -/
namespace LamC
open PySem PySem.Spec PyProof.Rows L2 LamX NdefX
section
variable {P : Program} {w : World} {K : PySem.W.Frag} {mg mb : Str → Option Value} {CX : CXT} {k : Nat} {fa a c Pt : Addr} {fd : FuncData} {x : Str} {sp : Sp} {st : Shared} {vs : List Value} {ns : List Int}
/-- what is hidden: the table, and the script where it is no part of the fragment -/
structure Hid1 (K : PySem.W.Frag) (H : Hp) (a Pt : Addr) (ns : List Int) : Prop where
  tab : H Pt = some (.tbl #[])
  oth : ∀ b, b ≠ Pt → H b ≠ none → b = a ∧ K.lookup a = none ∧ ∃ o, H b = some (.frz o (.lst (ns.map V.int)))
theorem Hid1.free {H : Hp} (h : Hid1 K H a Pt ns) {b : Addr} (n1 : b ≠ Pt) (n2 : b = a → K.lookup a ≠ none) : H b = none := by
  cases e : H b with
  | none => rfl
  | some u =>
    obtain ⟨h1, h2, _⟩ := h.oth b n1 (by rw [e]; simp)
    exact absurd h2 (n2 h1)
theorem run_hid (inK : K.In st.heap) (nsM : st.heap.Ns mainGlobals mg) (nsB : st.heap.Ns builtinsNs mb) (blt : ∀ y : Str, y ≠ "__name__" → mb y = bootBuiltins y) (lim : st.heap.NoLimit) (gen0 : st.gens = #[])
    (tab : st.heap.get? Pt = some { cls := .none, data := .fields #[] }) (offK : K.lookup Pt = none) (hd : PySem.W.CodeHd st.heap c Pt)
    (bm : ∃ (q : Addr) (o : Obj), mg "__builtins__" = some (.ref q) ∧ q ≠ builtinsNs ∧ st.heap.get? q = some o ∧ o.cls = .type "module" ∧ o.dict = some builtinsNs ∧ o.data = .plain)
    (scr : st.heap.get? a = some { cls := .type "list", data := .seq vs.toArray }) (room : Room k callerA)
    (prm : ∀ base : Heap, K.In base → base.Ns mainGlobals mg → TabB base mg c Pt → FnG P w K mg base CX k fa fd [x] sp) (bnd : ∀ (s : Shared) (u : Value), BindsTo s fd ⟨[u], []⟩ [(x, u)])
    (noX : ∀ H e s', CX [] H st (fun _ _ _ => False) e s' → False) {H : Hp} (hh : Hid1 K H a Pt ns) (ok : HOk P w H st.heap) (hsp : sp [.ref a] H (fun v _ => v = .bl true) fun _ _ _ => False) :
    codeAny (model P w) callerA (.call (.ref fa) ⟨[.ref a], []⟩) (fun r s' => r = .ok (.ret (.bool true)) ∧ OldK st.heap s'.heap ∧ s'.os = st.os ∧ AllBare s'.gens) st := by
  -- what is neither the table nor the script stands in the base
  have stays : ∀ {b : Addr} {o : Obj}, st.heap.get? b = some o → (∀ us n, o.data ≠ .seq us n) → o.data ≠ .fields #[] → (hidT st.heap H).get? b = some o := by
    intro b o e d1 d2
    refine hidT_get e (hh.free (fun z => ?_) fun z => ?_)
    · rw [z, tab] at e
      cases e
      exact (d2 rfl).elim
    · rw [z, scr] at e
      cases e
      exact (d1 _ _ rfl).elim
  have names : ∀ {b : Addr} {m : Str → Option Value}, st.heap.Ns b m → (hidT st.heap H).Ns b m := by
    rintro b m ⟨o, es, n, e, d, r⟩
    exact ⟨o, es, n, stays e (by rw [d]; exact fun _ _ z => nomatch z) (by rw [d]; exact fun z => nomatch z), d, r⟩
  have base : K.In (hidT st.heap H) := by
    intro b o e
    refine hidT_get (inK b o e) (hh.free (fun z => ?_) fun z => ?_)
    · rw [z, offK] at e
      cases e
    · rw [z] at e
      rw [e]
      simp
  have tb : TabB (hidT st.heap H) mg c Pt := by
    constructor
    · obtain ⟨o, us, fl, tf, fg, tg, fn, tx, tt, e, q1, q2, q3, q4, q5, q6, q7, q8, q9⟩ := hd
      refine ⟨o, us, fl, tf, fg, tg, fn, tx, tt, stays e ?_ ?_, q1, q2, q3, q4, q5, q6, q7, q8, q9⟩
      · rw [q2]
        exact fun _ _ z => nomatch z
      · rw [q2]
        intro z
        cases z
        simp at q3
    · obtain ⟨q, o, b1, b2, b3, b4, b5, b6⟩ := bm
      refine ⟨q, o, b1, b2, fun z => ?_, fun z => ?_, stays b3 (by rw [b6]; exact fun _ _ z => nomatch z) (by rw [b6]; exact fun z => nomatch z), b4, b5, b6⟩
      · obtain ⟨o2, es, n, e, d, _⟩ := nsM
        rw [z, e] at b3
        cases b3
        rw [d] at b6
        cases b6
      · rw [z, tab] at b3
        cases b3
        cases b6
    · intro z
      obtain ⟨o, es, n, e, d, _⟩ := nsM
      rw [z, tab] at e
      cases e
      cases d
  have md : Mod K mg (hidT st.heap H) := by
    obtain ⟨mc, l1, l2⟩ := lim
    exact ⟨base, names nsM, ⟨mb, names nsB, blt⟩, mc, names l1, l2⟩
  have env : Env0 P w K mg (hidT st.heap H) callerA [] st H := by
    refine ⟨rfl, md, fun b o e => of_hidT e, Nat.le_of_eq (hidT_size _ _), trivial, fun b z => ?_, ok, .of_eq gen0⟩
    exact absurd (show b ∈ ([] : List Addr) from z) (by simp)
  refine codeAny_mono ((prm _ base (names nsM) tb).run callerA [] st H ⟨[.ref a], []⟩ [.ref a] [.ref a] _ _ rfl room env (bnd st (.ref a)) (.cons rfl .nil) hsp) (fun r s' h => ?_)
  match r, h with
  | .error e, h => exact (noX H e s' h).elim
  | .ok .next, h => exact False.elim h
  | .ok .brk, h => exact False.elim h
  | .ok .cont, h => exact False.elim h
  | .ok (.ret u), h =>
    obtain ⟨v, H', os, bare, un, ok', rv, qv⟩ := h
    obtain rfl : v = .bl true := qv
    obtain rfl : u = Value.bool true := rv
    obtain ⟨more, grown⟩ := un.tbls Pt #[] hh.tab
    have tab' : s'.heap.get? Pt = some { cls := .none, data := .fields (#[] ++ more) } := ok' Pt _ grown
    have kept : ∀ b o, b ≠ Pt → st.heap.get? b = some o → s'.heap.get? b = some o := by
      intro b o n e
      cases q : H b with
      | none => exact un.keep b o e q (fun z => absurd (show b ∈ ([] : List Addr) from z) (by simp)) (by simp)
      | some u =>
        obtain ⟨_, _, o2, z⟩ := hh.oth b n (by rw [q]; simp)
        have f1 := (ok b _ z).1
        have f2 := (ok' b _ (un.frzs b o2 _ z)).1
        rw [e] at f1
        cases f1
        exact f2
    refine ⟨rfl, ⟨fun b o e => ?_, fun b o e => ?_⟩, os, bare⟩
    · by_cases n : b = Pt
      · subst n
        rw [tab] at e
        cases e
        refine .inr (.inl ⟨(hd.tab tab).isCodeTable, rfl, #[], more, rfl, ?_⟩)
        exact tab'
      · exact .inl (kept b o n e)
    · by_cases n : b = Pt
      · subst n
        exact ⟨_, tab'⟩
      · exact ⟨o, kept b o n e⟩
/-- .. over the heaps in which the script is known -/
theorem lawT1 (inK : K.In st.heap) (nsM : st.heap.Ns mainGlobals mg) (nsB : st.heap.Ns builtinsNs mb) (blt : ∀ y : Str, y ≠ "__name__" → mb y = bootBuiltins y) (lim : st.heap.NoLimit) (gen0 : st.gens = #[])
    (tab : st.heap.get? Pt = some { cls := .none, data := .fields #[] }) (offK : K.lookup Pt = none) (hd : PySem.W.CodeHd st.heap c Pt)
    (bm : ∃ (q : Addr) (o : Obj), mg "__builtins__" = some (.ref q) ∧ q ≠ builtinsNs ∧ st.heap.get? q = some o ∧ o.cls = .type "module" ∧ o.dict = some builtinsNs ∧ o.data = .plain)
    (scr : st.heap.get? a = some { cls := .type "list", data := .seq vs.toArray }) (iv : IntsAre vs ns) (len : ns.length ≤ sizeLine) (room : Room k callerA)
    (prm : ∀ base : Heap, K.In base → base.Ns mainGlobals mg → TabB base mg c Pt → FnG P w K mg base CX k fa fd [x] sp) (bnd : ∀ (s : Shared) (u : Value), BindsTo s fd ⟨[u], []⟩ [(x, u)])
    (noX : ∀ H e s', CX [] H st (fun _ _ _ => False) e s' → False) (hsp : ∀ H : Hp, H Pt = some (.tbl #[]) → SqL K H a (ns.map V.int) → sp [.ref a] H (fun v _ => v = .bl true) fun _ _ _ => False) :
    codeAny (model P w) callerA (.call (.ref fa) ⟨[.ref a], []⟩) (fun r s' => r = .ok (.ret (.bool true)) ∧ OldK st.heap s'.heap ∧ s'.os = st.os ∧ AllBare s'.gens) st := by
  have vi := vals_ints iv
  have hvl := iv.length
  have naP : a ≠ Pt := fun z => by
    rw [z, tab] at scr
    cases scr
  cases hk : K.lookup a with
  | some o =>
    have e := inK a o hk
    rw [scr] at e
    cases e
    have hT : (fun b => if b = Pt then some (HO.tbl #[]) else none : Hp) Pt = some (.tbl #[]) := if_pos rfl
    refine run_hid (ns := ns) (H := fun b => if b = Pt then some (HO.tbl #[]) else none) inK nsM nsB blt lim gen0 tab offK hd bm scr room prm bnd noX ⟨hT, fun b n z => absurd (if_neg n) z⟩ (fun b u z => ?_) (hsp _ hT (.inr ⟨_, vs.toArray, _, hk, rfl, rfl, rfl, ?_, ?_⟩))
    · by_cases n : b = Pt
      · have z' := (if_pos n).symm.trans z
        cases z'
        rw [n]
        exact tab
      · have z' := (if_neg n).symm.trans z
        cases z'
    · rw [List.size_toArray, hvl]
      exact len
    · simpa using vi
  | none =>
    have hT : (fun b => if b = Pt then some (HO.tbl #[]) else if b = a then some (.frz { cls := .type "list", data := .seq vs.toArray } (.lst (ns.map V.int))) else none : Hp) Pt = some (.tbl #[]) := if_pos rfl
    have hA : (fun b => if b = Pt then some (HO.tbl #[]) else if b = a then some (.frz { cls := .type "list", data := .seq vs.toArray } (.lst (ns.map V.int))) else none : Hp) a = some (.frz { cls := .type "list", data := .seq vs.toArray } (.lst (ns.map V.int))) := (if_neg naP).trans (if_pos rfl)
    refine run_hid (ns := ns) (H := fun b => if b = Pt then some (HO.tbl #[]) else if b = a then some (.frz { cls := .type "list", data := .seq vs.toArray } (.lst (ns.map V.int))) else none) inK nsM nsB blt lim gen0 tab offK hd bm scr room prm bnd noX ⟨hT, fun b n z => ?_⟩ (fun b u z => ?_) (hsp _ hT (.inl (.inr ⟨_, hA⟩)))
    · by_cases m : b = a
      · exact ⟨m, hk, _, (if_neg n).trans (if_pos m)⟩
      · exact absurd ((if_neg n).trans (if_neg m)) z
    · by_cases n : b = Pt
      · have z' := (if_pos n).symm.trans z
        cases z'
        rw [n]
        exact tab
      · have z1 := (if_neg n).symm.trans z
        by_cases m : b = a
        · have z' := (if_pos m).symm.trans z1
          cases z'
          rw [m]
          exact ⟨scr, by rw [List.length_map]; exact len, vs, _, vi, scr⟩
        · have z' := (if_neg m).symm.trans z1
          cases z'
end
/-- the table of the def y is empty where the law begins -/
def Tab0 (mg : Str → Option Value) (h : Heap) (y : Str) : Prop := ∃ (f c Pt : Addr) (o oc : Obj) (fd : FuncData) (vc : Array Value), mg y = some (.ref f) ∧ h.get? f = some o ∧ o.data = .func fd ∧ fd.code = .ref c ∧ h.get? c = some oc ∧ oc.data = .fields vc ∧ vc[11]? = some (.ref Pt) ∧ h.get? Pt = some { cls := .none, data := .fields #[] }
/-- the goal that the head leaves -/
theorem walkT1 {l : PySem.W.OpenLaw} {n k : Nat} {q : Program} {loose : List Str} {XP : (Str → Option Value) → Heap → Prop} {YP : World → Heap → Prop} {d : DefRec} {K : Params → PySem.W.Frag} {sp : PySem.W.Frag → Addr → Sp} {x : Str}
    {y : Str} (hrec : ((recsOf q).any fun e => e.name == y) = true) (hn : l.most = some n) (hn2 : n ≤ sizeLine) (hdf : d.params.defaults = []) (hr : Room k callerA) (hY : ∀ (w : World) (h : Heap), YP w h → (K w.params).In h)
    (F : ∀ (w : World) (mg : Str → Option Value) (fa : Addr) (h : Heap), YP w h → (K w.params).In h → h.Ns mainGlobals mg → mg d.name = some (.ref fa) → Tab0 mg h y →
      ∃ (fd : FuncData) (c Pt : Addr), h.get? Pt = some { cls := .none, data := .fields #[] } ∧ (K w.params).lookup Pt = none ∧ PySem.W.CodeHd h c Pt ∧ (∀ (s : Shared) (u : Value), BindsTo s fd ⟨[u], []⟩ [(x, u)]) ∧
        (∀ (H : Hp) (a : Addr) (ns : List Int), ns.length ≤ n → H Pt = some (.tbl #[]) → SqL (K w.params) H a (ns.map V.int) → sp (K w.params) Pt [.ref a] H (fun v _ => v = .bl true) fun _ _ _ => False) ∧
        ∀ base : Heap, (K w.params).In base → base.Ns mainGlobals mg → TabB base mg c Pt → FnG l.prog w (K w.params) mg base C8.CX0 k fa fd [x] (sp (K w.params) Pt)) :
    PySem.W.WalkO q loose XP YP l.row.toRowW d [] (fun f vs => PySem.call f vs) := by
  refine Att.attach_call hn hdf ?_
  intro w s₀ st mg mb fa o pm cd doc a vs ns G Y ho hd hcd hmg hobj hints hlen hg
  have inK := hY w _ Y
  have own : Tab0 mg st.heap y := by
    obtain ⟨e, he, hn1⟩ := List.any_eq_true.mp hrec
    obtain ⟨f, o2, fd2, c2, P2, h1, h2, h3, h4, _, ⟨⟨oc, vc, e1, _, e3, e4⟩, hP⟩⟩ := G.T.tab e he
    rw [show e.name = y from eq_of_beq hn1] at h1
    exact ⟨f, c2, P2, o2, oc, fd2, vc, h1, h2, h3, h4, e1, e3, e4, hP⟩
  obtain ⟨fd, c, Pt, t1, t2, t3, hb, hsp, hF⟩ := F w mg fa _ Y inK G.T.g hmg own
  exact lawT1 inK G.T.g G.T.b G.T.builtins G.T.nolimit hg t1 t2 t3 G.T.bmain hobj hints (Nat.le_trans hlen hn2) hr hF hb (fun H e s' z => z) fun H h1 h2 => hsp H a ns hlen h1 h2
end LamC
set_option Elab.async false
set_option linter.all false
set_option maxRecDepth 100000
set_option maxHeartbeats 4000000
namespace L2
open PySem PySem.Spec PyProof.Rows
/-! ### a written dict by texts -/
def EntsV : List DictEntry → List (Str × V) → Prop := Paired fun e p => (∃ t, e.key = .str p.1 t) ∧ RelV p.2 e.val
theorem isStr_keyV {e : DictEntry} {x z : Str} {t : Tok} (h : e.key = .str x t) : e.key.isStr z = (z == x) := by
  rw [h, PySem.W.isStr_of, Bool.eq_iff_iff, beq_iff_eq]
  constructor
  · intro q
    obtain ⟨t', e'⟩ := Value.isStrOf_shape q
    injection e' with e1
    exact e1.symm
  · intro q
    rw [q]
    simp [Value.isStrOf]
theorem find_cv : ∀ {es : List DictEntry} {cs : List (Str × V)}, EntsV es cs → ∀ z, (match cs.lookup z with | some i => ∃ e, es.find? (·.key.isStr z) = some e ∧ RelV i e.val | none => es.find? (·.key.isStr z) = none) ∧ es.any (·.refKey) = false
  | _, _, .nil, z => ⟨rfl, rfl⟩
  | _, _, .cons (a := e) (b := p) ⟨⟨t, hk⟩, hv⟩ r, z => by
    obtain ⟨i1, i2⟩ := find_cv r z
    obtain ⟨y, i⟩ := p
    refine ⟨?_, ?_⟩
    · rw [List.lookup_cons, List.find?_cons, isStr_keyV hk]
      cases h : (z == y) with
      | true => exact ⟨e, rfl, hv⟩
      | false => exact i1
    · rw [List.any_cons, i2, Bool.or_false]
      unfold DictEntry.refKey
      rw [hk]
theorem nsIn_cv {K : PySem.W.Frag} {a : Addr} {c : Value} {od : Option Addr} {es : Array DictEntry} {n : Nat} {sl : Array (Option Value)} {cs : List (Str × V)} (h : K.lookup a = some ⟨c, od, .dict es n, sl⟩) (hc : EntsV es.toList cs) (z : Str) :
    (∃ v u, cs.lookup z = some v ∧ PySem.W.nsIn K a z = some (some u) ∧ RelV v u) ∨ (cs.lookup z = none ∧ PySem.W.nsIn K a z = some none) := by
  obtain ⟨h1, h2⟩ := find_cv hc z
  unfold PySem.W.nsIn
  rw [h]
  cases hl : cs.lookup z with
  | some i =>
    rw [hl] at h1
    obtain ⟨e, h3, h4⟩ := h1
    refine .inl ⟨i, e.val, rfl, ?_, h4⟩
    dsimp only
    rw [h3]
  | none =>
    rw [hl] at h1
    refine .inr ⟨rfl, ?_⟩
    dsimp only
    rw [h1, h2]
    rfl
/-- texts to tuples of so many things -/
def TupsOf (K : PySem.W.Frag) : List (Str × V) → List (Str × Int) → Prop := Paired fun a b => a.1 = b.1 ∧ ∃ p xs, a.2 = .ref p ∧ (∀ H, SqT K H p xs) ∧ (xs.length : Int) = b.2
theorem tupsOf {K : PySem.W.Frag} : ∀ {cs : List (Str × V)} {ks : List (Str × Int)}, TupsOf K cs ks → ∀ z, (∃ p xs c, cs.lookup z = some (.ref p) ∧ (∀ H, SqT K H p xs) ∧ ks.lookup z = some c ∧ (xs.length : Int) = c) ∨ (cs.lookup z = none ∧ ks.lookup z = none)
  | _, _, .nil, z => .inr ⟨rfl, rfl⟩
  | _, _, .cons (a := a) (b := b) ⟨h1, p, xs, h2, h3, h4⟩ r, z => by
    obtain ⟨y, v⟩ := a
    obtain ⟨y', c⟩ := b
    simp only at h1 h2 h4
    subst h1
    rw [List.lookup_cons, List.lookup_cons]
    cases h : (z == y) with
    | true => exact .inl ⟨p, xs, c, by rw [h2], h3, rfl, h4⟩
    | false => exact tupsOf r z
/-- a written tuple -/
theorem sqT_K {K : PySem.W.Frag} {a : Addr} {d : Option Addr} {its : Array Value} {n : Nat} {sl : Array (Option Value)} {xs : List V} (l : K.lookup a = some ⟨.type "tuple", d, .seq its n, sl⟩) (z : its.size ≤ sizeLine) (v : Vals xs its.toList) : ∀ H, SqT K H a xs := fun H => .inr ⟨_, its, n, l, rfl, rfl, z, v⟩
end L2
set_option Elab.async false
set_option linter.all false
set_option maxRecDepth 100000
set_option maxHeartbeats 8000000
namespace K18
open PySem PySem.Spec PyProof.Rows L2 LamX NdefX LamC
open C8 (Cal Def cal0 pe_c fnBody fnScope fnArgs)
/-- a def of the module's top -/
theorem def_mk {K : PySem.W.Frag} {h : Heap} {mg : Str → Option Value} (X : K.In h) (G : h.Ns mainGlobals mg) {x : Str} {st : Stmt} {f : Addr} {oc : Value} {od an : Option Addr} {osl : Array (Option Value)} {kV doc pm cdv ct : Value}
    (a : PySem.W.nsIn K mainGlobals x = some (some (.ref f)))
    (l : K.lookup f = some ⟨oc, od, .func (PySem.W.fnOf x x (fnArgs st) (fnBody st) (fnScope st) .none kV doc pm an cdv ct), osl⟩)
    (c : PySem.W.codeIn K cdv x = true) (k : PySem.W.keepIn K (.ref f) = true) : Def K mg x st f (PySem.W.fnOf x x (fnArgs st) (fnBody st) (fnScope st) .none kV doc pm an cdv ct) :=
  ⟨⟨⟨oc, od, .none, kV, doc, pm, an, cdv, ct, osl, rfl, l, c⟩⟩, PySem.W.mg_of X G a, k⟩
theorem all_mk {l : PySem.W.OpenLaw} {w : World} {K : PySem.W.Frag} {h : Heap} {mg : Str → Option Value} {fa : Addr} (X : K.In h) (G : h.Ns mainGlobals mg) (hfa : mg "law" = some (.ref fa))
    {f1 : Addr} {od1 an1 : Option Addr} {sl1 : Array (Option Value)} {oc1 kV1 dc1 pm1 cd1 ct1 : Value}
    {f2 : Addr} {od2 an2 : Option Addr} {sl2 : Array (Option Value)} {oc2 kV2 dc2 pm2 cd2 ct2 : Value}
    {f3 : Addr} {od3 an3 : Option Addr} {sl3 : Array (Option Value)} {oc3 kV3 dc3 pm3 ct3 : Value} {cw Pt : Addr} {ecw : Value} {dcw : Option Addr} {vcw : Array Value} {scw : Array (Option Value)}
    {f4 : Addr} {od4 an4 : Option Addr} {sl4 : Array (Option Value)} {oc4 kV4 dc4 pm4 cd4 ct4 : Value}
    {f5 : Addr} {od5 an5 : Option Addr} {sl5 : Array (Option Value)} {oc5 kV5 dc5 pm5 cd5 ct5 : Value}
    {f6 : Addr} {od6 an6 : Option Addr} {sl6 : Array (Option Value)} {oc6 kV6 dc6 pm6 cd6 ct6 : Value}
    {f7 : Addr} {od7 an7 : Option Addr} {sl7 : Array (Option Value)} {oc7 kV7 dc7 pm7 cd7 ct7 : Value}
    {f8 : Addr} {od8 an8 : Option Addr} {sl8 : Array (Option Value)} {oc8 kV8 dc8 pm8 cd8 ct8 : Value}
    {f9 : Addr} {od9 an9 : Option Addr} {sl9 : Array (Option Value)} {oc9 kV9 dc9 pm9 cd9 ct9 : Value}
    {f10 : Addr} {od10 an10 : Option Addr} {sl10 : Array (Option Value)} {oc10 kV10 dc10 pm10 cd10 ct10 : Value}
    {f11 : Addr} {od11 an11 : Option Addr} {sl11 : Array (Option Value)} {oc11 kV11 dc11 pm11 cd11 ct11 : Value}
    {f12 : Addr} {od12 an12 : Option Addr} {sl12 : Array (Option Value)} {oc12 kV12 dc12 pm12 cd12 ct12 : Value}
    {f13 : Addr} {od13 an13 : Option Addr} {sl13 : Array (Option Value)} {oc13 kV13 dc13 pm13 cd13 ct13 : Value}
    {f14 : Addr} {od14 an14 : Option Addr} {sl14 : Array (Option Value)} {oc14 kV14 dc14 pm14 cd14 ct14 : Value}
    {f15 : Addr} {od15 an15 : Option Addr} {sl15 : Array (Option Value)} {oc15 kV15 dc15 pm15 cd15 ct15 : Value}
    {f16 : Addr} {od16 an16 : Option Addr} {sl16 : Array (Option Value)} {oc16 kV16 dc16 pm16 cd16 ct16 : Value}
    {f17 : Addr} {od17 an17 : Option Addr} {sl17 : Array (Option Value)} {oc17 kV17 dc17 pm17 cd17 ct17 : Value}
    {p_LEAVES : Addr} {od_LEAVES : Option Addr} {oi_LEAVES : Array Value} {on_LEAVES : Nat} {os_LEAVES : Array (Option Value)}
    (a1 : PySem.W.nsIn K mainGlobals "parts_of" = some (some (.ref f1))) (l1 : K.lookup f1 = some ⟨oc1, od1, .func (PySem.W.fnOf "parts_of" "parts_of" (fnArgs sPPartsOf) (fnBody sPPartsOf) (fnScope sPPartsOf) .none kV1 dc1 pm1 an1 cd1 ct1), sl1⟩) (c1 : PySem.W.codeIn K cd1 "parts_of" = true) (k1 : PySem.W.keepIn K (.ref f1) = true)
    (a2 : PySem.W.nsIn K mainGlobals "folded" = some (some (.ref f2))) (l2 : K.lookup f2 = some ⟨oc2, od2, .func (PySem.W.fnOf "folded" "folded" (fnArgs sPFolded) (fnBody sPFolded) (fnScope sPFolded) .none kV2 dc2 pm2 an2 cd2 ct2), sl2⟩) (c2 : PySem.W.codeIn K cd2 "folded" = true) (k2 : PySem.W.keepIn K (.ref f2) = true)
    (a3 : PySem.W.nsIn K mainGlobals "with_names" = some (some (.ref f3))) (l3 : K.lookup f3 = some ⟨oc3, od3, .func (PySem.W.fnOf "with_names" "with_names" (fnArgs sPWithNames) (fnBody sPWithNames) (fnScope sPWithNames) .none kV3 dc3 pm3 an3 (.ref cw) ct3), sl3⟩) (c3 : PySem.W.codeIn K (.ref cw) "with_names" = true) (lcw : K.lookup cw = some ⟨ecw, dcw, .fields vcw, scw⟩) (v11 : vcw[11]? = some (.ref Pt)) (hcw : PySem.W.codeHdIn K cw Pt = true) (nPt : K.lookup Pt = none) (own : Tab0 mg h "with_names") (k3 : PySem.W.keepIn K (.ref f3) = true)
    (a4 : PySem.W.nsIn K mainGlobals "_exchanged" = some (some (.ref f4))) (l4 : K.lookup f4 = some ⟨oc4, od4, .func (PySem.W.fnOf "_exchanged" "_exchanged" (fnArgs sPExchanged) (fnBody sPExchanged) (fnScope sPExchanged) .none kV4 dc4 pm4 an4 cd4 ct4), sl4⟩) (c4 : PySem.W.codeIn K cd4 "_exchanged" = true) (k4 : PySem.W.keepIn K (.ref f4) = true)
    (a5 : PySem.W.nsIn K mainGlobals "with_parts" = some (some (.ref f5))) (l5 : K.lookup f5 = some ⟨oc5, od5, .func (PySem.W.fnOf "with_parts" "with_parts" (fnArgs sPWithParts) (fnBody sPWithParts) (fnScope sPWithParts) .none kV5 dc5 pm5 an5 cd5 ct5), sl5⟩) (c5 : PySem.W.codeIn K cd5 "with_parts" = true) (k5 : PySem.W.keepIn K (.ref f5) = true)
    (a6 : PySem.W.nsIn K mainGlobals "_law_cell_at" = some (some (.ref f6))) (l6 : K.lookup f6 = some ⟨oc6, od6, .func (PySem.W.fnOf "_law_cell_at" "_law_cell_at" (fnArgs sLCellAt) (fnBody sLCellAt) (fnScope sLCellAt) .none kV6 dc6 pm6 an6 cd6 ct6), sl6⟩) (c6 : PySem.W.codeIn K cd6 "_law_cell_at" = true) (k6 : PySem.W.keepIn K (.ref f6) = true)
    (a7 : PySem.W.nsIn K mainGlobals "_law_pot" = some (some (.ref f7))) (l7 : K.lookup f7 = some ⟨oc7, od7, .func (PySem.W.fnOf "_law_pot" "_law_pot" (fnArgs sLPot) (fnBody sLPot) (fnScope sLPot) .none kV7 dc7 pm7 an7 cd7 ct7), sl7⟩) (c7 : PySem.W.codeIn K cd7 "_law_pot" = true) (k7 : PySem.W.keepIn K (.ref f7) = true)
    (a8 : PySem.W.nsIn K mainGlobals "_law_take" = some (some (.ref f8))) (l8 : K.lookup f8 = some ⟨oc8, od8, .func (PySem.W.fnOf "_law_take" "_law_take" (fnArgs sLTake) (fnBody sLTake) (fnScope sLTake) .none kV8 dc8 pm8 an8 cd8 ct8), sl8⟩) (c8 : PySem.W.codeIn K cd8 "_law_take" = true) (k8 : PySem.W.keepIn K (.ref f8) = true)
    (a9 : PySem.W.nsIn K mainGlobals "_law_called" = some (some (.ref f9))) (l9 : K.lookup f9 = some ⟨oc9, od9, .func (PySem.W.fnOf "_law_called" "_law_called" (fnArgs sLCalled) (fnBody sLCalled) (fnScope sLCalled) .none kV9 dc9 pm9 an9 cd9 ct9), sl9⟩) (c9 : PySem.W.codeIn K cd9 "_law_called" = true) (k9 : PySem.W.keepIn K (.ref f9) = true)
    (a10 : PySem.W.nsIn K mainGlobals "_law_kind" = some (some (.ref f10))) (l10 : K.lookup f10 = some ⟨oc10, od10, .func (PySem.W.fnOf "_law_kind" "_law_kind" (fnArgs sLKind) (fnBody sLKind) (fnScope sLKind) .none kV10 dc10 pm10 an10 cd10 ct10), sl10⟩) (c10 : PySem.W.codeIn K cd10 "_law_kind" = true) (k10 : PySem.W.keepIn K (.ref f10) = true)
    (a11 : PySem.W.nsIn K mainGlobals "_law_term" = some (some (.ref f11))) (l11 : K.lookup f11 = some ⟨oc11, od11, .func (PySem.W.fnOf "_law_term" "_law_term" (fnArgs sLTerm) (fnBody sLTerm) (fnScope sLTerm) .none kV11 dc11 pm11 an11 cd11 ct11), sl11⟩) (c11 : PySem.W.codeIn K cd11 "_law_term" = true) (k11 : PySem.W.keepIn K (.ref f11) = true)
    (a12 : PySem.W.nsIn K mainGlobals "_law_inner" = some (some (.ref f12))) (l12 : K.lookup f12 = some ⟨oc12, od12, .func (PySem.W.fnOf "_law_inner" "_law_inner" (fnArgs sLInner) (fnBody sLInner) (fnScope sLInner) .none kV12 dc12 pm12 an12 cd12 ct12), sl12⟩) (c12 : PySem.W.codeIn K cd12 "_law_inner" = true) (k12 : PySem.W.keepIn K (.ref f12) = true)
    (a13 : PySem.W.nsIn K mainGlobals "_law_leaf" = some (some (.ref f13))) (l13 : K.lookup f13 = some ⟨oc13, od13, .func (PySem.W.fnOf "_law_leaf" "_law_leaf" (fnArgs sLLeaf) (fnBody sLLeaf) (fnScope sLLeaf) .none kV13 dc13 pm13 an13 cd13 ct13), sl13⟩) (c13 : PySem.W.codeIn K cd13 "_law_leaf" = true) (k13 : PySem.W.keepIn K (.ref f13) = true)
    (a14 : PySem.W.nsIn K mainGlobals "_law_names" = some (some (.ref f14))) (l14 : K.lookup f14 = some ⟨oc14, od14, .func (PySem.W.fnOf "_law_names" "_law_names" (fnArgs sLNames) (fnBody sLNames) (fnScope sLNames) .none kV14 dc14 pm14 an14 cd14 ct14), sl14⟩) (c14 : PySem.W.codeIn K cd14 "_law_names" = true) (k14 : PySem.W.keepIn K (.ref f14) = true)
    (a15 : PySem.W.nsIn K mainGlobals "_law_put" = some (some (.ref f15))) (l15 : K.lookup f15 = some ⟨oc15, od15, .func (PySem.W.fnOf "_law_put" "_law_put" (fnArgs sLPut) (fnBody sLPut) (fnScope sLPut) .none kV15 dc15 pm15 an15 cd15 ct15), sl15⟩) (c15 : PySem.W.codeIn K cd15 "_law_put" = true) (k15 : PySem.W.keepIn K (.ref f15) = true)
    (a16 : PySem.W.nsIn K mainGlobals "_law_exchanged" = some (some (.ref f16))) (l16 : K.lookup f16 = some ⟨oc16, od16, .func (PySem.W.fnOf "_law_exchanged" "_law_exchanged" (fnArgs sLExchanged) (fnBody sLExchanged) (fnScope sLExchanged) .none kV16 dc16 pm16 an16 cd16 ct16), sl16⟩) (c16 : PySem.W.codeIn K cd16 "_law_exchanged" = true) (k16 : PySem.W.keepIn K (.ref f16) = true)
    (a17 : PySem.W.nsIn K mainGlobals "law" = some (some (.ref f17))) (l17 : K.lookup f17 = some ⟨oc17, od17, .func (PySem.W.fnOf "law" "law" (fnArgs sLaw) (fnBody sLaw) (fnScope sLaw) .none kV17 dc17 pm17 an17 cd17 ct17), sl17⟩) (c17 : PySem.W.codeIn K cd17 "law" = true) (k17 : PySem.W.keepIn K (.ref f17) = true)
    (z_isinstance : PySem.W.nsIn K mainGlobals "isinstance" = some none)
    (z_str : PySem.W.nsIn K mainGlobals "str" = some none)
    (z_tuple : PySem.W.nsIn K mainGlobals "tuple" = some none)
    (z_list : PySem.W.nsIn K mainGlobals "list" = some none)
    (z_bool : PySem.W.nsIn K mainGlobals "bool" = some none)
    (z_len : PySem.W.nsIn K mainGlobals "len" = some none)
    (z_range : PySem.W.nsIn K mainGlobals "range" = some none)
    (z_max : PySem.W.nsIn K mainGlobals "max" = some none)
    (z_min : PySem.W.nsIn K mainGlobals "min" = some none)
    (z_repr : PySem.W.nsIn K mainGlobals "repr" = some none)
    (z_int : PySem.W.nsIn K mainGlobals "int" = some none)
    (g_LEAVES : PySem.W.nsIn K mainGlobals "LEAVES" = some (some (.ref p_LEAVES))) (l_LEAVES : K.lookup p_LEAVES = some ⟨.type "tuple", od_LEAVES, .seq oi_LEAVES on_LEAVES, os_LEAVES⟩) (v_LEAVES : Vals ([.str "number", .str "truth", .str "name", .str "box", .str "empty"] : List V) oi_LEAVES.toList) (h_LEAVES : oi_LEAVES.size ≤ sizeLine)
    : ∃ (fd : FuncData) (c Pt : Addr), h.get? Pt = some { cls := .none, data := .fields #[] } ∧ K.lookup Pt = none ∧ PySem.W.CodeHd h c Pt ∧ (∀ (s : Shared) (u : Value), BindsTo s fd ⟨[u], []⟩ [("_law_script", u)]) ∧
        (∀ (H : Hp) (a : Addr) (ns : List Int), ns.length ≤ 63 → H Pt = some (.tbl #[]) → SqL K H a (ns.map V.int) → spLaw K Pt [.ref a] H (fun v _ => v = .bl true) fun _ _ _ => False) ∧
        ∀ base : Heap, K.In base → base.Ns mainGlobals mg → TabB base mg c Pt → FnG l.prog w K mg base C8.CX0 23 fa fd ["_law_script"] (spLaw K Pt) := by
  have e := hfa.symm.trans (PySem.W.mg_of X G a17)
  cases e
  have D_parts_of := def_mk (st := sPPartsOf) X G a1 l1 c1 k1
  have D_folded := def_mk (st := sPFolded) X G a2 l2 c2 k2
  have D_with_names := def_mk (st := sPWithNames) X G a3 l3 c3 k3
  have D__exchanged := def_mk (st := sPExchanged) X G a4 l4 c4 k4
  have D_with_parts := def_mk (st := sPWithParts) X G a5 l5 c5 k5
  have D__law_cell_at := def_mk (st := sLCellAt) X G a6 l6 c6 k6
  have D__law_pot := def_mk (st := sLPot) X G a7 l7 c7 k7
  have D__law_take := def_mk (st := sLTake) X G a8 l8 c8 k8
  have D__law_called := def_mk (st := sLCalled) X G a9 l9 c9 k9
  have D__law_kind := def_mk (st := sLKind) X G a10 l10 c10 k10
  have D__law_term := def_mk (st := sLTerm) X G a11 l11 c11 k11
  have D__law_inner := def_mk (st := sLInner) X G a12 l12 c12 k12
  have D__law_leaf := def_mk (st := sLLeaf) X G a13 l13 c13 k13
  have D__law_names := def_mk (st := sLNames) X G a14 l14 c14 k14
  have D__law_put := def_mk (st := sLPut) X G a15 l15 c15 k15
  have D__law_exchanged := def_mk (st := sLExchanged) X G a16 l16 c16 k16
  have D_law := def_mk (st := sLaw) X G a17 l17 c17 k17
  have b_parts_of := D_parts_of.fn.binds rfl (ps := ["term"]) fun _ _ _ _ _ _ us hl => match us, hl with | [_], _ => rfl
  have b_folded := D_folded.fn.binds rfl (ps := ["term", "told"]) fun _ _ _ _ _ _ us hl => match us, hl with | [_, _], _ => rfl
  have b_with_names := D_with_names.fn.binds rfl (ps := ["term", "terms"]) fun _ _ _ _ _ _ us hl => match us, hl with | [_, _], _ => rfl
  have b__exchanged := D__exchanged.fn.binds rfl (ps := ["leaf", "terms"]) fun _ _ _ _ _ _ us hl => match us, hl with | [_, _], _ => rfl
  have b_with_parts := D_with_parts.fn.binds rfl (ps := ["term", "parts"]) fun _ _ _ _ _ _ us hl => match us, hl with | [_, _], _ => rfl
  have b__law_cell_at := D__law_cell_at.fn.binds rfl (ps := ["_law_script", "_law_k"]) fun _ _ _ _ _ _ us hl => match us, hl with | [_, _], _ => rfl
  have b__law_pot := D__law_pot.fn.binds rfl (ps := ["_law_cell", "_law_k"]) fun _ _ _ _ _ _ us hl => match us, hl with | [_, _], _ => rfl
  have b__law_take := D__law_take.fn.binds rfl (ps := ["_law_pot_here", "_law_many"]) fun _ _ _ _ _ _ us hl => match us, hl with | [_, _], _ => rfl
  have b__law_called := D__law_called.fn.binds rfl (ps := ["_law_pot_here"]) fun _ _ _ _ _ _ us hl => match us, hl with | [_], _ => rfl
  have b__law_kind := D__law_kind.fn.binds rfl (ps := ["_law_pot_here", "_law_deep"]) fun _ _ _ _ _ _ us hl => match us, hl with | [_, _], _ => rfl
  have b__law_term := D__law_term.fn.binds rfl (ps := ["_law_pot_here", "_law_deep"]) fun _ _ _ _ _ _ us hl => match us, hl with | [_, _], _ => rfl
  have b__law_inner := D__law_inner.fn.binds rfl (ps := ["_law_pot_here", "_law_deep"]) fun _ _ _ _ _ _ us hl => match us, hl with | [_, _], _ => rfl
  have b__law_leaf := D__law_leaf.fn.binds rfl (ps := ["_law_pot_here"]) fun _ _ _ _ _ _ us hl => match us, hl with | [_], _ => rfl
  have b__law_names := D__law_names.fn.binds rfl (ps := ["_law_term_here"]) fun _ _ _ _ _ _ us hl => match us, hl with | [_], _ => rfl
  have b__law_put := D__law_put.fn.binds rfl (ps := ["_law_term_here", "_law_exchanged_here"]) fun _ _ _ _ _ _ us hl => match us, hl with | [_, _], _ => rfl
  have b__law_exchanged := D__law_exchanged.fn.binds rfl (ps := ["_law_pot_here", "_law_term_here"]) fun _ _ _ _ _ _ us hl => match us, hl with | [_, _], _ => rfl
  have T : Tp mg := ⟨PySem.W.mg_none_of X G z_isinstance, PySem.W.mg_none_of X G z_str, PySem.W.mg_none_of X G z_tuple, PySem.W.mg_none_of X G z_list, PySem.W.mg_none_of X G z_bool, PySem.W.mg_none_of X G z_len, PySem.W.mg_none_of X G z_range, PySem.W.mg_none_of X G z_max, PySem.W.mg_none_of X G z_min, PySem.W.mg_none_of X G z_repr, PySem.W.mg_none_of X G z_int⟩
  have q_LEAVES : ∃ u, mg "LEAVES" = some u ∧ RelV (.ref p_LEAVES) u := ⟨_, PySem.W.mg_of X G g_LEAVES, rfl⟩
  have s_LEAVES : ∀ H, SqT K H p_LEAVES [.str "number", .str "truth", .str "name", .str "box", .str "empty"] := sqT_K l_LEAVES h_LEAVES v_LEAVES
  have hP : h.get? Pt = some { cls := .none, data := .fields #[] } := by
    obtain ⟨f', c', P', o', oc', fd', vc', h1, h2, h3, h4, h5, h6, h7, h8⟩ := own
    rw [D_with_names.mgf] at h1
    cases h1
    rw [X _ _ l3] at h2
    cases h2
    cases h3
    cases h4
    rw [X _ _ lcw] at h5
    cases h5
    cases h6
    rw [v11] at h7
    cases h7
    exact h8
  refine ⟨PySem.W.fnOf "law" "law" (fnArgs sLaw) (fnBody sLaw) (fnScope sLaw) .none kV17 dc17 pm17 an17 cd17 ct17, cw, Pt, hP, nPt, PySem.W.codeHd_of_K X hcw, fun s v => .of_eq rfl, fun H a ns hl hT hS => ⟨a, ns, rfl, hS, hl, (fun p hp => by rw [List.mem_singleton.mp hp]; exact TabS.nil hT), fun _ => rfl⟩, fun base _ _ TB => ?_⟩
  have TV : Lv K mg p_LEAVES := ⟨q_LEAVES, s_LEAVES⟩
  have cTake := c_take (P := l.prog) (w := w) (base := base) D__law_take b__law_take
  have cCalled := c_called T cTake D__law_called b__law_called
  have cKind := c_kind T cTake cCalled D__law_kind b__law_kind 3
  have cLeaf := c_leaf T cTake cCalled cKind D__law_leaf b__law_leaf
  have cTerm := c_term T cTake cCalled cLeaf D__law_term b__law_term D__law_inner b__law_inner 7
  have cNames := c_lnames (P := l.prog) (w := w) (base := base) T D__law_names b__law_names 10
  have cPut := c_lput (P := l.prog) (w := w) (base := base) T D__law_put b__law_put 10
  have cExch := c_lexch T cTake cCalled cNames cTerm D__law_exchanged b__law_exchanged
  have pParts := c_partsOf (P := l.prog) (w := w) (base := base) T TV D_parts_of b_parts_of
  have pFold := c_folded T pParts D_folded b_folded
  have pWP := c_withParts (P := l.prog) (w := w) (base := base) D_with_parts b_with_parts
  have pEx := c_exchanged (P := l.prog) (w := w) (base := base) D__exchanged b__exchanged
  have pWN := c_withNames pFold pWP pEx l3 c3 D_with_names.mgf k3 b_with_names TB
  exact f_law T (c_cellAt T D__law_cell_at b__law_cell_at) (c_pot D__law_pot b__law_pot) cTerm cExch pWN cPut D_law
end K18
open PySem PySem.W PyProof.Rows
set_option maxHeartbeats 0 in
theorem PySem.Challenge.cw_changewhile_k18_names_exchanged_holds : PySem.Challenge.rw_changewhile_k18_names_exchanged.Holds := by
  w_on; o_law; k_head; (case hw => w_witness2)
  k_fill
  refine LamC.walkT1 (y := "with_names") (l := PySem.Challenge.rw_changewhile_k18_names_exchanged) (n := 63) (k := 23) (x := "_law_script") (sp := K18.spLaw) (by rfl) rfl (by decide) rfl ⟨rfl, by decide, by decide⟩ (fun w h Y => PySem.W.km_in_of Y) ?F
  case F =>
    intro w mg fa h Y KX G hmg own
    refine' K18.all_mk KX G hmg ?a1 ?l1 ?c1 ?k1 ?a2 ?l2 ?c2 ?k2 ?a3 ?l3 ?c3 ?lcw ?v11 ?hcw ?nPt own ?k3 ?a4 ?l4 ?c4 ?k4 ?a5 ?l5 ?c5 ?k5 ?a6 ?l6 ?c6 ?k6 ?a7 ?l7 ?c7 ?k7 ?a8 ?l8 ?c8 ?k8 ?a9 ?l9 ?c9 ?k9 ?a10 ?l10 ?c10 ?k10 ?a11 ?l11 ?c11 ?k11 ?a12 ?l12 ?c12 ?k12 ?a13 ?l13 ?c13 ?k13 ?a14 ?l14 ?c14 ?k14 ?a15 ?l15 ?c15 ?k15 ?a16 ?l16 ?c16 ?k16 ?a17 ?l17 ?c17 ?k17 ?z_isinstance ?z_str ?z_tuple ?z_list ?z_bool ?z_len ?z_range ?z_max ?z_min ?z_repr ?z_int ?g_LEAVES ?l_LEAVES ?v_LEAVES ?h_LEAVES
    (case a1 => k_is); (case l1 => k_is); (case c1 => k_is); (case k1 => k_is); (case a2 => k_is); (case l2 => k_is); (case c2 => k_is); (case k2 => k_is); (case a3 => k_is); (case l3 => k_is); (case c3 => k_is); (case lcw => k_is); (case v11 => exact rfl); (case hcw => rfl); (case nPt => rfl); (case k3 => k_is); (case a4 => k_is); (case l4 => k_is); (case c4 => k_is); (case k4 => k_is); (case a5 => k_is); (case l5 => k_is); (case c5 => k_is); (case k5 => k_is); (case a6 => k_is); (case l6 => k_is); (case c6 => k_is); (case k6 => k_is); (case a7 => k_is); (case l7 => k_is); (case c7 => k_is); (case k7 => k_is); (case a8 => k_is); (case l8 => k_is); (case c8 => k_is); (case k8 => k_is); (case a9 => k_is); (case l9 => k_is); (case c9 => k_is); (case k9 => k_is); (case a10 => k_is); (case l10 => k_is); (case c10 => k_is); (case k10 => k_is); (case a11 => k_is); (case l11 => k_is); (case c11 => k_is); (case k11 => k_is); (case a12 => k_is); (case l12 => k_is); (case c12 => k_is); (case k12 => k_is); (case a13 => k_is); (case l13 => k_is); (case c13 => k_is); (case k13 => k_is); (case a14 => k_is); (case l14 => k_is); (case c14 => k_is); (case k14 => k_is); (case a15 => k_is); (case l15 => k_is); (case c15 => k_is); (case k15 => k_is); (case a16 => k_is); (case l16 => k_is); (case c16 => k_is); (case k16 => k_is); (case a17 => k_is); (case l17 => k_is); (case c17 => k_is); (case k17 => k_is); (case z_isinstance => k_is); (case z_str => k_is); (case z_tuple => k_is); (case z_list => k_is); (case z_bool => k_is); (case z_len => k_is); (case z_range => k_is); (case z_max => k_is); (case z_min => k_is); (case z_repr => k_is); (case z_int => k_is); (case g_LEAVES => k_is); (case l_LEAVES => k_is)
    (case v_LEAVES => exact .cons ⟨_, rfl⟩ (.cons ⟨_, rfl⟩ (.cons ⟨_, rfl⟩ (.cons ⟨_, rfl⟩ (.cons ⟨_, rfl⟩ (.nil))))))
    (case h_LEAVES => rw [sizeLine_eq]; decide)
