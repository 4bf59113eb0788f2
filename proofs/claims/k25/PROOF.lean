import PyProof.Rows.All
import Wide.All
import OpenK.AllK
import Wide.FinOn
import HandS.ForMost
import HandS.Codes
import HandS.Wide
import HandS.Deep
import HandS.IsInst
import HandS.TupAny
import HandS.StrMore
import HandS.Style
import HandS.ExcOwn
import HandS.Set
import HandS.SetTxt0
import HandS.SetFor
import HandS.Strs
import HandS.TupSets
import HandS.DeepEq
import HandS.DictComp
import HandS.Iter
import HandS.Walk
import KE.GoesEnum
import KE.GoesMore
import HandS.Dict
import HandS.Star
import HandS.Finally
import PySem.Challenge.RW_changewhile_k25_parts_told_apart
import HandS.More
import HandS.Zip
import PyProof.EqAt
import PyProof.EqKinds
import PyProof.SetRoads
import KE.KRevSl
import HandS.TupMul
set_option Elab.async false
set_option linter.all false
set_option maxRecDepth 100000
set_option maxHeartbeats 4000000
namespace L2
open PySem PySem.Spec PyProof.Rows
open C8 (Cal Def cal0 pe_c fnBody fnScope fnArgs)

/-! ### heaps: all but one list stays -/
def But (p : Addr) (H H' : Hp) : Prop := ∀ b o, b ≠ p → H b = some o → H' b = some o
theorem But.refl (p : Addr) (H : Hp) : But p H H := fun _ _ _ h => h
theorem But.trans {p : Addr} {H H1 H2 : Hp} (a : But p H H1) (b : But p H1 H2) : But p H H2 := fun c o n h => b c o n (a c o n h)
theorem But.same {p : Addr} {H H1 : Hp} (a : Same H H1) : But p H H1 := fun b o _ h => a b o h
theorem Same.new {q : Addr} {H : Hp} {o : HO} (h : H q = none) : Same H (upd H q o) := fun b u e => by
  rw [upd_ne (ne_of_none e h)]
  exact e
theorem But.new {p q : Addr} {H : Hp} {o : HO} (h : H q = none) : But p H (upd H q o) := But.same (Same.new h)
theorem But.pot {p : Addr} {H H' : Hp} {o : HO} (e : But p H H') : But p H (upd H' p o) := fun b u n h => by
  rw [upd_ne n]
  exact e b u n h
def hid (p : Addr) (H : Hp) : Hp := fun b => if b = p then none else H b
theorem hid_ne {p b : Addr} {H : Hp} (h : b ≠ p) : hid p H b = H b := if_neg h
theorem hid_some {p b : Addr} {H : Hp} {o : HO} (h : hid p H b = some o) : b ≠ p ∧ H b = some o := by
  unfold hid at h
  by_cases e : b = p
  · rw [if_pos e] at h; cases h
  · rw [if_neg e] at h; exact ⟨e, h⟩
theorem hid_but {p : Addr} {H H' : Hp} (e : But p H H') : Same (hid p H) (hid p H') := fun b o h => by
  obtain ⟨n, h⟩ := hid_some h
  rw [hid_ne n]
  exact e b o n h
theorem hid_in {p : Addr} {H : Hp} : Same (hid p H) H := fun b o h => (hid_some h).2

/-! ### data -/
section
variable {K : PySem.W.Frag}
theorem sqT_mono {H H' : Hp} {a : Addr} {xs : List V} (e : Same H H') (h : SqT K H a xs) : SqT K H' a xs := by
  rcases h with (h | ⟨o, h⟩) | h
  · exact .inl (.inl (e _ _ h))
  · exact .inl (.inr ⟨o, e _ _ h⟩)
  · exact .inr h
mutual
theorem Dp.mono {H H' : Hp} (e : Same H H') : ∀ {v : V} {d : PyData}, Dp K H v d → Dp K H' v d
  | _, _, .non => .non
  | _, _, .bl b => .bl b
  | _, _, .int i => .int i
  | _, _, .str x => .str x
  | _, _, .lst h a => .lst (e.seq h) (DpAll.mono e a)
  | _, _, .tup h a => .tup (sqT_mono e h) (DpAll.mono e a)
theorem DpAll.mono {H H' : Hp} (e : Same H H') : ∀ {vs : List V} {ds : List PyData}, DpAll K H vs ds → DpAll K H' vs ds
  | _, _, .nil => .nil
  | _, _, .cons h t => .cons (Dp.mono e h) (DpAll.mono e t)
end
theorem DpAll.len {H : Hp} : ∀ {vs : List V} {ds : List PyData}, DpAll K H vs ds → vs.length = ds.length
  | _, _, .nil => rfl
  | _, _, .cons _ t => congrArg (· + 1) (DpAll.len t)
theorem DpAll.app {H : Hp} : ∀ {vs ws : List V} {ds es : List PyData}, DpAll K H vs ds → DpAll K H ws es → DpAll K H (vs ++ ws) (ds ++ es)
  | _, _, _, _, .nil, t => t
  | _, _, _, _, .cons h s, t => .cons h (DpAll.app s t)
theorem DpAll.get {H : Hp} : ∀ {vs : List V} {ds : List PyData} {i : Nat} {d : PyData}, DpAll K H vs ds → ds[i]? = some d → ∃ v, vs[i]? = some v ∧ Dp K H v d
  | _, _, _, _, .nil, h => by simp at h
  | _, _, 0, _, .cons h _, e => by
    simp at e
    subst e
    exact ⟨_, rfl, h⟩
  | _, _, i + 1, _, .cons _ t, e => by
    obtain ⟨v, h1, h2⟩ := DpAll.get t (i := i) (by simpa using e)
    exact ⟨v, by simpa using h1, h2⟩
/-- data that does not come by the pot -/
abbrev Dh (K : PySem.W.Frag) (p : Addr) (H : Hp) (v : V) (d : PyData) : Prop := Dp K (hid p H) v d
abbrev DhAll (K : PySem.W.Frag) (p : Addr) (H : Hp) (vs : List V) (ds : List PyData) : Prop := DpAll K (hid p H) vs ds
theorem Dp.un {p : Addr} {H : Hp} {v : V} {d : PyData} (h : Dh K p H v d) : Dp K H v d := Dp.mono hid_in h
theorem Dp.but {p : Addr} {H H' : Hp} {v : V} {d : PyData} (e : But p H H') (h : Dh K p H v d) : Dh K p H' v d := Dp.mono (hid_but e) h
theorem DpAll.but {p : Addr} {H H' : Hp} {vs : List V} {ds : List PyData} (e : But p H H') (h : DhAll K p H vs ds) : DhAll K p H' vs ds := DpAll.mono (hid_but e) h
/-- a new tuple, a new list -/
theorem Dp.newT {p q : Addr} {H : Hp} {xs : List V} {ds : List PyData} (hq : H q = none) (n : q ≠ p) (h : DhAll K p H xs ds) : Dh K p (upd H q (.tup xs)) (.ref q) (.tuple ds) :=
  .tup (.inl (.inl (by rw [hid_ne n, upd_same]))) (DpAll.but (But.new hq) h)
theorem Dp.newL {p q : Addr} {H : Hp} {xs : List V} {ds : List PyData} (hq : H q = none) (n : q ≠ p) (h : DhAll K p H xs ds) : Dh K p (upd H q (.lst xs)) (.ref q) (.list ds) :=
  .lst (.inl (.inl (by rw [hid_ne n, upd_same]))) (DpAll.but (But.new hq) h)
theorem Dp.newT0 {q : Addr} {H : Hp} {xs : List V} {ds : List PyData} (hq : H q = none) (h : DpAll K H xs ds) : Dp K (upd H q (.tup xs)) (.ref q) (.tuple ds) :=
  .tup (.inl (.inl upd_same)) (DpAll.mono (Same.new hq) h)
theorem Dp.newL0 {q : Addr} {H : Hp} {xs : List V} {ds : List PyData} (hq : H q = none) (h : DpAll K H xs ds) : Dp K (upd H q (.lst xs)) (.ref q) (.list ds) :=
  .lst (.inl (.inl upd_same)) (DpAll.mono (Same.new hq) h)

/-! ### isinstance of data -/
def tyN : PyData → String
  | .none => "NoneType" | .bool _ => "bool" | .int _ => "int" | .str _ => "str" | .list _ => "list" | .tuple _ => "tuple" | .dict _ => "dict"
theorem Dp.ty {H : Hp} {v : V} {d : PyData} (h : Dp K H v d) : TyX K H v (.type (tyN d)) := by
  cases h with
  | non => exact .base .non
  | bl b => exact .base (.bl b)
  | int i => exact .base (.int i)
  | str x => exact .base (.str x)
  | lst hs _ =>
    rcases hs with (h | ⟨o, h⟩) | ⟨o, its, n, h, hc, _⟩
    · exact .base (.lst h)
    · exact .base (.frz h)
    · exact .kList h hc
  | tup hs _ =>
    rcases hs with (h | ⟨o, h⟩) | ⟨o, its, n, h, hc, _⟩
    · exact .base (.tup h)
    · exact .fTuple h
    · exact .kTuple h hc
def isS : PyData → Bool | .str _ => true | _ => false
def isT : PyData → Bool | .tuple _ => true | _ => false
def isL : PyData → Bool | .list _ => true | _ => false
def isB : PyData → Bool | .bool _ => true | _ => false
def isI : PyData → Bool | .bool _ => true | .int _ => true | _ => false
def isOf : String → PyData → Bool
  | "str", d => isS d
  | "tuple", d => isT d
  | "list", d => isL d
  | "bool", d => isB d
  | "int", d => isI d
  | _, _ => false
def tabN (a T : String) : Bool := a == T || (a == "bool" && T == "int")
theorem kitN : (["NoneType", "bool", "int", "str", "list", "tuple"].all fun a => ["str", "tuple", "list", "bool", "int"].all fun T => kitB a T == some (tabN a T)) = true := by decide +kernel
theorem kit_all {a T : String} (ha : a ∈ ["NoneType", "bool", "int", "str", "list", "tuple"]) (hT : T ∈ ["str", "tuple", "list", "bool", "int"]) : kitB a T = some (tabN a T) := by
  have h := List.all_eq_true.mp (List.all_eq_true.mp kitN a ha) T hT
  exact eq_of_beq h
theorem Dp.nodict {H : Hp} {v : V} {d : PyData} (h : Dp K H v d) : tyN d ≠ "dict" := by cases h <;> (intro e; exact absurd e (by simp [tyN]))
theorem isOf_tab {T : String} (hT : T ∈ ["str", "tuple", "list", "bool", "int"]) (d : PyData) : isOf T d = tabN (tyN d) T := by
  simp only [List.mem_cons, List.not_mem_nil, or_false] at hT
  rcases hT with rfl | rfl | rfl | rfl | rfl <;> cases d <;> first | rfl | decide
theorem isOf_kit {H : Hp} {v : V} {d : PyData} {T : String} (h : Dp K H v d) (hT : T ∈ ["str", "tuple", "list", "bool", "int"]) : kitB (tyN d) T = some (isOf T d) := by
  have n := h.nodict
  rw [isOf_tab hT]
  refine kit_all ?_ hT
  cases d <;> first | exact absurd rfl n | simp [tyN]
end
def rIsD (K : PySem.W.Frag) : List V → Hp → VK → Prop := fun xs H Q => ∃ (v : V) (d : PyData) (T : String), xs = [v, .ty T] ∧ Dp K H v d ∧ T ∈ ["str", "tuple", "list", "bool", "int"] ∧ Q (.bl (isOf T d)) H
section
variable {X : Cx}
theorem call_isD : CallR X (.builtin "isinstance") (rIsD X.K) := by
  intro pins s σ H xs us Q I r h
  obtain ⟨v, d, T, rfl, hd, hT, q⟩ := h
  exact call_isi pins s σ H _ us Q I r ⟨v, .ty T, .type (tyN d), .type T, isOf T d, rfl, .ty T, hd.ty, kit_ty (isOf_kit hd hT), q⟩
/-! ### repr of data -/
def shownB (d : PyData) : Prop := d.showable = true ∧ SeqAt.shaped d = true ∧ d.shown.length ≤ sizeLine
def rReprD (K : PySem.W.Frag) : List V → Hp → VK → Prop := fun xs H Q => ∃ (v : V) (d : PyData), xs = [v] ∧ Dp K H v d ∧ shownB d ∧ Q (.str d.shown) H
theorem call_reprD (hg : X.A.guards = some []) (hu : X.A.units + 70 < cLine) : CallR X (.builtin "repr") (rReprD X.K) := by
  intro pins s σ H xs us Q I r h
  obtain ⟨v, d, rfl, hd, ⟨hs, hsh, hl⟩, q⟩ := h
  obtain ⟨u, rfl, ru⟩ := vals1 r
  have hdep := SeqAt.depth_of_shaped hsh
  have hnd : d.hasDict = false := PyData.hasDict_of_canLay d (SeqAt.canLay_of_shaped hsh)
  obtain ⟨as, rd⟩ := Dp.reads I d v u hd ru
  have big : ∀ a, u = Value.ref a → wpAny (model X.prog X.w) X.A (call (.builtin "repr") [u]) (EP X pins σ Q) X.xe s := fun a e => by
    subst e
    exact repr_of_reads' rd hs (PyData.noDict_hsm hnd) hg (by omega) (fun _ _ e => e) (fun h' t tk k => ⟨.str d.shown, H, I.kept k, ⟨_, rfl⟩, q⟩) hl
  cases hd with
  | non =>
    cases ru
    exact PySem.P.repr_of_none ⟨.str _, H, I.tok _, ⟨_, rfl⟩, by simpa only [PyData.shown] using q⟩
  | bl b =>
    cases ru
    exact PySem.P.repr_of_bool ⟨.str _, H, I.tok _, ⟨_, rfl⟩, by simpa only [PyData.shown] using q⟩
  | int i =>
    obtain ⟨t, rfl⟩ := ru
    exact PySem.P.repr_of_int (by simpa [PyData.showable] using hs) ⟨.str _, H, I.tok _, ⟨_, rfl⟩, by simpa only [PyData.shown] using q⟩
  | str x =>
    obtain ⟨t, rfl⟩ := ru
    exact PySem.P.repr_of_str ⟨.str _, H, I.tok _, ⟨_, rfl⟩, by simpa only [PyData.shown] using q⟩ (by simpa only [PyData.shown] using hl)
  | lst _ _ => exact big _ ru
  | tup _ _ => exact big _ ru
end
/-! ### a comprehension over a text -/
theorem lc_str {z : Str} {g : TG} {tt : TT} {te : TE} {vs : List Nat} {σ : L2.St} {H1 : Hp} {D : Addr} {Qd : Hp → Prop} (Pv : Nat → Hp → Prop) (h0 : Pv 0 (upd H1 D (.lst [])))
    (hs : ∀ i c H, z.cps.toList[i]? = some c → Pv i H → g (.str ⟨#[c]⟩) (wipe σ vs) H fun σ2 H2 => wipe σ2 vs = wipe σ vs ∧ tt σ2 H2 fun b H3 =>
      if b = true then te σ2 H3 fun y H4 => ∃ acc, H4 D = some (.lst acc) ∧ acc.length < sizeLine ∧ Pv (i + 1) (upd H4 D (.lst (acc ++ [y]))) else Pv (i + 1) H3) (hd : ∀ H, Pv z.cps.toList.length H → Qd H) :
    ∃ W : Nat → Nat → Hp → Prop, (∃ m, W 0 m (upd H1 D (.lst []))) ∧ ∀ i m H, W i m H →
      ((Its z).stop i H ∧ Qd H) ∨ ((Its z).go i H ∧ ∃ Nx : Hp → Prop, (∀ H', Nx H' → ∃ m', m' < m ∧ W (i + 1) m' H') ∧ ∀ x H', (Its z).yld i H x H' → g x (wipe σ vs) H' fun σ2 H2 => wipe σ2 vs = wipe σ vs ∧ tt σ2 H2 fun b H3 =>
        if b = true then te σ2 H3 fun y H4 => ∃ acc, H4 D = some (.lst acc) ∧ acc.length < sizeLine ∧ Nx (upd H4 D (.lst (acc ++ [y]))) else Nx H3) := by
  have hz : z.cps.toList.length = z.cps.size := Array.length_toList
  refine ⟨fun i m H => m = z.cps.size - i ∧ i ≤ z.cps.size ∧ Pv i H, ⟨z.cps.size, by simp, Nat.zero_le _, h0⟩, ?_⟩
  rintro i m H ⟨rfl, hi, p⟩
  by_cases hlt : i < z.cps.size
  · refine .inr ⟨hlt, Pv (i + 1), fun H' p' => ⟨z.cps.size - (i + 1), by omega, rfl, hlt, p'⟩, fun x H' y => ?_⟩
    obtain ⟨e, c, hc, rfl⟩ := y
    subst e
    exact hs i c _ (by rw [Array.getElem?_toList]; exact hc) p
  · have e : i = z.cps.size := by omega
    subst e
    exact .inl ⟨Nat.le_refl _, hd H (by rw [hz]; exact p)⟩

/-! ### the pot: two numbers -/
structure Pot (H : Hp) (p : Addr) (x y : Int) : Prop where
  at_ : H p = some (.lst [.int x, .int y])
  x0 : 0 ≤ x
  y0 : 0 ≤ y
  y1 : y < 1099511627776
theorem Pot.ne {H : Hp} {p q : Addr} {x y : Int} (h : Pot H p x y) (hq : H q = none) : q ≠ p := fun e => by
  subst e
  rw [h.at_] at hq
  cases hq
theorem Pot.same {H H' : Hp} {p : Addr} {x y : Int} (h : Pot H p x y) (e : Same H H') : Pot H' p x y := ⟨e _ _ h.at_, h.x0, h.y0, h.y1⟩
theorem Pot.new {H : Hp} {p q : Addr} {x y : Int} {o : HO} (h : Pot H p x y) (hq : H q = none) : Pot (upd H q o) p x y := h.same (Same.new hq)
theorem hin_of {A : Around} {k : Nat} (hr : Room k A) : A.units + 65 < cLine := by have := hr.un; omega
theorem hrep_of {A : Around} {k : Nat} (hr : Room k A) : A.units + 70 < cLine := by have := hr.un; omega
end L2
set_option Elab.async false
set_option linter.all false
set_option maxRecDepth 100000
set_option maxHeartbeats 4000000
/-! set(a list), step by step by a predicate J i on heaps; sets of texts, of ints; sorted of them. -/
namespace L2
open PySem PySem.Spec PyProof.Rows
abbrev freshSet (w : World) : Obj := { cls := .type "set", dict := none, data := .set #[] 0 (.fresh 0 0 (!w.params.followText "set-order")) }
/-- what a set has got from the first i things -/
structure SetStep (P : Program) (w : World) (S : Addr) (J : Nat → Heap → Prop) (Pv : Nat → Value → Prop) : Prop where
  frame : ∀ i h h', J i h → (∀ o, h.get? S = some o → h'.get? S = some o) → J i h'
  step : ∀ (A : Around) (E : Value → Shared → Prop) i v (s : Shared) (Q : Bool → Shared → Prop), Pv i v → J i s.heap → (∀ b h' tk, Heap.SameBut S s.heap h' → s.toks ≤ tk → J (i + 1) h' → Q b { s with heap := h', toks := tk }) → wpAny (model P w) A (setAdd S v) Q E s
section
variable {P : Program} {w : World} {A : Around} {E : Value → Shared → Prop} {s : Shared}
theorem set_upd {I : Addr} {fp wr : List Addr} {G : Array GenState → Array GenState → Prop} {n : Nat} {Pv : Nat → Value → Prop} {St : Nat → Shared → Prop} {R : Result → Shared → Prop}
    (W : WalksS P w A.in1 I fp wr G n Pv St) {S : Addr} (hSf : S ∉ fp) {J : Nat → Heap → Prop} (T : SetStep P w S J Pv) :
    ∀ (k i : Nat) (s : Shared), n - i = k → i ≤ n → St i s → J i s.heap → (∀ s', Moved (S :: wr) G s s' → J n s'.heap → R (.ok (.ret .none)) s') →
      codeAny (model P w) A (.builtin "set.update.loop" ⟨[.ref S, .ref I], []⟩) R s := by
  have hSw : S ∉ wr := fun h => hSf (W.sub _ h)
  have up : ∀ b ∈ wr, b ∈ S :: wr := fun b hb => List.mem_cons_of_mem _ hb
  intro k
  induction k with
  | zero =>
    intro i s hk hi hst hJ hR
    have e : i = n := Nat.le_antisymm hi (by omega)
    subst e
    refine codeAny_builtin F.entry_set_update_loop ?_
    rw [Around.under_plainId F.plain_set_update_loop _]
    show wpAny _ A.in1 (pyNext (.ref I) >>= _) _ _ s
    refine wpAny_bind (W.done s _ _ hst fun s' hm => ?_)
    show wpAny _ A.in1 (ret Value.none) _ _ s'
    exact wpAny_pure (hR s' (hm.mono up) (T.frame _ _ _ hJ fun o e => hm.heap S o hSw e))
  | succ k ih =>
    intro i s hk hi hst hJ hR
    have hlt : i < n := by omega
    refine codeAny_builtin F.entry_set_update_loop ?_
    rw [Around.under_plainId F.plain_set_update_loop _]
    show wpAny _ A.in1 (pyNext (.ref I) >>= _) _ _ s
    refine wpAny_bind (W.item i s _ _ hlt hst fun v s' hP hst' hm => ?_)
    have hJ' := T.frame _ _ _ hJ fun o e => hm.heap S o hSw e
    show wpAny _ A.in1 (holding [v] (setAdd S v) >>= _) _ _ s'
    refine wpAny_bind (wpAny_holding (T.step _ _ i v s' _ hP hJ' fun b h' tk sb ht hJ2 => ?_))
    refine wpAny_pure ⟨plainId_quiet F.plain_set_update_loop _, ih (i + 1) _ (by omega) hlt (W.frame _ s' _ _ hst' ht fun c hc o e => ?_) hJ2 fun s'' hm'' hJ'' => ?_⟩
    · rw [sb.2 c fun z => hSf (z ▸ hc)]; exact e
    · refine hR s'' (Moved.trans W.gtrans ((hm.mono up).then_heap ht fun c o hc e => ?_) hm'') hJ''
      rw [sb.2 c fun z => hc (z ▸ List.mem_cons_self)]; exact e
set_option maxHeartbeats 6400000 in
theorem call_set_list {l : Addr} {items : Array Value} {J : Nat → Heap → Prop} {Q : Value → Shared → Prop} (hh : A.handled = none) (hl : s.heap.IsList l items)
    (T : SetStep P w s.heap.objs.size J fun i v => items[i]? = some v) (J0 : ∀ h : Heap, h.get? s.heap.objs.size = some (freshSet w) → J 0 h)
    (h : ∀ (h' : Heap) (tk : Nat), J items.size h' → (∀ b o, s.heap.get? b = some o → h'.get? b = some o) → Q (.ref s.heap.objs.size) { s with heap := h', toks := tk }) :
    wpAny (model P w) A (call (.type "set") [.ref l]) Q E s := by
  obtain ⟨c, tl, hmro⟩ := F.called_set.mro
  have hmade := F.called_set.made
  have hsub := F.called_set.sub
  refine wpAny_call (codeAny_of_tree ?_)
  show wpAny _ _ (callAny (.type "set") _) _ _ _
  refine wpAny_pure ⟨Code.quiet_builtin _ (by decide +kernel), codeAny_builtin F.entry_type_call ?_⟩
  rw [Around.under_plain (weight_type_call_type "set" [.ref l] []) rfl]
  have h1 := F.called_set.notType
  have h2 := F.called_set.canCreate
  have hct := F.typeCall_set_1 (.ref l)
  repeat (any_goals (first | assumption | wp_step))
  refine codeAny_mono (code_set_led1 (.ref l) (E := E) (Q₁ := fun obj s₁ => obj = .ref s.heap.objs.size ∧ s₁ = { s with heap := s.heap.push (freshSet w) }) ⟨rfl, rfl⟩) fun r s₁ hr => ?_
  cases r with
  | error e => exact hr
  | ok fl =>
    cases fl with
    | ret obj =>
      obtain ⟨rfl, rfl⟩ := hr
      have hS : (s.heap.push (freshSet w)).get? s.heap.objs.size = some (freshSet w) := Heap.get?_push_size _ rfl
      have hT : Shared.TypeIs { s with heap := s.heap.push (freshSet w) } (.ref s.heap.objs.size) "set" := ⟨_, hS, rfl⟩
      have hli := F.called_set.init.lookup
      have hbi := F.called_set.init.bind (.ref s.heap.objs.size)
      repeat (any_goals (first | assumption | wp_step))
      refine codeAny_mono (codeAny_call_builtin (R := wants (fun r s₂ => r = .none ∧ ∃ h' tk, s₂ = { s with heap := h', toks := tk } ∧ J items.size h' ∧ (∀ b o, s.heap.get? b = some o → h'.get? b = some o)) E) F.called_set.init.plain F.entry_set_init (check_set_init_1 hT ?_)) fun r₂ s₂ hr₂ => ?_
      · obtain ⟨ol, hol, hcl, nl, hdl⟩ := hl
        obtain ⟨ocls, odict, odata, oslots⟩ := ol
        simp only at hcl hdl
        subst hcl; subst hdl
        have hol' : (s.heap.push (freshSet w)).get? l = some { cls := .type "list", dict := odict, data := .seq items nl, slots := oslots } := Heap.get?_push_of_some _ hol
        have hsls := F.sub_list_set
        have hslf := F.sub_list_frozenset
        have hne : (Value.type "list" == Value.type "dict") = false := by decide
        have hl1 : (s.heap.push (freshSet w)).IsList l items := ⟨_, hol', rfl, nl, rfl⟩
        unfold Builtin.«set.__init__» noKeywords Builtin.Frozenset.updateFrom
        generalize hPI : pyIter = PI
        wp_walk
        subst hPI
        refine wpAny_pyIter_list hl1 ?_
        refine wpAny_bind (wpAny_runValue ?_)
        have hlS : l < s.heap.objs.size := Heap.lt_size hol
        have hh3 : A.in1.in1.in1.handled = none := by simp [hh]
        have hneI : l ≠ (s.heap.push (freshSet w)).objs.size := by
          rw [Heap.size_push]; exact Nat.ne_of_lt (Nat.lt_succ_of_lt hlS)
        have hSf : s.heap.objs.size ∉ [(s.heap.push (freshSet w)).objs.size, l] := by
          rw [Heap.size_push]; simp only [List.mem_cons, List.mem_singleton, List.not_mem_nil, or_false, not_or]
          exact ⟨Nat.ne_of_lt (Nat.lt_succ_self _), Nat.ne_of_gt hlS⟩
        refine set_upd ((Walks.list hh3 _ l hneI items).toS) hSf T (items.size - 0) 0 _ (by omega) (Nat.zero_le _)
          ⟨⟨_, Heap.get?_push_size _ rfl, rfl, rfl⟩, (hl1.push _)⟩ (J0 _ (Heap.get?_push_of_some _ hS)) fun s' hm hJ => ?_
        obtain ⟨h', g2, d', tk', os'⟩ := s'
        have eg : g2 = s.gens := hm.gens
        have ed : d' = s.drawn := hm.drawn
        have eo : os' = s.os := hm.os
        subst eg; subst ed; subst eo
        show wpAny _ _ _ _ _ _
        refine wpAny_pure ?_
        show wpAny _ _ (ret Value.none) _ _ _
        refine wpAny_pure ⟨rfl, h', tk', rfl, hJ, fun b o e => ?_⟩
        have hb := Heap.lt_size e
        refine hm.heap b o (fun z => ?_) (Heap.get?_push_of_some _ (Heap.get?_push_of_some _ e))
        rcases List.mem_cons.mp z with z | z
        · exact absurd hb (by rw [z]; exact Nat.lt_irrefl _)
        · have z := List.mem_singleton.mp z
          first
            | exact absurd hb (by rw [z, Heap.size_push]; exact Nat.not_lt_of_le (Nat.le_succ _))
            | exact absurd hb (by rw [z]; exact Nat.not_lt_of_le (Nat.le_succ _))
      · cases r₂ with
        | error e => exact hr₂
        | ok fl₂ =>
          cases fl₂ with
          | ret r =>
            obtain ⟨rfl, h', tk, rfl, hJ, hk⟩ := hr₂
            repeat (any_goals (first | assumption | wp_step))
            exact h _ _ hJ hk
          | _ => exact hr₂.elim
    | _ => exact hr.elim
end
end L2
set_option Elab.async false
set_option linter.all false
set_option maxRecDepth 100000
set_option maxHeartbeats 4000000
/-! set(a list of texts), sorted of it; set(a list of ints). -/
namespace L2
open PySem PySem.Spec PyProof.Rows PySem.Froz
/-- the set at a holds just the texts l -/
def SetX (P : Program) (w : World) (h : Heap) (a : Addr) (l : List Str) : Prop :=
  ∃ D : SD, h.get? a = some (sObj "set" D) ∧ TxOk P w D l ∧ l.Nodup ∧ Ris D.2.2.place.toList ∧ (w.params.followText "set-order" = true ∨ D.2.2.led = true)
theorem tail_ris {ep : Nat} {es1 : Array (Int × Value)} {t2 : SetTable} {b : Bool} (r : Ris t2.place.toList) : Ris (tailTx ep es1 t2 b).2.2.place.toList ∧ (tailTx ep es1 t2 b).2.2.led = t2.led := by
  unfold tailTx
  split
  · exact ⟨relayAll_ris _ _ _, relayAll_led _ _ _⟩
  · exact ⟨r, rfl⟩
theorem add_ris {h : Int} {v : Value} {D : SD} (r : Ris D.2.2.place.toList) : Ris (addTx h v D).2.2.place.toList ∧ (addTx h v D).2.2.led = D.2.2.led := by
  have r1 := layNew_ris D.2.2 D.1 h v r
  have l1 := layNew_led D.2.2 D.1 h v
  unfold addTx
  have r2 : Ris (if (layNew D.2.2 D.1 h v).2.1.plain = true then { (layNew D.2.2 D.1 h v).2.1 with plain := false } else (layNew D.2.2 D.1 h v).2.1).place.toList := by split <;> exact r1
  have l2 : (if (layNew D.2.2 D.1 h v).2.1.plain = true then { (layNew D.2.2 D.1 h v).2.1 with plain := false } else (layNew D.2.2 D.1 h v).2.1).led = D.2.2.led := by split <;> exact l1
  exact ⟨(tail_ris r2).1, (tail_ris r2).2.trans l2⟩
section
variable {P : Program} {w : World} {A : Around} {E : Value → Shared → Prop} {s : Shared}
theorem SetX.fresh {h : Heap} {a : Addr} (e : h.get? a = some (freshSet w)) : SetX P w h a [] :=
  ⟨(#[], 0, .fresh 0 0 (!w.params.followText "set-order")), e, TxOk.nil rfl, List.Pairwise.nil, List.Pairwise.nil, by
    show _ ∨ (!w.params.followText "set-order") = true
    cases w.params.followText "set-order"
    · exact .inr rfl
    · exact .inl rfl⟩
theorem SetX.keep {h h' : Heap} {a : Addr} {l : List Str} (x : SetX P w h a l) (k : ∀ o, h.get? a = some o → h'.get? a = some o) : SetX P w h' a l := by
  obtain ⟨D, e, r⟩ := x
  exact ⟨D, k _ e, r⟩
/-- one text more, or the same -/
def more (l : List Str) (k : Str) : List Str := if k ∈ l then l else k :: l
theorem SetX.add {a : Addr} {l : List Str} {k : Str} {u : Tok} {Q : Bool → Shared → Prop} (x : SetX P w s.heap a l) (hb : l.length + 1 < scanBound)
    (q : ∀ b h', Heap.SameBut a s.heap h' → SetX P w h' a (more l k) → Q b { s with heap := h' }) : wpAny (model P w) A (setAddHashed a (.str k u) (hashStr w k)) Q E s := by
  obtain ⟨D, e, F, nd, r, ld⟩ := x
  by_cases hk : k ∈ l
  · obtain ⟨es, ep, t⟩ := D
    have hd : (sObj "set" (es, ep, t)).data = .set es ep t := rfl
    have hf : t.fits es.size = true := F.fit
    have hel : ElemsOf (PySem.strKind P w) es.toList := F.el
    have hsz : es.size = l.length := F.sz
    have hb0 : es.size < scanBound := by omega
    have hkey : (PySem.strKind P w).is k (.str k u) = true := PySem.Froz.is_str k u
    obtain ⟨e1, he1, p1⟩ := (F.mem k).mp hk
    unfold setAddHashed setAddHashedIn
    refine wpAny_holding (wpAny_bind (wpAny_setState_of e hd hf ?_))
    dsimp only
    rw [byScan_of rfl hb0 hel]
    simp only [↓reduceIte]
    unfold setAddByScan
    refine wpAny_bind ?_
    refine wpAny_bind (wpAny_rule ?_)
    refine wpAny_bind (wpAny_setScan_of (knd := PySem.strKind P w) (k := k) hkey e hd hf hel ?_)
    cases hfi : List.findIdx? (fun e => (PySem.strKind P w).is k e.2) es.toList with
    | none =>
      have c := List.findIdx?_eq_none_iff.mp hfi e1 he1
      rw [p1] at c
      cases c
    | some j =>
      dsimp only
      refine wpAny_pure (wpAny_pure (q _ s.heap (Heap.SameBut.refl a s.heap) ?_))
      unfold more
      rw [if_pos hk]
      exact ⟨(es, ep, t), e, F, nd, r, ld⟩
  · refine add_x e F hk hb (q _ _ (Heap.SameBut.update s.heap a _) ?_)
    unfold more
    rw [if_neg hk]
    exact ⟨_, get_upd _ e rfl, add_ok u F, List.nodup_cons.mpr ⟨hk, nd⟩, (add_ris r).1, ld.imp id fun z => (add_ris r).2.trans z⟩
/-- what a set of these texts holds -/
def dd (xs : List Str) : List Str := xs.foldl more []
theorem dd_len : ∀ (xs l : List Str), (xs.foldl more l).length ≤ l.length + xs.length
  | [], l => Nat.le_refl _
  | x :: xs, l => by
    have h := dd_len xs (more l x)
    have h2 : (more l x).length ≤ l.length + 1 := by unfold more; split <;> simp
    simp only [List.foldl_cons, List.length_cons]
    omega
theorem dd_nodup : ∀ (xs l : List Str), l.Nodup → (xs.foldl more l).Nodup
  | [], l, h => h
  | x :: xs, l, h => dd_nodup xs _ (by
    unfold more
    split
    · exact h
    · rename_i c
      exact List.nodup_cons.mpr ⟨c, h⟩)
theorem dd_mem : ∀ (xs l : List Str) (k : Str), k ∈ xs.foldl more l ↔ k ∈ l ∨ k ∈ xs
  | [], l, k => by simp
  | x :: xs, l, k => by
    rw [List.foldl_cons, dd_mem xs]
    unfold more
    split
    · rename_i c
      exact ⟨fun z => z.elim .inl (fun y => .inr (List.mem_cons_of_mem _ y)), fun z => z.elim .inl fun y => (List.mem_cons.mp y).elim (fun y => .inl (y ▸ c)) .inr⟩
    · constructor
      · rintro (z | z)
        · exact (List.mem_cons.mp z).elim (fun y => .inr (y ▸ List.mem_cons_self)) .inl
        · exact .inr (List.mem_cons_of_mem _ z)
      · rintro (z | z)
        · exact .inl (List.mem_cons_of_mem _ z)
        · exact (List.mem_cons.mp z).elim (fun y => .inl (y ▸ List.mem_cons_self)) .inr
theorem take_more {xs : List Str} {i : Nat} {k : Str} (h : xs[i]? = some k) : more ((xs.take i).foldl more []) k = (xs.take (i + 1)).foldl more [] := by
  rw [List.take_succ, h, List.foldl_append] <;> rfl
theorem setX_steps (S : Addr) (xs : List Str) (hb : xs.length + 1 < scanBound) {items : Array Value} (hi : StrsAre items.toList xs) :
    SetStep P w S (fun i h => SetX P w h S ((xs.take i).foldl more [])) fun i v => items[i]? = some v where
  frame := fun i h h' x k => x.keep k
  step := fun A E i v s Q hv x q => by
    have hv' : items.toList[i]? = some v := by rw [Array.getElem?_toList]; exact hv
    have key : ∀ {vs : List Value} {ys : List Str}, StrsAre vs ys → ∀ {i : Nat} {v : Value}, vs[i]? = some v → ∃ k u, v = .str k u ∧ ys[i]? = some k := by
      intro vs ys h
      induction h with
      | nil => intro i v e; simp at e
      | cons x t h ih =>
        intro i v e
        cases i with
        | zero => exact ⟨x, t, by simpa using e.symm, rfl⟩
        | succ i => exact ih (by simpa using e)
    obtain ⟨k, u, rfl, hk⟩ := key hi hv'
    have hln : ((xs.take i).foldl more []).length ≤ xs.length := by
      have h1 := dd_len (xs.take i) []
      have h2 : (xs.take i).length ≤ xs.length := by rw [List.length_take]; omega
      simp only [List.length_nil] at h1
      omega
    unfold setAdd
    refine wpAny_holding ?_
    refine wpAny_bind ((PySem.strKind P w).pyHash (k := k) (PySem.Froz.is_str k u) ?_)
    refine SetX.add (s := { s with toks := s.toks + 1 }) (l := (xs.take i).foldl more []) x (by omega) fun b h' sb x' => ?_
    exact q b h' _ sb (Nat.le_succ _) (by rw [← take_more hk]; exact x')
theorem perm_of : ∀ (l ss : List Str), l.Nodup → (∀ x ∈ l, x ∈ ss) → ss.length ≤ l.length → ss.Perm l
  | [], ss, _, _, h => by
    cases ss with
    | nil => exact List.Perm.nil
    | cons a b => simp at h
  | x :: l, ss, nd, h, hl => by
    obtain ⟨a, b, rfl⟩ := List.append_of_mem (h x List.mem_cons_self)
    obtain ⟨n1, n2⟩ := List.nodup_cons.mp nd
    have ih := perm_of l (a ++ b) n2 (fun y hy => by
      have z := h y (List.mem_cons_of_mem _ hy)
      rcases List.mem_append.mp z with z | z
      · exact List.mem_append_left _ z
      · rcases List.mem_cons.mp z with z | z
        · exact absurd (z ▸ hy) n1
        · exact List.mem_append_right _ z) (by
      simp only [List.length_append, List.length_cons] at hl ⊢
      omega)
    exact List.perm_middle.trans (ih.cons x)
theorem StrsAre.mem_ {vs : List Value} {ss : List Str} (h : StrsAre vs ss) : ∀ {x : Str} {u : Tok}, Value.str x u ∈ vs → x ∈ ss := by
  induction h with
  | nil => intro x u e; cases e
  | cons y t h ih =>
    intro x u e
    rcases List.mem_cons.mp e with z | z
    · cases z; exact List.mem_cons_self
    · exact List.mem_cons_of_mem _ (ih z)
theorem sorted_setX {a : Addr} {l : List Str} {Q : Value → Shared → Prop} (x : SetX P w s.heap a l) (hh : A.handled = none) (h64 : l.length < 64)
    (hQ : ∀ s' p (out : Array Value) (c : Nat) (ys : List Str), (∀ b o, s.heap.get? b = some o → s'.heap.get? b = some o) → s'.gens = s.gens → s'.os = s.os → s.heap.objs.size ≤ p →
      s'.heap.get? p = some (seqObj "list" out c) → StrsAre out.toList ys → ys.Perm l → sortedS ys = true → Q (.ref p) s') :
    wpAny (model P w) A (call (.builtin "sorted") [.ref a]) Q E s := by
  obtain ⟨⟨es, ep, t⟩, e, F, nd, r, ld⟩ := x
  have hsz : es.size = l.length := F.sz
  refine Calls.call_function_entry kind_sorted plain_sorted entry_sorted (args_sorted1 _) ?_
  unfold Builtin.«sorted»
  refine wpAny_bind (m := checkCount "sorted" 1 1 _) (wpAny_pure ?_)
  refine wpAny_bind (collect_set (A := A.in1) (es := es) (ep := ep) (t := t) hh ⟨_, e, rfl, rfl⟩ F.fit (by rw [hsz]; unfold scanBound; omega) r ld fun s1 vs k1 hz g1 o1 pm => ?_)
  have hvl : vs.length = l.length := by rw [pm.length_eq, List.length_map, Array.length_toList]; exact hsz
  have el := F.el
  have hS : StrsAre vs (vs.map strOf) := strsAre_map vs fun v hv => by
    obtain ⟨q, hq, e'⟩ := List.mem_map.mp (pm.mem_iff.mp hv)
    obtain ⟨⟨k, hk, _⟩, _⟩ := el q hq
    subst e'
    generalize q.2 = y at hk
    cases y with
    | str z u => exact ⟨z, u, rfl⟩
    | _ => exact nomatch hk
  have pl : (vs.map strOf).Perm l := by
    refine perm_of l _ nd (fun x hx => ?_) (by rw [List.length_map, hvl]; exact Nat.le_refl _)
    obtain ⟨q, hq, hk⟩ := (F.mem x).mp hx
    have hm : q.2 ∈ vs := pm.mem_iff.mpr (List.mem_map.mpr ⟨q, hq, rfl⟩)
    obtain ⟨⟨k, hk', _⟩, _⟩ := el q hq
    generalize q.2 = y at hk hm
    cases y with
    | str z u =>
      have z2 : x = z := (PySem.strKind P w).inj (.str z u) x z hk (PySem.Froz.is_str z u)
      rw [z2]
      exact StrsAre.mem_ hS hm
    | _ => exact nomatch hk
  refine wpAny_bind (wpAny_newList ?_ (by rw [hvl, sizeLine_eq]; omega))
  have hoL : (s1.heap.push (seqObj "list" vs.toArray 0)).get? s1.heap.objs.size = some (seqObj "list" vs.toArray 0) := Heap.get?_push_size _ rfl
  refine wpAny_bind (wpAny_holding (wpAny_call_entry slot_list_sort ⟨_, hoL, rfl⟩ entry_list_sort (list_sort_treeK strKind_oneLt hoL hS.keysOf (fun v₁ v₂ rest e => keyKind_strs (by rw [← e]; exact hS)) (by rw [hvl]; exact h64) fun st' hp hs => ⟨_, rfl, ?_⟩) (args_list_sort _)))
  obtain ⟨ss', a1, a2, a3⟩ := sorted_out_str hS hp hs
  obtain ⟨c, hc⟩ := sortedHeap_at (vs := vs) (out := (arrOf st').map (·.2)) hoL
  refine wpAny_pure ⟨_, rfl, hQ _ s1.heap.objs.size _ c ss' (fun b u eb => ?_) g1 o1 hz hc a1 (a2.trans pl) a3⟩
  have q := k1 b u eb
  have hlt := Heap.lt_size q
  show (sortedHeap (s1.heap.push (seqObj "list" vs.toArray 0)) s1.heap.objs.size vs _).get? b = some u
  rw [sortedHeap_old (Nat.ne_of_lt hlt) (by rw [size_push']; exact Nat.lt_succ_of_lt hlt)]
  exact Heap.get?_push_of_some _ q
/-! ### ints -/
theorem setI_steps (S : Addr) (ns : List Int) (hb : ns.length + 1 < scanBound) {items : Array Value} (hi : IntsAre items.toList ns) :
    SetStep P w S (fun i h => ∃ n, n ≤ i ∧ SetR w h S (fun j => decide (j ∈ ns.take i)) n) fun i v => items[i]? = some v where
  frame := fun i h h' ⟨n, hn, x⟩ k => ⟨n, hn, SetR.at x k⟩
  step := fun A E i v s Q hv ⟨n, hn, x⟩ q => by
    have hv' : items.toList[i]? = some v := by rw [Array.getElem?_toList]; exact hv
    have key : ∀ {vs : List Value} {ys : List Int}, IntsAre vs ys → ∀ {i : Nat} {v : Value}, vs[i]? = some v → ∃ k u, v = .int k u ∧ ys[i]? = some k := by
      intro vs ys h
      induction h with
      | nil => intro i v e; simp at e
      | cons x t h ih =>
        intro i v e
        cases i with
        | zero => exact ⟨x, t, by simpa using e.symm, rfl⟩
        | succ i => exact ih (by simpa using e)
    obtain ⟨k, u, rfl, hk⟩ := key hi hv'
    have hil : i < ns.length := by
      obtain ⟨z, _⟩ := List.getElem?_eq_some_iff.mp hk
      exact z
    unfold setAdd
    refine wpAny_holding ?_
    refine wpAny_bind ((intKind P w).pyHash (intKind_is P w k u) ?_)
    refine setR_add_hashed (P := P) (s := { s with toks := s.toks + 1 }) x (by omega) fun h' sb x' => ?_
    refine q _ h' _ sb (Nat.le_succ _) ⟨_, ?_, x'.congr fun j => ?_⟩
    · split <;> omega
    · rw [List.take_succ, hk]
      show decide (j ∈ ns.take i ++ [k]) = (decide (j ∈ ns.take i) || decide (j = k))
      rw [Bool.eq_iff_iff]
      simp [List.mem_append]
end
/-! ### the words -/
def SetXO (P : Program) (w : World) (a : Addr) (l : List Str) : HO := .ext fun h => SetX P w h a l
theorem setXO_new {P : Program} {w : World} {H : Hp} {h : Heap} {a : Addr} {l : List Str} (R : SetX P w h a l) : ObjOk P w H h a (SetXO P w a l) := by
  have ⟨D, e, _⟩ := R
  exact ⟨R, ⟨_, e⟩, fun h1 h2 p k => SetX.keep p k⟩
section
variable {X : Cx}
def rSetS (K : PySem.W.Frag) (P : Program) (w : World) : List V → Hp → VK → Prop := fun xs H Q => ∃ (l : Addr) (zs : List Str), xs = [V.ref l] ∧ SqL K H l (zs.map V.str) ∧ zs.length < 1000 ∧
  ∀ a, H a = none → Q (.ref a) (upd H a (SetXO P w a (dd zs)))
theorem cr_setS (hc : X.calm = true) : CallR X (.type "set") (rSetS X.K X.prog X.w) := by
  intro pins s σ H xs us Q I r h
  obtain ⟨l, zs, rfl, hl, hf, q⟩ := h
  rw [Vals.ref1 r]
  obtain ⟨its, rv, pl, hz⟩ := I.list hl
  have hi : StrsAre its zs := rv.strs
  have hn : H s.heap.objs.size = none := I.hok.fresh (Nat.le_refl _)
  refine call_set_list (P := X.prog) (w := X.w) (I.ok.hd hc) pl.isList (setX_steps _ zs (by unfold scanBound; omega) (by simpa using hi)) (fun h e => SetX.fresh e) fun h' tk x k => ?_
  have e : zs.take its.toArray.size = zs := by
    rw [List.size_toArray, PyProof.Rows.StrsAre.length hi, List.take_length]
  simp only [e] at x
  exact ⟨.ref s.heap.objs.size, _, I.laid (t' := tk) k (Nat.le_refl _) (setXO_new x), rfl, q _ hn⟩
def rSetI (K : PySem.W.Frag) (w : World) : List V → Hp → VK → Prop := fun xs H Q => ∃ (l : Addr) (ns : List Int), xs = [V.ref l] ∧ SqL K H l (ns.map V.int) ∧ ns.length < 64 ∧
  ∀ a n, H a = none → n ≤ ns.length → Q (.ref a) (upd H a (SetO w a (fun j => decide (j ∈ ns)) n))
theorem cr_setI (hc : X.calm = true) : CallR X (.type "set") (rSetI X.K X.w) := by
  intro pins s σ H xs us Q I r h
  obtain ⟨l, ns, rfl, hl, hf, q⟩ := h
  rw [Vals.ref1 r]
  obtain ⟨its, rv, pl, hz⟩ := I.list hl
  have hi : IntsAre its ns := rv.ints
  have hn : H s.heap.objs.size = none := I.hok.fresh (Nat.le_refl _)
  refine call_set_list (P := X.prog) (w := X.w) (I.ok.hd hc) pl.isList (setI_steps _ ns (by unfold scanBound; omega) (by simpa using hi)) (fun h e => ⟨0, Nat.le_refl _, ?_⟩) fun h' tk x k => ?_
  · refine ⟨_, #[], 0, _, e, ⟨rfl, rfl, rfl⟩, rfl, (fun e he => by simp at he), (by simp), (fun k => by simp), (by decide), (by rfl), rfl, List.Pairwise.nil, ?_⟩
    show _ ∨ (!X.w.params.followText "set-order") = true
    cases X.w.params.followText "set-order"
    · exact .inr rfl
    · exact .inl rfl
  · have e : ns.take its.toArray.size = ns := by
      rw [List.size_toArray, hi.length, List.take_length]
    obtain ⟨n, h1, h2⟩ := x
    simp only [e] at h2
    have h1' : n ≤ ns.length := by rw [← hi.length]; simpa using h1
    exact ⟨.ref s.heap.objs.size, _, I.laid (t' := tk) k (Nat.le_refl _) (setO_new h2), rfl, q _ n hn h1'⟩
def rSortedX (P : Program) (w : World) : List V → Hp → VK → Prop := fun vs H Q => ∃ (a : Addr) (l : List Str), vs = [V.ref a] ∧ H a = some (SetXO P w a l) ∧ l.length < 64 ∧
  ∀ (ys : List Str) (p : Addr), ys.Perm l → sortedS ys = true → H p = none → Q (.ref p) (upd H p (.lst (ys.map V.str)))
theorem cr_sortedX (hc : X.calm = true) : CallR X (.builtin "sorted") (rSortedX X.prog X.w) := by
  intro pins s σ H vs us Q I r h
  obtain ⟨a, l, rfl, ha, h64, q⟩ := h
  have x : SetX X.prog X.w s.heap a l := (I.hok a _ ha).1
  rw [Vals.ref1 r]
  refine sorted_setX x (I.ok.hd hc) h64 fun s' p out c ys k g o hp hg hout pm so => ?_
  have hlen : (ys.map V.str).length ≤ sizeLine := by rw [List.length_map, pm.length_eq, sizeLine_eq]; omega
  have hn : H p = none := I.hok.fresh hp
  have J : Inv X pins σ (upd H p (.lst (ys.map V.str))) { s with heap := s'.heap, gens := s'.gens, drawn := s'.drawn, toks := s'.toks } :=
    I.call (ch := []) (Un.laid k hp hn) (I.hok.laid k hp ⟨hlen, out.toList, c, vals_of_strs hout, hg⟩) (by rw [g]; exact I.bare) (fun _ z => nomatch z)
  have e : s' = { s with heap := s'.heap, gens := s'.gens, drawn := s'.drawn, toks := s'.toks } := by
    cases s'
    cases s
    cases o
    rfl
  rw [e]
  exact ⟨.ref p, _, J, rfl, q ys p pm so hn⟩
end
end L2
set_option Elab.async false
set_option linter.all false
set_option maxRecDepth 100000
set_option maxHeartbeats 4000000
/-! == of a dict and an empty one; != of dicts whose values are data alike; texts in order. -/
namespace L2
open PySem PySem.Spec PyProof.Rows
section
variable {X : Cx}
def rEqE : R2 := fun x y H Q => ∃ a b ks, x = .ref a ∧ y = .ref b ∧ H a = some (.dK ks) ∧ H b = some (.dK []) ∧ ∀ c, Q (.bl c) H
theorem op_eqE (hu : X.A.units < cLine) : OpR X (compareOp .Eq) rEqE := by
  intro pins s σ H x y v u Q I rx ry h
  obtain ⟨a, b, ks, rfl, rfl, ea, eb, q⟩ := h
  cases (show v = Value.ref a from rx)
  cases (show u = Value.ref b from ry)
  obtain ⟨_, ya, va, ra, da⟩ := (show ObjOk X.prog X.w H s.heap a (.dK ks) from I.hok a _ ea)
  obtain ⟨_, yb, vb, rb, db⟩ := (show ObjOk X.prog X.w H s.heap b (.dK []) from I.hok b _ eb)
  cases rb
  refine PySem.W.rcP_dicts (knd := mixKind X.prog X.w) (r := true) ya yb da db hu (fun e => ?_) _ _ ⟨.bl _, H, I, rfl, q _⟩
  cases va with
  | nil => exact .nil
  | cons p r => cases e
/-- two dicts of the same keys, their values data alike -/
def rNeV (K : PySem.W.Frag) : R2 := fun x y H Q => ∃ a b ks ls, x = .ref a ∧ y = .ref b ∧ H a = some (.dK ks) ∧ H b = some (.dK ls) ∧ ks.length = ls.length ∧
  (∀ p ∈ ks, ∃ u d, valV ls p.1 = some u ∧ Dp K H p.2 d ∧ Dp K H u d ∧ d.canLay0 = true ∧ d.depth ≤ 60) ∧ Q (.bl false) H
theorem hitsD {pins : List (Addr × Obj)} {σ : St} {H : Hp} {s : Shared} (I : Inv X pins σ H s) {A : Around} (hu : A.units + 61 < cLine) {kvs : List (Key × V)} {vb : List (Key × Value)} (rb : KV kvs vb) {ks : List (Key × V)} {va : List (Key × Value)} (ra : KV ks va) :
    (∀ p ∈ ks, ∃ u d, valV kvs p.1 = some u ∧ Dp X.K H p.2 d ∧ Dp X.K H u d ∧ d.canLay0 = true ∧ d.depth ≤ 60) → PySem.W.KeqHits A s vb va true := by
  unfold KV at ra
  induction ra with
  | nil => intro _; exact .nil
  | @cons p q ps qs h t ih =>
    intro hp
    obtain ⟨h1, h2⟩ := h
    obtain ⟨u, d, e, d1, d2, hl, hd⟩ := hp p List.mem_cons_self
    have rr : RelO (some u) (valueAt vb p.1) := by rw [← e]; exact rb.val p.1
    obtain ⟨y, hy, ry⟩ := rr.some_of
    obtain ⟨k1, w1⟩ := q
    cases (show p.1 = k1 from h1)
    obtain ⟨as, r1⟩ := Dp.reads I d p.2 w1 d1 h2
    obtain ⟨bs, r2⟩ := Dp.reads I d u y d2 ry
    have eq : SeqAt.EqAt A s w1 y (PyData.eqv d d) := SeqAt.eqAt_reads d d A s w1 y as bs r1 r2 hl hl (by omega)
    rw [SeqAt.eqv_refl d hl] at eq
    show PySem.W.KeqHits A s vb ((p.1, w1) :: qs) (true && true)
    exact .hit hy eq (ih fun p' hm => hp p' (List.mem_cons_of_mem _ hm))
theorem op_neV (hu : X.A.units + 64 < cLine) : OpR X (compareOp .NotEq) (rNeV X.K) := by
  intro pins s σ H x y v u Q I rx ry h
  obtain ⟨a, b, ks, ls, rfl, rfl, ea, eb, hlen, hp, q⟩ := h
  obtain rfl : v = Value.ref a := rx
  obtain rfl : u = Value.ref b := ry
  obtain ⟨_, ya, va, ra, da⟩ := (show ObjOk X.prog X.w H s.heap a (.dK ks) from I.hok a _ ea)
  obtain ⟨_, yb, vb, rb, db⟩ := (show ObjOk X.prog X.w H s.heap b (.dK ls) from I.hok b _ eb)
  have hl : va.length = vb.length := by rw [← ra.length, ← rb.length]; exact hlen
  refine PySem.W.keq_ne (knd := mixKind X.prog X.w) (r := true) ya yb da db (by omega) (fun _ => hitsD I (by show X.A.units + 1 + 61 < cLine; omega) rb ra hp) ⟨.bl _, H, I, rfl, ?_⟩
  simpa [hl] using q
end
/-! ### texts in order -/
theorem le_of_lt_false {a b : List Nat} (h : ltCps b a = false) : a ≤ b := by
  rw [ltCps_eq, decide_eq_false_iff_not] at h
  exact List.not_lt.mp h
theorem rising_all : ∀ (l : List Str) (p : Str), risingS p l = true → ∀ x ∈ l, p.cps.toList ≤ x.cps.toList
  | [], _, _, x, hx => nomatch hx
  | y :: l, p, h, x, hx => by
    have h' : (!ltCps y.cps.toList p.cps.toList && risingS y l) = true := h
    rw [Bool.and_eq_true, Bool.not_eq_true'] at h'
    have h1 := le_of_lt_false h'.1
    rcases List.mem_cons.mp hx with z | z
    · rw [z]; exact h1
    · exact List.le_trans h1 (rising_all l y h'.2 x z)
theorem rising_tail : ∀ {l : List Str} {p : Str}, risingS p l = true → sortedS l = true
  | [], _, _ => rfl
  | y :: l, p, h => by
    have h' : (!ltCps y.cps.toList p.cps.toList && risingS y l) = true := h
    rw [Bool.and_eq_true] at h'
    exact h'.2
theorem sortedS_uniq : ∀ (ys zs : List Str), ys.Perm zs → sortedS ys = true → sortedS zs = true → ys = zs
  | [], zs, pm, _, _ => (List.nil_perm.mp pm).symm
  | y :: ys, [], pm, _, _ => absurd (List.perm_nil.mp pm) (fun z => nomatch z)
  | y :: ys, z :: zs, pm, h1, h2 => by
    have e : y = z := by
      have a1 : y ∈ z :: zs := pm.mem_iff.mp List.mem_cons_self
      have a2 : z ∈ y :: ys := pm.mem_iff.mpr List.mem_cons_self
      rcases List.mem_cons.mp a1 with c | c
      · exact c
      · rcases List.mem_cons.mp a2 with d | d
        · exact d.symm
        · have l1 := rising_all zs z h2 y c
          have l2 := rising_all ys y h1 z d
          have e := List.le_antisymm l2 l1
          have e2 : y.cps = z.cps := Array.toList_inj.mp e
          cases y
          cases z
          exact congrArg _ e2
    subst e
    rw [sortedS_uniq ys zs (List.Perm.cons_inv pm) (rising_tail h1) (rising_tail h2)]
theorem sortedS_pw : ∀ (l : List Str), sortedS l = true → l.Pairwise fun a b => a.cps.toList ≤ b.cps.toList
  | [], _ => List.Pairwise.nil
  | x :: l, h => List.pairwise_cons.mpr ⟨rising_all l x h, sortedS_pw l (rising_tail h)⟩
theorem sortedS_sub {ks ys : List Str} (h : sortedS ys = true) (sl : ks.Sublist ys) : sortedS ks = true := by
  refine sortedS_of_pairwise _ (((sortedS_pw ys h).sublist sl).imp fun {a b} hab => ?_)
  rw [ltCps_eq, decide_eq_false_iff_not]
  exact List.not_lt.mpr hab
theorem valV_out {k : List (Key × V)} {c : Key} (h : ∀ q ∈ k, q.1 ≠ c) : valV k c = none := by
  unfold valV
  have e : k.find? (fun kv => decide (kv.1 = c)) = none := List.find?_eq_none.mpr fun q hq => by simpa using h q hq
  rw [e]
  rfl
end L2
set_option Elab.async false
set_option linter.all false
set_option maxRecDepth 100000
set_option maxHeartbeats 4000000
/-! for i, x in enumerate(a tuple). -/
namespace L2
open PySem PySem.Spec PyProof.Rows PySem.W
set_option maxHeartbeats 1000000 in
theorem enum_new1 {v : Value} {o : Obj} {H : Heap → Prop} (B : Begins v o H) :
    Meets (Builtin.«enumerate.__new__» ⟨[.type "enumerate", v], []⟩) (fun _ R s => H s.heap ∧
      R (.ok (.ret (.ref (s.heap.push o).objs.size))) { s with heap := (s.heap.push o).push { cls := .type "enumerate", data := .fields #[.none, .bool false, .ref s.heap.objs.size, rawInt 0, .none, .none] } }) :=
  .of_wp fun prog w A R s h => by
    obtain ⟨hp, g, d, tk, os⟩ := s; obtain ⟨h1, h⟩ := h
    have hsub := sub_enumerate
    have q1 : ∀ {A' : Around} {E : Value → Shared → Prop} {Q : Value → Shared → Prop}, Q (.ref hp.objs.size) ⟨hp.push o, g, d, tk, os⟩ → wpAny (model prog w) A' (pyIter v) Q E ⟨hp, g, d, tk, os⟩ :=
      fun q => B.iter prog w _ _ ⟨hp, g, d, tk, os⟩ _ h1 q
    wp_walk using q1
    refine wpAny_stack_any fun st => wpAny_pure ?_
    split
    · rename_i c _ _ _ _ _
      cases (c == Value.type "enumerate")
      · wp_walk using q1
        exact ⟨_, rfl, h⟩
      · wp_walk using q1
        exact ⟨_, rfl, h⟩
    · wp_walk using q1
      exact ⟨_, rfl, h⟩
section
variable {prog : Program} {w : World} {A : Around} {E : Value → Shared → Prop} {s : Shared}
theorem enum_begins1 {v : Value} {o : Obj} {H : Heap → Prop} {Q : Value → Shared → Prop} (B : Begins v o H) (h1 : H s.heap)
    (h : ∀ h', IsEnum h' (s.heap.objs.size + 1) s.heap.objs.size 0 .none → h'.get? s.heap.objs.size = some o → h'.objs.size = s.heap.objs.size + 2 →
      (∀ b o, s.heap.get? b = some o → h'.get? b = some o) → Q (.ref (s.heap.objs.size + 1)) { s with heap := h' }) :
    wpAny (model prog w) A (call (.type "enumerate") [v]) Q E s := by
  refine callType_new F.called_enumerate (by decide) (F.typeCall_enumerate_1 _) (F.newCall_enumerate_1 _) (fun obj => F.args_object_init_2 obj _) F.entry_enumerate_new (enum_new1 B) ⟨h1, ?_⟩
  have hz : (s.heap.push o).objs.size = s.heap.objs.size + 1 := Heap.size_push ..
  show _ ∧ _
  rw [hz]
  have he : IsEnum ((s.heap.push o).push { cls := .type "enumerate", data := .fields #[.none, .bool false, .ref s.heap.objs.size, rawInt 0, .none, .none] }) (s.heap.objs.size + 1) s.heap.objs.size 0 .none := by
    have := Heap.get?_push_size (s.heap.push o) (o := { cls := .type "enumerate", data := .fields #[.none, .bool false, .ref s.heap.objs.size, rawInt 0, .none, .none] }) rfl
    rw [hz] at this; exact this
  exact ⟨⟨_, he, rfl⟩, h _ he (Heap.get?_push_of_some _ (Heap.get?_push_size _ B.free)) (by rw [Heap.size_push, hz]) fun b o x => Heap.get?_push_of_some _ (Heap.get?_push_of_some _ x)⟩
end
def IteT (K : PySem.W.Frag) (a : Addr) : It :=
  ⟨fun i H => ∃ (xs : List V) (x : V), SqT K H a xs ∧ xs[i]? = some x, fun i H v H' => ∃ T x, v = .ref T ∧ H T = none ∧ H' = upd H T (.tup [.int (i : Nat), x]) ∧ ∀ xs, SqT K H a xs → xs[i]? = some x, fun i H => ∃ xs : List V, SqT K H a xs ∧ xs.length ≤ i⟩
theorem turn_enumT {P : Program} {w : World} {K : PySem.W.Frag} {elts : List Expr} {kk : Nat} {tpos : Pos} (a e it : Addr) :
    Turn P w K (.Tuple elts kk tpos) (IteT K a) [e, it] e (fun i h => (∃ old, IsEnum h e it ((i : Nat) : Int) old) ∧ h.IsTupleIter it a i ∧ e ≠ it ∧ a ≠ it ∧ a ≠ e) where
  mem := by simp
  obj := fun i h st b hb => by
    obtain ⟨⟨old, he⟩, ⟨o, ho, hc, hd⟩, _⟩ := st
    have e' : b = e ∨ b = it := by simpa using hb
    rcases e' with z | z
    · rw [z]; exact ⟨_, he, fun v q => nomatch q⟩
    · rw [z]; exact ⟨o, ho, fun v q => by rw [hd] at q; cases q⟩
  keep := fun i h h' st k => let ⟨⟨old, he⟩, hi, hne⟩ := st; ⟨⟨old, k e (by simp) _ he⟩, hi.at fun o q => k it (by simp) o q, hne⟩
  item := by
    intro X hP hw hK hc i pins s σ H E I hf st hg
    subst hP hw hK
    obtain ⟨⟨old, he⟩, hit, hne, hai, hae⟩ := st
    obtain ⟨xs, x, hq, hx⟩ := hg
    obtain ⟨its, rv, p, hz⟩ := I.tuple hq
    obtain ⟨u, hu, ru⟩ := rv.get hx
    have hlt : i < its.length := by
      obtain ⟨z, _⟩ := List.getElem?_eq_some_iff.mp hu
      exact z
    have hel : e < s.heap.objs.size := Heap.lt_size he
    have hil : it < s.heap.objs.size := by obtain ⟨_, q, _⟩ := hit; exact Heap.lt_size q
    have D := Draws.tuple (prog := X.prog) (w := X.w) (A := X.A.in1) (show X.A.in1.handled = none from I.ok.hd hc) it a hai its.toArray
    refine wpAny_pyNext_enum_itemD D he ⟨hit, p⟩ (by simpa using hlt) hne (by simp [hne, hae.symm]) fun y h' tk hy ho st' hT hsz hk => ?_
    have hyu : y = u := by
      have h1 : its[i]? = some y := by simpa using hy
      rw [hu] at h1
      exact (Option.some.inj h1).symm
    subst hyu
    refine ⟨_, rfl, wpAny_letOwnedTupleGo_enum (s := { s with heap := h', toks := tk + 1 }) ho fun h'' he' sb => ?_⟩
    have hT2 : h''.get? s.heap.objs.size = some { cls := .type "tuple", data := .seq #[.int i tk, y] } := (sb.2 _ (Nat.ne_of_gt hel)).trans hT
    have new : ObjOk X.prog X.w (upd H s.heap.objs.size (.tup [.int (i : Nat), x])) h'' s.heap.objs.size (.tup [.int (i : Nat), x]) :=
      ⟨by show 2 ≤ sizeLine; decide, [.int i tk, y], .cons ⟨_, rfl⟩ (.cons ru .nil), ⟨_, hT2, rfl, _, rfl⟩⟩
    have I1 : Inv X pins σ (upd H s.heap.objs.size (.tup [.int (i : Nat), x])) { s with heap := h'', toks := tk + 1 } :=
      I.turnedNew (ch := [e, it]) (fun b ob hb q => (sb.2 b (fun z => hb (by simp [z]))).trans (hk b ob (fun z => hb (by simp [z])) (fun z => hb (by simp [z])) q)) hf (Nat.le_refl _) new
    refine ⟨.ref s.heap.objs.size, _, I1, rfl, ⟨_, x, rfl, I.hok.fresh (Nat.le_refl _), rfl, fun ys hy => by rw [I.tuple_inj hy hq]; exact hx⟩, ⟨⟨y, ?_⟩, st'.1.at fun o q => (sb.2 it (Ne.symm hne)).trans q, hne, hai, hae⟩, fun b hb => ?_⟩
    · have e1 : ((i + 1 : Nat) : Int) = (i : Int) + 1 := by omega
      rw [e1]; exact he'
    · have hb' : b < s.heap.objs.size := by
        have e' : b = e ∨ b = it := by simpa using hb
        rcases e' with z | z
        · rw [z]; exact hel
        · rw [z]; exact hil
      rw [upd_ne (Nat.ne_of_lt hb')]
      exact (hf b hb).1
  done := by
    intro X hP hw hK hc i pins s σ H E I hf st hg
    subst hP hw hK
    obtain ⟨⟨old, he⟩, hit, hne, hai, hae⟩ := st
    obtain ⟨xs, hq, hx⟩ := hg
    obtain ⟨its, rv, p, hz⟩ := I.tuple hq
    obtain ⟨f0, f1, f2, f3, f4, f5⟩ := hf it (by simp)
    have hl := rv.length
    have hh : X.A.in1.handled = none := I.ok.hd hc
    have D : Draws X.prog X.w X.A.in1 it [it, a] i (fun _ _ => False) (fun j h => j = i ∧ h.IsTupleIter it a j ∧ h.IsTuple a its.toArray) :=
      { live := fun _ _ st => let ⟨o, ho, _⟩ := st.2.1; ⟨o, ho⟩
        frame := fun _ _ _ st hk => ⟨st.1, st.2.1.at fun o e => hk it (by simp) o e, st.2.2.at fun o e => hk a (by simp) o e⟩
        item := fun j s Q E hj st hQ => absurd hj (by rw [st.1]; exact Nat.lt_irrefl _)
        done := fun s Q E st hE => wpAny_nextOf_tuple_end hh st.2.1 st.2.2 (by simp; omega) hE }
    exact wpAny_pyNext_enum_endD D he ⟨rfl, hit, p⟩ fun h' eb => ⟨rfl, I.turned (t' := s.toks) (fun b o hb q => eb b o hb q) f0 f1 f3 f4 f5⟩
  self := fun A i s Q E st h => let ⟨⟨_, he⟩, _⟩ := st; wpAny_pyIter_enum he h
def iEnumT (K : PySem.W.Frag) (ta : TA) : TI := fun σ H R => ta σ H fun vs H1 => ∃ a xs, vs = [.ref a] ∧ SqT K H1 a xs ∧ R (IteT K a) H1
theorem pi_enumT {X : Cx} {e : Expr} {ta : TA} {p pos tpos : Pos} {elts : List Expr} {kk : Nat} (hg : Gl X "enumerate") (hm : X.mg "enumerate" = none) (ha : PA X [e] ta) (hs : starEach [e] X.env = [(false, eval e X.env)] := by rfl) :
    PI X (.Tuple elts kk tpos) (.Call (.Name "enumerate" p) [e] [] pos) (iEnumT X.K ta) := by
  refine ⟨fun pins s σ H R I h => ?_⟩
  refine Call_ (ld_blt I hg hm boot_enumerate (PyProof.Rows.callWith_type1 (thn (ha.run pos pins s σ H _ I h) fun us s1 ⟨vs, H1, I1, r1, q1⟩ => ?_) hs rfl))
  obtain ⟨a, xs, ex, hq, q⟩ := q1
  subst ex
  cases r1 with
  | cons r rr =>
    cases rr
    cases r
    obtain ⟨its, rv, p', hz⟩ := I1.tuple hq
    have hal : a < s1.heap.objs.size := by obtain ⟨_, z, _⟩ := p'; exact Heap.lt_size z
    refine enum_begins1 (begins_tuple a its.toArray) p' fun h' he hit hsz hk => wpAny_pyIter_enum he ?_
    have I2 : Inv X pins σ H1 { s1 with heap := h' } := I1.kept (t' := s1.toks) hk
    have hit' : h'.IsTupleIter s1.heap.objs.size a 0 := ⟨_, hit, rfl, rfl⟩
    refine ⟨s1.heap.objs.size + 1, [s1.heap.objs.size + 1, s1.heap.objs.size], _, _, H1, rfl, I2, turn_enumT a (s1.heap.objs.size + 1) s1.heap.objs.size, ⟨⟨.none, he⟩, hit', Nat.succ_ne_self _, Nat.ne_of_lt hal, Nat.ne_of_lt (Nat.lt_succ_of_lt hal)⟩, fun b hb => ?_, q⟩
    have e' : b = s1.heap.objs.size + 1 ∨ b = s1.heap.objs.size := by simpa using hb
    have hle : s1.heap.objs.size ≤ b := by
      rcases e' with z | z
      · rw [z]; exact Nat.le_add_right _ _
      · rw [z]; exact Nat.le_refl _
    exact I1.fpOk hle (I1.hok.fresh hle)
/-- the i-th of xs with its number, in a new pair -/
theorem walk_enumT {K : PySem.W.Frag} {a : Addr} {xs : List V} : Walk (IteT K a) xs.length (fun H => SqT K H a xs) (fun i H v H' => ∃ T x, v = .ref T ∧ H T = none ∧ H' = upd H T (.tup [.int (i : Nat), x]) ∧ xs[i]? = some x) where
  goes := fun i H hi h => ⟨xs, xs[i], h, List.getElem?_eq_getElem hi⟩
  stops := fun H h => ⟨xs, h, Nat.le_refl _⟩
  yields := fun i H v H' hi h ⟨T, x, e, hT, eH, hx⟩ => ⟨T, x, e, hT, eH, hx xs h⟩
end L2
set_option Elab.async false
set_option linter.all false
set_option maxRecDepth 100000
set_option maxHeartbeats 4000000
namespace L2
open PySem PySem.Spec PyProof.Rows
/-! ### data with dicts in it -/
mutual
inductive Dq (K : PySem.W.Frag) (H : Hp) : V → PyData → Prop
  | non : Dq K H .non .none
  | bl (b : Bool) : Dq K H (.bl b) (.bool b)
  | int (i : Int) : Dq K H (.int i) (.int i)
  | str (x : Str) : Dq K H (.str x) (.str x)
  | lst {a : Addr} {xs : List V} {ds : List PyData} : SqL K H a xs → DqAll K H xs ds → Dq K H (.ref a) (.list ds)
  | tup {a : Addr} {xs : List V} {ds : List PyData} : SqT K H a xs → DqAll K H xs ds → Dq K H (.ref a) (.tuple ds)
  | dct {a : Addr} {kvs : List (Key × V)} {ps : List (PyData × PyData)} : H a = some (.dK kvs) → DqAll K H (kvs.map fun q => kV q.1) (ps.map (·.1)) → DqAll K H (kvs.map (·.2)) (ps.map (·.2)) → Dq K H (.ref a) (.dict ps)
inductive DqAll (K : PySem.W.Frag) (H : Hp) : List V → List PyData → Prop
  | nil : DqAll K H [] []
  | cons {v : V} {vs : List V} {d : PyData} {ds : List PyData} : Dq K H v d → DqAll K H vs ds → DqAll K H (v :: vs) (d :: ds)
end
section
variable {K : PySem.W.Frag}
mutual
theorem Dp.q {H : Hp} : ∀ {v : V} {d : PyData}, Dp K H v d → Dq K H v d
  | _, _, .non => .non
  | _, _, .bl b => .bl b
  | _, _, .int i => .int i
  | _, _, .str x => .str x
  | _, _, .lst h a => .lst h (DpAll.q a)
  | _, _, .tup h a => .tup h (DpAll.q a)
theorem DpAll.q {H : Hp} : ∀ {vs : List V} {ds : List PyData}, DpAll K H vs ds → DqAll K H vs ds
  | _, _, .nil => .nil
  | _, _, .cons h t => .cons (Dp.q h) (DpAll.q t)
end
mutual
theorem Dq.mono {H H' : Hp} (e : Same H H') : ∀ {v : V} {d : PyData}, Dq K H v d → Dq K H' v d
  | _, _, .non => .non
  | _, _, .bl b => .bl b
  | _, _, .int i => .int i
  | _, _, .str x => .str x
  | _, _, .lst h a => .lst (e.seq h) (DqAll.mono e a)
  | _, _, .tup h a => .tup (sqT_mono e h) (DqAll.mono e a)
  | _, _, .dct h a b => .dct (e _ _ h) (DqAll.mono e a) (DqAll.mono e b)
theorem DqAll.mono {H H' : Hp} (e : Same H H') : ∀ {vs : List V} {ds : List PyData}, DqAll K H vs ds → DqAll K H' vs ds
  | _, _, .nil => .nil
  | _, _, .cons h t => .cons (Dq.mono e h) (DqAll.mono e t)
end
theorem DqAll.len {H : Hp} : ∀ {vs : List V} {ds : List PyData}, DqAll K H vs ds → vs.length = ds.length
  | _, _, .nil => rfl
  | _, _, .cons _ t => congrArg (· + 1) (DqAll.len t)
theorem DqAll.app {H : Hp} : ∀ {vs ws : List V} {ds es : List PyData}, DqAll K H vs ds → DqAll K H ws es → DqAll K H (vs ++ ws) (ds ++ es)
  | _, _, _, _, .nil, t => t
  | _, _, _, _, .cons h s, t => .cons h (DqAll.app s t)
theorem DqAll.at {H : Hp} : ∀ {vs : List V} {ds : List PyData} {i : Nat} {v : V}, DqAll K H vs ds → vs[i]? = some v → ∃ d, ds[i]? = some d ∧ Dq K H v d
  | _, _, i, v, .nil, e => by simp at e
  | _, _, 0, v, .cons h t, e => by
    simp at e
    exact ⟨_, rfl, e ▸ h⟩
  | _, _, i + 1, v, .cons h t, e => by
    obtain ⟨d, h1, h2⟩ := DqAll.at (i := i) t (by simpa using e)
    exact ⟨d, by simpa using h1, h2⟩
abbrev Qh (K : PySem.W.Frag) (p : Addr) (H : Hp) (v : V) (d : PyData) : Prop := Dq K (hid p H) v d
abbrev QhAll (K : PySem.W.Frag) (p : Addr) (H : Hp) (vs : List V) (ds : List PyData) : Prop := DqAll K (hid p H) vs ds
theorem Dq.un {p : Addr} {H : Hp} {v : V} {d : PyData} (h : Qh K p H v d) : Dq K H v d := Dq.mono hid_in h
theorem Dq.but {p : Addr} {H H' : Hp} {v : V} {d : PyData} (e : But p H H') (h : Qh K p H v d) : Qh K p H' v d := Dq.mono (hid_but e) h
theorem DqAll.but {p : Addr} {H H' : Hp} {vs : List V} {ds : List PyData} (e : But p H H') (h : QhAll K p H vs ds) : QhAll K p H' vs ds := DqAll.mono (hid_but e) h
theorem Dq.newT {p q : Addr} {H : Hp} {xs : List V} {ds : List PyData} (hq : H q = none) (n : q ≠ p) (h : QhAll K p H xs ds) : Qh K p (upd H q (.tup xs)) (.ref q) (.tuple ds) :=
  .tup (.inl (.inl (by rw [hid_ne n, upd_same]))) (DqAll.but (But.new hq) h)
theorem Dq.newL {p q : Addr} {H : Hp} {xs : List V} {ds : List PyData} (hq : H q = none) (n : q ≠ p) (h : QhAll K p H xs ds) : Qh K p (upd H q (.lst xs)) (.ref q) (.list ds) :=
  .lst (.inl (.inl (by rw [hid_ne n, upd_same]))) (DqAll.but (But.new hq) h)
theorem Dq.new0 {p q : Addr} {H : Hp} (hq : H q = none) (n : q ≠ p) : Qh K p (upd H q (.dK [])) (.ref q) (.dict []) :=
  .dct (kvs := []) (by rw [hid_ne n, upd_same]) .nil .nil
/-! ### isinstance -/
theorem Dq.ty {H : Hp} {v : V} {d : PyData} (h : Dq K H v d) : TyX K H v (.type (tyN d)) := by
  cases h with
  | non => exact .base .non
  | bl b => exact .base (.bl b)
  | int i => exact .base (.int i)
  | str x => exact .base (.str x)
  | lst hs _ =>
    rcases hs with (h | ⟨o, h⟩) | ⟨o, its, n, h, hc, _⟩
    · exact .base (.lst h)
    · exact .base (.frz h)
    · exact .kList h hc
  | tup hs _ =>
    rcases hs with (h | ⟨o, h⟩) | ⟨o, its, n, h, hc, _⟩
    · exact .base (.tup h)
    · exact .fTuple h
    · exact .kTuple h hc
  | dct h _ _ => exact .base (.dK h)
def isD : PyData → Bool | .dict _ => true | _ => false
def isOfQ : String → PyData → Bool
  | "str", d => isS d
  | "tuple", d => isT d
  | "list", d => isL d
  | "bool", d => isB d
  | "int", d => isI d
  | "dict", d => isD d
  | _, _ => false
theorem kitNq : (["NoneType", "bool", "int", "str", "list", "tuple", "dict"].all fun a => ["str", "tuple", "list", "bool", "int", "dict"].all fun T => kitB a T == some (tabN a T)) = true := by decide +kernel
theorem kit_allq {a T : String} (ha : a ∈ ["NoneType", "bool", "int", "str", "list", "tuple", "dict"]) (hT : T ∈ ["str", "tuple", "list", "bool", "int", "dict"]) : kitB a T = some (tabN a T) := by
  have h := List.all_eq_true.mp (List.all_eq_true.mp kitNq a ha) T hT
  exact eq_of_beq h
theorem isOfQ_tab {T : String} (hT : T ∈ ["str", "tuple", "list", "bool", "int", "dict"]) (d : PyData) : isOfQ T d = tabN (tyN d) T := by
  simp only [List.mem_cons, List.not_mem_nil, or_false] at hT
  rcases hT with rfl | rfl | rfl | rfl | rfl | rfl <;> cases d <;> first | rfl | decide
theorem isOfQ_kit {d : PyData} {T : String} (hT : T ∈ ["str", "tuple", "list", "bool", "int", "dict"]) : kitB (tyN d) T = some (isOfQ T d) := by
  rw [isOfQ_tab hT]
  refine kit_allq ?_ hT
  cases d <;> simp [tyN]
end
def rIsQ (K : PySem.W.Frag) : List V → Hp → VK → Prop := fun xs H Q => ∃ (v : V) (d : PyData) (T : String), xs = [v, .ty T] ∧ Dq K H v d ∧ T ∈ ["str", "tuple", "list", "bool", "int", "dict"] ∧ Q (.bl (isOfQ T d)) H
section
variable {X : Cx}
theorem call_isQ : CallR X (.builtin "isinstance") (rIsQ X.K) := by
  intro pins s σ H xs us Q I r h
  obtain ⟨v, d, T, rfl, hd, hT, q⟩ := h
  exact call_isi pins s σ H _ us Q I r ⟨v, .ty T, .type (tyN d), .type T, isOfQ T d, rfl, .ty T, hd.ty, kit_ty (isOfQ_kit hT), q⟩
end
/-! ### the heap's own reading of it; no list beside a dict -/
mutual
def nl : PyData → Bool
  | .list _ => false
  | .tuple xs => nls xs
  | .dict kvs => nlk kvs
  | _ => true
def nls : List PyData → Bool
  | [] => true
  | x :: xs => nl x && nls xs
def nlk : List (PyData × PyData) → Bool
  | [] => true
  | (k, v) :: r => nl k && nl v && nlk r
end
theorem nlk_of : ∀ {ps : List (PyData × PyData)}, nlk ps = true → nls (ps.map (·.1)) = true ∧ nls (ps.map (·.2)) = true
  | [], _ => ⟨rfl, rfl⟩
  | (k, v) :: r, h => by
    have h' : (nl k && nl v && nlk r) = true := by simpa [nlk] using h
    simp only [Bool.and_eq_true] at h'
    have ih := nlk_of h'.2
    simp only [List.map_cons, nls, Bool.and_eq_true]
    exact ⟨⟨h'.1.1, ih.1⟩, ⟨h'.1.2, ih.2⟩⟩
section
variable {P : Program} {w : World}
theorem kv_keys : ∀ {kvs : List (Key × V)} {vs : List (Key × Value)} {es : List DictEntry}, KV kvs vs → Pairs (mixKind P w) es vs → Vals (kvs.map fun q => kV q.1) (es.map (·.key)) ∧ Vals (kvs.map (·.2)) (es.map (·.val))
  | _, _, _, .nil, .nil => ⟨.nil, .nil⟩
  | _, _, _, .cons (a := q) (b := z) ⟨h1, h2⟩ r, .cons (e := e) k1 k2 k3 => by
    have ih := kv_keys r k3
    refine ⟨.cons ?_ ih.1, .cons ?_ ih.2⟩
    · have k1' : keyIs z.1 e.key = true := k1
      rw [← h1] at k1'
      rcases keyIs_shape k1' with ⟨i, t, e1, e2⟩ | ⟨x, t, e1, e2⟩
      · show RelV (kV q.1) e.key
        rw [e1, e2]
        exact ⟨t, rfl⟩
      · show RelV (kV q.1) e.key
        rw [e1, e2]
        exact ⟨t, rfl⟩
    · show RelV q.2 e.val
      rw [k2]
      exact h2
end
section
variable {X : Cx} {pins : List (Addr × Obj)} {σ : St} {H : Hp} {s : Shared}
mutual
theorem Dq.reads (I : Inv X pins σ H s) : ∀ {v : V} {d : PyData} {u : Value}, Dq X.K H v d → RelV v u → ∃ as, Reads s.heap u d as ∧ (nl d = true → sysModules ∉ as)
  | _, _, _, .non, r => by
    cases r
    exact ⟨_, Reads.none, fun _ h => nomatch h⟩
  | _, _, _, .bl b, r => by
    cases r
    exact ⟨_, Reads.bool b, fun _ h => nomatch h⟩
  | _, _, _, .int i, r => by
    obtain ⟨t, rfl⟩ := r
    exact ⟨_, Reads.int i t, fun _ h => nomatch h⟩
  | _, _, _, .str x, r => by
    obtain ⟨t, rfl⟩ := r
    exact ⟨_, Reads.str x t, fun _ h => nomatch h⟩
  | _, _, _, .lst hs ha, r => by
    cases r
    obtain ⟨its, rv, ⟨o, n, ho, hc, _, hd⟩, _⟩ := I.list hs
    obtain ⟨as, hr, _⟩ := DqAll.reads I ha rv
    exact ⟨_, Reads.list ho hc hd hr, fun h => by simp [nl] at h⟩
  | _, _, _, .tup hs ha, r => by
    cases r
    obtain ⟨its, rv, ⟨o, ho, hc, n, hd⟩, _⟩ := I.tuple hs
    obtain ⟨as, hr, hn⟩ := DqAll.reads I ha rv
    exact ⟨_, Reads.tuple ho hc hd hr, fun h => hn (by simpa [nl] using h)⟩
  | _, _, _, .dct (a := a) (ps := ps) hs hk hv, r => by
    cases r
    obtain ⟨_, hlow, vs, kv, o, es, ep, ho, ⟨hc, _, _⟩, hd, _, hp, _⟩ := I.hok _ _ hs
    obtain ⟨v1, v2⟩ := kv_keys kv hp
    obtain ⟨as, r1, n1⟩ := DqAll.reads I hk v1
    obtain ⟨bs, r2, n2⟩ := DqAll.reads I hv v2
    refine ⟨_, Reads.dict ho hc hd r1 r2, fun h => ?_⟩
    have h' := nlk_of (ps := ps) (by simpa [nl] using h)
    have hl := beq_eq_false_iff_ne.mp hlow
    intro hm
    rw [List.cons_append, List.mem_cons, List.mem_append] at hm
    rcases hm with hm | hm | hm
    · exact hl hm.symm
    · exact n1 h'.1 hm
    · exact n2 h'.2 hm
theorem DqAll.reads (I : Inv X pins σ H s) : ∀ {vs : List V} {ds : List PyData} {us : List Value}, DqAll X.K H vs ds → Vals vs us → ∃ as, ReadsAll s.heap us ds as ∧ (nls ds = true → sysModules ∉ as)
  | _, _, _, .nil, r => by
    cases r
    exact ⟨_, ReadsAll.nil, fun _ h => nomatch h⟩
  | _, _, _, .cons h1 h2, r => by
    cases r with
    | cons r1 r2 =>
      obtain ⟨as, q1, n1⟩ := Dq.reads I h1 r1
      obtain ⟨bs, q2, n2⟩ := DqAll.reads I h2 r2
      refine ⟨_, ReadsAll.cons q1 q2, fun h => ?_⟩
      have h' := h
      simp only [nls, Bool.and_eq_true] at h'
      intro hm
      rcases List.mem_append.mp hm with hm | hm
      · exact n1 h'.1 hm
      · exact n2 h'.2 hm
end
/-! ### repr -/
structure shownQ (d : PyData) : Prop where
  sh : d.showable = true
  dep : d.depth ≤ 64
  len : d.shown.length ≤ sizeLine
  nd : d.hasDict = true → nl d = true
def rReprQ (K : PySem.W.Frag) : List V → Hp → VK → Prop := fun xs H Q => ∃ (v : V) (d : PyData), xs = [v] ∧ Dq K H v d ∧ shownQ d ∧ Q (.str d.shown) H
theorem call_reprQ (hg : X.A.guards = some []) (hu : X.A.units + 70 < cLine) : CallR X (.builtin "repr") (rReprQ X.K) := by
  intro pins s σ H xs us Q I r h
  obtain ⟨v, d, rfl, hd, ⟨hs, hdep, hl, hnd⟩, q⟩ := h
  obtain ⟨u, rfl, ru⟩ := vals1 r
  obtain ⟨as, rd, hm⟩ := Dq.reads I hd ru
  have big : ∀ a, u = Value.ref a → wpAny (model X.prog X.w) X.A (call (.builtin "repr") [u]) (EP X pins σ Q) X.xe s := fun a e => by
    subst e
    exact repr_of_reads' rd hs (fun h => hm (hnd h)) hg (by omega) (fun _ _ e => e) (fun h' t tk k => ⟨.str d.shown, H, I.kept k, ⟨_, rfl⟩, q⟩) hl
  cases hd with
  | non =>
    cases ru
    exact PySem.P.repr_of_none ⟨.str _, H, I.tok _, ⟨_, rfl⟩, by simpa only [PyData.shown] using q⟩
  | bl b =>
    cases ru
    exact PySem.P.repr_of_bool ⟨.str _, H, I.tok _, ⟨_, rfl⟩, by simpa only [PyData.shown] using q⟩
  | int i =>
    obtain ⟨t, rfl⟩ := ru
    exact PySem.P.repr_of_int (by simpa [PyData.showable] using hs) ⟨.str _, H, I.tok _, ⟨_, rfl⟩, by simpa only [PyData.shown] using q⟩
  | str x =>
    obtain ⟨t, rfl⟩ := ru
    exact PySem.P.repr_of_str ⟨.str _, H, I.tok _, ⟨_, rfl⟩, by simpa only [PyData.shown] using q⟩ (by simpa only [PyData.shown] using hl)
  | lst _ _ => exact big _ ru
  | tup _ _ => exact big _ ru
  | dct _ _ _ => exact big _ ru
end
end L2
set_option Elab.async false
set_option linter.all false
set_option maxRecDepth 100000
set_option maxHeartbeats 4000000
namespace L2
open PySem PySem.Spec PyProof.Rows
/-! ### data with dicts in it whose lists were all made by the run: repr of it, lists beside dicts too -/
mutual
inductive Dr (K : PySem.W.Frag) (H : Hp) : V → PyData → Prop
  | non : Dr K H .non .none
  | bl (b : Bool) : Dr K H (.bl b) (.bool b)
  | int (i : Int) : Dr K H (.int i) (.int i)
  | str (x : Str) : Dr K H (.str x) (.str x)
  | lst {a : Addr} {xs : List V} {ds : List PyData} : a ≠ sysModules → SqL K H a xs → DrAll K H xs ds → Dr K H (.ref a) (.list ds)
  | tup {a : Addr} {xs : List V} {ds : List PyData} : SqT K H a xs → DrAll K H xs ds → Dr K H (.ref a) (.tuple ds)
  | dct {a : Addr} {kvs : List (Key × V)} {ps : List (PyData × PyData)} : H a = some (.dK kvs) → DrAll K H (kvs.map fun q => kV q.1) (ps.map (·.1)) → DrAll K H (kvs.map (·.2)) (ps.map (·.2)) → Dr K H (.ref a) (.dict ps)
inductive DrAll (K : PySem.W.Frag) (H : Hp) : List V → List PyData → Prop
  | nil : DrAll K H [] []
  | cons {v : V} {vs : List V} {d : PyData} {ds : List PyData} : Dr K H v d → DrAll K H vs ds → DrAll K H (v :: vs) (d :: ds)
end
section
variable {K : PySem.W.Frag}
mutual
theorem Dr.q {H : Hp} : ∀ {v : V} {d : PyData}, Dr K H v d → Dq K H v d
  | _, _, .non => .non
  | _, _, .bl b => .bl b
  | _, _, .int i => .int i
  | _, _, .str x => .str x
  | _, _, .lst _ h a => .lst h (DrAll.q a)
  | _, _, .tup h a => .tup h (DrAll.q a)
  | _, _, .dct h a b => .dct h (DrAll.q a) (DrAll.q b)
theorem DrAll.q {H : Hp} : ∀ {vs : List V} {ds : List PyData}, DrAll K H vs ds → DqAll K H vs ds
  | _, _, .nil => .nil
  | _, _, .cons h t => .cons (Dr.q h) (DrAll.q t)
end
mutual
theorem Dr.mono {H H' : Hp} (e : Same H H') : ∀ {v : V} {d : PyData}, Dr K H v d → Dr K H' v d
  | _, _, .non => .non
  | _, _, .bl b => .bl b
  | _, _, .int i => .int i
  | _, _, .str x => .str x
  | _, _, .lst n h a => .lst n (e.seq h) (DrAll.mono e a)
  | _, _, .tup h a => .tup (sqT_mono e h) (DrAll.mono e a)
  | _, _, .dct h a b => .dct (e _ _ h) (DrAll.mono e a) (DrAll.mono e b)
theorem DrAll.mono {H H' : Hp} (e : Same H H') : ∀ {vs : List V} {ds : List PyData}, DrAll K H vs ds → DrAll K H' vs ds
  | _, _, .nil => .nil
  | _, _, .cons h t => .cons (Dr.mono e h) (DrAll.mono e t)
end
/-! data without lists and dicts, as it was read before -/
mutual
def pureD : PyData → Bool
  | .list _ => false
  | .dict _ => false
  | .tuple xs => pureDs xs
  | _ => true
def pureDs : List PyData → Bool
  | [] => true
  | x :: xs => pureD x && pureDs xs
end
mutual
theorem Dp.r {H : Hp} : ∀ {v : V} {d : PyData}, pureD d = true → Dp K H v d → Dr K H v d
  | _, _, _, .non => .non
  | _, _, _, .bl b => .bl b
  | _, _, _, .int i => .int i
  | _, _, _, .str x => .str x
  | _, _, n, .lst h a => by simp [pureD] at n
  | _, _, n, .tup h a => .tup h (DpAll.r (by simpa [pureD] using n) a)
theorem DpAll.r {H : Hp} : ∀ {vs : List V} {ds : List PyData}, pureDs ds = true → DpAll K H vs ds → DrAll K H vs ds
  | _, _, _, .nil => .nil
  | _, _, n, .cons h t => by
    have n' := n
    simp only [pureDs, Bool.and_eq_true] at n'
    exact .cons (Dp.r n'.1 h) (DpAll.r n'.2 t)
end
end
section
variable {X : Cx} {pins : List (Addr × Obj)} {σ : St} {H : Hp} {s : Shared}
mutual
theorem Dr.reads (I : Inv X pins σ H s) : ∀ {v : V} {d : PyData} {u : Value}, Dr X.K H v d → RelV v u → ∃ as, Reads s.heap u d as ∧ sysModules ∉ as
  | _, _, _, .non, r => by
    cases r
    exact ⟨_, Reads.none, fun h => nomatch h⟩
  | _, _, _, .bl b, r => by
    cases r
    exact ⟨_, Reads.bool b, fun h => nomatch h⟩
  | _, _, _, .int i, r => by
    obtain ⟨t, rfl⟩ := r
    exact ⟨_, Reads.int i t, fun h => nomatch h⟩
  | _, _, _, .str x, r => by
    obtain ⟨t, rfl⟩ := r
    exact ⟨_, Reads.str x t, fun h => nomatch h⟩
  | _, _, _, .lst (a := a) ne hs ha, r => by
    cases r
    obtain ⟨its, rv, ⟨o, n, ho, hc, _, hd⟩, _⟩ := I.list hs
    obtain ⟨as, hr, hn⟩ := DrAll.reads I ha rv
    refine ⟨_, Reads.list ho hc hd hr, fun hm => ?_⟩
    rcases List.mem_cons.mp hm with e | hm
    · exact ne e.symm
    · exact hn hm
  | _, _, _, .tup hs ha, r => by
    cases r
    obtain ⟨its, rv, ⟨o, ho, hc, n, hd⟩, _⟩ := I.tuple hs
    obtain ⟨as, hr, hn⟩ := DrAll.reads I ha rv
    exact ⟨_, Reads.tuple ho hc hd hr, hn⟩
  | _, _, _, .dct (a := a) (ps := ps) hs hk hv, r => by
    cases r
    obtain ⟨_, hlow, vs, kv, o, es, ep, ho, ⟨hc, _, _⟩, hd, _, hp, _⟩ := I.hok _ _ hs
    obtain ⟨v1, v2⟩ := kv_keys kv hp
    obtain ⟨as, r1, n1⟩ := DrAll.reads I hk v1
    obtain ⟨bs, r2, n2⟩ := DrAll.reads I hv v2
    refine ⟨_, Reads.dict ho hc hd r1 r2, fun hm => ?_⟩
    have hl := beq_eq_false_iff_ne.mp hlow
    rw [List.cons_append, List.mem_cons, List.mem_append] at hm
    rcases hm with hm | hm | hm
    · exact hl hm.symm
    · exact n1 hm
    · exact n2 hm
theorem DrAll.reads (I : Inv X pins σ H s) : ∀ {vs : List V} {ds : List PyData} {us : List Value}, DrAll X.K H vs ds → Vals vs us → ∃ as, ReadsAll s.heap us ds as ∧ sysModules ∉ as
  | _, _, _, .nil, r => by
    cases r
    exact ⟨_, ReadsAll.nil, fun h => nomatch h⟩
  | _, _, _, .cons h1 h2, r => by
    cases r with
    | cons r1 r2 =>
      obtain ⟨as, q1, n1⟩ := Dr.reads I h1 r1
      obtain ⟨bs, q2, n2⟩ := DrAll.reads I h2 r2
      refine ⟨_, ReadsAll.cons q1 q2, fun hm => ?_⟩
      rcases List.mem_append.mp hm with hm | hm
      · exact n1 hm
      · exact n2 hm
end
/-- a list written out: new, and not sys.modules -/
def tLstN (t : TA) : TE := fun σ H Q => t σ H fun xs H1 => xs.length ≤ sizeLine ∧ ∀ p, H1 p = none → p ≠ sysModules → Q (.ref p) (upd H1 p (.lst xs))
theorem pe_lstN {es : List Expr} {pos : Pos} {t : TA} (h : PA X es t) : PE X (.List es pos) (tLstN t) := by
  refine ⟨fun pins s σ H Q I hq => ?_⟩
  refine wpAny_List_spliced (thn (h.run pos pins s σ H _ I hq) fun us s1 ⟨xs, H1, I1, r, z, q⟩ => ⟨by rw [← r.length]; exact z, ?_⟩)
  have hf : H1 s1.heap.objs.size = none := I1.hok.fresh (Nat.le_refl _)
  have hb : s1.heap.objs.size ≠ sysModules := fun e => by
    have := I1.big
    rw [e] at this
    exact Nat.lt_irrefl _ this
  refine ⟨.ref s1.heap.objs.size, upd H1 s1.heap.objs.size (.lst xs), I1.laid (t' := s1.toks) (fun b u e => Heap.get?_push_of_some _ e) (Nat.le_refl _) ?_, rfl, q _ hf hb⟩
  exact ⟨z, us, 0, r, Heap.get?_push_size _ rfl⟩
structure shownR (d : PyData) : Prop where
  sh : d.showable = true
  dep : d.depth ≤ 64
  len : d.shown.length ≤ sizeLine
def rReprR (K : PySem.W.Frag) : List V → Hp → VK → Prop := fun xs H Q => ∃ (v : V) (d : PyData), xs = [v] ∧ Dr K H v d ∧ shownR d ∧ Q (.str d.shown) H
theorem call_reprR (hg : X.A.guards = some []) (hu : X.A.units + 70 < cLine) : CallR X (.builtin "repr") (rReprR X.K) := by
  intro pins s σ H xs us Q I r h
  obtain ⟨v, d, rfl, hd, ⟨hs, hdep, hl⟩, q⟩ := h
  obtain ⟨u, rfl, ru⟩ := vals1 r
  obtain ⟨as, rd, hm⟩ := Dr.reads I hd ru
  have big : ∀ a, u = Value.ref a → wpAny (model X.prog X.w) X.A (call (.builtin "repr") [u]) (EP X pins σ Q) X.xe s := fun a e => by
    subst e
    exact repr_of_reads' rd hs (fun _ => hm) hg (by omega) (fun _ _ e => e) (fun h' t tk k => ⟨.str d.shown, H, I.kept k, ⟨_, rfl⟩, q⟩) hl
  cases hd with
  | non =>
    cases ru
    exact PySem.P.repr_of_none ⟨.str _, H, I.tok _, ⟨_, rfl⟩, by simpa only [PyData.shown] using q⟩
  | bl b =>
    cases ru
    exact PySem.P.repr_of_bool ⟨.str _, H, I.tok _, ⟨_, rfl⟩, by simpa only [PyData.shown] using q⟩
  | int i =>
    obtain ⟨t, rfl⟩ := ru
    exact PySem.P.repr_of_int (by simpa [PyData.showable] using hs) ⟨.str _, H, I.tok _, ⟨_, rfl⟩, by simpa only [PyData.shown] using q⟩
  | str x =>
    obtain ⟨t, rfl⟩ := ru
    exact PySem.P.repr_of_str ⟨.str _, H, I.tok _, ⟨_, rfl⟩, by simpa only [PyData.shown] using q⟩ (by simpa only [PyData.shown] using hl)
  | lst _ _ => exact big _ ru
  | tup _ _ => exact big _ ru
  | dct _ _ _ => exact big _ ru
end
end L2
set_option Elab.async false
set_option linter.all false
set_option maxRecDepth 100000
set_option maxHeartbeats 4000000
namespace L2
open PySem PySem.Spec PyProof.Rows
/-! a def whose promise is asked only where no repr is under way -/
structure FnG (P : Program) (w : World) (K : PySem.W.Frag) (mg : Str → Option Value) (base : Heap) (CX : CXT) (k : Nat) (f : Addr) (fd : FuncData) (ps : List Str) (sp : Sp) : Prop where
  run : ∀ (A : Around) (outer : List Env) (s : Shared) (H : Hp) (args : Args) (us : List Value) (vs : List V) (Q : VK) (E : XK), A.guards = some [] → Room k A → Env0 P w K mg base A outer s H →
    BindsTo s fd args (ps.zip us) → Vals vs us → sp vs H Q E → codeAny (model P w) A (.call (.ref f) args) (CR CX outer P w H s Q E) s
section
variable {P : Program} {w : World} {K : PySem.W.Frag} {mg : Str → Option Value} {base : Heap} {CX : CXT} {k : Nat}
theorem fnG_of {f : Addr} {nm ql : Str} {pa : Arguments} {bd : List Stmt} {sc : Scope} {dV kV dc pm cdv ct oc : Value} {an od : Option Addr} {osl : Array (Option Value)} {N ps : List Str} {sp : Sp}
    (lk : K.lookup f = some ⟨oc, od, .func (PySem.W.fnOf nm ql pa bd sc dV kV dc pm an cdv ct), osl⟩) (hcd : PySem.W.codeIn K cdv ql = true) (S : FnScope N ps sc)
    (ln : ∀ vs H Q E, sp vs H Q E → vs.length = ps.length)
    (hb : ∀ (A : Around) (outer : List Env) (s : Shared) (H : Hp) (vs : List V) (Q : VK) (E : XK), (A.deeper (envOfC ql sc s.heap.objs.size f cdv)).guards = some [] → Room k (A.deeper (envOfC ql sc s.heap.objs.size f cdv)) → sp vs H Q E →
      ∃ t, PSs (cxOf CX P w K mg base N ql sc f cdv A outer s H E) bd t ∧ t { nx := fun _ H' => Q .non H', rt := Q } (start N vs) H) :
    FnG P w K mg base CX (k + 1) f (PySem.W.fnOf nm ql pa bd sc dV kV dc pm an cdv ct) ps sp := by
  constructor
  intro A outer s H args us vs Q E hg hr e0 hbd rv hsp
  have hln := ln _ _ _ _ hsp
  have inK : K.In s.heap := e0.mod.kin.keeps (fun b o e => (e0.bs b o e).1)
  have noL : s.heap.NoLimit := e0.mod.nolimit.keeps (fun b o e => (e0.bs b o e).1)
  have hkd : ∀ y ∈ ps.zip us, sc.names.lookup y.1 = some .local ∨ (sc.names.lookup y.1 = some .cell ∧ ((cellsFrom (s.heap.objs.size + 1) sc.names []).lookup y.1).isSome = true) := by
    rintro ⟨n, v⟩ hy
    rcases S.par n (List.of_mem_zip hy).1 with z | z
    · exact Or.inl z
    · exact Or.inr ⟨z, PySem.W.cellsFrom_some _ _ _ (Or.inl z)⟩
  refine codeAny_call_function hr.depth (inK _ _ lk) rfl S.co S.gen rfl
    (PySem.W.codeRec_of inK hcd) (hbd _ _ _ _ ?_)
  refine wpAny_newFunctionEnv_cells S.kind hkd
    (fun env he s1 x => ?_)
  subst he
  refine ⟨noL.keeps x.toInCall.keep, codeAny_func ?_⟩
  obtain ⟨t, ht, hq⟩ := hb A outer s H vs Q E hg (hr.deeper _) hsp
  have I0 := inv_start (CX := CX) (E := E) S hr.hd e0 hln rv x
  refine wpAny_mono (ht.run [] s1 (start N vs) H _ I0 hq)
    (fun fl s' hs => ?_) (fun e s' hs => hs)
  have done : ∀ {σ' : St} {H' : Hp} {v : V} {u : Value}, Inv (cxOf CX P w K mg base N ql sc f cdv A outer s H E) [] σ' H' s' → RelV v u → Q v H' → CE outer P w H s Q u s' := by
    intro σ' H' v u J r q
    exact ⟨v, H', J.os, J.bare, J.base, J.hok, r, q⟩
  cases fl with
  | ret u =>
    obtain ⟨v, σ', H', J, r, q⟩ := hs
    exact done J r q
  | next =>
    obtain ⟨σ', H', J, q⟩ := hs
    exact done (v := .non) (u := .none) J rfl q
  | brk => exact (hs.elim fun _ ⟨_, _, q⟩ => q.elim)
  | cont => exact (hs.elim fun _ ⟨_, _, q⟩ => q.elim)
/-- by its place in the text, as C8's -/
theorem fnG0 {x : Str} {st : Stmt} {f : Addr} {fd : FuncData} {N ps : List Str} {sp : Sp} (D : C8.Def K mg x st f fd) (S : FnScope N ps (C8.fnScope st)) (ln : ∀ vs H Q E, sp vs H Q E → vs.length = ps.length)
    (hb : ∀ (cdv : Value) (A : Around) (outer : List Env) (s : Shared) (H : Hp) (vs : List V) (Q : VK) (E : XK), (A.deeper (envOfC x (C8.fnScope st) s.heap.objs.size f cdv)).guards = some [] → Room k (A.deeper (envOfC x (C8.fnScope st) s.heap.objs.size f cdv)) → sp vs H Q E →
      ∃ t, PSs (cxOf C8.CX0 P w K mg base N x (C8.fnScope st) f cdv A outer s H E).nox (C8.fnBody st) t ∧ t { nx := fun _ H' => Q .non H', rt := Q } (start N vs) H) : FnG P w K mg base C8.CX0 (k + 1) f fd ps sp := by
  obtain ⟨oc, od, dV, kV, doc, pm, an, cdv, ct, osl, rfl, lk, hcd⟩ := D.fn.ex
  refine fnG_of lk hcd S ln (fun A outer s H vs Q E hg hr hsp => ?_)
  obtain ⟨t, h, q⟩ := hb cdv A outer s H vs Q E hg hr hsp
  exact ⟨t, h.nox, q⟩
end
/-- the law's call, from such a promise -/
theorem lawG {P : Program} {w : World} {K : PySem.W.Frag} {mg mb : Str → Option Value} {CX : CXT} {k : Nat} {fa a : Addr} {fd : FuncData} {x : Str} {sp : Sp} {s₁ : Shared} {vs : List Value} {ns : List Int}
    (KX : K.In s₁.heap) (hns : s₁.heap.Ns mainGlobals mg) (hb : s₁.heap.Ns builtinsNs mb) (hbb : ∀ x : Str, x ≠ "__name__" → mb x = bootBuiltins x) (hlim : s₁.heap.NoLimit) (hg : s₁.gens = #[])
    (ha : s₁.heap.get? a = some { cls := .type "list", data := .seq vs.toArray }) (hi : IntsAre vs ns) (hl : ns.length ≤ sizeLine) (hr : Room k callerA)
    (F : ∀ base : Heap, K.In base → base.Ns mainGlobals mg → FnG P w K mg base CX k fa fd [x] sp)
    (hbind : ∀ (s : Shared) (u : Value), BindsTo s fd ⟨[u], []⟩ [(x, u)])
    (hsp : ∀ H : Hp, Only H → SqL K H a (ns.map V.int) → sp [.ref a] H (fun v _ => v = .bl true) fun _ _ _ => False)
    (hCX : ∀ H e s', CX [] H s₁ (fun _ _ _ => False) e s' → False) :
    codeAny (model P w) callerA (.call (.ref fa) ⟨[.ref a], []⟩) (fun r s' => r = .ok (.ret (.bool true)) ∧ OldK s₁.heap s'.heap ∧ s'.os = s₁.os ∧ AllBare s'.gens) s₁ := by
  have vi := vals_ints hi
  have hvl := hi.length
  have main : ∀ H : Hp, Only H → SqL K H a (ns.map V.int) → HOk P w H s₁.heap → (∀ b, H b ≠ none → b = a) → (H a ≠ none → K.lookup a = none) →
      codeAny (model P w) callerA (.call (.ref fa) ⟨[.ref a], []⟩) (fun r s' => r = .ok (.ret (.bool true)) ∧ OldK s₁.heap s'.heap ∧ s'.os = s₁.os ∧ AllBare s'.gens) s₁ := by
    intro H only hS hok onlyA noK
    have free : ∀ {b : Addr} {o : Obj} {es : Array DictEntry} {ep : Nat}, s₁.heap.get? b = some o → o.data = .dict es ep → H b = none := by
      intro b o es ep e d
      cases q : H b with
      | none => rfl
      | some u =>
        have hba : b = a := onlyA b (by rw [q]; simp)
        subst hba
        rw [ha] at e
        cases e
        exact nomatch (show Data.seq vs.toArray _ = Data.dict es ep from d)
    have nsAt : ∀ {b : Addr} {m : Str → Option Value}, s₁.heap.Ns b m → (hidT s₁.heap H).Ns b m := by
      rintro b m ⟨o, es, ep, e, d, r⟩
      exact ⟨o, es, ep, hidT_get e (free e d), d, r⟩
    have inB : K.In (hidT s₁.heap H) := by
      intro b o e
      refine hidT_get (KX b o e) ?_
      cases q : H b with
      | none => rfl
      | some u =>
        have hba : b = a := onlyA b (by rw [q]; simp)
        subst hba
        rw [noK (by rw [q]; simp)] at e
        cases e
    have md : Mod K mg (hidT s₁.heap H) := by
      obtain ⟨mc, h1, h2⟩ := hlim
      exact ⟨inB, nsAt hns, ⟨mb, nsAt hb, hbb⟩, ⟨mc, nsAt h1, h2⟩⟩
    have e0 : Env0 P w K mg (hidT s₁.heap H) callerA [] s₁ H := by
      refine ⟨rfl, md, fun b o e => of_hidT e, Nat.le_of_eq (hidT_size _ _), trivial, ?_, hok, .of_eq hg⟩
      intro b hb
      exact absurd (show b ∈ ([] : List Addr) from hb) (by simp)
    have hrun := (F _ inB (nsAt hns)).run callerA [] s₁ H ⟨[.ref a], []⟩ [.ref a] [.ref a] _ _ rfl hr e0
      (hbind s₁ (.ref a)) (.cons rfl .nil) (hsp H only hS)
    refine codeAny_mono hrun (fun r s' h => ?_)
    cases r with
    | error e => exact (hCX H e s' h).elim
    | ok fl =>
      cases fl with
      | ret u =>
        obtain ⟨v, H', os, bare, un, hok', r', q⟩ := h
        have qv : v = .bl true := q
        subst qv
        have ru : u = Value.bool true := r'
        subst ru
        refine ⟨rfl, OldK.of_keep ?_, os, bare⟩
        intro b o e
        cases q : H b with
        | none => exact un.keep b o e q (fun z => absurd (show b ∈ ([] : List Addr) from z) (by simp)) (by simp)
        | some u =>
          rcases only b with z | ⟨ob, ys, z⟩
          · rw [q] at z
            cases z
          · obtain ⟨e1, _⟩ := hok b _ z
            obtain ⟨e2, _⟩ := hok' b _ (un.frzs b ob _ z)
            rw [e] at e1
            cases e1
            exact e2
      | next => exact False.elim h
      | brk => exact False.elim h
      | cont => exact False.elim h
  cases hk : K.lookup a with
  | some o =>
    have e := KX a o hk
    rw [ha] at e
    cases e
    refine main (fun _ => none) (fun _ => Or.inl rfl) (Or.inr ⟨_, vs.toArray, _, hk, rfl, rfl, rfl, ?_, ?_⟩) ?_ (fun b z => absurd rfl z) (fun z => absurd rfl z)
    · rw [List.size_toArray, hvl]
      exact hl
    · simpa using vi
    · intro b u z
      exact nomatch (show (none : Option HO) = some u from z)
  | none =>
    refine main (fun b => if b = a then some (.frz { cls := .type "list", data := .seq vs.toArray } (.lst (ns.map V.int))) else none) (fun b => ?_) (Or.inl (Or.inr ⟨_, if_pos rfl⟩)) (fun b u z => ?_) (fun b z => ?_) (fun _ => hk)
    · by_cases hba : b = a
      · exact Or.inr ⟨_, _, if_pos hba⟩
      · exact Or.inl (if_neg hba)
    · by_cases hba : b = a
      · have zz := (if_pos hba).symm.trans z
        cases zz
        subst hba
        exact ⟨ha, by rw [List.length_map]; exact hl, vs, _, vi, ha⟩
      · have zz := (if_neg hba).symm.trans z
        cases zz
    · by_cases hba : b = a
      · exact hba
      · exact absurd (if_neg hba) z
/-- the goal that the head leaves, from such a promise of the law's def -/
theorem walkG {l : PySem.W.OpenLaw} {n k : Nat} {q : Program} {loose : List Str} {XP : (Str → Option Value) → Heap → Prop} {YP : World → Heap → Prop} {d : DefRec} {K : Params → PySem.W.Frag} {sp : PySem.W.Frag → Sp} {x : Str}
    (hn : l.most = some n) (hn2 : n ≤ sizeLine) (hdf : d.params.defaults = []) (hr : Room k callerA) (hY : ∀ (w : World) (h : Heap), YP w h → (K w.params).In h)
    (F : ∀ (w : World) (mg : Str → Option Value) (fa : Addr) (h : Heap), (K w.params).In h → h.Ns mainGlobals mg → mg d.name = some (.ref fa) →
      ∃ fd : FuncData, (∀ (s : Shared) (u : Value), BindsTo s fd ⟨[u], []⟩ [(x, u)]) ∧ ∀ base : Heap, (K w.params).In base → base.Ns mainGlobals mg → FnG l.prog w (K w.params) mg base C8.CX0 k fa fd [x] (sp (K w.params)))
    (hsp : ∀ (K : PySem.W.Frag) (H : Hp) (a : Addr) (ns : List Int), ns.length ≤ n → Only H → SqL K H a (ns.map V.int) → sp K [.ref a] H (fun v _ => v = .bl true) fun _ _ _ => False) :
    PySem.W.WalkO q loose XP YP l.row.toRowW d [] (fun f vs => PySem.call f vs) := by
  refine Att.attach_call hn hdf ?_
  intro w s₀ s₁ mg mb fa o pm cd doc a vs ns G Y ho hd hcd hmg hobj hints hlen hg
  have inK := hY w _ Y
  obtain ⟨fd, hb, hF⟩ := F w mg fa _ inK G.T.g hmg
  exact lawG inK G.T.g G.T.b G.T.builtins G.T.nolimit hg hobj hints (Nat.le_trans hlen hn2) hr hF hb (fun H hO hS => hsp _ H a ns hlen hO hS) (fun H e s' z => z)
end L2
set_option Elab.async false
set_option linter.all false
set_option maxRecDepth 100000
set_option maxHeartbeats 4000000
namespace L2
open PySem PySem.Spec PyProof.Rows
/-- a def by its name, its promise asked only where no repr is under way -/
structure CalG (P : Program) (w : World) (K : PySem.W.Frag) (mg : Str → Option Value) (base : Heap) (k : Nat) (x : Str) (sp : Sp) : Prop where
  ex : ∃ (f : Addr) (fd : FuncData) (ps : List Str), (∀ vs H Q E, sp vs H Q E → vs.length = ps.length) ∧ FnG P w K mg base C8.CX0 k f fd ps sp ∧ mg x = some (.ref f) ∧ PySem.W.keepIn K (.ref f) = true ∧ Binds K fd ps []
section
variable {X : Cx} {k j : Nat} {x : Str} {sp : Sp} {p pos : Pos} {e : Expr} {es : List Expr} {t : TA}
theorem pe_cg (c : CalG X.prog X.w X.K X.mg X.base k x sp) (hgd : X.A.guards = some []) (hr : Room j X.A) (hk : k ≤ j) (hg : Gl X x) (ha : PA X (e :: es) t)
    (hdb : (x == ("__debug__" : Str)) = false := by decide) (he : starEach (e :: es) X.env = (false, eval e X.env) :: starEach es X.env := by rfl) (hpl : (backTo pos (starEach es X.env)).any (·.1) = false := by rfl) :
    PE X (.Call (.Name x p) (e :: es) [] pos) (tCall sp [] C8.E0 t) := by
  obtain ⟨f, fd, ps, ln, F, hm, kp, hb⟩ := c.ex
  refine ⟨fun pins s σ H Q I h => ?_⟩
  refine wpAny_Call_Name_kw (ld_glob I hg hm ?_ hdb)
  refine PySem.W.callWith_K (h₀ := X.base) I.ok.mod.kin kp (thn (ha.run pos pins s σ H _ I h) fun us s1 ⟨vs, H1, I1, r, q⟩ => ⟨I1.kIn, ?_⟩) he hpl
  have r2 : Vals (vs ++ []) (us ++ []) := r.append .nil
  have hl : (us ++ []).length = ps.length := by rw [← r2.length]; exact ln _ _ _ _ q
  refine wpAny_call (codeAny_mono (F.run X.A X.stack s1 H1 ⟨us, []⟩ (us ++ []) (vs ++ []) Q C8.E0 hgd (hr.mono hk) I1.env0 (hb s1 us I1.kIn hl) r2 q) fun r s' hq => ?_)
  cases r with
  | error e => exact (C8.pass0 (X := X) (E := C8.E0)) pins σ H1 s1 e s' I1 hq
  | ok fl =>
    cases fl with
    | ret u => exact I1.after hq
    | next => exact False.elim hq
    | brk => exact False.elim hq
    | cont => exact False.elim hq
end
end L2
set_option Elab.async false
set_option linter.all false
set_option maxRecDepth 100000
set_option maxHeartbeats 4000000
/-! *d of a dict in a list written out; d != {}; small data; data of tuples alone. -/
namespace L2
open PySem PySem.Spec PyProof.Rows
section
variable {X : Cx} {pins : List (Addr × Obj)} {σ : L2.St} {H : Hp} {s : Shared}
theorem star_dct (hcalm : X.calm = true) {a : Addr} {kvs : List (Key × V)} {E : Value → Shared → Prop} {Q : List Value → Shared → Prop} (I : Inv X pins σ H s) (h : H a = some (.dK kvs)) (hQ : ∀ us s', Inv X pins σ H s' → Vals (kvs.map fun q => kV q.1) us → Q us s') : PySem.W.StarOf (model X.prog X.w) X.A E (.ref a) Q s := by
  obtain ⟨z, lo, vs, rel, dd⟩ := dk_rd I.hok (.inl h)
  obtain ⟨ep, hat⟩ := dd.dictAt
  have hl : vs.length = kvs.length := rel.length.symm
  have hT : s.TypeIs (.ref a) "dict" := dd.typeIs
  have w : wpAny (model X.prog X.w) X.A (collect (.ref a)) Q E s := by
    refine PySem.W.kdu_collect (A := X.A) (PySem.W.kdl_dict (knd := mixKind X.prog X.w) (kvs := vs) (ep := ep) lo) (I.ok.hd hcalm) hat (by omega) fun h' tk acc hk hacc => ?_
    refine hQ _ _ (I.kept hk) ?_
    have e : (kvs.map fun q => kV q.1) = vs.map fun q => kV q.1 := by
      have e1 := rel.keys
      have e2 : (kvs.map (·.1)).map kV = (vs.map (·.1)).map kV := by rw [e1]
      simpa [List.map_map, Function.comp_def] using e2
    rw [e]
    refine keys_at (by rw [Array.length_toList, hacc.1]) fun j v hv => ?_
    exact hacc.2 j v (by rw [← Array.getElem?_toList]; exact hv)
  unfold PySem.W.StarOf notIterableAtAll
  exact wpAny_bind (wpAny_specialOf hT PySem.F.slot_dict_iter.lookup (wpAny_pure ⟨rfl, w⟩))
/-- *d in a list: the keys of a dict -/
def tStarD (te : TE) (t : TA) : TA := fun σ H Q => te σ H fun x H1 => ∃ p kvs, x = V.ref p ∧ H1 p = some (.dK kvs) ∧ t σ H1 fun ys H2 => Q ((kvs.map fun q => kV q.1) ++ ys) H2
theorem pa_starD (hcalm : X.calm = true) {e : Expr} {es : List Expr} {te : TE} {t : TA} {p : Pos} (he : PE X e te) (hr : PA X es t) (hs : starEach (.Starred e p :: es) X.env = (true, eval e X.env) :: starEach es X.env := by rfl) : PA X (.Starred e p :: es) (tStarD te t) := by
  refine ⟨fun pos pins s σ H Q I h => ?_⟩
  refine PySem.W.items_star (thn (he.run pins s σ H _ I h) fun v s1 ⟨y, H1, I1, ry, a, kvs, ey, hx, q⟩ => ?_) hs
  subst ey
  obtain rfl : v = Value.ref a := ry
  refine star_dct hcalm I1 hx fun us s2 I2 rv => ?_
  exact thn (hr.run pos pins s2 σ H1 _ I2 q) fun ws s3 ⟨vs, H3, I3, r3, q3⟩ => ⟨_, H3, I3, rv.append r3, q3⟩
def rNeE : R2 := fun x y H Q => ∃ a b ks, x = .ref a ∧ y = .ref b ∧ H a = some (.dK ks) ∧ H b = some (.dK []) ∧ Q (.bl (!ks.isEmpty)) H
theorem op_neE (hu : X.A.units < cLine) : OpR X (compareOp .NotEq) rNeE := by
  intro pins s σ H x y v u Q I rx ry h
  obtain ⟨a, b, ks, rfl, rfl, ea, eb, q⟩ := h
  obtain rfl : v = Value.ref a := rx
  obtain rfl : u = Value.ref b := ry
  obtain ⟨_, ya, va, ra, da⟩ := (show ObjOk X.prog X.w H s.heap a (.dK ks) from I.hok a _ ea)
  obtain ⟨_, yb, vb, rb, db⟩ := (show ObjOk X.prog X.w H s.heap b (.dK []) from I.hok b _ eb)
  cases rb
  have hl : va.length = ks.length := ra.length.symm
  refine PySem.W.keq_ne (knd := mixKind X.prog X.w) (r := true) ya yb da db hu (fun e => ?_) ⟨.bl _, H, I, rfl, ?_⟩
  · cases va with
    | nil => exact .nil
    | cons p r => cases e
  · have e : (va.length == ([] : List (Key × Value)).length && true) = ks.isEmpty := by
      rw [hl]
      cases ks <;> rfl
    rw [e]
    exact q
end
end L2

/-! ### small data -/
namespace KD
open PySem PySem.Spec PyProof.Rows L2
structure Ok (n m : Nat) (d : PyData) : Prop where
  dep : d.depth ≤ n
  wt : d.weight ≤ m
  ls : d.leavesShort 14 = true
  shw : d.showable = true
structure OkAll (n m : Nat) (ds : List PyData) : Prop where
  dep : PyData.depthAll ds ≤ n
  wt : PyData.weightAll ds ≤ m
  ls : PyData.leavesShortAll 14 ds = true
  shw : PyData.showableAll ds = true
theorem Ok.mono {n m n' m' : Nat} {d : PyData} (h : Ok n m d) (hn : n ≤ n') (hm : m ≤ m') : Ok n' m' d := ⟨Nat.le_trans h.dep hn, Nat.le_trans h.wt hm, h.ls, h.shw⟩
theorem OkAll.mono {n m n' m' : Nat} {ds : List PyData} (h : OkAll n m ds) (hn : n ≤ n') (hm : m ≤ m') : OkAll n' m' ds := ⟨Nat.le_trans h.dep hn, Nat.le_trans h.wt hm, h.ls, h.shw⟩
theorem OkAll.nil {n m : Nat} : OkAll n m [] := ⟨by simp [PyData.depthAll], by simp [PyData.weightAll], by simp [PyData.leavesShortAll], by simp [PyData.showableAll]⟩
theorem OkAll.cons {n a b : Nat} {d : PyData} {ds : List PyData} (h : Ok n a d) (t : OkAll n b ds) : OkAll n (a + 1 + b) (d :: ds) :=
  ⟨by simp only [PyData.depthAll]; exact Nat.max_le.mpr ⟨h.dep, t.dep⟩, by simp only [PyData.weightAll]; have := h.wt; have := t.wt; omega, by simp only [PyData.leavesShortAll, h.ls, t.ls, Bool.and_self], by simp only [PyData.showableAll, h.shw, t.shw, Bool.and_self]⟩
theorem OkAll.app {n : Nat} : ∀ {a b : Nat} {ds es : List PyData}, OkAll n a ds → OkAll n b es → OkAll n (a + b) (ds ++ es)
  | a, b, [], es, _, t => t.mono (Nat.le_refl _) (Nat.le_add_left _ _)
  | a, b, d :: ds, es, h, t => by
    have hd : max d.depth (PyData.depthAll ds) ≤ n := by simpa only [PyData.depthAll] using h.dep
    have hw : d.weight + 1 + PyData.weightAll ds ≤ a := by simpa only [PyData.weightAll] using h.wt
    have hl : d.leavesShort 14 = true ∧ PyData.leavesShortAll 14 ds = true := by simpa [PyData.leavesShortAll] using h.ls
    have hv : d.showable = true ∧ PyData.showableAll ds = true := by simpa [PyData.showableAll] using h.shw
    have h1 : Ok n d.weight d := ⟨Nat.le_trans (Nat.le_max_left _ _) hd, Nat.le_refl _, hl.1, hv.1⟩
    have h2 : OkAll n (a - d.weight - 1) ds := ⟨Nat.le_trans (Nat.le_max_right _ _) hd, by omega, hl.2, hv.2⟩
    exact (OkAll.cons h1 (OkAll.app h2 t)).mono (Nat.le_refl _) (by omega)
theorem Ok.tup {n m : Nat} {ds : List PyData} (h : OkAll n m ds) : Ok (n + 1) m (.tuple ds) :=
  ⟨by simp only [PyData.depth]; have := h.dep; omega, by simp only [PyData.weight]; exact h.wt, by simp only [PyData.leavesShort, h.ls], by simp only [PyData.showable, h.shw]⟩
theorem Ok.lst {n m : Nat} {ds : List PyData} (h : OkAll n m ds) : Ok (n + 1) m (.list ds) :=
  ⟨by simp only [PyData.depth]; have := h.dep; omega, by simp only [PyData.weight]; exact h.wt, by simp only [PyData.leavesShort, h.ls], by simp only [PyData.showable, h.shw]⟩
theorem Ok.str {n m : Nat} {z : Str} (hl : z.length ≤ m) (hc : ∀ c ∈ z.cps.toList, c < 128) : Ok n m (.str z) := by
  refine ⟨by simp [PyData.depth], by simp only [PyData.weight]; exact hl, ?_, by simp [PyData.showable]⟩
  simp only [PyData.leavesShort, List.all_eq_true, decide_eq_true_eq]
  intro c h
  have := hc c h
  have e : (16 : Nat) ^ 8 = 4294967296 := by decide
  omega
theorem Ok.bool {n m : Nat} (b : Bool) : Ok n m (.bool b) := ⟨by simp [PyData.depth], by simp [PyData.weight], rfl, rfl⟩
theorem Ok.none {n m : Nat} : Ok n m .none := ⟨by simp [PyData.depth], by simp [PyData.weight], rfl, rfl⟩
theorem Ok.num {n m : Nat} {i : Int} (h0 : -10000000000000 < i) (h1 : i < 10000000000000) (hm : 50 ≤ m) : Ok n m (.int i) := by
  have hl : i.natAbs < 2 ^ 44 := by
    have : (2 : Nat) ^ 44 = 17592186044416 := by decide
    omega
  refine ⟨by simp [PyData.depth], ?_, ?_, ?_⟩
  · simp only [PyData.weight]
    split
    · exact Nat.zero_le _
    · have := PySem.Flt.log2_lt_of (by decide : 0 < 44) hl
      omega
  · simp only [PyData.leavesShort, decide_eq_true_eq]
    show (Str.ofString (toString i)).length ≤ 14
    have e13 : (10 : Int) ^ 13 = 10000000000000 := by decide
    by_cases hn : 0 ≤ i
    · have := PyProof.Rows.toString_length_le hn (k := 13) (by decide) (by omega)
      omega
    · have e := PyProof.Rows.len_text_negI (n := i) (by omega)
      have := PyProof.Rows.toString_length_le (v := 0 - i) (by omega) (k := 13) (by decide) (by omega)
      omega
  · have := PySem.Flt.log2_lt_of (by decide : 0 < 44) hl
    simp only [PyData.showable, decide_eq_true_eq]
    omega
structure OkKv (n m : Nat) (ps : List (PyData × PyData)) : Prop where
  dep : PyData.depthKv ps ≤ n
  wt : PyData.weightKv ps ≤ m
  ls : PyData.leavesShortKv 14 ps = true
  shw : PyData.showableKv ps = true
theorem OkKv.nil {n m : Nat} : OkKv n m [] := ⟨by simp [PyData.depthKv], by simp [PyData.weightKv], by simp [PyData.leavesShortKv], by simp [PyData.showableKv]⟩
theorem OkKv.mono {n m n' m' : Nat} {ps : List (PyData × PyData)} (h : OkKv n m ps) (hn : n ≤ n') (hm : m ≤ m') : OkKv n' m' ps := ⟨Nat.le_trans h.dep hn, Nat.le_trans h.wt hm, h.ls, h.shw⟩
theorem OkKv.cons {n a b : Nat} {k v : PyData} {ps : List (PyData × PyData)} (hk : Ok n a k) (hv : Ok n a v) (t : OkKv n b ps) : OkKv n (2 * a + 2 + b) ((k, v) :: ps) :=
  ⟨by simp only [PyData.depthKv]; exact Nat.max_le.mpr ⟨Nat.max_le.mpr ⟨hk.dep, hv.dep⟩, t.dep⟩, by simp only [PyData.weightKv]; have := hk.wt; have := hv.wt; have := t.wt; omega, by simp only [PyData.leavesShortKv, hk.ls, hv.ls, t.ls, Bool.and_self], by simp only [PyData.showableKv, hk.shw, hv.shw, t.shw, Bool.and_self]⟩
theorem Ok.dict {n m : Nat} {ps : List (PyData × PyData)} (h : OkKv n m ps) : Ok (n + 1) m (.dict ps) :=
  ⟨by simp only [PyData.depth]; have := h.dep; omega, by simp only [PyData.weight]; exact h.wt, by simp only [PyData.leavesShort, h.ls], by simp only [PyData.showable, h.shw]⟩
theorem Ok.shown {n m : Nat} {d : PyData} (h : Ok n m d) (hn : n ≤ 64) (hm : m ≤ 100000) (hk : nl d = true) : shownQ d := by
  have hw := h.wt
  have := PyData.shown_le 14 (by decide) d h.ls
  have hd := h.dep
  exact ⟨h.shw, by omega, by rw [sizeLine_eq]; omega, fun _ => hk⟩
theorem Ok.shownR_ {n m : Nat} {d : PyData} (h : Ok n m d) (hn : n ≤ 64) (hm : m ≤ 100000) : shownR d := by
  have hw := h.wt
  have := PyData.shown_le 14 (by decide) d h.ls
  have hd := h.dep
  exact ⟨h.shw, by omega, by rw [sizeLine_eq]; omega⟩
/-! ### tuples stay -/
def TupS (H H' : Hp) : Prop := ∀ b xs, H b = some (.tup xs) → H' b = some (.tup xs)
theorem TupS.refl (H : Hp) : TupS H H := fun _ _ h => h
theorem TupS.trans {H H1 H2 : Hp} (a : TupS H H1) (b : TupS H1 H2) : TupS H H2 := fun c xs h => b c xs (a c xs h)
theorem TupS.same {H H' : Hp} (e : Same H H') : TupS H H' := fun b xs h => e _ _ h
theorem TupS.new {H : Hp} {q : Addr} {o : HO} (h : H q = none) : TupS H (upd H q o) := TupS.same (Same.new h)
theorem TupS.put {H : Hp} {q : Addr} {xs : List V} {o : HO} (h : H q = some (.lst xs)) : TupS H (upd H q o) := fun b ys e => by
  have n : b ≠ q := fun z => by
    rw [z, h] at e
    cases e
  rw [upd_ne n]
  exact e
theorem TupS.dput {H : Hp} {q : Addr} {xs : List (Key × V)} {o : HO} (h : H q = some (.dK xs)) : TupS H (upd H q o) := fun b ys e => by
  have n : b ≠ q := fun z => by
    rw [z, h] at e
    cases e
  rw [upd_ne n]
  exact e
/-! ### data of tuples alone -/
mutual
inductive Td (H : Hp) : V → PyData → Prop
  | bl (b : Bool) : Td H (.bl b) (.bool b)
  | int (i : Int) : Td H (.int i) (.int i)
  | str (x : Str) : Td H (.str x) (.str x)
  | tup {a : Addr} {xs : List V} {ds : List PyData} : H a = some (.tup xs) → TdAll H xs ds → Td H (.ref a) (.tuple ds)
inductive TdAll (H : Hp) : List V → List PyData → Prop
  | nil : TdAll H [] []
  | cons {v : V} {vs : List V} {d : PyData} {ds : List PyData} : Td H v d → TdAll H vs ds → TdAll H (v :: vs) (d :: ds)
end
mutual
theorem Td.mono {H H' : Hp} (e : TupS H H') : ∀ {v : V} {d : PyData}, Td H v d → Td H' v d
  | _, _, .bl b => .bl b
  | _, _, .int i => .int i
  | _, _, .str x => .str x
  | _, _, .tup h a => .tup (e _ _ h) (TdAll.mono e a)
theorem TdAll.mono {H H' : Hp} (e : TupS H H') : ∀ {vs : List V} {ds : List PyData}, TdAll H vs ds → TdAll H' vs ds
  | _, _, .nil => .nil
  | _, _, .cons h t => .cons (Td.mono e h) (TdAll.mono e t)
end
mutual
theorem Td.p {K : PySem.W.Frag} {H : Hp} : ∀ {v : V} {d : PyData}, Td H v d → Dp K H v d
  | _, _, .bl b => .bl b
  | _, _, .int i => .int i
  | _, _, .str x => .str x
  | _, _, .tup h a => .tup (SqT.of h) (TdAll.p a)
theorem TdAll.p {K : PySem.W.Frag} {H : Hp} : ∀ {vs : List V} {ds : List PyData}, TdAll H vs ds → DpAll K H vs ds
  | _, _, .nil => .nil
  | _, _, .cons h t => .cons (Td.p h) (TdAll.p t)
end
mutual
theorem Td.nl {H : Hp} : ∀ {v : V} {d : PyData}, Td H v d → L2.nl d = true
  | _, _, .bl b => by simp [L2.nl]
  | _, _, .int i => by simp [L2.nl]
  | _, _, .str x => by simp [L2.nl]
  | _, _, .tup h a => by simpa [L2.nl] using TdAll.nl a
theorem TdAll.nl {H : Hp} : ∀ {vs : List V} {ds : List PyData}, TdAll H vs ds → nls ds = true
  | _, _, .nil => by simp [nls]
  | _, _, .cons h t => by simp [nls, Td.nl h, TdAll.nl t]
end
theorem TdAll.app {H : Hp} : ∀ {vs ws : List V} {ds es : List PyData}, TdAll H vs ds → TdAll H ws es → TdAll H (vs ++ ws) (ds ++ es)
  | _, _, _, _, .nil, t => t
  | _, _, _, _, .cons h s, t => .cons h (TdAll.app s t)
theorem TdAll.len {H : Hp} : ∀ {vs : List V} {ds : List PyData}, TdAll H vs ds → vs.length = ds.length
  | _, _, .nil => rfl
  | _, _, .cons _ t => congrArg (· + 1) (TdAll.len t)
theorem Td.newT {q : Addr} {H : Hp} {xs : List V} {ds : List PyData} (hq : H q = none) (h : TdAll H xs ds) : Td (upd H q (.tup xs)) (.ref q) (.tuple ds) := .tup upd_same (h.mono (TupS.new hq))
theorem td_strs {H : Hp} : ∀ zs : List Str, TdAll H (zs.map V.str) (zs.map PyData.str)
  | [] => .nil
  | z :: zs => .cons (.str z) (td_strs zs)
theorem ok_strs {n m : Nat} : ∀ {zs : List Str}, (∀ z ∈ zs, z.length ≤ m ∧ ∀ c ∈ z.cps.toList, c < 128) → OkAll n (zs.length * (m + 1)) (zs.map PyData.str)
  | [], _ => .nil
  | z :: zs, h => (OkAll.cons (a := m) (.str (h z List.mem_cons_self).1 (h z List.mem_cons_self).2) (ok_strs fun y hy => h y (List.mem_cons_of_mem _ hy))).mono (Nat.le_refl _) (by rw [List.length_cons, Nat.succ_mul]; omega)
end KD
set_option Elab.async false
set_option linter.all false
set_option maxRecDepth 100000
set_option maxHeartbeats 4000000
namespace K25
open PySem PySem.Spec PyProof.Rows L2 KD
open C8 (Cal Def cal0 pe_c fnBody fnScope fnArgs)

def topS (i : Nat) : Stmt := PySem.Challenge.pw_changewhile_k25_parts_told_apart.main.body.getD i (.Pass ⟨0, 0, 0, 0⟩)
/-- what the module's names hold that are no defs -/
structure Tp (mg : Str → Option Value) : Prop where
  n_isinstance : mg "isinstance" = none
  n_str : mg "str" = none
  n_tuple : mg "tuple" = none
  n_bool : mg "bool" = none
  n_list : mg "list" = none
  n_len : mg "len" = none
  n_range : mg "range" = none
  n_int : mg "int" = none
  n_set : mg "set" = none
  n_sorted : mg "sorted" = none
  n_all : mg "all" = none
  n_zip : mg "zip" = none
  n_repr : mg "repr" = none
  n_max : mg "max" = none
  g_LONGEST_NAME : ∃ u, mg "LONGEST_NAME" = some u ∧ RelV (.int 8) u
  g_NUMBERS : ∃ u, mg "NUMBERS" = some u ∧ RelV (.int 1000000000000) u
  g_MOST_LISTED : ∃ u, mg "MOST_LISTED" = some u ∧ RelV (.int 8) u

/-! ### the pot: three numbers, the third told -/
def Pt (H : Hp) (p : Addr) (n : Int) : Prop := ∃ x y : Int, H p = some (.lst [.int x, .int y, .int n]) ∧ 0 ≤ x ∧ 0 ≤ y ∧ y < 1099511627776
/-- all but the pot stays, and the pot stays one -/
def Go (p : Addr) (n : Int) (H H' : Hp) : Prop := But p H H' ∧ Pt H' p n
theorem Pt.ne {H : Hp} {p q : Addr} {n : Int} (h : Pt H p n) (hq : H q = none) : q ≠ p := fun e => by
  obtain ⟨x, y, a, _⟩ := h
  subst e
  rw [a] at hq
  cases hq
theorem Pt.same {H H' : Hp} {p : Addr} {n : Int} (h : Pt H p n) (e : Same H H') : Pt H' p n := let ⟨x, y, a, r⟩ := h; ⟨x, y, e _ _ a, r⟩
theorem Pt.new {H : Hp} {p q : Addr} {n : Int} {o : HO} (h : Pt H p n) (hq : H q = none) : Pt (upd H q o) p n := h.same (Same.new hq)
theorem Go.refl {p : Addr} {n : Int} {H : Hp} (h : Pt H p n) : Go p n H H := ⟨But.refl p H, h⟩
theorem Go.trans {p : Addr} {n m : Int} {H H1 H2 : Hp} (a : Go p n H H1) (b : Go p m H1 H2) : Go p m H H2 := ⟨a.1.trans b.1, b.2⟩
theorem Go.new {p q : Addr} {n : Int} {H H1 : Hp} {o : HO} (a : Go p n H H1) (hq : H1 q = none) : Go p n H (upd H1 q o) := ⟨a.1.trans (But.new hq), a.2.new hq⟩
theorem Go.same {p : Addr} {n : Int} {H H1 H2 : Hp} (a : Go p n H H1) (e : Same H1 H2) : Go p n H H2 := ⟨a.1.trans (But.same e), a.2.same e⟩
theorem Go.ne {p q : Addr} {n : Int} {H H1 : Hp} (a : Go p n H H1) (hq : H1 q = none) : q ≠ p := a.2.ne hq
theorem Go.put {p : Addr} {H H1 : Hp} {x y n : Int} (a : But p H H1) (h0 : 0 ≤ x) (h1 : 0 ≤ y) (h2 : y < 1099511627776) : Go p n H (upd H1 p (.lst [.int x, .int y, .int n])) := ⟨a.pot, x, y, upd_same, h0, h1, h2⟩
theorem Go.at {p b : Addr} {n : Int} {H H1 : Hp} {o : HO} (a : Go p n H H1) (nb : b ≠ p) (h : H b = some o) : H1 b = some o := a.1 b o nb h
theorem Go.tups {p : Addr} {n m : Int} {H H' : Hp} (hp : Pt H p n) (g : Go p m H H') : TupS H H' := fun b xs e => by
  obtain ⟨x, y, a, _⟩ := hp
  refine g.1 b _ (fun z => ?_) e
  rw [z, a] at e
  cases e
theorem small300 {n : Int} (h0 : 0 ≤ n) (h : n < 1000000) : n.natAbs < 2 ^ 300 := by
  have h1 : n.natAbs < 1000000 := by omega
  have h2 : (1000000 : Nat) ≤ 2 ^ 300 := Nat.le_trans (by decide : (1000000 : Nat) ≤ 2 ^ 20) (Nat.pow_le_pow_right (by decide) (by decide))
  exact Nat.lt_of_lt_of_le h1 h2
theorem ne_new {H : Hp} {a b : Addr} {o : HO} (h : upd H a o b = none) : a ≠ b := fun z => by
  rw [← z, upd_same] at h
  cases h
theorem ne_some {H : Hp} {a b : Addr} {o : HO} (h : H a = some o) (hb : H b = none) : a ≠ b := fun z => by
  rw [z, hb] at h
  cases h
theorem ne_obj {H : Hp} {a b : Addr} {o o2 : HO} (h : H a = some o) (h2 : H b = some o2) (n : o ≠ o2) : a ≠ b := fun z => by
  rw [z, h2] at h
  exact n (Option.some.inj h).symm
theorem iteT' {c : Bool} {A B : Prop} (e : c = true) (h : A) : if c = true then A else B := by
  subst e
  exact iteT h
theorem iteF' {c : Bool} {A B : Prop} (e : c = false) (h : B) : if c = true then A else B := by
  subst e
  exact iteF h
/-! ### arithmetic -/
theorem fmod_lo {a n : Int} (h : 0 < n) : 0 ≤ a.fmod n := by
  rw [Int.fmod_eq_emod_of_nonneg a (by omega)]
  exact Int.emod_nonneg a (by omega)
theorem fmod_hi {a n : Int} (h : 0 < n) : a.fmod n < n := by
  rw [Int.fmod_eq_emod_of_nonneg a (by omega)]
  exact Int.emod_lt_of_pos a h
theorem div_lo {a n : Int} (h : 0 < n) (ha : 0 ≤ a) : 0 ≤ a / n := Int.ediv_nonneg ha (by omega)
/-- one of a list, by an int within it -/
theorem pick {xs : List V} {r : Int} (h0 : 0 ≤ r) (h1 : r < (xs.length : Int)) : ∃ v ∈ xs, atI xs r = some v := by
  have e : r = (r.toNat : Int) := by omega
  have l : r.toNat < xs.length := by omega
  refine ⟨xs[r.toNat], List.getElem_mem l, ?_⟩
  have h : atI xs (r.toNat : Int) = some xs[r.toNat] := atI_nat (List.getElem?_eq_getElem l)
  rw [← e] at h
  exact h

section
variable {P : Program} {w : World} {K : PySem.W.Frag} {mg : Str → Option Value} {base : Heap}
/-! ### the drawing -/
abbrev sLTake : Stmt := topS 35
abbrev NLTake : List Str := ["_law_pot_here", "_law_many", "_law_digit"]
theorem scLTake : FnScope NLTake ["_law_pot_here", "_law_many"] (fnScope sLTake) := ⟨rfl, rfl, rfl, by decide +kernel, rfl, by decide +kernel, by decide +kernel⟩
def spTake : Sp := fun vs H Q _ => ∃ (p : Addr) (m n : Int), vs = [.ref p, .int n] ∧ Pt H p m ∧ 0 < n ∧ n.natAbs < 2 ^ 300 ∧ ∀ r H', 0 ≤ r → r < n → Go p m H H' → Q (.int r) H'
theorem c_take {f : Addr} {fd : FuncData} (D : Def K mg "_law_take" sLTake f fd) (b : Binds K fd ["_law_pot_here", "_law_many"] []) : Cal P w K mg base 1 "_law_take" spTake [] := by
  refine cal0 D b .nil scLTake (fun vs H Q E h => ?_) (fun cdv A outer s H vs Q E hr h => ?_)
  · obtain ⟨p, m, n, rfl, _⟩ := h
    rfl
  · obtain ⟨p, m, n, rfl, ⟨x, y, hl, h0, h1, h2⟩, n0, n1, q⟩ := h
    have nd := scLTake.nd
    refine ⟨_, (pss_cons (ps_if (pt_cmpR op_gt (pe_ix ix_list (pv 0) pe_int (fun _ _ => rfl)) pe_int (nomark _))
      (pss_cons (ps_set (i := 2) nd rfl (.inl rfl) (pe_op op_modN (pe_ix ix_list (pv 0) pe_int (fun _ _ => rfl)) (pv 1)))
      (pss_cons (ps_asg (pe_op op_fdivW (pe_ix ix_list (pv 0) pe_int (fun _ _ => rfl)) (pv 1)) (pg_sub (pv 0) pe_int set_list))
      (pss_one (ps_ret (pv 2)))))
      pss_nil)
    (pss_cons (ps_asg (pe_op op_modN (pe_op op_add (pe_op op_mul (pe_ix ix_list (pv 0) pe_int (fun _ _ => rfl)) pe_int) pe_int) pe_int) (pg_sub (pv 0) pe_int set_list))
    (pss_one (ps_ret (pe_op op_modN (pe_op op_fdivW (pe_op op_modN (pe_op op_mul (pe_ix ix_list (pv 0) pe_int (fun _ _ => rfl)) (pe_ix ix_list (pv 0) pe_int (fun _ _ => rfl))) pe_int) pe_int) (pv 1)))))), ?_⟩
    refine ⟨_, rfl, _, _, _, _, rfl, rfl, SqL.of hl, atI_nat (j := 0) rfl, _, _, rfl, rfl, _, rfl, ite2 (fun e => ?_) (fun e => ?_)⟩
    · refine ⟨_, rfl, _, _, _, _, rfl, rfl, SqL.of hl, atI_nat (j := 0) rfl, _, rfl, _, _, rfl, rfl, (show n ≠ 0 by omega), ?_⟩
      refine ⟨_, rfl, _, _, _, _, rfl, rfl, SqL.of hl, atI_nat (j := 0) rfl, _, rfl, _, _, rfl, rfl, wide_div n0 n1 (by decide) (by decide), ?_⟩
      refine ⟨_, rfl, _, _, _, _, rfl, rfl, hl, rfl, ?_⟩
      refine ⟨_, rfl, ?_⟩
      exact q _ _ (fmod_lo n0) (fmod_hi n0) (Go.put (But.refl p H) (div_lo n0 h0) h1 h2)
    · refine ⟨_, rfl, _, _, _, _, rfl, rfl, SqL.of hl, atI_nat (j := 1) rfl, _, _, rfl, rfl, .inl ⟨by omega, by omega⟩, _, _, rfl, rfl, _, _, rfl, rfl, (by show (2147483629 : Int) ≠ 0; decide), ?_⟩
      refine ⟨_, rfl, _, _, _, _, rfl, rfl, hl, rfl, ?_⟩
      have b0 : 0 ≤ (y * 39373 + 7919).fmod 2147483629 := fmod_lo (by decide)
      have b1 : (y * 39373 + 7919).fmod 2147483629 < 2147483629 := fmod_hi (by decide)
      refine ⟨_, rfl, _, _, _, _, rfl, rfl, SqL.of upd_same, atI_nat (j := 1) rfl, _, rfl, _, _, _, _, rfl, rfl, SqL.of upd_same, atI_nat (j := 1) rfl, _, _, rfl, rfl, .inl ⟨by omega, by omega⟩, _, _, rfl, rfl, (by show (2147483563 : Int) ≠ 0; decide), _, _, rfl, rfl, wide_div (b := 64) (by decide) (by decide) (by decide) (by decide), _, rfl, _, _, rfl, rfl, (show n ≠ 0 by omega), ?_⟩
      exact q _ _ (fmod_lo n0) (fmod_hi n0) (Go.put (But.refl p H) h0 b0 (by omega))

/-! ### a cell, the pot -/
abbrev sLCell : Stmt := topS 33
abbrev NLCell : List Str := ["_law_script", "_law_at"]
theorem scLCell : FnScope NLCell ["_law_script", "_law_at"] (fnScope sLCell) := ⟨rfl, rfl, rfl, by decide +kernel, rfl, by decide +kernel, by decide +kernel⟩
def spCell (K : PySem.W.Frag) : Sp := fun vs H Q _ => ∃ (a : Addr) (ns : List Int) (k : Nat), vs = [.ref a, .int k] ∧ SqL K H a (ns.map V.int) ∧ ns.length ≤ 1000 ∧ ∀ n H', Same H H' → Q (.int n) H'
theorem cut_one (ns : List Int) (k : Nat) : ∃ ms : List Int, cutV (ns.map V.int) (some (k : Int)) (some ((k : Int) + 1)) ++ [V.int 0] = (ms ++ [0]).map V.int ∧ (cutV (ns.map V.int) (some (k : Int)) (some ((k : Int) + 1))).length ≤ ns.length := by
  unfold cutV
  refine ⟨(ns.drop (HT.sIx (ns.map V.int).length 0 (some (k : Int)))).take (HT.sIx (ns.map V.int).length (ns.map V.int).length (some ((k : Int) + 1)) - HT.sIx (ns.map V.int).length 0 (some (k : Int))), ?_, ?_⟩
  · simp [List.map_append, List.map_take, List.map_drop]
  · simp only [List.length_take, List.length_drop, List.length_map]
    omega
theorem c_cell {f : Addr} {fd : FuncData} (D : Def K mg "_law_cell" sLCell f fd) (b : Binds K fd ["_law_script", "_law_at"] []) : Cal P w K mg base 1 "_law_cell" (spCell K) [] := by
  refine cal0 D b .nil scLCell (fun vs H Q E h => ?_) (fun cdv A outer s H vs Q E hr h => ?_)
  · obtain ⟨a, ns, k, rfl, _⟩ := h
    rfl
  · obtain ⟨a, ns, k, rfl, hs, hn, q⟩ := h
    refine ⟨_, (pss_one (ps_ret (pe_ix ix_list (pe_op op_cat (pe_slice sl_list (pv 0) (po_some (pv 1)) (po_some (pe_op op_add (pv 1) pe_int))) (pe_lst (pa_cons pe_int pa_nil))) pe_int (fun _ _ => rfl)))), ?_⟩
    obtain ⟨ms, e, hl⟩ := cut_one ns k
    refine ⟨_, rfl, _, rfl, _, rfl, _, rfl, _, _, rfl, rfl, _, rfl, a, _, rfl, hs, fun l1 h1 => ⟨(by show 1 ≤ sizeLine; decide), fun l2 h2 => ?_⟩⟩
    have n12 : l1 ≠ l2 := fun z => by rw [← z, upd_same] at h2; cases h2
    refine ⟨l1, l2, _, _, rfl, rfl, by rw [upd_ne n12, upd_same], upd_same, ?_, fun l3 h3 => ?_⟩
    · rw [sizeLine_eq]
      simp only [List.length_cons, List.length_nil]
      omega
    · rw [e]
      cases ms with
      | nil => exact ⟨l3, _, _, .int 0, rfl, rfl, SqL.of upd_same, atI_nat (j := 0) rfl, q 0 _ (((Same.new h1).trans (Same.new h2)).trans (Same.new h3))⟩
      | cons m ms => exact ⟨l3, _, _, .int m, rfl, rfl, SqL.of upd_same, atI_nat (j := 0) rfl, q m _ (((Same.new h1).trans (Same.new h2)).trans (Same.new h3))⟩
abbrev sLPot : Stmt := topS 34
abbrev NLPot : List Str := ["_law_cell_here"]
theorem scLPot : FnScope NLPot ["_law_cell_here"] (fnScope sLPot) := ⟨rfl, rfl, rfl, by decide +kernel, rfl, by decide +kernel, by decide +kernel⟩
def spPot : Sp := fun vs H Q _ => ∃ (c : Int), vs = [.int c] ∧ ∀ p H', H p = none → Same H H' → Pt H' p 0 → Q (.ref p) H'
theorem c_pot (T : Tp mg) {f : Addr} {fd : FuncData} (D : Def K mg "_law_pot" sLPot f fd) (b : Binds K fd ["_law_cell_here"] []) : Cal P w K mg base 1 "_law_pot" spPot [] := by
  refine cal0 D b .nil scLPot (fun vs H Q E h => ?_) (fun cdv A outer s H vs Q E hr h => ?_)
  · obtain ⟨c, rfl, _⟩ := h
    rfl
  · obtain ⟨c, rfl, q⟩ := h
    refine ⟨_, (pss_one (ps_ret (pe_lst (pa_cons (pe_op op_mul (pv 0) (pe_callTy call_int1 (by rfl) T.n_int (by decide +kernel) (pa_cons (pe_cmpR op_ge (pv 0) (pe_op op_pow pe_int pe_int) (nomark _)) pa_nil))) (pa_cons (pe_op op_modN (pe_op op_add (pe_op op_mul (pv 0) pe_int) pe_int) pe_int) (pa_cons pe_int pa_nil)))))), ?_⟩
    refine ⟨_, rfl, _, rfl, _, _, rfl, rfl, (by show (0 : Int) ≤ 18 ∧ _; decide), _, _, rfl, rfl, .inr ⟨_, rfl, _, _, rfl, rfl, ?_, ?_⟩⟩
    · exact .inr ⟨by split <;> decide, by split <;> decide⟩
    · refine ⟨_, rfl, _, _, rfl, rfl, .inr ⟨by decide, by decide⟩, _, _, rfl, rfl, _, _, rfl, rfl, (by show (2147483647 : Int) ≠ 0; decide), (by show 3 ≤ sizeLine; decide), fun p hp => ?_⟩
      refine q p _ hp (Same.new hp) ⟨_, _, upd_same, ?_, fmod_lo (by decide), Int.lt_trans (fmod_hi (by decide)) (by decide)⟩
      by_cases c0 : (10 : Int) ^ (18 : Int).toNat ≤ c
      · rw [decide_eq_true c0]
        have e2 : (10 : Int) ^ (18 : Int).toNat = 1000000000000000000 := by decide
        show 0 ≤ c * 1
        omega
      · rw [decide_eq_false c0]
        show 0 ≤ c * 0
        omega
end
end K25
set_option Elab.async false
set_option linter.all false
set_option maxRecDepth 100000
set_option maxHeartbeats 4000000
namespace K25
open PySem PySem.Spec PyProof.Rows L2 KD
open C8 (Cal Def cal0 pe_c fnBody fnScope fnArgs)
/-! ### names -/
def low (c : Nat) : Bool := decide (97 ≤ c) && decide (c ≤ 122)
def keptS (z : Str) : Bool := inV (.str z) [.str "number", .str "truth", .str "yes", .str "no"]
def nameS (z : Str) : Bool := (decide (1 ≤ z.length) && decide (z.length ≤ 8)) && (z.cps.toList.all low && !keptS z)
theorem len_tl (z : Str) : z.cps.toList.length = z.length := Array.length_toList
theorem tl_app (x y : Str) : (x ++ y).cps.toList = x.cps.toList ++ y.cps.toList := TL.tl_append x y
theorem abc_low : ∀ (j : Nat) (c : Nat), ("abcdefghijklmnopqrstuvwxyz" : Str).cps.toList[j]? = some c → low c = true := by
  have h : ("abcdefghijklmnopqrstuvwxyz" : Str).cps.toList.all low = true := by decide +kernel
  intro j c e
  exact List.all_eq_true.mp h c (List.mem_of_getElem? e)
def sevenN : List Str := ["a", "ab", "add", "empty", "list", "r", "x"]
theorem seven_ok : sevenN.all nameS = true := by decide +kernel
theorem kept_four {z : Str} (e : keptS z = true) : z = "number" ∨ z = "truth" ∨ z = "yes" ∨ z = "no" := by
  have h : (("number" : Str) == z || (("truth" : Str) == z || (("yes" : Str) == z || (("no" : Str) == z || false)))) = true := e
  simp only [Bool.or_eq_true, beq_iff_eq, Bool.false_eq_true, or_false] at h
  rcases h with h | h | h | h
  · exact .inl h.symm
  · exact .inr (.inl h.symm)
  · exact .inr (.inr (.inl h.symm))
  · exact .inr (.inr (.inr h.symm))
theorem kept_cut (z : Str) (e : keptS z = true) : (PySem.Txt.slice z none (some 7)).length ≤ 8 := by
  rcases kept_four e with rfl | rfl | rfl | rfl <;> decide +kernel
theorem kept_x (z : Str) (e : keptS z = true) : nameS (("x" : Str) ++ PySem.Txt.slice z none (some 7)) = true := by
  rcases kept_four e with rfl | rfl | rfl | rfl <;> decide +kernel
inductive Kd where
  | num | tru | rcd (z : Str) | lst (k : Kd)
def Kd.d : Kd → PyData
  | .num => .tuple [.str "number"]
  | .tru => .tuple [.str "truth"]
  | .rcd z => .tuple [.str "record", .str z]
  | .lst k => .tuple [.str "list", k.d]
def Kd.ok : Kd → Prop
  | .num => True
  | .tru => True
  | .rcd z => nameS z = true
  | .lst k => k.ok
def Kd.deep : Kd → Nat
  | .lst k => k.deep + 1
  | _ => 0
section
variable {P : Program} {w : World} {K : PySem.W.Frag} {mg : Str → Option Value} {base : Heap}
/-- a promise that is never asked -/
def spNo : Sp := fun _ _ _ _ => False
theorem cal_no {k : Nat} {x : Str} {st : Stmt} {f : Addr} {fd : FuncData} {ps : List Str} (sp : Sp) (h : ∀ vs H Q E, sp vs H Q E → False) (D : Def K mg x st f fd) (b : Binds K fd ps []) : Cal P w K mg base k x sp [] :=
  ⟨f, fd, ps, [], ⟨fun _ _ _ _ z => (h _ _ _ _ z).elim, fun _ _ _ _ _ _ _ _ _ _ _ _ _ z => (h _ _ _ _ z).elim⟩, D.mgf, D.kp, b, .nil⟩
/-! ### the program's looks -/
def nameB : PyData → Bool
  | .str z => nameS z
  | _ => false
def pairB (w : Str) : PyData → Bool
  | .tuple [.str u, _] => u == w
  | _ => false
def kindB : PyData → Bool
  | .tuple [.str w] => w == "number" || w == "truth"
  | .tuple [.str w, x] => if w == "list" then kindB x else w == "record" && nameB x
  | _ => false
theorem ascii_tab : (List.range 128).all (fun c => (Unicode.isAlpha c && !(Unicode.isUpper c || Unicode.isTitle c)) == low c && (!low c || Unicode.isLower c)) = true := by decide +kernel
theorem ascii_low {c : Nat} (h : c < 128) : (Unicode.isAlpha c && !(Unicode.isUpper c || Unicode.isTitle c)) = low c ∧ (low c = true → Unicode.isLower c = true) := by
  have h1 := List.all_eq_true.mp ascii_tab c (List.mem_range.mpr h)
  rw [Bool.and_eq_true] at h1
  refine ⟨eq_of_beq h1.1, fun hl => ?_⟩
  have h2 := h1.2
  rw [hl] at h2
  simpa using h2
theorem low128 {c : Nat} (h : low c = true) : c < 128 := by
  unfold low at h
  rw [Bool.and_eq_true] at h
  have := of_decide_eq_true h.2
  omega
theorem ascii3 {z : Str} (h : 1 ≤ z.length) : (PySem.Txt.isascii z && (PySem.Txt.isalpha z && PySem.Txt.islower z)) = z.cps.toList.all low := by
  unfold PySem.Txt.isascii PySem.Txt.isalpha PySem.Txt.islower
  simp only [← Array.all_toList, ← Array.any_toList]
  rw [Bool.eq_iff_iff]
  simp only [Bool.and_eq_true, List.all_eq_true, decide_eq_true_eq, List.any_eq_true, Bool.not_eq_true', List.any_eq_false]
  constructor
  · rintro ⟨h1, ⟨_, h3⟩, ⟨_, h5⟩⟩ c hc
    have a := (ascii_low (h1 c hc)).1
    rw [← a, h3 c hc]
    have b := h5 c hc
    simp only [Bool.not_eq_true] at b
    rw [b]
    rfl
  · intro hl
    have ne : z.cps.toList ≠ [] := fun e => by
      have := len_tl z
      rw [e] at this
      simp at this
      omega
    obtain ⟨c0, hc0⟩ := List.exists_mem_of_ne_nil _ ne
    have fact : ∀ c ∈ z.cps.toList, Unicode.isAlpha c = true ∧ (Unicode.isUpper c || Unicode.isTitle c) = false := fun c hc => by
      have a := (ascii_low (low128 (hl c hc))).1
      rw [hl c hc, Bool.and_eq_true, Bool.not_eq_true'] at a
      exact a
    refine ⟨fun c hc => low128 (hl c hc), ⟨?_, fun c hc => (fact c hc).1⟩, ⟨c0, hc0, (ascii_low (low128 (hl c0 hc0))).2 (hl c0 hc0)⟩, fun c hc => ?_⟩
    · show z.length > 0
      omega
    · simp only [Bool.not_eq_true]
      exact (fact c hc).2
/-! texts of data are short -/
mutual
def short : PyData → Bool
  | .str z => decide (z.length ≤ 1000)
  | .list xs => decide (xs.length ≤ 1000) && shortAll xs
  | .tuple xs => decide (xs.length ≤ 1000) && shortAll xs
  | .dict _ => true
  | _ => true
def shortAll : List PyData → Bool
  | [] => true
  | x :: xs => short x && shortAll xs
end
abbrev sPIsName : Stmt := topS 3
abbrev NPIsName : List Str := ["thing"]
theorem scPIsName : FnScope NPIsName ["thing"] (fnScope sPIsName) := ⟨rfl, rfl, rfl, by decide +kernel, rfl, by decide +kernel, by decide +kernel⟩
/-- a look at data: a truth told, all stays -/
def spLook (K : PySem.W.Frag) (g : PyData → Bool) : Sp := fun vs H Q _ => ∃ v d, vs = [v] ∧ Dq K H v d ∧ short d = true ∧ ∀ H', Same H H' → Q (.bl (g d)) H'
/-- the names that are kept, as the module has them -/
structure Kept (K : PySem.W.Frag) (mg : Str → Option Value) (aK : Addr) : Prop where
  g : ∃ u, mg "KEPT_WORDS" = some u ∧ RelV (.ref aK) u
  sq : ∀ H, SqT K H aK [.str "number", .str "truth", .str "yes", .str "no"]
theorem c_isName (T : Tp mg) {aK : Addr} (TK : Kept K mg aK) {f : Addr} {fd : FuncData} (D : Def K mg "is_name" sPIsName f fd) (b : Binds K fd ["thing"] []) : Cal P w K mg base 1 "is_name" (spLook K nameB) [] := by
  refine cal0 D b .nil scPIsName (fun vs H Q E h => ?_) (fun cdv A outer s H vs Q E hr h => ?_)
  · obtain ⟨v, d, rfl, _⟩ := h
    rfl
  · obtain ⟨v, d, rfl, hd, hs, q⟩ := h
    refine ⟨_, (pss_cons (ps_if (PW.pt (pw_or (pt_not (pt_val (pe_callB call_isQ (by rfl) T.n_isinstance (by decide +kernel) (pa_cons (pv 0) (pa_cons (pe_bltn (v := .ty "str") (by rfl) T.n_str (by decide +kernel) rfl) pa_nil))))) (pw_or1 (pt_not (pt_chain op_le op_le pe_int (pe_callB call_len_str (by rfl) T.n_len (by decide +kernel) (pa_cons (pv 0) pa_nil)) (C8.pe_gc (by rfl) T.g_LONGEST_NAME))))))
      (pss_one (ps_ret pe_bl))
      pss_nil)
    (pss_one (ps_ret (pe_and (pe_m0 PySem.F.slot_str_isascii PySem.F.type_str_isascii mt_isascii (pv 0)) (pe_and (pe_m0 PySem.F.slot_str_isalpha PySem.F.type_str_isalpha mt_isalpha (pv 0)) (pe_and (pe_m0 PySem.F.slot_str_islower PySem.F.type_str_islower mt_islower (pv 0)) (pe_one (pe_cmpR op_notIn_seq (pv 0) (C8.pe_gc (by rfl) TK.g) (by rfl))))))))), ?_⟩
    refine ⟨_, rfl, v, d, "str", rfl, hd, by decide, _, rfl, ?_⟩
    cases hd with
    | str z =>
      have hz : z.length ≤ 1000 := of_decide_eq_true hs
      refine iteF ?_
      refine ⟨_, rfl, z, rfl, by rw [sizeLine_eq]; omega, _, _, rfl, rfl, _, rfl, ite2 (fun e1 => ?_) (fun e1 => ?_)⟩
      · have e1' : (1 : Int) ≤ z.length := of_decide_eq_true e1
        refine ⟨_, _, rfl, rfl, _, rfl, ite2 (fun e2 => ?_) (fun e2 => ?_)⟩
        · have e2' : ¬ ((z.length : Int) ≤ 8) := by simpa using e2
          show Q (.bl false) H
          have e : nameB (.str z) = false := by
            show nameS z = false
            unfold nameS
            rw [decide_eq_false (show ¬ z.length ≤ 8 by omega), Bool.and_false, Bool.false_and]
          exact e ▸ q H (Same.refl H)
        · have e2' : ((z.length : Int) ≤ 8) := by simpa using e2
          have e : nameB (.str z) = (PySem.Txt.isascii z && (PySem.Txt.isalpha z && (PySem.Txt.islower z && !keptS z))) := by
            show nameS z = _
            unfold nameS
            rw [decide_eq_true (show 1 ≤ z.length by omega), decide_eq_true (show z.length ≤ 8 by omega), ← ascii3 (show 1 ≤ z.length by omega)]
            simp only [Bool.and_assoc, Bool.true_and]
          have q' := q H (Same.refl H)
          rw [e] at q'
          refine ⟨_, rfl, ⟨z, rfl⟩, z, rfl, rfl, True.intro, _, rfl, ite2 (fun f1 => ?_) (fun f1 => ?_)⟩
          · rw [f1] at q'
            refine ⟨_, rfl, ⟨z, rfl⟩, z, rfl, rfl, True.intro, _, rfl, ite2 (fun f2 => ?_) (fun f2 => ?_)⟩
            · rw [f2] at q'
              refine ⟨_, rfl, ⟨z, rfl⟩, z, rfl, rfl, True.intro, _, rfl, ite2 (fun f3 => ?_) (fun f3 => ?_)⟩
              · rw [f3] at q'
                exact ⟨_, rfl, aK, _, rfl, .inr (TK.sq H), rfl, rfl, q'⟩
              · rw [eq_false_of_ne_true f3] at q'
                exact q'
            · rw [eq_false_of_ne_true f2] at q'
              exact q'
          · rw [eq_false_of_ne_true f1] at q'
            exact q'
      · refine ⟨_, rfl, iteT ?_⟩
        have e1' : ¬ ((1 : Int) ≤ z.length) := by simpa using e1
        have e : nameB (.str z) = false := by
          show nameS z = false
          unfold nameS
          rw [decide_eq_false (show ¬ 1 ≤ z.length by omega), Bool.false_and, Bool.false_and]
        exact e ▸ q H (Same.refl H)
    | _ => exact iteT (q H (Same.refl H))
end
end K25
set_option Elab.async false
set_option linter.all false
set_option maxRecDepth 100000
set_option maxHeartbeats 4000000
namespace K25
open PySem PySem.Spec PyProof.Rows L2 KD
open C8 (Cal Def cal0 pe_c fnBody fnScope fnArgs)
section
variable {P : Program} {w : World} {K : PySem.W.Frag} {mg : Str → Option Value} {base : Heap}
theorem pairB_of {u : Str} {d : PyData} (h : pairB u d = true) : ∃ x, d = .tuple [.str u, x] := by
  unfold pairB at h
  split at h
  · rename_i y x
    have e : y = u := eq_of_beq h
    exact ⟨x, by rw [e]⟩
  · cases h
theorem pairB_two {u : Str} {ds : List PyData} (h : ds.length ≠ 2) : pairB u (.tuple ds) = false := by
  match ds, h with
  | [], _ => rfl
  | [_], _ => simp [pairB]
  | [_, _], h => exact absurd rfl h
  | _ :: _ :: _ :: _, _ => simp [pairB]
theorem short_all {ds : List PyData} (h : short (.tuple ds) = true) : ds.length ≤ 1000 ∧ shortAll ds = true := by
  have h' : (decide (ds.length ≤ 1000) && shortAll ds) = true := by simpa [short] using h
  rw [Bool.and_eq_true, decide_eq_true_eq] at h'
  exact h'
theorem short_two {x y : PyData} (h : short (.tuple [x, y]) = true) : short x = true ∧ short y = true := by
  have h1 := (short_all h).2
  simpa [shortAll] using h1
theorem _root_.L2.DqAll.two {H : Hp} {xs : List V} {x y : PyData} (h : DqAll K H xs [x, y]) : ∃ u v, xs = [u, v] ∧ Dq K H u x ∧ Dq K H v y := by
  cases h with
  | cons h0 t =>
    cases t with
    | cons h1 t2 =>
      cases t2
      exact ⟨_, _, rfl, h0, h1⟩
theorem _root_.L2.DqAll.one {H : Hp} {xs : List V} {x : PyData} (h : DqAll K H xs [x]) : ∃ u, xs = [u] ∧ Dq K H u x := by
  cases h with
  | cons h0 t =>
    cases t
    exact ⟨_, rfl, h0⟩
theorem two_of {α : Type} {l : List α} (h : l.length = 2) : ∃ x y, l = [x, y] := by
  match l, h with
  | [x, y], _ => exact ⟨x, y, rfl⟩
theorem one_of {α : Type} {l : List α} (h : l.length = 1) : ∃ x, l = [x] := by
  match l, h with
  | [x], _ => exact ⟨x, rfl⟩
theorem ne_int {m : Nat} {n : Nat} (h : m ≠ n) : (!decide (V.int (m : Int) = V.int (n : Int))) = true := by
  rw [decide_eq_false (fun e => h (by have := V.int.inj e; omega))]
  rfl
theorem eq_int {m : Nat} {n : Nat} (h : m = n) : (!decide (V.int (m : Int) = V.int (n : Int))) = false := by
  rw [decide_eq_true (by rw [h])]
  rfl
abbrev sPIsPair : Stmt := topS 5
abbrev NPIsPair : List Str := ["thing", "word"]
theorem scPIsPair : FnScope NPIsPair ["thing", "word"] (fnScope sPIsPair) := ⟨rfl, rfl, rfl, by decide +kernel, rfl, by decide +kernel, by decide +kernel⟩
def spPair (K : PySem.W.Frag) : Sp := fun vs H Q _ => ∃ v d u, vs = [v, .str u] ∧ Dq K H v d ∧ short d = true ∧ ∀ H', Same H H' → Q (.bl (pairB u d)) H'
theorem c_isPair (T : Tp mg) {f : Addr} {fd : FuncData} (D : Def K mg "_is_pair" sPIsPair f fd) (b : Binds K fd ["thing", "word"] []) : Cal P w K mg base 1 "_is_pair" (spPair K) [] := by
  refine cal0 D b .nil scPIsPair (fun vs H Q E h => ?_) (fun cdv A outer s H vs Q E hr h => ?_)
  · obtain ⟨v, d, u, rfl, _⟩ := h
    rfl
  · obtain ⟨v, d, u, rfl, hd, hs, q⟩ := h
    refine ⟨_, (pss_cons (ps_if (PW.pt (pw_or (pt_not (pt_val (pe_callB call_isQ (by rfl) T.n_isinstance (by decide +kernel) (pa_cons (pv 0) (pa_cons (pe_bltn (v := .ty "tuple") (by rfl) T.n_tuple (by decide +kernel) rfl) pa_nil))))) (pw_or1 (pt_cmpR op_ne (pe_callB call_len_seq (by rfl) T.n_len (by decide +kernel) (pa_cons (pv 0) pa_nil)) pe_int (nomark _)))))
      (pss_one (ps_ret pe_bl))
      pss_nil)
    (pss_one (ps_ret (pe_and (pe_callB call_isQ (by rfl) T.n_isinstance (by decide +kernel) (pa_cons (pe_ix ix_tup (pv 0) pe_int (fun _ _ => rfl)) (pa_cons (pe_bltn (v := .ty "str") (by rfl) T.n_str (by decide +kernel) rfl) pa_nil))) (pe_one (pe_cmpR op_eq (pe_ix ix_tup (pv 0) pe_int (fun _ _ => rfl)) (pv 1) (nomark _))))))), ?_⟩
    refine ⟨_, rfl, v, d, "tuple", rfl, hd, by decide, _, rfl, ?_⟩
    cases hd with
    | @tup a xs ds hq ha =>
      refine iteF ?_
      have hlen := ha.len
      refine ⟨_, rfl, a, xs, rfl, .inr hq, rfl, _, rfl, ?_⟩
      by_cases h2 : ds.length = 2
      · refine iteF' (eq_int (n := 2) (by omega)) ?_
        obtain ⟨d0, d1, rfl⟩ := two_of h2
        obtain ⟨v0, v1, rfl, h0, h1⟩ := ha.two
        refine ⟨_, rfl, a, _, _, v0, rfl, rfl, hq, atI_nat (j := 0) rfl, v0, d0, "str", rfl, h0, by decide, _, rfl, ?_⟩
        cases h0 with
        | str y =>
          refine iteT ?_
          refine ⟨_, rfl, a, _, _, .str y, rfl, rfl, hq, atI_nat (j := 0) rfl, _, rfl, rfl, ?_⟩
          have q' := q H (Same.refl H)
          rw [dec_str]
          exact q'
        | _ => exact iteF (q H (Same.refl H))
      · refine iteT' (ne_int (n := 2) (by omega)) ?_
        have q' := q H (Same.refl H)
        rw [pairB_two h2] at q'
        exact q'
    | _ => exact iteT (q H (Same.refl H))

end
section
variable {P : Program} {w : World} {K : PySem.W.Frag} {mg : Str → Option Value} {base : Heap}
abbrev sPIsKind : Stmt := topS 4
abbrev NPIsKind : List Str := ["thing"]
theorem scPIsKind : FnScope NPIsKind ["thing"] (fnScope sPIsKind) := ⟨rfl, rfl, rfl, by decide +kernel, rfl, by decide +kernel, by decide +kernel⟩
theorem kindB_list (x : PyData) : kindB (.tuple [.str "list", x]) = kindB x := by
  rw [kindB]
  rfl
theorem kindB_rec (x : PyData) : kindB (.tuple [.str "record", x]) = nameB x := by
  rw [kindB]
  rfl
theorem kindB_one (ds : List PyData) (h : ds.length ≠ 1) (hl : pairB "list" (.tuple ds) = false) (hr : pairB "record" (.tuple ds) = false) : kindB (.tuple ds) = false := by
  match ds, h, hl, hr with
  | [], _, _, _ => simp [kindB]
  | [_], h, _, _ => exact absurd rfl h
  | [d0, d1], _, hl, hr =>
    cases d0 with
    | str u =>
      have h1 : (u == ("list" : Str)) = false := hl
      have h2 : (u == ("record" : Str)) = false := hr
      rw [kindB, h1, h2]
      rfl
    | _ => simp [kindB]
  | _ :: _ :: _ :: _, _, _, _ => simp [kindB]
theorem kindB_not {d : PyData} (h : isT d = false) : kindB d = false := by
  cases d <;> first | (simp [isT] at h; done) | simp [kindB]
theorem depth_list (x : PyData) (u : Str) : (PyData.tuple [.str u, x]).depth = x.depth + 1 := by
  simp [PyData.depth, PyData.depthAll]
theorem c_isKind (T : Tp mg) (c_PIsPair : Cal P w K mg base 1 "_is_pair" (spPair K) []) (c_PIsName : Cal P w K mg base 1 "is_name" (spLook K nameB) []) {f : Addr} {fd : FuncData} (D : Def K mg "is_kind" sPIsKind f fd) (b : Binds K fd ["thing"] []) :
    Cal P w K mg base 2 "is_kind" (spLook K kindB) [] := by
  refine cal0 D b .nil scPIsKind (fun vs H Q E h => ?_) (fun cdv A outer s H vs Q E hr h => ?_)
  · obtain ⟨v, d, rfl, _⟩ := h
    rfl
  · obtain ⟨v0, d0, rfl, hd0, hs0, q⟩ := h
    have nd := scPIsKind.nd
    refine ⟨_, (pss_cons (ps_while PassesOwn.never (pt_val (pe_c c_PIsPair hr (by decide) (by rfl) (pa_cons (pv 0) (pa_cons pe_str pa_nil))))
      (pss_one (ps_set (i := 0) nd rfl (.inl rfl) (pe_ix ix_tup (pv 0) pe_int (fun _ _ => rfl)))))
    (pss_cons (ps_if (pt_val (pe_c c_PIsPair hr (by decide) (by rfl) (pa_cons (pv 0) (pa_cons pe_str pa_nil))))
      (pss_one (ps_ret (pe_c c_PIsName hr (by decide) (by rfl) (pa_cons (pe_ix ix_tup (pv 0) pe_int (fun _ _ => rfl)) pa_nil))))
      pss_nil)
    (pss_cons (ps_if (PW.pt (pw_or (pt_not (pt_val (pe_callB call_isQ (by rfl) T.n_isinstance (by decide +kernel) (pa_cons (pv 0) (pa_cons (pe_bltn (v := .ty "tuple") (by rfl) T.n_tuple (by decide +kernel) rfl) pa_nil))))) (pw_or1 (pt_cmpR op_ne (pe_callB call_len_seq (by rfl) T.n_len (by decide +kernel) (pa_cons (pv 0) pa_nil)) pe_int (nomark _)))))
      (pss_one (ps_ret pe_bl))
      pss_nil)
    (pss_one (ps_ret (pe_and (pe_callB call_isQ (by rfl) T.n_isinstance (by decide +kernel) (pa_cons (pe_ix ix_tup (pv 0) pe_int (fun _ _ => rfl)) (pa_cons (pe_bltn (v := .ty "str") (by rfl) T.n_str (by decide +kernel) rfl) pa_nil))) (pe_one (pe_cmpR op_in_seq (pe_ix ix_tup (pv 0) pe_int (fun _ _ => rfl)) (pe_tup (pa_cons pe_str (pa_cons pe_str pa_nil))) (by rfl))))))))), ?_⟩
    refine ⟨fun m σ H1 => ∃ v d, σ = [some v] ∧ Dq K H1 v d ∧ short d = true ∧ kindB d = kindB d0 ∧ Same H H1 ∧ m = d.depth, ⟨_, v0, d0, rfl, hd0, hs0, rfl, Same.refl H, rfl⟩, ?_⟩
    rintro m σ H1 ⟨v, d, rfl, hd, hs, hk, hS, rfl⟩
    refine ⟨_, rfl, v, d, "list", rfl, hd, hs, fun H2 e2 => ⟨_, rfl, ite2 (fun e => ?_) (fun e => ?_)⟩⟩
    · obtain ⟨x, rfl⟩ := pairB_of e
      cases hd with
      | tup hq ha =>
        obtain ⟨u0, u1, rfl, g0, g1⟩ := ha.two
        · refine ⟨fun σ' H' => ∃ m', m' < _ ∧ ∃ v d, σ' = [some v] ∧ Dq K H' v d ∧ short d = true ∧ kindB d = kindB d0 ∧ Same H H' ∧ m' = d.depth, fun σ' H' h => h, ?_⟩
          refine ⟨_, rfl, _, _, _, u1, rfl, rfl, sqT_mono e2 hq, atI_nat (j := 1) rfl, ?_⟩
          exact ⟨x.depth, by rw [depth_list]; exact Nat.lt_succ_self _, u1, x, rfl, g1.mono e2, (short_two hs).2, by rw [← hk, kindB_list], hS.trans e2, rfl⟩
    · have hl : pairB "list" d = false := eq_false_of_ne_true e
      have hS2 := hS.trans e2
      have hd2 := hd.mono e2
      refine ⟨_, rfl, v, d, "record", rfl, hd2, hs, fun H3 e3 => ⟨_, rfl, ite2 (fun e => ?_) (fun e => ?_)⟩⟩
      · obtain ⟨x, rfl⟩ := pairB_of e
        cases hd2 with
        | tup hq ha =>
          obtain ⟨u0, u1, rfl, g0, g1⟩ := ha.two
          · refine ⟨_, rfl, _, _, _, u1, rfl, rfl, sqT_mono e3 hq, atI_nat (j := 1) rfl, u1, x, rfl, g1.mono e3, (short_two hs).2, fun H4 e4 => ?_⟩
            have q' := q H4 ((hS2.trans e3).trans e4)
            rw [← hk, kindB_rec] at q'
            exact q'
      · have hrr : pairB "record" d = false := eq_false_of_ne_true e
        have hd3 := hd2.mono e3
        have q' := q H3 (hS2.trans e3)
        refine ⟨_, rfl, v, d, "tuple", rfl, hd3, by decide, _, rfl, ?_⟩
        cases hd3 with
        | @tup a xs ds hq ha =>
          refine iteF ?_
          have hlen := ha.len
          refine ⟨_, rfl, a, xs, rfl, .inr hq, rfl, _, rfl, ?_⟩
          by_cases h2 : ds.length = 1
          · refine iteF' (eq_int (n := 1) (by omega)) ?_
            obtain ⟨d1, rfl⟩ := one_of h2
            obtain ⟨u0, rfl, g0⟩ := ha.one
            · refine ⟨_, rfl, a, _, _, u0, rfl, rfl, hq, atI_nat (j := 0) rfl, u0, d1, "str", rfl, g0, by decide, _, rfl, ?_⟩
              cases g0 with
              | str y =>
                refine iteT ?_
                refine ⟨_, rfl, a, _, _, .str y, rfl, rfl, hq, atI_nat (j := 0) rfl, (by show 2 ≤ sizeLine; decide), fun t ht => ⟨t, _, rfl, .inr (SqT.of upd_same), rfl, rfl, ?_⟩⟩
                have q' := q _ ((hS2.trans e3).trans (Same.new (o := .tup [.str "number", .str "truth"]) ht))
                have ek : kindB (.tuple [.str y]) = inV (.str y) [.str "number", .str "truth"] := by
                  show (y == ("number" : Str) || y == ("truth" : Str)) = (("number" : Str) == y || (("truth" : Str) == y || false))
                  rw [Bool.or_false, Bool.eq_iff_iff]
                  simp only [Bool.or_eq_true, beq_iff_eq]
                  constructor <;> (rintro (h | h)) <;> first | exact .inl h.symm | exact .inr h.symm
                rw [← hk, ek] at q'
                exact q'
              | _ =>
                rw [← hk] at q'
                exact iteF (by simpa [kindB] using q')
          · refine iteT' (ne_int (n := 1) (by omega)) ?_
            rw [← hk, kindB_one ds h2 hl hrr] at q'
            exact q'
        | _ =>
          rw [← hk, kindB_not rfl] at q'
          exact iteT q'
end
end K25
set_option Elab.async false
set_option linter.all false
set_option maxRecDepth 100000
set_option maxHeartbeats 4000000
namespace L2
open PySem PySem.Spec PyProof.Rows
/-! ### a written dict by texts -/
def EntsV : List DictEntry → List (Str × V) → Prop := Paired fun e p => (∃ t, e.key = .str p.1 t) ∧ RelV p.2 e.val
theorem isStr_keyV {e : DictEntry} {x z : Str} {t : Tok} (h : e.key = .str x t) : e.key.isStr z = (z == x) := by
  rw [h, PySem.W.isStr_of, Bool.eq_iff_iff, beq_iff_eq]
  constructor
  · intro q
    obtain ⟨t', e'⟩ := Value.isStrOf_shape q
    injection e' with e1
    exact e1.symm
  · intro q
    rw [q]
    simp [Value.isStrOf]
theorem find_cv : ∀ {es : List DictEntry} {cs : List (Str × V)}, EntsV es cs → ∀ z, (match cs.lookup z with | some i => ∃ e, es.find? (·.key.isStr z) = some e ∧ RelV i e.val | none => es.find? (·.key.isStr z) = none) ∧ es.any (·.refKey) = false
  | _, _, .nil, z => ⟨rfl, rfl⟩
  | _, _, .cons (a := e) (b := p) ⟨⟨t, hk⟩, hv⟩ r, z => by
    obtain ⟨i1, i2⟩ := find_cv r z
    obtain ⟨y, i⟩ := p
    refine ⟨?_, ?_⟩
    · rw [List.lookup_cons, List.find?_cons, isStr_keyV hk]
      cases h : (z == y) with
      | true => exact ⟨e, rfl, hv⟩
      | false => exact i1
    · rw [List.any_cons, i2, Bool.or_false]
      unfold DictEntry.refKey
      rw [hk]
theorem nsIn_cv {K : PySem.W.Frag} {a : Addr} {c : Value} {od : Option Addr} {es : Array DictEntry} {n : Nat} {sl : Array (Option Value)} {cs : List (Str × V)} (h : K.lookup a = some ⟨c, od, .dict es n, sl⟩) (hc : EntsV es.toList cs) (z : Str) :
    (∃ v u, cs.lookup z = some v ∧ PySem.W.nsIn K a z = some (some u) ∧ RelV v u) ∨ (cs.lookup z = none ∧ PySem.W.nsIn K a z = some none) := by
  obtain ⟨h1, h2⟩ := find_cv hc z
  unfold PySem.W.nsIn
  rw [h]
  cases hl : cs.lookup z with
  | some i =>
    rw [hl] at h1
    obtain ⟨e, h3, h4⟩ := h1
    refine .inl ⟨i, e.val, rfl, ?_, h4⟩
    dsimp only
    rw [h3]
  | none =>
    rw [hl] at h1
    refine .inr ⟨rfl, ?_⟩
    dsimp only
    rw [h1, h2]
    rfl
/-- texts to tuples of so many things -/
def TupsOf (K : PySem.W.Frag) : List (Str × V) → List (Str × Int) → Prop := Paired fun a b => a.1 = b.1 ∧ ∃ p xs, a.2 = .ref p ∧ (∀ H, SqT K H p xs) ∧ (xs.length : Int) = b.2
theorem tupsOf {K : PySem.W.Frag} : ∀ {cs : List (Str × V)} {ks : List (Str × Int)}, TupsOf K cs ks → ∀ z, (∃ p xs c, cs.lookup z = some (.ref p) ∧ (∀ H, SqT K H p xs) ∧ ks.lookup z = some c ∧ (xs.length : Int) = c) ∨ (cs.lookup z = none ∧ ks.lookup z = none)
  | _, _, .nil, z => .inr ⟨rfl, rfl⟩
  | _, _, .cons (a := a) (b := b) ⟨h1, p, xs, h2, h3, h4⟩ r, z => by
    obtain ⟨y, v⟩ := a
    obtain ⟨y', c⟩ := b
    simp only at h1 h2 h4
    subst h1
    rw [List.lookup_cons, List.lookup_cons]
    cases h : (z == y) with
    | true => exact .inl ⟨p, xs, c, by rw [h2], h3, rfl, h4⟩
    | false => exact tupsOf r z
/-- a written tuple -/
theorem sqT_K {K : PySem.W.Frag} {a : Addr} {d : Option Addr} {its : Array Value} {n : Nat} {sl : Array (Option Value)} {xs : List V} (l : K.lookup a = some ⟨.type "tuple", d, .seq its n, sl⟩) (z : its.size ≤ sizeLine) (v : Vals xs its.toList) : ∀ H, SqT K H a xs := fun H => .inr ⟨_, its, n, l, rfl, rfl, z, v⟩
end L2
set_option Elab.async false
set_option linter.all false
set_option maxRecDepth 100000
set_option maxHeartbeats 4000000
namespace K25
open PySem PySem.Spec PyProof.Rows L2 KD
open C8 (Cal Def cal0 pe_c fnBody fnScope fnArgs)
/-! ### what a term is -/
def leafW (u : Str) : Bool := inV (.str u) [.str "number", .str "truth", .str "name", .str "box", .str "empty"]
def numB : PyData → Bool
  | .int i => decide (0 ≤ i) && decide (i < 1000000000000)
  | _ => false
def leafB (u : Str) (d : PyData) : Bool := if u == "number" then numB d else if u == "truth" then isB d else if u == "empty" then kindB d else nameB d
def counts : List (Str × Int) := [("add", 2), ("less", 2), ("times", 2), ("under", 2), ("same", 2), ("both", 2), ("join", 2), ("not", 1), ("many", 1), ("pick", 3), ("at", 3)]
/-- of a tuple: its first a word, what stands behind it -/
def shapedW (u : Str) (rest : List PyData) : Bool :=
  if leafW u then decide (rest.length = 1) && (rest[0]?.map (leafB u)).getD false
  else if u == "field" then decide (rest.length = 2) && (rest[1]?.map nameB).getD false
  else if u == "list" then decide (rest.length ≤ 8)
  else match counts.lookup u with
    | some c => decide ((rest.length : Int) = c)
    | none => false
def shapedB : PyData → Bool
  | .tuple (.str u :: rest) => decide (1 ≤ rest.length) && shapedW u rest
  | _ => false
/-- the places of the terms right within -/
def selW {α : Type} (u : Str) (rest : List α) : List α := if leafW u then [] else if u == "field" then rest.take 1 else rest
def partsD : PyData → List PyData
  | .tuple (.str u :: rest) => selW u rest
  | _ => []
mutual
def termB : PyData → Bool
  | .tuple ds => shapedB (.tuple ds) && ((match ds with | .str u :: _ => selW u ((termL ds).drop 1) | _ => []).all id)
  | _ => false
def termL : List PyData → List Bool
  | [] => []
  | x :: xs => termB x :: termL xs
end
theorem termL_map : ∀ ds : List PyData, termL ds = ds.map termB
  | [] => by simp [termL]
  | x :: xs => by simp [termL, termL_map xs]
theorem selW_map {α β : Type} (f : α → β) (u : Str) (l : List α) : selW u (l.map f) = (selW u l).map f := by
  unfold selW
  split
  · rfl
  · split
    · rw [List.map_take]
    · rfl
theorem termB_eq (d : PyData) : termB d = (shapedB d && (partsD d).all termB) := by
  cases d with
  | tuple ds =>
    cases ds with
    | nil => simp [termB, shapedB]
    | cons x rest =>
      cases x with
      | str u =>
        rw [termB, termL_map]
        show (shapedB (.tuple (.str u :: rest)) && (selW u (rest.map termB)).all id) = (shapedB (.tuple (.str u :: rest)) && (selW u rest).all termB)
        rw [selW_map, List.all_map]
        rfl
      | _ => simp [termB, shapedB]
  | _ => simp [termB, shapedB]
theorem sel_len {α : Type} (u : Str) (l : List α) : (selW u l).length ≤ l.length := by
  unfold selW
  split
  · exact Nat.zero_le _
  · split
    · rw [List.length_take]; omega
    · exact Nat.le_refl _
section
variable {K : PySem.W.Frag}
theorem dpAll_take {H : Hp} : ∀ {vs : List V} {ds : List PyData} (n : Nat), DqAll K H vs ds → DqAll K H (vs.take n) (ds.take n)
  | _, _, 0, _ => by rw [List.take_zero, List.take_zero]; exact .nil
  | _, _, _ + 1, .nil => .nil
  | _, _, n + 1, .cons h t => .cons h (dpAll_take n t)
theorem sel_dp {H : Hp} {vs : List V} {ds : List PyData} (u : Str) (h : DqAll K H vs ds) : DqAll K H (selW u vs) (selW u ds) := by
  unfold selW
  split
  · exact .nil
  · split
    · exact dpAll_take 1 h
    · exact h
end
def counts2 : List (Str × Int) := counts ++ ([("field", 1)] : List (Str × Int))
theorem counts2_of {u : Str} (h : (u == ("field" : Str)) = false) : counts2.lookup u = counts.lookup u := by
  unfold counts2
  rw [List.lookup_append]
  have : List.lookup u [(("field" : Str), (1 : Int))] = none := by simp [List.lookup, h]
  rw [this, Option.or_none]
section
variable {P : Program} {w : World} {K : PySem.W.Frag} {mg : Str → Option Value} {base : Heap}
abbrev sPIsNumber : Stmt := topS 13
abbrev NPIsNumber : List Str := ["thing"]
theorem scPIsNumber : FnScope NPIsNumber ["thing"] (fnScope sPIsNumber) := ⟨rfl, rfl, rfl, by decide +kernel, rfl, by decide +kernel, by decide +kernel⟩
/-- a truth of data told, all stays -/
def spSee (K : PySem.W.Frag) (g : PyData → Bool) : Sp := fun vs H Q _ => ∃ v d, vs = [v] ∧ Dq K H v d ∧ ∀ H', Same H H' → Q (.bl (g d)) H'
theorem c_isNumber (T : Tp mg) {f : Addr} {fd : FuncData} (D : Def K mg "is_number" sPIsNumber f fd) (b : Binds K fd ["thing"] []) : Cal P w K mg base 1 "is_number" (spSee K numB) [] := by
  refine cal0 D b .nil scPIsNumber (fun vs H Q E h => ?_) (fun cdv A outer s H vs Q E hr h => ?_)
  · obtain ⟨v, d, rfl, _⟩ := h
    rfl
  · obtain ⟨v, d, rfl, hd, q⟩ := h
    refine ⟨_, (pss_one (ps_ret (pe_and (pe_callB call_isQ (by rfl) T.n_isinstance (by decide +kernel) (pa_cons (pv 0) (pa_cons (pe_bltn (v := .ty "int") (by rfl) T.n_int (by decide +kernel) rfl) pa_nil))) (pe_and (pe_not (pe_callB call_isQ (by rfl) T.n_isinstance (by decide +kernel) (pa_cons (pv 0) (pa_cons (pe_bltn (v := .ty "bool") (by rfl) T.n_bool (by decide +kernel) rfl) pa_nil)))) (pe_one (pe_chain op_le op_lt pe_int (pv 0) (C8.pe_gc (by rfl) T.g_NUMBERS))))))), ?_⟩
    have q0 := q H (Same.refl H)
    refine ⟨_, rfl, v, d, "int", rfl, hd, by decide, _, rfl, ?_⟩
    cases hd with
    | int i =>
      refine iteT ?_
      refine ⟨_, rfl, _, _, "bool", rfl, .int i, by decide, _, rfl, _, rfl, iteT ?_⟩
      refine ⟨_, rfl, _, _, rfl, rfl, _, rfl, ite2 (fun e => ?_) (fun e => ?_)⟩
      · refine ⟨_, _, rfl, rfl, ?_⟩
        have e1 : numB (.int i) = decide (i < 1000000000000) := by
          show (decide (0 ≤ i) && decide (i < 1000000000000)) = _
          rw [e, Bool.true_and]
        rw [e1] at q0
        exact q0
      · have e1 : numB (.int i) = false := by
          show (decide (0 ≤ i) && decide (i < 1000000000000)) = _
          rw [eq_false_of_ne_true e, Bool.false_and]
        rw [e1] at q0
        exact q0
    | bl bb =>
      refine iteT ?_
      exact ⟨_, rfl, _, _, "bool", rfl, .bl bb, by decide, _, rfl, _, rfl, iteF q0⟩
    | _ => exact iteF q0
abbrev sPIsLeafPart : Stmt := topS 20
abbrev NPIsLeafPart : List Str := ["word", "part"]
theorem scPIsLeafPart : FnScope NPIsLeafPart ["word", "part"] (fnScope sPIsLeafPart) := ⟨rfl, rfl, rfl, by decide +kernel, rfl, by decide +kernel, by decide +kernel⟩
def spLeafPart (K : PySem.W.Frag) : Sp := fun vs H Q _ => ∃ u v d, vs = [.str u, v] ∧ Dq K H v d ∧ short d = true ∧ ∀ H', Same H H' → Q (.bl (leafB u d)) H'
theorem c_isLeafPart (T : Tp mg) (c_PIsNumber : Cal P w K mg base 1 "is_number" (spSee K numB) []) (c_PIsKind : Cal P w K mg base 2 "is_kind" (spLook K kindB) []) (c_PIsName : Cal P w K mg base 1 "is_name" (spLook K nameB) [])
    {f : Addr} {fd : FuncData} (D : Def K mg "_is_leaf_part" sPIsLeafPart f fd) (b : Binds K fd ["word", "part"] []) : Cal P w K mg base 3 "_is_leaf_part" (spLeafPart K) [] := by
  refine cal0 D b .nil scPIsLeafPart (fun vs H Q E h => ?_) (fun cdv A outer s H vs Q E hr h => ?_)
  · obtain ⟨u, v, d, rfl, _⟩ := h
    rfl
  · obtain ⟨u, v, d, rfl, hd, hs, q⟩ := h
    refine ⟨_, (pss_cons (ps_if (pt_cmpR op_eq (pv 0) pe_str (nomark _))
      (pss_one (ps_ret (pe_c c_PIsNumber hr (by decide) (by rfl) (pa_cons (pv 1) pa_nil))))
      pss_nil)
    (pss_cons (ps_if (pt_cmpR op_eq (pv 0) pe_str (nomark _))
      (pss_one (ps_ret (pe_callB call_isQ (by rfl) T.n_isinstance (by decide +kernel) (pa_cons (pv 1) (pa_cons (pe_bltn (v := .ty "bool") (by rfl) T.n_bool (by decide +kernel) rfl) pa_nil)))))
      pss_nil)
    (pss_cons (ps_if (pt_cmpR op_eq (pv 0) pe_str (nomark _))
      (pss_one (ps_ret (pe_c c_PIsKind hr (by decide) (by rfl) (pa_cons (pv 1) pa_nil))))
      pss_nil)
    (pss_one (ps_ret (pe_c c_PIsName hr (by decide) (by rfl) (pa_cons (pv 1) pa_nil))))))), ?_⟩
    unfold leafB at q
    refine ⟨_, rfl, rfl, _, rfl, ?_⟩
    rw [dec_str]
    refine ite2 (fun e => ?_) (fun e => ?_)
    · rw [if_pos e] at q
      exact ⟨_, rfl, v, d, rfl, hd, q⟩
    · rw [if_neg e] at q
      refine ⟨_, rfl, rfl, _, rfl, ?_⟩
      rw [dec_str]
      refine ite2 (fun e => ?_) (fun e => ?_)
      · rw [if_pos e] at q
        exact ⟨_, rfl, v, d, "bool", rfl, hd, by decide, q H (Same.refl H)⟩
      · rw [if_neg e] at q
        refine ⟨_, rfl, rfl, _, rfl, ?_⟩
        rw [dec_str]
        refine ite2 (fun e => ?_) (fun e => ?_)
        · rw [if_pos e] at q
          exact ⟨_, rfl, v, d, rfl, hd, hs, q⟩
        · rw [if_neg e] at q
          exact ⟨_, rfl, v, d, rfl, hd, hs, q⟩
end
end K25
set_option Elab.async false
set_option linter.all false
set_option maxRecDepth 100000
set_option maxHeartbeats 4000000
namespace K25
open PySem PySem.Spec PyProof.Rows L2 KD
open C8 (Cal Def cal0 pe_c fnBody fnScope fnArgs)
/-- the leaves' words, as the module has them -/
structure Lv (K : PySem.W.Frag) (mg : Str → Option Value) (aL : Addr) : Prop where
  g : ∃ u, mg "LEAVES" = some u ∧ RelV (.ref aL) u
  sq : ∀ H, SqT K H aL [.str "number", .str "truth", .str "name", .str "box", .str "empty"]
/-- the counts, as the module has them -/
structure Ct (K : PySem.W.Frag) (w : World) (mg : Str → Option Value) (aC : Addr) (es : Array DictEntry) (n : Nat) (cs : List (Str × V)) : Prop where
  g : ∃ u, mg "SORTS" = some u ∧ RelV (.ref aC) u
  d : KDict K w aC es n
  ent : EntsV es.toList cs
  tps : TupsOf K cs counts2
section
variable {P : Program} {w : World} {K : PySem.W.Frag} {mg : Str → Option Value} {base : Heap}
theorem dpAll_head {H : Hp} {xs : List V} {x : PyData} {rest : List PyData} (h : DqAll K H xs (x :: rest)) : ∃ v vr, xs = v :: vr ∧ Dq K H v x ∧ DqAll K H vr rest := by
  cases h with
  | cons a b => exact ⟨_, _, rfl, a, b⟩
theorem head_of {ds : List PyData} (h : 2 ≤ ds.length) : ∃ x rest, ds = x :: rest ∧ 1 ≤ rest.length := by
  cases ds with
  | nil => exact absurd h (by decide)
  | cons x rest => exact ⟨x, rest, rfl, by simp at h; omega⟩
theorem short_mem {ds : List PyData} : ∀ {i : Nat} {d : PyData}, shortAll ds = true → ds[i]? = some d → short d = true := by
  induction ds with
  | nil => intro i d _ h; simp at h
  | cons x xs ih =>
    intro i d h e
    have h' : short x = true ∧ shortAll xs = true := by simpa [shortAll] using h
    cases i with
    | zero => simp at e; rw [← e]; exact h'.1
    | succ i => exact ih h'.2 (by simpa using e)
theorem at_some {α : Type} {l : List α} {i : Nat} (h : i < l.length) : ∃ x, l[i]? = some x := ⟨_, List.getElem?_eq_getElem h⟩
abbrev sPIsShaped : Stmt := topS 19
abbrev NPIsShaped : List Str := ["thing", "word"]
theorem scPIsShaped : FnScope NPIsShaped ["thing"] (fnScope sPIsShaped) := ⟨rfl, rfl, rfl, by decide +kernel, rfl, by decide +kernel, by decide +kernel⟩
theorem c_isShaped (T : Tp mg) {aL aC : Addr} {es : Array DictEntry} {nE : Nat} {cs : List (Str × V)} (TL : Lv K mg aL) (TC : Ct K w mg aC es nE cs) (c_PIsLeafPart : Cal P w K mg base 3 "_is_leaf_part" (spLeafPart K) []) (c_PIsName : Cal P w K mg base 1 "is_name" (spLook K nameB) [])
    {f : Addr} {fd : FuncData} (D : Def K mg "_is_shaped" sPIsShaped f fd) (b : Binds K fd ["thing"] []) : Cal P w K mg base 4 "_is_shaped" (spLook K shapedB) [] := by
  refine cal0 D b .nil scPIsShaped (fun vs H Q E h => ?_) (fun cdv A outer s H vs Q E hr h => ?_)
  · obtain ⟨v, d, rfl, _⟩ := h
    rfl
  · obtain ⟨v, d, rfl, hd, hs, q⟩ := h
    have nd := scPIsShaped.nd
    refine ⟨_, (pss_cons (ps_if (PW.pt (pw_or (pt_not (pt_val (pe_callB call_isQ (by rfl) T.n_isinstance (by decide +kernel) (pa_cons (pv 0) (pa_cons (pe_bltn (v := .ty "tuple") (by rfl) T.n_tuple (by decide +kernel) rfl) pa_nil))))) (pw_or (pt_cmpR op_lt (pe_callB call_len_seq (by rfl) T.n_len (by decide +kernel) (pa_cons (pv 0) pa_nil)) pe_int (nomark _)) (pw_or1 (pt_not (pt_val (pe_callB call_isQ (by rfl) T.n_isinstance (by decide +kernel) (pa_cons (pe_ix ix_tup (pv 0) pe_int (fun _ _ => rfl)) (pa_cons (pe_bltn (v := .ty "str") (by rfl) T.n_str (by decide +kernel) rfl) pa_nil)))))))))
      (pss_one (ps_ret pe_bl))
      pss_nil)
    (pss_cons (ps_set (i := 1) nd rfl (.inl rfl) (pe_ix ix_tup (pv 0) pe_int (fun _ _ => rfl)))
    (pss_cons (ps_if (pt_cmpR op_in_seq (pv 1) (C8.pe_gc (by rfl) TL.g) (by rfl))
      (pss_one (ps_ret (pe_and (pe_cmpR op_eq (pe_callB call_len_seq (by rfl) T.n_len (by decide +kernel) (pa_cons (pv 0) pa_nil)) pe_int (nomark _)) (pe_one (pe_c c_PIsLeafPart hr (by decide) (by rfl) (pa_cons (pv 1) (pa_cons (pe_ix ix_tup (pv 0) pe_int (fun _ _ => rfl)) pa_nil)))))))
      pss_nil)
    (pss_cons (ps_if (pt_cmpR op_eq (pv 1) pe_str (nomark _))
      (pss_one (ps_ret (pe_and (pe_cmpR op_eq (pe_callB call_len_seq (by rfl) T.n_len (by decide +kernel) (pa_cons (pv 0) pa_nil)) pe_int (nomark _)) (pe_one (pe_c c_PIsName hr (by decide) (by rfl) (pa_cons (pe_ix ix_tup (pv 0) pe_int (fun _ _ => rfl)) pa_nil))))))
      pss_nil)
    (pss_cons (ps_if (pt_cmpR op_eq (pv 1) pe_str (nomark _))
      (pss_one (ps_ret (pe_cmpR op_le (pe_callB call_len_seq (by rfl) T.n_len (by decide +kernel) (pa_cons (pv 0) pa_nil)) (pe_op op_add pe_int (C8.pe_gc (by rfl) T.g_MOST_LISTED)) (nomark _))))
      pss_nil)
    (pss_one (ps_ret (pe_and (pe_cmpR (op_in_kd TC.d) (pv 1) (C8.pe_gc (by rfl) TC.g) (by rfl)) (pe_one (pe_cmpR op_eq (pe_callB call_len_seq (by rfl) T.n_len (by decide +kernel) (pa_cons (pv 0) pa_nil)) (pe_op op_add pe_int (pe_callB call_len_seq (by rfl) T.n_len (by decide +kernel) (pa_cons (pe_ix ix_kdict (C8.pe_gc (by rfl) TC.g) (pv 1) (fun _ _ => rfl)) pa_nil))) (nomark _))))))))))), ?_⟩
    have q0 := q H (Same.refl H)
    refine ⟨_, rfl, v, d, "tuple", rfl, hd, by decide, _, rfl, ?_⟩
    cases hd with
    | @tup a xs ds hq ha =>
      refine iteF ?_
      have hlen := ha.len
      refine ⟨_, rfl, a, xs, rfl, .inr hq, _, _, rfl, rfl, _, rfl, ite2 (fun e => ?_) (fun e => ?_)⟩
      · have e1 : ((xs.length : Nat) : Int) < 2 := of_decide_eq_true e
        have hf : shapedB (.tuple ds) = false := by
          cases ds with
          | nil => rfl
          | cons x rest =>
            cases rest with
            | nil => cases x <;> rfl
            | cons y r => simp at hlen; omega
        rw [hf] at q0
        exact iteT q0
      · have e1 : ¬ ((xs.length : Nat) : Int) < 2 := fun h => e (decide_eq_true h)
        obtain ⟨x, rest, rfl, hr1⟩ := head_of (show 2 ≤ ds.length by omega)
        obtain ⟨v0, vr, rfl, h0, hrd⟩ := dpAll_head ha
        have hvr : vr.length = rest.length := hrd.len
        have hsa := (short_all hs).2
        have hsr : shortAll rest = true := by
          have h' : short x = true ∧ shortAll rest = true := by simpa [shortAll] using hsa
          exact h'.2
        refine ⟨_, rfl, a, _, _, v0, rfl, rfl, hq, atI_nat (j := 0) rfl, v0, x, "str", rfl, h0, by decide, _, rfl, ?_⟩
        cases h0 with
        | str u =>
          refine iteF ?_
          refine ⟨_, rfl, a, _, _, .str u, rfl, rfl, hq, atI_nat (j := 0) rfl, ?_⟩
          have qw : ∀ H', Same H H' → Q (.bl (shapedW u rest)) H' := fun H' s' => by
            have q1 := q H' s'
            have ee : shapedB (.tuple (.str u :: rest)) = shapedW u rest := by
              show (decide (1 ≤ rest.length) && shapedW u rest) = _
              rw [decide_eq_true hr1, Bool.true_and]
            rw [ee] at q1
            exact q1
          unfold shapedW at qw
          refine ⟨_, rfl, aL, _, rfl, .inr (TL.sq H), rfl, rfl, _, rfl, ?_⟩
          show if (leafW u) = true then _ else _
          refine ite2 (fun e2 => ?_) (fun e2 => ?_)
          · rw [if_pos e2] at qw
            refine ⟨_, rfl, a, _, rfl, .inr hq, rfl, _, rfl, ite2 (fun e3 => ?_) (fun e3 => ?_)⟩
            · have e4 : rest.length = 1 := by
                have := V.int.inj (of_decide_eq_true e3)
                simp at this
                omega
              rw [decide_eq_true e4, Bool.true_and] at qw
              obtain ⟨r0, rfl⟩ := one_of e4
              obtain ⟨v1, rfl, h1⟩ := hrd.one
              refine ⟨_, rfl, _, rfl, a, _, _, v1, rfl, rfl, hq, atI_nat (j := 1) rfl, u, v1, r0, rfl, h1, short_mem (i := 0) hsr rfl, qw⟩
            · have e4 : ¬ rest.length = 1 := fun h => e3 (decide_eq_true (by rw [List.length_cons, hvr, h]; rfl))
              have q1 := qw H (Same.refl H)
              rw [decide_eq_false e4, Bool.false_and] at q1
              exact q1
          · rw [if_neg e2] at qw
            refine ⟨_, rfl, rfl, _, rfl, ?_⟩
            rw [dec_str]
            refine ite2 (fun e3 => ?_) (fun e3 => ?_)
            · rw [if_pos e3] at qw
              refine ⟨_, rfl, a, _, rfl, .inr hq, rfl, _, rfl, ite2 (fun e4 => ?_) (fun e4 => ?_)⟩
              · have e5 : rest.length = 2 := by
                  have := V.int.inj (of_decide_eq_true e4)
                  simp at this
                  omega
                rw [decide_eq_true e5, Bool.true_and] at qw
                obtain ⟨r0, r1, rfl⟩ := two_of e5
                obtain ⟨v1, v2, rfl, h1, h2⟩ := hrd.two
                refine ⟨_, rfl, a, _, _, v2, rfl, rfl, hq, atI_nat (j := 2) rfl, v2, r1, rfl, h2, short_mem (i := 1) hsr rfl, qw⟩
              · have e5 : ¬ rest.length = 2 := fun h => e4 (decide_eq_true (by rw [List.length_cons, hvr, h]; rfl))
                have q1 := qw H (Same.refl H)
                rw [decide_eq_false e5, Bool.false_and] at q1
                exact q1
            · rw [if_neg e3] at qw
              refine ⟨_, rfl, rfl, _, rfl, ?_⟩
              rw [dec_str]
              refine ite2 (fun e4 => ?_) (fun e4 => ?_)
              · rw [if_pos e4] at qw
                refine ⟨_, rfl, a, _, rfl, .inr hq, _, _, rfl, rfl, _, _, rfl, rfl, ?_⟩
                have q1 := qw H (Same.refl H)
                have ee : decide (((V.str u :: vr).length : Int) ≤ 1 + 8) = decide (rest.length ≤ 8) := by
                  rw [Bool.eq_iff_iff, decide_eq_true_eq, decide_eq_true_eq, List.length_cons]
                  omega
                show Q (.bl (decide (((V.str u :: vr).length : Int) ≤ 1 + 8))) H
                rw [ee]
                exact q1
              · rw [if_neg e4] at qw
                have q1 := qw H (Same.refl H)
                have e3f : (u == ("field" : Str)) = false := by
                  cases hh : (u == ("field" : Str)) with
                  | false => rfl
                  | true => exact absurd hh e3
                rcases tupsOf TC.tps u with ⟨pt, xt, c, t1, t2, t3, t4⟩ | ⟨t1, t3⟩
                · rcases nsIn_cv TC.d.at_ TC.ent u with ⟨v', uu, hl, hns, rel⟩ | ⟨hl, hns⟩
                  · rw [t1] at hl
                    cases hl
                    rw [counts2_of e3f] at t3
                    rw [t3] at q1
                    refine ⟨_, rfl, u, some uu, rfl, rfl, hns, _, rfl, iteT ?_⟩
                    refine ⟨_, rfl, a, _, rfl, .inr hq, _, rfl, aC, u, .ref pt, rfl, rfl, ⟨es, nE, uu, TC.d.at_, TC.d.lit, hns, rel⟩, pt, xt, rfl, .inr (t2 _), _, _, rfl, rfl, rfl, ?_⟩
                    have ee : decide (V.int ((V.str u :: vr).length : Int) = V.int (1 + (xt.length : Int))) = decide ((rest.length : Int) = c) := by
                      rw [Bool.eq_iff_iff, decide_eq_true_eq, decide_eq_true_eq]
                      constructor
                      · intro h
                        have := V.int.inj h
                        rw [List.length_cons] at this
                        omega
                      · intro h
                        rw [List.length_cons, hvr]
                        exact congrArg V.int (by omega)
                    show Q (.bl (decide (V.int ((V.str u :: vr).length : Int) = V.int (1 + (xt.length : Int))))) H
                    rw [ee]
                    exact q1
                  · rw [t1] at hl
                    cases hl
                · rcases nsIn_cv TC.d.at_ TC.ent u with ⟨v', uu, hl, hns, rel⟩ | ⟨hl, hns⟩
                  · rw [t1] at hl
                    cases hl
                  · rw [counts2_of e3f] at t3
                    rw [t3] at q1
                    exact ⟨_, rfl, u, none, rfl, rfl, hns, _, rfl, iteF q1⟩
        | _ =>
          have q1 : Q (V.bl false) H := by simpa [shapedB] using q0
          exact iteT q1
    | _ => exact iteT q0
abbrev sPPartsOf : Stmt := topS 21
abbrev NPPartsOf : List Str := ["term"]
theorem scPPartsOf : FnScope NPPartsOf ["term"] (fnScope sPPartsOf) := ⟨rfl, rfl, rfl, by decide +kernel, rfl, by decide +kernel, by decide +kernel⟩
/-- of a tuple that begins with a word: a new list of the things at the places of its terms -/
def spParts (K : PySem.W.Frag) : Sp := fun vs H Q _ => ∃ a u vr, vs = [.ref a] ∧ SqT K H a (.str u :: vr) ∧ 1 ≤ vr.length ∧ vr.length ≤ 1000 ∧ ∀ l H', H l = none → Same H H' → H' l = some (.lst (selW u vr)) → Q (.ref l) H'
theorem slice_tail {H : Hp} {a : Addr} {x : V} {vr : List V} {Q : V → Hp → Prop} (hq : SqT K H a (x :: vr)) (q : ∀ p, H p = none → Q (.ref p) (upd H p (.tup vr))) : (rSlA K) (.ref a) (some 1) none H Q := by
  have hs1 : HT.sIx (x :: vr).length 0 (some 1) = 1 := by
    rw [show HT.sIx (x :: vr).length 0 (some 1) = min 1 (x :: vr).length from HT.sIx_nat (x :: vr).length 0 1, List.length_cons]
    omega
  have ec : cutV (x :: vr) (some 1) none = vr := by
    unfold cutV
    rw [hs1, HT.sIx_none]
    exact List.take_of_length_le (by simp)
  refine ⟨a, x :: vr, rfl, hq, fun h => ?_, fun _ p hp => ?_⟩
  · rw [hs1] at h
    exact absurd h.1 (by decide)
  · rw [ec]
    exact q p hp
theorem c_partsOf (T : Tp mg) {aL : Addr} (TL : Lv K mg aL) {f : Addr} {fd : FuncData} (D : Def K mg "parts_of" sPPartsOf f fd) (b : Binds K fd ["term"] []) : Cal P w K mg base 1 "parts_of" (spParts K) [] := by
  refine cal0 D b .nil scPPartsOf (fun vs H Q E h => ?_) (fun cdv A outer s H vs Q E hr h => ?_)
  · obtain ⟨a, u, vr, rfl, _⟩ := h
    rfl
  · obtain ⟨a, u, vr, rfl, hq, h1, h2, q⟩ := h
    refine ⟨_, (pss_cons (ps_if (pt_cmpR op_in_seq (pe_ix ix_tup (pv 0) pe_int (fun _ _ => rfl)) (C8.pe_gc (by rfl) TL.g) (by rfl))
      (pss_one (ps_ret (pe_lst pa_nil)))
      pss_nil)
    (pss_cons (ps_if (pt_cmpR op_eq (pe_ix ix_tup (pv 0) pe_int (fun _ _ => rfl)) pe_str (nomark _))
      (pss_one (ps_ret (pe_lst (pa_cons (pe_ix ix_tup (pv 0) pe_int (fun _ _ => rfl)) pa_nil))))
      pss_nil)
    (pss_one (ps_ret (pe_callTy call_list_of (by rfl) T.n_list (by decide +kernel) (pa_cons (pe_slice sl_tupA (pv 0) (po_some pe_int) po_none) pa_nil)))))), ?_⟩
    unfold selW at q
    refine ⟨_, rfl, a, _, _, .str u, rfl, rfl, hq, atI_nat (j := 0) rfl, aL, _, rfl, .inr (TL.sq H), rfl, rfl, _, rfl, ?_⟩
    show if (leafW u) = true then _ else _
    refine ite2 (fun e => ?_) (fun e => ?_)
    · rw [if_pos e] at q
      exact ⟨(by show 0 ≤ sizeLine; decide), fun l hl => q l _ hl (Same.new hl) upd_same⟩
    · rw [if_neg e] at q
      refine ⟨_, rfl, a, _, _, .str u, rfl, rfl, hq, atI_nat (j := 0) rfl, rfl, _, rfl, ?_⟩
      rw [dec_str]
      refine ite2 (fun e2 => ?_) (fun e2 => ?_)
      · rw [if_pos e2] at q
        cases vr with
        | nil => exact absurd h1 (by decide)
        | cons v1 vr2 =>
          refine ⟨_, rfl, a, _, _, v1, rfl, rfl, hq, atI_nat (j := 1) rfl, (by show 1 ≤ sizeLine; decide), fun l hl => q l _ hl (Same.new hl) upd_same⟩
      · rw [if_neg e2] at q
        refine ⟨_, rfl, 1, rfl, ?_⟩
        refine slice_tail (Q := fun x H1 => ∃ p ys, [x] = [V.ref p] ∧ (SqL K H1 p ys ∨ SqT K H1 p ys) ∧ ∀ l, H1 l = none → Q (V.ref l) (upd H1 l (.lst ys))) hq fun p hp => ⟨p, vr, rfl, .inr (SqT.of upd_same), fun l hl => ?_⟩
        exact q l _ ((Same.new hp).free hl) ((Same.new hp).trans (Same.new hl)) upd_same

/-! ### is_term -/
theorem weightAll_app : ∀ (xs ys : List PyData), PyData.weightAll (xs ++ ys) = PyData.weightAll xs + PyData.weightAll ys
  | [], ys => by simp [PyData.weightAll]
  | x :: xs, ys => by
    rw [List.cons_append, PyData.weightAll, PyData.weightAll, weightAll_app xs ys]
    omega
theorem len_weightAll : ∀ xs : List PyData, xs.length ≤ PyData.weightAll xs
  | [] => Nat.zero_le _
  | x :: xs => by
    have := len_weightAll xs
    rw [PyData.weightAll, List.length_cons]
    omega
theorem weight_sel (u : Str) (l : List PyData) : PyData.weightAll (selW u l) ≤ PyData.weightAll l := by
  unfold selW
  split
  · simp [PyData.weightAll]
  · split
    · cases l with
      | nil => simp [PyData.weightAll]
      | cons x r => simp only [List.take, PyData.weightAll]; omega
    · exact Nat.le_refl _
theorem weight_parts (d : PyData) : PyData.weightAll (partsD d) ≤ d.weight := by
  cases d with
  | tuple ds =>
    cases ds with
    | nil => simp [partsD, PyData.weightAll]
    | cons x rest =>
      cases x with
      | str u =>
        have := weight_sel u rest
        show PyData.weightAll (selW u rest) ≤ (PyData.tuple (.str u :: rest)).weight
        rw [PyData.weight, PyData.weightAll]
        omega
      | _ => simp [partsD, PyData.weightAll]
  | _ => simp [partsD, PyData.weightAll]
theorem shaped_form {d : PyData} (h : shapedB d = true) : ∃ u rest, d = .tuple (.str u :: rest) ∧ 1 ≤ rest.length := by
  unfold shapedB at h
  split at h
  · rename_i u rest
    rw [Bool.and_eq_true] at h
    exact ⟨u, rest, rfl, of_decide_eq_true h.1⟩
  · cases h
theorem short_sel {u : Str} {l : List PyData} (h : shortAll l = true) : shortAll (selW u l) = true := by
  unfold selW
  split
  · rfl
  · split
    · cases l with
      | nil => rfl
      | cons x r =>
        have h' : short x = true ∧ shortAll r = true := by simpa [shortAll] using h
        simp [List.take, shortAll, h'.1]
    · exact h
theorem shortAll_app : ∀ {xs ys : List PyData}, shortAll xs = true → shortAll ys = true → shortAll (xs ++ ys) = true
  | [], _, _, h => h
  | x :: xs, _, h, h2 => by
    have h' : short x = true ∧ shortAll xs = true := by simpa [shortAll] using h
    simp only [List.cons_append, shortAll, h'.1, shortAll_app h'.2 h2, Bool.and_self]
theorem shortAll_init : ∀ {xs ys : List PyData}, shortAll (xs ++ ys) = true → shortAll xs = true
  | [], _, _ => rfl
  | x :: xs, ys, h => by
    have h' : short x = true ∧ shortAll (xs ++ ys) = true := by simpa [shortAll] using h
    simp only [shortAll, h'.1, shortAll_init h'.2, Bool.and_self]
theorem split_last {α : Type} {l : List α} (h : l ≠ []) : ∃ i x, l = i ++ [x] := ⟨l.dropLast, l.getLast h, (List.dropLast_concat_getLast h).symm⟩
theorem dpAll_split {H : Hp} {vs : List V} {xs : List PyData} {x : PyData} (h : DqAll K H vs (xs ++ [x])) : ∃ us v, vs = us ++ [v] ∧ DqAll K H us xs ∧ Dq K H v x := by
  induction xs generalizing vs with
  | nil =>
    obtain ⟨u, rfl, g⟩ := DqAll.one h
    exact ⟨[], u, rfl, .nil, g⟩
  | cons y ys ih =>
    obtain ⟨v0, vr, rfl, g, gr⟩ := dpAll_head h
    obtain ⟨us, v, rfl, g1, g2⟩ := ih gr
    exact ⟨v0 :: us, v, rfl, .cons g g1, g2⟩
abbrev sPIsTerm : Stmt := topS 18
abbrev NPIsTerm : List Str := ["thing", "todo", "one"]
theorem scPIsTerm : FnScope NPIsTerm ["thing"] (fnScope sPIsTerm) := ⟨rfl, rfl, rfl, by decide +kernel, rfl, by decide +kernel, by decide +kernel⟩
def spTerm (K : PySem.W.Frag) : Sp := fun vs H Q _ => ∃ v d, vs = [v] ∧ Dq K H v d ∧ short d = true ∧ d.weight ≤ 4000000 ∧ ∀ H', Same H H' → Q (.bl (termB d)) H'
theorem c_isTerm (c_PIsShaped : Cal P w K mg base 4 "_is_shaped" (spLook K shapedB) []) (c_PPartsOf : Cal P w K mg base 1 "parts_of" (spParts K) []) {f : Addr} {fd : FuncData} (D : Def K mg "is_term" sPIsTerm f fd) (b : Binds K fd ["thing"] []) :
    Cal P w K mg base 5 "is_term" (spTerm K) [] := by
  refine cal0 D b .nil scPIsTerm (fun vs H Q E h => ?_) (fun cdv A outer s H vs Q E hr h => ?_)
  · obtain ⟨v, d, rfl, _⟩ := h
    rfl
  · obtain ⟨v0, d0, rfl, hd, hs, hw, q⟩ := h
    have nd := scPIsTerm.nd
    refine ⟨_, (pss_cons (ps_set (i := 1) nd rfl (.inl rfl) (pe_lst (pa_cons (pv 0) pa_nil)))
    (pss_cons (ps_while PassesOwn.never (pt_truth (pv 1) (by intro _; rfl))
      (pss_cons (ps_set (i := 2) nd rfl (.inl rfl) (pe_bm0 PySem.F.plainAttrs_list PySem.F.slot_list_pop PySem.F.type_list_pop mt_pop (pv 1)))
    (pss_cons (ps_if (pt_not (pt_val (pe_c c_PIsShaped hr (by decide) (by rfl) (pa_cons (pv 2) pa_nil))))
      (pss_one (ps_ret pe_bl))
      pss_nil)
    (pss_one (ps_expr (pe_bm PySem.F.plainAttrs_list PySem.F.slot_list_extend PySem.F.type_list_extend mt_extend (pv 1) (pa_cons (pe_c c_PPartsOf hr (by decide) (by rfl) (pa_cons (pv 2) pa_nil)) pa_nil)))))))
    (pss_one (ps_ret pe_bl)))), ?_⟩
    refine ⟨_, rfl, (by show 1 ≤ sizeLine; decide), fun l hl => ?_⟩
    refine ⟨fun m σ H1 => ∃ vs ds o, σ = [some v0, some (.ref l), o] ∧ H1 l = some (.lst vs) ∧ DqAll K H vs ds ∧ shortAll ds = true ∧ ds.all termB = termB d0 ∧ Same H H1 ∧ m = PyData.weightAll ds ∧ m ≤ 4000001,
      ⟨_, [v0], [d0], none, rfl, upd_same, .cons hd .nil, by simp [shortAll, hs], by simp, Same.new hl, rfl, by simp [PyData.weightAll]; omega⟩, ?_⟩
    rintro m σ H1 ⟨vs, ds, o, rfl, hat, hD, hsh, hall, hS, rfl, hm⟩
    have line := sizeLine_eq
    have hlen := hD.len
    refine ⟨_, rfl, !vs.isEmpty, .inl ⟨vs, SqL.of hat, rfl⟩, ?_⟩
    by_cases hv : ds = []
    · subst hv
      cases hD
      have q' := q H1 hS
      rw [← hall] at q'
      exact iteF q'
    · obtain ⟨di, dx, rfl⟩ := split_last hv
      obtain ⟨us, vx, rfl, hDi, hDx⟩ := dpAll_split hD
      refine iteT' (by simp) ?_
      have hw1 : PyData.weightAll (di ++ [dx]) = PyData.weightAll di + (dx.weight + 1) := by
        rw [weightAll_app]
        simp [PyData.weightAll]
      refine ⟨fun σ' H' => ∃ m', m' < _ ∧ ∃ vs ds o, σ' = [some v0, some (.ref l), o] ∧ H' l = some (.lst vs) ∧ DqAll K H vs ds ∧ shortAll ds = true ∧ ds.all termB = termB d0 ∧ Same H H' ∧ m' = PyData.weightAll ds ∧ m' ≤ 4000001, fun σ' H' h => h, ?_⟩
      refine ⟨_, rfl, .inl ⟨rfl, _, SqL.of hat⟩, l, _, vx, rfl, rfl, hat, by simp, ?_⟩
      rw [List.dropLast_concat]
      have hs2 : Same H (upd H1 l (.lst us)) := fun b o h => by
        rw [upd_ne (ne_of_none h hl)]
        exact hS b o h
      have hshx : short dx = true := short_mem (i := di.length) hsh (by simp)
      have hshi : shortAll di = true := shortAll_init hsh
      have hall' : (di.all termB && termB dx) = termB d0 := by rw [← hall, List.all_append]; simp
      refine ⟨_, rfl, vx, dx, rfl, hDx.mono hs2, hshx, fun H2 s2 => ⟨_, rfl, ?_⟩⟩
      have hs3 := hs2.trans s2
      cases hb : shapedB dx with
      | false =>
        refine iteT ?_
        have q' := q H2 hs3
        rw [← hall', termB_eq dx, hb, Bool.false_and, Bool.and_false] at q'
        exact q'
      | true =>
        refine iteF ?_
        obtain ⟨u, rest, rfl, hr1⟩ := shaped_form hb
        cases hDx with
        | @tup a xs _ hq ha =>
          obtain ⟨w0, vr, rfl, g0, gr⟩ := dpAll_head ha
          cases g0
          have hsx := short_all hshx
          have hlr := gr.len
          have hat2 : H2 l = some (.lst us) := s2 _ _ upd_same
          refine ⟨_, rfl, .inl ⟨rfl, _, SqL.of hat2⟩, _, rfl, a, u, vr, rfl, sqT_mono hs3 hq, by omega, ?_, fun lp H3 hlp s3 hatp => ?_⟩
          · have := hsx.1
            rw [List.length_cons] at this
            omega
          · refine ⟨l, lp, us, selW u vr, rfl, rfl, s3 _ _ hat2, hatp, ?_, ?_⟩
            · have h1 := sel_len u vr
              have h2 := len_weightAll di
              have h3 := hDi.len
              have := hsx.1
              rw [List.length_cons] at this
              omega
            · have hwp := weight_parts (.tuple (.str u :: rest))
              have e : partsD (.tuple (.str u :: rest)) = selW u rest := rfl
              rw [e] at hwp
              refine ⟨PyData.weightAll (di ++ selW u rest), ?_, us ++ selW u vr, di ++ selW u rest, _, rfl, upd_same, hDi.app (sel_dp u gr), shortAll_app hshi (short_sel ?_), ?_, ?_, rfl, ?_⟩
              · rw [weightAll_app, hw1]
                omega
              · have h' : short (.str u) = true ∧ shortAll rest = true := by simpa [shortAll] using hsx.2
                exact h'.2
              · rw [← hall', termB_eq (.tuple (.str u :: rest)), hb, Bool.true_and, List.all_append]
                rfl
              · exact fun b o h => by
                  rw [upd_ne (ne_of_none h hl)]
                  exact s3 _ _ (hs3 b o h)
              · rw [weightAll_app]
                omega
end
end K25
set_option Elab.async false
set_option linter.all false
set_option maxRecDepth 100000
set_option maxHeartbeats 4000000
namespace K25
open PySem PySem.Spec PyProof.Rows L2 KD
open C8 (Cal Def cal0 pe_c fnBody fnScope fnArgs)
/-! ### what rows are -/
def namedPairB : PyData → Bool
  | .tuple [x, _] => nameB x
  | _ => false
def namedB : PyData → Bool
  | .tuple ds => ds.all namedPairB
  | _ => false
def firstS : PyData → Str
  | .tuple (.str z :: _) => z
  | _ => ""
def ltS (a b : Str) : Bool := decide (a.cps.toList < b.cps.toList)
def rises : List Str → Bool
  | a :: b :: r => ltS a b && rises (b :: r)
  | _ => true
def risesB : PyData → Bool
  | .tuple ds => rises (ds.map firstS)
  | _ => false
def secondB (g : PyData → Bool) : PyData → Bool
  | .tuple [_, y] => g y
  | _ => false
def allB (g : PyData → Bool) : PyData → Bool
  | .tuple ds => ds.all g
  | _ => false
def fieldsB (d : PyData) : Bool := namedB d && (risesB d && allB (secondB termB) d)
def countB : PyData → Bool
  | .int i => decide (0 ≤ i)
  | _ => false
def fitsB (u : Str) : PyData → Bool := if u == "name" then nameB else if u == "term" then termB else if u == "count" then countB else if u == "terms" then allB termB else fieldsB
def forms : List (Str × List Str) := [("let", ["name", "term"]), ("put", ["name", "term"]), ("set", ["term", "name", "term"]), ("new", ["name", "name", "fields"]), ("call", ["name", "name", "terms"]), ("tell", ["term"]), ("mark", ["name"]), ("go", ["count"]), ("unless", ["term", "count"]), ("back", ["term"])]
def rowB : PyData → Bool
  | .tuple (.str u :: rest) => match forms.lookup u with
    | some f => decide (rest.length = f.length) && (f.zip rest).all fun q => fitsB q.1 q.2
    | none => false
  | _ => false
theorem weight_mem : ∀ {ds : List PyData} {d : PyData}, d ∈ ds → d.weight ≤ PyData.weightAll ds
  | x :: xs, d, h => by
    rw [PyData.weightAll]
    rcases List.mem_cons.mp h with rfl | h
    · omega
    · have := weight_mem h
      omega
/-- small data -/
def Sml (d : PyData) : Prop := short d = true ∧ d.weight ≤ 4000000
theorem Sml.at {ds : List PyData} {i : Nat} {d : PyData} (h : Sml (.tuple ds)) (e : ds[i]? = some d) : Sml d := by
  refine ⟨short_mem (short_all h.1).2 e, ?_⟩
  have h1 := weight_mem (List.mem_of_getElem? e)
  have h2 := h.2
  rw [PyData.weight] at h2
  omega
theorem Sml.len {ds : List PyData} (h : Sml (.tuple ds)) : ds.length ≤ 1000 := (short_all h.1).1
theorem namedPair_of {d : PyData} (h : namedPairB d = true) : ∃ z y, d = .tuple [.str z, y] ∧ nameS z = true := by
  unfold namedPairB at h
  split at h
  · rename_i x y
    cases x <;> simp [nameB] at h
    exact ⟨_, _, rfl, h⟩
  · cases h
theorem rises_range : ∀ zs : List Str, rises zs = ((List.range (zs.length - 1)).map fun i => ltS (zs.getD i "") (zs.getD (i + 1) "")).all id
  | [] => rfl
  | [a] => rfl
  | a :: b :: r => by
    have ih := rises_range (b :: r)
    have e : (a :: b :: r).length - 1 = ((b :: r).length - 1) + 1 := by simp
    rw [e, List.range_succ_eq_map]
    rw [List.map_cons, List.all_cons, List.map_map]
    show (ltS a b && rises (b :: r)) = _
    rw [ih]
    rfl
section
variable {K : PySem.W.Frag}
theorem dq_at' {H : Hp} : ∀ {vs : List V} {ds : List PyData} {i : Nat} {d : PyData}, DqAll K H vs ds → ds[i]? = some d → ∃ v, vs[i]? = some v ∧ Dq K H v d
  | _, _, i, d, .nil, e => by simp at e
  | _, _, 0, d, .cons h t, e => by
    simp at e
    exact ⟨_, rfl, e ▸ h⟩
  | _, _, i + 1, d, .cons h t, e => by
    obtain ⟨v, h1, h2⟩ := dq_at' (i := i) t (by simpa using e)
    exact ⟨v, by simpa using h1, h2⟩
/-- the looks at the things of a tuple, in a comprehension -/
theorem lcB {a : Addr} {xs : List V} {ds : List PyData} {H : Hp} {k : Nat} {te : TE} {σ : L2.St} {R9 : Addr → Hp → Prop} (g : PyData → Bool) (ha : SqT K H a xs) (hd : DqAll K H xs ds) (hn : ds.length ≤ 1000)
    (hstep : ∀ (i : Nat) (v : V) (d : PyData) (H' : Hp) (Q' : VK), ds[i]? = some d → Dq K H' v d → Same H H' → (∀ H'', Same H' H'' → Q' (.bl (g d)) H'') → te ((wipe σ [k]).set k (some v)) H' Q')
    (hq : ∀ D H', H D = none → H' D = some (.lst ((ds.map g).map V.bl)) → Same H H' → R9 D H') :
    ∀ D, H D = none → ∃ W : Nat → Nat → Hp → Prop, (∃ m, W 0 m (upd H D (.lst []))) ∧ ∀ i m H, W i m H →
      ((Itt K a).stop i H ∧ R9 D H) ∨ ((Itt K a).go i H ∧ ∃ Nx : Hp → Prop, (∀ H', Nx H' → ∃ m', m' < m ∧ W (i + 1) m' H') ∧ ∀ x H', (Itt K a).yld i H x H' → gName k x (wipe σ [k]) H' fun σ2 H2 => wipe σ2 [k] = wipe σ [k] ∧ tYes σ2 H2 fun b H3 =>
        if b = true then te σ2 H3 fun y H4 => ∃ acc, H4 D = some (.lst acc) ∧ acc.length < sizeLine ∧ Nx (upd H4 D (.lst (acc ++ [y]))) else Nx H3) := by
  intro D hD
  have hl := hd.len
  refine lc_tup (K := K) (a := a) (xs := xs) (fun i H' => H' D = some (.lst (((ds.take i).map g).map V.bl)) ∧ Same H H')
    ⟨upd_same, Same.new hD⟩ (fun i H' _ hW => sqT_mono hW.2 ha) (fun i x H' hx hW => ?_) (fun H' hW => ?_)
  · obtain ⟨hat, sm⟩ := hW
    refine ⟨?_, ?_⟩
    · show ((wipe σ [k]).set k (some x)).set k none = wipe σ [k]
      rw [List.set_set]
      show ((σ.set k none).set k none) = σ.set k none
      rw [List.set_set]
    · unfold tYes; dsimp only
      rw [if_pos rfl]
      obtain ⟨d, hd1, hd2⟩ := hd.at hx
      refine hstep i x d H' _ hd1 (hd2.mono sm) sm fun H2 s2 => ?_
      refine ⟨_, s2 _ _ hat, ?_, ?_, fun b o hb => ?_⟩
      · rw [List.length_map, List.length_map, List.length_take, sizeLine_eq]
        omega
      · rw [List.take_succ, hd1, List.map_append, List.map_append]
        exact upd_same
      · rw [upd_ne (fun z => by rw [z, hD] at hb; cases hb)]
        exact s2 _ _ (sm _ _ hb)
  · obtain ⟨hat, sm⟩ := hW
    rw [hl, List.take_of_length_le (Nat.le_refl _)] at hat
    exact hq D H' hD hat sm
theorem all_id (g : PyData → Bool) (ds : List PyData) : (ds.map g).all id = ds.all g := by
  rw [List.all_map]
  rfl
theorem walk_zipT {a b : Addr} {xs ys : List V} {n : Nat} (hn : n = min xs.length ys.length) : Walk (RZ.ItzT K a b) n (fun H => SqT K H a xs ∧ SqT K H b ys) (YPair (fun i => xs[i]?) (fun i => ys[i]?)) := by
  subst hn
  refine ⟨fun i _ hi q => ?_, fun _ q => ⟨xs, ys, q.1, q.2, by omega⟩, fun i H v H' _ q y => ?_⟩
  · exact ⟨xs, ys, xs[i]'(by omega), ys[i]'(by omega), q.1, q.2, List.getElem?_eq_getElem _, List.getElem?_eq_getElem _⟩
  · obtain ⟨T, x, z, e1, e2, e3, e4, e5⟩ := y
    exact ⟨T, x, z, e1, e2, e3, e4 xs q.1, e5 ys q.2⟩
end
section
variable {P : Program} {w : World} {K : PySem.W.Frag} {mg : Str → Option Value} {base : Heap}
/-- a look at small data -/
def spW (K : PySem.W.Frag) (g : PyData → Bool) : Sp := fun vs H Q _ => ∃ v d, vs = [v] ∧ Dq K H v d ∧ Sml d ∧ ∀ H', Same H H' → Q (.bl (g d)) H'
theorem cal_imp {k : Nat} {x : Str} {sp sp' : Sp} (c : Cal P w K mg base k x sp []) (h : ∀ vs H Q E, sp' vs H Q E → sp vs H Q E) : Cal P w K mg base k x sp' [] := by
  obtain ⟨f, fd, ps, ds, F, r⟩ := c
  exact ⟨f, fd, ps, ds, F.imp h, r⟩
abbrev sPIsCount : Stmt := topS 26
abbrev NPIsCount : List Str := ["thing"]
theorem scPIsCount : FnScope NPIsCount ["thing"] (fnScope sPIsCount) := ⟨rfl, rfl, rfl, by decide +kernel, rfl, by decide +kernel, by decide +kernel⟩
theorem c_isCount (T : Tp mg) {f : Addr} {fd : FuncData} (D : Def K mg "is_count" sPIsCount f fd) (b : Binds K fd ["thing"] []) : Cal P w K mg base 1 "is_count" (spW K countB) [] := by
  refine cal0 D b .nil scPIsCount (fun vs H Q E h => ?_) (fun cdv A outer s H vs Q E hr h => ?_)
  · obtain ⟨v, d, rfl, _⟩ := h
    rfl
  · obtain ⟨v, d, rfl, hd, _, q⟩ := h
    refine ⟨_, (pss_one (ps_ret (pe_and (pe_callB call_isQ (by rfl) T.n_isinstance (by decide +kernel) (pa_cons (pv 0) (pa_cons (pe_bltn (v := .ty "int") (by rfl) T.n_int (by decide +kernel) rfl) pa_nil))) (pe_and (pe_not (pe_callB call_isQ (by rfl) T.n_isinstance (by decide +kernel) (pa_cons (pv 0) (pa_cons (pe_bltn (v := .ty "bool") (by rfl) T.n_bool (by decide +kernel) rfl) pa_nil)))) (pe_one (pe_cmpR op_ge (pv 0) pe_int (nomark _))))))), ?_⟩
    have q0 := q H (Same.refl H)
    refine ⟨_, rfl, v, d, "int", rfl, hd, by decide, _, rfl, ?_⟩
    cases hd with
    | int i =>
      refine iteT ⟨_, rfl, _, _, "bool", rfl, .int i, by decide, _, rfl, _, rfl, iteT ?_⟩
      exact ⟨_, rfl, _, _, rfl, rfl, q0⟩
    | bl bb =>
      exact iteT ⟨_, rfl, _, _, "bool", rfl, .bl bb, by decide, _, rfl, _, rfl, iteF q0⟩
    | _ => exact iteF q0
abbrev sPIsNamedPair : Stmt := topS 8
abbrev NPIsNamedPair : List Str := ["thing"]
theorem scPIsNamedPair : FnScope NPIsNamedPair ["thing"] (fnScope sPIsNamedPair) := ⟨rfl, rfl, rfl, by decide +kernel, rfl, by decide +kernel, by decide +kernel⟩
theorem c_isNamedPair (T : Tp mg) (c_PIsName : Cal P w K mg base 1 "is_name" (spLook K nameB) []) {f : Addr} {fd : FuncData} (D : Def K mg "_is_named_pair" sPIsNamedPair f fd) (b : Binds K fd ["thing"] []) : Cal P w K mg base 2 "_is_named_pair" (spW K namedPairB) [] := by
  refine cal0 D b .nil scPIsNamedPair (fun vs H Q E h => ?_) (fun cdv A outer s H vs Q E hr h => ?_)
  · obtain ⟨v, d, rfl, _⟩ := h
    rfl
  · obtain ⟨v, d, rfl, hd, hs, q⟩ := h
    refine ⟨_, (pss_one (ps_ret (pe_and (pe_callB call_isQ (by rfl) T.n_isinstance (by decide +kernel) (pa_cons (pv 0) (pa_cons (pe_bltn (v := .ty "tuple") (by rfl) T.n_tuple (by decide +kernel) rfl) pa_nil))) (pe_and (pe_cmpR op_eq (pe_callB call_len_seq (by rfl) T.n_len (by decide +kernel) (pa_cons (pv 0) pa_nil)) pe_int (nomark _)) (pe_one (pe_c c_PIsName hr (by decide) (by rfl) (pa_cons (pe_ix ix_tup (pv 0) pe_int (fun _ _ => rfl)) pa_nil))))))), ?_⟩
    have q0 := q H (Same.refl H)
    refine ⟨_, rfl, v, d, "tuple", rfl, hd, by decide, _, rfl, ?_⟩
    cases hd with
    | @tup a xs ds hq ha =>
      have hl := ha.len
      refine iteT ⟨_, rfl, a, xs, rfl, .inr hq, rfl, _, rfl, ite2 (fun e => ?_) (fun e => ?_)⟩
      · have e2 : xs.length = 2 := by
          have := V.int.inj (of_decide_eq_true e)
          omega
        obtain ⟨x, y, rfl⟩ := two_of (l := ds) (by omega)
        obtain ⟨u, v, rfl, hx, hy⟩ := DqAll.two ha
        exact ⟨_, rfl, a, _, _, u, rfl, rfl, hq, atI_nat (j := 0) rfl, u, x, rfl, hx, (hs.at (i := 0) rfl).1, q⟩
      · have e2 : ds.length ≠ 2 := fun h => e (decide_eq_true (by rw [hl, h]; rfl))
        have hf : namedPairB (.tuple ds) = false := by
          unfold namedPairB
          split
          · rename_i h; cases h; exact absurd rfl e2
          · rfl
        rw [hf] at q0
        exact q0
    | _ => exact iteF q0
abbrev sPAreNamed : Stmt := topS 7
abbrev NPAreNamed : List Str := ["thing", "pair"]
theorem scPAreNamed : FnScope NPAreNamed ["thing"] (fnScope sPAreNamed) := ⟨rfl, rfl, rfl, by decide +kernel, rfl, by decide +kernel, by decide +kernel⟩
theorem c_areNamed (T : Tp mg) (c_PIsNamedPair : Cal P w K mg base 2 "_is_named_pair" (spW K namedPairB) []) {f : Addr} {fd : FuncData} (D : Def K mg "are_named" sPAreNamed f fd) (b : Binds K fd ["thing"] []) : Cal P w K mg base 3 "are_named" (spW K namedB) [] := by
  refine cal0 D b .nil scPAreNamed (fun vs H Q E h => ?_) (fun cdv A outer s H vs Q E hr h => ?_)
  · obtain ⟨v, d, rfl, _⟩ := h
    rfl
  · obtain ⟨v, d, rfl, hd, hs, q⟩ := h
    have nd := scPAreNamed.nd
    refine ⟨_, (pss_one (ps_ret (pe_and (pe_callB call_isQ (by rfl) T.n_isinstance (by decide +kernel) (pa_cons (pv 0) (pa_cons (pe_bltn (v := .ty "tuple") (by rfl) T.n_tuple (by decide +kernel) rfl) pa_nil))) (pe_one (pe_callB (cr_all rfl) (by rfl) T.n_all (by decide +kernel) (pa_cons (pe_lc (own := [("pair", 1)]) (g := gName 1) (by rfl) nd (pi_tup (pv 0)) (blkOk_by (own := [("pair", 1)]) (N := NPAreNamed) (sc := fnScope sPAreNamed) (by decide +kernel)) (fun _ _ _ _ _ => pg_name (i := 1) nd rfl (Or.inl rfl)) (fun _ _ _ _ _ => pts_nil) (fun _ _ _ _ _ => (pe_c c_PIsNamedPair hr (by decide) (by rfl) (pa_cons (pv 1) pa_nil)))) pa_nil)))))), ?_⟩
    have q0 := q H (Same.refl H)
    refine ⟨_, rfl, v, d, "tuple", rfl, hd, by decide, _, rfl, ?_⟩
    cases hd with
    | @tup a xs ds hq ha =>
      refine iteT ⟨_, rfl, a, rfl, ⟨xs, hq⟩, ?_⟩
      refine lcB (K := K) namedPairB hq ha hs.len (fun i x d H' Q' e hx sm hQ => ?_) (fun Dl H' _ hat sm => ?_)
      · exact ⟨_, rfl, x, d, rfl, hx, hs.at e, hQ⟩
      · refine ⟨Dl, _, rfl, SqL.of hat, ?_⟩
        rw [all_id]
        exact q H' sm
    | _ => exact iteF q0
abbrev sPAreRising : Stmt := topS 9
abbrev NPAreRising : List Str := ["pairs", "k"]
theorem scPAreRising : FnScope NPAreRising ["pairs"] (fnScope sPAreRising) := ⟨rfl, rfl, rfl, by decide +kernel, rfl, by decide +kernel, by decide +kernel⟩
def spRising (K : PySem.W.Frag) : Sp := fun vs H Q _ => ∃ v d, vs = [v] ∧ Dq K H v d ∧ Sml d ∧ namedB d = true ∧ ∀ H', Same H H' → Q (.bl (risesB d)) H'
theorem c_areRising (T : Tp mg) {f : Addr} {fd : FuncData} (D : Def K mg "are_rising" sPAreRising f fd) (b : Binds K fd ["pairs"] []) : Cal P w K mg base 1 "are_rising" (spRising K) [] := by
  refine cal0 D b .nil scPAreRising (fun vs H Q E h => ?_) (fun cdv A outer s H vs Q E hr h => ?_)
  · obtain ⟨v, d, rfl, _⟩ := h
    rfl
  · obtain ⟨v, d, rfl, hd, hs, hn, q⟩ := h
    have nd := scPAreRising.nd
    refine ⟨_, (pss_one (ps_ret (pe_callB (cr_all rfl) (by rfl) T.n_all (by decide +kernel) (pa_cons (pe_lc (own := [("k", 1)]) (g := gName 1) (by rfl) nd (pi_range2 (by rfl) T.n_range (pa_cons pe_int (pa_cons (pe_callB call_len_seq (by rfl) T.n_len (by decide +kernel) (pa_cons (pv 0) pa_nil)) pa_nil))) (blkOk_by (own := [("k", 1)]) (N := NPAreRising) (sc := fnScope sPAreRising) (by decide +kernel)) (fun _ _ _ _ _ => pg_name (i := 1) nd rfl (Or.inl rfl)) (fun _ _ _ _ _ => pts_nil) (fun _ _ _ _ _ => (pe_cmpR op_lt_str (pe_ix (r := rIxT K) ix_tup (pe_ix (r := rIxT K) ix_tup (pv 0) (pe_op op_sub (pv 1) pe_int) (fun _ _ => rfl)) pe_int (fun _ _ => rfl)) (pe_ix (r := rIxT K) ix_tup (pe_ix (r := rIxT K) ix_tup (pv 0) (pv 1) (fun _ _ => rfl)) pe_int (fun _ _ => rfl)) (nomark _)))) pa_nil)))), ?_⟩
    cases hd with
    | @tup a xs ds hq ha =>
      have hl := ha.len
      have h1000 := hs.len
      have pr : ∀ {H' : Hp} {i : Nat}, Same H H' → i < ds.length → ∃ t z y, xs[i]? = some (.ref t) ∧ SqT K H' t [.str z, y] ∧ (ds.map firstS).getD i "" = z := by
        intro H' i sm hi
        obtain ⟨d, hd⟩ : ∃ d, ds[i]? = some d := ⟨_, List.getElem?_eq_getElem hi⟩
        obtain ⟨z, y, rfl, _⟩ := namedPair_of (List.all_eq_true.mp hn d (List.mem_of_getElem? hd))
        obtain ⟨v, hv, hdv⟩ := dq_at' ha hd
        cases hdv with
        | @tup t ys _ hqt hat =>
          obtain ⟨u, y2, rfl, hu, _⟩ := DqAll.two hat
          cases hu
          refine ⟨t, z, y2, hv, sqT_mono sm hqt, ?_⟩
          rw [List.getD_eq_getElem?_getD, List.getElem?_map, hd]
          rfl
      refine ⟨_, rfl, a, xs, rfl, .inr hq, ?_⟩
      refine ⟨1, _, rfl, ⟨by decide, by decide, by omega, by omega⟩, fun Dl hDl => ?_⟩
      refine lc_range (lo := 1) (fun i H' => H' Dl = some (.lst (((List.range i).map fun j => ltS ((ds.map firstS).getD j "") ((ds.map firstS).getD (j + 1) "")).map V.bl)) ∧ Same H H')
        ⟨upd_same, Same.new hDl⟩ (fun i H' hi hW => ?_) (fun H' hW => ?_)
      · obtain ⟨hat, sm⟩ := hW
        have hi1 : i + 1 < ds.length := by omega
        refine ⟨rfl, ?_⟩
        unfold tYes; dsimp only
        rw [if_pos rfl]
        obtain ⟨t1, z1, y1, g1, g2, g3⟩ := pr (i := i) sm (by omega)
        obtain ⟨t2, z2, y2, f1, f2, f3⟩ := pr (i := i + 1) sm hi1
        have ei : ((1 : Int) + (i : Int)) - 1 = (i : Int) := by omega
        have ej : ((1 : Int) + (i : Int)) = ((i + 1 : Nat) : Int) := by omega
        refine ⟨_, rfl, _, rfl, _, _, rfl, rfl, a, xs, _, _, rfl, rfl, sqT_mono sm hq, (by rw [ei]; exact atI_nat g1), t1, _, _, .str z1, rfl, rfl, g2, atI_nat (j := 0) rfl, ?_⟩
        refine ⟨_, rfl, _, rfl, a, xs, _, _, rfl, rfl, sqT_mono sm hq, (by rw [ej]; exact atI_nat f1), t2, _, _, .str z2, rfl, rfl, f2, atI_nat (j := 0) rfl, z1, z2, rfl, rfl, ?_⟩
        refine ⟨_, hat, by rw [List.length_map, List.length_map, List.length_range, sizeLine_eq]; omega, ?_, fun b o hb => ?_⟩
        · rw [List.range_succ, List.map_append, List.map_append]
          show upd H' Dl (.lst (_ ++ [V.bl (ltS z1 z2)])) Dl = some (.lst (_ ++ [V.bl (ltS ((ds.map firstS).getD i "") ((ds.map firstS).getD (i + 1) ""))]))
          rw [g3, f3]
          exact upd_same
        · rw [upd_ne (fun z => by rw [z, hDl] at hb; cases hb)]
          exact sm _ _ hb
      · obtain ⟨hat, sm⟩ := hW
        refine ⟨Dl, _, rfl, SqL.of hat, ?_⟩
        have e : risesB (.tuple ds) = ((List.range ((xs.length : Int) - 1).toNat).map fun j => ltS ((ds.map firstS).getD j "") ((ds.map firstS).getD (j + 1) "")).all id := by
          show rises (ds.map firstS) = _
          rw [rises_range, List.length_map]
          congr 3
          omega
        rw [← e]
        exact q H' sm
    | _ => exact absurd hn (by simp [namedB])
end
end K25
set_option Elab.async false
set_option linter.all false
set_option maxRecDepth 100000
set_option maxHeartbeats 4000000
namespace K25
open PySem PySem.Spec PyProof.Rows L2 KD
open C8 (Cal Def cal0 pe_c fnBody fnScope fnArgs)
theorem fits_name {d : PyData} : fitsB "name" d = nameB d := by unfold fitsB; rw [if_pos (by decide +kernel)]
theorem fits_else {u : Str} (h1 : (u == ("name" : Str)) = false) (h2 : (u == ("term" : Str)) = false) (h3 : (u == ("count" : Str)) = false) (h4 : (u == ("terms" : Str)) = false) : fitsB u = fieldsB := by
  unfold fitsB
  rw [h1, h2, h3, h4]
  rfl
theorem beq_of {u v : Str} (h : u = v) : (u == v) = true := by rw [h]; exact beq_self_eq_true v
theorem beq_no {u v : Str} (h : ¬ decide (V.str u = V.str v) = true) : (u == v) = false := by
  rw [Bool.eq_false_iff]
  intro e
  exact h (decide_eq_true (by rw [eq_of_beq e]))
theorem eq_str {z y : Str} (e : decide (V.str z = V.str y) = true) : z = y := V.str.inj (of_decide_eq_true e)
theorem tyT {d : PyData} : isOfQ "tuple" d = isT d := by cases d <;> rfl
theorem allB_not {g : PyData → Bool} {d : PyData} (h : isT d = false) : allB g d = false := by cases d <;> first | rfl | cases h
section
variable {P : Program} {w : World} {K : PySem.W.Frag} {mg : Str → Option Value} {base : Heap}
abbrev sPFits : Stmt := topS 25
abbrev NPFits : List Str := ["slot", "thing", "term", "pair"]
theorem scPFits : FnScope NPFits ["slot", "thing"] (fnScope sPFits) := ⟨rfl, rfl, rfl, by decide +kernel, rfl, by decide +kernel, by decide +kernel⟩
def spFits (K : PySem.W.Frag) : Sp := fun vs H Q _ => ∃ u v d, vs = [.str u, v] ∧ Dq K H v d ∧ Sml d ∧ ∀ H', Same H H' → Q (.bl (fitsB u d)) H'
theorem c_fits (T : Tp mg) (c_PIsName : Cal P w K mg base 1 "is_name" (spLook K nameB) []) (c_PIsTerm : Cal P w K mg base 5 "is_term" (spTerm K) []) (c_PIsCount : Cal P w K mg base 1 "is_count" (spW K countB) []) (c_PAreNamed : Cal P w K mg base 3 "are_named" (spW K namedB) []) (c_PAreRising : Cal P w K mg base 1 "are_rising" (spRising K) [])
    {f : Addr} {fd : FuncData} (D : Def K mg "_fits" sPFits f fd) (b : Binds K fd ["slot", "thing"] []) : Cal P w K mg base 6 "_fits" (spFits K) [] := by
  refine cal0 D b .nil scPFits (fun vs H Q E h => ?_) (fun cdv A outer s H vs Q E hr h => ?_)
  · obtain ⟨u, v, d, rfl, _⟩ := h
    rfl
  · obtain ⟨u, v, d, rfl, hd, hs, q⟩ := h
    have nd := scPFits.nd
    refine ⟨_, (pss_cons (ps_if (pt_cmpR op_eq (pv 0) pe_str (nomark _))
      (pss_one (ps_ret (pe_c c_PIsName hr (by decide) (by rfl) (pa_cons (pv 1) pa_nil))))
      pss_nil)
    (pss_cons (ps_if (pt_cmpR op_eq (pv 0) pe_str (nomark _))
      (pss_one (ps_ret (pe_c c_PIsTerm hr (by decide) (by rfl) (pa_cons (pv 1) pa_nil))))
      pss_nil)
    (pss_cons (ps_if (pt_cmpR op_eq (pv 0) pe_str (nomark _))
      (pss_one (ps_ret (pe_c c_PIsCount hr (by decide) (by rfl) (pa_cons (pv 1) pa_nil))))
      pss_nil)
    (pss_cons (ps_if (pt_cmpR op_eq (pv 0) pe_str (nomark _))
      (pss_one (ps_ret (pe_and (pe_callB call_isQ (by rfl) T.n_isinstance (by decide +kernel) (pa_cons (pv 1) (pa_cons (pe_bltn (v := .ty "tuple") (by rfl) T.n_tuple (by decide +kernel) rfl) pa_nil))) (pe_one (pe_callB (cr_all rfl) (by rfl) T.n_all (by decide +kernel) (pa_cons (pe_lc (own := [("term", 2)]) (g := gName 2) (by rfl) nd (pi_tup (pv 1)) (blkOk_by (own := [("term", 2)]) (N := NPFits) (sc := fnScope sPFits) (by decide +kernel)) (fun _ _ _ _ _ => pg_name (i := 2) nd rfl (Or.inl rfl)) (fun _ _ _ _ _ => pts_nil) (fun _ _ _ _ _ => (pe_c c_PIsTerm hr (by decide) (by rfl) (pa_cons (pv 2) pa_nil)))) pa_nil))))))
      pss_nil)
    (pss_one (ps_ret (pe_and (pe_c c_PAreNamed hr (by decide) (by rfl) (pa_cons (pv 1) pa_nil)) (pe_and (pe_c c_PAreRising hr (by decide) (by rfl) (pa_cons (pv 1) pa_nil)) (pe_one (pe_callB (cr_all rfl) (by rfl) T.n_all (by decide +kernel) (pa_cons (pe_lc (own := [("pair", 3)]) (g := gName 3) (by rfl) nd (pi_tup (pv 1)) (blkOk_by (own := [("pair", 3)]) (N := NPFits) (sc := fnScope sPFits) (by decide +kernel)) (fun _ _ _ _ _ => pg_name (i := 3) nd rfl (Or.inl rfl)) (fun _ _ _ _ _ => pts_nil) (fun _ _ _ _ _ => (pe_c c_PIsTerm hr (by decide) (by rfl) (pa_cons (pe_ix (r := rIxT K) ix_tup (pv 3) pe_int (fun _ _ => rfl)) pa_nil)))) pa_nil))))))))))), ?_⟩
    refine ⟨_, rfl, rfl, _, rfl, ite2 (fun e => ?_) (fun e1 => ?_)⟩
    · have e' := eq_str e
      subst e'
      refine ⟨_, rfl, v, d, rfl, hd, hs.1, fun H' s' => ?_⟩
      have := q H' s'
      rw [fits_name] at this
      exact this
    refine ⟨_, rfl, rfl, _, rfl, ite2 (fun e => ?_) (fun e2 => ?_)⟩
    · have e' := eq_str e
      subst e'
      refine ⟨_, rfl, v, d, rfl, hd, hs.1, hs.2, fun H' s' => ?_⟩
      have := q H' s'
      have ee : fitsB "term" = termB := by unfold fitsB; rw [if_neg (by decide +kernel), if_pos (by decide +kernel)]
      rw [ee] at this
      exact this
    refine ⟨_, rfl, rfl, _, rfl, ite2 (fun e => ?_) (fun e3 => ?_)⟩
    · have e' := eq_str e
      subst e'
      refine ⟨_, rfl, v, d, rfl, hd, hs, fun H' s' => ?_⟩
      have := q H' s'
      have ee : fitsB "count" = countB := by unfold fitsB; rw [if_neg (by decide +kernel), if_neg (by decide +kernel), if_pos (by decide +kernel)]
      rw [ee] at this
      exact this
    refine ⟨_, rfl, rfl, _, rfl, ite2 (fun e => ?_) (fun e4 => ?_)⟩
    · have e' := eq_str e
      subst e'
      have ee : fitsB "terms" = allB termB := by unfold fitsB; rw [if_neg (by decide +kernel), if_neg (by decide +kernel), if_neg (by decide +kernel), if_pos (by decide +kernel)]
      rw [ee] at q
      have q0 := q H (Same.refl H)
      refine ⟨_, rfl, v, d, "tuple", rfl, hd, by decide, _, rfl, ?_⟩
      cases hd with
      | @tup a xs ds hq ha =>
        refine iteT ⟨_, rfl, a, rfl, ⟨xs, hq⟩, ?_⟩
        refine lcB (K := K) termB hq ha hs.len (fun i x d H' Q' e hx sm hQ => ?_) (fun Dl H' _ hat sm => ?_)
        · exact ⟨_, rfl, x, d, rfl, hx, (hs.at e).1, (hs.at e).2, hQ⟩
        · refine ⟨Dl, _, rfl, SqL.of hat, ?_⟩
          rw [all_id]
          exact q H' sm
      | _ => exact iteF q0
    · rw [fits_else (beq_no e1) (beq_no e2) (beq_no e3) (beq_no e4)] at q
      refine ⟨_, rfl, v, d, rfl, hd, hs, fun H1 s1 => ⟨_, rfl, ite2 (fun hn => ?_) (fun hn => ?_)⟩⟩
      · refine ⟨_, rfl, v, d, rfl, hd.mono s1, hs, hn, fun H2 s2 => ⟨_, rfl, ite2 (fun hri => ?_) (fun hri => ?_)⟩⟩
        · have s12 := s1.trans s2
          have hd2 := hd.mono s12
          cases hd2 with
          | @tup a xs ds hq ha =>
            refine ⟨_, rfl, a, rfl, ⟨xs, hq⟩, ?_⟩
            refine lcB (K := K) (secondB termB) hq ha hs.len (fun i x d H' Q' e hx sm hQ => ?_) (fun Dl H' _ hat sm => ?_)
            · obtain ⟨z, y, rfl, _⟩ := namedPair_of (List.all_eq_true.mp hn d (List.mem_of_getElem? e))
              have hsd := hs.at e
              cases hx with
              | @tup t ys _ hqt hat =>
                obtain ⟨u2, y2, rfl, _, hy⟩ := DqAll.two hat
                exact ⟨_, rfl, t, _, _, y2, rfl, rfl, hqt, atI_nat (j := 1) rfl, y2, y, rfl, hy, (hsd.at (i := 1) rfl).1, (hsd.at (i := 1) rfl).2, hQ⟩
            · refine ⟨Dl, _, rfl, SqL.of hat, ?_⟩
              rw [all_id]
              have := q H' (s12.trans sm)
              unfold fieldsB at this
              rw [hn, hri] at this
              exact this
          | _ => exact absurd hn (by simp [namedB])
        · have := q H2 (s1.trans s2)
          unfold fieldsB at this
          rw [hn, eq_false_of_ne_true hri] at this
          exact this
      · have := q H1 s1
        unfold fieldsB at this
        rw [eq_false_of_ne_true hn] at this
        exact this
/-! ### the forms, as the module has them -/
def FormsOf (K : PySem.W.Frag) : List (Str × V) → List (Str × List Str) → Prop := Paired fun a b => a.1 = b.1 ∧ ∃ p, a.2 = .ref p ∧ ∀ H, SqT K H p (b.2.map V.str)
theorem formsOf {cs : List (Str × V)} {ks : List (Str × List Str)} (h : FormsOf K cs ks) : ∀ z, (∃ p f, cs.lookup z = some (.ref p) ∧ (∀ H, SqT K H p (f.map V.str)) ∧ ks.lookup z = some f) ∨ (cs.lookup z = none ∧ ks.lookup z = none) := by
  induction h with
  | nil => exact fun z => .inr ⟨rfl, rfl⟩
  | @cons a b as bs hab _ ih =>
    intro z
    obtain ⟨e, p, e2, hp⟩ := hab
    obtain ⟨y, v⟩ := a
    obtain ⟨y', f⟩ := b
    simp only at e e2 hp
    subst e
    subst e2
    rw [List.lookup_cons, List.lookup_cons]
    cases h : (z == y) with
    | true => exact .inl ⟨p, f, rfl, hp, rfl⟩
    | false => exact ih z
structure Fm (K : PySem.W.Frag) (w : World) (mg : Str → Option Value) (aF : Addr) (es : Array DictEntry) (n : Nat) (cs : List (Str × V)) : Prop where
  g : ∃ u, mg "FORMS" = some u ∧ RelV (.ref aF) u
  d : KDict K w aF es n
  ent : EntsV es.toList cs
  tps : FormsOf K cs forms
abbrev sPIsRow : Stmt := topS 24
abbrev NPIsRow : List Str := ["thing", "form", "slot", "part"]
theorem scPIsRow : FnScope NPIsRow ["thing"] (fnScope sPIsRow) := ⟨rfl, rfl, rfl, by decide +kernel, rfl, by decide +kernel, by decide +kernel⟩
theorem c_isRow (T : Tp mg) {aF : Addr} {es : Array DictEntry} {nE : Nat} {cs : List (Str × V)} (TF : Fm K w mg aF es nE cs) (c_PFits : Cal P w K mg base 6 "_fits" (spFits K) []) {f : Addr} {fd : FuncData} (D : Def K mg "is_row" sPIsRow f fd) (b : Binds K fd ["thing"] []) : Cal P w K mg base 7 "is_row" (spW K rowB) [] := by
  refine cal0 D b .nil scPIsRow (fun vs H Q E h => ?_) (fun cdv A outer s H vs Q E hr h => ?_)
  · obtain ⟨v, d, rfl, _⟩ := h
    rfl
  · obtain ⟨v, d, rfl, hd, hs, q⟩ := h
    have nd := scPIsRow.nd
    refine ⟨_, (pss_cons (ps_if (PW.pt (pw_or (pt_not (pt_val (pe_callB call_isQ (by rfl) T.n_isinstance (by decide +kernel) (pa_cons (pv 0) (pa_cons (pe_bltn (v := .ty "tuple") (by rfl) T.n_tuple (by decide +kernel) rfl) pa_nil))))) (pw_or1 (pt_not (pt_truth (pv 0) (by intro _; rfl))))))
      (pss_one (ps_ret pe_bl))
      pss_nil)
    (pss_cons (ps_if (PW.pt (pw_or (pt_not (pt_val (pe_callB call_isQ (by rfl) T.n_isinstance (by decide +kernel) (pa_cons (pe_ix ix_tup (pv 0) pe_int (fun _ _ => rfl)) (pa_cons (pe_bltn (v := .ty "str") (by rfl) T.n_str (by decide +kernel) rfl) pa_nil))))) (pw_or1 (pt_cmpR (op_notIn_kd TF.d) (pe_ix ix_tup (pv 0) pe_int (fun _ _ => rfl)) (C8.pe_gc (by rfl) TF.g) (by rfl)))))
      (pss_one (ps_ret pe_bl))
      pss_nil)
    (pss_cons (ps_set (i := 1) nd rfl (.inl rfl) (pe_ix ix_kdict (C8.pe_gc (by rfl) TF.g) (pe_ix ix_tup (pv 0) pe_int (fun _ _ => rfl)) (fun _ _ => rfl)))
    (pss_cons (ps_if (pt_cmpR op_ne (pe_callB call_len_seq (by rfl) T.n_len (by decide +kernel) (pa_cons (pv 0) pa_nil)) (pe_op op_add pe_int (pe_callB call_len_seq (by rfl) T.n_len (by decide +kernel) (pa_cons (pv 1) pa_nil))) (nomark _))
      (pss_one (ps_ret pe_bl))
      pss_nil)
    (pss_one (ps_ret (pe_callB (cr_all rfl) (by rfl) T.n_all (by decide +kernel) (pa_cons (pe_lc (own := [("slot", 2), ("part", 3)]) (g := gTup K 2 (gCons (gName 2) (gCons (gName 3) gNil))) (by rfl) nd (RZ.pi_zipA (by rfl) T.n_zip (pa_cons (pv 1) (pa_cons (pe_slice sl_tupA (pv 0) (po_some pe_int) po_none) pa_nil))) (blkOk_by (own := [("slot", 2), ("part", 3)]) (N := NPIsRow) (sc := fnScope sPIsRow) (by decide +kernel)) (fun _ _ _ _ _ => (pg_tup (n := 2) rfl (pgs_cons (pg_name (i := 2) nd rfl (Or.inl rfl)) (pgs_cons (pg_name (i := 3) nd rfl (Or.inl rfl)) pgs_nil)))) (fun _ _ _ _ _ => pts_nil) (fun _ _ _ _ _ => (pe_c c_PFits hr (by decide) (by rfl) (pa_cons (pv 2) (pa_cons (pv 3) pa_nil))))) pa_nil)))))))), ?_⟩
    have q0 := q H (Same.refl H)
    refine ⟨_, rfl, v, d, "tuple", rfl, hd, by decide, _, rfl, ?_⟩
    cases hd with
    | @tup a xs ds hq ha =>
      have hl := ha.len
      refine iteF ⟨_, rfl, _, .inr (.inl ⟨xs, hq, rfl⟩), ?_⟩
      cases ds with
      | nil =>
        cases ha
        exact iteT q0
      | cons x rest =>
        obtain ⟨u, vr, rfl, hx, hrest⟩ := dpAll_head ha
        refine iteF ⟨_, rfl, a, _, _, u, rfl, rfl, hq, atI_nat (j := 0) rfl, u, x, "str", rfl, hx, by decide, _, rfl, ?_⟩
        cases hx with
        | str z =>
          refine iteF ⟨_, rfl, a, _, _, .str z, rfl, rfl, hq, atI_nat (j := 0) rfl, ?_⟩
          rcases formsOf TF.tps z with ⟨pt, fm, t1, t2, t3⟩ | ⟨t1, t3⟩
          · rcases nsIn_cv TF.d.at_ TF.ent z with ⟨v', uu, hl2, hns, rel⟩ | ⟨hl2, hns⟩
            · rw [t1] at hl2
              cases hl2
              refine ⟨z, some uu, rfl, rfl, hns, _, rfl, iteF ?_⟩
              refine ⟨_, rfl, a, _, _, .str z, rfl, rfl, hq, atI_nat (j := 0) rfl, aF, z, .ref pt, rfl, rfl, ⟨es, nE, uu, TF.d.at_, TF.d.lit, hns, rel⟩, ?_⟩
              refine ⟨_, rfl, a, _, rfl, .inr hq, _, rfl, pt, _, rfl, .inr (t2 _), _, _, rfl, rfl, rfl, _, rfl, ?_⟩
              have hv : (vr.length : Int) = rest.length := by have := hrest.len; omega
              refine ite2 (fun e => ?_) (fun e => ?_)
              · have ne : rest.length ≠ fm.length := fun h => by
                  have h2 : V.int (((V.str z :: vr).length : Nat) : Int) = V.int (1 + (((fm.map V.str).length : Nat) : Int)) := by
                    congr 1
                    rw [List.length_cons, List.length_map]
                    omega
                  rw [decide_eq_true h2] at e
                  exact absurd e (by decide)
                have hf : rowB (.tuple (.str z :: rest)) = false := by
                  show (match forms.lookup z with | some f => _ | none => _) = false
                  rw [t3]
                  show (decide (rest.length = fm.length) && _) = false
                  rw [decide_eq_false ne, Bool.false_and]
                rw [hf] at q0
                exact q0
              · have el : rest.length = fm.length := by
                  have h2 : decide (V.int (((V.str z :: vr).length : Nat) : Int) = V.int (1 + (((fm.map V.str).length : Nat) : Int))) = true := by simpa using e
                  have h3 := V.int.inj (of_decide_eq_true h2)
                  rw [List.length_cons, List.length_map] at h3
                  omega
                have hrow : rowB (.tuple (.str z :: rest)) = ((fm.zip rest).map fun q => fitsB q.1 q.2).all id := by
                  show (match forms.lookup z with | some f => _ | none => _) = _
                  rw [t3]
                  show (decide (rest.length = fm.length) && (fm.zip rest).all fun q => fitsB q.1 q.2) = _
                  rw [decide_eq_true el, Bool.true_and, List.all_map]
                  rfl
                have hcut : cutV (V.str z :: vr) (some 1) none = vr := by
                  unfold cutV
                  have e1 : HT.sIx (V.str z :: vr).length 0 (some 1) = 1 := by
                    show HT.sIx _ 0 (some ((1 : Nat) : Int)) = 1
                    rw [HT.sIx_nat, List.length_cons]
                    omega
                  rw [e1, HT.sIx_none, List.drop_succ_cons, List.drop_zero, List.length_cons, Nat.add_sub_cancel, List.take_of_length_le (Nat.le_refl _)]
                refine ⟨_, rfl, _, rfl, _, rfl, a, _, rfl, hq, fun c => ?_, fun _ t ht => ?_⟩
                · exfalso
                  have h1 := c.1
                  have e1 : HT.sIx (V.str z :: vr).length 0 (some 1) = 1 := by
                    show HT.sIx _ 0 (some ((1 : Nat) : Int)) = 1
                    rw [HT.sIx_nat, List.length_cons]
                    omega
                  rw [e1] at h1
                  cases h1
                · rw [hcut]
                  have st : Same H (upd H t (.tup vr)) := Same.new ht
                  refine ⟨pt, t, _, _, rfl, .inr ⟨t2 _, SqT.of upd_same, fun Dl hDl => ?_⟩⟩
                  have hfl : (fm.map V.str).length = fm.length := List.length_map ..
                  have hvl : vr.length = fm.length := by omega
                  have hs1000 : rest.length ≤ 1000 := by have := hs.len; rw [List.length_cons] at this; omega
                  have ht1 : SqT K (upd H t (.tup vr)) t vr := SqT.of upd_same
                  have hrest1 := hrest.mono st
                  generalize upd H t (.tup vr) = H1 at *
                  refine lc_it (walk_zipT (K := K) (a := pt) (b := t) (xs := fm.map V.str) (ys := vr) (n := fm.length) (by omega)) (fun i H' => H' Dl = some (.lst ((((fm.zip rest).take i).map fun q => fitsB q.1 q.2).map V.bl)) ∧ Same H1 H')
                    ⟨upd_same, Same.new hDl⟩ (fun i H' _ hW => ⟨t2 _, sqT_mono hW.2 ht1⟩) (fun i x H2 H' hi hW hY => ?_) (fun H' hW => ?_)
                  · obtain ⟨hat, sm⟩ := hW
                    obtain ⟨T9, x9, y9, rfl, hT9, rfl, hx9, hy9⟩ := hY
                    have hx9 : (fm.map V.str)[i]? = some x9 := hx9
                    have hy9 : vr[i]? = some y9 := hy9
                    obtain ⟨slot, hslot, rfl⟩ : ∃ z, fm[i]? = some z ∧ x9 = .str z := by
                      rw [List.getElem?_map] at hx9
                      cases c : fm[i]? with
                      | none => rw [c] at hx9; cases hx9
                      | some z => rw [c] at hx9; exact ⟨z, rfl, (Option.some.inj hx9).symm⟩
                    obtain ⟨d9, hd9, hdq⟩ := hrest1.at hy9
                    have sT := sm.trans (Same.new (o := .tup [.str slot, y9]) hT9)
                    refine ⟨T9, _, rfl, SqT.of upd_same, rfl, _, _, rfl, _, _, rfl, rfl, rfl, ?_⟩
                    unfold tYes; dsimp only
                    rw [if_pos rfl]
                    have hsd : Sml d9 := hs.at (i := i + 1) (by rw [List.getElem?_cons_succ]; exact hd9)
                    refine ⟨_, rfl, _, rfl, slot, y9, d9, rfl, hdq.mono sT, hsd, fun H3 s3 => ?_⟩
                    have hz : (fm.zip rest)[i]? = some (slot, d9) := by rw [List.getElem?_zip_eq_some]; exact ⟨hslot, hd9⟩
                    refine ⟨_, s3 _ _ (Same.new hT9 _ _ hat), ?_, ?_, fun b o hb => ?_⟩
                    · rw [List.length_map, List.length_map, List.length_take, List.length_zip, sizeLine_eq]
                      omega
                    · rw [List.take_succ, hz, List.map_append, List.map_append]
                      exact upd_same
                    · rw [upd_ne (fun z => by rw [z, hDl] at hb; cases hb)]
                      exact s3 _ _ (sT _ _ hb)
                  · obtain ⟨hat, sm⟩ := hW
                    rw [List.take_of_length_le (by rw [List.length_zip]; omega)] at hat
                    refine ⟨Dl, _, rfl, SqL.of hat, ?_⟩
                    rw [← hrow]
                    exact q H' (st.trans sm)
            · rw [t1] at hl2
              cases hl2
          · rcases nsIn_cv TF.d.at_ TF.ent z with ⟨v', uu, hl2, hns, rel⟩ | ⟨hl2, hns⟩
            · rw [t1] at hl2
              cases hl2
            · have hf : rowB (.tuple (.str z :: rest)) = false := by
                show (match forms.lookup z with | some f => _ | none => _) = false
                rw [t3]
              rw [hf] at q0
              exact ⟨z, none, rfl, rfl, hns, _, rfl, iteT q0⟩
        | _ =>
          have q1 : Q (V.bl false) H := by simpa [rowB] using q0
          exact iteT q1
    | _ => exact iteT q0
end
end K25
set_option Elab.async false
set_option linter.all false
set_option maxRecDepth 100000
set_option maxHeartbeats 4000000
/-! == of anything and a text, a tuple of one text: dicts too. -/
namespace L2
open PySem PySem.Spec PyProof.Rows PySem.SeqAt
section
theorem str_no_dict (x : Str) (t : Tok) (a : Addr) (dd : Option Addr) (es : Array DictEntry) (ep : Nat) (sl : Array (Option Value)) :
    Meets (Builtin.«str.__eq__» ⟨[.str x t, .ref a], []⟩)
      (fun _ R s => s.heap.get? a = some ⟨.type "dict", dd, .dict es ep, sl⟩ ∧ R (.ok (.ret .notImplemented)) s) :=
  .of_wp fun prog w A R s h => by
    obtain ⟨hp, g, d, tk, os⟩ := s
    obtain ⟨hl, h⟩ := h
    wp_walk using wpAny_loadPart' hl, wpAny_load hl
    exact ⟨_, rfl, h⟩
theorem dict_no_str (x : Str) (t : Tok) (a : Addr) (dd : Option Addr) (es : Array DictEntry) (ep : Nat) (sl : Array (Option Value)) :
    Meets (Builtin.«dict.__eq__» ⟨[.ref a, .str x t], []⟩)
      (fun _ R s => s.heap.get? a = some ⟨.type "dict", dd, .dict es ep, sl⟩ ∧ R (.ok (.ret .notImplemented)) s) :=
  .of_wp fun prog w A R s h => by
    obtain ⟨hp, g, d, tk, os⟩ := s
    obtain ⟨hl, h⟩ := h
    have f1 := F.sub_str_dict
    wp_walk using wpAny_loadPart' hl, wpAny_load hl
    exact ⟨_, rfl, h⟩
theorem tup_no_dict (l a : Addr) (its : Array Value) (n : Nat) (d1 d2 : Option Addr) (es : Array DictEntry) (ep : Nat) (l1 l2 : Array (Option Value)) :
    Meets (Builtin.«tuple.__eq__» ⟨[.ref l, .ref a], []⟩)
      (fun _ R s => s.heap.get? l = some ⟨.type "tuple", d1, .seq its n, l1⟩ ∧ s.heap.get? a = some ⟨.type "dict", d2, .dict es ep, l2⟩ ∧ R (.ok (.ret .notImplemented)) s) :=
  .of_wp fun prog w A R s h => by
    obtain ⟨hp, g, d, tk, os⟩ := s
    obtain ⟨hl, ha, h⟩ := h
    have f1 := F.sub_dict_tuple
    wp_walk using wpAny_loadPart' hl, wpAny_loadPart' ha, wpAny_load hl
    exact ⟨_, rfl, h⟩
theorem dict_no_tup (l a : Addr) (its : Array Value) (n : Nat) (d1 d2 : Option Addr) (es : Array DictEntry) (ep : Nat) (l1 l2 : Array (Option Value)) :
    Meets (Builtin.«dict.__eq__» ⟨[.ref a, .ref l], []⟩)
      (fun _ R s => s.heap.get? l = some ⟨.type "tuple", d1, .seq its n, l1⟩ ∧ s.heap.get? a = some ⟨.type "dict", d2, .dict es ep, l2⟩ ∧ R (.ok (.ret .notImplemented)) s) :=
  .of_wp fun prog w A R s h => by
    obtain ⟨hp, g, d, tk, os⟩ := s
    obtain ⟨hl, ha, h⟩ := h
    have f1 := F.sub_tuple_dict
    wp_walk using wpAny_loadPart' hl, wpAny_loadPart' ha, wpAny_load ha
    exact ⟨_, rfl, h⟩
variable {A : Around} {s : Shared}
theorem rc_dict_str {a : Addr} {o : Obj} {es : Array DictEntry} {ep : Nat} (x : Str) (t : Tok) (ho : s.heap.get? a = some o) (hc : o.cls = .type "dict") (hd : o.data = .dict es ep) (hu : A.units < cLine) : RcAt A s (.ref a) (.str x t) false := by
  intro prog w E Q h
  obtain ⟨cls, dd, data, sl⟩ := o
  simp only at hc hd
  subst hc hd
  refine rc_eq_decline_or (k := false) ⟨_, ho, rfl⟩ (typeIs_str s x t) (by decide) F.sub_str_dict F.slot_dict_eq F.slot_str_eq_refl (fun _ hq => ?_) (fun _ hq => ?_) (fun _ hq => ?_) (.inr hu) h
  · exact call_meets F.slot_dict_eq ⟨_, ho, rfl⟩ F.entry_dict_eq (F.args_dict_eq_2 _ _) (dict_no_str x t a dd es ep sl) ⟨ho, hq⟩
  · exact call_meets F.slot_str_eq_refl (typeIs_str s x t) F.entry_str_eq (F.args_str_eq_2 _ _) (str_no_dict x t a dd es ep sl) ⟨ho, hq⟩
  · exact wpAny_of_eq rfl hq
theorem rc_str_dict {a : Addr} {o : Obj} {es : Array DictEntry} {ep : Nat} (x : Str) (t : Tok) (ho : s.heap.get? a = some o) (hc : o.cls = .type "dict") (hd : o.data = .dict es ep) (hu : A.units < cLine) : RcAt A s (.str x t) (.ref a) false := by
  intro prog w E Q h
  obtain ⟨cls, dd, data, sl⟩ := o
  simp only at hc hd
  subst hc hd
  refine rc_eq_decline_or (k := false) (typeIs_str s x t) ⟨_, ho, rfl⟩ (by decide) F.sub_dict_str F.slot_str_eq F.slot_dict_eq_refl (fun _ hq => ?_) (fun _ hq => ?_) (fun _ hq => ?_) (.inr hu) h
  · exact call_meets F.slot_str_eq (typeIs_str s x t) F.entry_str_eq (F.args_str_eq_2 _ _) (str_no_dict x t a dd es ep sl) ⟨ho, hq⟩
  · exact call_meets F.slot_dict_eq_refl ⟨_, ho, rfl⟩ F.entry_dict_eq (F.args_dict_eq_2 _ _) (dict_no_str x t a dd es ep sl) ⟨ho, hq⟩
  · exact wpAny_of_eq rfl hq
theorem rc_tup_dict {a l : Addr} {o : Obj} {es : Array DictEntry} {ep : Nat} {its : Array Value} (hl : s.heap.IsTuple l its) (ho : s.heap.get? a = some o) (hc : o.cls = .type "dict") (hd : o.data = .dict es ep) (hne : l ≠ a) (hu : A.units < cLine) : RcAt A s (.ref l) (.ref a) false := by
  intro prog w E Q h
  obtain ⟨cls, dd, data, sl⟩ := o
  obtain ⟨⟨cls2, dd2, data2, sl2⟩, ho2, hc2, n, hd2⟩ := id hl
  simp only at hc hd hc2 hd2
  subst hc hd hc2 hd2
  refine rc_eq_decline_or (k := false) ⟨_, ho2, rfl⟩ ⟨_, ho, rfl⟩ (by decide) F.sub_dict_tuple F.slot_tuple_eq F.slot_dict_eq_refl (fun _ hq => ?_) (fun _ hq => ?_) (fun _ hq => ?_) (.inr hu) h
  · exact call_meets F.slot_tuple_eq ⟨_, ho2, rfl⟩ F.entry_tuple_eq (F.args_tuple_eq_2 _ _) (tup_no_dict l a its n dd2 dd es ep sl2 sl) ⟨ho2, ho, hq⟩
  · exact call_meets F.slot_dict_eq_refl ⟨_, ho, rfl⟩ F.entry_dict_eq (F.args_dict_eq_2 _ _) (dict_no_tup l a its n dd2 dd es ep sl2 sl) ⟨ho2, ho, hq⟩
  · exact wpAny_isSame_ref_other' hne ho2 ho (by simp) hq
theorem eq_of_rc {x : Str} {t : Tok} {a : Addr} (h : RcAt A s (.str x t) (.ref a) false) : EqAt A s (.str x t) (.ref a) false := fun prog w E Q hq => by
  unfold eqBool
  refine wpAny_holding (wpAny_ite_split (fun hab => absurd (eq_of_beq hab) nofun) fun _ => ?_)
  exact wpAny_bind (h prog w E _ (wpAny_truthy_bool hq))
end
/-- data is a text; a tuple of one text -/
def strD (u : Str) : PyData → Bool
  | .str z => z == u
  | _ => false
def oneD (u : Str) : PyData → Bool
  | .tuple [x] => strD u x
  | _ => false
section
variable {X : Cx} {pins : List (Addr × Obj)} {σ : L2.St} {H : Hp} {s : Shared}
theorem dct_obj {a : Addr} {kvs : List (Key × V)} (I : Inv X pins σ H s) (h : H a = some (.dK kvs)) : ∃ o es ep, s.heap.get? a = some o ∧ o.cls = .type "dict" ∧ o.data = .dict es ep := by
  obtain ⟨_, _, vs, kv, o, es, ep, ho, ⟨hc, _, _⟩, hd, _, hp, _⟩ := I.hok _ _ h
  exact ⟨o, es, ep, ho, hc, hd⟩
/-- anything == a text -/
theorem rcQS (I : Inv X pins σ H s) {A : Around} (hu : A.units < cLine) {x : V} {d : PyData} {v : Value} {u : Str} {t : Tok} (hd : Dq X.K H x d) (r : RelV x v) : RcAt A s v (.str u t) (strD u d) := by
  cases hd with
  | non => cases r; exact RcAt.none_str u t
  | bl b => cases r; exact RcAt.bool_str b u t
  | int i => obtain ⟨tk, rfl⟩ := r; exact RcAt.int_str i tk u t
  | str z => obtain ⟨tk, rfl⟩ := r; exact RcAt.str_str z tk u t
  | lst hs _ =>
    cases r
    obtain ⟨its, rv, pl, _⟩ := I.list hs
    exact RcAt.list_str u t pl.isList hu
  | tup hs _ =>
    cases r
    obtain ⟨its, rv, ht, _⟩ := I.tuple hs
    exact RcAt.tuple_str u t ht hu
  | dct hs _ _ =>
    cases r
    obtain ⟨o, es, ep, ho, hc, hdd⟩ := dct_obj I hs
    exact rc_dict_str u t ho hc hdd hu
/-- a text == anything -/
theorem eqSQ (I : Inv X pins σ H s) {A : Around} (hu : A.units < cLine) {x : V} {d : PyData} {v : Value} {u : Str} {t : Tok} (hd : Dq X.K H x d) (r : RelV x v) : EqAt A s (.str u t) v (strD u d) := by
  cases hd with
  | non => cases r; exact EqAt.str_none u t
  | bl b => cases r; exact EqAt.str_bool u t b
  | int i => obtain ⟨tk, rfl⟩ := r; exact EqAt.str_int u t i tk
  | str z =>
    obtain ⟨tk, rfl⟩ := r
    have h := EqAt.str_str (A := A) (s := s) u t z tk
    rw [show strD u (.str z) = (u == z) from by show (z == u) = _; rw [Bool.eq_iff_iff, beq_iff_eq, beq_iff_eq]; exact eq_comm]
    exact h
  | lst hs _ =>
    cases r
    obtain ⟨its, rv, pl, _⟩ := I.list hs
    exact EqAt.str_list u t pl.isList hu
  | tup hs _ =>
    cases r
    obtain ⟨its, rv, ht, _⟩ := I.tuple hs
    exact EqAt.str_tuple u t ht hu
  | dct hs _ _ =>
    cases r
    obtain ⟨o, es, ep, ho, hc, hdd⟩ := dct_obj I hs
    exact eq_of_rc (rc_str_dict u t ho hc hdd hu)
/-- a new tuple of one text == anything -/
theorem eqTQ (I : Inv X pins σ H s) {A : Around} (hu : A.units + 1 < cLine) {x : V} {d : PyData} {v : Value} {u : Str} {l : Addr} (hl : SqT X.K H l [.str u]) (hd : Dq X.K H x d) (r : RelV x v) : EqAt A s (.ref l) v (oneD u d) := by
  obtain ⟨il, rl, tl, _⟩ := I.tuple hl
  have hu' : A.units < cLine := by omega
  by_cases hn : x = .ref l
  · subst hn
    obtain rfl : v = .ref l := r
    have e : oneD u d = true := by
      cases hd with
      | lst hs _ =>
        obtain ⟨its, rv, pl, _⟩ := I.list hs
        exact absurd rfl (ne_of_list_tuple pl.isList tl)
      | dct hs _ _ =>
        obtain ⟨o, es, ep, ho, hc, hdd⟩ := dct_obj I hs
        obtain ⟨o2, ho2, hc2, _⟩ := tl
        rw [ho] at ho2
        cases ho2
        rw [hc] at hc2
        exact absurd hc2 (by decide)
      | @tup a xs ds hs ha =>
        obtain ⟨its, rv, ht, _⟩ := I.tuple hs
        obtain ⟨o, ho, hc, n, hd⟩ := ht
        obtain ⟨o2, ho2, hc2, n2, hd2⟩ := tl
        rw [ho] at ho2
        cases ho2
        rw [hd] at hd2
        have e1 : its.toArray = il.toArray := by injection hd2
        have e2 : its = il := by simpa using congrArg Array.toList e1
        subst e2
        cases rl with
        | cons r1 r2 =>
          cases r2
          cases rv with
          | cons q1 q2 =>
            cases q2
            obtain ⟨t1, rfl⟩ := r1
            cases ha with
            | cons h1 h2 =>
              cases h2
              cases h1 with
              | str z =>
                obtain ⟨t2, e3⟩ := q1
                injection e3 with e3
                show (z == u) = true
                rw [e3]
                exact beq_self_eq_true _
              | non => cases q1
              | bl b => cases q1
              | int i => obtain ⟨t2, e3⟩ := q1; cases e3
              | lst _ _ => cases q1
              | tup _ _ => cases q1
              | dct _ _ _ => cases q1
    rw [e]
    exact EqAt.same _
  have nl : ∀ b, x = .ref b → l ≠ b := fun b e c => hn (by rw [e, c])
  cases hd with
  | non => cases r; exact EqAt.tuple_none tl hu'
  | bl b => cases r; exact EqAt.tuple_bool b tl hu'
  | int i => obtain ⟨tk, rfl⟩ := r; exact EqAt.tuple_int i tk tl hu'
  | str z => obtain ⟨tk, rfl⟩ := r; exact EqAt.tuple_str z tk tl hu'
  | lst hs _ =>
    cases r
    obtain ⟨its, rv, pl, _⟩ := I.list hs
    exact EqAt.tuple_list tl pl.isList hu'
  | dct hs _ _ =>
    cases r
    obtain ⟨o, es, ep, ho, hc, hdd⟩ := dct_obj I hs
    exact EqAt.of_refs (nl _ rfl) (rc_tup_dict tl ho hc hdd (nl _ rfl) hu')
  | @tup a xs ds hs ha =>
    cases r
    obtain ⟨its, rv, ht, _⟩ := I.tuple hs
    cases rl with
    | cons r1 r2 =>
      cases r2
      obtain ⟨tk, rfl⟩ := r1
      have key : oneD u (.tuple ds) = ((List.range (min [Value.str u tk].toArray.size its.toArray.size)).all (fun _ => match ds with | [] => true | y :: _ => strD u y) && [Value.str u tk].toArray.size == its.toArray.size) := by
        have e1 := rv.length
        have e2 := ha.len
        cases ds with
        | nil =>
          have : its = [] := List.eq_nil_of_length_eq_zero (by rw [← e1, e2]; rfl)
          subst this
          rfl
        | cons y ys =>
          cases ys with
          | nil =>
            have h1 : its.length = 1 := by simp at e2; omega
            have h3 : its.toArray.size = 1 := by rw [List.size_toArray]; exact h1
            rw [h3]
            show strD u y = _
            simp [List.range_succ]
          | cons z zs =>
            have h1 : 2 ≤ its.length := by simp at e2; omega
            have h3 : ([Value.str u tk].toArray.size == its.toArray.size) = false := by
              rw [List.size_toArray]
              simp
              omega
            rw [h3, Bool.and_false]
            rfl
      rw [key]
      refine EqAt.of_refs (nl _ rfl) (RcAt.tuples tl ht hu' fun j h1 h2 => ?_)
      have hj : j = 0 := by simp at h1; omega
      subst hj
      cases ha with
      | nil => cases rv; simp at h2
      | cons hd1 hd2 =>
        cases rv with
        | cons rv1 rv2 =>
          exact eqSQ I (A := A.in1) (by show A.units + 1 < cLine; omega) hd1 rv1
def rEqQS (K : PySem.W.Frag) : R2 := fun x y H Q => ∃ d u, Dq K H x d ∧ y = .str u ∧ Q (.bl (strD u d)) H
theorem op_eqQS (hu : X.A.units < cLine) : OpR X (compareOp .Eq) (rEqQS X.K) := by
  intro pins s σ H x y v u Q I rx ry h
  obtain ⟨d, z, hd, rfl, q⟩ := h
  obtain ⟨t, rfl⟩ := ry
  exact rcQS I hu hd rx X.prog X.w _ _ ⟨.bl _, H, I, rfl, q⟩
/-- anything in a list of two new tuples of a text -/
def rInQT (K : PySem.W.Frag) : R2 := fun x y H Q => ∃ d l t1 t2 u1 u2, Dq K H x d ∧ y = .ref l ∧ SqL K H l [.ref t1, .ref t2] ∧ SqT K H t1 [.str u1] ∧ SqT K H t2 [.str u2] ∧ t1 ≠ t2 ∧ Q (.bl (oneD u1 d || oneD u2 d)) H
theorem op_inQT (hu : X.A.units + 3 < cLine) : OpR X (compareOp .In) (rInQT X.K) := by
  intro pins s σ H x y v u Q I rx ry h
  obtain ⟨d, l, t1, t2, u1, u2, hd, rfl, hl, h1, h2, n12, q⟩ := h
  cases ry
  obtain ⟨its, rv, pl, _⟩ := I.list hl
  cases rv with
  | cons r1 r2 =>
    cases r2 with
    | cons r3 r4 =>
      cases r4
      cases r1
      cases r3
      refine in_listAt (fun y => if y = .ref t1 then oneD u1 d else oneD u2 d) pl.isList (fun y hy => ?_) ⟨.bl _, H, I, rfl, ?_⟩
      · have hy' : y = .ref t1 ∨ y = .ref t2 := by simpa using hy
        rcases hy' with rfl | rfl
        · rw [if_pos rfl]
          exact eqTQ I (A := X.A.in1) (by show X.A.units + 1 + 1 < cLine; omega) h1 hd rx
        · rw [if_neg (fun e => n12 (by injection e with e; exact e.symm))]
          exact eqTQ I (A := X.A.in1) (by show X.A.units + 1 + 1 < cLine; omega) h2 hd rx
      · have e : ([Value.ref t1, Value.ref t2].toArray.any fun y => if y = .ref t1 then oneD u1 d else oneD u2 d) = (oneD u1 d || oneD u2 d) := by
          have n2 : Value.ref t2 ≠ Value.ref t1 := fun e => n12 (by injection e with e; exact e.symm)
          simp [n2]
        rw [e]
        exact q
end
end L2
set_option Elab.async false
set_option linter.all false
set_option maxRecDepth 100000
set_option maxHeartbeats 4000000
namespace K25
open PySem PySem.Spec PyProof.Rows L2 KD
open C8 (Cal Def cal0 pe_c fnBody fnScope fnArgs)
/-! ### the law's looks -/
section
variable {P : Program} {w : World} {K : PySem.W.Frag} {mg : Str → Option Value} {base : Heap}
abbrev abc : Str := "abcdefghijklmnopqrstuvwxyz"
theorem abc_tl : abc.cps.toList = List.range' 97 26 := by decide +kernel
theorem mem_abc (c : Nat) : decide (c ∈ abc.cps.toList) = low c := by
  rw [abc_tl, Bool.eq_iff_iff]
  unfold low
  rw [Bool.and_eq_true, decide_eq_true_eq, decide_eq_true_eq, decide_eq_true_eq, List.mem_range'_1]
  omega
end
theorem kept_perm {z : Str} : inV (.str z) [.str "no", .str "yes", .str "number", .str "truth"] = keptS z := by
  unfold keptS inV
  simp only [List.any_cons, List.any_nil, Bool.or_false]
  rw [Bool.eq_iff_iff]
  simp only [Bool.or_eq_true]
  constructor
  · rintro (h | h | h | h)
    · exact .inr (.inr (.inr h))
    · exact .inr (.inr (.inl h))
    · exact .inl h
    · exact .inr (.inl h)
  · rintro (h | h | h | h)
    · exact .inr (.inr (.inl h))
    · exact .inr (.inr (.inr h))
    · exact .inr (.inl h)
    · exact .inl h
section
variable {P : Program} {w : World} {K : PySem.W.Frag} {mg : Str → Option Value} {base : Heap}
abbrev sLIsName : Stmt := topS 44
abbrev NLIsName : List Str := ["_law_thing", "_law_sign"]
theorem scLIsName : FnScope NLIsName ["_law_thing"] (fnScope sLIsName) := ⟨rfl, rfl, rfl, by decide +kernel, rfl, by decide +kernel, by decide +kernel⟩
theorem c_lisName (T : Tp mg) {f : Addr} {fd : FuncData} (D : Def K mg "_law_is_name" sLIsName f fd) (b : Binds K fd ["_law_thing"] []) : Cal P w K mg base 1 "_law_is_name" (spW K nameB) [] := by
  refine cal0 D b .nil scLIsName (fun vs H Q E h => ?_) (fun cdv A outer s H vs Q E hr h => ?_)
  · obtain ⟨v, d, rfl, _⟩ := h
    rfl
  · obtain ⟨v, d, rfl, hd, hs, q⟩ := h
    have nd := scLIsName.nd
    refine ⟨_, (pss_cons (ps_if (PW.pt (pw_or (pt_not (pt_val (pe_callB call_isQ (by rfl) T.n_isinstance (by decide +kernel) (pa_cons (pv 0) (pa_cons (pe_bltn (v := .ty "str") (by rfl) T.n_str (by decide +kernel) rfl) pa_nil))))) (pw_or (pt_cmpR op_in_seq (pv 0) (pe_lst (pa_cons pe_str (pa_cons pe_str (pa_cons pe_str (pa_cons pe_str pa_nil))))) (by rfl)) (pw_or1 (pt_not (pt_chain op_lt op_lt pe_int (pe_callB call_len_str (by rfl) T.n_len (by decide +kernel) (pa_cons (pv 0) pa_nil)) pe_int))))))
      (pss_one (ps_ret pe_bl))
      pss_nil)
    (pss_one (ps_ret (pe_callB (cr_all rfl) (by rfl) T.n_all (by decide +kernel) (pa_cons (pe_lc (own := [("_law_sign", 1)]) (g := gName 1) (by rfl) nd (pi_str (pv 0)) (blkOk_by (own := [("_law_sign", 1)]) (N := NLIsName) (sc := fnScope sLIsName) (by decide +kernel)) (fun _ _ _ _ _ => pg_name (i := 1) nd rfl (Or.inl rfl)) (fun _ _ _ _ _ => pts_nil) (fun _ _ _ _ _ => (pe_cmpR op_in_sign (pv 1) pe_str rfl))) pa_nil))))), ?_⟩
    refine ⟨_, rfl, v, d, "str", rfl, hd, by decide, _, rfl, ?_⟩
    cases hd with
    | str z =>
      have hz : z.length ≤ 1000 := of_decide_eq_true hs.1
      refine iteF ⟨_, rfl, (by show 4 ≤ sizeLine; decide), fun l hl => ?_⟩
      have sl : Same H (upd H l (.lst [.str "no", .str "yes", .str "number", .str "truth"])) := Same.new hl
      refine ⟨l, _, rfl, .inl (SqL.of upd_same), rfl, rfl, _, rfl, ?_⟩
      have q1 := q _ sl
      show if inV (.str z) [.str "no", .str "yes", .str "number", .str "truth"] = true then _ else _
      rw [kept_perm]
      have e : nameB (.str z) = ((decide (1 ≤ z.length) && decide (z.length ≤ 8)) && (z.cps.toList.all low && !keptS z)) := rfl
      refine ite2 (fun e3 => ?_) (fun e3 => ?_)
      · rw [e, e3, Bool.not_true, Bool.and_false, Bool.and_false] at q1
        exact q1
      · have e3' : keptS z = false := eq_false_of_ne_true e3
        refine ⟨_, rfl, z, rfl, by rw [sizeLine_eq]; omega, _, _, rfl, rfl, _, rfl, ite2 (fun f1 => ?_) (fun f1 => ?_)⟩
        · have f1' : (0 : Int) < z.length := of_decide_eq_true f1
          refine ⟨_, _, rfl, rfl, _, rfl, ite2 (fun f2 => ?_) (fun f2 => ?_)⟩
          · have f2' : ¬ ((z.length : Int) < 9) := by simpa using f2
            rw [e, decide_eq_false (show ¬ z.length ≤ 8 by omega), Bool.and_false, Bool.false_and] at q1
            exact q1
          · have f2' : ((z.length : Int) < 9) := by simpa using f2
            refine ⟨_, rfl, z, rfl, fun D hD => ?_⟩
            refine lc_str (z := z) (fun i H' => Same H H' ∧ H' D = some (.lst (((z.cps.toList.take i).map low).map V.bl))) ⟨sl.trans (Same.new hD), upd_same⟩ (fun i c H' hc hW => ?_) (fun H' hW => ?_)
            · obtain ⟨sm, hDl⟩ := hW
              refine ⟨rfl, ?_⟩
              unfold tYes; dsimp only
              rw [if_pos rfl]
              refine ⟨_, rfl, c, abc, rfl, rfl, ?_⟩
              rw [mem_abc]
              refine ⟨_, hDl, ?_, fun b o hb => ?_, ?_⟩
              · rw [List.length_map, List.length_map, List.length_take, len_tl, sizeLine_eq]
                omega
              · rw [upd_ne (ne_some hb (sl.free hD))]
                exact sm b o hb
              · rw [List.take_add_one, hc, List.map_append, List.map_append]
                exact upd_same
            · obtain ⟨sm, hDl⟩ := hW
              rw [List.take_of_length_le (Nat.le_refl _)] at hDl
              refine ⟨D, _, rfl, SqL.of hDl, ?_⟩
              have q2 := q _ sm
              have ea : (z.cps.toList.map low).all id = z.cps.toList.all low := by rw [List.all_map]; rfl
              rw [e, decide_eq_true (show 1 ≤ z.length by omega), decide_eq_true (show z.length ≤ 8 by omega), e3'] at q2
              rw [ea]
              simpa using q2
        · refine ⟨_, rfl, iteT ?_⟩
          have f1' : ¬ ((0 : Int) < z.length) := by simpa using f1
          rw [e, decide_eq_false (show ¬ 1 ≤ z.length by omega), Bool.false_and, Bool.false_and] at q1
          exact q1
    | _ => exact iteT (q H (Same.refl H))
abbrev sLIsWhole : Stmt := topS 45
abbrev NLIsWhole : List Str := ["_law_thing"]
theorem scLIsWhole : FnScope NLIsWhole ["_law_thing"] (fnScope sLIsWhole) := ⟨rfl, rfl, rfl, by decide +kernel, rfl, by decide +kernel, by decide +kernel⟩
theorem c_lisWhole (T : Tp mg) {f : Addr} {fd : FuncData} (D : Def K mg "_law_is_whole" sLIsWhole f fd) (b : Binds K fd ["_law_thing"] []) : Cal P w K mg base 1 "_law_is_whole" (spW K countB) [] := by
  refine cal0 D b .nil scLIsWhole (fun vs H Q E h => ?_) (fun cdv A outer s H vs Q E hr h => ?_)
  · obtain ⟨v, d, rfl, _⟩ := h
    rfl
  · obtain ⟨v, d, rfl, hd, _, q⟩ := h
    refine ⟨_, (pss_one (ps_ret (pe_and (pe_callB call_isQ (by rfl) T.n_isinstance (by decide +kernel) (pa_cons (pv 0) (pa_cons (pe_bltn (v := .ty "int") (by rfl) T.n_int (by decide +kernel) rfl) pa_nil))) (pe_and (pe_not (pe_callB call_isQ (by rfl) T.n_isinstance (by decide +kernel) (pa_cons (pv 0) (pa_cons (pe_bltn (v := .ty "bool") (by rfl) T.n_bool (by decide +kernel) rfl) pa_nil)))) (pe_one (pe_cmpR op_ge (pv 0) pe_int (nomark _))))))), ?_⟩
    have q0 := q H (Same.refl H)
    refine ⟨_, rfl, v, d, "int", rfl, hd, by decide, _, rfl, ?_⟩
    cases hd with
    | int i =>
      refine iteT ⟨_, rfl, _, _, "bool", rfl, .int i, by decide, _, rfl, _, rfl, iteT ?_⟩
      exact ⟨_, rfl, _, _, rfl, rfl, q0⟩
    | bl bb =>
      exact iteT ⟨_, rfl, _, _, "bool", rfl, .bl bb, by decide, _, rfl, _, rfl, iteF q0⟩
    | _ => exact iteF q0
abbrev sLIsKind : Stmt := topS 46
abbrev NLIsKind : List Str := ["_law_thing"]
theorem scLIsKind : FnScope NLIsKind ["_law_thing"] (fnScope sLIsKind) := ⟨rfl, rfl, rfl, by decide +kernel, rfl, by decide +kernel, by decide +kernel⟩
theorem kindB_two (x y : PyData) : kindB (.tuple [x, y]) = if strD "list" x then kindB y else (strD "record" x && nameB y) := by
  cases x with
  | str z => rw [kindB]; rfl
  | _ => simp [kindB, strD]
theorem kindB_not2 {d : PyData} (h : ∀ x y, d ≠ .tuple [x, y]) : kindB d = (oneD "number" d || oneD "truth" d) := by
  unfold kindB
  split
  · rename_i w
    show _ = (strD "number" (.str w) || strD "truth" (.str w))
    rfl
  · rename_i w x
    exact absurd rfl (h _ _)
  · rename_i h1 h2
    cases d with
    | tuple ds =>
      cases ds with
      | nil => rfl
      | cons x r =>
        cases r with
        | nil =>
          cases x with
          | str z => exact absurd rfl (h1 z)
          | _ => rfl
        | cons y r2 => rfl
    | _ => rfl
theorem one_two {u : Str} {x y : PyData} : oneD u (.tuple [x, y]) = false := rfl
theorem c_lisKind (T : Tp mg) (c_LIsName : Cal P w K mg base 1 "_law_is_name" (spW K nameB) []) {f : Addr} {fd : FuncData} (D : Def K mg "_law_is_kind" sLIsKind f fd) (b : Binds K fd ["_law_thing"] []) : Cal P w K mg base 2 "_law_is_kind" (spW K kindB) [] := by
  refine cal0 D b .nil scLIsKind (fun vs H Q E h => ?_) (fun cdv A outer s H vs Q E hr h => ?_)
  · obtain ⟨v, d, rfl, _⟩ := h
    rfl
  · obtain ⟨v, d, rfl, hd, hs, q⟩ := h
    have nd := scLIsKind.nd
    have hu0 : (A.deeper (envOfC "_law_is_kind" (fnScope sLIsKind) s.heap.objs.size f cdv)).units < cLine := by have := hr.un; omega
    have hu3 : (A.deeper (envOfC "_law_is_kind" (fnScope sLIsKind) s.heap.objs.size f cdv)).units + 3 < cLine := by have := hr.un; omega
    refine ⟨_, (pss_cons (ps_while PassesOwn.never (PW.pt (pw_and (pt_val (pe_callB call_isQ (by rfl) T.n_isinstance (by decide +kernel) (pa_cons (pv 0) (pa_cons (pe_bltn (v := .ty "tuple") (by rfl) T.n_tuple (by decide +kernel) rfl) pa_nil)))) (pw_and (pt_cmpR op_eq (pe_callB call_len_seq (by rfl) T.n_len (by decide +kernel) (pa_cons (pv 0) pa_nil)) pe_int (nomark _)) (pw_and1 (pt_cmpR (op_eqQS hu0) (pe_ix ix_tup (pv 0) pe_int (fun _ _ => rfl)) pe_str (nomark _))))))
      (pss_one (ps_set (i := 0) nd rfl (.inl rfl) (pe_ix ix_tup (pv 0) pe_int (fun _ _ => rfl)))))
    (pss_cons (ps_if (pt_cmpR (op_inQT hu3) (pv 0) (pe_lst (pa_cons (pe_tup (pa_cons pe_str pa_nil)) (pa_cons (pe_tup (pa_cons pe_str pa_nil)) pa_nil))) (by rfl))
      (pss_one (ps_ret pe_bl))
      pss_nil)
    (pss_one (ps_ret (pe_and (pe_callB call_isQ (by rfl) T.n_isinstance (by decide +kernel) (pa_cons (pv 0) (pa_cons (pe_bltn (v := .ty "tuple") (by rfl) T.n_tuple (by decide +kernel) rfl) pa_nil))) (pe_and (pe_cmpR op_eq (pe_callB call_len_seq (by rfl) T.n_len (by decide +kernel) (pa_cons (pv 0) pa_nil)) pe_int (nomark _)) (pe_and (pe_cmpR (op_eqQS hu0) (pe_ix ix_tup (pv 0) pe_int (fun _ _ => rfl)) pe_str (nomark _)) (pe_one (pe_c c_LIsName hr (by decide) (by rfl) (pa_cons (pe_ix ix_tup (pv 0) pe_int (fun _ _ => rfl)) pa_nil)))))))))), ?_⟩
    refine ⟨fun m σ H1 => ∃ v1 d1, σ = [some v1] ∧ Dq K H1 v1 d1 ∧ Sml d1 ∧ kindB d1 = kindB d ∧ Same H H1 ∧ m = d1.depth, ⟨_, v, d, rfl, hd, hs, rfl, Same.refl H, rfl⟩, ?_⟩
    clear hs hd
    rintro m σ H1 ⟨v, d1, rfl, hd, hs, hk, hS, rfl⟩
    have looks : ∀ (H1 : Hp) {Q' : VK}, Same H H1 → Dq K H1 v d1 → (∀ (l t1 t2 : Addr) (H2 : Hp), Same H1 H2 → SqL K H2 l [.ref t1, .ref t2] → SqT K H2 t1 [.str "number"] → SqT K H2 t2 [.str "truth"] → t1 ≠ t2 → Q' (.ref l) H2) → tLst (tCons (tTup (tCons (tC (.str "number")) tNil)) (tCons (tTup (tCons (tC (.str "truth")) tNil)) tNil)) [some v] H1 Q' := by
      intro H1 Q' _ _ hq
      refine ⟨(by show 1 ≤ sizeLine; decide), fun t1 h1 => ⟨(by show 1 ≤ sizeLine; decide), fun t2 h2 => ⟨(by show 2 ≤ sizeLine; decide), fun l hl => ?_⟩⟩⟩
      refine hq l t1 t2 _ (((Same.new h1).trans (Same.new h2)).trans (Same.new hl)) (SqL.of upd_same) (SqT.of (Same.new hl _ _ (Same.new h2 _ _ upd_same))) (SqT.of (Same.new hl _ _ upd_same)) (ne_new h2)
    by_cases h2 : ∃ x y, d1 = .tuple [x, y]
    · obtain ⟨x, y, rfl⟩ := h2
      cases id hd with
      | @tup a xs ds hq ha =>
        obtain ⟨u0, u1, rfl, g0, g1⟩ := ha.two
        refine ⟨_, rfl, _, _, "tuple", rfl, hd, by decide, _, rfl, iteT ?_⟩
        refine ⟨_, rfl, a, _, rfl, .inr hq, rfl, _, rfl, iteT' (decide_eq_true rfl) ?_⟩
        refine ⟨_, rfl, a, _, _, u0, rfl, rfl, hq, atI_nat (j := 0) rfl, x, "list", g0, rfl, _, rfl, ite2 (fun e => ?_) (fun e => ?_)⟩
        · refine ⟨fun σ' H' => ∃ m', m' < _ ∧ ∃ v1 d2, σ' = [some v1] ∧ Dq K H' v1 d2 ∧ Sml d2 ∧ kindB d2 = kindB d ∧ Same H H' ∧ m' = d2.depth, fun σ' H' h => h, ?_⟩
          refine ⟨_, rfl, a, _, _, u1, rfl, rfl, hq, atI_nat (j := 1) rfl, ?_⟩
          refine ⟨y.depth, ?_, u1, y, rfl, g1, hs.at (i := 1) rfl, ?_, hS, rfl⟩
          · simp only [PyData.depth, PyData.depthAll]
            omega
          · rw [← hk, kindB_two, e]
            rfl
        · refine ⟨_, rfl, looks H1 hS hd fun l t1 t2 H2 s2 hl ht1 ht2 n12 => ⟨_, l, t1, t2, "number", "truth", hd.mono s2, rfl, hl, ht1, ht2, n12, _, rfl, iteF ?_⟩⟩
          have hd2 := hd.mono s2
          refine ⟨_, rfl, _, _, "tuple", rfl, hd2, by decide, _, rfl, iteT ?_⟩
          refine ⟨_, rfl, a, _, rfl, .inr (sqT_mono s2 hq), rfl, _, rfl, iteT' (decide_eq_true rfl) ?_⟩
          refine ⟨_, rfl, a, _, _, u0, rfl, rfl, sqT_mono s2 hq, atI_nat (j := 0) rfl, x, "record", g0.mono s2, rfl, _, rfl, ite2 (fun e2 => ?_) (fun e2 => ?_)⟩
          · refine ⟨_, rfl, a, _, _, u1, rfl, rfl, sqT_mono s2 hq, atI_nat (j := 1) rfl, u1, y, rfl, g1.mono s2, hs.at (i := 1) rfl, fun H3 s3 => ?_⟩
            have q' := q H3 ((hS.trans s2).trans s3)
            rw [← hk, kindB_two, eq_false_of_ne_true e, e2, Bool.true_and] at q'
            exact q'
          · have q' := q H2 (hS.trans s2)
            rw [← hk, kindB_two, eq_false_of_ne_true e, eq_false_of_ne_true e2, Bool.false_and] at q'
            exact q'
    · have hk2 := kindB_not2 (d := d1) (fun x y e => h2 ⟨x, y, e⟩)
      by_cases ht : isT d1 = true
      · cases id hd with
        | @tup a xs ds hq ha =>
          have hlen := ha.len
          have n2 : decide (V.int ((xs.length : Nat) : Int) = V.int 2) = false := decide_eq_false fun e => by
            have e1 := V.int.inj e
            obtain ⟨x, y, rfl⟩ := two_of (l := ds) (by omega)
            exact h2 ⟨x, y, rfl⟩
          refine ⟨_, rfl, _, _, "tuple", rfl, hd, by decide, _, rfl, iteT ?_⟩
          refine ⟨_, rfl, a, _, rfl, .inr hq, rfl, _, rfl, iteF' n2 ?_⟩
          refine ⟨_, rfl, looks H1 hS hd fun l t1 t2 H2 s2 hl ht1 ht2 n12 => ⟨_, l, t1, t2, "number", "truth", hd.mono s2, rfl, hl, ht1, ht2, n12, _, rfl, ite2 (fun e => ?_) (fun e => ?_)⟩⟩
          · have q' := q H2 (hS.trans s2)
            rw [← hk, hk2, e] at q'
            exact q'
          · have q' := q H2 (hS.trans s2)
            rw [← hk, hk2, eq_false_of_ne_true e] at q'
            refine ⟨_, rfl, _, _, "tuple", rfl, hd.mono s2, by decide, _, rfl, iteT ?_⟩
            exact ⟨_, rfl, a, _, rfl, .inr (sqT_mono s2 hq), rfl, _, rfl, iteF' n2 q'⟩
        | _ => cases ht
      · have htf : isOfQ "tuple" d1 = false := by rw [tyT]; exact eq_false_of_ne_true ht
        refine ⟨_, rfl, _, _, "tuple", rfl, hd, by decide, _, rfl, iteF' htf ?_⟩
        refine ⟨_, rfl, looks H1 hS hd fun l t1 t2 H2 s2 hl ht1 ht2 n12 => ⟨_, l, t1, t2, "number", "truth", hd.mono s2, rfl, hl, ht1, ht2, n12, _, rfl, ite2 (fun e => ?_) (fun e => ?_)⟩⟩
        · have q' := q H2 (hS.trans s2)
          rw [← hk, hk2, e] at q'
          exact q'
        · have q' := q H2 (hS.trans s2)
          rw [← hk, hk2, eq_false_of_ne_true e] at q'
          exact ⟨_, rfl, _, _, "tuple", rfl, hd.mono s2, by decide, _, rfl, iteF' htf q'⟩
end
end K25
set_option Elab.async false
set_option linter.all false
set_option maxRecDepth 100000
set_option maxHeartbeats 4000000
namespace K25
open PySem PySem.Spec PyProof.Rows L2 KD
open C8 (Cal Def cal0 pe_c fnBody fnScope fnArgs)
theorem term_leaf {u : Str} {rest : List PyData} (h : leafW u = true) : termB (.tuple (.str u :: rest)) = (decide (rest.length = 1) && (rest[0]?.map (leafB u)).getD false) := by
  rw [termB_eq]
  show ((decide (1 ≤ rest.length) && shapedW u rest) && (selW u rest).all termB) = _
  have e1 : selW u rest = [] := by unfold selW; rw [if_pos h]
  rw [e1]
  unfold shapedW
  rw [if_pos h, List.all_nil, Bool.and_true]
  by_cases hl : rest.length = 1
  · rw [decide_eq_true hl, decide_eq_true (show 1 ≤ rest.length by omega)]
    rfl
  · rw [decide_eq_false hl, Bool.false_and, Bool.and_false]
theorem term_field {rest : List PyData} : termB (.tuple (.str "field" :: rest)) = (decide (rest.length = 2) && ((rest[0]?.map termB).getD false && (rest[1]?.map nameB).getD false)) := by
  rw [termB_eq]
  show ((decide (1 ≤ rest.length) && shapedW "field" rest) && (selW "field" rest).all termB) = _
  have hl0 : leafW "field" = false := by decide +kernel
  have e1 : selW "field" rest = rest.take 1 := by unfold selW; rw [hl0]; rfl
  rw [e1]
  unfold shapedW
  rw [hl0]
  show ((decide (1 ≤ rest.length) && (decide (rest.length = 2) && (rest[1]?.map nameB).getD false)) && (rest.take 1).all termB) = _
  by_cases hl : rest.length = 2
  · rw [decide_eq_true hl, decide_eq_true (show 1 ≤ rest.length by omega)]
    obtain ⟨x, y, rfl⟩ := two_of hl
    show ((true && (true && nameB y)) && (termB x && true)) = (true && (termB x && nameB y))
    rw [Bool.and_true, Bool.true_and, Bool.true_and, Bool.true_and]
    exact Bool.and_comm _ _
  · rw [decide_eq_false hl, Bool.false_and, Bool.and_false, Bool.false_and, Bool.false_and]
theorem term_rest {u : Str} {rest : List PyData} (h : leafW u = false) (hf : (u == ("field" : Str)) = false) : termB (.tuple (.str u :: rest)) = ((decide (1 ≤ rest.length) && shapedW u rest) && rest.all termB) := by
  rw [termB_eq]
  show ((decide (1 ≤ rest.length) && shapedW u rest) && (selW u rest).all termB) = _
  have e1 : selW u rest = rest := by unfold selW; rw [h, hf]; rfl
  rw [e1]
/-! ### how wide terms are, as the law has it -/
def wides0 : List (Str × List Int) := [("not", [1]), ("many", [1]), ("pick", [3]), ("at", [3]), ("list", [1, 2, 3, 4, 5, 6, 7, 8])]
def seven : List Str := ["add", "less", "times", "under", "same", "both", "join"]
def widesAll : List (Str × List Int) := wides0 ++ seven.map fun z => (z, [2])
theorem wide_bits : ∀ n : Nat, inV (.int (n : Int)) ([1, 2, 3, 4, 5, 6, 7, 8].map V.int) = (decide (1 ≤ n) && decide (n ≤ 8)) := by
  intro n
  rw [Bool.eq_iff_iff]
  unfold inV
  simp only [List.map_cons, List.map_nil, List.any_cons, List.any_nil, Bool.or_false, Bool.or_eq_true, Bool.and_eq_true, decide_eq_true_eq, eqV, beq_iff_eq]
  omega
theorem wide_one (n : Nat) (c : Int) : inV (.int (n : Int)) ([c].map V.int) = decide ((n : Int) = c) := by
  rw [Bool.eq_iff_iff]
  unfold inV
  simp only [List.map_cons, List.map_nil, List.any_cons, List.any_nil, Bool.or_false, decide_eq_true_eq, eqV, beq_iff_eq]
  exact eq_comm
theorem wide_shaped {u : Str} {rest : List PyData} (h : leafW u = false) (hf : (u == ("field" : Str)) = false) : (decide (1 ≤ rest.length) && shapedW u rest) = inV (.int (rest.length : Int)) (((widesAll.lookup u).getD []).map V.int) := by
  unfold shapedW
  rw [h, hf]
  show (decide (1 ≤ rest.length) && (if (u == ("list" : Str)) = true then decide (rest.length ≤ 8) else match counts.lookup u with | some c => decide ((rest.length : Int) = c) | none => false)) = _
  by_cases hl : u = "list"
  · subst hl
    rw [if_pos (by decide +kernel), show widesAll.lookup ("list" : Str) = some [1, 2, 3, 4, 5, 6, 7, 8] by decide +kernel]
    exact (wide_bits rest.length).symm
  · rw [if_neg (fun e => hl (eq_of_beq e))]
    have key : ∀ c : Int, 1 ≤ c → (decide (1 ≤ rest.length) && decide ((rest.length : Int) = c)) = decide ((rest.length : Int) = c) := by
      intro c hc
      by_cases e : (rest.length : Int) = c
      · rw [decide_eq_true e, decide_eq_true (show 1 ≤ rest.length by omega)]
        rfl
      · rw [decide_eq_false e, Bool.and_false]
    have all : ∀ z ∈ (["add", "less", "times", "under", "same", "both", "join", "not", "many", "pick", "at"] : List Str), ∃ c : Int, 1 ≤ c ∧ counts.lookup z = some c ∧ widesAll.lookup z = some [c] := by
      intro z hz
      simp only [List.mem_cons, List.not_mem_nil, or_false] at hz
      rcases hz with rfl | rfl | rfl | rfl | rfl | rfl | rfl | rfl | rfl | rfl | rfl
      all_goals first
        | exact ⟨2, by decide, by decide +kernel, by decide +kernel⟩
        | exact ⟨1, by decide, by decide +kernel, by decide +kernel⟩
        | exact ⟨3, by decide, by decide +kernel, by decide +kernel⟩
    by_cases hm : u ∈ (["add", "less", "times", "under", "same", "both", "join", "not", "many", "pick", "at"] : List Str)
    · obtain ⟨c, c1, e1, e2⟩ := all u hm
      rw [e1, e2]
      show (decide (1 ≤ rest.length) && decide ((rest.length : Int) = c)) = inV (.int (rest.length : Int)) ([c].map V.int)
      rw [key c c1, wide_one]
    · have no : ∀ (l : List (Str × Int)), (∀ p ∈ l, p.1 ∈ (["add", "less", "times", "under", "same", "both", "join", "not", "many", "pick", "at"] : List Str)) → l.lookup u = none := by
        intro l
        induction l with
        | nil => intro _; rfl
        | cons p l ih =>
          intro hp
          obtain ⟨y, c⟩ := p
          rw [List.lookup_cons]
          have : (u == y) = false := by
            rw [Bool.eq_false_iff]
            intro e
            exact hm (by rw [eq_of_beq e]; exact hp _ List.mem_cons_self)
          rw [this]
          exact ih fun q hq => hp q (List.mem_cons_of_mem _ hq)
      have no2 : ∀ (l : List (Str × List Int)), (∀ p ∈ l, p.1 = "list" ∨ p.1 ∈ (["add", "less", "times", "under", "same", "both", "join", "not", "many", "pick", "at"] : List Str)) → l.lookup u = none := by
        intro l
        induction l with
        | nil => intro _; rfl
        | cons p l ih =>
          intro hp
          obtain ⟨y, c⟩ := p
          rw [List.lookup_cons]
          have : (u == y) = false := by
            rw [Bool.eq_false_iff]
            intro e
            have e2 := eq_of_beq e
            rcases hp _ List.mem_cons_self with h1 | h1
            · exact hl (e2.trans h1)
            · exact hm (e2 ▸ h1)
          rw [this]
          exact ih fun q hq => hp q (List.mem_cons_of_mem _ hq)
      rw [no counts (by decide +kernel), no2 widesAll (by decide +kernel)]
      show (decide (1 ≤ rest.length) && false) = inV _ []
      rw [Bool.and_false]
      rfl
/-- a dict of lists of ints -/
def WD (H : Hp) : List (Key × V) → List (Str × List Int) → Prop := Paired fun q n => q.1 = Sum.inr n.1 ∧ ∃ l : Addr, q.2 = .ref l ∧ H l = some (.lst (n.2.map V.int))
theorem WD.mono {H H' : Hp} {kvs : List (Key × V)} {ws : List (Str × List Int)} (e : ∀ l xs, H l = some (.lst xs) → H' l = some (.lst xs)) (h : WD H kvs ws) : WD H' kvs ws := Paired.mapP h fun _ _ r => ⟨r.1, let ⟨l, a, b⟩ := r.2; ⟨l, a, e _ _ b⟩⟩
theorem WD.get {H : Hp} {kvs : List (Key × V)} {ws : List (Str × List Int)} (h : WD H kvs ws) (z : Str) : (∃ l ns, valV kvs (Sum.inr z) = some (.ref l) ∧ ws.lookup z = some ns ∧ H l = some (.lst (ns.map V.int))) ∨ (valV kvs (Sum.inr z) = none ∧ ws.lookup z = none) := by
  unfold WD at h
  induction h with
  | nil => exact .inr ⟨rfl, rfl⟩
  | @cons q n kvs ws h1 _ ih =>
    obtain ⟨y, ns⟩ := n
    obtain ⟨e1, l, e2, e3⟩ := h1
    rw [List.lookup_cons]
    cases hz : (z == y) with
    | true =>
      have := eq_of_beq hz
      subst this
      exact .inl ⟨l, ns, by rw [valV_pos e1, e2], rfl, e3⟩
    | false =>
      have ne : q.1 ≠ Sum.inr z := fun e => by
        rw [e1] at e
        cases e
        rw [beq_self_eq_true] at hz
        cases hz
      rw [valV_neg ne]
      exact ih
theorem WD.snoc {H : Hp} {kvs : List (Key × V)} {ws : List (Str × List Int)} {z : Str} {l : Addr} {ns : List Int} (h : WD H kvs ws) (hn : ws.lookup z = none) (hl : H l = some (.lst (ns.map V.int))) : WD H (putK kvs (.inr z) (.ref l)) (ws ++ [(z, ns)]) := by
  have hv : valV kvs (Sum.inr z) = none := by
    rcases h.get z with ⟨_, _, _, h2, _⟩ | ⟨h1, _⟩
    · rw [hn] at h2; cases h2
    · exact h1
  rw [putK_new _ hv]
  unfold WD at h ⊢
  clear hn hv
  induction h with
  | nil => exact .cons ⟨rfl, l, rfl, hl⟩ .nil
  | cons h1 t ih => exact .cons h1 ih
theorem WD.len {H : Hp} {kvs : List (Key × V)} {ws : List (Str × List Int)} (h : WD H kvs ws) : kvs.length = ws.length := Paired.length h
end K25
set_option Elab.async false
set_option linter.all false
set_option maxRecDepth 100000
set_option maxHeartbeats 4000000
namespace K25
open PySem PySem.Spec PyProof.Rows L2 KD
open C8 (Cal Def cal0 pe_c fnBody fnScope fnArgs)
theorem depth_at {ds : List PyData} {i : Nat} {d : PyData} (e : ds[i]? = some d) : d.depth < (PyData.tuple ds).depth := by
  have h : ∀ {ds : List PyData} {i : Nat}, ds[i]? = some d → d.depth ≤ PyData.depthAll ds := by
    intro ds
    induction ds with
    | nil => intro i e; simp at e
    | cons x xs ih =>
      intro i e
      rw [PyData.depthAll]
      cases i with
      | zero => simp at e; rw [← e]; exact Nat.le_max_left _ _
      | succ i => exact Nat.le_trans (ih (by simpa using e)) (Nat.le_max_right _ _)
  have := h e
  rw [PyData.depth]
  omega
theorem tail_ix {x : V} {vr : List V} : HT.sIx (x :: vr).length 0 (some 1) = 1 := by
  show HT.sIx _ 0 (some ((1 : Nat) : Int)) = 1
  rw [HT.sIx_nat, List.length_cons]
  omega
theorem tail_ne {x : V} {vr : List V} : ¬ (HT.sIx (x :: vr).length 0 (some 1) = 0 ∧ HT.sIx (x :: vr).length (x :: vr).length none = (x :: vr).length) := fun h => by
  rw [tail_ix] at h
  exact absurd h.1 (by decide)
theorem tail_cut {x : V} {vr : List V} : cutV (x :: vr) (some 1) none = vr := by
  unfold cutV
  rw [tail_ix, HT.sIx_none]
  exact List.take_of_length_le (by simp)
theorem merge5 {a b c d e : V} : mergeK [] [((.inr "not", a) : Key × V), (.inr "many", b), (.inr "pick", c), (.inr "at", d), (.inr "list", e)] = [(.inr "not", a), (.inr "many", b), (.inr "pick", c), (.inr "at", d), (.inr "list", e)] := by rfl
theorem seven_no : ∀ (i : Nat) (z : Str), seven[i]? = some z → (wides0 ++ (seven.take i).map fun z => (z, ([2] : List Int))).lookup z = none := by
  intro i z h
  have hi : i < 7 := (List.getElem?_eq_some_iff.mp h).1
  match i, hi, h with
  | 0, _, h => cases h; decide +kernel
  | 1, _, h => cases h; decide +kernel
  | 2, _, h => cases h; decide +kernel
  | 3, _, h => cases h; decide +kernel
  | 4, _, h => cases h; decide +kernel
  | 5, _, h => cases h; decide +kernel
  | 6, _, h => cases h; decide +kernel
theorem one_at {α : Type} {l : List α} (h : l.length = 1) : ∃ x, l = [x] := one_of h
theorem dec_len {n m : Nat} : decide (V.int (n : Int) = V.int (m : Int)) = decide (n = m) := by
  rw [Bool.eq_iff_iff, decide_eq_true_eq, decide_eq_true_eq]
  exact ⟨fun h => by have := V.int.inj h; omega, fun h => by rw [h]⟩
section
variable {P : Program} {w : World} {K : PySem.W.Frag} {mg : Str → Option Value} {base : Heap}
abbrev sLIsTerm : Stmt := topS 47
abbrev NLIsTerm : List Str := ["_law_thing", "_law_wide", "_law_one", "_law_word", "_law_more", "_law_part_here"]
theorem scLIsTerm : FnScope NLIsTerm ["_law_thing"] (fnScope sLIsTerm) := ⟨rfl, rfl, rfl, by decide +kernel, rfl, by decide +kernel, by decide +kernel⟩
def spL (K : PySem.W.Frag) (g : PyData → Bool) (n : Nat) : Sp := fun vs H Q _ => ∃ v d, vs = [v] ∧ Dq K H v d ∧ Sml d ∧ d.depth < n ∧ ∀ H', Same H H' → Q (.bl (g d)) H'
theorem c_lisTerm (T : Tp mg) (c_LIsName : Cal P w K mg base 1 "_law_is_name" (spW K nameB) []) (c_LIsWhole : Cal P w K mg base 1 "_law_is_whole" (spW K countB) []) (c_LIsKind : Cal P w K mg base 2 "_law_is_kind" (spW K kindB) []) {f : Addr} {fd : FuncData} (D : Def K mg "_law_is_term" sLIsTerm f fd) (b : Binds K fd ["_law_thing"] []) :
    ∀ n : Nat, Cal P w K mg base (3 + n) "_law_is_term" (spL K termB n) []
  | 0 => cal_no _ (fun vs H Q E ⟨v, d, _, _, _, h, _⟩ => absurd h (Nat.not_lt_zero _)) D b
  | n + 1 => by
    have c_LIsTerm := c_lisTerm T c_LIsName c_LIsWhole c_LIsKind D b n
    refine cal0 D b .nil scLIsTerm (fun vs H Q E h => ?_) (fun cdv A outer s H vs Q E hr h => ?_)
    · obtain ⟨v, d, rfl, _⟩ := h
      rfl
    · obtain ⟨v, d, rfl, hd, hs, hdep, q⟩ := h
      have nd := scLIsTerm.nd
      have hr := (show Room (3 + n) _ from hr)
      have hu1 : (A.deeper (envOfC "_law_is_term" (fnScope sLIsTerm) s.heap.objs.size f cdv)).units + 1 < cLine := by have := hr.un; omega
      refine ⟨_, (pss_cons (ps_if (PW.pt (pw_or (pt_not (pt_val (pe_callB call_isQ (by rfl) T.n_isinstance (by decide +kernel) (pa_cons (pv 0) (pa_cons (pe_bltn (v := .ty "tuple") (by rfl) T.n_tuple (by decide +kernel) rfl) pa_nil))))) (pw_or (pt_cmpR op_lt (pe_callB call_len_seq (by rfl) T.n_len (by decide +kernel) (pa_cons (pv 0) pa_nil)) pe_int (nomark _)) (pw_or1 (pt_not (pt_val (pe_callB call_isQ (by rfl) T.n_isinstance (by decide +kernel) (pa_cons (pe_ix ix_tup (pv 0) pe_int (fun _ _ => rfl)) (pa_cons (pe_bltn (v := .ty "str") (by rfl) T.n_str (by decide +kernel) rfl) pa_nil)))))))))
      (pss_one (ps_ret pe_bl))
      pss_nil)
    (pss_cons (ps_par (i := 3) (j := 4) rfl nd rfl rfl (by decide) rfl rfl (pa_cons (pe_ix ix_tup (pv 0) pe_int (fun _ _ => rfl)) (pa_cons (pe_slice sl_tup (pv 0) (po_some pe_int) po_none) pa_nil)) (by rfl))
    (pss_cons (ps_if (pt_cmpR op_eq (pv 3) pe_str (nomark _))
      (pss_one (ps_ret (pe_and (pe_cmpR op_eq (pe_callB call_len_seq (by rfl) T.n_len (by decide +kernel) (pa_cons (pv 4) pa_nil)) pe_int (nomark _)) (pe_and (pe_c c_LIsWhole hr (by omega) (by rfl) (pa_cons (pe_ix ix_tup (pv 4) pe_int (fun _ _ => rfl)) pa_nil)) (pe_one (pe_cmpR op_lt (pe_ix ix_tup (pv 4) pe_int (fun _ _ => rfl)) (pe_op op_pow pe_int pe_int) (nomark _)))))))
      pss_nil)
    (pss_cons (ps_if (pt_cmpR op_eq (pv 3) pe_str (nomark _))
      (pss_one (ps_ret (pe_and (pe_cmpR op_eq (pe_callB call_len_seq (by rfl) T.n_len (by decide +kernel) (pa_cons (pv 4) pa_nil)) pe_int (nomark _)) (pe_one (pe_callB call_isQ (by rfl) T.n_isinstance (by decide +kernel) (pa_cons (pe_ix ix_tup (pv 4) pe_int (fun _ _ => rfl)) (pa_cons (pe_bltn (v := .ty "bool") (by rfl) T.n_bool (by decide +kernel) rfl) pa_nil)))))))
      pss_nil)
    (pss_cons (ps_if (pt_cmpR op_in_seq (pv 3) (pe_lst (pa_cons pe_str (pa_cons pe_str pa_nil))) (by rfl))
      (pss_one (ps_ret (pe_and (pe_cmpR op_eq (pe_callB call_len_seq (by rfl) T.n_len (by decide +kernel) (pa_cons (pv 4) pa_nil)) pe_int (nomark _)) (pe_one (pe_c c_LIsName hr (by omega) (by rfl) (pa_cons (pe_ix ix_tup (pv 4) pe_int (fun _ _ => rfl)) pa_nil))))))
      pss_nil)
    (pss_cons (ps_if (pt_cmpR op_eq (pv 3) pe_str (nomark _))
      (pss_one (ps_ret (pe_and (pe_cmpR op_eq (pe_callB call_len_seq (by rfl) T.n_len (by decide +kernel) (pa_cons (pv 4) pa_nil)) pe_int (nomark _)) (pe_one (pe_c c_LIsKind hr (by omega) (by rfl) (pa_cons (pe_ix ix_tup (pv 4) pe_int (fun _ _ => rfl)) pa_nil))))))
      pss_nil)
    (pss_cons (ps_if (pt_cmpR op_eq (pv 3) pe_str (nomark _))
      (pss_one (ps_ret (pe_and (pe_cmpR op_eq (pe_callB call_len_seq (by rfl) T.n_len (by decide +kernel) (pa_cons (pv 4) pa_nil)) pe_int (nomark _)) (pe_and (pe_c c_LIsTerm hr (Nat.le_refl _) (by rfl) (pa_cons (pe_ix ix_tup (pv 4) pe_int (fun _ _ => rfl)) pa_nil)) (pe_one (pe_c c_LIsName hr (by omega) (by rfl) (pa_cons (pe_ix ix_tup (pv 4) pe_int (fun _ _ => rfl)) pa_nil)))))))
      pss_nil)
    (pss_cons (ps_set (i := 1) nd rfl (.inl rfl) (pe_disp (pps_cons pe_str (pe_lst (pa_cons pe_int pa_nil)) (pps_cons pe_str (pe_lst (pa_cons pe_int pa_nil)) (pps_cons pe_str (pe_lst (pa_cons pe_int pa_nil)) (pps_cons pe_str (pe_lst (pa_cons pe_int pa_nil)) (pps_cons pe_str (pe_lst (pa_cons pe_int (pa_cons pe_int (pa_cons pe_int (pa_cons pe_int (pa_cons pe_int (pa_cons pe_int (pa_cons pe_int (pa_cons pe_int pa_nil))))))))) pps_nil))))) rfl rfl (fun e => nomatch e) (by decide)))
    (pss_cons (ps_for PassesOwn.never rfl (pi_list (pe_lst (pa_cons pe_str (pa_cons pe_str (pa_cons pe_str (pa_cons pe_str (pa_cons pe_str (pa_cons pe_str (pa_cons pe_str pa_nil))))))))) (pg_name (i := 2) nd rfl (.inl rfl))
      (pss_one (ps_dput hu1 (pv 1) (pv 2) (pe_lst (pa_cons pe_int pa_nil)) rfl)))
    (pss_one (ps_ret (pe_and (pe_cmpR op_in_seq (pe_callB call_len_seq (by rfl) T.n_len (by decide +kernel) (pa_cons (pv 4) pa_nil)) (pe_dget2 hu1 (pv 1) (pv 3) (pe_lst pa_nil) ⟨rfl, rfl, rfl, rfl⟩) (by rfl)) (pe_one (pe_callB (cr_all rfl) (by rfl) T.n_all (by decide +kernel) (pa_cons (pe_lc (own := [("_law_part_here", 5)]) (g := gName 5) (by rfl) nd (pi_tup (pv 4)) (blkOk_by (own := [("_law_part_here", 5)]) (N := NLIsTerm) (sc := fnScope sLIsTerm) (by decide +kernel)) (fun _ _ _ _ _ => pg_name (i := 5) nd rfl (Or.inl rfl)) (fun _ _ _ _ _ => pts_nil) (fun _ _ _ _ _ => (pe_c c_LIsTerm hr (Nat.le_refl _) (by rfl) (pa_cons (pv 5) pa_nil)))) pa_nil))))))))))))))), ?_⟩
      have q0 := q H (Same.refl H)
      refine ⟨_, rfl, v, d, "tuple", rfl, hd, by decide, _, rfl, ?_⟩
      cases hd with
      | @tup a xs ds hq ha =>
        have hlen := ha.len
        refine iteF ⟨_, rfl, a, xs, rfl, .inr hq, _, _, rfl, rfl, _, rfl, ite2 (fun e => ?_) (fun e => ?_)⟩
        · have e1 : ((xs.length : Nat) : Int) < 2 := of_decide_eq_true e
          have hf : termB (.tuple ds) = false := by
            rw [termB_eq]
            have : shapedB (.tuple ds) = false := by
              cases ds with
              | nil => rfl
              | cons x rest =>
                cases rest with
                | nil => cases x <;> rfl
                | cons y r => simp at hlen; omega
            rw [this, Bool.false_and]
          rw [hf] at q0
          exact iteT q0
        · have e1 : ¬ ((xs.length : Nat) : Int) < 2 := fun h => e (decide_eq_true h)
          obtain ⟨x, rest, rfl, hr1⟩ := head_of (show 2 ≤ ds.length by omega)
          obtain ⟨v0, vr, rfl, h0, hrd⟩ := dpAll_head ha
          have hvr : vr.length = rest.length := hrd.len
          refine ⟨_, rfl, a, _, _, v0, rfl, rfl, hq, atI_nat (j := 0) rfl, v0, x, "str", rfl, h0, by decide, _, rfl, ?_⟩
          cases h0 with
          | str u =>
            refine iteF ⟨_, rfl, a, _, _, .str u, rfl, rfl, hq, atI_nat (j := 0) rfl, _, rfl, _, rfl, a, _, rfl, hq, tail_ne, fun t ht => ?_⟩
            rw [tail_cut]
            have s1 := Same.new (o := .tup vr) ht
            have hq1 := sqT_mono s1 hq
            have hrd1 := hrd.mono s1
            have ht1 : SqT K (upd H t (.tup vr)) t vr := SqT.of upd_same
            refine ⟨_, _, rfl, ?_⟩
            have q1 : ∀ H', Same (upd H t (.tup vr)) H' → Q (.bl (termB (.tuple (.str u :: rest)))) H' := fun H' s' => q H' (s1.trans s')
            have hs1 : ∀ {i : Nat} {d : PyData}, rest[i]? = some d → Sml d := fun {i d} e => hs.at (i := i + 1) (by rw [List.getElem?_cons_succ]; exact e)
            have hd1 : ∀ {i : Nat} {d : PyData}, rest[i]? = some d → d.depth < n := fun {i d} e => by
              have := depth_at (ds := .str u :: rest) (i := i + 1) (d := d) (by rw [List.getElem?_cons_succ]; exact e)
              omega
            generalize upd H t (.tup vr) = H1 at *
            have lenone : ∀ {A B : Prop}, (rest.length = 1 → A) → (rest.length ≠ 1 → B) → if decide (V.int ((vr.length : Nat) : Int) = V.int 1) = true then A else B := fun {A B} h1 h2 => by
              rw [show (V.int 1 : V) = V.int ((1 : Nat) : Int) from rfl, dec_len]
              exact ite2 (fun e => h1 (by have := of_decide_eq_true e; omega)) (fun e => h2 (fun c => e (decide_eq_true (by omega))))
            have no1 : ∀ {m : Nat}, rest.length ≠ m → decide (V.int ((vr.length : Nat) : Int) = V.int ((m : Nat) : Int)) = false := fun h => by
              rw [dec_len, decide_eq_false (by omega)]
            -- number
            refine ⟨_, rfl, rfl, _, rfl, ite2 (fun e => ?_) (fun e1 => ?_)⟩
            · have e' := eq_str e
              subst e'
              rw [term_leaf (u := "number") (by decide +kernel)] at q1
              refine ⟨_, rfl, t, _, rfl, .inr ht1, rfl, _, rfl, ?_⟩
              by_cases hl : rest.length = 1
              · obtain ⟨r0, rfl⟩ := one_of hl
                obtain ⟨w0, rfl, g0⟩ := hrd1.one
                refine iteT' (decide_eq_true rfl) ⟨_, rfl, t, _, _, w0, rfl, rfl, ht1, atI_nat (j := 0) rfl, w0, r0, rfl, g0, hs1 (i := 0) rfl, fun H2 s2 => ⟨_, rfl, ite2 (fun ec => ?_) (fun ec => ?_)⟩⟩
                · have g2 := g0.mono s2
                  cases g2 with
                  | int i =>
                    have ec' : (0 : Int) ≤ i := of_decide_eq_true ec
                    refine ⟨_, rfl, t, _, _, .int i, rfl, rfl, sqT_mono s2 ht1, atI_nat (j := 0) rfl, _, _, rfl, rfl, (by show (0 : Int) ≤ 12 ∧ _; decide), _, _, rfl, rfl, ?_⟩
                    have q2 := q1 H2 s2
                    have e12 : (10 : Int) ^ (12 : Int).toNat = 1000000000000 := by decide
                    have en : (decide (([PyData.int i] : List PyData).length = 1) && ((([PyData.int i] : List PyData)[0]?.map (leafB "number")).getD false)) = decide (i < (10 : Int) ^ (12 : Int).toNat) := by
                      show (true && leafB "number" (.int i)) = _
                      have : leafB "number" (.int i) = numB (.int i) := by unfold leafB; rw [if_pos (by decide +kernel)]
                      rw [this, e12, Bool.true_and]
                      show (decide (0 ≤ i) && decide (i < 1000000000000)) = _
                      rw [decide_eq_true ec', Bool.true_and]
                    rw [en] at q2
                    exact q2
                  | _ => cases ec
                · have q2 := q1 H2 s2
                  have en : (decide (([r0] : List PyData).length = 1) && ((([r0] : List PyData)[0]?.map (leafB "number")).getD false)) = false := by
                    show (true && leafB "number" r0) = false
                    have : leafB "number" r0 = numB r0 := by unfold leafB; rw [if_pos (by decide +kernel)]
                    rw [this, Bool.true_and]
                    cases r0 <;> first | rfl | skip
                    rename_i i
                    have : ¬ (0 : Int) ≤ i := fun h => ec (decide_eq_true h)
                    show (decide (0 ≤ i) && decide (i < 1000000000000)) = false
                    rw [decide_eq_false this, Bool.false_and]
                  rw [en] at q2
                  exact q2
              · rw [decide_eq_false hl, Bool.false_and] at q1
                exact iteF' (no1 (m := 1) hl) (q1 _ (Same.refl _))
            -- truth
            refine ⟨_, rfl, rfl, _, rfl, ite2 (fun e => ?_) (fun e2 => ?_)⟩
            · have e' := eq_str e
              subst e'
              rw [term_leaf (u := "truth") (by decide +kernel)] at q1
              refine ⟨_, rfl, t, _, rfl, .inr ht1, rfl, _, rfl, ?_⟩
              by_cases hl : rest.length = 1
              · obtain ⟨r0, rfl⟩ := one_of hl
                obtain ⟨w0, rfl, g0⟩ := hrd1.one
                refine iteT' (decide_eq_true rfl) ⟨_, rfl, t, _, _, w0, rfl, rfl, ht1, atI_nat (j := 0) rfl, w0, r0, "bool", rfl, g0, by decide, ?_⟩
                have q2 := q1 _ (Same.refl _)
                have en : (decide (([r0] : List PyData).length = 1) && ((([r0] : List PyData)[0]?.map (leafB "truth")).getD false)) = isOfQ "bool" r0 := by
                  show (true && leafB "truth" r0) = _
                  have : leafB "truth" r0 = isB r0 := by unfold leafB; rw [if_neg (by decide +kernel), if_pos (by decide +kernel)]
                  rw [this, Bool.true_and]
                  cases r0 <;> rfl
                rw [en] at q2
                exact q2
              · rw [decide_eq_false hl, Bool.false_and] at q1
                exact iteF' (no1 (m := 1) hl) (q1 _ (Same.refl _))
            -- name, box
            refine ⟨_, rfl, (by show 2 ≤ sizeLine; decide), fun l3 hl3 => ?_⟩
            have s3 := Same.new (o := .lst [.str "name", .str "box"]) hl3
            refine ⟨l3, _, rfl, .inl (SqL.of upd_same), rfl, rfl, _, rfl, ?_⟩
            replace q1 : ∀ H', Same (upd H1 l3 (.lst [.str "name", .str "box"])) H' → Q (.bl (termB (.tuple (.str u :: rest)))) H' := fun H' s' => q1 H' (s3.trans s')
            replace hrd1 := hrd1.mono s3
            replace ht1 := sqT_mono s3 ht1
            have e3eq : (if (false : Bool) = true then !inV (.str u) [.str "name", .str "box"] else inV (.str u) [.str "name", .str "box"]) = (u == "name" || u == "box") := by
              show ((("name" : Str) == u) || ((("box" : Str) == u) || false)) = _
              rw [Bool.or_false, Bool.eq_iff_iff, Bool.or_eq_true, Bool.or_eq_true, beq_iff_eq, beq_iff_eq, beq_iff_eq, beq_iff_eq]
              exact ⟨fun h => h.elim (fun e => .inl e.symm) (fun e => .inr e.symm), fun h => h.elim (fun e => .inl e.symm) (fun e => .inr e.symm)⟩
            rw [e3eq]
            generalize upd H1 l3 (.lst [.str "name", .str "box"]) = H3 at *
            refine ite2 (fun e => ?_) (fun e3 => ?_)
            · have hu : u = "name" ∨ u = "box" := by
                rw [Bool.or_eq_true] at e
                exact e.elim (fun h => .inl (eq_of_beq h)) (fun h => .inr (eq_of_beq h))
              have hw : leafW u = true := by rcases hu with rfl | rfl <;> decide +kernel
              have hb : leafB u = nameB := by
                rcases hu with rfl | rfl <;> (funext d; unfold leafB; rw [if_neg (by decide +kernel), if_neg (by decide +kernel), if_neg (by decide +kernel)])
              rw [term_leaf hw, hb] at q1
              refine ⟨_, rfl, t, _, rfl, .inr ht1, rfl, _, rfl, ?_⟩
              by_cases hl : rest.length = 1
              · obtain ⟨r0, rfl⟩ := one_of hl
                obtain ⟨w0, rfl, g0⟩ := hrd1.one
                exact iteT' (decide_eq_true rfl) ⟨_, rfl, t, _, _, w0, rfl, rfl, ht1, atI_nat (j := 0) rfl, w0, r0, rfl, g0, hs1 (i := 0) rfl, fun H4 s4 => q1 H4 s4⟩
              · rw [decide_eq_false hl, Bool.false_and] at q1
                exact iteF' (no1 (m := 1) hl) (q1 _ (Same.refl _))
            -- empty
            refine ⟨_, rfl, rfl, _, rfl, ite2 (fun e => ?_) (fun e4 => ?_)⟩
            · have e' := eq_str e
              subst e'
              have hb : leafB "empty" = kindB := by funext d; unfold leafB; rw [if_neg (by decide +kernel), if_neg (by decide +kernel), if_pos (by decide +kernel)]
              rw [term_leaf (u := "empty") (by decide +kernel), hb] at q1
              refine ⟨_, rfl, t, _, rfl, .inr ht1, rfl, _, rfl, ?_⟩
              by_cases hl : rest.length = 1
              · obtain ⟨r0, rfl⟩ := one_of hl
                obtain ⟨w0, rfl, g0⟩ := hrd1.one
                exact iteT' (decide_eq_true rfl) ⟨_, rfl, t, _, _, w0, rfl, rfl, ht1, atI_nat (j := 0) rfl, w0, r0, rfl, g0, hs1 (i := 0) rfl, fun H4 s4 => q1 H4 s4⟩
              · rw [decide_eq_false hl, Bool.false_and] at q1
                exact iteF' (no1 (m := 1) hl) (q1 _ (Same.refl _))
            -- field
            refine ⟨_, rfl, rfl, _, rfl, ite2 (fun e => ?_) (fun e5 => ?_)⟩
            · have e' := eq_str e
              subst e'
              rw [term_field] at q1
              refine ⟨_, rfl, t, _, rfl, .inr ht1, rfl, _, rfl, ?_⟩
              by_cases hl : rest.length = 2
              · obtain ⟨r0, r1, rfl⟩ := two_of hl
                obtain ⟨w0, w1, rfl, g0, g1⟩ := hrd1.two
                refine iteT' (decide_eq_true rfl) ⟨_, rfl, t, _, _, w0, rfl, rfl, ht1, atI_nat (j := 0) rfl, w0, r0, rfl, g0, hs1 (i := 0) rfl, hd1 (i := 0) rfl, fun H4 s4 => ⟨_, rfl, ite2 (fun ec => ?_) (fun ec => ?_)⟩⟩
                · refine ⟨_, rfl, t, _, _, w1, rfl, rfl, sqT_mono s4 ht1, atI_nat (j := 1) rfl, w1, r1, rfl, g1.mono s4, hs1 (i := 1) rfl, fun H5 s5 => ?_⟩
                  have q2 := q1 H5 (s4.trans s5)
                  have : (decide (([r0, r1] : List PyData).length = 2) && ((([r0, r1] : List PyData)[0]?.map termB).getD false && (([r0, r1] : List PyData)[1]?.map nameB).getD false)) = nameB r1 := by
                    show (true && (termB r0 && nameB r1)) = _
                    rw [ec]
                    rfl
                  rw [this] at q2
                  exact q2
                · have q2 := q1 H4 s4
                  have : (decide (([r0, r1] : List PyData).length = 2) && ((([r0, r1] : List PyData)[0]?.map termB).getD false && (([r0, r1] : List PyData)[1]?.map nameB).getD false)) = false := by
                    show (true && (termB r0 && nameB r1)) = _
                    rw [eq_false_of_ne_true ec]
                    rfl
                  rw [this] at q2
                  exact q2
              · rw [decide_eq_false hl, Bool.false_and] at q1
                exact iteF' (no1 (m := 2) hl) (q1 _ (Same.refl _))
            have hlf : leafW u = false := by
              rw [Bool.eq_false_iff]
              intro hh
              unfold leafW inV at hh
              simp only [List.any_cons, List.any_nil, Bool.or_false, Bool.or_eq_true, eqV, beq_iff_eq] at hh
              rcases hh with h | h | h | h | h
              · exact e1 (decide_eq_true (by rw [← h]))
              · exact e2 (decide_eq_true (by rw [← h]))
              · exact e3 (by rw [← h]; decide +kernel)
              · exact e3 (by rw [← h]; decide +kernel)
              · exact e4 (decide_eq_true (by rw [← h]))
            have hff : (u == ("field" : Str)) = false := beq_no e5
            rw [term_rest hlf hff, wide_shaped hlf hff] at q1
            refine fun dw hdw => ⟨(by show 1 ≤ sizeLine; decide), fun l1 g1 => ⟨(by show 1 ≤ sizeLine; decide), fun l2 g2 => ⟨(by show 1 ≤ sizeLine; decide), fun l3 g3 => ⟨(by show 1 ≤ sizeLine; decide), fun l4 g4 => ⟨(by show 8 ≤ sizeLine; decide), fun l5 g5 => ?_⟩⟩⟩⟩⟩
            have y1 := Same.new (o := .lst [.int 1]) g1
            have y2 := Same.new (o := .lst [.int 1]) g2
            have y3 := Same.new (o := .lst [.int 3]) g3
            have y4 := Same.new (o := .lst [.int 3]) g4
            have y5 := Same.new (o := .lst [.int 1, .int 2, .int 3, .int 4, .int 5, .int 6, .int 7, .int 8]) g5
            have zd := y5 _ _ (y4 _ _ (y3 _ _ (y2 _ _ (y1 _ _ (upd_same (H := H3) (a := dw) (o := .dK []))))))
            have z1 := y5 _ _ (y4 _ _ (y3 _ _ (y2 _ _ (upd_same (a := l1) (o := .lst [.int 1])))))
            have z2 := y5 _ _ (y4 _ _ (y3 _ _ (upd_same (a := l2) (o := .lst [.int 1]))))
            have z3 := y5 _ _ (y4 _ _ (upd_same (a := l3) (o := .lst [.int 3])))
            have z4 := y5 _ _ (upd_same (a := l4) (o := .lst [.int 3]))
            have z5 := upd_same (H := (upd (upd (upd (upd (upd H3 dw (.dK [])) l1 (.lst [.int 1])) l2 (.lst [.int 1])) l3 (.lst [.int 3])) l4 (.lst [.int 3]))) (a := l5) (o := .lst [.int 1, .int 2, .int 3, .int 4, .int 5, .int 6, .int 7, .int 8])
            have s35 := (((((Same.new (o := .dK []) hdw).trans y1).trans y2).trans y3).trans y4).trans y5
            refine ⟨zd, [(.inr "not", .ref l1), (.inr "many", .ref l2), (.inr "pick", .ref l3), (.inr "at", .ref l4), (.inr "list", .ref l5)], rfl, (by show 5 ≤ 15; decide), ?_⟩
            rw [merge5]
            generalize upd (upd (upd (upd (upd (upd H3 dw (.dK [])) l1 (.lst [.int 1])) l2 (.lst [.int 1])) l3 (.lst [.int 3])) l4 (.lst [.int 3])) l5 (.lst [.int 1, .int 2, .int 3, .int 4, .int 5, .int 6, .int 7, .int 8]) = H4 at *
            clear y1 y2 y3 y4 y5 g1 g2 g3 g4 g5
            have stay : ∀ {H' : Hp} {kk : List (Key × V)}, Same H3 H' → Same H3 (upd H' dw (.dK kk)) := fun s b o hb => by
              rw [upd_ne (ne_some hb hdw)]
              exact s b o hb
            have W0 : WD H4 [(.inr "not", .ref l1), (.inr "many", .ref l2), (.inr "pick", .ref l3), (.inr "at", .ref l4), (.inr "list", .ref l5)] wides0 := .cons ⟨rfl, l1, rfl, z1⟩ (.cons ⟨rfl, l2, rfl, z2⟩ (.cons ⟨rfl, l3, rfl, z3⟩ (.cons ⟨rfl, l4, rfl, z4⟩ (.cons ⟨rfl, l5, rfl, z5⟩ .nil))))
            have lsts : ∀ {H' : Hp} {k1 k2 : List (Key × V)}, H' dw = some (.dK k1) → ∀ l xs, H' l = some (.lst xs) → upd H' dw (.dK k2) l = some (.lst xs) := fun hd l xs hl => by
              rw [upd_ne (ne_obj hl hd (fun e => nomatch e))]
              exact hl
            refine ⟨(by show 7 ≤ sizeLine; decide), fun ls hls => ⟨ls, rfl, ⟨_, SqL.of upd_same⟩, ?_⟩⟩
            refine for_list (K := K) (xs := seven.map V.str) (fun i σ H' => ∃ o2 kk, σ = [some (.ref a), some (.ref dw), o2, some (.str u), some (.ref t), none] ∧ H' dw = some (.dK kk) ∧ WD H' kk (wides0 ++ (seven.take i).map fun z => (z, [2])) ∧ H' ls = some (.lst (seven.map V.str)) ∧ Same H3 H')
              ⟨_, _, rfl, Same.new hls _ _ upd_same, ?_, upd_same, fun b o hb => Same.new hls _ _ (stay s35 b o hb)⟩ (fun i σ H' _ hW => ?_) (fun i x σ H' hx hW => ?_) (fun σ H' hW => ?_)
            · show WD _ _ (wides0 ++ [])
              rw [List.append_nil]
              exact W0.mono fun l xs hl => Same.new hls _ _ (lsts zd l xs hl)
            · obtain ⟨o2, kk, rfl, _, _, hl, _⟩ := hW
              exact SqL.of hl
            · obtain ⟨o2, kk, rfl, hkk, W, hl, sm⟩ := hW
              obtain ⟨z, hz, rfl⟩ : ∃ z, seven[i]? = some z ∧ x = .str z := by
                rw [List.getElem?_map] at hx
                cases c : seven[i]? with
                | none => rw [c] at hx; cases hx
                | some z => rw [c] at hx; exact ⟨z, rfl, (Option.some.inj hx).symm⟩
              have hi : i < 7 := (List.getElem?_eq_some_iff.mp hz).1
              have hno : (wides0 ++ (seven.take i).map fun z => (z, [2])).lookup z = none := seven_no i z hz
              have hlen := W.len
              refine ⟨(by show 1 ≤ sizeLine; decide), fun l2' g2 => ⟨_, rfl, _, rfl, dw, _, rfl, DPut.k (k := .inr z) (Same.new g2 _ _ hkk) ?_, ?_⟩⟩
              · rw [hlen, List.length_append, List.length_map, List.length_take, sizeLine_eq]
                have : wides0.length = 5 := rfl
                omega
              · have sg := Same.new (o := .lst [.int 2]) g2
                refine ⟨_, _, rfl, upd_same, ?_, lsts (sg _ _ hkk) _ _ (sg _ _ hl), stay (sm.trans sg)⟩
                rw [List.take_succ, hz, List.map_append, ← List.append_assoc]
                exact ((W.mono fun l xs hl => sg _ _ hl).snoc hno upd_same).mono fun l xs hl => lsts (sg _ _ hkk) l xs hl
            · obtain ⟨o2, kk, rfl, hkk, W, hl, sm⟩ := hW
              have hall : (wides0 ++ (seven.take (seven.map V.str).length).map fun z => (z, [2])) = widesAll := rfl
              rw [hall] at W
              refine ⟨_, rfl, t, _, rfl, .inr (sqT_mono sm ht1), _, rfl, dw, rfl, .inl ⟨_, .inl hkk⟩, _, rfl, (by show 0 ≤ sizeLine; decide), fun l0 g0 => ?_⟩
              have sg := Same.new (o := .lst []) g0
              have W2 := W.mono fun l xs hl => sg _ _ hl
              obtain ⟨lw, ns, hget, hns⟩ : ∃ (lw : Addr) (ns : List Int), ((valV kk (Sum.inr u)).getD (.ref l0)) = .ref lw ∧ (upd H' l0 (.lst [])) lw = some (.lst (ns.map V.int)) ∧ ns = (widesAll.lookup u).getD [] := by
                rcases W2.get u with ⟨l, ns, e1, e2, e3⟩ | ⟨e1, e2⟩
                · exact ⟨l, ns, by rw [e1]; rfl, e3, by rw [e2]; rfl⟩
                · exact ⟨l0, [], by rw [e1]; rfl, upd_same, by rw [e2]; rfl⟩
              obtain ⟨hns, rfl⟩ := hns
              have sA := sm.trans sg
              refine ⟨_, DGet.k (k := Sum.inr u) (sg _ _ hkk), ?_⟩
              rw [hget]
              have hfl : ∀ ns : List Int, (ns.map V.int).all flatV = true := fun ns => by
                rw [List.all_map, List.all_eq_true]
                exact fun _ _ => rfl
              refine ⟨lw, _, rfl, .inl (SqL.of hns), rfl, hfl _, ?_⟩
              have ein : (if (false : Bool) = true then !inV (.int ((vr.length : Nat) : Int)) (((widesAll.lookup u).getD []).map V.int) else inV (.int ((vr.length : Nat) : Int)) (((widesAll.lookup u).getD []).map V.int)) = inV (.int ((rest.length : Nat) : Int)) (((widesAll.lookup u).getD []).map V.int) := by
                rw [hvr]
                rfl
              rw [ein]
              refine ⟨_, rfl, ite2 (fun ec => ?_) (fun ec => ?_)⟩
              · rw [ec, Bool.true_and] at q1
                refine ⟨_, rfl, t, rfl, ⟨_, sqT_mono sA ht1⟩, ?_⟩
                refine lcB (K := K) termB (sqT_mono sA ht1) (hrd1.mono sA) (by have := hs.len; rw [List.length_cons] at this; omega) (fun i x d H' Q' e hx sm2 hQ => ?_) (fun Dl H2 _ hat sm2 => ?_)
                · exact ⟨_, rfl, x, d, rfl, hx, hs1 e, hd1 e, hQ⟩
                · refine ⟨Dl, _, rfl, SqL.of hat, ?_⟩
                  rw [all_id]
                  exact q1 _ (sA.trans sm2)
              · rw [eq_false_of_ne_true ec, Bool.false_and] at q1
                exact q1 _ sA
          | _ =>
            have hf : Q (V.bl false) H := by
              rw [termB_eq] at q0
              simpa [shapedB] using q0
            exact iteT hf
      | _ => exact iteT q0
end
end K25
set_option Elab.async false
set_option linter.all false
set_option maxRecDepth 100000
set_option maxHeartbeats 4000000
namespace K25
open PySem PySem.Spec PyProof.Rows L2 KD
open C8 (Cal Def cal0 pe_c fnBody fnScope fnArgs)
/-! ### names in order, each once -/
theorem cps_inj {y z : Str} (e : y.cps.toList = z.cps.toList) : y = z := by
  have e2 : y.cps = z.cps := Array.toList_inj.mp e
  cases y
  cases z
  exact congrArg _ e2
theorem rises_pw : ∀ {zs : List Str}, rises zs = true → zs.Pairwise fun a b => a.cps.toList < b.cps.toList
  | [], _ => .nil
  | [a], _ => List.pairwise_singleton _ _
  | a :: b :: r, h => by
    have h' : (ltS a b && rises (b :: r)) = true := h
    rw [Bool.and_eq_true] at h'
    have ih := rises_pw h'.2
    have h1 : a.cps.toList < b.cps.toList := of_decide_eq_true h'.1
    refine List.pairwise_cons.mpr ⟨fun c hc => ?_, ih⟩
    rcases List.mem_cons.mp hc with rfl | hc
    · exact h1
    · exact List.lt_trans h1 ((List.pairwise_cons.mp ih).1 c hc)
theorem pw_rises : ∀ {zs : List Str}, (zs.Pairwise fun a b => a.cps.toList < b.cps.toList) → rises zs = true
  | [], _ => rfl
  | [a], _ => rfl
  | a :: b :: r, h => by
    obtain ⟨h1, h2⟩ := List.pairwise_cons.mp h
    show (ltS a b && rises (b :: r)) = true
    rw [pw_rises h2, Bool.and_true]
    exact decide_eq_true (h1 b List.mem_cons_self)
theorem rises_sorted {zs ys : List Str} (pm : ys.Perm (dd zs)) (so : sortedS ys = true) : rises zs = decide (zs = ys) := by
  rw [Bool.eq_iff_iff, decide_eq_true_eq]
  constructor
  · intro h
    have pw := rises_pw h
    have nd : zs.Nodup := pw.imp fun {a b} hab e => by rw [e] at hab; exact List.lt_irrefl _ hab
    have sz : sortedS zs = true := sortedS_of_pairwise _ (pw.imp fun {a b} hab => by
      rw [ltCps_eq, decide_eq_false_iff_not]
      exact List.lt_asymm hab)
    have p2 : (dd zs).Perm zs := (List.perm_ext_iff_of_nodup (dd_nodup zs [] List.nodup_nil) nd).mpr fun k => by
      show k ∈ zs.foldl more [] ↔ k ∈ zs
      rw [dd_mem]
      exact ⟨fun h => h.elim (fun c => nomatch c) id, .inr⟩
    exact (sortedS_uniq ys zs (pm.trans p2) so sz).symm
  · rintro rfl
    have nd : zs.Nodup := pm.nodup_iff.mpr (dd_nodup zs [] List.nodup_nil)
    refine pw_rises ?_
    have pw := sortedS_pw zs so
    exact (pw.and nd).imp fun {a b} hab => by
      rcases Decidable.em (a.cps.toList < b.cps.toList) with h | h
      · exact h
      · exact absurd (cps_inj (List.le_antisymm hab.1 (List.not_lt.mp h))) hab.2
theorem eqv_strs : ∀ zs ys : List Str, PyData.eqvAll (zs.map PyData.str) (ys.map PyData.str) = decide (zs = ys)
  | [], [] => by simp [PyData.eqvAll]
  | [], _ :: _ => by simp [PyData.eqvAll]
  | _ :: _, [] => by simp [PyData.eqvAll]
  | a :: zs, b :: ys => by
    rw [List.map_cons, List.map_cons, PyData.eqvAll, eqv_strs zs ys]
    have : PyData.eqv (.str a) (.str b) = decide (a = b) := by
      simp only [PyData.eqv]
      rw [Bool.eq_iff_iff, decide_eq_true_eq, beq_iff_eq]
    rw [this, Bool.eq_iff_iff]
    simp
theorem name_len {z : Str} (h : nameS z = true) : 1 ≤ z.length ∧ z.length ≤ 8 := by
  unfold nameS at h
  simp only [Bool.and_eq_true, decide_eq_true_eq] at h
  exact h.1
theorem name_asc {z : Str} (h : nameS z = true) : ∀ c ∈ z.cps.toList, c < 128 := fun c hc => by
  unfold nameS at h
  simp only [Bool.and_eq_true] at h
  exact low128 (List.all_eq_true.mp h.2.1 c hc)
theorem name_lay {z : Str} (h : nameS z = true) : (PyData.str z).canLay0 = true := by
  simp only [PyData.canLay0, PyData.strOk]
  rw [← Array.all_toList, List.all_eq_true]
  intro c hc
  have := name_asc h c hc
  exact decide_eq_true (by omega)
theorem strs_lay : ∀ {zs : List Str}, (∀ z ∈ zs, nameS z = true) → PyData.canLayAll0 (zs.map PyData.str) = true
  | [], _ => by simp [PyData.canLayAll0]
  | z :: zs, h => by simp [PyData.canLayAll0, name_lay (h z List.mem_cons_self), strs_lay fun y hy => h y (List.mem_cons_of_mem _ hy)]
theorem strs_depth : ∀ zs : List Str, PyData.depthAll (zs.map PyData.str) = 0
  | [] => by simp [PyData.depthAll]
  | z :: zs => by simp [PyData.depthAll, PyData.depth, strs_depth zs]
theorem shaped_of {d : PyData} (h : d.canLay0 = true) (n : d.depth ≤ 64) : SeqAt.shaped d = true := by
  unfold SeqAt.shaped
  rw [h, Bool.true_and]
  exact decide_eq_true n
theorem strs_shaped {zs : List Str} (h : ∀ z ∈ zs, nameS z = true) : SeqAt.shaped (.list (zs.map PyData.str)) = true :=
  shaped_of (by simp only [PyData.canLay0]; exact strs_lay h) (by simp only [PyData.depth, strs_depth]; decide)
theorem strs_dp {K : PySem.W.Frag} {H : Hp} : ∀ zs : List Str, DpAll K H (zs.map V.str) (zs.map PyData.str)
  | [] => .nil
  | z :: zs => .cons (.str z) (strs_dp zs)
/-! tuples and lists are not wide -/
mutual
def slim : PyData → Bool
  | .list xs => decide (xs.length ≤ 60) && slimAll xs
  | .tuple xs => decide (xs.length ≤ 60) && slimAll xs
  | _ => true
def slimAll : List PyData → Bool
  | [] => true
  | x :: xs => slim x && slimAll xs
end
theorem slim_at {ds : List PyData} (h : slim (.tuple ds) = true) : ds.length ≤ 60 ∧ ∀ {i : Nat} {d : PyData}, ds[i]? = some d → slim d = true := by
  have h' : ds.length ≤ 60 ∧ slimAll ds = true := by simpa [slim] using h
  refine ⟨h'.1, ?_⟩
  have h2 := h'.2
  clear h h'
  induction ds with
  | nil => intro i d e; simp at e
  | cons x xs ih =>
    have h3 : slim x = true ∧ slimAll xs = true := by simpa [slimAll] using h2
    intro i d e
    cases i with
    | zero => simp at e; rw [← e]; exact h3.1
    | succ i => exact ih h3.2 (by simpa using e)
section
variable {P : Program} {w : World} {K : PySem.W.Frag} {mg : Str → Option Value} {base : Heap}
abbrev sLIsFields : Stmt := topS 48
abbrev NLIsFields : List Str := ["_law_thing", "_law_pair", "_law_names_here", "_law_name_here", "_law_term_here"]
theorem scLIsFields : FnScope NLIsFields ["_law_thing"] (fnScope sLIsFields) := ⟨rfl, rfl, rfl, by decide +kernel, rfl, by decide +kernel, by decide +kernel⟩
def spF (K : PySem.W.Frag) (g : PyData → Bool) (n : Nat) : Sp := fun vs H Q _ => ∃ v d, vs = [v] ∧ Dq K H v d ∧ Sml d ∧ slim d = true ∧ d.depth < n ∧ ∀ H', Same H H' → Q (.bl (g d)) H'
def fpB : PyData → Bool := fun d => namedPairB d && secondB termB d
theorem fields_bad {ds : List PyData} {i : Nat} {d : PyData} (e : ds[i]? = some d) (h : fpB d = false) : fieldsB (.tuple ds) = false := by
  have hm := List.mem_of_getElem? e
  unfold fpB at h
  unfold fieldsB
  cases h1 : namedPairB d with
  | false =>
    have : namedB (.tuple ds) = false := by
      show ds.all namedPairB = false
      rw [List.all_eq_false]
      exact ⟨d, hm, by rw [h1]; decide⟩
    rw [this, Bool.false_and]
  | true =>
    rw [h1, Bool.true_and] at h
    have : allB (secondB termB) (.tuple ds) = false := by
      show ds.all (secondB termB) = false
      rw [List.all_eq_false]
      exact ⟨d, hm, by rw [h]; decide⟩
    rw [this, Bool.and_false, Bool.and_false]
theorem c_lisFields (T : Tp mg) {N : Nat} (c_LIsName : Cal P w K mg base 1 "_law_is_name" (spW K nameB) []) (c_LIsTerm : Cal P w K mg base (3 + N) "_law_is_term" (spL K termB N) []) {f : Addr} {fd : FuncData} (D : Def K mg "_law_is_fields" sLIsFields f fd) (b : Binds K fd ["_law_thing"] []) :
    Cal P w K mg base (4 + N) "_law_is_fields" (spF K fieldsB (N + 2)) [] := by
  have e4 : 4 + N = (3 + N) + 1 := by omega
  rw [e4]
  refine cal0 D b .nil scLIsFields (fun vs H Q E h => ?_) (fun cdv A outer s H vs Q E hr h => ?_)
  · obtain ⟨v, d, rfl, _⟩ := h
    rfl
  · obtain ⟨v, d, rfl, hd, hs, hsl, hdep, q⟩ := h
    have nd := scLIsFields.nd
    refine ⟨_, (pss_cons (ps_if (pt_not (pt_val (pe_callB call_isQ (by rfl) T.n_isinstance (by decide +kernel) (pa_cons (pv 0) (pa_cons (pe_bltn (v := .ty "tuple") (by rfl) T.n_tuple (by decide +kernel) rfl) pa_nil)))))
      (pss_one (ps_ret pe_bl))
      pss_nil)
    (pss_cons (ps_for PassesOwn.never rfl (pi_tup (pv 0)) (pg_name (i := 1) nd rfl (.inl rfl))
      (pss_one (ps_if (PW.pt (pw_or (pt_not (pt_val (pe_callB call_isQ (by rfl) T.n_isinstance (by decide +kernel) (pa_cons (pv 1) (pa_cons (pe_bltn (v := .ty "tuple") (by rfl) T.n_tuple (by decide +kernel) rfl) pa_nil))))) (pw_or (pt_cmpR op_ne (pe_callB call_len_seq (by rfl) T.n_len (by decide +kernel) (pa_cons (pv 1) pa_nil)) pe_int (nomark _)) (pw_or (pt_not (pt_val (pe_c c_LIsName hr (by omega) (by rfl) (pa_cons (pe_ix ix_tup (pv 1) pe_int (fun _ _ => rfl)) pa_nil)))) (pw_or1 (pt_not (pt_val (pe_c c_LIsTerm hr (Nat.le_refl _) (by rfl) (pa_cons (pe_ix ix_tup (pv 1) pe_int (fun _ _ => rfl)) pa_nil)))))))))
      (pss_one (ps_ret pe_bl))
      pss_nil)))
    (pss_cons (ps_setLc (i := 2) (own := [("_law_name_here", 3), ("_law_term_here", 4)]) (g := gTup K 2 (gCons (gName 3) (gCons (gName 4) gNil))) rfl nd rfl rfl (sw_true rfl rfl rfl (by decide +kernel)) (pi_tup (pv 0)) (blkOk_by (own := [("_law_name_here", 3), ("_law_term_here", 4)]) (N := NLIsFields) (sc := fnScope sLIsFields) (by decide +kernel)) (fun _ _ _ _ _ => (pg_tup (n := 2) rfl (pgs_cons (pg_name (i := 3) nd rfl (Or.inl rfl)) (pgs_cons (pg_name (i := 4) nd rfl (Or.inl rfl)) pgs_nil)))) (fun _ _ _ _ _ => pts_nil) (fun _ _ _ _ _ => (pv 3)))
    (pss_one (ps_ret (pe_cmpR (op_eqD hr.units) (pv 2) (pe_callB (cr_sortedX rfl) (by rfl) T.n_sorted (by decide +kernel) (pa_cons (pe_callTy (cr_setS rfl) (by rfl) T.n_set (by decide +kernel) (pa_cons (pv 2) pa_nil)) pa_nil)) (nomark _))))))), ?_⟩
    have q0 := q H (Same.refl H)
    refine ⟨_, rfl, v, d, "tuple", rfl, hd, by decide, _, rfl, ?_⟩
    cases hd with
    | @tup a xs ds hq ha =>
      have hlen := ha.len
      have h60 := (slim_at hsl).1
      refine iteF ⟨_, rfl, a, rfl, ⟨xs, hq⟩, ?_⟩
      refine for_tup (K := K) (xs := xs) (fun i σ H' => (∃ o1, σ = [some (.ref a), o1, none, none, none]) ∧ Same H H' ∧ (ds.take i).all fpB = true) ⟨⟨_, rfl⟩, Same.refl H, rfl⟩ (fun i σ H' _ hW => sqT_mono hW.2.1 hq) (fun i x σ H' hx hW => ?_) (fun σ H' hW => ?_)
      · obtain ⟨⟨o1, rfl⟩, sm, hall⟩ := hW
        obtain ⟨d, hd, hdx⟩ := ha.at hx
        have hsd := hs.at hd
        have hdd := depth_at hd
        have good : fpB d = true → (ds.take (i + 1)).all fpB = true := fun h => by
          rw [List.take_succ, hd, List.all_append, hall]
          show (true && (fpB d && true)) = true
          rw [h]
          rfl
        have badq : fpB d = false → ∀ H'', Same H H'' → Q (.bl false) H'' := fun h H'' s'' => by
          have := q H'' s''
          rw [fields_bad hd h] at this
          exact this
        have hdx' := hdx.mono sm
        refine ⟨_, rfl, x, d, "tuple", rfl, hdx', by decide, _, rfl, ?_⟩
        cases hdx' with
        | @tup t ys es hqt hat =>
          have hl2 := hat.len
          refine iteF ⟨_, rfl, t, ys, rfl, .inr hqt, rfl, _, rfl, ite2 (fun e => ?_) (fun e => ?_)⟩
          · refine badq ?_ _ sm
            have ne : es.length ≠ 2 := fun h => by
              have h2 : V.int ((ys.length : Nat) : Int) = V.int 2 := congrArg V.int (by omega)
              rw [decide_eq_true h2] at e
              exact absurd e (by decide)
            have : namedPairB (.tuple es) = false := by
              unfold namedPairB
              split
              · rename_i h
                cases h
                exact absurd rfl ne
              · rfl
            unfold fpB
            rw [this, Bool.false_and]
          · have e2 : es.length = 2 := by
              have h2 : decide (V.int ((ys.length : Nat) : Int) = V.int 2) = true := by simpa using e
              have := V.int.inj (of_decide_eq_true h2)
              omega
            obtain ⟨y0, y1, rfl⟩ := two_of e2
            obtain ⟨u0, u1, rfl, g0, g1⟩ := hat.two
            refine ⟨_, rfl, t, _, _, u0, rfl, rfl, hqt, atI_nat (j := 0) rfl, u0, y0, rfl, g0, hsd.at (i := 0) rfl, fun H2 s2 => ⟨_, rfl, ite2 (fun en => ?_) (fun en => ?_)⟩⟩
            · refine badq ?_ _ (sm.trans s2)
              have en' : nameB y0 = false := by simpa using en
              show (nameB y0 && _) = false
              rw [en', Bool.false_and]
            · have en' : nameB y0 = true := by simpa using en
              have hd1 := depth_at (ds := [y0, y1]) (i := 1) (d := y1) rfl
              refine ⟨_, rfl, t, _, _, u1, rfl, rfl, sqT_mono s2 hqt, atI_nat (j := 1) rfl, u1, y1, rfl, g1.mono s2, hsd.at (i := 1) rfl, by omega, fun H3 s3 => ⟨_, rfl, ite2 (fun et => ?_) (fun et => ?_)⟩⟩
              · refine badq ?_ _ ((sm.trans s2).trans s3)
                have et' : termB y1 = false := by simpa using et
                show (_ && termB y1) = false
                rw [et', Bool.and_false]
              · have et' : termB y1 = true := by simpa using et
                refine ⟨⟨_, rfl⟩, (sm.trans s2).trans s3, good ?_⟩
                show (nameB y0 && termB y1) = true
                rw [en', et']
                rfl
        | _ => exact iteT (badq rfl _ sm)
      · obtain ⟨⟨o1, rfl⟩, sm, hall⟩ := hW
        rw [hlen, List.take_of_length_le (Nat.le_refl _)] at hall
        have np : ∀ {i : Nat} {d : PyData}, ds[i]? = some d → ∃ z y, d = .tuple [.str z, y] ∧ nameS z = true := fun {i d} e => by
          have h := List.all_eq_true.mp hall d (List.mem_of_getElem? e)
          unfold fpB at h
          rw [Bool.and_eq_true] at h
          exact namedPair_of h.1
        have hnames : ∀ z ∈ ds.map firstS, nameS z = true := fun z hz => by
          obtain ⟨d, hd, rfl⟩ := List.mem_map.mp hz
          obtain ⟨i, hi⟩ := List.getElem?_of_mem hd
          obtain ⟨z, y, rfl, h⟩ := np hi
          exact h
        refine ⟨_, rfl, a, rfl, ⟨xs, sqT_mono sm hq⟩, fun Dl hDl => ?_⟩
        refine lc_tup (K := K) (a := a) (xs := xs) (fun i H2 => H2 Dl = some (.lst (((ds.take i).map firstS).map V.str)) ∧ Same H' H2)
          ⟨upd_same, Same.new hDl⟩ (fun i H2 _ hW => sqT_mono (sm.trans hW.2) hq) (fun i x H2 hx hW => ?_) (fun H2 hW => ?_)
        · obtain ⟨hat, sm2⟩ := hW
          obtain ⟨d, hd, hdx⟩ := ha.at hx
          obtain ⟨z, y, rfl, hz⟩ := np hd
          have hdx' := hdx.mono (sm.trans sm2)
          cases hdx' with
          | @tup t ys es hqt hat2 =>
            obtain ⟨u0, u1, rfl, g0, g1⟩ := hat2.two
            cases g0
            refine ⟨t, _, rfl, hqt, rfl, _, _, rfl, _, _, rfl, rfl, rfl, ?_⟩
            unfold tYes; dsimp only
            rw [if_pos rfl]
            refine ⟨_, rfl, _, hat, ?_, ?_, fun b o hb => ?_⟩
            · rw [List.length_map, List.length_map, List.length_take, sizeLine_eq]
              omega
            · rw [List.take_succ, hd, List.map_append, List.map_append]
              exact upd_same
            · rw [upd_ne (ne_some hb hDl)]
              exact sm2 _ _ hb
        · obtain ⟨hat, sm2⟩ := hW
          rw [hlen, List.take_of_length_le (Nat.le_refl _)] at hat
          have zl : (ds.map firstS).length = ds.length := List.length_map ..
          refine ⟨_, rfl, _, rfl, Dl, ds.map firstS, rfl, SqL.of hat, by omega, fun aS haS => ?_⟩
          have hdl := dd_len (ds.map firstS) []
          have hdl' : (dd (ds.map firstS)).length ≤ (ds.map firstS).length := by
            simp only [List.length_nil] at hdl
            show ((ds.map firstS).foldl more []).length ≤ _
            omega
          refine ⟨aS, dd (ds.map firstS), rfl, upd_same, by omega, fun ys l pm so hl2 => ?_⟩
          have hys : ∀ y ∈ ys, nameS y = true := fun y hy => ((dd_mem (ds.map firstS) [] y).mp (pm.mem_iff.mp hy)).elim (fun c => nomatch c) (hnames y)
          refine ⟨.list ((ds.map firstS).map PyData.str), .list (ys.map PyData.str), .lst (SqL.of (Same.new hl2 _ _ (Same.new haS _ _ hat))) (strs_dp _), .lst (SqL.of upd_same) (strs_dp _), strs_shaped hnames, strs_shaped hys, ?_⟩
          have e : PyData.eqv (.list ((ds.map firstS).map PyData.str)) (.list (ys.map PyData.str)) = fieldsB (.tuple ds) := by
            rw [PyData.eqv, eqv_strs, ← rises_sorted pm so]
            unfold fieldsB
            have h1 : namedB (.tuple ds) = true := by
              show ds.all namedPairB = true
              rw [List.all_eq_true]
              intro d hd
              have h := List.all_eq_true.mp hall d hd
              unfold fpB at h
              rw [Bool.and_eq_true] at h
              exact h.1
            have h2 : allB (secondB termB) (.tuple ds) = true := by
              show ds.all (secondB termB) = true
              rw [List.all_eq_true]
              intro d hd
              have h := List.all_eq_true.mp hall d hd
              unfold fpB at h
              rw [Bool.and_eq_true] at h
              exact h.2
            rw [h1, h2, Bool.and_true, Bool.true_and]
            rfl
          rw [e]
          exact q _ (((sm.trans sm2).trans (Same.new haS)).trans (Same.new hl2))
    | _ => exact iteT q0
end
end K25
set_option Elab.async false
set_option linter.all false
set_option maxRecDepth 100000
set_option maxHeartbeats 4000000
namespace K25
open PySem PySem.Spec PyProof.Rows L2 KD
open C8 (Cal Def cal0 pe_c fnBody fnScope fnArgs)
theorem not_refl {v : V} : (!decide (v = v)) = false := by rw [decide_eq_true rfl]; rfl
theorem fitN : fitsB "name" = nameB := by funext d; exact fits_name
theorem fitT : fitsB "term" = termB := by unfold fitsB; rw [if_neg (by decide +kernel), if_pos (by decide +kernel)]
theorem fitC : fitsB "count" = countB := by unfold fitsB; rw [if_neg (by decide +kernel), if_neg (by decide +kernel), if_pos (by decide +kernel)]
theorem fitTs : fitsB "terms" = allB termB := by unfold fitsB; rw [if_neg (by decide +kernel), if_neg (by decide +kernel), if_neg (by decide +kernel), if_pos (by decide +kernel)]
theorem fitF : fitsB "fields" = fieldsB := fits_else (by decide +kernel) (by decide +kernel) (by decide +kernel) (by decide +kernel)
theorem rowB_at {u : Str} {f : List Str} {rest : List PyData} (h : forms.lookup u = some f) : rowB (.tuple (.str u :: rest)) = (decide (rest.length = f.length) && (f.zip rest).all fun q => fitsB q.1 q.2) := by
  show (match forms.lookup u with | some f => _ | none => _) = _
  rw [h]
theorem rowB_no {u : Str} {rest : List PyData} (h : forms.lookup u = none) : rowB (.tuple (.str u :: rest)) = false := by
  show (match forms.lookup u with | some f => _ | none => _) = _
  rw [h]
theorem row_len {u : Str} {f : List Str} {rest : List PyData} (h : forms.lookup u = some f) (hl : rest.length ≠ f.length) : rowB (.tuple (.str u :: rest)) = false := by
  rw [rowB_at h, decide_eq_false hl, Bool.false_and]
theorem row1 {u a : Str} {x : PyData} (h : forms.lookup u = some [a]) : rowB (.tuple [.str u, x]) = fitsB a x := by
  rw [rowB_at h]
  show (true && (fitsB a x && true)) = _
  rw [Bool.true_and, Bool.and_true]
theorem row2 {u a b : Str} {x y : PyData} (h : forms.lookup u = some [a, b]) : rowB (.tuple [.str u, x, y]) = (fitsB a x && fitsB b y) := by
  rw [rowB_at h]
  show (true && (fitsB a x && (fitsB b y && true))) = _
  rw [Bool.true_and, Bool.and_true]
theorem row3 {u a b c : Str} {x y z : PyData} (h : forms.lookup u = some [a, b, c]) : rowB (.tuple [.str u, x, y, z]) = (fitsB a x && (fitsB b y && fitsB c z)) := by
  rw [rowB_at h]
  show (true && (fitsB a x && (fitsB b y && (fitsB c z && true)))) = _
  rw [Bool.true_and, Bool.and_true]
theorem forms_two {u : Str} {f : List Str} (h : forms.lookup u = some f) : f.length ≠ 0 := by
  have : ∀ p ∈ forms, p.2.length ≠ 0 := by decide +kernel
  have key : ∀ (l : List (Str × List Str)), (∀ p ∈ l, p.2.length ≠ 0) → l.lookup u = some f → f.length ≠ 0 := by
    intro l
    induction l with
    | nil => intro _ e; cases e
    | cons p l ih =>
      intro hp e
      obtain ⟨y, g⟩ := p
      rw [List.lookup_cons] at e
      cases hz : (u == y) with
      | true => rw [hz] at e; cases e; exact hp _ List.mem_cons_self
      | false => rw [hz] at e; exact ih (fun q hq => hp q (List.mem_cons_of_mem _ hq)) e
  exact key forms this h
theorem three_of {α : Type} {l : List α} (h : l.length = 3) : ∃ x y z, l = [x, y, z] := by
  match l, h with
  | [x, y, z], _ => exact ⟨x, y, z, rfl⟩
theorem _root_.L2.DqAll.three {K : PySem.W.Frag} {H : Hp} {xs : List V} {x y z : PyData} (h : DqAll K H xs [x, y, z]) : ∃ u v w, xs = [u, v, w] ∧ Dq K H u x ∧ Dq K H v y ∧ Dq K H w z := by
  cases h with
  | cons a t => cases t with
    | cons b t => cases t with
      | cons c t => cases t; exact ⟨_, _, _, rfl, a, b, c⟩
theorem inV2 {u a b : Str} : inV (.str u) [.str a, .str b] = (u == a || u == b) := by
  show ((a == u) || ((b == u) || false)) = _
  rw [Bool.or_false, Bool.eq_iff_iff, Bool.or_eq_true, Bool.or_eq_true, beq_iff_eq, beq_iff_eq, beq_iff_eq, beq_iff_eq]
  exact ⟨fun h => h.elim (fun e => .inl e.symm) (fun e => .inr e.symm), fun h => h.elim (fun e => .inl e.symm) (fun e => .inr e.symm)⟩
section
variable {P : Program} {w : World} {K : PySem.W.Frag} {mg : Str → Option Value} {base : Heap}
abbrev sLIsRow : Stmt := topS 49
abbrev NLIsRow : List Str := ["_law_thing", "_law_word", "_law_more", "_law_term_here"]
theorem scLIsRow : FnScope NLIsRow ["_law_thing"] (fnScope sLIsRow) := ⟨rfl, rfl, rfl, by decide +kernel, rfl, by decide +kernel, by decide +kernel⟩
theorem c_lisRow (T : Tp mg) {N : Nat} (c_LIsName : Cal P w K mg base 1 "_law_is_name" (spW K nameB) []) (c_LIsWhole : Cal P w K mg base 1 "_law_is_whole" (spW K countB) []) (c_LIsTerm : Cal P w K mg base (3 + N) "_law_is_term" (spL K termB N) []) (c_LIsFields : Cal P w K mg base (4 + N) "_law_is_fields" (spF K fieldsB (N + 2)) [])
    {f : Addr} {fd : FuncData} (D : Def K mg "_law_is_row" sLIsRow f fd) (b : Binds K fd ["_law_thing"] []) : Cal P w K mg base (5 + N) "_law_is_row" (spF K rowB N) [] := by
  have e5 : 5 + N = (4 + N) + 1 := by omega
  rw [e5]
  refine cal0 D b .nil scLIsRow (fun vs H Q E h => ?_) (fun cdv A outer s H vs Q E hr h => ?_)
  · obtain ⟨v, d, rfl, _⟩ := h
    rfl
  · obtain ⟨v, d, rfl, hd, hs, hsl, hdep, q⟩ := h
    have nd := scLIsRow.nd
    refine ⟨_, (pss_cons (ps_if (PW.pt (pw_or (pt_not (pt_val (pe_callB call_isQ (by rfl) T.n_isinstance (by decide +kernel) (pa_cons (pv 0) (pa_cons (pe_bltn (v := .ty "tuple") (by rfl) T.n_tuple (by decide +kernel) rfl) pa_nil))))) (pw_or (pt_cmpR op_lt (pe_callB call_len_seq (by rfl) T.n_len (by decide +kernel) (pa_cons (pv 0) pa_nil)) pe_int (nomark _)) (pw_or1 (pt_not (pt_val (pe_callB call_isQ (by rfl) T.n_isinstance (by decide +kernel) (pa_cons (pe_ix ix_tup (pv 0) pe_int (fun _ _ => rfl)) (pa_cons (pe_bltn (v := .ty "str") (by rfl) T.n_str (by decide +kernel) rfl) pa_nil)))))))))
      (pss_one (ps_ret pe_bl))
      pss_nil)
    (pss_cons (ps_par (i := 1) (j := 2) rfl nd rfl rfl (by decide) rfl rfl (pa_cons (pe_ix ix_tup (pv 0) pe_int (fun _ _ => rfl)) (pa_cons (pe_slice sl_tup (pv 0) (po_some pe_int) po_none) pa_nil)) (by rfl))
    (pss_cons (ps_if (pt_cmpR op_in_seq (pv 1) (pe_lst (pa_cons pe_str (pa_cons pe_str pa_nil))) (by rfl))
      (pss_one (ps_ret (pe_and (pe_cmpR op_eq (pe_callB call_len_seq (by rfl) T.n_len (by decide +kernel) (pa_cons (pv 2) pa_nil)) pe_int (nomark _)) (pe_and (pe_c c_LIsName hr (by omega) (by rfl) (pa_cons (pe_ix ix_tup (pv 2) pe_int (fun _ _ => rfl)) pa_nil)) (pe_one (pe_c c_LIsTerm hr (by omega) (by rfl) (pa_cons (pe_ix ix_tup (pv 2) pe_int (fun _ _ => rfl)) pa_nil)))))))
      pss_nil)
    (pss_cons (ps_if (pt_cmpR op_eq (pv 1) pe_str (nomark _))
      (pss_one (ps_ret (pe_and (pe_cmpR op_eq (pe_callB call_len_seq (by rfl) T.n_len (by decide +kernel) (pa_cons (pv 2) pa_nil)) pe_int (nomark _)) (pe_and (pe_c c_LIsTerm hr (by omega) (by rfl) (pa_cons (pe_ix ix_tup (pv 2) pe_int (fun _ _ => rfl)) pa_nil)) (pe_and (pe_c c_LIsName hr (by omega) (by rfl) (pa_cons (pe_ix ix_tup (pv 2) pe_int (fun _ _ => rfl)) pa_nil)) (pe_one (pe_c c_LIsTerm hr (by omega) (by rfl) (pa_cons (pe_ix ix_tup (pv 2) pe_int (fun _ _ => rfl)) pa_nil))))))))
      pss_nil)
    (pss_cons (ps_if (pt_cmpR op_eq (pv 1) pe_str (nomark _))
      (pss_one (ps_ret (pe_and (pe_cmpR op_eq (pe_callB call_len_seq (by rfl) T.n_len (by decide +kernel) (pa_cons (pv 2) pa_nil)) pe_int (nomark _)) (pe_and (pe_c c_LIsName hr (by omega) (by rfl) (pa_cons (pe_ix ix_tup (pv 2) pe_int (fun _ _ => rfl)) pa_nil)) (pe_and (pe_c c_LIsName hr (by omega) (by rfl) (pa_cons (pe_ix ix_tup (pv 2) pe_int (fun _ _ => rfl)) pa_nil)) (pe_one (pe_c c_LIsFields hr (by omega) (by rfl) (pa_cons (pe_ix ix_tup (pv 2) pe_int (fun _ _ => rfl)) pa_nil))))))))
      pss_nil)
    (pss_cons (ps_if (pt_cmpR op_eq (pv 1) pe_str (nomark _))
      (pss_cons (ps_if (PW.pt (pw_or (pt_cmpR op_ne (pe_callB call_len_seq (by rfl) T.n_len (by decide +kernel) (pa_cons (pv 2) pa_nil)) pe_int (nomark _)) (pw_or (pt_not (pt_val (pe_c c_LIsName hr (by omega) (by rfl) (pa_cons (pe_ix ix_tup (pv 2) pe_int (fun _ _ => rfl)) pa_nil)))) (pw_or1 (pt_not (pt_val (pe_c c_LIsName hr (by omega) (by rfl) (pa_cons (pe_ix ix_tup (pv 2) pe_int (fun _ _ => rfl)) pa_nil))))))))
      (pss_one (ps_ret pe_bl))
      pss_nil)
    (pss_one (ps_ret (pe_and (pe_callB call_isQ (by rfl) T.n_isinstance (by decide +kernel) (pa_cons (pe_ix ix_tup (pv 2) pe_int (fun _ _ => rfl)) (pa_cons (pe_bltn (v := .ty "tuple") (by rfl) T.n_tuple (by decide +kernel) rfl) pa_nil))) (pe_one (pe_callB (cr_all rfl) (by rfl) T.n_all (by decide +kernel) (pa_cons (pe_lc (own := [("_law_term_here", 3)]) (g := gName 3) (by rfl) nd (pi_tup (pe_ix ix_tup (pv 2) pe_int (fun _ _ => rfl))) (blkOk_by (own := [("_law_term_here", 3)]) (N := NLIsRow) (sc := fnScope sLIsRow) (by decide +kernel)) (fun _ _ _ _ _ => pg_name (i := 3) nd rfl (Or.inl rfl)) (fun _ _ _ _ _ => pts_nil) (fun _ _ _ _ _ => (pe_c c_LIsTerm hr (by omega) (by rfl) (pa_cons (pv 3) pa_nil)))) pa_nil)))))))
      pss_nil)
    (pss_cons (ps_if (pt_cmpR op_eq (pv 1) pe_str (nomark _))
      (pss_one (ps_ret (pe_and (pe_cmpR op_eq (pe_callB call_len_seq (by rfl) T.n_len (by decide +kernel) (pa_cons (pv 2) pa_nil)) pe_int (nomark _)) (pe_and (pe_c c_LIsTerm hr (by omega) (by rfl) (pa_cons (pe_ix ix_tup (pv 2) pe_int (fun _ _ => rfl)) pa_nil)) (pe_one (pe_c c_LIsWhole hr (by omega) (by rfl) (pa_cons (pe_ix ix_tup (pv 2) pe_int (fun _ _ => rfl)) pa_nil)))))))
      pss_nil)
    (pss_cons (ps_if (pt_cmpR op_ne (pe_callB call_len_seq (by rfl) T.n_len (by decide +kernel) (pa_cons (pv 2) pa_nil)) pe_int (nomark _))
      (pss_one (ps_ret pe_bl))
      pss_nil)
    (pss_cons (ps_if (pt_cmpR op_eq (pv 1) pe_str (nomark _))
      (pss_one (ps_ret (pe_c c_LIsName hr (by omega) (by rfl) (pa_cons (pe_ix ix_tup (pv 2) pe_int (fun _ _ => rfl)) pa_nil))))
      pss_nil)
    (pss_cons (ps_if (pt_cmpR op_eq (pv 1) pe_str (nomark _))
      (pss_one (ps_ret (pe_c c_LIsWhole hr (by omega) (by rfl) (pa_cons (pe_ix ix_tup (pv 2) pe_int (fun _ _ => rfl)) pa_nil))))
      pss_nil)
    (pss_one (ps_ret (pe_and (pe_cmpR op_in_seq (pv 1) (pe_lst (pa_cons pe_str (pa_cons pe_str pa_nil))) (by rfl)) (pe_one (pe_c c_LIsTerm hr (by omega) (by rfl) (pa_cons (pe_ix ix_tup (pv 2) pe_int (fun _ _ => rfl)) pa_nil)))))))))))))))), ?_⟩
    have q0 := q H (Same.refl H)
    refine ⟨_, rfl, v, d, "tuple", rfl, hd, by decide, _, rfl, ?_⟩
    cases hd with
    | @tup a xs ds hq ha =>
      have hlen := ha.len
      refine iteF ⟨_, rfl, a, xs, rfl, .inr hq, _, _, rfl, rfl, _, rfl, ite2 (fun e => ?_) (fun e => ?_)⟩
      · have e1 : ((xs.length : Nat) : Int) < 2 := of_decide_eq_true e
        have hf : rowB (.tuple ds) = false := by
          cases ds with
          | nil => rfl
          | cons x rest =>
            cases rest with
            | nil =>
              cases x with
              | str u =>
                cases hfu : forms.lookup u with
                | none => exact rowB_no hfu
                | some f => exact row_len hfu (fun e => forms_two hfu e.symm)
              | _ => rfl
            | cons y r => simp at hlen; omega
        rw [hf] at q0
        exact iteT q0
      · have e1 : ¬ ((xs.length : Nat) : Int) < 2 := fun h => e (decide_eq_true h)
        obtain ⟨x, rest, rfl, hr1⟩ := head_of (show 2 ≤ ds.length by omega)
        obtain ⟨v0, vr, rfl, h0, hrd⟩ := dpAll_head ha
        have hvr : vr.length = rest.length := hrd.len
        refine ⟨_, rfl, a, _, _, v0, rfl, rfl, hq, atI_nat (j := 0) rfl, v0, x, "str", rfl, h0, by decide, _, rfl, ?_⟩
        cases h0 with
        | str u =>
          refine iteF ⟨_, rfl, a, _, _, .str u, rfl, rfl, hq, atI_nat (j := 0) rfl, _, rfl, _, rfl, a, _, rfl, hq, tail_ne, fun t ht => ?_⟩
          rw [tail_cut]
          refine ⟨_, _, rfl, _, rfl, (by show 2 ≤ sizeLine; decide), fun l3 hl3 => ?_⟩
          have s1 := (Same.new (o := .tup vr) ht).trans (Same.new (o := .lst [.str "let", .str "put"]) hl3)
          have hrd1 := hrd.mono s1
          have ht1 : SqT K (upd (upd H t (.tup vr)) l3 (.lst [.str "let", .str "put"])) t vr := SqT.of (Same.new hl3 _ _ upd_same)
          have q1 : ∀ H', Same (upd (upd H t (.tup vr)) l3 (.lst [.str "let", .str "put"])) H' → Q (.bl (rowB (.tuple (.str u :: rest)))) H' := fun H' s' => q H' (s1.trans s')
          have hs1 : ∀ {i : Nat} {d : PyData}, rest[i]? = some d → Sml d := fun {i d} e => hs.at (i := i + 1) (by rw [List.getElem?_cons_succ]; exact e)
          have hsl1 : ∀ {i : Nat} {d : PyData}, rest[i]? = some d → slim d = true := fun {i d} e => (slim_at hsl).2 (i := i + 1) (by rw [List.getElem?_cons_succ]; exact e)
          have hd1 : ∀ {i : Nat} {d : PyData}, rest[i]? = some d → d.depth < N := fun {i d} e => by
            have := depth_at (ds := .str u :: rest) (i := i + 1) (d := d) (by rw [List.getElem?_cons_succ]; exact e)
            omega
          have no1 : ∀ {m : Nat}, rest.length ≠ m → decide (V.int ((vr.length : Nat) : Int) = V.int ((m : Nat) : Int)) = false := fun h => by
            rw [dec_len, decide_eq_false (by omega)]
          have lets : (fun xs => inV (.str u) xs) [.str "let", .str "put"] = (u == "let" || u == "put") := inV2
          refine ⟨l3, _, rfl, .inl (SqL.of upd_same), rfl, rfl, _, rfl, ?_⟩
          show if inV (.str u) [.str "let", .str "put"] = true then _ else _
          rw [inV2]
          generalize upd (upd H t (.tup vr)) l3 (.lst [.str "let", .str "put"]) = H1 at *
          refine ite2 (fun e => ?_) (fun eL => ?_)
          · have hu : forms.lookup u = some (["name", "term"] : List Str) := by
              rw [Bool.or_eq_true] at e
              rcases e with e | e <;> (have := eq_of_beq e; subst this; decide +kernel)
            refine ⟨_, rfl, t, _, rfl, .inr ht1, rfl, _, rfl, ?_⟩
            by_cases hl : rest.length = 2
            · obtain ⟨r0, r1, rfl⟩ := two_of hl
              obtain ⟨w0, w1, rfl, g0, g1⟩ := hrd1.two
              rw [row2 hu, fitN, fitT] at q1
              refine iteT' (decide_eq_true rfl) ⟨_, rfl, t, _, _, w0, rfl, rfl, ht1, atI_nat (j := 0) rfl, w0, r0, rfl, g0, hs1 (i := 0) rfl, fun H2 s2 => ⟨_, rfl, ite2 (fun ec => ?_) (fun ec => ?_)⟩⟩
              · refine ⟨_, rfl, t, _, _, w1, rfl, rfl, sqT_mono s2 ht1, atI_nat (j := 1) rfl, w1, r1, rfl, g1.mono s2, hs1 (i := 1) rfl, hd1 (i := 1) rfl, fun H3 s3 => ?_⟩
                have q2 := q1 H3 (s2.trans s3)
                rw [ec, Bool.true_and] at q2
                exact q2
              · have q2 := q1 H2 s2
                rw [eq_false_of_ne_true ec, Bool.false_and] at q2
                exact q2
            · rw [row_len hu hl] at q1
              exact iteF' (no1 (m := 2) hl) (q1 _ (Same.refl _))
          -- set
          refine ⟨_, rfl, rfl, _, rfl, ite2 (fun e => ?_) (fun e2 => ?_)⟩
          · have e' := eq_str e
            subst e'
            have hu : forms.lookup ("set" : Str) = some (["term", "name", "term"] : List Str) := by decide +kernel
            refine ⟨_, rfl, t, _, rfl, .inr ht1, rfl, _, rfl, ?_⟩
            by_cases hl : rest.length = 3
            · obtain ⟨r0, r1, r2, rfl⟩ := three_of hl
              obtain ⟨w0, w1, w2, rfl, g0, g1, g2⟩ := hrd1.three
              rw [row3 hu, fitN, fitT] at q1
              refine iteT' (decide_eq_true rfl) ⟨_, rfl, t, _, _, w0, rfl, rfl, ht1, atI_nat (j := 0) rfl, w0, r0, rfl, g0, hs1 (i := 0) rfl, hd1 (i := 0) rfl, fun H2 s2 => ⟨_, rfl, ite2 (fun ec => ?_) (fun ec => ?_)⟩⟩
              · refine ⟨_, rfl, t, _, _, w1, rfl, rfl, sqT_mono s2 ht1, atI_nat (j := 1) rfl, w1, r1, rfl, g1.mono s2, hs1 (i := 1) rfl, fun H3 s3 => ⟨_, rfl, ite2 (fun ec2 => ?_) (fun ec2 => ?_)⟩⟩
                · refine ⟨_, rfl, t, _, _, w2, rfl, rfl, sqT_mono (s2.trans s3) ht1, atI_nat (j := 2) rfl, w2, r2, rfl, g2.mono (s2.trans s3), hs1 (i := 2) rfl, hd1 (i := 2) rfl, fun H4 s4 => ?_⟩
                  have q2 := q1 H4 ((s2.trans s3).trans s4)
                  rw [ec, ec2, Bool.true_and, Bool.true_and] at q2
                  exact q2
                · have q2 := q1 H3 (s2.trans s3)
                  rw [eq_false_of_ne_true ec2, Bool.false_and, Bool.and_false] at q2
                  exact q2
              · have q2 := q1 H2 s2
                rw [eq_false_of_ne_true ec, Bool.false_and] at q2
                exact q2
            · rw [row_len hu hl] at q1
              exact iteF' (no1 (m := 3) hl) (q1 _ (Same.refl _))
          -- new
          refine ⟨_, rfl, rfl, _, rfl, ite2 (fun e => ?_) (fun e3 => ?_)⟩
          · have e' := eq_str e
            subst e'
            have hu : forms.lookup ("new" : Str) = some (["name", "name", "fields"] : List Str) := by decide +kernel
            refine ⟨_, rfl, t, _, rfl, .inr ht1, rfl, _, rfl, ?_⟩
            by_cases hl : rest.length = 3
            · obtain ⟨r0, r1, r2, rfl⟩ := three_of hl
              obtain ⟨w0, w1, w2, rfl, g0, g1, g2⟩ := hrd1.three
              rw [row3 hu, fitN, fitF] at q1
              refine iteT' (decide_eq_true rfl) ⟨_, rfl, t, _, _, w0, rfl, rfl, ht1, atI_nat (j := 0) rfl, w0, r0, rfl, g0, hs1 (i := 0) rfl, fun H2 s2 => ⟨_, rfl, ite2 (fun ec => ?_) (fun ec => ?_)⟩⟩
              · refine ⟨_, rfl, t, _, _, w1, rfl, rfl, sqT_mono s2 ht1, atI_nat (j := 1) rfl, w1, r1, rfl, g1.mono s2, hs1 (i := 1) rfl, fun H3 s3 => ⟨_, rfl, ite2 (fun ec2 => ?_) (fun ec2 => ?_)⟩⟩
                · refine ⟨_, rfl, t, _, _, w2, rfl, rfl, sqT_mono (s2.trans s3) ht1, atI_nat (j := 2) rfl, w2, r2, rfl, g2.mono (s2.trans s3), hs1 (i := 2) rfl, hsl1 (i := 2) rfl, by have := hd1 (i := 2) (d := r2) rfl; omega, fun H4 s4 => ?_⟩
                  have q2 := q1 H4 ((s2.trans s3).trans s4)
                  rw [ec, ec2, Bool.true_and, Bool.true_and] at q2
                  exact q2
                · have q2 := q1 H3 (s2.trans s3)
                  rw [eq_false_of_ne_true ec2, Bool.false_and, Bool.and_false] at q2
                  exact q2
              · have q2 := q1 H2 s2
                rw [eq_false_of_ne_true ec, Bool.false_and] at q2
                exact q2
            · rw [row_len hu hl] at q1
              exact iteF' (no1 (m := 3) hl) (q1 _ (Same.refl _))
          -- call
          refine ⟨_, rfl, rfl, _, rfl, ite2 (fun e => ?_) (fun e4 => ?_)⟩
          · have e' := eq_str e
            subst e'
            have hu : forms.lookup ("call" : Str) = some (["name", "name", "terms"] : List Str) := by decide +kernel
            refine ⟨_, rfl, t, _, rfl, .inr ht1, rfl, _, rfl, ?_⟩
            by_cases hl : rest.length = 3
            · obtain ⟨r0, r1, r2, rfl⟩ := three_of hl
              obtain ⟨w0, w1, w2, rfl, g0, g1, g2⟩ := hrd1.three
              rw [row3 hu, fitN, fitTs] at q1
              refine iteF' (not_refl (v := V.int 3)) ⟨_, rfl, t, _, _, w0, rfl, rfl, ht1, atI_nat (j := 0) rfl, w0, r0, rfl, g0, hs1 (i := 0) rfl, fun H2 s2 => ⟨_, rfl, ite2 (fun ec => ?_) (fun ec => ?_)⟩⟩
              · have ec' : nameB r0 = false := by simpa using ec
                have q2 := q1 H2 s2
                rw [ec', Bool.false_and] at q2
                exact q2
              · have ec' : nameB r0 = true := by simpa using ec
                refine ⟨_, rfl, t, _, _, w1, rfl, rfl, sqT_mono s2 ht1, atI_nat (j := 1) rfl, w1, r1, rfl, g1.mono s2, hs1 (i := 1) rfl, fun H3 s3 => ⟨_, rfl, ite2 (fun ec2 => ?_) (fun ec2 => ?_)⟩⟩
                · have ec2' : nameB r1 = false := by simpa using ec2
                  have q2 := q1 H3 (s2.trans s3)
                  rw [ec2', Bool.false_and, Bool.and_false] at q2
                  exact q2
                · have ec2' : nameB r1 = true := by simpa using ec2
                  rw [ec', ec2', Bool.true_and, Bool.true_and] at q1
                  have s23 := s2.trans s3
                  have g23 := g2.mono s23
                  have ht3 := sqT_mono s23 ht1
                  refine ⟨_, rfl, t, _, _, w2, rfl, rfl, ht3, atI_nat (j := 2) rfl, w2, r2, "tuple", rfl, g23, by decide, _, rfl, ?_⟩
                  have hsr := hs1 (i := 2) (d := r2) rfl
                  have hdr := hd1 (i := 2) (d := r2) rfl
                  cases g23 with
                  | @tup a2 xs2 es hq2 ha2 =>
                    refine iteT ⟨_, rfl, t, _, _, .ref a2, rfl, rfl, ht3, atI_nat (j := 2) rfl, a2, rfl, ⟨xs2, hq2⟩, ?_⟩
                    refine lcB (K := K) termB hq2 ha2 hsr.len (fun i x d H' Q' e hx sm2 hQ => ?_) (fun Dl H4 _ hat sm2 => ?_)
                    · exact ⟨_, rfl, x, d, rfl, hx, hsr.at e, Nat.lt_trans (depth_at e) hdr, hQ⟩
                    · refine ⟨Dl, _, rfl, SqL.of hat, ?_⟩
                      rw [all_id]
                      exact q1 _ (s23.trans sm2)
                  | _ => exact iteF (q1 _ s23)
            · rw [row_len hu hl] at q1
              exact iteT' (by rw [show (V.int 3 : V) = V.int ((3 : Nat) : Int) from rfl, no1 hl]; rfl) (q1 _ (Same.refl _))
          -- unless
          refine ⟨_, rfl, rfl, _, rfl, ite2 (fun e => ?_) (fun e5 => ?_)⟩
          · have e' := eq_str e
            subst e'
            have hu : forms.lookup ("unless" : Str) = some (["term", "count"] : List Str) := by decide +kernel
            refine ⟨_, rfl, t, _, rfl, .inr ht1, rfl, _, rfl, ?_⟩
            by_cases hl : rest.length = 2
            · obtain ⟨r0, r1, rfl⟩ := two_of hl
              obtain ⟨w0, w1, rfl, g0, g1⟩ := hrd1.two
              rw [row2 hu, fitT, fitC] at q1
              refine iteT' (decide_eq_true rfl) ⟨_, rfl, t, _, _, w0, rfl, rfl, ht1, atI_nat (j := 0) rfl, w0, r0, rfl, g0, hs1 (i := 0) rfl, hd1 (i := 0) rfl, fun H2 s2 => ⟨_, rfl, ite2 (fun ec => ?_) (fun ec => ?_)⟩⟩
              · refine ⟨_, rfl, t, _, _, w1, rfl, rfl, sqT_mono s2 ht1, atI_nat (j := 1) rfl, w1, r1, rfl, g1.mono s2, hs1 (i := 1) rfl, fun H3 s3 => ?_⟩
                have q2 := q1 H3 (s2.trans s3)
                rw [ec, Bool.true_and] at q2
                exact q2
              · have q2 := q1 H2 s2
                rw [eq_false_of_ne_true ec, Bool.false_and] at q2
                exact q2
            · rw [row_len hu hl] at q1
              exact iteF' (no1 (m := 2) hl) (q1 _ (Same.refl _))
          -- the rest: one part
          have longer : ∀ f, forms.lookup u = some f → f.length ≠ 1 → False := by
            intro f hf hne
            have key : ∀ (l : List (Str × List Str)), (∀ p ∈ l, p.2.length = 1 ∨ p.1 ∈ (["let", "put", "set", "new", "call", "unless"] : List Str)) → l.lookup u = some f → f.length = 1 ∨ u ∈ (["let", "put", "set", "new", "call", "unless"] : List Str) := by
              intro l
              induction l with
              | nil => intro _ e; cases e
              | cons p l ih =>
                intro hp e
                obtain ⟨y, g⟩ := p
                rw [List.lookup_cons] at e
                cases hz : (u == y) with
                | true =>
                  rw [hz] at e
                  cases e
                  rw [eq_of_beq hz]
                  exact hp _ List.mem_cons_self
                | false => rw [hz] at e; exact ih (fun q hq => hp q (List.mem_cons_of_mem _ hq)) e
            rcases key forms (by decide +kernel) hf with h | h
            · exact hne h
            · simp only [List.mem_cons, List.not_mem_nil, or_false] at h
              rcases h with rfl | rfl | rfl | rfl | rfl | rfl
              · exact eL (by decide +kernel)
              · exact eL (by decide +kernel)
              · exact e2 (decide_eq_true rfl)
              · exact e3 (decide_eq_true rfl)
              · exact e4 (decide_eq_true rfl)
              · exact e5 (decide_eq_true rfl)
          refine ⟨_, rfl, t, _, rfl, .inr ht1, rfl, _, rfl, ?_⟩
          by_cases hl : rest.length = 1
          · obtain ⟨r0, rfl⟩ := one_of hl
            obtain ⟨w0, rfl, g0⟩ := hrd1.one
            refine iteF' (not_refl (v := V.int 1)) ⟨_, rfl, rfl, _, rfl, ite2 (fun e => ?_) (fun e6 => ?_)⟩
            · have e' := eq_str e
              subst e'
              rw [row1 (a := "name") (by decide +kernel), fitN] at q1
              exact ⟨_, rfl, t, _, _, w0, rfl, rfl, ht1, atI_nat (j := 0) rfl, w0, r0, rfl, g0, hs1 (i := 0) rfl, q1⟩
            refine ⟨_, rfl, rfl, _, rfl, ite2 (fun e => ?_) (fun e7 => ?_)⟩
            · have e' := eq_str e
              subst e'
              rw [row1 (a := "count") (by decide +kernel), fitC] at q1
              exact ⟨_, rfl, t, _, _, w0, rfl, rfl, ht1, atI_nat (j := 0) rfl, w0, r0, rfl, g0, hs1 (i := 0) rfl, q1⟩
            refine ⟨_, rfl, (by show 2 ≤ sizeLine; decide), fun l4 hl4 => ?_⟩
            have s4 := Same.new (o := .lst [.str "tell", .str "back"]) hl4
            refine ⟨l4, _, rfl, .inl (SqL.of upd_same), rfl, rfl, ?_⟩
            have ein : (if (false : Bool) = true then !inV (.str u) [.str "tell", .str "back"] else inV (.str u) [.str "tell", .str "back"]) = (u == "tell" || u == "back") := inV2
            rw [ein]
            refine ⟨_, rfl, ite2 (fun e => ?_) (fun e8 => ?_)⟩
            · have hu : forms.lookup u = some (["term"] : List Str) := by
                rw [Bool.or_eq_true] at e
                rcases e with e | e <;> (have := eq_of_beq e; subst this; decide +kernel)
              rw [row1 hu, fitT] at q1
              exact ⟨_, rfl, t, _, _, w0, rfl, rfl, sqT_mono s4 ht1, atI_nat (j := 0) rfl, w0, r0, rfl, g0.mono s4, hs1 (i := 0) rfl, hd1 (i := 0) rfl, fun H5 s5 => q1 H5 (s4.trans s5)⟩
            · have hno : forms.lookup u = none := by
                have key : ∀ (l : List (Str × List Str)), (∀ p ∈ l, p.1 ∈ (["let", "put", "set", "new", "call", "unless", "mark", "go", "tell", "back"] : List Str)) → u ∉ (["let", "put", "set", "new", "call", "unless", "mark", "go", "tell", "back"] : List Str) → l.lookup u = none := by
                  intro l
                  induction l with
                  | nil => intro _ _; rfl
                  | cons p l ih =>
                    intro hp hn
                    obtain ⟨y, g⟩ := p
                    rw [List.lookup_cons]
                    have : (u == y) = false := by
                      rw [Bool.eq_false_iff]
                      intro e
                      exact hn (by rw [eq_of_beq e]; exact hp _ List.mem_cons_self)
                    rw [this]
                    exact ih (fun q hq => hp q (List.mem_cons_of_mem _ hq)) hn
                refine key forms (by decide +kernel) (fun h => ?_)
                simp only [List.mem_cons, List.not_mem_nil, or_false] at h
                rcases h with rfl | rfl | rfl | rfl | rfl | rfl | rfl | rfl | rfl | rfl
                · exact eL (by decide +kernel)
                · exact eL (by decide +kernel)
                · exact e2 (decide_eq_true rfl)
                · exact e3 (decide_eq_true rfl)
                · exact e4 (decide_eq_true rfl)
                · exact e5 (decide_eq_true rfl)
                · exact e6 (decide_eq_true rfl)
                · exact e7 (decide_eq_true rfl)
                · exact e8 (by decide +kernel)
                · exact e8 (by decide +kernel)
              rw [rowB_no hno] at q1
              exact q1 _ s4
          · have hf : rowB (.tuple (.str u :: rest)) = false := by
              cases hfu : forms.lookup u with
              | none => exact rowB_no hfu
              | some f =>
                refine row_len hfu (fun e => ?_)
                by_cases h1 : f.length = 1
                · omega
                · exact longer f hfu h1
            rw [hf] at q1
            exact iteT' (by rw [show (V.int 1 : V) = V.int ((1 : Nat) : Int) from rfl, no1 hl]; rfl) (q1 _ (Same.refl _))
        | _ =>
          have hf : Q (V.bl false) H := by simpa [rowB] using q0
          exact iteT hf
    | _ => exact iteT q0
end
end K25
set_option Elab.async false
set_option linter.all false
set_option maxRecDepth 100000
set_option maxHeartbeats 4000000
namespace K25
open PySem PySem.Spec PyProof.Rows L2 KD
open C8 (Cal Def cal0 pe_c fnBody fnScope fnArgs)
/-! ### small data -/
structure Sm (a W : Nat) (d : PyData) : Prop where
  dep : d.depth ≤ a
  wt : d.weight ≤ W
  sh : short d = true
  sl : slim d = true
structure SmAll (a W : Nat) (ds : List PyData) : Prop where
  dep : PyData.depthAll ds ≤ a
  wt : PyData.weightAll ds ≤ W
  sh : shortAll ds = true
  sl : slimAll ds = true
theorem Sm.mono {a W a' W' : Nat} {d : PyData} (h : Sm a W d) (ha : a ≤ a') (hW : W ≤ W') : Sm a' W' d := ⟨Nat.le_trans h.dep ha, Nat.le_trans h.wt hW, h.sh, h.sl⟩
theorem SmAll.mono {a W a' W' : Nat} {ds : List PyData} (h : SmAll a W ds) (ha : a ≤ a') (hW : W ≤ W') : SmAll a' W' ds := ⟨Nat.le_trans h.dep ha, Nat.le_trans h.wt hW, h.sh, h.sl⟩
theorem SmAll.nilW {a W : Nat} : SmAll a W [] := ⟨by simp [PyData.depthAll], by simp [PyData.weightAll], rfl, rfl⟩
theorem SmAll.nil {a : Nat} : SmAll a 0 [] := .nilW
theorem SmAll.cons {a W W2 : Nat} {d : PyData} {ds : List PyData} (h : Sm a W d) (t : SmAll a W2 ds) : SmAll a (W + 1 + W2) (d :: ds) :=
  ⟨by simp only [PyData.depthAll]; exact Nat.max_le.mpr ⟨h.dep, t.dep⟩, by simp only [PyData.weightAll]; have := h.wt; have := t.wt; omega, by simp only [shortAll, h.sh, t.sh, Bool.and_self], by simp only [slimAll, h.sl, t.sl, Bool.and_self]⟩
theorem SmAll.uncons {a W : Nat} {d : PyData} {ds : List PyData} (h : SmAll a W (d :: ds)) : ∃ w, Sm a w d ∧ ∃ w2, SmAll a w2 ds ∧ w + 1 + w2 ≤ W := by
  have h1 : max d.depth (PyData.depthAll ds) ≤ a := by simpa only [PyData.depthAll] using h.dep
  have h2 : d.weight + 1 + PyData.weightAll ds ≤ W := by simpa only [PyData.weightAll] using h.wt
  have h3 : short d = true ∧ shortAll ds = true := by simpa [shortAll] using h.sh
  have h4 : slim d = true ∧ slimAll ds = true := by simpa [slimAll] using h.sl
  exact ⟨d.weight, ⟨by omega, Nat.le_refl _, h3.1, h4.1⟩, PyData.weightAll ds, ⟨by omega, Nat.le_refl _, h3.2, h4.2⟩, h2⟩
theorem SmAll.app {a : Nat} : ∀ {W W2 : Nat} {ds es : List PyData}, SmAll a W ds → SmAll a W2 es → SmAll a (W + W2) (ds ++ es)
  | W, W2, [], es, _, t => t.mono (Nat.le_refl _) (Nat.le_add_left _ _)
  | W, W2, d :: ds, es, h, t => by
    obtain ⟨w, h1, w2, h2, e⟩ := h.uncons
    exact (SmAll.cons h1 (SmAll.app h2 t)).mono (Nat.le_refl _) (by omega)
theorem SmAll.take {a : Nat} : ∀ {W : Nat} {ds : List PyData} (k : Nat), SmAll a W ds → SmAll a W (ds.take k)
  | _, _, 0, _ => by rw [List.take_zero]; exact .nilW
  | _, [], _ + 1, _ => by rw [List.take_nil]; exact .nilW
  | W, d :: ds, k + 1, h => by
    obtain ⟨w, h1, w2, h2, e⟩ := h.uncons
    exact (SmAll.cons h1 (SmAll.take k h2)).mono (Nat.le_refl _) (by omega)
theorem SmAll.drop {a : Nat} : ∀ {W : Nat} {ds : List PyData} (k : Nat), SmAll a W ds → SmAll a W (ds.drop k)
  | _, _, 0, h => h
  | _, [], _ + 1, _ => by rw [List.drop_nil]; exact .nilW
  | W, d :: ds, k + 1, h => by
    obtain ⟨w, h1, w2, h2, e⟩ := h.uncons
    exact (SmAll.drop k h2).mono (Nat.le_refl _) (by omega)
theorem SmAll.at {a : Nat} : ∀ {W : Nat} {ds : List PyData} {i : Nat} {d : PyData}, SmAll a W ds → ds[i]? = some d → Sm a W d
  | _, [], _, _, _, e => by simp at e
  | W, x :: xs, 0, d, h, e => by
    obtain ⟨w, h1, w2, h2, e2⟩ := h.uncons
    simp at e
    exact e ▸ h1.mono (Nat.le_refl _) (by omega)
  | W, x :: xs, i + 1, d, h, e => by
    obtain ⟨w, h1, w2, h2, e2⟩ := h.uncons
    exact (SmAll.at h2 (i := i) (by simpa using e)).mono (Nat.le_refl _) (by omega)
theorem Sm.tup {a W : Nat} {ds : List PyData} (h : SmAll a W ds) (l : ds.length ≤ 60) : Sm (a + 1) W (.tuple ds) :=
  ⟨by simp only [PyData.depth]; have := h.dep; omega, by simp only [PyData.weight]; exact h.wt, by simp only [short, h.sh, decide_eq_true (show ds.length ≤ 1000 by omega), Bool.and_self], by simp only [slim, h.sl, decide_eq_true l, Bool.and_self]⟩
theorem Sm.lst {a W : Nat} {ds : List PyData} (h : SmAll a W ds) (l : ds.length ≤ 60) : Sm (a + 1) W (.list ds) :=
  ⟨by simp only [PyData.depth]; have := h.dep; omega, by simp only [PyData.weight]; exact h.wt, by simp only [short, h.sh, decide_eq_true (show ds.length ≤ 1000 by omega), Bool.and_self], by simp only [slim, h.sl, decide_eq_true l, Bool.and_self]⟩
theorem Sm.els {a W : Nat} {ds : List PyData} (h : Sm (a + 1) W (.tuple ds)) : SmAll a W ds := by
  have h2 : PyData.depthAll ds + 1 ≤ a + 1 := by simpa only [PyData.depth] using h.dep
  have h3 : PyData.weightAll ds ≤ W := by simpa only [PyData.weight] using h.wt
  have h4 : ds.length ≤ 1000 ∧ shortAll ds = true := short_all h.sh
  have h5 : ds.length ≤ 60 ∧ slimAll ds = true := by simpa [slim] using h.sl
  exact ⟨by omega, h3, h4.2, h5.2⟩
theorem Sm.els0 {W : Nat} {ds : List PyData} {a : Nat} (h : Sm a W (.tuple ds)) : ∃ b, a = b + 1 := by
  have h2 : PyData.depthAll ds + 1 ≤ a := by simpa only [PyData.depth] using h.dep
  exact ⟨a - 1, by omega⟩
theorem Sm.len {a W : Nat} {ds : List PyData} (h : Sm a W (.tuple ds)) : ds.length ≤ 60 := (slim_at h.sl).1
theorem Sm.str {a W : Nat} {z : Str} (h : z.length ≤ W) (h2 : W ≤ 1000) : Sm a W (.str z) := ⟨by simp [PyData.depth], by simp only [PyData.weight]; exact h, decide_eq_true (show z.length ≤ 1000 by omega), by simp [slim]⟩
theorem Sm.bool {a W : Nat} (b : Bool) : Sm a W (.bool b) := ⟨by simp [PyData.depth], by simp [PyData.weight], rfl, by simp [slim]⟩
theorem Sm.non {a W : Nat} : Sm a W .none := ⟨by simp [PyData.depth], by simp [PyData.weight], rfl, by simp [slim]⟩
theorem Sm.int {a W k : Nat} {i : Int} (h : i.natAbs < 2 ^ k) (hk : 0 < k) (hW : k ≤ W) : Sm a W (.int i) := by
  refine ⟨by simp [PyData.depth], ?_, rfl, by simp [slim]⟩
  simp only [PyData.weight]
  split
  · exact Nat.zero_le _
  · have := PySem.Flt.log2_lt_of hk h
    omega
theorem Sm.dict0 {a W : Nat} (h : 1 ≤ a) : Sm a W (.dict []) := ⟨by simp only [PyData.depth, PyData.depthKv]; exact h, by simp [PyData.weight, PyData.weightKv], rfl, by simp [slim]⟩
theorem Sm.sml {a W : Nat} {d : PyData} (h : Sm a W d) (hW : W ≤ 4000000) : Sml d := ⟨h.sh, Nat.le_trans h.wt hW⟩
theorem name_sm {a W : Nat} {z : Str} (h : nameS z = true) (hW : 8 ≤ W) : Sm a W (.str z) := (Sm.str (W := 8) (name_len h).2 (by decide)).mono (Nat.le_refl _) hW
/-! ### the pot -/
theorem Go.fresh {p q : Addr} {n : Int} {H H1 : Hp} (a : Go p n H H1) (h : H1 q = none) : H q = none := by
  cases c : H q with
  | none => rfl
  | some o => exact nomatch (h.symm.trans (a.1 q o (a.ne h) c) : Option.none = Option.some o)
theorem Go.new2 {p q : Addr} {n : Int} {H H1 : Hp} {o1 o2 : HO} (a : Go p n H H1) (hq : H1 q = none) : Go p n H (upd (upd H1 q o1) q o2) := by
  have e : upd (upd H1 q o1) q o2 = upd H1 q o2 := by
    funext c
    unfold upd
    by_cases h : c = q <;> simp [h]
  rw [e]
  exact a.new hq
theorem ixR {K : PySem.W.Frag} {H : Hp} {l : Addr} {xs : List V} {r : Int} {Q : VK} (hl : H l = some (.lst xs)) (h0 : 0 ≤ r) (h1 : r < (xs.length : Int)) (q : ∀ v ∈ xs, Q v H) : rIxL K (.ref l) (.int r) H Q :=
  let ⟨v, hv, e⟩ := pick h0 h1
  ⟨l, xs, r, v, rfl, rfl, SqL.of hl, e, q v hv⟩
theorem ix01 {K : PySem.W.Frag} {H : Hp} {l : Addr} {x0 x1 : V} {k : Bool} {Q : VK} (hl : H l = some (.lst [x0, x1])) (q0 : k = false → Q x0 H) (q1 : Q x1 H) : rIxL K (.ref l) (.int (if k = true then 1 else 0)) H Q := by
  cases k
  · exact ⟨l, _, _, x0, rfl, rfl, SqL.of hl, atI_nat (j := 0) rfl, q0 rfl⟩
  · exact ⟨l, _, _, x1, rfl, rfl, SqL.of hl, atI_nat (j := 1) rfl, q1⟩
def nameV : V → Bool | .str z => nameS z | _ => false
theorem names_in {xs : List V} (h : xs.all nameV = true) {v : V} (hv : v ∈ xs) : ∃ z, v = .str z ∧ nameS z = true := by
  have h1 := List.all_eq_true.mp h v hv
  cases v <;> first | exact ⟨_, rfl, h1⟩ | cases h1
theorem name_one {c : Nat} (h : low c = true) : nameS ⟨#[c]⟩ = true := by
  unfold nameS
  have e1 : (⟨#[c]⟩ : Str).length = 1 := rfl
  have e2 : (⟨#[c]⟩ : Str).cps.toList = [c] := rfl
  have e3 : keptS ⟨#[c]⟩ = false := by
    cases e : keptS ⟨#[c]⟩ with
    | false => rfl
    | true =>
      have l1 : ∀ {z : Str}, (⟨#[c]⟩ : Str) = z → z.length = 1 := fun h => h ▸ rfl
      rcases kept_four e with h | h | h | h <;> exact absurd (l1 h) (by decide)
  rw [e1, e2, e3]
  simp [h]
theorem name_of {z : Str} {n : Nat} (hl : z.length = n) (h1 : 1 ≤ n) (h8 : n ≤ 8) (ha : z.cps.toList.all low = true) (hk : keptS z = false) : nameS z = true := by
  unfold nameS
  rw [ha, hk, hl, decide_eq_true h1, decide_eq_true h8]
  rfl
theorem xyz_low : ∀ (j c : Nat), ("xyzab" : Str).cps.toList[j]? = some c → low c = true := by
  intro j c h
  have h1 : ("xyzab" : Str).cps.toList.all low = true := by decide +kernel
  exact List.all_eq_true.mp h1 c (List.mem_of_getElem? h)
section
variable {P : Program} {w : World} {K : PySem.W.Frag} {mg : Str → Option Value} {base : Heap}
/-! ### names -/
abbrev sLName : Stmt := topS 36
abbrev NLName : List Str := ["_law_pot_here", "_law_way", "_law_name_here", "_law_k", "_law_words"]
theorem scLName : FnScope NLName ["_law_pot_here"] (fnScope sLName) := ⟨rfl, rfl, rfl, by decide +kernel, rfl, by decide +kernel, by decide +kernel⟩
def spName : Sp := fun vs H Q _ => ∃ (p : Addr) (n : Int), vs = [.ref p] ∧ Pt H p n ∧ ∀ z H', nameS z = true → Go p n H H' → Q (.str z) H'
theorem c_name (T : Tp mg) (c_LTake : Cal P w K mg base 1 "_law_take" spTake []) {f : Addr} {fd : FuncData} (D : Def K mg "_law_name" sLName f fd) (b : Binds K fd ["_law_pot_here"] []) : Cal P w K mg base 2 "_law_name" spName [] := by
  refine cal0 D b .nil scLName (fun vs H Q E h => ?_) (fun cdv A outer s H vs Q E hr h => ?_)
  · obtain ⟨p, n, rfl, _⟩ := h
    rfl
  · obtain ⟨p, n, rfl, hp, q⟩ := h
    have nd := scLName.nd
    refine ⟨_, (pss_cons (ps_set (i := 1) nd rfl (.inl rfl) (pe_c c_LTake hr (by decide) (by rfl) (pa_cons (pv 0) (pa_cons pe_int pa_nil))))
    (pss_cons (ps_if (pt_cmpR op_eq (pv 1) pe_int (nomark _))
      (pss_cons (ps_set (i := 4) nd rfl (.inl rfl) (pe_lst (pa_cons pe_str (pa_cons pe_str (pa_cons pe_str (pa_cons pe_str (pa_cons pe_str (pa_cons pe_str (pa_cons pe_str (pa_cons pe_str (pa_cons pe_str (pa_cons pe_str (pa_cons pe_str (pa_cons pe_str (pa_cons pe_str (pa_cons pe_str pa_nil))))))))))))))))
    (pss_cons (ps_set (i := 4) nd rfl (.inl rfl) (pe_op op_cat (pv 4) (pe_lst (pa_cons pe_str (pa_cons pe_str (pa_cons pe_str (pa_cons pe_str (pa_cons pe_str (pa_cons pe_str (pa_cons pe_str (pa_cons pe_str (pa_cons pe_str (pa_cons pe_str (pa_cons pe_str pa_nil))))))))))))))
    (pss_one (ps_ret (pe_ix ix_list (pv 4) (pe_c c_LTake hr (by decide) (by rfl) (pa_cons (pv 0) (pa_cons pe_int pa_nil))) (fun _ _ => rfl))))))
      pss_nil)
    (pss_cons (ps_if (pt_cmpR op_eq (pv 1) pe_int (nomark _))
      (pss_one (ps_ret (pe_ix ix_str pe_str (pe_c c_LTake hr (by decide) (by rfl) (pa_cons (pv 0) (pa_cons pe_int pa_nil))) (fun _ _ => rfl))))
      pss_nil)
    (pss_cons (ps_set (i := 2) nd rfl (.inl rfl) pe_str)
    (pss_cons (ps_for PassesOwn.never rfl (pi_range1 (by rfl) T.n_range (pa_cons (pe_op op_add pe_int (pe_c c_LTake hr (by decide) (by rfl) (pa_cons (pv 0) (pa_cons pe_int pa_nil)))) pa_nil)) (pg_name (i := 3) nd rfl (.inl rfl))
      (pss_one (ps_set (i := 2) nd rfl (.inl rfl) (pe_op op_add_str (pv 2) (pe_ix ix_str pe_str (pe_c c_LTake hr (by decide) (by rfl) (pa_cons (pv 0) (pa_cons pe_int pa_nil))) (fun _ _ => rfl))))))
    (pss_one (ps_ret (pe_ix ix_list (pe_lst (pa_cons (pv 2) (pa_cons pe_str pa_nil))) (pe_callTy call_int1 (by rfl) T.n_int (by decide +kernel) (pa_cons (pe_cmpR op_in_seq (pv 2) (pe_lst (pa_cons pe_str (pa_cons pe_str (pa_cons pe_str (pa_cons pe_str pa_nil))))) (by rfl)) pa_nil)) (fun _ _ => rfl))))))))), ?_⟩
    refine ⟨_, rfl, p, n, 4, rfl, hp, by decide, by decide, fun r H1 r0 r1 g1 => ?_⟩
    refine ⟨_, rfl, rfl, _, rfl, ite2 (fun e => ?_) (fun e => ?_)⟩
    · refine ⟨(by show 14 ≤ sizeLine; decide), fun l1 h1 => ⟨_, rfl, (by show 11 ≤ sizeLine; decide), fun l2 h2 => ?_⟩⟩
      refine ⟨l1, l2, _, _, rfl, rfl, by rw [upd_ne (ne_new h2), upd_same], upd_same, (by show 25 ≤ sizeLine; decide), fun l3 h3 => ?_⟩
      refine ⟨_, rfl, _, rfl, p, n, 25, rfl, (((g1.new h1).new h2).new h3).2, by decide, by decide, fun r2 H5 r20 r21 g5 => ?_⟩
      refine ixR (g5.at (((g1.new h1).new h2).ne h3) upd_same) r20 (by exact r21) fun v hv => ?_
      obtain ⟨z, rfl, hz⟩ := names_in (by decide +kernel) hv
      exact q z _ hz ((((g1.new h1).new h2).new h3).trans g5)
    · refine ⟨_, rfl, rfl, _, rfl, ite2 (fun e => ?_) (fun e => ?_)⟩
      · refine ⟨_, rfl, p, n, 5, rfl, g1.2, by decide, by decide, fun r2 H5 r20 r21 g5 => ?_⟩
        obtain ⟨c, hc⟩ : ∃ c, ("xyzab" : Str).cps.toList[r2.toNat]? = some c := ⟨_, List.getElem?_eq_getElem (show r2.toNat < ("xyzab" : Str).cps.toList.length by rw [show ("xyzab" : Str).cps.toList.length = 5 by decide +kernel]; omega)⟩
        have e2 : r2 = (r2.toNat : Int) := by omega
        refine ⟨_, r2, c, rfl, rfl, (by show (5 : Nat) ≤ sizeLine; decide), (by rw [e2]; exact atI_nat hc), ?_⟩
        exact q _ _ (name_one (xyz_low _ _ hc)) (g1.trans g5)
      · refine ⟨_, rfl, p, n, 8, rfl, g1.2, by decide, by decide, fun r2 H2 r20 r21 g2 => ?_⟩
        have g3 := g1.trans g2
        refine ⟨_, _, rfl, rfl, 1 + r2, rfl, by omega, by omega, ?_⟩
        refine for_range (lo := 0) (n := (1 + r2).toNat) (fun i σ H' => ∃ z v3, σ = [some (.ref p), some (.int r), some (.str z), v3, none] ∧ z.length = i ∧ z.cps.toList.all low = true ∧ Go p n H H') ⟨_, _, rfl, rfl, by decide +kernel, g3⟩ (fun i σ H' hi hW => ?_) (fun σ H' hW => ?_)
        · obtain ⟨z, v3, rfl, hz, hza, g4⟩ := hW
          refine ⟨_, rfl, _, rfl, p, n, 26, rfl, g4.2, by decide, by decide, fun r4 H5 r40 r41 g5 => ?_⟩
          obtain ⟨c, hc⟩ : ∃ c, ("abcdefghijklmnopqrstuvwxyz" : Str).cps.toList[r4.toNat]? = some c := ⟨_, List.getElem?_eq_getElem (show r4.toNat < ("abcdefghijklmnopqrstuvwxyz" : Str).cps.toList.length by rw [show ("abcdefghijklmnopqrstuvwxyz" : Str).cps.toList.length = 26 by decide +kernel]; omega)⟩
          have e2 : r4 = (r4.toNat : Int) := by omega
          refine ⟨_, r4, c, rfl, rfl, (by show (26 : Nat) ≤ sizeLine; decide), (by rw [e2]; exact atI_nat hc), ?_⟩
          refine ⟨_, _, rfl, rfl, ?_, ?_⟩
          · show z.length + 1 ≤ sizeLine
            rw [hz, sizeLine_eq]
            omega
          · have ta : (z ++ ⟨#[c]⟩ : Str).cps.toList = z.cps.toList ++ [c] := TL.tl_append z ⟨#[c]⟩
            refine ⟨_, _, rfl, ?_, ?_, g4.trans g5⟩
            · have l1 : ∀ y : Str, y.cps.toList.length = y.length := fun y => Array.length_toList
              rw [← l1, ta, List.length_append, l1, hz]
              rfl
            · rw [ta, List.all_append, hza]
              simp [abc_low _ _ hc]
        · obtain ⟨z, v3, rfl, hz, hza, g4⟩ := hW
          refine ⟨_, rfl, (by show 2 ≤ sizeLine; decide), fun l hl => ⟨_, rfl, (by show 4 ≤ sizeLine; decide), fun l2 hl2 => ?_⟩⟩
          refine ⟨l2, _, rfl, .inl (SqL.of upd_same), rfl, rfl, .inr ⟨_, rfl, ?_⟩⟩
          exact ix01 (by rw [upd_ne (ne_new hl2), upd_same]) (fun e4 => q _ _ (name_of hz (by omega) (by omega) hza (kept_perm.symm.trans e4)) ((g4.new hl).new hl2)) (q _ _ (by decide +kernel) ((g4.new hl).new hl2))
end
end K25
set_option Elab.async false
set_option linter.all false
set_option maxRecDepth 100000
set_option maxHeartbeats 4000000
namespace K25
open PySem PySem.Spec PyProof.Rows L2 KD
open C8 (Cal Def cal0 pe_c fnBody fnScope fnArgs)
section
variable {P : Program} {w : World} {K : PySem.W.Frag} {mg : Str → Option Value} {base : Heap}
theorem lit {a W : Nat} {z : Str} (h : z.length ≤ W) (hW : W ≤ 1000) : Sm a W (.str z) := .str h hW
/-! ### kinds -/
abbrev sLKind : Stmt := topS 37
abbrev NLKind : List Str := ["_law_pot_here", "_law_deep", "_law_way"]
theorem scLKind : FnScope NLKind ["_law_pot_here", "_law_deep"] (fnScope sLKind) := ⟨rfl, rfl, rfl, by decide +kernel, rfl, by decide +kernel, by decide +kernel⟩
/-- a kind drawn, by a depth below j -/
def spKind (j : Nat) : Sp := fun vs H Q _ => ∃ (p : Addr) (m : Nat) (n : Int), vs = [.ref p, .int m] ∧ m < j ∧ Pt H p n ∧ ∀ v d H', Sm (m + 1) (16 + 6 * m) d → kindB d = true → Td H' v d → Go p n H H' → Q v H'
theorem c_kind (T : Tp mg) (c_LTake : Cal P w K mg base 1 "_law_take" spTake []) (c_LName : Cal P w K mg base 2 "_law_name" spName []) {f : Addr} {fd : FuncData} (D : Def K mg "_law_kind" sLKind f fd) (b : Binds K fd ["_law_pot_here", "_law_deep"] []) :
    ∀ n : Nat, Cal P w K mg base (2 + n) "_law_kind" (spKind n) []
  | 0 => cal_no _ (fun vs H Q E ⟨p, m, _, _, h, _⟩ => absurd h (Nat.not_lt_zero _)) D b
  | j + 1 => by
    have c_LKind := c_kind T c_LTake c_LName D b j
    refine cal0 D b .nil scLKind (fun vs H Q E h => ?_) (fun cdv A outer s H vs Q E hr h => ?_)
    · obtain ⟨p, m, n, rfl, _⟩ := h
      rfl
    · obtain ⟨p, m, n, rfl, hm, hp, q⟩ := h
      have nd := scLKind.nd
      have hr := (show Room (2 + j) _ from hr)
      refine ⟨_, (pss_cons (ps_set (i := 2) nd rfl (.inl rfl) (pe_c c_LTake hr (by omega) (by rfl) (pa_cons (pv 0) (pa_cons pe_int pa_nil))))
    (pss_cons (ps_if (PW.pt (pw_and (pt_cmpR op_gt (pv 2) pe_int (nomark _)) (pw_and1 (pt_cmpR op_gt (pv 1) pe_int (nomark _)))))
      (pss_one (ps_ret (pe_tup (pa_cons pe_str (pa_cons (pe_c c_LKind hr (by omega) (by rfl) (pa_cons (pv 0) (pa_cons (pe_op op_sub (pv 1) pe_int) pa_nil))) pa_nil)))))
      pss_nil)
    (pss_one (ps_ret (pe_ix ix_list (pe_lst (pa_cons (pe_tup (pa_cons pe_str pa_nil)) (pa_cons (pe_tup (pa_cons pe_str pa_nil)) (pa_cons (pe_tup (pa_cons pe_str (pa_cons (pe_c c_LName hr (by omega) (by rfl) (pa_cons (pv 0) pa_nil)) pa_nil))) pa_nil)))) (pe_op op_modN (pv 2) pe_int) (fun _ _ => rfl)))))), ?_⟩
      refine ⟨_, rfl, p, n, 5, rfl, hp, by decide, by decide, fun r H1 r0 r1 g1 => ?_⟩
      have rest : (tRet (tOp (rIxL K) (tLst (tCons (tTup (tCons (tC (.str "number")) tNil)) (tCons (tTup (tCons (tC (.str "truth")) tNil)) (tCons (tTup (tCons (tC (.str "record")) (tCons (tCall spName [] C8.E0 (tCons (tVar 0) tNil)) tNil))) tNil)))) (tOp (rI (fun _ j => j ≠ 0) fun i j => .int (i.fmod j)) (tVar 2) (tC (.int 3))))) { nx := fun _ H' => Q .non H', rt := Q } [some (.ref p), some (.int m), some (.int r)] H1 := by
        refine ⟨(by show 1 ≤ sizeLine; decide), fun t1 h1 => ⟨(by show 1 ≤ sizeLine; decide), fun t2 h2 => ?_⟩⟩
        have g2 := (g1.new (o := .tup [.str "number"]) h1).new (o := .tup [.str "truth"]) h2
        refine ⟨_, rfl, p, n, rfl, g2.2, fun z H2 hz g3 => ?_⟩
        refine ⟨(by show 2 ≤ sizeLine; decide), fun t3 h3 => ⟨(by show 3 ≤ sizeLine; decide), fun l hl => ?_⟩⟩
        refine ⟨_, rfl, _, _, rfl, rfl, (by show (3 : Int) ≠ 0; decide), ?_⟩
        have g4 := ((g2.trans g3).new (o := .tup [.str "record", .str z]) h3).new (o := .lst [.ref t1, .ref t2, .ref t3]) hl
        have n12 := ne_new h2
        have k1 : H2 t1 = some (.tup [.str "number"]) := (g3.tups g2.2) _ _ (by rw [upd_ne n12, upd_same])
        have k2 : H2 t2 = some (.tup [.str "truth"]) := (g3.tups g2.2) _ _ upd_same
        have s3 : ∀ {b : Addr} {xs : List V}, H2 b = some (.tup xs) → (upd (upd H2 t3 (.tup [.str "record", .str z])) l (.lst [.ref t1, .ref t2, .ref t3])) b = some (.tup xs) := fun h => (Same.new hl) _ _ ((Same.new h3) _ _ h)
        refine ixR upd_same (fmod_lo (by decide)) (by exact fmod_hi (by decide)) fun v hv => ?_
        rcases List.mem_cons.mp hv with rfl | hv
        · exact q _ (.tuple [.str "number"]) _ ((Sm.tup (SmAll.cons (lit (a := 0) (z := "number") (W := 10) (by decide) (by decide)) .nil) (by decide)).mono (by omega) (by omega)) (by simp [kindB]) (.tup (s3 k1) (.cons (.str _) .nil)) g4
        rcases List.mem_cons.mp hv with rfl | hv
        · exact q _ (.tuple [.str "truth"]) _ ((Sm.tup (SmAll.cons (lit (a := 0) (z := "truth") (W := 10) (by decide) (by decide)) .nil) (by decide)).mono (by omega) (by omega)) (by simp [kindB]) (.tup (s3 k2) (.cons (.str _) .nil)) g4
        · rw [List.mem_singleton.mp hv]
          exact q _ (.tuple [.str "record", .str z]) _ ((Sm.tup (SmAll.cons (lit (a := 0) (z := "record") (W := 6) (by decide) (by decide)) (SmAll.cons (name_sm hz (Nat.le_refl _)) .nil)) (by show 2 ≤ 60; decide)).mono (by omega) (by omega)) (by rw [kindB_rec]; exact hz) (.tup ((Same.new hl) _ _ upd_same) (.cons (.str _) (.cons (.str _) .nil))) g4
      refine ⟨_, rfl, _, _, rfl, rfl, _, rfl, ite2 (fun e => ?_) (fun e => ?_)⟩
      · refine ⟨_, rfl, _, _, rfl, rfl, _, rfl, ite2 (fun e2 => ?_) (fun e2 => ?_)⟩
        · have m0 : (0 : Int) < m := of_decide_eq_true e2
          refine ⟨_, rfl, _, rfl, _, _, rfl, rfl, p, m - 1, n, ?_, by omega, g1.2, fun v d H2 sm hk td g2 => ?_⟩
          · show [V.ref p, V.int ((m : Int) - 1)] = _
            rw [show ((m - 1 : Nat) : Int) = (m : Int) - 1 by omega]
          · refine ⟨(by show 2 ≤ sizeLine; decide), fun t ht => ?_⟩
            exact q _ (.tuple [.str "list", d]) _ ((Sm.tup (SmAll.cons (lit (z := "list") (W := 4) (by decide) (by decide)) (SmAll.cons sm .nil)) (by show 2 ≤ 60; decide)).mono (by omega) (by omega)) (by rw [kindB_list]; exact hk) (Td.newT ht (.cons (.str _) (.cons td .nil))) ((g1.trans g2).new ht)
        · exact rest
      · show (if (false : Bool) = true then _ else _)
        exact iteF rest
/-! ### leaves of terms -/
abbrev sLLeaf : Stmt := topS 38
abbrev NLLeaf : List Str := ["_law_pot_here", "_law_way"]
theorem scLLeaf : FnScope NLLeaf ["_law_pot_here"] (fnScope sLLeaf) := ⟨rfl, rfl, rfl, by decide +kernel, rfl, by decide +kernel, by decide +kernel⟩
theorem termB_leaf {u : Str} {d : PyData} (h1 : leafW u = true) (h2 : leafB u d = true) : termB (.tuple [.str u, d]) = true := by
  rw [term_leaf h1]
  show (true && leafB u d) = true
  rw [h2]
  rfl
def spLeaf : Sp := fun vs H Q _ => ∃ (p : Addr) (n : Int), vs = [.ref p] ∧ Pt H p n ∧ ∀ v d H', Sm 9 100 d → termB d = true → Td H' v d → Go p n H H' → Q v H'
theorem c_leaf (T : Tp mg) (c_LTake : Cal P w K mg base 1 "_law_take" spTake []) (c_LName : Cal P w K mg base 2 "_law_name" spName []) (c_LKind : Cal P w K mg base 10 "_law_kind" (spKind 8) []) {f : Addr} {fd : FuncData} (D : Def K mg "_law_leaf" sLLeaf f fd) (b : Binds K fd ["_law_pot_here"] []) : Cal P w K mg base 11 "_law_leaf" spLeaf [] := by
  refine cal0 D b .nil scLLeaf (fun vs H Q E h => ?_) (fun cdv A outer s H vs Q E hr h => ?_)
  · obtain ⟨p, n, rfl, _⟩ := h
    rfl
  · obtain ⟨p, n, rfl, hp, q⟩ := h
    have nd := scLLeaf.nd
    refine ⟨_, (pss_cons (ps_set (i := 1) nd rfl (.inl rfl) (pe_c c_LTake hr (by decide) (by rfl) (pa_cons (pv 0) (pa_cons pe_int pa_nil))))
    (pss_cons (ps_if (pt_cmpR op_eq (pv 1) pe_int (nomark _))
      (pss_one (ps_ret (pe_tup (pa_cons pe_str (pa_cons (pe_ix ix_list (pe_lst (pa_cons (pe_c c_LTake hr (by decide) (by rfl) (pa_cons (pv 0) (pa_cons pe_int pa_nil))) (pa_cons (pe_c c_LTake hr (by decide) (by rfl) (pa_cons (pv 0) (pa_cons (pe_op op_pow pe_int pe_int) pa_nil))) (pa_cons (pe_op op_sub (pe_op op_pow pe_int pe_int) pe_int) pa_nil)))) (pe_c c_LTake hr (by decide) (by rfl) (pa_cons (pv 0) (pa_cons pe_int pa_nil))) (fun _ _ => rfl)) pa_nil)))))
      pss_nil)
    (pss_cons (ps_if (pt_cmpR op_eq (pv 1) pe_int (nomark _))
      (pss_one (ps_ret (pe_tup (pa_cons pe_str (pa_cons (pe_cmpR op_eq (pe_c c_LTake hr (by decide) (by rfl) (pa_cons (pv 0) (pa_cons pe_int pa_nil))) pe_int (nomark _)) pa_nil)))))
      pss_nil)
    (pss_cons (ps_if (pt_cmpR op_eq (pv 1) pe_int (nomark _))
      (pss_one (ps_ret (pe_tup (pa_cons pe_str (pa_cons (pe_c c_LKind hr (by decide) (by rfl) (pa_cons (pv 0) (pa_cons pe_int pa_nil))) pa_nil)))))
      pss_nil)
    (pss_one (ps_ret (pe_tup (pa_cons (pe_ix ix_tup (pe_ix ix_list (pe_lst (pa_cons (pe_tup (pa_cons pe_str pa_nil)) (pa_cons (pe_tup (pa_cons pe_str pa_nil)) pa_nil))) (pe_op op_modN (pv 1) pe_int) (fun _ _ => rfl)) pe_int (fun _ _ => rfl)) (pa_cons (pe_c c_LName hr (by decide) (by rfl) (pa_cons (pv 0) pa_nil)) pa_nil))))))))), ?_⟩
    refine ⟨_, rfl, p, n, 6, rfl, hp, by decide, by decide, fun r H1 r0 r1 g1 => ?_⟩
    have two : ∀ {u : Str} {d : PyData} {W : Nat}, u.length ≤ 6 → W ≤ 90 → Sm 8 W d → Sm 9 100 (.tuple [.str u, d]) := fun hu hW sm => (Sm.tup (SmAll.cons (lit (W := 6) hu (by decide)) (SmAll.cons sm .nil)) (by show 2 ≤ 60; decide)).mono (Nat.le_refl _) (by omega)
    refine ⟨_, rfl, rfl, _, rfl, ite2 (fun e => ?_) (fun e => ?_)⟩
    · refine ⟨_, rfl, p, n, 5, rfl, g1.2, by decide, by decide, fun r2 H2 r20 r21 g2 => ?_⟩
      have g12 := g1.trans g2
      refine ⟨_, rfl, _, _, rfl, rfl, (by show (0 : Int) ≤ 12 ∧ _; decide), p, n, _, rfl, g12.2, (by decide), (by decide), fun r3 H3 r30 r31 g3 => ?_⟩
      have g123 := g12.trans g3
      refine ⟨_, _, rfl, rfl, (by show (0 : Int) ≤ 12 ∧ _; decide), _, _, rfl, rfl, (by show 3 ≤ sizeLine; decide), fun l hl => ?_⟩
      have g4 := g123.new (o := .lst [.int r2, .int r3, .int ((10 : Int) ^ (12 : Int).toNat - 1)]) hl
      have e12 : (10 : Int) ^ (12 : Int).toNat = 1000000000000 := by decide
      rw [e12] at r31
      refine ⟨_, rfl, p, n, 3, rfl, g4.2, by decide, by decide, fun r5 H5 r50 r51 g5 => ?_⟩
      refine ixR (g5.at (g123.ne hl) upd_same) r50 (by exact r51) fun v hv => ⟨(by show 2 ≤ sizeLine; decide), fun t ht => ?_⟩
      obtain ⟨i, rfl, hi0, hi1⟩ : ∃ i : Int, v = .int i ∧ 0 ≤ i ∧ i < 1000000000000 := by
        rcases List.mem_cons.mp hv with rfl | hv
        · exact ⟨_, rfl, r20, by omega⟩
        rcases List.mem_cons.mp hv with rfl | hv
        · exact ⟨_, rfl, r30, r31⟩
        · rw [List.mem_singleton.mp hv, e12]
          exact ⟨_, rfl, by decide, by decide⟩
      refine q _ (.tuple [.str "number", .int i]) _ (two (by decide) (by decide) (Sm.int (k := 40) (W := 40) ?_ (by decide) (by decide))) (termB_leaf (by decide +kernel) ?_) (Td.newT ht (.cons (.str _) (.cons (.int _) .nil))) ((g4.trans g5).new ht)
      · have : (2 : Nat) ^ 40 = 1099511627776 := by decide
        omega
      · show (decide (0 ≤ i) && decide (i < 1000000000000)) = true
        rw [decide_eq_true hi0, decide_eq_true hi1]
        rfl
    · refine ⟨_, rfl, rfl, _, rfl, ite2 (fun e => ?_) (fun e => ?_)⟩
      · refine ⟨_, rfl, p, n, 2, rfl, g1.2, by decide, by decide, fun r2 H2 r20 r21 g2 => ⟨rfl, (by show 2 ≤ sizeLine; decide), fun t ht => ?_⟩⟩
        exact q _ (.tuple [.str "truth", .bool _]) _ (two (by decide) (by decide : 0 ≤ 90) (.bool _)) (termB_leaf (by decide +kernel) rfl) (Td.newT ht (.cons (.str _) (.cons (.bl _) .nil))) ((g1.trans g2).new ht)
      · refine ⟨_, rfl, rfl, _, rfl, ite2 (fun e => ?_) (fun e => ?_)⟩
        · refine ⟨_, rfl, p, 7, n, rfl, by decide, g1.2, fun v d H2 sm hk td g2 => ⟨(by show 2 ≤ sizeLine; decide), fun t ht => ?_⟩⟩
          exact q _ (.tuple [.str "empty", d]) _ (two (by decide) (by decide) sm) (termB_leaf (by decide +kernel) hk) (Td.newT ht (.cons (.str _) (.cons td .nil))) ((g1.trans g2).new ht)
        · refine ⟨(by show 1 ≤ sizeLine; decide), fun t1 h1 => ⟨(by show 1 ≤ sizeLine; decide), fun t2 h2 => ⟨(by show 2 ≤ sizeLine; decide), fun l hl => ?_⟩⟩⟩
          have g2 := ((g1.new (o := .tup [.str "box"]) h1).new (o := .tup [.str "name"]) h2).new (o := .lst [.ref t1, .ref t2]) hl
          refine ⟨_, rfl, _, _, rfl, rfl, (by show (2 : Int) ≠ 0; decide), ?_⟩
          refine ixR upd_same (fmod_lo (by decide)) (by exact fmod_hi (by decide)) fun v hv => ?_
          have n2l := ne_new hl
          have n12 := ne_new h2
          have n1l : t1 ≠ l := fun z => by
            rw [← z, upd_ne n12, upd_same] at hl
            cases hl
          have fin : ∀ u : Str, u.length ≤ 6 → leafW u = true → (∀ z, nameS z = true → leafB u (.str z) = true) → (tCall spName [] C8.E0 (tCons (tVar 0) tNil)) [some (.ref p), some (.int r)] (upd (upd (upd H1 t1 (.tup [.str "box"])) t2 (.tup [.str "name"])) l (.lst [.ref t1, .ref t2])) fun y H5 => (2 ≤ sizeLine) ∧ ∀ t, H5 t = none → Q (.ref t) (upd H5 t (.tup [.str u, y])) := fun u hu hw hb =>
            ⟨_, rfl, p, n, rfl, g2.2, fun z H5 hz g5 => ⟨(by decide), fun t ht => q _ (.tuple [.str u, .str z]) _ (two hu (by decide : 8 ≤ 90) (name_sm hz (Nat.le_refl _))) (termB_leaf hw (hb z hz)) (Td.newT ht (.cons (.str _) (.cons (.str _) .nil))) ((g2.trans g5).new ht)⟩⟩
          rcases List.mem_cons.mp hv with rfl | hv
          · exact ⟨t1, _, _, .str "box", rfl, rfl, SqT.of (by rw [upd_ne n1l, upd_ne n12, upd_same]), atI_nat (j := 0) rfl, fin _ (by decide) (by decide +kernel) fun z hz => hz⟩
          · rw [List.mem_singleton.mp hv]
            exact ⟨t2, _, _, .str "name", rfl, rfl, SqT.of (by rw [upd_ne n2l, upd_same]), atI_nat (j := 0) rfl, fin _ (by decide) (by decide +kernel) fun z hz => hz⟩
end
end K25
set_option Elab.async false
set_option linter.all false
set_option maxRecDepth 100000
set_option maxHeartbeats 4000000
namespace K25
open PySem PySem.Spec PyProof.Rows L2 KD
open C8 (Cal Def cal0 pe_c fnBody fnScope fnArgs)
section
variable {K : PySem.W.Frag}
/-- things drawn in a comprehension over a range, the third number told -/
theorem lcN {p : Addr} {H : Hp} {n k : Nat} {n0 : Int} {te : TE} {σ : L2.St} {R9 : Addr → Hp → Prop} (I : Int → List V → Hp → Prop) (h0 : I n0 [] H) (mono : ∀ {m : Int} {vs : List V} {H H' : Hp}, TupS H H' → I m vs H → I m vs H') (hp : Pt H p n0) (hn : n ≤ 1000)
    (hstep : ∀ (i : Nat) (m : Int) (vs : List V) (H' : Hp) (Q' : VK), i < n → vs.length = i → I m vs H' → Pt H' p m → (∀ v m' H'', Go p m' H' H'' → I m' (vs ++ [v]) H'' → Q' v H'') → te ((wipe σ [k]).set k (some (.int (0 + (i : Int))))) H' Q')
    (hd : ∀ D H' m vs, D ≠ p → H D = none → H' D = some (.lst vs) → vs.length = n → I m vs H' → Go p m H H' → R9 D H') :
    ∀ D, H D = none → ∃ W : Nat → Nat → Hp → Prop, (∃ m, W 0 m (upd H D (.lst []))) ∧ ∀ i m H, W i m H →
      ((Itr 0 n).stop i H ∧ R9 D H) ∨ ((Itr 0 n).go i H ∧ ∃ Nx : Hp → Prop, (∀ H', Nx H' → ∃ m', m' < m ∧ W (i + 1) m' H') ∧ ∀ x H', (Itr 0 n).yld i H x H' → gName k x (wipe σ [k]) H' fun σ2 H2 => wipe σ2 [k] = wipe σ [k] ∧ tYes σ2 H2 fun b H3 =>
        if b = true then te σ2 H3 fun y H4 => ∃ acc, H4 D = some (.lst acc) ∧ acc.length < sizeLine ∧ Nx (upd H4 D (.lst (acc ++ [y]))) else Nx H3) := by
  intro D hD
  have nD := hp.ne hD
  refine lc_range (lo := 0) (n := n) (fun i H' => ∃ vs m, H' D = some (.lst vs) ∧ vs.length = i ∧ I m vs H' ∧ Go p m H H')
    ⟨[], n0, upd_same, rfl, mono (TupS.new hD) h0, But.new hD, hp.new hD⟩ (fun i H' hi hW => ?_) (fun H' hW => ?_)
  · obtain ⟨vs, m, hat, hl, hT, g⟩ := hW
    refine ⟨?_, ?_⟩
    · show ((wipe σ [k]).set k (some (.int (0 + (i : Int))))).set k none = wipe σ [k]
      rw [List.set_set]
      show ((σ.set k none).set k none) = σ.set k none
      rw [List.set_set]
    · unfold tYes; dsimp only
      rw [if_pos rfl]
      refine hstep i m vs H' _ hi hl hT g.2 fun v m2 H2 g2 tv => ?_
      have hat2 : H2 D = some (.lst vs) := g2.1 _ _ nD hat
      refine ⟨vs, hat2, by rw [hl, sizeLine_eq]; omega, vs ++ [v], m2, upd_same, by rw [List.length_append, hl]; rfl, mono (TupS.put hat2) tv, ?_⟩
      refine ⟨fun b o nb hb => ?_, ?_⟩
      · rw [upd_ne (fun z => by rw [z, hD] at hb; cases hb)]
        exact g2.1 b o nb (g.1 b o nb hb)
      · obtain ⟨x, y, a, r⟩ := g2.2
        exact ⟨x, y, by rw [upd_ne nD.symm]; exact a, r⟩
  · obtain ⟨vs, m, hat, hl, hT, g⟩ := hW
    exact hd D H' m vs nD hD hat hl hT g
theorem lcNL {p a : Addr} {xs : List V} {H : Hp} {k : Nat} {n0 : Int} {te : TE} {σ : L2.St} {R9 : Addr → Hp → Prop} (I : Int → List V → Hp → Prop) (h0 : I n0 [] H) (mono : ∀ {m : Int} {vs : List V} {H H' : Hp}, TupS H H' → I m vs H → I m vs H') (hp : Pt H p n0) (ha : H a = some (.lst xs)) (na : a ≠ p) (hn : xs.length ≤ 1000)
    (hstep : ∀ (i : Nat) (x : V) (m : Int) (vs : List V) (H' : Hp) (Q' : VK), xs[i]? = some x → vs.length = i → I m vs H' → Pt H' p m → (∀ v m' H'', Go p m' H' H'' → I m' (vs ++ [v]) H'' → Q' v H'') → te ((wipe σ [k]).set k (some x)) H' Q')
    (hd : ∀ D H' m vs, D ≠ p → H D = none → H' D = some (.lst vs) → vs.length = xs.length → I m vs H' → Go p m H H' → R9 D H') :
    ∀ D, H D = none → ∃ W : Nat → Nat → Hp → Prop, (∃ m, W 0 m (upd H D (.lst []))) ∧ ∀ i m H, W i m H →
      ((Itl K a).stop i H ∧ R9 D H) ∨ ((Itl K a).go i H ∧ ∃ Nx : Hp → Prop, (∀ H', Nx H' → ∃ m', m' < m ∧ W (i + 1) m' H') ∧ ∀ x H', (Itl K a).yld i H x H' → gName k x (wipe σ [k]) H' fun σ2 H2 => wipe σ2 [k] = wipe σ [k] ∧ tYes σ2 H2 fun b H3 =>
        if b = true then te σ2 H3 fun y H4 => ∃ acc, H4 D = some (.lst acc) ∧ acc.length < sizeLine ∧ Nx (upd H4 D (.lst (acc ++ [y]))) else Nx H3) := by
  intro D hD
  have nD := hp.ne hD
  refine lc_list (K := K) (a := a) (xs := xs) (fun i H' => ∃ vs m, H' D = some (.lst vs) ∧ vs.length = i ∧ I m vs H' ∧ Go p m H H')
    ⟨[], n0, upd_same, rfl, mono (TupS.new hD) h0, But.new hD, hp.new hD⟩ (fun i H' _ hW => ?_) (fun i x H' hi hW => ?_) (fun H' hW => ?_)
  · obtain ⟨vs, m, hat, hl, hT, g⟩ := hW
    exact SqL.of (g.at na ha)
  · obtain ⟨vs, m, hat, hl, hT, g⟩ := hW
    have hi' : i < xs.length := (List.getElem?_eq_some_iff.mp hi).1
    refine ⟨?_, ?_⟩
    · show ((wipe σ [k]).set k (some x)).set k none = wipe σ [k]
      rw [List.set_set]
      show ((σ.set k none).set k none) = σ.set k none
      rw [List.set_set]
    · unfold tYes; dsimp only
      rw [if_pos rfl]
      refine hstep i x m vs H' _ hi hl hT g.2 fun v m2 H2 g2 tv => ?_
      have hat2 : H2 D = some (.lst vs) := g2.1 _ _ nD hat
      refine ⟨vs, hat2, by rw [hl, sizeLine_eq]; omega, vs ++ [v], m2, upd_same, by rw [List.length_append, hl]; rfl, mono (TupS.put hat2) tv, ?_⟩
      refine ⟨fun b o nb hb => ?_, ?_⟩
      · rw [upd_ne (fun z => by rw [z, hD] at hb; cases hb)]
        exact g2.1 b o nb (g.1 b o nb hb)
      · obtain ⟨x, y, a, r⟩ := g2.2
        exact ⟨x, y, by rw [upd_ne nD.symm]; exact a, r⟩
  · obtain ⟨vs, m, hat, hl, hT, g⟩ := hW
    exact hd D H' m vs nD hD hat hl hT g
end
/-! ### the terms -/
def wides : List (Key × V) := [(.inr "not", .int 1), (.inr "many", .int 1), (.inr "field", .int 1), (.inr "pick", .int 3), (.inr "at", .int 3)]
def words16 : List V := [.str "add", .str "less", .str "times", .str "under", .str "same", .str "both", .str "join", .str "not", .str "many", .str "pick", .str "at", .str "field", .str "list", .str "pick", .str "at", .str "field"]
/-- a word with so many terms behind it -/
def wordOk (z : Str) (c : Nat) : Bool := !leafW z && decide (z.length ≤ 5) && decide (1 ≤ c) && decide (c ≤ 8) && (if z == "field" then c == 1 else if z == "list" then true else counts.lookup z == some (c : Int))
def wideOk (v : V) : Bool := match v with
  | .str z => (match (valV (mergeK [] wides) (.inr z)).getD (.int 2) with | .int i => decide (0 ≤ i) && (if z == "list" then decide (i = 2) else wordOk z i.toNat) | _ => false)
  | _ => false
theorem words_ok : words16.all wideOk = true := by decide +kernel
theorem lists_ok : ([1, 2, 3, 4, 5, 6, 7, 8].all fun c => wordOk "list" c) = true := by decide +kernel
theorem list_ok {c : Nat} (h1 : 1 ≤ c) (h8 : c ≤ 8) : wordOk "list" c = true := by
  refine List.all_eq_true.mp lists_ok c ?_
  have hc : c = 1 ∨ c = 2 ∨ c = 3 ∨ c = 4 ∨ c = 5 ∨ c = 6 ∨ c = 7 ∨ c = 8 := by omega
  rcases hc with rfl | rfl | rfl | rfl | rfl | rfl | rfl | rfl <;> simp
theorem wide_of {v : V} (h : v ∈ words16) : ∃ z i, v = .str z ∧ (valV (mergeK [] wides) (.inr z)).getD (.int 2) = .int i ∧ 0 ≤ i ∧ ((z == ("list" : Str)) = false → wordOk z i.toNat = true) := by
  have h2 := List.all_eq_true.mp words_ok v h
  unfold wideOk at h2
  split at h2
  · rename_i z
    split at h2
    · rename_i i e
      rw [Bool.and_eq_true] at h2
      refine ⟨z, i, rfl, e, of_decide_eq_true h2.1, fun hz => ?_⟩
      have h3 := h2.2
      rw [hz] at h3
      exact h3
    · cases h2
  · cases h2
structure WordIs (z : Str) (c : Nat) : Prop where
  lf : leafW z = false
  ln : z.length ≤ 5
  c1 : 1 ≤ c
  c8 : c ≤ 8
  fl : (z == ("field" : Str)) = true → c = 1
  ot : (z == ("field" : Str)) = false → ∀ ds : List PyData, ds.length = c → shapedW z ds = true
theorem wordIs {z : Str} {c : Nat} (h : wordOk z c = true) : WordIs z c := by
  unfold wordOk at h
  simp only [Bool.and_eq_true, Bool.not_eq_true', decide_eq_true_eq] at h
  obtain ⟨⟨⟨⟨h1, h2⟩, h3⟩, h4⟩, h5⟩ := h
  refine ⟨h1, h2, h3, h4, fun e => ?_, fun e ds hl => ?_⟩
  · rw [e] at h5
    exact beq_iff_eq.mp h5
  · rw [e] at h5
    unfold shapedW
    rw [h1, e]
    by_cases e2 : (z == ("list" : Str)) = true
    · simp only [e2, if_true, Bool.false_eq_true, if_false]
      exact decide_eq_true (by omega)
    · have e2' := eq_false_of_ne_true e2
      rw [e2'] at h5 ⊢
      have h6 : counts.lookup z = some (c : Int) := beq_iff_eq.mp h5
      simp only [Bool.false_eq_true, if_false, h6]
      exact decide_eq_true (by rw [hl])
/-- a term drawn, deep at most m: how many terms were drawn within is told by the pot's third number -/
def Drawn (p : Addr) (m : Nat) (n : Int) (H : Hp) (Q : VK) : Prop :=
  ∀ v d H' n' (W : Nat), n' ≤ n → (n' = n ∨ 1 ≤ n') → (W : Int) ≤ 100 + 100 * (n - n') → Sm (m + 9) W d → termB d = true → Td H' v d → Go p n' H H' → Q v H'
def spT (j : Nat) : Sp := fun vs H Q _ => ∃ (p : Addr) (n : Int) (m : Nat), vs = [.ref p, .int m] ∧ m < j ∧ Pt H p n ∧ Drawn p m n H Q
/-- terms drawn, one behind another -/
structure Terms (m : Nat) (n n' : Int) (vs : List V) (H : Hp) (ds : List PyData) (W : Nat) : Prop where
  le : n' ≤ n
  lo : n' = n ∨ 1 ≤ n'
  wt : (W : Int) ≤ 101 * (vs.length : Int) + 100 * (n - n')
  sm : SmAll (m + 9) W ds
  tm : ds.all termB = true
  td : TdAll H vs ds
theorem Terms.snoc {m : Nat} {n n' n2 : Int} {vs : List V} {H H' : Hp} {ds : List PyData} {W W2 : Nat} {v : V} {d : PyData} (t : Terms m n n' vs H ds W) (e : TupS H H') (h1 : n2 ≤ n') (h2 : n2 = n' ∨ 1 ≤ n2) (h3 : (W2 : Int) ≤ 100 + 100 * (n' - n2)) (sm : Sm (m + 9) W2 d) (tb : termB d = true) (td : Td H' v d) :
    Terms m n n2 (vs ++ [v]) H' (ds ++ [d]) (W + (W2 + 1 + 0)) := by
  refine ⟨Int.le_trans h1 t.le, ?_, ?_, t.sm.app (SmAll.cons sm .nil), ?_, (t.td.mono e).app (.cons td .nil)⟩
  · have := t.lo
    have := t.le
    omega
  · have := t.wt
    rw [List.length_append, List.length_singleton]
    omega
  · rw [List.all_append, t.tm]
    simp [tb]
section
variable {P : Program} {w : World} {K : PySem.W.Frag} {mg : Str → Option Value} {base : Heap}
abbrev sLTerm : Stmt := topS 39
abbrev NLTerm : List Str := ["_law_pot_here", "_law_deep", "_law_way", "_law_words", "_law_word", "_law_wide", "_law_parts", "_law_k"]
theorem scLTerm : FnScope NLTerm ["_law_pot_here", "_law_deep"] (fnScope sLTerm) := ⟨rfl, rfl, rfl, by decide +kernel, rfl, by decide +kernel, by decide +kernel⟩
theorem c_term (T : Tp mg) (c_LTake : Cal P w K mg base 1 "_law_take" spTake []) (c_LName : Cal P w K mg base 2 "_law_name" spName []) (c_LLeaf : Cal P w K mg base 11 "_law_leaf" spLeaf []) {f : Addr} {fd : FuncData} (D : Def K mg "_law_term" sLTerm f fd) (b : Binds K fd ["_law_pot_here", "_law_deep"] []) :
    ∀ n : Nat, Cal P w K mg base (11 + n) "_law_term" (spT n) []
  | 0 => cal_no _ (fun vs H Q E ⟨p, n, m, _, h, _⟩ => absurd h (Nat.not_lt_zero _)) D b
  | j + 1 => by
    have c_LTerm := c_term T c_LTake c_LName c_LLeaf D b j
    refine cal0 D b .nil scLTerm (fun vs H Q E h => ?_) (fun cdv A outer s H vs Q E hr h => ?_)
    · obtain ⟨p, n, m, rfl, _⟩ := h
      rfl
    · obtain ⟨p, n, m, rfl, hm, hp, q⟩ := h
      have nd := scLTerm.nd
      have hr := (show Room (11 + j) _ from hr)
      have hu1 : (A.deeper (envOfC "_law_term" (fnScope sLTerm) s.heap.objs.size f cdv)).units + 1 < cLine := by have := hr.un; omega
      refine ⟨_, (pss_cons (ps_set (i := 2) nd rfl (.inl rfl) (pe_c c_LTake hr (by omega) (by rfl) (pa_cons (pv 0) (pa_cons pe_int pa_nil))))
    (C8.pss_cut (ps_if (PW.pt (pw_or (pt_cmpR op_lt (pv 2) pe_int (nomark _)) (pw_or (pt_cmpR op_eq (pv 1) pe_int (nomark _)) (pw_or1 (pt_cmpR op_lt (pe_ix ix_list (pv 0) pe_int (fun _ _ => rfl)) pe_int (nomark _))))))
      (pss_one (ps_ret (pe_c c_LLeaf hr (by omega) (by rfl) (pa_cons (pv 0) pa_nil))))
      pss_nil)
    (pss_cons (ps_set (i := 3) nd rfl (.inl rfl) (pe_lst (pa_cons pe_str (pa_cons pe_str (pa_cons pe_str (pa_cons pe_str (pa_cons pe_str (pa_cons pe_str (pa_cons pe_str (pa_cons pe_str (pa_cons pe_str (pa_cons pe_str (pa_cons pe_str (pa_cons pe_str (pa_cons pe_str pa_nil)))))))))))))))
    (pss_cons (ps_set (i := 4) nd rfl (.inl rfl) (pe_ix ix_list (pe_op op_cat (pv 3) (pe_lst (pa_cons pe_str (pa_cons pe_str (pa_cons pe_str pa_nil))))) (pe_op op_sub (pv 2) pe_int) (fun _ _ => rfl)))
    (pss_cons (ps_set (i := 5) nd rfl (.inl rfl) (pe_dget2 hu1 (pe_disp (pps_cons pe_str pe_int (pps_cons pe_str pe_int (pps_cons pe_str pe_int (pps_cons pe_str pe_int (pps_cons pe_str pe_int pps_nil))))) rfl rfl (fun e => nomatch e) (by decide)) (pv 4) pe_int ⟨rfl, rfl, rfl, rfl⟩))
    (C8.pss_cut (ps_if (pt_cmpR op_eq (pv 4) pe_str (nomark _))
      (pss_one (ps_set (i := 5) nd rfl (.inl rfl) (pe_op op_add pe_int (pe_c c_LTake hr (by omega) (by rfl) (pa_cons (pv 0) (pa_cons pe_int pa_nil))))))
      pss_nil)
    (pss_cons (ps_asg (pe_op op_sub (pe_ix ix_list (pv 0) pe_int (fun _ _ => rfl)) (pv 5)) (pg_sub (pv 0) pe_int set_list))
    (pss_cons (ps_setLc (i := 6) (own := [("_law_k", 7)]) (g := gName 7) rfl nd rfl rfl (sw_true rfl rfl rfl (by decide +kernel)) (pi_range1 (by rfl) T.n_range (pa_cons (pv 5) pa_nil)) (blkOk_by (own := [("_law_k", 7)]) (N := NLTerm) (sc := fnScope sLTerm) (by decide +kernel)) (fun _ _ _ _ _ => pg_name (i := 7) nd rfl (Or.inl rfl)) (fun _ _ _ _ _ => pts_nil) (fun _ _ _ _ _ => (pe_c c_LTerm hr (by omega) (by rfl) (pa_cons (pv 0) (pa_cons (pe_op op_sub (pv 1) pe_int) pa_nil)))))
    (C8.pss_cut (ps_if (pt_cmpR op_eq (pv 4) pe_str (nomark _))
      (pss_one (ps_expr (pe_bm PySem.F.plainAttrs_list PySem.F.slot_list_append PySem.F.type_list_append mt_append (pv 6) (pa_cons (pe_c c_LName hr (by omega) (by rfl) (pa_cons (pv 0) pa_nil)) pa_nil))))
      pss_nil)
    (pss_one (ps_ret (pe_op op_catA (pe_tup (pa_cons (pv 4) pa_nil)) (pe_callTy call_tuple_of (by rfl) T.n_tuple (by decide +kernel) (pa_cons (pv 6) pa_nil)))))))))))))), ?_⟩
      refine ⟨_, rfl, p, n, 22, rfl, hp, by decide, by decide, fun r H1 r0 r1 g1 => ?_⟩
      refine ⟨fun σ' H' => σ' = [some (.ref p), some (.int m), some (.int r), none, none, none, none, none] ∧ 0 < m ∧ 6 ≤ r ∧ 9 ≤ n ∧ Go p n H H', ?_, ?_⟩
      · have leaf : ∀ D : Ends, D.rt = Q → (tRet (tCall spLeaf [] C8.E0 (tCons (tVar 0) tNil))) D [some (.ref p), some (.int m), some (.int r), none, none, none, none, none] H1 := fun D hD => by
          refine ⟨_, rfl, p, n, rfl, g1.2, fun v d H2 sm tb td g2 => ?_⟩
          rw [hD]
          exact q v d H2 n 100 (Int.le_refl _) (.inl rfl) (by omega) (sm.mono (by omega) (Nat.le_refl _)) tb td (g1.trans g2)
        refine ⟨_, rfl, _, _, rfl, rfl, _, rfl, ite2 (fun e => iteT (leaf _ rfl)) (fun e => ?_)⟩
        refine ⟨_, rfl, rfl, _, rfl, ite2 (fun e2 => iteT (leaf _ rfl)) (fun e2 => ?_)⟩
        obtain ⟨x, y, hat, _⟩ := id g1.2
        refine ⟨_, rfl, _, _, _, _, rfl, rfl, SqL.of hat, atI_nat (j := 2) rfl, _, _, rfl, rfl, _, rfl, ite2 (fun e3 => leaf _ rfl) (fun e3 => ?_)⟩
        have e' : ¬ r < 6 := fun z => e (decide_eq_true z)
        have e2' : (m : Int) ≠ 0 := fun z => e2 (decide_eq_true (by rw [z]))
        have e3' : ¬ n < 9 := fun z => e3 (decide_eq_true z)
        exact ⟨rfl, by omega, by omega, by omega, g1⟩
      · rintro σ' H2 ⟨rfl, m0, r6, n9, g2⟩
        refine ⟨(by show 13 ≤ sizeLine; decide), fun l1 h1 => ⟨_, rfl, (by show 3 ≤ sizeLine; decide), fun l2 h2 => ?_⟩⟩
        refine ⟨l1, l2, _, _, rfl, rfl, by rw [upd_ne (ne_new h2), upd_same], upd_same, (by show 16 ≤ sizeLine; decide), fun l3 h3 => ?_⟩
        refine ⟨_, rfl, _, _, rfl, rfl, ?_⟩
        refine ixR (xs := words16) upd_same (by omega) (by show r - 6 < 16; omega) fun v hv => ?_
        obtain ⟨z, wd, rfl, hw, w0, hwd⟩ := wide_of hv
        refine fun d hd => ⟨upd_same, wides, rfl, (by decide), d, rfl, .inl ⟨_, .inl upd_same⟩, _, rfl, _, DGet.k (k := .inr z) upd_same, ?_⟩
        rw [hw]
        refine ⟨fun σ' H' => ∃ l c, σ' = [some (.ref p), some (.int m), some (.int r), some (.ref l), some (.str z), some (.int ((c : Nat) : Int)), none, none] ∧ WordIs z c ∧ Go p n H H', ?_, ?_⟩
        · refine ⟨_, rfl, rfl, _, rfl, ?_⟩
          rw [dec_str]
          refine ite2 (fun e => ?_) (fun e => ?_)
          · refine ⟨_, rfl, p, n, 8, rfl, (Go.new2 (((g2.new h1).new h2).new h3) hd).2, by decide, by decide, fun r4 H4 r40 r41 g4 => ?_⟩
            have ez := beq_iff_eq.mp e
            refine ⟨_, _, rfl, rfl, l1, (1 + r4).toNat, ?_, ?_, (Go.new2 (((g2.new h1).new h2).new h3) hd).trans g4⟩
            · rw [show (((1 + r4).toNat : Nat) : Int) = 1 + r4 by omega]
              rfl
            · rw [ez]
              exact wordIs (list_ok (by omega) (by omega))
          · refine ⟨l1, wd.toNat, ?_, wordIs (hwd (eq_false_of_ne_true e)), (Go.new2 (((g2.new h1).new h2).new h3) hd)⟩
            rw [show ((wd.toNat : Nat) : Int) = wd by omega]
            rfl
        · rintro σ' H5 ⟨l, c, rfl, wi, g5⟩
          have c1 := wi.c1
          have c8 := wi.c8
          obtain ⟨x, y, hat, x0, y0, y1⟩ := id g5.2
          refine ⟨_, rfl, _, _, _, _, rfl, rfl, SqL.of hat, atI_nat (j := 2) rfl, _, rfl, _, _, rfl, rfl, _, rfl, _, _, _, 2, rfl, rfl, hat, rfl, ?_⟩
          have g6 : Go p (n - (c : Int)) H (upd H5 p (.lst [.int x, .int y, .int (n - (c : Int))])) := Go.put g5.1 x0 y0 y1
          refine ⟨_, rfl, (c : Int), rfl, by omega, by omega, ?_⟩
          rw [Int.toNat_natCast]
          refine lcN (n := c) (fun n' vs H' => ∃ ds W, Terms (m - 1) (n - (c : Int)) n' vs H' ds W) ⟨[], 0, Int.le_refl _, .inl rfl, by simp, .nil, rfl, .nil⟩ (fun e ⟨ds, W, t⟩ => ⟨ds, W, t.le, t.lo, t.wt, t.sm, t.tm, t.td.mono e⟩) g6.2 (by omega) (fun i n1 vs H' Q' hi hl ⟨ds, W, t⟩ hp' hq => ?_) (fun Dl H' n1 vs nD hD hat' hl ⟨ds, W, t⟩ g7 => ?_)
          · refine ⟨_, rfl, _, rfl, _, _, rfl, rfl, p, n1, m - 1, ?_, by omega, hp', fun v d H2 n2 W2 a1 a2 a3 a4 a5 a6 g => hq v n2 H2 g ⟨_, _, t.snoc (g.tups hp') a1 a2 a3 a4 a5 a6⟩⟩
            show [V.ref p, V.int ((m : Int) - 1)] = _
            rw [show ((m - 1 : Nat) : Int) = (m : Int) - 1 by omega]
          · have g8 := g6.trans g7
            have tle := t.le
            have tlo := t.lo
            have twt := t.wt
            have tln := t.td.len
            have ea : m - 1 + 9 + 1 = m + 9 := by omega
            rw [hl] at twt
            refine ⟨fun σ' H' => σ' = [some (.ref p), some (.int m), some (.int r), some (.ref l), some (.str z), some (.int (c : Int)), some (.ref Dl), none] ∧ (∃ us es W2, H' Dl = some (.lst us) ∧ TdAll H' us es ∧ us.length ≤ 9 ∧ 1 ≤ us.length ∧ SmAll (m - 1 + 9) W2 es ∧ W2 ≤ W + 9 ∧ termB (.tuple (.str z :: es)) = true) ∧ Go p n1 H H', ?_, ?_⟩
            · refine ⟨_, rfl, rfl, _, rfl, ?_⟩
              rw [dec_str]
              refine ite2 (fun e => ?_) (fun e => ?_)
              · refine ⟨_, rfl, (.inl ⟨rfl, _, SqL.of hat'⟩), _, rfl, p, n1, rfl, g8.2, fun y H9 hy g9 => ?_⟩
                have hat9 : H9 Dl = some (.lst vs) := g9.1 _ _ nD hat'
                refine ⟨Dl, vs, _, rfl, rfl, hat9, by rw [sizeLine_eq]; omega, rfl, ⟨_, ds ++ [.str y], W + (8 + 1 + 0), upd_same, ?_, ?_, ?_, ?_, by omega, ?_⟩, ?_⟩
                · exact ((t.td.mono (g9.tups g8.2)).app (.cons (.str _) .nil)).mono (TupS.put hat9)
                · rw [List.length_append, List.length_singleton]
                  omega
                · rw [List.length_append, List.length_singleton]
                  omega
                · exact t.sm.app (SmAll.cons (name_sm hy (Nat.le_refl _)) .nil)
                · have ez := beq_iff_eq.mp e
                  have hc1 := wi.fl e
                  have tm := t.tm
                  obtain ⟨d1, rfl⟩ : ∃ d1, ds = [d1] := one_of (by omega)
                  rw [ez, List.singleton_append, term_field]
                  show (true && (termB d1 && nameS y)) = true
                  rw [hy, Bool.true_and, Bool.and_true]
                  simpa using tm
                · have g10 := g8.trans g9
                  refine ⟨fun b o nb hb => ?_, ?_⟩
                  · by_cases e : b = Dl
                    · rw [e] at hb
                      exact nomatch (hD.symm.trans (g6.1 Dl _ (e ▸ nb) hb) : none = some o)
                    · rw [upd_ne e]
                      exact g10.1 b o nb hb
                  · obtain ⟨x, y, a, r⟩ := g10.2
                    exact ⟨x, y, by rw [upd_ne nD.symm]; exact a, r⟩
              · refine ⟨rfl, ⟨vs, ds, W, hat', t.td, by omega, by omega, t.sm, by omega, ?_⟩, g8⟩
                rw [term_rest wi.lf (eq_false_of_ne_true e), wi.ot (eq_false_of_ne_true e) ds (by omega), t.tm, decide_eq_true (show 1 ≤ ds.length by omega)]
                rfl
            · rintro σ' H9 ⟨rfl, ⟨us, es, W2, hus, htd, ul, ul1, sm, hW2, htm⟩, g9⟩
              have hln := htd.len
              refine ⟨_, rfl, (by show 1 ≤ sizeLine; decide), fun t ht => ⟨_, rfl, Dl, us, rfl, .inl ⟨SqL.of (by rw [upd_ne (fun e => by rw [← e, hus] at ht; cases ht)]; exact hus), fun t2 ht2 => ?_⟩⟩⟩
              refine ⟨t, t2, [.str z], us, rfl, rfl, SqT.of (by rw [upd_ne (ne_new ht2), upd_same]), SqT.of upd_same, ?_, (fun e => nomatch e), (fun _ e => ?_), fun _ _ t3 ht3 => ?_⟩
              · rw [sizeLine_eq]
                simp only [List.length_cons, List.length_nil]
                omega
              · rw [e] at ul1
                exact absurd ul1 (by decide)
              · have zl := wi.ln
                refine q _ (.tuple (.str z :: es)) _ n1 (5 + 1 + W2) (by omega) (by omega) (by omega) ?_ htm (Td.newT ht3 (.cons (.str _) (htd.mono ((TupS.new ht).trans (TupS.new ht2))))) (((g9.new ht).new ht2).new ht3)
                rw [← ea]
                exact Sm.tup (SmAll.cons (lit zl (by decide)) sm) (by rw [List.length_cons]; omega)
abbrev sLSome : Stmt := topS 40
abbrev NLSome : List Str := ["_law_pot_here", "_law_left"]
theorem scLSome : FnScope NLSome ["_law_pot_here", "_law_left"] (fnScope sLSome) := ⟨rfl, rfl, rfl, by decide +kernel, rfl, by decide +kernel, by decide +kernel⟩
def spSome : Sp := fun vs H Q _ => ∃ (p : Addr) (m : Nat) (n : Int), vs = [.ref p, .int m] ∧ m ≤ 60 ∧ Pt H p n ∧ ∀ v d n' H', Sm 19 (100 + 100 * m) d → termB d = true → Td H' v d → Go p n' H H' → Q v H'
theorem c_some (c_LTerm : Cal P w K mg base 22 "_law_term" (spT 11) []) {f : Addr} {fd : FuncData} (D : Def K mg "_law_some" sLSome f fd) (b : Binds K fd ["_law_pot_here", "_law_left"] []) : Cal P w K mg base 23 "_law_some" spSome [] := by
  refine cal0 D b .nil scLSome (fun vs H Q E h => ?_) (fun cdv A outer s H vs Q E hr h => ?_)
  · obtain ⟨p, m, n, rfl, _⟩ := h
    rfl
  · obtain ⟨p, m, n, rfl, hm, hp, q⟩ := h
    refine ⟨_, (pss_cons (ps_asg (pv 1) (pg_sub (pv 0) pe_int set_list))
    (pss_one (ps_ret (pe_c c_LTerm hr (by decide) (by rfl) (pa_cons (pv 0) (pa_cons pe_int pa_nil)))))), ?_⟩
    obtain ⟨x, y, hat, x0, y0, y1⟩ := id hp
    refine ⟨_, rfl, _, rfl, _, _, _, 2, rfl, rfl, hat, rfl, ?_⟩
    have g : Go p (m : Int) H (upd H p (.lst [.int x, .int y, .int m])) := Go.put (But.refl p H) x0 y0 y1
    exact ⟨_, rfl, p, m, 10, rfl, by decide, g.2, fun v d H2 n' W a1 a2 a3 a4 a5 a6 g2 => q v d n' H2 (a4.mono (by decide) (by omega)) a5 a6 (g.trans g2)⟩
end
end K25
set_option Elab.async false
set_option linter.all false
set_option maxRecDepth 100000
set_option maxHeartbeats 4000000
namespace K25
open PySem PySem.Spec PyProof.Rows L2 KD
open C8 (Cal Def cal0 pe_c fnBody fnScope fnArgs)
theorem names_of : ∀ (vs : List V), (∀ v ∈ vs, nameV v = true) → ∃ zs : List Str, vs = zs.map V.str ∧ ∀ z ∈ zs, nameS z = true
  | [], _ => ⟨[], rfl, fun z hz => nomatch hz⟩
  | v :: vs, h => by
    obtain ⟨z, rfl, ha⟩ : ∃ z, v = .str z ∧ nameS z = true := by
      have h1 := h v List.mem_cons_self
      cases v <;> first | exact ⟨_, rfl, h1⟩ | cases h1
    obtain ⟨zs, e, ha2⟩ := names_of vs fun u hu => h u (List.mem_cons_of_mem _ hu)
    exact ⟨z :: zs, by rw [e]; rfl, fun y hy => (List.mem_cons.mp hy).elim (fun c => c ▸ ha) (ha2 y)⟩
theorem rises_of {ys : List Str} (nd : ys.Nodup) (so : sortedS ys = true) : rises ys = true := by
  refine pw_rises ?_
  exact ((sortedS_pw ys so).and nd).imp fun {a b} hab => by
    rcases Decidable.em (a.cps.toList < b.cps.toList) with h | h
    · exact h
    · exact absurd (cps_inj (List.le_antisymm hab.1 (List.not_lt.mp h))) hab.2
/-- pairs of names and terms -/
structure Fields (ys : List Str) (vs : List V) (H : Hp) (ds : List PyData) (W : Nat) : Prop where
  wt : W ≤ 2112 * vs.length
  sm : SmAll 20 W ds
  td : TdAll H vs ds
  fs : ds.map firstS = ys.take vs.length
  nm : ds.all namedPairB = true
  tm : ds.all (secondB termB) = true
theorem Fields.snoc {ys : List Str} {vs : List V} {H H' : Hp} {ds : List PyData} {W : Nat} {z : Str} {v : V} {d : PyData} (t : Fields ys vs H ds W) (e : TupS H H') (hz : nameS z = true) (hy : ys[vs.length]? = some z) (sm : Sm 19 2100 d) (tb : termB d = true) (td : Td H' v (.tuple [.str z, d])) :
    Fields ys (vs ++ [v]) H' (ds ++ [.tuple [.str z, d]]) (W + ((8 + 1 + (2100 + 1 + 0)) + 1 + 0)) := by
  have s1 : Sm 20 (8 + 1 + (2100 + 1 + 0)) (.tuple [.str z, d]) := (Sm.tup (SmAll.cons (W := 8) (name_sm hz (Nat.le_refl _)) (SmAll.cons sm SmAll.nil)) (by show 2 ≤ 60; decide)).mono (Nat.le_refl _) (by decide)
  refine ⟨?_, t.sm.app (SmAll.cons s1 SmAll.nil), (t.td.mono e).app (.cons td .nil), ?_, ?_, ?_⟩
  · have := t.wt
    rw [List.length_append, List.length_singleton]
    omega
  · rw [List.map_append, t.fs, List.length_append, List.length_singleton, List.take_succ, hy]
    rfl
  · rw [List.all_append, t.nm]
    simp [namedPairB, nameB, hz]
  · rw [List.all_append, t.tm]
    simp [secondB, tb]
/-- the rows that a row goes on with, beside the next one -/
def jumpI : PyData → List Int
  | .tuple [.str u, .int i] => if u == "go" then [i] else []
  | .tuple [.str u, _, .int i] => if u == "unless" then [i] else []
  | _ => []
theorem jump_none {u : Str} {rest : List PyData} (h1 : ¬ (u == ("go" : Str)) = true) (h2 : ¬ (u == ("unless" : Str)) = true) : jumpI (.tuple (.str u :: rest)) = [] := by
  unfold jumpI
  split
  · rename_i e
    cases e
    rw [if_neg h1]
  · rename_i e
    cases e
    rw [if_neg h2]
  · rfl
theorem jump_unless (d1 : PyData) (i : Int) : jumpI (.tuple [.str "unless", d1, .int i]) = [i] := by
  cases d1 <;> rfl
theorem jump_lt {R : Int} {u : Str} {rest : List PyData} (h1 : u ≠ "go") (h2 : u ≠ "unless") : ∀ i ∈ jumpI (.tuple (.str u :: rest)), i < R := by
  rw [jump_none (fun e => h1 (eq_of_beq e)) (fun e => h2 (eq_of_beq e))]
  exact fun i hi => nomatch hi
def wordsR : List Str := ["let", "put", "set", "new", "call", "tell", "go", "unless", "back"]
theorem wordsR_ok : wordsR.all (fun z => decide (z.length ≤ 6)) = true := by decide +kernel
section
variable {P : Program} {w : World} {K : PySem.W.Frag} {mg : Str → Option Value} {base : Heap}
abbrev sLNames : Stmt := topS 41
abbrev NLNames : List Str := ["_law_pot_here", "_law_most", "_law_k"]
theorem scLNames : FnScope NLNames ["_law_pot_here", "_law_most"] (fnScope sLNames) := ⟨rfl, rfl, rfl, by decide +kernel, rfl, by decide +kernel, by decide +kernel⟩
def spNames : Sp := fun vs H Q _ => ∃ (p : Addr) (m : Nat) (n : Int), vs = [.ref p, .int m] ∧ m < 60 ∧ Pt H p n ∧ ∀ (l : Addr) (ys : List Str) (n' : Int) (H' : Hp), H l = none → H' l = some (.lst (ys.map V.str)) → ys.length ≤ m → rises ys = true → (∀ y ∈ ys, nameS y = true) → l ≠ p → Go p n' H H' → Q (.ref l) H'
theorem c_names (T : Tp mg) (c_LTake : Cal P w K mg base 1 "_law_take" spTake []) (c_LName : Cal P w K mg base 2 "_law_name" spName []) {f : Addr} {fd : FuncData} (D : Def K mg "_law_names" sLNames f fd) (b : Binds K fd ["_law_pot_here", "_law_most"] []) : Cal P w K mg base 3 "_law_names" spNames [] := by
  refine cal0 D b .nil scLNames (fun vs H Q E h => ?_) (fun cdv A outer s H vs Q E hr h => ?_)
  · obtain ⟨p, m, n, rfl, _⟩ := h
    rfl
  · obtain ⟨p, m, n, rfl, hm, hp, q⟩ := h
    have nd := scLNames.nd
    refine ⟨_, (pss_one (ps_ret (pe_callB (cr_sortedX rfl) (by rfl) T.n_sorted (by decide +kernel) (pa_cons (pe_callTy (cr_setS rfl) (by rfl) T.n_set (by decide +kernel) (pa_cons (pe_lc (own := [("_law_k", 2)]) (g := gName 2) (by rfl) nd (pi_range1 (by rfl) T.n_range (pa_cons (pe_c c_LTake hr (by decide) (by rfl) (pa_cons (pv 0) (pa_cons (pe_op op_add (pv 1) pe_int) pa_nil))) pa_nil)) (blkOk_by (own := [("_law_k", 2)]) (N := NLNames) (sc := fnScope sLNames) (by decide +kernel)) (fun _ _ _ _ _ => pg_name (i := 2) nd rfl (Or.inl rfl)) (fun _ _ _ _ _ => pts_nil) (fun _ _ _ _ _ => (pe_c c_LName hr (by decide) (by rfl) (pa_cons (pv 0) pa_nil)))) pa_nil)) pa_nil)))), ?_⟩
    refine ⟨_, rfl, _, rfl, _, _, rfl, rfl, p, n, (m : Int) + 1, rfl, hp, by omega, small300 (by omega) (by omega), fun r H1 r0 r1 g1 => ?_⟩
    refine ⟨r, rfl, by omega, by omega, ?_⟩
    refine lcN (n := r.toNat) (fun _ vs _ => ∀ v ∈ vs, nameV v = true) (fun v hv => nomatch hv) (fun _ h => h) g1.2 (by omega) (fun i n1 vs H' Q' hi hl hI hp' hq => ?_) (fun Dl H' n1 vs nD hD hat hl ht g2 => ?_)
    · refine ⟨_, rfl, p, n1, rfl, hp', fun z H2 ha g => hq _ n1 H2 g fun v hv => ?_⟩
      rcases List.mem_append.mp hv with hv | hv
      · exact hI v hv
      · rw [List.mem_singleton.mp hv]
        exact ha
    · obtain ⟨zs, rfl, hza⟩ := names_of vs ht
      rw [List.length_map] at hl
      refine ⟨Dl, zs, rfl, SqL.of hat, by omega, fun a ha => ?_⟩
      have hdl := dd_len zs []
      have hdl' : (dd zs).length ≤ zs.length := by
        simp only [List.length_nil] at hdl
        show (zs.foldl more []).length ≤ _
        omega
      refine ⟨a, dd zs, rfl, upd_same, by omega, fun ys l pm so hl2 => ?_⟩
      refine q l ys n1 _ (((g1.trans g2).new ha).fresh hl2) upd_same (by rw [pm.length_eq]; omega) (rises_of (pm.nodup_iff.mpr (dd_nodup zs [] List.nodup_nil)) so) (fun y hy => ((dd_mem zs [] y).mp (pm.mem_iff.mp hy)).elim (fun c => nomatch c) (hza y)) (((g1.trans g2).new ha).ne hl2) (((g1.trans g2).new ha).new hl2)
abbrev sLRow : Stmt := topS 42
abbrev NLRow : List Str := ["_law_pot_here", "_law_left", "_law_rows", "_law_word", "_law_fields", "_law_terms", "_law_name_here", "_law_k"]
theorem scLRow : FnScope NLRow ["_law_pot_here", "_law_left", "_law_rows"] (fnScope sLRow) := ⟨rfl, rfl, rfl, by decide +kernel, rfl, by decide +kernel, by decide +kernel⟩
/-- a row drawn -/
def RowIs (R : Int) (H' : Hp) (v : V) (d : PyData) : Prop := Sm 22 20000 d ∧ rowB d = true ∧ (∀ i ∈ jumpI d, i < R) ∧ Td H' v d
def spRow : Sp := fun vs H Q _ => ∃ (p : Addr) (n R : Int), vs = [.ref p, .int 30, .int R] ∧ 0 < R ∧ R.natAbs < 2 ^ 300 ∧ Pt H p n ∧ ∀ v d n' H', RowIs R H' v d → Go p n' H H' → Q v H'
theorem c_row (T : Tp mg) (c_LTake : Cal P w K mg base 1 "_law_take" spTake []) (c_LName : Cal P w K mg base 2 "_law_name" spName []) (c_LNames : Cal P w K mg base 3 "_law_names" spNames []) (c_LSome : Cal P w K mg base 23 "_law_some" spSome [])
    {f : Addr} {fd : FuncData} (D : Def K mg "_law_row" sLRow f fd) (b : Binds K fd ["_law_pot_here", "_law_left", "_law_rows"] []) : Cal P w K mg base 24 "_law_row" spRow [] := by
  refine cal0 D b .nil scLRow (fun vs H Q E h => ?_) (fun cdv A outer s H vs Q E hr h => ?_)
  · obtain ⟨p, n, R, rfl, _⟩ := h
    rfl
  · obtain ⟨p, n, R, rfl, m0, m1, hp, q⟩ := h
    have nd := scLRow.nd
    refine ⟨_, (pss_cons (ps_set (i := 3) nd rfl (.inl rfl) (pe_ix ix_list (pe_lst (pa_cons pe_str (pa_cons pe_str (pa_cons pe_str (pa_cons pe_str (pa_cons pe_str (pa_cons pe_str (pa_cons pe_str (pa_cons pe_str (pa_cons pe_str pa_nil)))))))))) (pe_c c_LTake hr (by decide) (by rfl) (pa_cons (pv 0) (pa_cons pe_int pa_nil))) (fun _ _ => rfl)))
    (pss_cons (ps_if (pt_cmpR op_in_seq (pv 3) (pe_lst (pa_cons pe_str (pa_cons pe_str pa_nil))) (by rfl))
      (pss_one (ps_ret (pe_tup (pa_cons (pv 3) (pa_cons (pe_c c_LName hr (by decide) (by rfl) (pa_cons (pv 0) pa_nil)) (pa_cons (pe_c c_LSome hr (by decide) (by rfl) (pa_cons (pv 0) (pa_cons (pv 1) pa_nil))) pa_nil))))))
      pss_nil)
    (pss_cons (ps_if (pt_cmpR op_eq (pv 3) pe_str (nomark _))
      (pss_one (ps_ret (pe_tup (pa_cons (pv 3) (pa_cons (pe_c c_LSome hr (by decide) (by rfl) (pa_cons (pv 0) (pa_cons (pv 1) pa_nil))) (pa_cons (pe_c c_LName hr (by decide) (by rfl) (pa_cons (pv 0) pa_nil)) (pa_cons (pe_c c_LSome hr (by decide) (by rfl) (pa_cons (pv 0) (pa_cons (pv 1) pa_nil))) pa_nil)))))))
      pss_nil)
    (pss_cons (ps_if (pt_cmpR op_eq (pv 3) pe_str (nomark _))
      (pss_cons (ps_set (i := 4) nd rfl (.inl rfl) (pe_callTy call_tuple_of (by rfl) T.n_tuple (by decide +kernel) (pa_cons (pe_lc (own := [("_law_name_here", 6)]) (g := gName 6) (by rfl) nd (pi_list (pe_c c_LNames hr (by decide) (by rfl) (pa_cons (pv 0) (pa_cons pe_int pa_nil)))) (blkOk_by (own := [("_law_name_here", 6)]) (N := NLRow) (sc := fnScope sLRow) (by decide +kernel)) (fun _ _ _ _ _ => pg_name (i := 6) nd rfl (Or.inl rfl)) (fun _ _ _ _ _ => pts_nil) (fun _ _ _ _ _ => (pe_tup (pa_cons (pv 6) (pa_cons (pe_c c_LSome hr (by decide) (by rfl) (pa_cons (pv 0) (pa_cons (pe_op op_fdivW (pv 1) pe_int) pa_nil))) pa_nil))))) pa_nil)))
    (pss_one (ps_ret (pe_tup (pa_cons (pv 3) (pa_cons (pe_c c_LName hr (by decide) (by rfl) (pa_cons (pv 0) pa_nil)) (pa_cons (pe_c c_LName hr (by decide) (by rfl) (pa_cons (pv 0) pa_nil)) (pa_cons (pv 4) pa_nil))))))))
      pss_nil)
    (pss_cons (ps_if (pt_cmpR op_eq (pv 3) pe_str (nomark _))
      (pss_cons (ps_set (i := 5) nd rfl (.inl rfl) (pe_callTy call_tuple_of (by rfl) T.n_tuple (by decide +kernel) (pa_cons (pe_lc (own := [("_law_k", 7)]) (g := gName 7) (by rfl) nd (pi_range1 (by rfl) T.n_range (pa_cons (pe_c c_LTake hr (by decide) (by rfl) (pa_cons (pv 0) (pa_cons pe_int pa_nil))) pa_nil)) (blkOk_by (own := [("_law_k", 7)]) (N := NLRow) (sc := fnScope sLRow) (by decide +kernel)) (fun _ _ _ _ _ => pg_name (i := 7) nd rfl (Or.inl rfl)) (fun _ _ _ _ _ => pts_nil) (fun _ _ _ _ _ => (pe_c c_LSome hr (by decide) (by rfl) (pa_cons (pv 0) (pa_cons (pe_op op_fdivW (pv 1) pe_int) pa_nil))))) pa_nil)))
    (pss_one (ps_ret (pe_tup (pa_cons (pv 3) (pa_cons (pe_c c_LName hr (by decide) (by rfl) (pa_cons (pv 0) pa_nil)) (pa_cons (pe_c c_LName hr (by decide) (by rfl) (pa_cons (pv 0) pa_nil)) (pa_cons (pv 5) pa_nil))))))))
      pss_nil)
    (pss_cons (ps_if (pt_cmpR op_eq (pv 3) pe_str (nomark _))
      (pss_one (ps_ret (pe_tup (pa_cons (pv 3) (pa_cons (pe_c c_LTake hr (by decide) (by rfl) (pa_cons (pv 0) (pa_cons (pv 2) pa_nil))) pa_nil)))))
      pss_nil)
    (pss_cons (ps_if (pt_cmpR op_eq (pv 3) pe_str (nomark _))
      (pss_one (ps_ret (pe_tup (pa_cons (pv 3) (pa_cons (pe_c c_LSome hr (by decide) (by rfl) (pa_cons (pv 0) (pa_cons (pv 1) pa_nil))) (pa_cons (pe_c c_LTake hr (by decide) (by rfl) (pa_cons (pv 0) (pa_cons (pv 2) pa_nil))) pa_nil))))))
      pss_nil)
    (pss_one (ps_ret (pe_tup (pa_cons (pv 3) (pa_cons (pe_c c_LSome hr (by decide) (by rfl) (pa_cons (pv 0) (pa_cons (pv 1) pa_nil))) pa_nil)))))))))))), ?_⟩
    refine ⟨(by show 9 ≤ sizeLine; decide), fun l hl => ⟨_, rfl, p, n, 9, rfl, hp.new hl, by decide, by decide, fun r H1 r0 r1 g1 => ?_⟩⟩
    refine ixR (g1.at (hp.ne hl) upd_same) r0 (by exact r1) fun v hv => ?_
    obtain ⟨z, hzm, rfl⟩ := List.mem_map.mp (show v ∈ wordsR.map V.str from hv)
    have zl : z.length ≤ 6 := of_decide_eq_true (List.all_eq_true.mp wordsR_ok z hzm)
    have g2 : Go p n H H1 := ((Go.refl hp).new hl).trans g1
    have cnt : ∀ {r : Int} {a : Nat}, 0 ≤ r → r < R → Sm a 300 (.int r) := fun h0 h1 => Sm.int (Nat.lt_of_le_of_lt (show _ ≤ R.natAbs by omega) m1) (by decide) (Nat.le_refl _)
    have cntB : ∀ {r : Int}, 0 ≤ r → countB (.int r) = true := fun h0 => decide_eq_true h0
    refine ⟨_, rfl, (by show 2 ≤ sizeLine; decide), fun l2 hl2 => ?_⟩
    have g3 := g2.new (o := .lst [.str "let", .str "put"]) hl2
    refine ⟨l2, _, rfl, .inl (SqL.of upd_same), rfl, rfl, _, rfl, ?_⟩
    show if inV (.str z) [.str "let", .str "put"] = true then _ else _
    rw [inV2]
    refine ite2 (fun e => ?_) (fun eL => ?_)
    · have hu : forms.lookup z = some (["name", "term"] : List Str) := by
        rw [Bool.or_eq_true] at e
        rcases e with e | e <;> (have := eq_of_beq e; subst this; decide +kernel)
      refine ⟨_, rfl, _, rfl, p, n, rfl, g3.2, fun y H4 hy g4 => ⟨_, rfl, _, rfl, p, 30, n, rfl, by decide, g4.2, fun u d n5 H5 sm tb td g5 => ⟨(by show 3 ≤ sizeLine; decide), fun t ht => ?_⟩⟩⟩
      have hz2 : z ≠ "go" ∧ z ≠ "unless" := by
        rw [Bool.or_eq_true] at e
        rcases e with e | e <;> (have := eq_of_beq e; subst this; exact ⟨by decide +kernel, by decide +kernel⟩)
      refine q _ (.tuple [.str z, .str y, d]) n5 _ ⟨?_, ?_, jump_lt hz2.1 hz2.2, Td.newT ht (.cons (.str _) (.cons (.str _) (.cons td .nil)))⟩ (((g3.trans g4).trans g5).new ht)
      · exact (Sm.tup (SmAll.cons (lit zl (by decide)) (SmAll.cons (name_sm hy (Nat.le_refl _)) (SmAll.cons sm .nil))) (by show 3 ≤ 60; decide)).mono (by decide) (by decide)
      · rw [row2 hu, fitN, fitT, tb, Bool.and_true]
        exact hy
    · refine ⟨_, rfl, rfl, _, rfl, ite2 (fun e => ?_) (fun e2 => ?_)⟩
      · have e' := eq_str e
        subst e'
        refine ⟨_, rfl, _, rfl, _, rfl, p, 30, n, rfl, by decide, g3.2, fun y d4 n4 H4 sm4 tb4 td4 g4 => ⟨_, rfl, p, n4, rfl, g4.2, fun u H5 hu g5 => ⟨_, rfl, _, rfl, p, 30, n4, rfl, by decide, g5.2, fun u2 d6 n6 H6 sm6 tb6 td6 g6 => ⟨(by show 4 ≤ sizeLine; decide), fun t ht => ?_⟩⟩⟩⟩
        refine q _ (.tuple [.str "set", d4, .str u, d6]) n6 _ ⟨?_, ?_, jump_lt (by decide +kernel) (by decide +kernel), Td.newT ht (.cons (.str _) (.cons (td4.mono ((g5.tups g4.2).trans (g6.tups g5.2))) (.cons (.str _) (.cons td6 .nil))))⟩ ((((g3.trans g4).trans g5).trans g6).new ht)
        · exact (Sm.tup (SmAll.cons (lit zl (by decide)) (SmAll.cons sm4 (SmAll.cons (name_sm hu (Nat.le_refl _)) (SmAll.cons sm6 .nil)))) (by show 4 ≤ 60; decide)).mono (by decide) (by decide)
        · rw [row3 (a := "term") (b := "name") (c := "term") (by decide +kernel), fitN, fitT, tb4, tb6, Bool.and_true, Bool.true_and]
          exact hu
      · refine ⟨_, rfl, rfl, _, rfl, ite2 (fun e => ?_) (fun e3 => ?_)⟩
        · have e' := eq_str e
          subst e'
          refine ⟨_, rfl, p, 8, n, rfl, by decide, g3.2, fun l4 ys n4 H4 _ hl4 yl yr yn n4p g4 => ⟨l4, rfl, ⟨_, SqL.of hl4⟩, ?_⟩⟩
          refine lcNL (K := K) (xs := ys.map V.str) (fun _ vs H' => ∃ ds W, Fields ys vs H' ds W) ⟨[], 0, Nat.zero_le _, .nil, .nil, rfl, rfl, rfl⟩ (fun e ⟨ds, W, t⟩ => ⟨ds, W, t.wt, t.sm, t.td.mono e, t.fs, t.nm, t.tm⟩) g4.2 hl4 n4p (by rw [List.length_map]; omega) (fun i x n5 vs H' Q' hx hvl ⟨ds, W, t⟩ hp' hq => ?_) (fun Dl H' n5 vs nD hD hat hvl ⟨ds, W, t⟩ g5 => ?_)
          · obtain ⟨y, hy, rfl⟩ : ∃ y, ys[i]? = some y ∧ x = .str y := by
              rw [List.getElem?_map] at hx
              cases hh : ys[i]? with
              | none => rw [hh] at hx; cases hx
              | some y => rw [hh] at hx; exact ⟨y, rfl, (Option.some.inj hx).symm⟩
            refine ⟨_, rfl, _, rfl, _, rfl, _, _, rfl, rfl, wide_div (b := 64) (by decide) (by decide) (by decide) (by decide), p, 10, n5, rfl, by decide, hp', fun u d n6 H2 sm tb td g => ⟨(by show 2 ≤ sizeLine; decide), fun t2 ht2 => hq _ n6 _ (g.new ht2) ⟨_, _, t.snoc ((g.tups hp').trans (TupS.new ht2)) (yn y (List.mem_of_getElem? hy)) (by rw [hvl]; exact hy) (sm.mono (Nat.le_refl _) (by decide)) tb (Td.newT ht2 (.cons (.str _) (.cons td .nil)))⟩⟩⟩
          · refine ⟨Dl, vs, rfl, .inl ⟨SqL.of hat, fun t2 ht2 => ?_⟩⟩
            have g6 := ((g3.trans g4).trans g5).new (o := .tup vs) ht2
            have td2 : Td (upd H' t2 (.tup vs)) (.ref t2) (.tuple ds) := Td.newT ht2 t.td
            rw [List.length_map] at hvl
            have tw := t.wt
            have tl := t.td.len
            refine ⟨_, rfl, _, rfl, p, n5, rfl, g6.2, fun y H7 hy g7 => ⟨_, rfl, p, n5, rfl, g7.2, fun y2 H8 hy2 g8 => ⟨_, rfl, (by show 4 ≤ sizeLine; decide), fun t3 ht3 => ?_⟩⟩⟩
            refine q _ (.tuple [.str "new", .str y, .str y2, .tuple ds]) n5 _ ⟨?_, ?_, jump_lt (by decide +kernel) (by decide +kernel), Td.newT ht3 (.cons (.str _) (.cons (.str _) (.cons (.str _) (.cons (td2.mono ((g7.tups g6.2).trans (g8.tups g7.2))) .nil))))⟩ (((g6.trans g7).trans g8).new ht3)
            · exact (Sm.tup (SmAll.cons (lit zl (by decide)) (SmAll.cons (name_sm hy (Nat.le_refl _)) (SmAll.cons (name_sm hy2 (Nat.le_refl _)) (SmAll.cons (Sm.tup t.sm (by omega)) .nil)))) (by show 4 ≤ 60; decide)).mono (by decide) (by omega)
            · rw [row3 (a := "name") (b := "name") (c := "fields") (by decide +kernel), fitN, fitF]
              show (nameS y && (nameS y2 && fieldsB (.tuple ds))) = true
              have hf : fieldsB (.tuple ds) = true := by
                show (ds.all namedPairB && (rises (ds.map firstS) && ds.all (secondB termB))) = true
                rw [t.nm, t.tm, t.fs, List.take_of_length_le (by omega), yr]
                rfl
              rw [hy, hy2, hf]
              rfl
        · refine ⟨_, rfl, rfl, _, rfl, ite2 (fun e => ?_) (fun e4 => ?_)⟩
          · have e' := eq_str e
            subst e'
            refine ⟨_, rfl, p, n, 9, rfl, g3.2, by decide, by decide, fun r4 H4 r40 r41 g4 => ⟨r4, rfl, by omega, by omega, ?_⟩⟩
            refine lcN (n := r4.toNat) (fun _ vs H' => ∃ ds W, W ≤ 2101 * vs.length ∧ SmAll 19 W ds ∧ TdAll H' vs ds ∧ ds.all termB = true) ⟨[], 0, Nat.zero_le _, .nil, .nil, rfl⟩ (fun e ⟨ds, W, a1, a2, a3, a4⟩ => ⟨ds, W, a1, a2, a3.mono e, a4⟩) g4.2 (by omega) (fun i n5 vs H' Q' hi hvl ⟨ds, W, a1, a2, a3, a4⟩ hp' hq => ?_) (fun Dl H' n5 vs nD hD hat hvl ⟨ds, W, a1, a2, a3, a4⟩ g5 => ?_)
            · refine ⟨_, rfl, _, rfl, _, _, rfl, rfl, wide_div (b := 64) (by decide) (by decide) (by decide) (by decide), p, 10, n5, rfl, by decide, hp', fun u d n6 H2 sm tb td g => hq _ n6 _ g ⟨ds ++ [d], W + (2100 + 1 + 0), ?_, a2.app (SmAll.cons (sm.mono (W' := 2100) (Nat.le_refl _) (by decide)) .nil), (a3.mono (g.tups hp')).app (.cons td .nil), ?_⟩⟩
              · rw [List.length_append, List.length_singleton]
                omega
              · rw [List.all_append, a4]
                simp [tb]
            · refine ⟨Dl, vs, rfl, .inl ⟨SqL.of hat, fun t2 ht2 => ?_⟩⟩
              have g6 := ((g3.trans g4).trans g5).new (o := .tup vs) ht2
              have td2 : Td (upd H' t2 (.tup vs)) (.ref t2) (.tuple ds) := Td.newT ht2 a3
              have tl := a3.len
              refine ⟨_, rfl, _, rfl, p, n5, rfl, g6.2, fun y H7 hy g7 => ⟨_, rfl, p, n5, rfl, g7.2, fun y2 H8 hy2 g8 => ⟨_, rfl, (by show 4 ≤ sizeLine; decide), fun t3 ht3 => ?_⟩⟩⟩
              refine q _ (.tuple [.str "call", .str y, .str y2, .tuple ds]) n5 _ ⟨?_, ?_, jump_lt (by decide +kernel) (by decide +kernel), Td.newT ht3 (.cons (.str _) (.cons (.str _) (.cons (.str _) (.cons (td2.mono ((g7.tups g6.2).trans (g8.tups g7.2))) .nil))))⟩ (((g6.trans g7).trans g8).new ht3)
              · exact (Sm.tup (SmAll.cons (lit zl (by decide)) (SmAll.cons (name_sm hy (Nat.le_refl _)) (SmAll.cons (name_sm hy2 (Nat.le_refl _)) (SmAll.cons (Sm.tup a2 (by omega)) .nil)))) (by show 4 ≤ 60; decide)).mono (by decide) (by omega)
              · rw [row3 (a := "name") (b := "name") (c := "terms") (by decide +kernel), fitN, fitTs]
                show (nameS y && (nameS y2 && ds.all termB)) = true
                rw [hy, hy2, a4]
                rfl
          · refine ⟨_, rfl, rfl, _, rfl, ite2 (fun e => ?_) (fun e5 => ?_)⟩
            · have e' := eq_str e
              subst e'
              refine ⟨_, rfl, _, rfl, _, rfl, p, n, R, rfl, g3.2, m0, m1, fun r4 H4 r40 r41 g4 => ⟨(by show 2 ≤ sizeLine; decide), fun t ht => ?_⟩⟩
              refine q _ (.tuple [.str "go", .int r4]) n _ ⟨?_, ?_, (fun i hi => by rw [List.mem_singleton.mp (show i ∈ [r4] from hi)]; exact r41), Td.newT ht (.cons (.str _) (.cons (.int _) .nil))⟩ ((g3.trans g4).new ht)
              · exact (Sm.tup (SmAll.cons (a := 0) (lit zl (by decide)) (SmAll.cons (cnt r40 r41) .nil)) (by show 2 ≤ 60; decide)).mono (by decide) (by decide)
              · rw [row1 (a := "count") (by decide +kernel), fitC]
                exact cntB r40
            · refine ⟨_, rfl, rfl, _, rfl, ite2 (fun e => ?_) (fun e6 => ?_)⟩
              · have e' := eq_str e
                subst e'
                refine ⟨_, rfl, _, rfl, _, rfl, p, 30, n, rfl, by decide, g3.2, fun y d4 n4 H4 sm4 tb4 td4 g4 => ⟨_, rfl, _, rfl, p, n4, R, rfl, g4.2, m0, m1, fun r5 H5 r50 r51 g5 => ⟨(by show 3 ≤ sizeLine; decide), fun t ht => ?_⟩⟩⟩
                refine q _ (.tuple [.str "unless", d4, .int r5]) n4 _ ⟨?_, ?_, (fun i hi => by rw [jump_unless] at hi; rw [List.mem_singleton.mp hi]; exact r51), Td.newT ht (.cons (.str _) (.cons (td4.mono (g5.tups g4.2)) (.cons (.int _) .nil)))⟩ (((g3.trans g4).trans g5).new ht)
                · exact (Sm.tup (SmAll.cons (lit zl (by decide)) (SmAll.cons sm4 (SmAll.cons (cnt r50 r51) .nil))) (by show 3 ≤ 60; decide)).mono (by decide) (by decide)
                · rw [row2 (a := "term") (b := "count") (by decide +kernel), fitC, fitT, tb4, Bool.true_and]
                  exact cntB r50
              · refine ⟨_, rfl, _, rfl, _, rfl, p, 30, n, rfl, by decide, g3.2, fun y d4 n4 H4 sm4 tb4 td4 g4 => ⟨(by show 2 ≤ sizeLine; decide), fun t ht => ?_⟩⟩
                have hu : forms.lookup z = some (["term"] : List Str) ∧ z ≠ "go" ∧ z ≠ "unless" := by
                  have ne1 : ∀ {y : Str}, ¬ decide (V.str z = V.str y) = true → z ≠ y := fun h e => h (decide_eq_true (by rw [e]))
                  simp only [Bool.or_eq_true, not_or] at eL
                  have a1 : z ≠ "let" := fun e => eL.1 (beq_iff_eq.mpr e)
                  have a2 : z ≠ "put" := fun e => eL.2 (beq_iff_eq.mpr e)
                  have hz2 : z = "tell" ∨ z = "back" := by
                    simp only [wordsR, List.mem_cons, List.not_mem_nil, or_false] at hzm
                    rcases hzm with h | h | h | h | h | h | h | h | h
                    · exact absurd h a1
                    · exact absurd h a2
                    · exact absurd h (ne1 e2)
                    · exact absurd h (ne1 e3)
                    · exact absurd h (ne1 e4)
                    · exact .inl h
                    · exact absurd h (ne1 e5)
                    · exact absurd h (ne1 e6)
                    · exact .inr h
                  rcases hz2 with h | h <;> (subst h; exact ⟨by decide +kernel, by decide +kernel, by decide +kernel⟩)
                refine q _ (.tuple [.str z, d4]) n4 _ ⟨?_, ?_, jump_lt hu.2.1 hu.2.2, Td.newT ht (.cons (.str _) (.cons td4 .nil))⟩ ((g3.trans g4).new ht)
                · exact (Sm.tup (SmAll.cons (lit zl (by decide)) (SmAll.cons sm4 .nil)) (by show 2 ≤ 60; decide)).mono (by decide) (by decide)
                · rw [row1 hu.1, fitT]
                  exact tb4
abbrev NLAnyRow : List Str := ["_law_pot_here"]
end
end K25
set_option Elab.async false
set_option linter.all false
set_option maxRecDepth 100000
set_option maxHeartbeats 4000000
/-! len of a set of texts -/
namespace L2
open PySem PySem.Spec PyProof.Rows
abbrev rLenS (K : PySem.W.Frag) : List V → Hp → VK → Prop := fun xs H Q => ∃ p ys, xs = [.ref p] ∧ (SqL K H p ys ∨ SqT K H p ys) ∧ Q (.int ys.length) H
def rLenX (P : Program) (w : World) : List V → Hp → VK → Prop := fun vs H Q => ∃ (a : Addr) (l : List Str), vs = [V.ref a] ∧ H a = some (SetXO P w a l) ∧ l.length < 100000 ∧ Q (.int (l.length : Nat)) H
section
variable {X : Cx}
theorem call_lenX : CallR X (.builtin "len") (rLenX X.prog X.w) := by
  intro pins s σ H vs us Q I r h
  obtain ⟨a, l, rfl, ha, h64, q⟩ := h
  have x : SetX X.prog X.w s.heap a l := (I.hok a _ ha).1
  obtain ⟨⟨es, ep, t⟩, e, F, nd, ri, ld⟩ := x
  have hsz : es.size = l.length := F.sz
  rw [Vals.ref1 r]
  refine call_len_set e ⟨rfl, rfl, rfl⟩ rfl F.fit (by rw [hsz]; have : (2 : Int) ^ 63 = 9223372036854775808 := by decide
                                                      omega) ⟨.int (l.length : Nat), H, I.tok _, ⟨_, by rw [hsz]⟩, q⟩
end
/-! ### a tuple == () -/
def rEqTNil (K : PySem.W.Frag) : R2 := fun x y H Q => ∃ a b xs, x = .ref a ∧ y = .ref b ∧ SqT K H a xs ∧ SqT K H b [] ∧ Q (.bl xs.isEmpty) H
section
variable {X : Cx}
theorem op_eqTNil (hu : X.A.units + 64 < cLine) : OpR X (compareOp .Eq) (rEqTNil X.K) := by
  intro pins s σ H x y v u Q I rx ry h
  obtain ⟨a, b, xs, rfl, rfl, ha, hb, q⟩ := h
  cases rx
  cases ry
  obtain ⟨its, r1, ⟨⟨cls, dd, data, sl⟩, ho, hc, n, hd⟩, hz1⟩ := I.tuple ha
  obtain ⟨its2, r2, ⟨⟨cls2, dd2, data2, sl2⟩, ho2, hc2, n2, hd2⟩, hz2⟩ := I.tuple hb
  simp only at hc hd hc2 hd2
  subst hc hd hc2 hd2
  cases r2
  have hl1 := r1.length
  have e := SeqAt.tuple_eqAt a b its.toArray (#[] : Array Value) n n2 dd dd2 sl sl2 (fun _ => true)
  have er : ((List.range (min its.toArray.size (#[] : Array Value).size)).all (fun _ => true) && its.toArray.size == (#[] : Array Value).size) = xs.isEmpty := by
    have h0 : min its.toArray.size (#[] : Array Value).size = 0 := Nat.min_zero _
    rw [h0, List.size_toArray, ← hl1]
    cases xs <;> rfl
  exact richCompare_meets_room (op := .Eq) ⟨_, ho, rfl⟩ ⟨_, ho2, rfl⟩ F.slot_tuple_eq F.entry_tuple_eq (F.args_tuple_eq_2 _ _) e
    ⟨ho, ho2, fun j h1 h2 => absurd h2 (Nat.not_lt_zero _), show Value.bool _ ≠ Value.notImplemented ∧ _ from ⟨(fun x => nomatch x), .bl _, H, I, by rw [er]; rfl, q⟩⟩ (by omega)
end
/-! ### two for in one comprehension: over a tuple, and over a list within -/
/-- what a loop wants, by what stands at each place -/
theorem by_place {n : Nat} {H0 : Hp} {Go Stop : Nat → Hp → Prop} {Body : Nat → Hp → (Hp → Prop) → Prop} (At : Nat → Hp → Prop) (h0 : At 0 H0) (hs : ∀ i H, i < n → At i H → Go i H ∧ Body i H (At (i + 1))) (hd : ∀ H, At n H → Stop n H) :
    ∃ W : Nat → Nat → Hp → Prop, (∃ m, W 0 m H0) ∧ ∀ i m H, W i m H → Stop i H ∨ (Go i H ∧ ∃ Nx : Hp → Prop, (∀ H', Nx H' → ∃ m', m' < m ∧ W (i + 1) m' H') ∧ Body i H Nx) := by
  refine ⟨fun i m H => i + m = n ∧ At i H, ⟨n, Nat.zero_add n, h0⟩, fun i m H w => ?_⟩
  obtain ⟨e, p⟩ := w
  cases m with
  | zero =>
    obtain rfl : i = n := e
    exact Or.inl (hd H p)
  | succ m =>
    have r := hs i H (by omega) p
    exact Or.inr ⟨r.1, At (i + 1), fun H' p' => ⟨m, Nat.lt_succ_self m, by omega, p'⟩, r.2⟩
theorem lc2_tup {K : PySem.W.Frag} {a : Addr} {xs : List V} {g g1 : TG} {tt tt1 : TT} {wi1 : TI} {te : TE} {vs vs1 : List Nat} {σ : L2.St} {H1 : Hp} {D : Addr} {Qd : Hp → Prop} (Pv : Nat → Hp → Prop) (h0 : Pv 0 (upd H1 D (.lst []))) (hl : ∀ i H, i ≤ xs.length → Pv i H → SqT K H a xs)
    (hs : ∀ i x H, xs[i]? = some x → Pv i H → g x (wipe σ vs) H fun σ2 H2 => wipe σ2 vs = wipe σ vs ∧ tt σ2 H2 fun b H3 =>
      if b = true then wi1 σ2 H3 fun J1 H4 => ∃ W1 : Nat → Nat → Hp → Prop, (∃ m, W1 0 m H4) ∧ ∀ j k H, W1 j k H →
        (J1.stop j H ∧ Pv (i + 1) H) ∨ (J1.go j H ∧ ∃ Nx1 : Hp → Prop, (∀ H', Nx1 H' → ∃ k', k' < k ∧ W1 (j + 1) k' H') ∧ ∀ x H', J1.yld j H x H' → g1 x (wipe σ2 vs1) H' fun σ3 H5 => wipe σ3 vs1 = wipe σ2 vs1 ∧ tt1 σ3 H5 fun b H6 =>
          if b = true then te σ3 H6 fun y H7 => ∃ acc, H7 D = some (.lst acc) ∧ acc.length < sizeLine ∧ Nx1 (upd H7 D (.lst (acc ++ [y]))) else Nx1 H6)
      else Pv (i + 1) H3) (hd : ∀ H, Pv xs.length H → Qd H) :
    ∃ W : Nat → Nat → Hp → Prop, (∃ m, W 0 m (upd H1 D (.lst []))) ∧ ∀ q m H, W q m H →
      ((Itt K a).stop q H ∧ Qd H) ∨ ((Itt K a).go q H ∧ ∃ Nx : Hp → Prop, (∀ H', Nx H' → ∃ m', m' < m ∧ W (q + 1) m' H') ∧ ∀ x H', (Itt K a).yld q H x H' → g x (wipe σ vs) H' fun σ2 H2 => wipe σ2 vs = wipe σ vs ∧ tt σ2 H2 fun b H3 =>
        if b = true then wi1 σ2 H3 fun J1 H4 => ∃ W1 : Nat → Nat → Hp → Prop, (∃ m, W1 0 m H4) ∧ ∀ j k H, W1 j k H →
          (J1.stop j H ∧ Nx H) ∨ (J1.go j H ∧ ∃ Nx1 : Hp → Prop, (∀ H', Nx1 H' → ∃ k', k' < k ∧ W1 (j + 1) k' H') ∧ ∀ x H', J1.yld j H x H' → g1 x (wipe σ2 vs1) H' fun σ3 H5 => wipe σ3 vs1 = wipe σ2 vs1 ∧ tt1 σ3 H5 fun b H6 =>
            if b = true then te σ3 H6 fun y H7 => ∃ acc, H7 D = some (.lst acc) ∧ acc.length < sizeLine ∧ Nx1 (upd H7 D (.lst (acc ++ [y]))) else Nx1 H6)
        else Nx H3) := by
  refine by_place (n := xs.length) Pv h0 (fun i H hi p => ⟨⟨xs, xs[i], hl i H (Nat.le_of_lt hi) p, List.getElem?_eq_getElem hi⟩, fun x H' y => ?_⟩) (fun H p => ⟨⟨xs, hl _ H (Nat.le_refl _) p, Nat.le_refl _⟩, hd H p⟩)
  rw [y.1]
  exact hs i x H (y.2 xs (hl i H (Nat.le_of_lt hi) p)) p
theorem lc2_in {K : PySem.W.Frag} {l : Addr} {ys : List V} {g1 : TG} {tt1 : TT} {te : TE} {vs1 : List Nat} {σ2 : L2.St} {H4 : Hp} {D : Addr} {Nx : Hp → Prop} (Pi : Nat → Hp → Prop) (h0 : Pi 0 H4) (hl : ∀ j H, j ≤ ys.length → Pi j H → SqL K H l ys)
    (hs : ∀ j y H, ys[j]? = some y → Pi j H → g1 y (wipe σ2 vs1) H fun σ3 H5 => wipe σ3 vs1 = wipe σ2 vs1 ∧ tt1 σ3 H5 fun b H6 =>
      if b = true then te σ3 H6 fun y H7 => ∃ acc, H7 D = some (.lst acc) ∧ acc.length < sizeLine ∧ Pi (j + 1) (upd H7 D (.lst (acc ++ [y]))) else Pi (j + 1) H6) (hd : ∀ H, Pi ys.length H → Nx H) :
    ∃ W1 : Nat → Nat → Hp → Prop, (∃ m, W1 0 m H4) ∧ ∀ j k H, W1 j k H →
      ((Itl K l).stop j H ∧ Nx H) ∨ ((Itl K l).go j H ∧ ∃ Nx1 : Hp → Prop, (∀ H', Nx1 H' → ∃ k', k' < k ∧ W1 (j + 1) k' H') ∧ ∀ x H', (Itl K l).yld j H x H' → g1 x (wipe σ2 vs1) H' fun σ3 H5 => wipe σ3 vs1 = wipe σ2 vs1 ∧ tt1 σ3 H5 fun b H6 =>
        if b = true then te σ3 H6 fun y H7 => ∃ acc, H7 D = some (.lst acc) ∧ acc.length < sizeLine ∧ Nx1 (upd H7 D (.lst (acc ++ [y]))) else Nx1 H6) := by
  refine by_place (n := ys.length) Pi h0 (fun j H hj p => ⟨⟨ys, ys[j], hl j H (Nat.le_of_lt hj) p, List.getElem?_eq_getElem hj⟩, fun x H' y => ?_⟩) (fun H p => ⟨⟨ys, hl _ H (Nat.le_refl _) p, Nat.le_refl _⟩, hd H p⟩)
  rw [y.1]
  exact hs j x H (y.2 ys (hl j H (Nat.le_of_lt hj) p)) p
end L2
set_option Elab.async false
set_option linter.all false
set_option maxRecDepth 100000
set_option maxHeartbeats 4000000
namespace K25
open PySem PySem.Spec PyProof.Rows L2 KD
open C8 (Cal Def cal0 pe_c fnBody fnScope fnArgs)
/-! ### what parts are -/
def unlikeB (zs : List Str) : Bool := decide ((dd zs).length = zs.length)
def takesB : PyData → Bool
  | .tuple ds => ds.all namedPairB && (unlikeB (ds.map firstS) && ds.all (secondB kindB))
  | _ => false
def wordIn (w1 w2 : Str) : PyData → Bool
  | .tuple (.str u :: _) => u == w1 || u == w2
  | _ => false
def lastB (ds : List PyData) : Bool := (ds.getLast?.map (wordIn "go" "back")).getD false
def rowsB : PyData → Bool
  | .tuple ds => !ds.isEmpty && (ds.all rowB && (lastB ds && (ds.flatMap jumpI).all fun i => decide (i < (ds.length : Int))))
  | _ => false
def partB : PyData → Bool
  | .tuple [t, g, r] => takesB t && (kindB g && rowsB r)
  | _ => false
theorem row_form {d : PyData} (h : rowB d = true) : ∃ u rest, d = .tuple (.str u :: rest) := by
  unfold rowB at h
  split at h
  · exact ⟨_, _, rfl⟩
  · cases h
theorem count_int {x : PyData} (h : countB x = true) : ∃ i, x = .int i := by
  cases x <;> first | exact ⟨_, rfl⟩ | cases h
theorem row_go {rest : List PyData} (h : rowB (.tuple (.str "go" :: rest)) = true) : ∃ i, rest = [.int i] := by
  rw [rowB_at (f := ["count"]) (by decide +kernel), Bool.and_eq_true] at h
  obtain ⟨x, rfl⟩ := one_of (of_decide_eq_true h.1)
  have h2 : (fitsB "count" x && true) = true := h.2
  rw [fitC, Bool.and_true] at h2
  obtain ⟨i, rfl⟩ := count_int h2
  exact ⟨i, rfl⟩
theorem row_unless {rest : List PyData} (h : rowB (.tuple (.str "unless" :: rest)) = true) : ∃ d i, rest = [d, .int i] := by
  rw [rowB_at (f := ["term", "count"]) (by decide +kernel), Bool.and_eq_true] at h
  obtain ⟨x, y, rfl⟩ := two_of (of_decide_eq_true h.1)
  have h2 : (fitsB "term" x && (fitsB "count" y && true)) = true := h.2
  rw [fitC, Bool.and_true, Bool.and_eq_true] at h2
  obtain ⟨i, rfl⟩ := count_int h2.2
  exact ⟨x, i, rfl⟩
section
variable {K : PySem.W.Frag}
theorem sqL_same {a : Addr} {H H' : Hp} {xs : List V} (h : SqL K H a xs) (e : Same H H') : SqL K H' a xs := by
  rcases h with (h | ⟨o, h⟩) | h
  · exact .inl (.inl (e _ _ h))
  · exact .inl (.inr ⟨o, e _ _ h⟩)
  · exact .inr h
/-- values of the things of a tuple, in a comprehension -/
theorem lcV {a : Addr} {xs : List V} {H : Hp} {k : Nat} {te : TE} {σ : L2.St} {R9 : Addr → Hp → Prop} (ys : List V) (hl : ys.length = xs.length) (ha : SqT K H a xs) (hn : xs.length ≤ 1000)
    (hstep : ∀ (i : Nat) (v y : V) (H' : Hp) (Q' : VK), xs[i]? = some v → ys[i]? = some y → Same H H' → (∀ H'', Same H' H'' → Q' y H'') → te ((wipe σ [k]).set k (some v)) H' Q')
    (hq : ∀ D H', H D = none → H' D = some (.lst ys) → Same H H' → R9 D H') :
    ∀ D, H D = none → ∃ W : Nat → Nat → Hp → Prop, (∃ m, W 0 m (upd H D (.lst []))) ∧ ∀ i m H, W i m H →
      ((Itt K a).stop i H ∧ R9 D H) ∨ ((Itt K a).go i H ∧ ∃ Nx : Hp → Prop, (∀ H', Nx H' → ∃ m', m' < m ∧ W (i + 1) m' H') ∧ ∀ x H', (Itt K a).yld i H x H' → gName k x (wipe σ [k]) H' fun σ2 H2 => wipe σ2 [k] = wipe σ [k] ∧ tYes σ2 H2 fun b H3 =>
        if b = true then te σ2 H3 fun y H4 => ∃ acc, H4 D = some (.lst acc) ∧ acc.length < sizeLine ∧ Nx (upd H4 D (.lst (acc ++ [y]))) else Nx H3) := by
  intro D hD
  refine lc_tup (K := K) (a := a) (xs := xs) (fun i H' => H' D = some (.lst (ys.take i)) ∧ Same H H')
    ⟨upd_same, Same.new hD⟩ (fun i H' _ hW => sqT_mono hW.2 ha) (fun i x H' hx hW => ?_) (fun H' hW => ?_)
  · obtain ⟨hat, sm⟩ := hW
    refine ⟨?_, ?_⟩
    · show ((wipe σ [k]).set k (some x)).set k none = wipe σ [k]
      rw [List.set_set]
      show ((σ.set k none).set k none) = σ.set k none
      rw [List.set_set]
    · unfold tYes; dsimp only
      rw [if_pos rfl]
      have hi : i < xs.length := (List.getElem?_eq_some_iff.mp hx).1
      obtain ⟨y, hy⟩ := at_some (show i < ys.length by omega)
      refine hstep i x y H' _ hx hy sm fun H2 s2 => ?_
      refine ⟨_, s2 _ _ hat, ?_, ?_, fun b o hb => ?_⟩
      · rw [List.length_take, sizeLine_eq]
        omega
      · rw [List.take_succ, hy]
        exact upd_same
      · rw [upd_ne (fun z => by rw [z, hD] at hb; cases hb)]
        exact s2 _ _ (sm _ _ hb)
  · obtain ⟨hat, sm⟩ := hW
    rw [← hl, List.take_of_length_le (Nat.le_refl _)] at hat
    exact hq D H' hD hat sm
end
section
variable {P : Program} {w : World} {K : PySem.W.Frag} {mg : Str → Option Value} {base : Heap}
abbrev sPAreUnlike : Stmt := topS 10
abbrev NPAreUnlike : List Str := ["names"]
theorem scPAreUnlike : FnScope NPAreUnlike ["names"] (fnScope sPAreUnlike) := ⟨rfl, rfl, rfl, by decide +kernel, rfl, by decide +kernel, by decide +kernel⟩
def spUnlike (K : PySem.W.Frag) : Sp := fun vs H Q _ => ∃ (l : Addr) (zs : List Str), vs = [.ref l] ∧ SqL K H l (zs.map V.str) ∧ zs.length < 1000 ∧ ∀ H', Same H H' → Q (.bl (unlikeB zs)) H'
theorem c_areUnlike (T : Tp mg) {f : Addr} {fd : FuncData} (D : Def K mg "are_unlike" sPAreUnlike f fd) (b : Binds K fd ["names"] []) : Cal P w K mg base 1 "are_unlike" (spUnlike K) [] := by
  refine cal0 D b .nil scPAreUnlike (fun vs H Q E h => ?_) (fun cdv A outer s H vs Q E hr h => ?_)
  · obtain ⟨l, zs, rfl, _⟩ := h
    rfl
  · obtain ⟨l, zs, rfl, hS, hz, q⟩ := h
    refine ⟨_, (pss_one (ps_ret (pe_cmpR op_eq (pe_callB call_lenX (by rfl) T.n_len (by decide +kernel) (pa_cons (pe_callTy (cr_setS rfl) (by rfl) T.n_set (by decide +kernel) (pa_cons (pv 0) pa_nil)) pa_nil)) (pe_callB call_len_seq (by rfl) T.n_len (by decide +kernel) (pa_cons (pv 0) pa_nil)) (nomark _)))), ?_⟩
    have hdl := dd_len zs []
    have hdl' : (dd zs).length ≤ zs.length := by
      simp only [List.length_nil] at hdl
      show (zs.foldl more []).length ≤ _
      omega
    refine ⟨_, rfl, l, zs, rfl, hS, hz, fun a ha => ⟨a, dd zs, rfl, upd_same, by omega, _, rfl, l, zs.map V.str, rfl, .inl (sqL_same hS (Same.new ha)), rfl, ?_⟩⟩
    have q' := q _ (Same.new (o := SetXO P w a (dd zs)) ha)
    have e : decide (V.int ((dd zs).length : Nat) = V.int ((zs.map V.str).length : Nat)) = unlikeB zs := by
      rw [dec_len, List.length_map]
      rfl
    rw [← e] at q'
    exact q'
abbrev sPJumpsOf : Stmt := topS 27
abbrev NPJumpsOf : List Str := ["row"]
theorem scPJumpsOf : FnScope NPJumpsOf ["row"] (fnScope sPJumpsOf) := ⟨rfl, rfl, rfl, by decide +kernel, rfl, by decide +kernel, by decide +kernel⟩
def spJumps (K : PySem.W.Frag) : Sp := fun vs H Q _ => ∃ v d, vs = [v] ∧ Dq K H v d ∧ rowB d = true ∧ ∀ l H', H l = none → Same H H' → H' l = some (.lst ((jumpI d).map V.int)) → Q (.ref l) H'
theorem c_jumpsOf (T : Tp mg) {f : Addr} {fd : FuncData} (D : Def K mg "jumps_of" sPJumpsOf f fd) (b : Binds K fd ["row"] []) : Cal P w K mg base 1 "jumps_of" (spJumps K) [] := by
  refine cal0 D b .nil scPJumpsOf (fun vs H Q E h => ?_) (fun cdv A outer s H vs Q E hr h => ?_)
  · obtain ⟨v, d, rfl, _⟩ := h
    rfl
  · obtain ⟨v, d, rfl, hd, hrow, q⟩ := h
    refine ⟨_, (pss_cons (ps_if (pt_cmpR op_eq (pe_ix ix_tup (pv 0) pe_int (fun _ _ => rfl)) pe_str (nomark _))
      (pss_one (ps_ret (pe_lst (pa_cons (pe_ix ix_tup (pv 0) pe_int (fun _ _ => rfl)) pa_nil))))
      pss_nil)
    (pss_cons (ps_if (pt_cmpR op_eq (pe_ix ix_tup (pv 0) pe_int (fun _ _ => rfl)) pe_str (nomark _))
      (pss_one (ps_ret (pe_lst (pa_cons (pe_ix ix_tup (pv 0) pe_int (fun _ _ => rfl)) pa_nil))))
      pss_nil)
    (pss_one (ps_ret (pe_lst pa_nil))))), ?_⟩
    obtain ⟨u, rest, rfl⟩ := row_form hrow
    cases hd with
    | @tup a xs _ hq ha =>
    obtain ⟨v0, vr, rfl, h0, hr0⟩ := dpAll_head ha
    cases h0
    refine ⟨_, rfl, a, _, _, .str u, rfl, rfl, hq, atI_nat (j := 0) rfl, rfl, _, rfl, ?_⟩
    rw [dec_str]
    refine ite2 (fun e => ?_) (fun e => ?_)
    · have eu := eq_of_beq e
      subst eu
      obtain ⟨i, rfl⟩ := row_go hrow
      obtain ⟨v1, rfl, g1⟩ := hr0.one
      cases g1
      exact ⟨_, rfl, a, _, _, .int i, rfl, rfl, hq, atI_nat (j := 1) rfl, (by show 1 ≤ sizeLine; decide), fun l hl => q l _ hl (Same.new hl) upd_same⟩
    · refine ⟨_, rfl, a, _, _, .str u, rfl, rfl, hq, atI_nat (j := 0) rfl, rfl, _, rfl, ?_⟩
      rw [dec_str]
      refine ite2 (fun e2 => ?_) (fun e2 => ?_)
      · have eu := eq_of_beq e2
        subst eu
        obtain ⟨d1, i, rfl⟩ := row_unless hrow
        obtain ⟨v1, v2, rfl, g1, g2⟩ := hr0.two
        cases g2
        refine ⟨_, rfl, a, _, _, .int i, rfl, rfl, hq, atI_nat (j := 2) rfl, (by show 1 ≤ sizeLine; decide), fun l hl => q l _ hl (Same.new hl) ?_⟩
        rw [jump_unless]
        exact upd_same
      · refine ⟨(by show 0 ≤ sizeLine; decide), fun l hl => q l _ hl (Same.new hl) ?_⟩
        rw [jump_none e e2]
        exact upd_same
end
end K25
set_option Elab.async false
set_option linter.all false
set_option maxRecDepth 100000
set_option maxHeartbeats 4000000
namespace K25
open PySem PySem.Spec PyProof.Rows L2 KD
open C8 (Cal Def cal0 pe_c fnBody fnScope fnArgs)
theorem getLast_at {α : Type} (l : List α) (h : 1 ≤ l.length) : l.getLast? = l[l.length - 1]? := List.getLast?_eq_getElem?
theorem atI_last' {xs : List V} (h : 1 ≤ xs.length) : atI xs (-1) = xs[xs.length - 1]? := by
  have e : ixN xs.length (-1) = some (xs.length - 1) := by
    unfold ixN
    rw [if_neg (by decide), if_pos (by omega)]
    congr 1
    omega
  unfold atI
  rw [e]
  rfl
theorem takesB_tup (ds : List PyData) : takesB (.tuple ds) = (ds.all namedPairB && (unlikeB (ds.map firstS) && ds.all (secondB kindB))) := rfl
theorem rowsB_tup (ds : List PyData) : rowsB (.tuple ds) = (!ds.isEmpty && (ds.all rowB && (lastB ds && (ds.flatMap jumpI).all fun i => decide (i < (ds.length : Int))))) := rfl
theorem jump_len (d : PyData) : (jumpI d).length ≤ 1 := by
  unfold jumpI
  split
  · split <;> simp
  · split <;> simp
  · simp
theorem flat_len : ∀ ds : List PyData, (ds.flatMap jumpI).length ≤ ds.length
  | [] => Nat.le_refl _
  | d :: ds => by
    have := jump_len d
    have := flat_len ds
    rw [List.flatMap_cons, List.length_append, List.length_cons]
    omega
theorem yesA {σ : L2.St} {H : Hp} {A B : Hp → Prop} (h : A H) : tYes σ H fun b H3 => if b = true then A H3 else B H3 := by
  unfold tYes
  dsimp only
  rw [if_pos rfl]
  exact h
section
variable {P : Program} {w : World} {K : PySem.W.Frag} {mg : Str → Option Value} {base : Heap}
/-- a look at small data, not wide -/
def spS (K : PySem.W.Frag) (g : PyData → Bool) : Sp := fun vs H Q _ => ∃ v d, vs = [v] ∧ Dq K H v d ∧ Sml d ∧ slim d = true ∧ ∀ H', Same H H' → Q (.bl (g d)) H'
abbrev sPAreTakes : Stmt := topS 30
abbrev NPAreTakes : List Str := ["thing", "take"]
theorem scPAreTakes : FnScope NPAreTakes ["thing"] (fnScope sPAreTakes) := ⟨rfl, rfl, rfl, by decide +kernel, rfl, by decide +kernel, by decide +kernel⟩
theorem c_areTakes (T : Tp mg) (c_PAreNamed : Cal P w K mg base 3 "are_named" (spW K namedB) []) (c_PAreUnlike : Cal P w K mg base 1 "are_unlike" (spUnlike K) []) (c_PIsKind : Cal P w K mg base 2 "is_kind" (spLook K kindB) []) {f : Addr} {fd : FuncData} (D : Def K mg "_are_takes" sPAreTakes f fd) (b : Binds K fd ["thing"] []) : Cal P w K mg base 4 "_are_takes" (spS K takesB) [] := by
  refine cal0 D b .nil scPAreTakes (fun vs H Q E h => ?_) (fun cdv A outer s H vs Q E hr h => ?_)
  · obtain ⟨v, d, rfl, _⟩ := h
    rfl
  · obtain ⟨v, d, rfl, hd, hs, hsl, q⟩ := h
    have nd := scPAreTakes.nd
    refine ⟨_, (pss_cons (ps_if (PW.pt (pw_or (pt_not (pt_val (pe_c c_PAreNamed hr (by decide) (by rfl) (pa_cons (pv 0) pa_nil)))) (pw_or1 (pt_not (pt_val (pe_c c_PAreUnlike hr (by decide) (by rfl) (pa_cons (pe_lc (own := [("take", 1)]) (g := gName 1) (by rfl) nd (pi_tup (pv 0)) (blkOk_by (own := [("take", 1)]) (N := NPAreTakes) (sc := fnScope sPAreTakes) (by decide +kernel)) (fun _ _ _ _ _ => pg_name (i := 1) nd rfl (Or.inl rfl)) (fun _ _ _ _ _ => pts_nil) (fun _ _ _ _ _ => (pe_ix (r := rIxT K) ix_tup (pv 1) pe_int (fun _ _ => rfl)))) pa_nil)))))))
      (pss_one (ps_ret pe_bl))
      pss_nil)
    (pss_one (ps_ret (pe_callB (cr_all rfl) (by rfl) T.n_all (by decide +kernel) (pa_cons (pe_lc (own := [("take", 1)]) (g := gName 1) (by rfl) nd (pi_tup (pv 0)) (blkOk_by (own := [("take", 1)]) (N := NPAreTakes) (sc := fnScope sPAreTakes) (by decide +kernel)) (fun _ _ _ _ _ => pg_name (i := 1) nd rfl (Or.inl rfl)) (fun _ _ _ _ _ => pts_nil) (fun _ _ _ _ _ => (pe_c c_PIsKind hr (by decide) (by rfl) (pa_cons (pe_ix (r := rIxT K) ix_tup (pv 1) pe_int (fun _ _ => rfl)) pa_nil)))) pa_nil))))), ?_⟩
    refine ⟨_, rfl, v, d, rfl, hd, hs, fun H1 s1 => ⟨_, rfl, ?_⟩⟩
    by_cases hn : namedB d = true
    · refine iteF' (by rw [hn]; rfl) ?_
      obtain ⟨ds, rfl⟩ : ∃ ds, d = .tuple ds := by
        cases d <;> first | exact ⟨_, rfl⟩ | cases hn
      have hn' : ds.all namedPairB = true := hn
      have h60 := (slim_at hsl).1
      have hd1 := hd.mono s1
      cases hd1 with
      | @tup a xs _ hq ha =>
        have hl := ha.len
        refine ⟨_, rfl, a, rfl, ⟨xs, hq⟩, ?_⟩
        refine lcV (K := K) ((ds.map firstS).map V.str) (by rw [List.length_map, List.length_map, hl]) hq (by omega) (fun i x y H' Q' hx hy sm hQ => ?_) (fun Dl H' _ hat sm => ?_)
        · obtain ⟨d1, hd1, Dx⟩ := ha.at hx
          obtain ⟨z, y2, rfl, _⟩ := namedPair_of (List.all_eq_true.mp hn' d1 (List.mem_of_getElem? hd1))
          have ey : y = .str z := by
            rw [List.getElem?_map, List.getElem?_map, hd1] at hy
            exact (Option.some.inj hy).symm
          subst ey
          cases Dx.mono sm with
          | @tup t ys _ hqt hat =>
            obtain ⟨u1, u2, rfl, h1, _⟩ := DqAll.two hat
            cases h1
            exact ⟨_, rfl, t, _, _, .str z, rfl, rfl, hqt, atI_nat (j := 0) rfl, hQ _ (Same.refl _)⟩
        · refine ⟨Dl, ds.map firstS, rfl, SqL.of hat, by rw [List.length_map]; omega, fun H2 s2 => ⟨_, rfl, ?_⟩⟩
          by_cases hu : unlikeB (ds.map firstS) = true
          · refine iteF' (by rw [hu]; rfl) ?_
            have s12 := sm.trans s2
            refine ⟨_, rfl, a, rfl, ⟨xs, sqT_mono s12 hq⟩, ?_⟩
            refine lcB (K := K) (secondB kindB) (sqT_mono s12 hq) (ha.mono s12) (by omega) (fun i x d1 H' Q' e hx sm3 hQ => ?_) (fun Dl3 H' _ hat3 sm3 => ?_)
            · obtain ⟨z, y2, rfl, _⟩ := namedPair_of (List.all_eq_true.mp hn' d1 (List.mem_of_getElem? e))
              have hsd := hs.at e
              cases hx with
              | @tup t ys _ hqt hat4 =>
                obtain ⟨u1, u2, rfl, _, h2⟩ := DqAll.two hat4
                exact ⟨_, rfl, t, _, _, u2, rfl, rfl, hqt, atI_nat (j := 1) rfl, u2, y2, rfl, h2, (hsd.at (i := 1) rfl).1, hQ⟩
            · refine ⟨Dl3, _, rfl, SqL.of hat3, ?_⟩
              rw [all_id]
              have := q H' ((s1.trans s12).trans sm3)
              rw [takesB_tup, hn', hu] at this
              exact this
          · refine iteT' (by rw [eq_false_of_ne_true hu]; rfl) ?_
            have := q H2 ((s1.trans sm).trans s2)
            rw [takesB_tup, eq_false_of_ne_true hu, Bool.false_and, Bool.and_false] at this
            exact this
    · refine iteT' (by rw [eq_false_of_ne_true hn]; rfl) ?_
      have := q H1 s1
      have e : takesB d = false := by
        cases d <;> first | rfl | skip
        rename_i ds
        show (namedB (.tuple ds) && _) = false
        rw [eq_false_of_ne_true hn, Bool.false_and]
      rw [e] at this
      exact this
abbrev sPAreRows : Stmt := topS 31
abbrev NPAreRows : List Str := ["thing", "row", "jump"]
theorem scPAreRows : FnScope NPAreRows ["thing"] (fnScope sPAreRows) := ⟨rfl, rfl, rfl, by decide +kernel, rfl, by decide +kernel, by decide +kernel⟩
theorem c_areRows (T : Tp mg) (c_PIsRow : Cal P w K mg base 7 "is_row" (spW K rowB) []) (c_PJumpsOf : Cal P w K mg base 1 "jumps_of" (spJumps K) []) {f : Addr} {fd : FuncData} (D : Def K mg "_are_rows" sPAreRows f fd) (b : Binds K fd ["thing"] []) : Cal P w K mg base 8 "_are_rows" (spS K rowsB) [] := by
  refine cal0 D b .nil scPAreRows (fun vs H Q E h => ?_) (fun cdv A outer s H vs Q E hr h => ?_)
  · obtain ⟨v, d, rfl, _⟩ := h
    rfl
  · obtain ⟨v, d, rfl, hd, hs, hsl, q⟩ := h
    have nd := scPAreRows.nd
    refine ⟨_, (pss_cons (ps_if (PW.pt (pw_or (pt_not (pt_val (pe_callB call_isQ (by rfl) T.n_isinstance (by decide +kernel) (pa_cons (pv 0) (pa_cons (pe_bltn (v := .ty "tuple") (by rfl) T.n_tuple (by decide +kernel) rfl) pa_nil))))) (pw_or (pt_not (pt_truth (pv 0) (by intro _; rfl))) (pw_or1 (pt_not (pt_val (pe_callB (cr_all rfl) (by rfl) T.n_all (by decide +kernel) (pa_cons (pe_lc (own := [("row", 1)]) (g := gName 1) (by rfl) nd (pi_tup (pv 0)) (blkOk_by (own := [("row", 1)]) (N := NPAreRows) (sc := fnScope sPAreRows) (by decide +kernel)) (fun _ _ _ _ _ => pg_name (i := 1) nd rfl (Or.inl rfl)) (fun _ _ _ _ _ => pts_nil) (fun _ _ _ _ _ => (pe_c c_PIsRow hr (by decide) (by rfl) (pa_cons (pv 1) pa_nil)))) pa_nil))))))))
      (pss_one (ps_ret pe_bl))
      pss_nil)
    (pss_cons (ps_if (pt_cmpR op_notIn_seq (pe_ix ix_tup (pe_ix ix_tup (pv 0) (pe_un un_neg pe_int) (fun _ _ => rfl)) pe_int (fun _ _ => rfl)) (pe_tup (pa_cons pe_str (pa_cons pe_str pa_nil))) (by rfl))
      (pss_one (ps_ret pe_bl))
      pss_nil)
    (pss_one (ps_ret (pe_callB (cr_all rfl) (by rfl) T.n_all (by decide +kernel) (pa_cons (pe_lc2 (own := [("row", 1), ("jump", 2)]) (vs1 := [2]) (wi1 := iList K (tCall (spJumps K) [] C8.E0 (tCons (tVar 1) tNil))) (g := gName 1) (g1 := gName 2) (by rfl) nd (pi_tup (pv 0)) (blkOk_by (own := [("row", 1), ("jump", 2)]) (N := NPAreRows) (sc := fnScope sPAreRows) (by decide +kernel)) (by decide) (fun _ _ _ _ _ => pg_name (i := 1) nd rfl (Or.inl rfl)) (fun _ _ _ _ _ => pts_nil) (fun _ _ _ _ _ => pi_list (pe_c c_PJumpsOf hr (by decide) (by rfl) (pa_cons (pv 1) pa_nil))) (fun _ _ _ _ _ => pg_name (i := 2) nd rfl (Or.inl rfl)) (fun _ _ _ _ _ => pts_nil) (fun _ _ _ _ _ => (pe_cmpR (r := rI0 fun i j => .bl (decide (i < j))) op_lt (pv 2) (pe_callB (id := "len") (r := rLenS K) call_len_seq (by rfl) T.n_len (by decide +kernel) (pa_cons (pv 0) pa_nil)) (nomark _)))) pa_nil)))))), ?_⟩
    refine ⟨_, rfl, v, d, "tuple", rfl, hd, by decide, _, rfl, ?_⟩
    by_cases ht : isT d = true
    · obtain ⟨ds, rfl⟩ : ∃ ds, d = .tuple ds := by
        cases d <;> first | exact ⟨_, rfl⟩ | cases ht
      refine iteF ?_
      have h60 := (slim_at hsl).1
      cases hd with
      | @tup a xs _ hq ha =>
        have hl := ha.len
        refine ⟨_, rfl, !xs.isEmpty, .inr (.inl ⟨xs, hq, rfl⟩), ?_⟩
        by_cases h0 : ds = []
        · subst h0
          cases ha
          exact iteT (q H (Same.refl H))
        have h1 : 1 ≤ ds.length := by
          cases ds with
          | nil => exact absurd rfl h0
          | cons x y => rw [List.length_cons]; omega
        have ex : xs.isEmpty = false := by
          cases xs with
          | nil => simp at hl; omega
          | cons x y => rfl
        have ed : ds.isEmpty = false := by
          cases ds with
          | nil => exact absurd rfl h0
          | cons x y => rfl
        refine iteF' (by rw [ex]; rfl) ?_
        refine ⟨_, rfl, a, rfl, ⟨xs, hq⟩, ?_⟩
        refine lcB (K := K) rowB hq ha (by omega) (fun i x d1 H' Q' e hx sm hQ => ?_) (fun Dl H1 _ hat s1 => ?_)
        · exact ⟨_, rfl, x, d1, rfl, hx, hs.at e, hQ⟩
        · refine ⟨Dl, _, rfl, SqL.of hat, _, rfl, ?_⟩
          rw [all_id]
          by_cases hr1 : ds.all rowB = true
          · refine iteF' (by rw [hr1]; rfl) ?_
            have hN : xs.length - 1 < xs.length := by omega
            obtain ⟨vl, hvl⟩ := at_some hN
            obtain ⟨dl, hdl, Dl0⟩ := ha.at hvl
            have hrl : rowB dl = true := List.all_eq_true.mp hr1 dl (List.mem_of_getElem? hdl)
            obtain ⟨u, rest, rfl⟩ := row_form hrl
            have hlast : lastB ds = (u == "go" || u == "back") := by
              unfold lastB
              rw [getLast_at ds h1, ← hl, hdl]
              rfl
            cases Dl0 with
            | @tup tl yl _ hql hal =>
              obtain ⟨v0, vr, rfl, hu0, _⟩ := dpAll_head hal
              cases hu0
              refine ⟨_, rfl, _, rfl, a, xs, -1, .ref tl, rfl, rfl, sqT_mono s1 hq, (atI_last' (by omega)).trans hvl, tl, _, 0, .str u, rfl, rfl, sqT_mono s1 hql, atI_nat (j := 0) rfl, (by show 2 ≤ sizeLine; decide), fun t2 ht2 => ?_⟩
              have s2 := s1.trans (Same.new (o := .tup [.str "go", .str "back"]) ht2)
              refine ⟨t2, _, rfl, .inr (SqT.of upd_same), rfl, rfl, _, rfl, ?_⟩
              show if (!inV (.str u) [.str "go", .str "back"]) = true then _ else _
              rw [inV2]
              by_cases hw : (u == "go" || u == "back") = true
              · refine iteF' (by rw [hw]; rfl) ?_
                generalize upd H1 t2 (.tup [.str "go", .str "back"]) = H2 at *
                have hd2 := ha.mono s2
                have hq2 := sqT_mono s2 hq
                refine ⟨_, rfl, a, rfl, ⟨xs, hq2⟩, fun D hD => ?_⟩
                refine lc2_tup (K := K) (a := a) (xs := xs) (fun i H' => H' D = some (.lst (((ds.take i).flatMap jumpI).map fun j => V.bl (decide (j < (ds.length : Int))))) ∧ Same H2 H')
                  ⟨upd_same, Same.new hD⟩ (fun i H' _ hW => sqT_mono hW.2 hq2) (fun i x H' hx hW => ?_) (fun H' hW => ?_)
                · obtain ⟨hatD, sm⟩ := hW
                  obtain ⟨d1, hd1, Dx⟩ := hd2.at hx
                  have hrow1 : rowB d1 = true := List.all_eq_true.mp hr1 d1 (List.mem_of_getElem? hd1)
                  have hi : i < xs.length := (List.getElem?_eq_some_iff.mp hx).1
                  refine ⟨rfl, yesA ?_⟩
                  refine ⟨_, rfl, x, d1, rfl, Dx.mono sm, hrow1, fun l H3 hl3 s3 hatl => ⟨l, rfl, ⟨_, SqL.of hatl⟩, ?_⟩⟩
                  have nlD : l ≠ D := fun z => by rw [z, hatD] at hl3; cases hl3
                  refine lc2_in (K := K) (g1 := gName 2) (tt1 := tYes) (te := tOp (rI0 fun i j => V.bl (decide (i < j))) (tVar 2) (tCB (rLenS K) (tCons (tVar 0) tNil))) (vs1 := [2]) (D := D) (l := l) (ys := (jumpI d1).map V.int) (fun j H4 => H4 D = some (.lst (((ds.take i).flatMap jumpI ++ (jumpI d1).take j).map fun j => V.bl (decide (j < (ds.length : Int))))) ∧ H4 l = some (.lst ((jumpI d1).map V.int)) ∧ Same H2 H4)
                    ⟨?_, hatl, sm.trans s3⟩ (fun j H4 _ hW => SqL.of hW.2.1) (fun j y H4 hy hW => ?_) (fun H4 hW => ?_)
                  · rw [List.take_zero, List.append_nil]
                    exact s3 _ _ hatD
                  · obtain ⟨hD4, hl4, s4⟩ := hW
                    obtain ⟨z, hz, rfl⟩ : ∃ z, (jumpI d1)[j]? = some z ∧ y = .int z := by
                      rw [List.getElem?_map] at hy
                      cases hh : (jumpI d1)[j]? with
                      | none => rw [hh] at hy; cases hy
                      | some z => rw [hh] at hy; exact ⟨z, rfl, (Option.some.inj hy).symm⟩
                    refine ⟨rfl, yesA ?_⟩
                    refine ⟨_, rfl, _, rfl, a, xs, rfl, .inr (sqT_mono s4 hq2), _, _, rfl, rfl, _, hD4, ?_, ?_, ?_, ?_⟩
                    · rw [List.length_map, List.length_append, List.length_take]
                      have b1 := flat_len (ds.take i)
                      have b2 := jump_len d1
                      rw [List.length_take] at b1
                      rw [sizeLine_eq]
                      omega
                    · rw [upd_same, List.take_succ, hz, ← List.append_assoc, List.map_append (l₁ := ((ds.take i).flatMap jumpI ++ (jumpI d1).take j)), hl]
                      rfl
                    · rw [upd_ne nlD]
                      exact hl4
                    · exact fun b o hb => by
                        rw [upd_ne (fun z => by rw [z, hD] at hb; cases hb)]
                        exact s4 _ _ hb
                  · obtain ⟨hD4, hl4, s4⟩ := hW
                    refine ⟨?_, s4⟩
                    rw [hD4, List.length_map, List.take_length, List.take_succ, hd1]
                    simp
                · obtain ⟨hatD, sm⟩ := hW
                  rw [hl, List.take_length] at hatD
                  refine ⟨D, ((ds.flatMap jumpI).map fun j => decide (j < (ds.length : Int))), rfl, SqL.of (by rw [hatD, List.map_map]; rfl), ?_⟩
                  have := q H' (s2.trans sm)
                  rw [rowsB_tup, ed, hr1, hlast, hw] at this
                  rw [List.all_map]
                  exact this
              · refine iteT' (by rw [eq_false_of_ne_true hw]; rfl) ?_
                have := q _ s2
                rw [rowsB_tup, hlast, eq_false_of_ne_true hw, Bool.false_and, Bool.and_false, Bool.and_false] at this
                exact this
          · refine iteT' (by rw [eq_false_of_ne_true hr1]; rfl) ?_
            have := q H1 s1
            rw [rowsB_tup, eq_false_of_ne_true hr1, Bool.false_and, Bool.and_false] at this
            exact this
    · have e : isOfQ "tuple" d = false := by
        rw [tyT]
        exact eq_false_of_ne_true ht
      rw [e]
      refine iteT ?_
      have := q H (Same.refl H)
      have e2 : rowsB d = false := by
        cases d <;> first | rfl | exact absurd rfl ht
      rw [e2] at this
      exact this
end
end K25
set_option Elab.async false
set_option linter.all false
set_option maxRecDepth 100000
set_option maxHeartbeats 4000000
namespace K25
open PySem PySem.Spec PyProof.Rows L2 KD
open C8 (Cal Def cal0 pe_c fnBody fnScope fnArgs)
def kpB : PyData → Bool := fun d => namedPairB d && secondB kindB d
theorem takes_bad {ds : List PyData} {i : Nat} {d : PyData} (e : ds[i]? = some d) (h : kpB d = false) : takesB (.tuple ds) = false := by
  have hm := List.mem_of_getElem? e
  unfold kpB at h
  rw [takesB_tup]
  cases h1 : namedPairB d with
  | false =>
    have : ds.all namedPairB = false := by
      rw [List.all_eq_false]
      exact ⟨d, hm, by rw [h1]; decide⟩
    rw [this, Bool.false_and]
  | true =>
    rw [h1, Bool.true_and] at h
    have : ds.all (secondB kindB) = false := by
      rw [List.all_eq_false]
      exact ⟨d, hm, by rw [h]; decide⟩
    rw [this, Bool.and_false, Bool.and_false]
theorem partB_not {ds : List PyData} (h : ds.length ≠ 3) : partB (.tuple ds) = false := by
  unfold partB
  split
  · rename_i e
    cases e
    exact absurd rfl h
  · rfl
section
variable {P : Program} {w : World} {K : PySem.W.Frag} {mg : Str → Option Value} {base : Heap}
abbrev sPIsPart : Stmt := topS 29
abbrev NPIsPart : List Str := ["thing", "takes", "gives", "rows"]
theorem scPIsPart : FnScope NPIsPart ["thing"] (fnScope sPIsPart) := ⟨rfl, rfl, rfl, by decide +kernel, rfl, by decide +kernel, by decide +kernel⟩
theorem c_isPart (T : Tp mg) (c_PAreTakes : Cal P w K mg base 4 "_are_takes" (spS K takesB) []) (c_PAreRows : Cal P w K mg base 8 "_are_rows" (spS K rowsB) []) (c_PIsKind : Cal P w K mg base 2 "is_kind" (spLook K kindB) []) {f : Addr} {fd : FuncData} (D : Def K mg "is_part" sPIsPart f fd) (b : Binds K fd ["thing"] []) : Cal P w K mg base 9 "is_part" (spS K partB) [] := by
  refine cal0 D b .nil scPIsPart (fun vs H Q E h => ?_) (fun cdv A outer s H vs Q E hr h => ?_)
  · obtain ⟨v, d, rfl, _⟩ := h
    rfl
  · obtain ⟨v, d, rfl, hd, hs, hsl, q⟩ := h
    have nd := scPIsPart.nd
    refine ⟨_, (pss_cons (ps_if (PW.pt (pw_or (pt_not (pt_val (pe_callB call_isQ (by rfl) T.n_isinstance (by decide +kernel) (pa_cons (pv 0) (pa_cons (pe_bltn (v := .ty "tuple") (by rfl) T.n_tuple (by decide +kernel) rfl) pa_nil))))) (pw_or1 (pt_cmpR op_ne (pe_callB call_len_seq (by rfl) T.n_len (by decide +kernel) (pa_cons (pv 0) pa_nil)) pe_int (nomark _)))))
      (pss_one (ps_ret pe_bl))
      pss_nil)
    (pss_cons (ps_asg (pv 0) (pg_tup (n := 3) rfl (pgs_cons (pg_name (i := 1) nd rfl (.inl rfl)) (pgs_cons (pg_name (i := 2) nd rfl (.inl rfl)) (pgs_cons (pg_name (i := 3) nd rfl (.inl rfl)) pgs_nil)))))
    (pss_one (ps_ret (pe_and (pe_c c_PAreTakes hr (by decide) (by rfl) (pa_cons (pv 1) pa_nil)) (pe_and (pe_c c_PIsKind hr (by decide) (by rfl) (pa_cons (pv 2) pa_nil)) (pe_one (pe_c c_PAreRows hr (by decide) (by rfl) (pa_cons (pv 3) pa_nil))))))))), ?_⟩
    have q0 := q H (Same.refl H)
    refine ⟨_, rfl, v, d, "tuple", rfl, hd, by decide, _, rfl, ?_⟩
    cases hd with
    | @tup a xs ds hq ha =>
      have hlen := ha.len
      refine iteF ⟨_, rfl, a, xs, rfl, .inr hq, rfl, _, rfl, ?_⟩
      by_cases h3 : ds.length = 3
      · refine iteF' (eq_int (n := 3) (by omega)) ?_
        obtain ⟨t, g, r, rfl⟩ := three_of h3
        obtain ⟨u, v2, w2, rfl, gt, gg, gr⟩ := ha.three
        have st := hs.at (i := 0) rfl
        have sg := hs.at (i := 1) rfl
        have sr := hs.at (i := 2) rfl
        have lt := (slim_at hsl).2 (i := 0) rfl
        have lr := (slim_at hsl).2 (i := 2) rfl
        refine ⟨_, rfl, a, _, rfl, hq, rfl, _, _, rfl, _, _, rfl, _, _, rfl, rfl, ?_⟩
        refine ⟨_, rfl, u, t, rfl, gt, st, lt, fun H1 s1 => ⟨_, rfl, ite2 (fun e1 => ?_) (fun e1 => ?_)⟩⟩
        · refine ⟨_, rfl, v2, g, rfl, gg.mono s1, sg.1, fun H2 s2 => ⟨_, rfl, ite2 (fun e2 => ?_) (fun e2 => ?_)⟩⟩
          · refine ⟨_, rfl, w2, r, rfl, (gr.mono s1).mono s2, sr, lr, fun H3 s3 => ?_⟩
            have := q H3 ((s1.trans s2).trans s3)
            have e : partB (.tuple [t, g, r]) = rowsB r := by
              show (takesB t && (kindB g && rowsB r)) = rowsB r
              rw [e1, e2]
              rfl
            rw [e] at this
            exact this
          · have := q H2 (s1.trans s2)
            have e : partB (.tuple [t, g, r]) = false := by
              show (takesB t && (kindB g && rowsB r)) = false
              rw [eq_false_of_ne_true e2, Bool.false_and, Bool.and_false]
            rw [e] at this
            exact this
        · have := q H1 s1
          have e : partB (.tuple [t, g, r]) = false := by
            show (takesB t && (kindB g && rowsB r)) = false
            rw [eq_false_of_ne_true e1, Bool.false_and]
          rw [e] at this
          exact this
      · refine iteT' (ne_int (n := 3) (by omega)) ?_
        rw [partB_not h3] at q0
        exact q0
    | _ => exact iteT q0
abbrev sLIsPairs : Stmt := topS 50
abbrev NLIsPairs : List Str := ["_law_thing", "_law_pair", "_law_name_here", "_law_kind_here"]
theorem scLIsPairs : FnScope NLIsPairs ["_law_thing"] (fnScope sLIsPairs) := ⟨rfl, rfl, rfl, by decide +kernel, rfl, by decide +kernel, by decide +kernel⟩
theorem c_lisPairs (T : Tp mg) (c_LIsName : Cal P w K mg base 1 "_law_is_name" (spW K nameB) []) (c_LIsKind : Cal P w K mg base 2 "_law_is_kind" (spW K kindB) []) {f : Addr} {fd : FuncData} (D : Def K mg "_law_is_pairs" sLIsPairs f fd) (b : Binds K fd ["_law_thing"] []) :
    Cal P w K mg base 3 "_law_is_pairs" (spS K takesB) [] := by
  refine cal0 D b .nil scLIsPairs (fun vs H Q E h => ?_) (fun cdv A outer s H vs Q E hr h => ?_)
  · obtain ⟨v, d, rfl, _⟩ := h
    rfl
  · obtain ⟨v, d, rfl, hd, hs, hsl, q⟩ := h
    have nd := scLIsPairs.nd
    refine ⟨_, (pss_cons (ps_if (pt_not (pt_val (pe_callB call_isQ (by rfl) T.n_isinstance (by decide +kernel) (pa_cons (pv 0) (pa_cons (pe_bltn (v := .ty "tuple") (by rfl) T.n_tuple (by decide +kernel) rfl) pa_nil)))))
      (pss_one (ps_ret pe_bl))
      pss_nil)
    (pss_cons (ps_for PassesOwn.never rfl (pi_tup (pv 0)) (pg_name (i := 1) nd rfl (.inl rfl))
      (pss_one (ps_if (PW.pt (pw_or (pt_not (pt_val (pe_callB call_isQ (by rfl) T.n_isinstance (by decide +kernel) (pa_cons (pv 1) (pa_cons (pe_bltn (v := .ty "tuple") (by rfl) T.n_tuple (by decide +kernel) rfl) pa_nil))))) (pw_or (pt_cmpR op_ne (pe_callB call_len_seq (by rfl) T.n_len (by decide +kernel) (pa_cons (pv 1) pa_nil)) pe_int (nomark _)) (pw_or (pt_not (pt_val (pe_c c_LIsName hr (by decide) (by rfl) (pa_cons (pe_ix ix_tup (pv 1) pe_int (fun _ _ => rfl)) pa_nil)))) (pw_or1 (pt_not (pt_val (pe_c c_LIsKind hr (by decide) (by rfl) (pa_cons (pe_ix ix_tup (pv 1) pe_int (fun _ _ => rfl)) pa_nil)))))))))
      (pss_one (ps_ret pe_bl))
      pss_nil)))
    (pss_one (ps_ret (pe_cmpR op_eq (pe_callB call_lenX (by rfl) T.n_len (by decide +kernel) (pa_cons (pe_callTy (cr_setS rfl) (by rfl) T.n_set (by decide +kernel) (pa_cons (pe_lc (own := [("_law_name_here", 2), ("_law_kind_here", 3)]) (g := gTup K 2 (gCons (gName 2) (gCons (gName 3) gNil))) (by rfl) nd (pi_tup (pv 0)) (blkOk_by (own := [("_law_name_here", 2), ("_law_kind_here", 3)]) (N := NLIsPairs) (sc := fnScope sLIsPairs) (by decide +kernel)) (fun _ _ _ _ _ => (pg_tup (n := 2) rfl (pgs_cons (pg_name (i := 2) nd rfl (Or.inl rfl)) (pgs_cons (pg_name (i := 3) nd rfl (Or.inl rfl)) pgs_nil)))) (fun _ _ _ _ _ => pts_nil) (fun _ _ _ _ _ => (pv 2))) pa_nil)) pa_nil)) (pe_callB call_len_seq (by rfl) T.n_len (by decide +kernel) (pa_cons (pv 0) pa_nil)) (nomark _)))))), ?_⟩
    have q0 := q H (Same.refl H)
    refine ⟨_, rfl, v, d, "tuple", rfl, hd, by decide, _, rfl, ?_⟩
    cases hd with
    | @tup a xs ds hq ha =>
      have hlen := ha.len
      have h60 := (slim_at hsl).1
      refine iteF ⟨_, rfl, a, rfl, ⟨xs, hq⟩, ?_⟩
      refine for_tup (K := K) (xs := xs) (fun i σ H' => (∃ o1, σ = [some (.ref a), o1, none, none]) ∧ Same H H' ∧ (ds.take i).all kpB = true) ⟨⟨_, rfl⟩, Same.refl H, rfl⟩ (fun i σ H' _ hW => sqT_mono hW.2.1 hq) (fun i x σ H' hx hW => ?_) (fun σ H' hW => ?_)
      · obtain ⟨⟨o1, rfl⟩, sm, hall⟩ := hW
        obtain ⟨d, hd, hdx⟩ := ha.at hx
        have hsd := hs.at hd
        have good : kpB d = true → (ds.take (i + 1)).all kpB = true := fun h => by
          rw [List.take_succ, hd, List.all_append, hall]
          show (true && (kpB d && true)) = true
          rw [h]
          rfl
        have badq : kpB d = false → ∀ H'', Same H H'' → Q (.bl false) H'' := fun h H'' s'' => by
          have := q H'' s''
          rw [takes_bad hd h] at this
          exact this
        have hdx' := hdx.mono sm
        refine ⟨_, rfl, x, d, "tuple", rfl, hdx', by decide, _, rfl, ?_⟩
        cases hdx' with
        | @tup t ys es hqt hat =>
          have hl2 := hat.len
          refine iteF ⟨_, rfl, t, ys, rfl, .inr hqt, rfl, _, rfl, ite2 (fun e => ?_) (fun e => ?_)⟩
          · refine badq ?_ _ sm
            have ne : es.length ≠ 2 := fun h => by
              have h2 : V.int ((ys.length : Nat) : Int) = V.int 2 := congrArg V.int (by omega)
              rw [decide_eq_true h2] at e
              exact absurd e (by decide)
            have : namedPairB (.tuple es) = false := by
              unfold namedPairB
              split
              · rename_i h
                cases h
                exact absurd rfl ne
              · rfl
            unfold kpB
            rw [this, Bool.false_and]
          · have e2 : es.length = 2 := by
              have h2 : decide (V.int ((ys.length : Nat) : Int) = V.int 2) = true := by simpa using e
              have := V.int.inj (of_decide_eq_true h2)
              omega
            obtain ⟨y0, y1, rfl⟩ := two_of e2
            obtain ⟨u0, u1, rfl, g0, g1⟩ := hat.two
            refine ⟨_, rfl, t, _, _, u0, rfl, rfl, hqt, atI_nat (j := 0) rfl, u0, y0, rfl, g0, hsd.at (i := 0) rfl, fun H2 s2 => ⟨_, rfl, ite2 (fun en => ?_) (fun en => ?_)⟩⟩
            · refine badq ?_ _ (sm.trans s2)
              have en' : nameB y0 = false := by simpa using en
              show (nameB y0 && _) = false
              rw [en', Bool.false_and]
            · have en' : nameB y0 = true := by simpa using en
              refine ⟨_, rfl, t, _, _, u1, rfl, rfl, sqT_mono s2 hqt, atI_nat (j := 1) rfl, u1, y1, rfl, g1.mono s2, hsd.at (i := 1) rfl, fun H3 s3 => ⟨_, rfl, ite2 (fun et => ?_) (fun et => ?_)⟩⟩
              · refine badq ?_ _ ((sm.trans s2).trans s3)
                have et' : kindB y1 = false := by simpa using et
                show (_ && kindB y1) = false
                rw [et', Bool.and_false]
              · have et' : kindB y1 = true := by simpa using et
                refine ⟨⟨_, rfl⟩, (sm.trans s2).trans s3, good ?_⟩
                show (nameB y0 && kindB y1) = true
                rw [en', et']
                rfl
        | _ => exact iteT (badq rfl _ sm)
      · obtain ⟨⟨o1, rfl⟩, sm, hall⟩ := hW
        rw [hlen, List.take_of_length_le (Nat.le_refl _)] at hall
        have np : ∀ {i : Nat} {d : PyData}, ds[i]? = some d → ∃ z y, d = .tuple [.str z, y] ∧ nameS z = true := fun {i d} e => by
          have h := List.all_eq_true.mp hall d (List.mem_of_getElem? e)
          unfold kpB at h
          rw [Bool.and_eq_true] at h
          exact namedPair_of h.1
        refine ⟨_, rfl, a, rfl, ⟨xs, sqT_mono sm hq⟩, fun Dl hDl => ?_⟩
        refine lc_tup (K := K) (a := a) (xs := xs) (fun i H2 => H2 Dl = some (.lst (((ds.take i).map firstS).map V.str)) ∧ Same H' H2)
          ⟨upd_same, Same.new hDl⟩ (fun i H2 _ hW => sqT_mono (sm.trans hW.2) hq) (fun i x H2 hx hW => ?_) (fun H2 hW => ?_)
        · obtain ⟨hat, sm2⟩ := hW
          obtain ⟨d, hd, hdx⟩ := ha.at hx
          obtain ⟨z, y, rfl, hz⟩ := np hd
          have hdx' := hdx.mono (sm.trans sm2)
          cases hdx' with
          | @tup t ys es hqt hat2 =>
            obtain ⟨u0, u1, rfl, g0, g1⟩ := hat2.two
            cases g0
            refine ⟨t, _, rfl, hqt, rfl, _, _, rfl, _, _, rfl, rfl, rfl, ?_⟩
            unfold tYes; dsimp only
            rw [if_pos rfl]
            refine ⟨_, rfl, _, hat, ?_, ?_, fun b o hb => ?_⟩
            · rw [List.length_map, List.length_map, List.length_take, sizeLine_eq]
              omega
            · rw [List.take_succ, hd, List.map_append, List.map_append]
              exact upd_same
            · rw [upd_ne (ne_some hb hDl)]
              exact sm2 _ _ hb
        · obtain ⟨hat, sm2⟩ := hW
          rw [hlen, List.take_of_length_le (Nat.le_refl _)] at hat
          have zl : (ds.map firstS).length = ds.length := List.length_map ..
          refine ⟨Dl, ds.map firstS, rfl, SqL.of hat, by omega, fun aS haS => ?_⟩
          have hdl := dd_len (ds.map firstS) []
          have hdl' : (dd (ds.map firstS)).length ≤ (ds.map firstS).length := by
            simp only [List.length_nil] at hdl
            show ((ds.map firstS).foldl more []).length ≤ _
            omega
          have sA := (sm.trans sm2).trans (Same.new (o := SetXO P w aS (dd (ds.map firstS))) haS)
          refine ⟨aS, dd (ds.map firstS), rfl, upd_same, by omega, _, rfl, a, xs, rfl, .inr (sqT_mono sA hq), rfl, ?_⟩
          have q' := q _ sA
          have e : decide (V.int ((dd (ds.map firstS)).length : Nat) = V.int ((xs.length : Nat) : Int)) = takesB (.tuple ds) := by
            rw [dec_len, takesB_tup]
            have h1 : ds.all namedPairB = true := by
              rw [List.all_eq_true]
              intro d hd
              have h := List.all_eq_true.mp hall d hd
              unfold kpB at h
              rw [Bool.and_eq_true] at h
              exact h.1
            have h2 : ds.all (secondB kindB) = true := by
              rw [List.all_eq_true]
              intro d hd
              have h := List.all_eq_true.mp hall d hd
              unfold kpB at h
              rw [Bool.and_eq_true] at h
              exact h.2
            rw [h1, h2, Bool.and_true, Bool.true_and, hlen, ← zl]
            rfl
          rw [← e] at q'
          exact q'
    | _ => exact iteT q0
end
end K25
set_option Elab.async false
set_option linter.all false
set_option maxRecDepth 100000
set_option maxHeartbeats 4000000
namespace K25
open PySem PySem.Spec PyProof.Rows L2 KD
open C8 (Cal Def cal0 pe_c fnBody fnScope fnArgs)
section
variable {P : Program} {w : World} {K : PySem.W.Frag} {mg : Str → Option Value} {base : Heap}
abbrev sLIsPart : Stmt := topS 51
abbrev NLIsPart : List Str := ["_law_thing", "_law_rows", "_law_aims", "_law_row_here"]
theorem scLIsPart : FnScope NLIsPart ["_law_thing"] (fnScope sLIsPart) := ⟨rfl, rfl, rfl, by decide +kernel, rfl, by decide +kernel, by decide +kernel⟩
theorem c_lisPart (T : Tp mg) {N : Nat} (c_LIsPairs : Cal P w K mg base 3 "_law_is_pairs" (spS K takesB) []) (c_LIsKind : Cal P w K mg base 2 "_law_is_kind" (spW K kindB) []) (c_LIsRow : Cal P w K mg base (5 + N) "_law_is_row" (spF K rowB N) [])
    {f : Addr} {fd : FuncData} (D : Def K mg "_law_is_part" sLIsPart f fd) (b : Binds K fd ["_law_thing"] []) : Cal P w K mg base (6 + N) "_law_is_part" (spF K partB N) [] := by
  have e6 : 6 + N = (5 + N) + 1 := by omega
  rw [e6]
  refine cal0 D b .nil scLIsPart (fun vs H Q E h => ?_) (fun cdv A outer s H vs Q E hr h => ?_)
  · obtain ⟨v, d, rfl, _⟩ := h
    rfl
  · obtain ⟨v, d, rfl, hd, hs, hsl, hdep, q⟩ := h
    have nd := scLIsPart.nd
    refine ⟨_, (pss_cons (ps_if (PW.pt (pw_or (pt_not (pt_val (pe_callB call_isQ (by rfl) T.n_isinstance (by decide +kernel) (pa_cons (pv 0) (pa_cons (pe_bltn (v := .ty "tuple") (by rfl) T.n_tuple (by decide +kernel) rfl) pa_nil))))) (pw_or1 (pt_cmpR op_ne (pe_callB call_len_seq (by rfl) T.n_len (by decide +kernel) (pa_cons (pv 0) pa_nil)) pe_int (nomark _)))))
      (pss_one (ps_ret pe_bl))
      pss_nil)
    (pss_cons (ps_if (PW.pt (pw_or (pt_not (pt_val (pe_c c_LIsPairs hr (by omega) (by rfl) (pa_cons (pe_ix ix_tup (pv 0) pe_int (fun _ _ => rfl)) pa_nil)))) (pw_or1 (pt_not (pt_val (pe_c c_LIsKind hr (by omega) (by rfl) (pa_cons (pe_ix ix_tup (pv 0) pe_int (fun _ _ => rfl)) pa_nil)))))))
      (pss_one (ps_ret pe_bl))
      pss_nil)
    (pss_cons (ps_set (i := 1) nd rfl (.inl rfl) (pe_ix ix_tup (pv 0) pe_int (fun _ _ => rfl)))
    (pss_cons (ps_if (PW.pt (pw_or (pt_not (pt_val (pe_callB call_isQ (by rfl) T.n_isinstance (by decide +kernel) (pa_cons (pv 1) (pa_cons (pe_bltn (v := .ty "tuple") (by rfl) T.n_tuple (by decide +kernel) rfl) pa_nil))))) (pw_or (pt_cmpR (op_eqTNil (Nat.lt_trans (Nat.lt_succ_self _) (hin_of hr))) (pv 1) (pe_tup pa_nil) (nomark _)) (pw_or1 (pt_not (pt_val (pe_callB (cr_all rfl) (by rfl) T.n_all (by decide +kernel) (pa_cons (pe_lc (own := [("_law_row_here", 3)]) (g := gName 3) (by rfl) nd (pi_tup (pv 1)) (blkOk_by (own := [("_law_row_here", 3)]) (N := NLIsPart) (sc := fnScope sLIsPart) (by decide +kernel)) (fun _ _ _ _ _ => pg_name (i := 3) nd rfl (Or.inl rfl)) (fun _ _ _ _ _ => pts_nil) (fun _ _ _ _ _ => (pe_c c_LIsRow hr (Nat.le_refl _) (by rfl) (pa_cons (pv 3) pa_nil)))) pa_nil))))))))
      (pss_one (ps_ret pe_bl))
      pss_nil)
    (pss_cons (ps_setLc (i := 2) (own := [("_law_row_here", 3)]) (g := gName 3) rfl nd rfl rfl (sw_true rfl rfl rfl (by decide +kernel)) (pi_tup (pv 1)) (blkOk_by (own := [("_law_row_here", 3)]) (N := NLIsPart) (sc := fnScope sLIsPart) (by decide +kernel)) (fun _ _ _ _ _ => pg_name (i := 3) nd rfl (Or.inl rfl)) (fun _ _ _ _ _ => (pts_one (pt_cmpR (r := rIn K false) op_in_seq (pe_ix (r := rIxT K) ix_tup (pv 3) pe_int (fun _ _ => rfl)) (pe_lst (pa_cons pe_str (pa_cons pe_str pa_nil))) (by rfl)))) (fun _ _ _ _ _ => (pe_ix (r := rIxT K) ix_tup (pv 3) (pe_un un_neg pe_int) (fun _ _ => rfl))))
    (pss_one (ps_ret (pe_and (pe_cmpR op_in_seq (pe_ix ix_tup (pe_ix ix_tup (pv 1) (pe_un un_neg pe_int) (fun _ _ => rfl)) pe_int (fun _ _ => rfl)) (pe_lst (pa_cons pe_str (pa_cons pe_str pa_nil))) (by rfl)) (pe_one (pe_cmpR op_lt (pe_callB (cr_max rfl) (by rfl) T.n_max (by decide +kernel) (pa_cons (pe_op op_cat (pe_lst (pa_cons pe_int pa_nil)) (pv 2)) pa_nil)) (pe_callB call_len_seq (by rfl) T.n_len (by decide +kernel) (pa_cons (pv 1) pa_nil)) (nomark _))))))))))), ?_⟩
    have q0 := q H (Same.refl H)
    refine ⟨_, rfl, v, d, "tuple", rfl, hd, by decide, _, rfl, ?_⟩
    cases hd with
    | @tup a xs ds hq ha =>
      have hlen := ha.len
      refine iteF ⟨_, rfl, a, xs, rfl, .inr hq, rfl, _, rfl, ?_⟩
      by_cases h3 : ds.length = 3
      · refine iteF' (eq_int (n := 3) (by omega)) ?_
        obtain ⟨t, g, r, rfl⟩ := three_of h3
        obtain ⟨u, v2, w2, rfl, gt, gg, gr⟩ := ha.three
        have st := hs.at (i := 0) rfl
        have sg := hs.at (i := 1) rfl
        have sr := hs.at (i := 2) rfl
        have lt := (slim_at hsl).2 (i := 0) rfl
        have lr := (slim_at hsl).2 (i := 2) rfl
        have hdr := depth_at (ds := [t, g, r]) (i := 2) (d := r) rfl
        refine ⟨_, rfl, a, _, _, u, rfl, rfl, hq, atI_nat (j := 0) rfl, u, t, rfl, gt, st, lt, fun H1 s1 => ⟨_, rfl, ite2 (fun e1 => ?_) (fun e1 => ?_)⟩⟩
        · have e1' : takesB t = false := by simpa using e1
          have := q H1 s1
          have e : partB (.tuple [t, g, r]) = false := by
            show (takesB t && (kindB g && rowsB r)) = false
            rw [e1', Bool.false_and]
          rw [e] at this
          exact this
        have e1' : takesB t = true := by simpa using e1
        refine ⟨_, rfl, a, _, _, v2, rfl, rfl, sqT_mono s1 hq, atI_nat (j := 1) rfl, v2, g, rfl, gg.mono s1, sg, fun H2 s2 => ⟨_, rfl, ite2 (fun e2 => ?_) (fun e2 => ?_)⟩⟩
        · have e2' : kindB g = false := by simpa using e2
          have := q H2 (s1.trans s2)
          have e : partB (.tuple [t, g, r]) = false := by
            show (takesB t && (kindB g && rowsB r)) = false
            rw [e2', Bool.false_and, Bool.and_false]
          rw [e] at this
          exact this
        have e2' : kindB g = true := by simpa using e2
        have s12 := s1.trans s2
        have ep : partB (.tuple [t, g, r]) = rowsB r := by
          show (takesB t && (kindB g && rowsB r)) = rowsB r
          rw [e1', e2']
          rfl
        have q2 : ∀ H', Same H2 H' → Q (.bl (rowsB r)) H' := fun H' s' => by
          have := q H' (s12.trans s')
          rw [ep] at this
          exact this
        refine ⟨_, rfl, a, _, _, w2, rfl, rfl, sqT_mono s12 hq, atI_nat (j := 2) rfl, ?_⟩
        refine ⟨_, rfl, w2, r, "tuple", rfl, gr.mono s12, by decide, _, rfl, ?_⟩
        have gr2 := gr.mono s12
        clear q q0 ep
        cases gr2 with
        | @tup b ys es hqr har =>
          have h60 := (slim_at lr).1
          have hle := har.len
          refine iteF ⟨_, rfl, (by show 0 ≤ sizeLine; decide), fun t0 ht0 => ⟨b, t0, ys, rfl, rfl, sqT_mono (Same.new ht0) hqr, SqT.of upd_same, _, rfl, ?_⟩⟩
          have s0 : Same H2 (upd H2 t0 (.tup [])) := Same.new ht0
          by_cases h0 : es = []
          · subst h0
            cases har
            exact iteT (q2 _ s0)
          have h1 : 1 ≤ es.length := by
            cases es with
            | nil => exact absurd rfl h0
            | cons x y => rw [List.length_cons]; omega
          have ex : ys.isEmpty = false := by
            cases ys with
            | nil => simp at hle; omega
            | cons x y => rfl
          have ed : es.isEmpty = false := by
            cases es with
            | nil => exact absurd rfl h0
            | cons x y => rfl
          refine iteF' ex ?_
          generalize upd H2 t0 (.tup []) = H3 at *
          refine ⟨_, rfl, b, rfl, ⟨ys, sqT_mono s0 hqr⟩, ?_⟩
          refine lcB (K := K) rowB (sqT_mono s0 hqr) (har.mono s0) (by omega) (fun i x d1 H' Q' e hx sm hQ => ?_) (fun Dl H4 _ hat s4 => ?_)
          · have hd1 := depth_at (ds := es) (i := i) (d := d1) e
            exact ⟨_, rfl, x, d1, rfl, hx, sr.at e, (slim_at lr).2 e, by omega, hQ⟩
          refine ⟨Dl, _, rfl, SqL.of hat, _, rfl, ?_⟩
          rw [all_id]
          have s04 := s0.trans s4
          by_cases hr1 : es.all rowB = true
          · refine iteF' (by rw [hr1]; rfl) ?_
            clear hat
            have har4 := har.mono s04
            have hq4 := sqT_mono s04 hqr
            refine ⟨_, rfl, b, rfl, ⟨ys, hq4⟩, fun D hD => ?_⟩
            refine lc_tup (K := K) (a := b) (xs := ys) (fun i H' => H' D = some (.lst (((es.take i).flatMap jumpI).map V.int)) ∧ Same H4 H')
              ⟨upd_same, Same.new hD⟩ (fun i H' _ hW => sqT_mono hW.2 hq4) (fun i x H' hx hW => ?_) (fun H' hW => ?_)
            · obtain ⟨hatD, sm⟩ := hW
              obtain ⟨d1, hd1, Dx⟩ := har4.at hx
              have hrow1 : rowB d1 = true := List.all_eq_true.mp hr1 d1 (List.mem_of_getElem? hd1)
              have hi : i < ys.length := (List.getElem?_eq_some_iff.mp hx).1
              have len1 : ((es.take i).flatMap jumpI).length ≤ 60 := by
                have b1 := flat_len (es.take i)
                rw [List.length_take] at b1
                omega
              obtain ⟨u1, rest, rfl⟩ := row_form hrow1
              cases Dx.mono sm with
              | @tup t1 zs _ hqt hat1 =>
                obtain ⟨v0, vr, rfl, hu0, hvr⟩ := dpAll_head hat1
                cases hu0
                refine ⟨rfl, ?_⟩
                refine ⟨_, rfl, t1, _, 0, .str u1, rfl, rfl, hqt, atI_nat (j := 0) rfl, (by show 2 ≤ sizeLine; decide), fun l5 hl5 => ?_⟩
                have s5 : Same H' (upd H' l5 (.lst [.str "go", .str "unless"])) := Same.new hl5
                refine ⟨l5, _, rfl, .inl (SqL.of upd_same), rfl, rfl, _, rfl, ?_⟩
                have eI : inV (.str u1) [.str "go", .str "unless"] = (u1 == "go" || u1 == "unless") := inV2
                have hat5 := s5 _ _ hatD
                have sm5 := sm.trans s5
                have hqt5 := sqT_mono s5 hqt
                simp only [Bool.false_eq_true, if_false]
                rw [eI]
                have step : ∀ {i1 : Int}, jumpI (.tuple (.str u1 :: rest)) = [i1] → ((es.take i).flatMap jumpI).map V.int ++ [.int i1] = ((es.take (i + 1)).flatMap jumpI).map V.int := fun {i1} h => by
                  rw [List.take_succ, hd1, List.flatMap_append, List.map_append]
                  show _ = _ ++ (jumpI (.tuple (.str u1 :: rest)) ++ []).map V.int
                  rw [h]
                  rfl
                have out : ∀ {i1 : Int}, jumpI (.tuple (.str u1 :: rest)) = [i1] → (upd (upd H' l5 (.lst [.str "go", .str "unless"])) D (.lst (((es.take i).flatMap jumpI).map V.int ++ [.int i1]))) D = some (.lst (((es.take (i + 1)).flatMap jumpI).map V.int)) ∧ Same H4 (upd (upd H' l5 (.lst [.str "go", .str "unless"])) D (.lst (((es.take i).flatMap jumpI).map V.int ++ [.int i1]))) := fun {i1} h =>
                  ⟨by rw [step h]; exact upd_same, fun b o hb => by
                    rw [upd_ne (ne_some hb hD)]
                    exact sm5 _ _ hb⟩
                by_cases hg : (u1 == ("go" : Str)) = true
                · rw [hg, Bool.true_or]
                  refine iteT ?_
                  have eu := eq_of_beq hg
                  subst eu
                  obtain ⟨i1, rfl⟩ := row_go hrow1
                  obtain ⟨v1, rfl, g1⟩ := hvr.one
                  cases g1
                  exact ⟨_, rfl, _, rfl, t1, _, -1, .int i1, rfl, rfl, hqt5, (atI_last' (by show 1 ≤ 2; decide)).trans rfl, _, hat5, by rw [List.length_map, sizeLine_eq]; omega, out rfl⟩
                · by_cases hun : (u1 == ("unless" : Str)) = true
                  · rw [hun, Bool.or_true]
                    refine iteT ?_
                    have eu := eq_of_beq hun
                    subst eu
                    obtain ⟨d2, i1, rfl⟩ := row_unless hrow1
                    obtain ⟨v1, v2', rfl, g1, g2⟩ := hvr.two
                    cases g2
                    exact ⟨_, rfl, _, rfl, t1, _, -1, .int i1, rfl, rfl, hqt5, (atI_last' (by show 1 ≤ 3; decide)).trans rfl, _, hat5, by rw [List.length_map, sizeLine_eq]; omega, out (jump_unless d2 i1)⟩
                  · rw [eq_false_of_ne_true hg, eq_false_of_ne_true hun]
                    refine iteF ⟨?_, sm5⟩
                    rw [hat5, List.take_succ, hd1, List.flatMap_append]
                    show _ = some (HO.lst ((_ ++ (jumpI (.tuple (.str u1 :: rest)) ++ [])).map V.int))
                    rw [jump_none hg hun, List.append_nil, List.append_nil]
            · obtain ⟨hatD, sm⟩ := hW
              rw [hle, List.take_length] at hatD
              have hN : ys.length - 1 < ys.length := by omega
              obtain ⟨vl, hvl⟩ := at_some hN
              obtain ⟨dl, hdl, Dl0⟩ := har4.at hvl
              have hrl : rowB dl = true := List.all_eq_true.mp hr1 dl (List.mem_of_getElem? hdl)
              obtain ⟨u1, rest, rfl⟩ := row_form hrl
              have hlast : lastB es = (u1 == "go" || u1 == "back") := by
                unfold lastB
                rw [getLast_at es h1, ← hle, hdl]
                rfl
              cases Dl0.mono sm with
              | @tup tl yl _ hql hal =>
                obtain ⟨v0, vr, rfl, hu0, _⟩ := dpAll_head hal
                cases hu0
                have hqs := sqT_mono sm hq4
                refine ⟨_, rfl, _, rfl, b, ys, -1, .ref tl, rfl, rfl, hqs, (atI_last' (by omega)).trans hvl, tl, _, 0, .str u1, rfl, rfl, hql, atI_nat (j := 0) rfl, (by show 2 ≤ sizeLine; decide), fun t2 ht2 => ?_⟩
                have s2' : Same H' (upd H' t2 (.lst [.str "go", .str "back"])) := Same.new ht2
                refine ⟨t2, _, rfl, .inl (SqL.of upd_same), rfl, rfl, _, rfl, ?_⟩
                show if (inV (.str u1) [.str "go", .str "back"]) = true then _ else _
                rw [inV2]
                have qE := q2 _ ((s04.trans sm).trans s2')
                rw [rowsB_tup, ed, hr1, hlast] at qE
                by_cases hw : (u1 == "go" || u1 == "back") = true
                · refine iteT' hw ⟨(by show 1 ≤ sizeLine; decide), fun l6 hl6 => ?_⟩
                  have s6 := s2'.trans (Same.new (o := .lst [.int 0]) hl6)
                  have fl := flat_len es
                  refine ⟨_, rfl, l6, D, _, _, rfl, rfl, upd_same, s6 _ _ hatD, ?_, fun l7 hl7 => ?_⟩
                  · rw [List.length_map, sizeLine_eq]
                    show 1 + _ ≤ _
                    omega
                  · have s7 := s6.trans (Same.new (o := .lst ([V.int 0] ++ (es.flatMap jumpI).map V.int)) hl7)
                    refine ⟨l7, 0 :: es.flatMap jumpI, rfl, SqL.of upd_same, by simp, fun m hm hmax => ?_⟩
                    refine ⟨_, rfl, b, ys, rfl, .inr (sqT_mono (sm.trans s7) hq4), _, _, rfl, rfl, ?_⟩
                    have qF := q2 _ ((s04.trans sm).trans s7)
                    rw [rowsB_tup, ed, hr1, hlast, hw] at qF
                    have em : decide (m < ((ys.length : Nat) : Int)) = (es.flatMap jumpI).all fun i => decide (i < (es.length : Int)) := by
                      rw [Bool.eq_iff_iff, decide_eq_true_eq, List.all_eq_true, hle]
                      constructor
                      · intro h i hi
                        have := hmax i (List.mem_cons_of_mem _ hi)
                        exact decide_eq_true (by omega)
                      · intro h
                        rcases List.mem_cons.mp hm with z | z
                        · omega
                        · exact of_decide_eq_true (h m z)
                    rw [← em] at qF
                    exact qF
                · refine iteF' (eq_false_of_ne_true hw) ?_
                  rw [eq_false_of_ne_true hw] at qE
                  exact qE
          · refine iteT' (by rw [eq_false_of_ne_true hr1]; rfl) ?_
            have := q2 H4 s04
            rw [rowsB_tup, eq_false_of_ne_true hr1, Bool.false_and, Bool.and_false] at this
            exact this
        | _ => exact iteT (q2 H2 (Same.refl H2))
      · refine iteT' (ne_int (n := 3) (by omega)) ?_
        rw [partB_not h3] at q0
        exact q0
    | _ => exact iteT q0
end
end K25
set_option Elab.async false
set_option linter.all false
set_option maxRecDepth 100000
set_option maxHeartbeats 8000000
namespace K25
open PySem PySem.Spec PyProof.Rows L2 KD
open C8 (Cal Def cal0 pe_c fnBody fnScope fnArgs)
def But2 (p D : Addr) (H H' : Hp) : Prop := ∀ b o, b ≠ p → b ≠ D → H b = some o → H' b = some o
theorem But2.of {p m : Addr} {H H' : Hp} (h : But p H H') : But2 p m H H' := fun b o n _ e => h b o n e
theorem But2.trans {p m : Addr} {H H1 H2 : Hp} (a : But2 p m H H1) (b : But2 p m H1 H2) : But2 p m H H2 := fun c o n n2 e => b c o n n2 (a c o n n2 e)
theorem But2.new {p m q : Addr} {H : Hp} {o : HO} (h : H q = none) : But2 p m H (upd H q o) := But2.of (But.new h)
theorem ixN_at {n j : Nat} (hj : j < n) : ixN n (j : Int) = some j := by
  unfold ixN
  rw [if_pos (by omega), if_pos (by omega)]
  rfl
theorem ixN_m1 {n : Nat} (h : 0 < n) : ixN n (-1) = some (n - 1) := by
  unfold ixN
  rw [if_neg (by decide), if_pos (by omega)]
  congr 1
  omega
theorem flat_strs : ∀ ms : List Str, (ms.map V.str).all flatV = true
  | [] => rfl
  | m :: ms => by
    rw [List.map_cons, List.all_cons, flat_strs ms]
    rfl
theorem td_set {H : Hp} : ∀ {vs : List V} {ds : List PyData} {i : Nat} {v : V} {d : PyData}, TdAll H vs ds → Td H v d → TdAll H (vs.set i v) (ds.set i d)
  | _, _, _, _, _, .nil, _ => .nil
  | _, _, 0, _, _, .cons _ t, h => .cons h t
  | _, _, i + 1, _, _, .cons a t, h => .cons a (td_set t h)
theorem td_app1 {H : Hp} {vs : List V} {ds : List PyData} {v : V} {d : PyData} (h : TdAll H vs ds) (t : Td H v d) : TdAll H (vs ++ [v]) (ds ++ [d]) := h.app (.cons t .nil)
theorem td_rev {H : Hp} : ∀ {vs : List V} {ds : List PyData}, TdAll H vs ds → TdAll H vs.reverse ds.reverse
  | _, _, .nil => .nil
  | _, _, .cons a t => by
    rw [List.reverse_cons, List.reverse_cons]
    exact (td_rev t).app (.cons a .nil)
/-- a row of so many -/
structure RowD (R : Int) (d : PyData) : Prop where
  sm : Sm 22 20000 d
  row : rowB d = true
  jmp : ∀ i ∈ jumpI d, i < R
theorem sm_all {a W : Nat} : ∀ {ds : List PyData}, (∀ d ∈ ds, Sm a W d) → SmAll a (ds.length * (W + 1)) ds
  | [], _ => .nilW
  | d :: ds, h => (SmAll.cons (h d List.mem_cons_self) (sm_all fun x hx => h x (List.mem_cons_of_mem _ hx))).mono (Nat.le_refl _) (by rw [List.length_cons, Nat.succ_mul]; omega)
theorem unlike_of {zs : List Str} (nd : zs.Nodup) : unlikeB zs = true := by
  have p2 : (dd zs).Perm zs := (List.perm_ext_iff_of_nodup (dd_nodup zs [] List.nodup_nil) nd).mpr fun k => by
    show k ∈ zs.foldl more [] ↔ k ∈ zs
    rw [dd_mem]
    exact ⟨fun h => h.elim (fun c => nomatch c) id, .inr⟩
  exact decide_eq_true p2.length_eq
theorem rises_nodup {zs : List Str} (h : rises zs = true) : zs.Nodup := (rises_pw h).imp fun {a b} hab e => by rw [e] at hab; exact List.lt_irrefl _ hab
theorem rows_ok {R : Int} {ds : List PyData} {d : PyData} (h : ∀ d ∈ ds, RowD R d) (h1 : 1 ≤ ds.length) (hR : R ≤ (ds.length : Int)) (hl : ds.getLast? = some d) (hw : wordIn "go" "back" d = true) : rowsB (.tuple ds) = true := by
  have e1 : ds.isEmpty = false := by
    cases ds with
    | nil => exact absurd h1 (by decide)
    | cons x y => rfl
  have e2 : ds.all rowB = true := List.all_eq_true.mpr fun d hd => (h d hd).row
  have e3 : lastB ds = true := by
    unfold lastB
    rw [hl]
    exact hw
  have e4 : ((ds.flatMap jumpI).all fun i => decide (i < (ds.length : Int))) = true := by
    rw [List.all_eq_true]
    intro i hi
    obtain ⟨d, hd, hi⟩ := List.mem_flatMap.mp hi
    have := (h d hd).jmp i hi
    exact decide_eq_true (by omega)
  rw [rowsB_tup, e1, e2, e3, e4]
  rfl
/-- takes drawn -/
structure TakesD (ds : List PyData) : Prop where
  nm : ds.all namedPairB = true
  kd : ds.all (secondB kindB) = true
  un : (ds.map firstS).Nodup
  sm : ∀ d ∈ ds, Sm 9 68 d
  ln : ds.length ≤ 7
theorem TakesD.ok {ds : List PyData} (h : TakesD ds) : takesB (.tuple ds) = true := by
  rw [takesB_tup, h.nm, h.kd, unlike_of h.un]
  rfl
theorem TakesD.rev {ds : List PyData} (h : TakesD ds) : TakesD ds.reverse := by
  refine ⟨by rw [List.all_reverse]; exact h.nm, by rw [List.all_reverse]; exact h.kd, ?_, fun d hd => h.sm d (List.mem_reverse.mp hd), by rw [List.length_reverse]; exact h.ln⟩
  rw [List.map_reverse]
  exact (List.reverse_perm _).nodup_iff.mpr h.un
/-- a part drawn -/
structure PartIs (H : Hp) (v : V) (ts : List PyData) (g : PyData) (rs : List PyData) : Prop where
  td : Td H v (.tuple [.tuple ts, g, .tuple rs])
  tk : TakesD ts
  gk : kindB g = true
  gs : Sm 8 58 g
  rw_ : rowsB (.tuple rs) = true
  rs_ : ∀ d ∈ rs, Sm 22 20000 d
  rl : rs.length ≤ 59
theorem PartIs.ok {H : Hp} {v : V} {ts : List PyData} {g : PyData} {rs : List PyData} (h : PartIs H v ts g rs) : partB (.tuple [.tuple ts, g, .tuple rs]) = true := by
  show (takesB (.tuple ts) && (kindB g && rowsB (.tuple rs))) = true
  rw [h.tk.ok, h.gk, h.rw_]
  rfl
section
variable {P : Program} {w : World} {K : PySem.W.Frag} {mg : Str → Option Value} {base : Heap}
abbrev sLPart : Stmt := topS 43
abbrev NLPart : List Str := ["_law_pot_here", "_law_marks", "_law_left", "_law_most", "_law_takes", "_law_many", "_law_rows", "_law_k", "_law_mark", "_law_name_here"]
theorem scLPart : FnScope NLPart ["_law_pot_here", "_law_marks", "_law_left", "_law_most"] (fnScope sLPart) := ⟨rfl, rfl, rfl, by decide +kernel, rfl, by decide +kernel, by decide +kernel⟩
def spPart : Sp := fun vs H Q _ => ∃ (p mk : Addr) (n : Int), vs = [.ref p, .ref mk, .int 30, .int 59] ∧ Pt H p n ∧ H mk = some (.lst []) ∧ mk ≠ p ∧
  ∀ v ts g rs n' H', PartIs H' v ts g rs → Pt H' p n' → But2 p mk H H' → Q v H'
theorem c_part (T : Tp mg) (c_LTake : Cal P w K mg base 1 "_law_take" spTake []) (c_LName : Cal P w K mg base 2 "_law_name" spName []) (c_LKind : Cal P w K mg base 10 "_law_kind" (spKind 8) []) (c_LNames : Cal P w K mg base 3 "_law_names" spNames []) (c_LSome : Cal P w K mg base 23 "_law_some" spSome []) (c_LRow : Cal P w K mg base 24 "_law_row" spRow [])
    {f : Addr} {fd : FuncData} (D : Def K mg "_law_part" sLPart f fd) (b : Binds K fd ["_law_pot_here", "_law_marks", "_law_left", "_law_most"] []) : Cal P w K mg base 25 "_law_part" spPart [] := by
  refine cal0 D b .nil scLPart (fun vs H Q E h => ?_) (fun cdv A outer s H vs Q E hr h => ?_)
  · obtain ⟨p, mk, n, rfl, _⟩ := h
    rfl
  · obtain ⟨p, mk, n, rfl, hp, hmk, nmk, q⟩ := h
    have nd := scLPart.nd
    refine ⟨_, (pss_cons (ps_setLc (i := 4) (own := [("_law_name_here", 9)]) (g := gName 9) rfl nd rfl rfl (sw_true rfl rfl rfl (by decide +kernel)) (pi_list (pe_c c_LNames hr (by decide) (by rfl) (pa_cons (pv 0) (pa_cons pe_int pa_nil)))) (blkOk_by (own := [("_law_name_here", 9)]) (N := NLPart) (sc := fnScope sLPart) (by decide +kernel)) (fun _ _ _ _ _ => pg_name (i := 9) nd rfl (Or.inl rfl)) (fun _ _ _ _ _ => pts_nil) (fun _ _ _ _ _ => (pe_tup (pa_cons (pv 9) (pa_cons (pe_c c_LKind hr (by decide) (by rfl) (pa_cons (pv 0) (pa_cons pe_int pa_nil))) pa_nil)))))
    (C8.pss_cut (ps_if (pt_cmpR op_eq (pe_c c_LTake hr (by decide) (by rfl) (pa_cons (pv 0) (pa_cons pe_int pa_nil))) pe_int (nomark _))
      (pss_one (ps_set (i := 4) nd rfl (.inl rfl) (pe_revL (pv 4))))
      pss_nil)
    (pss_cons (ps_set (i := 5) nd rfl (.inr rfl) (pe_op op_add pe_int (pe_c c_LTake hr (by decide) (by rfl) (pa_cons (pv 0) (pa_cons (pe_ix ix_list (pe_lst (pa_cons pe_int (pa_cons (pv 3) pa_nil))) (pe_op op_fdivW (pe_c c_LTake hr (by decide) (by rfl) (pa_cons (pv 0) (pa_cons pe_int pa_nil))) pe_int) (fun _ _ => rfl)) pa_nil)))))
    (pss_cons (ps_setLc (i := 6) (own := [("_law_k", 7)]) (g := gName 7) rfl nd rfl rfl (sw_true rfl rfl rfl (by decide +kernel)) (pi_range1 (by rfl) T.n_range (pa_cons (pv 5) pa_nil)) (blkOk_by (own := [("_law_k", 7)]) (N := NLPart) (sc := fnScope sLPart) (by decide +kernel)) (fun _ _ _ _ _ => pg_name (i := 7) nd rfl (Or.inl rfl)) (fun _ _ _ _ _ => pts_nil) (fun _ _ _ _ _ => (pe_c c_LRow hr (by decide) (by rfl) (pa_cons (pv 0) (pa_cons (pv 2) (pa_cons (pv 5) pa_nil))))))
    (pss_cons (ps_for PassesOwn.never rfl (pi_range1 (by rfl) T.n_range (pa_cons (pe_op op_sub (pv 5) pe_int) pa_nil)) (pg_name (i := 7) nd rfl (.inl rfl))
      (pss_cons (ps_set (i := 8) nd rfl (.inl rfl) (pe_c c_LName hr (by decide) (by rfl) (pa_cons (pv 0) pa_nil)))
    (pss_one (ps_if (PW.pt (pw_and (pt_cmpR op_notIn_seq (pv 8) (pv 1) (by rfl)) (pw_and1 (pt_cmpR op_eq (pe_c c_LTake hr (by decide) (by rfl) (pa_cons (pv 0) (pa_cons pe_int pa_nil))) pe_int (nomark _)))))
      (pss_cons (ps_asg (pe_tup (pa_cons pe_str (pa_cons (pv 8) pa_nil))) (pg_sub (pv 6) (pv 7) set_list))
    (pss_one (ps_expr (pe_bm PySem.F.plainAttrs_list PySem.F.slot_list_append PySem.F.type_list_append mt_append (pv 1) (pa_cons (pv 8) pa_nil)))))
      pss_nil))))
    (pss_cons (ps_asg (pe_ix ix_list (pe_lst (pa_cons (pe_tup (pa_cons pe_str (pa_cons (pe_c c_LTake hr (by decide) (by rfl) (pa_cons (pv 0) (pa_cons (pv 5) pa_nil))) pa_nil))) (pa_cons (pe_tup (pa_cons pe_str (pa_cons (pe_c c_LSome hr (by decide) (by rfl) (pa_cons (pv 0) (pa_cons (pv 2) pa_nil))) pa_nil))) pa_nil))) (pe_c c_LTake hr (by decide) (by rfl) (pa_cons (pv 0) (pa_cons pe_int pa_nil))) (fun _ _ => rfl)) (pg_sub (pv 6) (pe_un un_neg pe_int) set_list))
    (pss_one (ps_ret (pe_tup (pa_cons (pe_callTy call_tuple_of (by rfl) T.n_tuple (by decide +kernel) (pa_cons (pv 4) pa_nil)) (pa_cons (pe_c c_LKind hr (by decide) (by rfl) (pa_cons (pv 0) (pa_cons pe_int pa_nil))) (pa_cons (pe_callTy call_tuple_of (by rfl) T.n_tuple (by decide +kernel) (pa_cons (pv 6) pa_nil)) pa_nil)))))))))))), ?_⟩
    refine ⟨_, rfl, p, 7, n, rfl, by decide, hp, fun l0 ys n1 H1 _ hl0 yl yr yn n0 g1 => ⟨l0, rfl, ⟨_, SqL.of hl0⟩, ?_⟩⟩
    have hmk1 : H1 mk = some (.lst []) := g1.at nmk hmk
    refine lcNL (K := K) (xs := ys.map V.str) (fun _ vs H' => ∃ ds, TdAll H' vs ds ∧ ds.map firstS = ys.take vs.length ∧ ds.all namedPairB = true ∧ ds.all (secondB kindB) = true ∧ ∀ d ∈ ds, Sm 9 68 d) ⟨[], .nil, rfl, rfl, rfl, fun d hd => nomatch hd⟩ (fun e ⟨ds, a1, a2, a3, a4, a5⟩ => ⟨ds, a1.mono e, a2, a3, a4, a5⟩) g1.2 hl0 n0 (by rw [List.length_map]; omega) (fun i x n5 vs H' Q' hx hvl ⟨ds, a1, a2, a3, a4, a5⟩ hp' hq => ?_) (fun l4 H2 n2 us n4 hD4 hat4 hul ⟨ds, a1, a2, a3, a4, a5⟩ g2 => ?_)
    · obtain ⟨y, hy, rfl⟩ : ∃ y, ys[i]? = some y ∧ x = .str y := by
        rw [List.getElem?_map] at hx
        cases hh : ys[i]? with
        | none => rw [hh] at hx; cases hx
        | some y => rw [hh] at hx; exact ⟨y, rfl, (Option.some.inj hx).symm⟩
      have hyn := yn y (List.mem_of_getElem? hy)
      refine ⟨_, rfl, _, rfl, p, 7, n5, rfl, by decide, hp', fun u d H2 sm kb td g => ⟨(by show 2 ≤ sizeLine; decide), fun t ht => hq _ n5 _ (g.new ht) ⟨ds ++ [.tuple [.str y, d]], td_app1 (a1.mono ((g.tups hp').trans (TupS.new ht))) (Td.newT ht (.cons (.str _) (.cons td .nil))), ?_, ?_, ?_, ?_⟩⟩⟩
      · rw [List.map_append, a2, List.length_append, List.length_singleton, List.take_succ, hvl, hy]
        rfl
      · rw [List.all_append, a3]
        simp [namedPairB, nameB, hyn]
      · rw [List.all_append, a4]
        simp [secondB, kb]
      · intro x hx
        rcases List.mem_append.mp hx with hx | hx
        · exact a5 x hx
        · rw [List.mem_singleton.mp hx]
          exact (Sm.tup (SmAll.cons (W := 8) (name_sm hyn (Nat.le_refl _)) (SmAll.cons sm SmAll.nil)) (by show 2 ≤ 60; decide)).mono (by decide) (by decide)
    have ul : us.length ≤ 7 := by rw [hul, List.length_map]; omega
    have tk : TakesD ds := ⟨a3, a4, by rw [a2]; exact (rises_nodup yr).sublist (List.take_sublist _ _), a5, by rw [← a1.len]; exact ul⟩
    have hmk2 : H2 mk = some (.lst []) := g2.at nmk hmk1
    have n4m : l4 ≠ mk := fun z => by rw [z, hmk1] at hD4; cases hD4
    have g12 := g1.trans g2
    refine ⟨fun σ' H' => ∃ (l : Addr) (us : List V) (ds : List PyData), σ' = [some (.ref p), some (.ref mk), some (.int 30), some (.int 59), some (.ref l), none, none, none, none, none] ∧ H' l = some (.lst us) ∧ TdAll H' us ds ∧ TakesD ds ∧ l ≠ p ∧ l ≠ mk ∧ H' mk = some (.lst []) ∧ Go p n2 H H', ?_, ?_⟩
    · refine ⟨_, rfl, p, n2, 2, rfl, g2.2, by decide, by decide, fun r H3 r0 r1 g3 => ⟨rfl, _, rfl, ite2 (fun e => ?_) (fun e => ?_)⟩⟩
      · refine ⟨_, rfl, l4, us, rfl, SqL.of (g3.at n4 hat4), fun l hl => ?_⟩
        have g4 := (g12.trans g3).new (o := .lst us.reverse) hl
        refine ⟨l, us.reverse, ds.reverse, rfl, upd_same, (td_rev (a1.mono (g3.tups g2.2))).mono (TupS.new hl), tk.rev, (g12.trans g3).ne hl, fun z => ?_, ?_, g4⟩
        · rw [z, g3.at nmk hmk2] at hl
          cases hl
        · rw [upd_ne (fun z => by rw [← z, g3.at nmk hmk2] at hl; cases hl)]
          exact g3.at nmk hmk2
      · exact ⟨l4, us, ds, rfl, g3.at n4 hat4, a1.mono (g3.tups g2.2), tk, n4, n4m, g3.at nmk hmk2, g12.trans g3⟩
    · clear a1 a2 a3 a4 a5 tk ul
      rintro σ' H3 ⟨l, us, ds, rfl, hl, tdl, tk, nl, nlm, hmk3, g3⟩
      refine ⟨_, rfl, _, rfl, (by show 2 ≤ sizeLine; decide), fun l5 h5 => ?_⟩
      have g4 := g3.new (o := .lst [.int 6, .int 59]) h5
      refine ⟨_, rfl, p, n2, 4, rfl, g4.2, by decide, by decide, fun r H5 r0 r1 g5 => ⟨_, _, rfl, rfl, wide_div (b := 64) (by decide) (by decide) (by decide) (by decide), ?_⟩⟩
      refine ixR (xs := [.int 6, .int 59]) (g5.at (g3.ne h5) upd_same) (div_lo (by decide) r0) (by show r / 3 < 2; omega) fun v hv => ?_
      obtain ⟨mm, rfl, mm0, mm1⟩ : ∃ mm : Int, v = .int mm ∧ 0 < mm ∧ mm ≤ 59 := by
        rcases List.mem_cons.mp hv with z | z
        · exact ⟨6, z, by decide, by decide⟩
        · exact ⟨59, List.mem_singleton.mp z, by decide, by decide⟩
      have g6 := g4.trans g5
      refine ⟨p, n2, mm, rfl, g6.2, mm0, small300 (by omega) (by omega), fun r2 H7 r20 r21 g7 => ⟨_, _, rfl, rfl, ?_⟩⟩
      have g8 := g6.trans g7
      have stay : ∀ b o, b ≠ p → H3 b = some o → H7 b = some o := fun b o nb hb => g7.at nb (g5.at nb ((But.new (p := p) h5) b o nb hb))
      have hl7 := stay l _ nl hl
      have hmk7 := stay mk _ nmk hmk3
      have t37 : TupS H3 H7 := ((TupS.new h5).trans (g5.tups g4.2)).trans (g7.tups g6.2)
      refine ⟨_, rfl, 1 + r2, rfl, by omega, by omega, ?_⟩
      refine lcN (n := (1 + r2).toNat) (fun _ vs H' => ∃ ds, TdAll H' vs ds ∧ ∀ d ∈ ds, RowD (1 + r2) d) ⟨[], .nil, fun d hd => nomatch hd⟩ (fun e ⟨ds, a, h⟩ => ⟨ds, a.mono e, h⟩) g8.2 (by omega) (fun i n5 vs H' Q' hi hvl ⟨ds, a, h⟩ hp' hq => ?_) (fun l6 H9 n6' rs n6 hD6 hat6 hrl ⟨rds, tdr, hrd⟩ g9 => ?_)
      · exact ⟨_, rfl, _, rfl, _, rfl, p, n5, 1 + r2, rfl, by omega, small300 (by omega) (by omega), hp', fun v d n7 H2 hv g => hq v n7 H2 g ⟨ds ++ [d], td_app1 (a.mono (g.tups hp')) hv.2.2.2, fun x hx => by
          rcases List.mem_append.mp hx with hx | hx
          · exact h x hx
          · rw [List.mem_singleton.mp hx]
            exact ⟨hv.1, hv.2.1, hv.2.2.1⟩⟩⟩
      have hl9 := g9.at nl hl7
      have hmk9 := g9.at nmk hmk7
      have n6m : l6 ≠ mk := fun z => by rw [z, hmk7] at hD6; cases hD6
      have n6l : l6 ≠ l := fun z => by rw [z, hl7] at hD6; cases hD6
      have g10 := g8.trans g9
      have tdl9 := tdl.mono (t37.trans (g9.tups g8.2))
      refine ⟨_, rfl, _, _, rfl, rfl, 1 + r2 - 1, rfl, by omega, by omega, ?_⟩
      refine for_range (lo := 0) (n := (1 + r2 - 1).toNat) (fun i σ H' => ∃ (v7 v8 : Option V) (rs : List V) (rds : List PyData) (ms : List Str), σ = [some (.ref p), some (.ref mk), some (.int 30), some (.int 59), some (.ref l), some (.int (1 + r2)), some (.ref l6), v7, v8, none] ∧ H' l6 = some (.lst rs) ∧ rs.length = (1 + r2).toNat ∧ TdAll H' rs rds ∧ (∀ d ∈ rds, RowD (1 + r2) d) ∧ H' mk = some (.lst (ms.map V.str)) ∧ ms.length ≤ i ∧ H' l = some (.lst us) ∧ TdAll H' us ds ∧ Pt H' p n6' ∧ But2 p mk H H')
        ⟨_, _, rs, rds, [], rfl, hat6, hrl, tdr, hrd, hmk9, Nat.le_refl _, hl9, tdl9, g10.2, But2.of g10.1⟩ (fun i σ H' hi hW => ?_) (fun σ H' hW => ?_)
      · obtain ⟨v7, v8, rs, rds, ms, rfl, ha, hn, hR, hRd, hm, hml, hL, hLd, hP, hB⟩ := hW
        refine ⟨_, rfl, p, n6', rfl, hP, fun z H11 hz g11 => ?_⟩
        have hm11 := g11.at nmk hm
        have keep : ∀ {H'' : Hp}, Go p n6' H' H'' → ∃ (v7 v8 : Option V) (rs : List V) (rds : List PyData) (ms : List Str), [some (V.ref p), some (.ref mk), some (.int 30), some (.int 59), some (.ref l), some (.int (1 + r2)), some (.ref l6), some (.int (0 + (i : Int))), some (.str z), none] = [some (V.ref p), some (.ref mk), some (.int 30), some (.int 59), some (.ref l), some (.int (1 + r2)), some (.ref l6), v7, v8, none] ∧ H'' l6 = some (.lst rs) ∧ rs.length = (1 + r2).toNat ∧ TdAll H'' rs rds ∧ (∀ d ∈ rds, RowD (1 + r2) d) ∧ H'' mk = some (.lst (ms.map V.str)) ∧ ms.length ≤ i + 1 ∧ H'' l = some (.lst us) ∧ TdAll H'' us ds ∧ Pt H'' p n6' ∧ But2 p mk H H'' := fun g =>
          ⟨_, _, rs, rds, ms, rfl, g.at n6 ha, hn, hR.mono (g.tups hP), hRd, g.at nmk hm, by omega, g.at nl hL, hLd.mono (g.tups hP), g.2, hB.trans (But2.of g.1)⟩
        refine ⟨_, rfl, _, rfl, mk, _, rfl, .inl (SqL.of hm11), rfl, flat_strs ms, _, rfl, ite2 (fun e => ?_) (fun e => ?_)⟩
        · refine ⟨_, rfl, p, n6', 6, rfl, g11.2, by decide, by decide, fun r5 H12 r50 r51 g12 => ⟨rfl, _, rfl, ite2 (fun e2 => ?_) (fun e2 => ?_)⟩⟩
          · have g13 := g11.trans g12
            have ha12 := g13.at n6 ha
            have hm12 := g13.at nmk hm
            have hL12 := g13.at nl hL
            refine ⟨_, rfl, (by show 2 ≤ sizeLine; decide), fun t ht => ?_⟩
            have nt6 : t ≠ l6 := fun z => by rw [z, ha12] at ht; cases ht
            have ntm : t ≠ mk := fun z => by rw [z, hm12] at ht; cases ht
            have ntl : t ≠ l := fun z => by rw [z, hL12] at ht; cases ht
            refine ⟨_, rfl, _, rfl, l6, rs, 0 + (i : Int), i, rfl, rfl, by rw [upd_ne nt6.symm]; exact ha12, ?_, ?_⟩
            · rw [show (0 + (i : Int)) = (i : Int) by omega]
              exact ixN_at (by omega)
            · refine ⟨_, rfl, .inl ⟨rfl, _, SqL.of (by rw [upd_ne n6m.symm, upd_ne ntm.symm]; exact hm12)⟩, _, rfl, mk, _, _, rfl, rfl, by rw [upd_ne n6m.symm, upd_ne ntm.symm]; exact hm12, by rw [List.length_map, sizeLine_eq]; omega, ?_⟩
              have T1 : TupS H12 (upd H12 t (.tup [.str "mark", .str z])) := TupS.new ht
              have ha13 : (upd H12 t (.tup [.str "mark", .str z])) l6 = some (.lst rs) := by rw [upd_ne nt6.symm]; exact ha12
              have T2 : TupS (upd H12 t (.tup [.str "mark", .str z])) (upd (upd H12 t (.tup [.str "mark", .str z])) l6 (.lst (rs.set i (.ref t)))) := TupS.put ha13
              have hm13 : (upd (upd H12 t (.tup [.str "mark", .str z])) l6 (.lst (rs.set i (.ref t)))) mk = some (.lst (ms.map V.str)) := by rw [upd_ne n6m.symm, upd_ne ntm.symm]; exact hm12
              have T3 := TupS.put (o := .lst (ms.map V.str ++ [.str z])) hm13
              have T4 := ((g13.tups hP).trans T1).trans (T2.trans T3)
              refine ⟨_, _, rs.set i (.ref t), rds.set i (.tuple [.str "mark", .str z]), ms ++ [z], rfl, by rw [upd_ne n6m, upd_same], by rw [List.length_set]; exact hn, ?_, ?_, by rw [upd_same, List.map_append]; rfl, by rw [List.length_append, List.length_singleton]; omega, by rw [upd_ne nlm, upd_ne n6l.symm, upd_ne ntl.symm]; exact hL12, hLd.mono T4, ?_, ?_⟩
              · refine TdAll.mono T3 (TdAll.mono T2 ?_)
                exact td_set ((hR.mono (g13.tups hP)).mono T1) (.tup upd_same (.cons (.str _) (.cons (.str _) .nil)))
              · intro d hd
                rcases List.mem_or_eq_of_mem_set hd with hd | rfl
                · exact hRd d hd
                · refine ⟨(Sm.tup (SmAll.cons (a := 0) (lit (z := "mark") (W := 6) (by decide) (by decide)) (SmAll.cons (name_sm hz (Nat.le_refl _)) SmAll.nil)) (by show 2 ≤ 60; decide)).mono (by decide) (by decide), ?_, jump_lt (by decide +kernel) (by decide +kernel)⟩
                  rw [row1 (a := "name") (by decide +kernel), fitN]
                  exact hz
              · obtain ⟨x, y, a, r⟩ := g13.2
                exact ⟨x, y, by rw [upd_ne nmk.symm, upd_ne n6.symm, upd_ne (g13.ne ht).symm]; exact a, r⟩
              · refine fun b o nb nbm hb => ?_
                have nb6 : b ≠ l6 := fun z => by
                  have c := g8.1 b o nb hb
                  rw [z, hD6] at c
                  cases c
                have hb12 := g13.at nb (hB b o nb nbm hb)
                have nbt : b ≠ t := fun z => by
                  rw [z, ht] at hb12
                  cases hb12
                rw [upd_ne nbm, upd_ne nb6, upd_ne nbt]
                exact hb12
          · exact keep (g11.trans g12)
        · exact keep g11
      · obtain ⟨v7, v8, rs, rds, ms, rfl, ha, hn, hR, hRd, hm, hml, hL, hLd, hP, hB⟩ := hW
        refine ⟨_, rfl, _, rfl, p, n6', 1 + r2, rfl, hP, by omega, small300 (by omega) (by omega), fun ra Ha ra0 ra1 ga => ⟨(by show 2 ≤ sizeLine; decide), fun t1 ht1 => ?_⟩⟩
        have ga1 := ga.new (o := .tup [.str "go", .int ra]) ht1
        refine ⟨_, rfl, _, rfl, p, 30, n6', rfl, by decide, ga1.2, fun u du nu Hb smu tbu tdu gb => ⟨(by show 2 ≤ sizeLine; decide), fun t2 ht2 => ⟨(by show 2 ≤ sizeLine; decide), fun lx hx => ?_⟩⟩⟩
        have gb2 := (ga1.trans gb).new (o := .tup [.str "back", u]) ht2
        have gb3 := gb2.new (o := .lst [.ref t1, .ref t2]) hx
        refine ⟨_, rfl, p, nu, 2, rfl, gb3.2, by decide, by decide, fun rb Hc rb0 rb1 gc => ?_⟩
        refine ixR (xs := [.ref t1, .ref t2]) (gc.at (gb2.ne hx) upd_same) rb0 (by exact rb1) fun v hv => ?_
        have G := gb3.trans gc
        have e1 : Hc t1 = some (.tup [.str "go", .int ra]) := gc.tups gb3.2 _ _ (TupS.new hx _ _ (TupS.new ht2 _ _ (gb.tups ga1.2 _ _ upd_same)))
        have e2 : Hc t2 = some (.tup [.str "back", u]) := gc.tups gb3.2 _ _ (TupS.new hx _ _ upd_same)
        have tdu' : Td Hc u du := tdu.mono (((TupS.new ht2).trans (TupS.new hx)).trans (gc.tups gb3.2))
        obtain ⟨dv, hv', hdv, hlw⟩ : ∃ dv, Td Hc v dv ∧ RowD (1 + r2) dv ∧ wordIn "go" "back" dv = true := by
          rcases List.mem_cons.mp hv with z | z
          · refine ⟨.tuple [.str "go", .int ra], by rw [z]; exact .tup e1 (.cons (.str _) (.cons (.int _) .nil)), ⟨?_, ?_, ?_⟩, by rfl⟩
            · exact (Sm.tup (SmAll.cons (a := 0) (lit (z := "go") (W := 6) (by decide) (by decide)) (SmAll.cons (Sm.int (k := 300) (W := 300) (Nat.lt_of_le_of_lt (Nat.le_refl _) (small300 ra0 (by omega))) (by decide) (Nat.le_refl _)) SmAll.nil)) (by show 2 ≤ 60; decide)).mono (by decide) (by decide)
            · rw [row1 (a := "count") (by decide +kernel), fitC]
              exact decide_eq_true ra0
            · intro i hi
              rw [List.mem_singleton.mp (show i ∈ [ra] from hi)]
              exact ra1
          · refine ⟨.tuple [.str "back", du], by rw [List.mem_singleton.mp z]; exact .tup e2 (.cons (.str _) (.cons tdu' .nil)), ⟨?_, ?_, jump_lt (by decide +kernel) (by decide +kernel)⟩, by rfl⟩
            · exact (Sm.tup (SmAll.cons (lit (z := "back") (W := 6) (by decide) (by decide)) (SmAll.cons smu SmAll.nil)) (by show 2 ≤ 60; decide)).mono (by decide) (by decide)
            · rw [row1 (a := "term") (by decide +kernel), fitT]
              exact tbu
        have hac := G.at n6 ha
        refine ⟨_, rfl, 1, rfl, l6, rs, -1, _, rfl, rfl, hac, ixN_m1 (by omega), ?_⟩
        have T1 : TupS Hc (upd Hc l6 (.lst (rs.set (rs.length - 1) v))) := TupS.put hac
        have R1 : TdAll (upd Hc l6 (.lst (rs.set (rs.length - 1) v))) (rs.set (rs.length - 1) v) (rds.set (rs.length - 1) dv) := TdAll.mono T1 (td_set (hR.mono (G.tups hP)) hv')
        have L1 : TdAll (upd Hc l6 (.lst (rs.set (rs.length - 1) v))) us ds := TdAll.mono T1 (hLd.mono (G.tups hP))
        have hP1 : Pt (upd Hc l6 (.lst (rs.set (rs.length - 1) v))) p nu := by
          obtain ⟨x, y, a, r⟩ := G.2
          exact ⟨x, y, by rw [upd_ne n6.symm]; exact a, r⟩
        have hl1 : (upd Hc l6 (.lst (rs.set (rs.length - 1) v))) l = some (.lst us) := by rw [upd_ne n6l.symm]; exact G.at nl hL
        have B1 : But2 p mk H (upd Hc l6 (.lst (rs.set (rs.length - 1) v))) := fun b o nb nbm hb => by
          have nb6 : b ≠ l6 := fun z => by
            have c := g8.1 b o nb hb
            rw [z, hD6] at c
            cases c
          rw [upd_ne nb6]
          exact G.at nb (hB b o nb nbm hb)
        have h61 : (upd Hc l6 (.lst (rs.set (rs.length - 1) v))) l6 = some (.lst (rs.set (rs.length - 1) v)) := upd_same
        have hrl2 := hR.len
        have hRd2 : ∀ d ∈ rds.set (rs.length - 1) dv, RowD (1 + r2) d := fun d hd => by
          rcases List.mem_or_eq_of_mem_set hd with hd | rfl
          · exact hRd d hd
          · exact hdv
        have hlen2 : (rds.set (rs.length - 1) dv).length = (1 + r2).toNat := by rw [List.length_set]; omega
        have hrb : rowsB (.tuple (rds.set (rs.length - 1) dv)) = true := rows_ok hRd2 (by omega) (by omega) (by
          rw [getLast_at _ (by omega), List.length_set, show rds.length - 1 = rs.length - 1 by omega, List.getElem?_set_self (by omega)]) hlw
        generalize upd Hc l6 (.lst (rs.set (rs.length - 1) v)) = Hd at *
        refine ⟨_, rfl, l, us, rfl, .inl ⟨SqL.of hl1, fun ta hta => ?_⟩⟩
        have gt := (Go.refl hP1).new (o := .tup us) hta
        refine ⟨_, rfl, p, 7, nu, rfl, by decide, gt.2, fun kv kd He smk kbk tdk ge => ?_⟩
        have g5' := gt.trans ge
        refine ⟨_, rfl, l6, _, rfl, .inl ⟨SqL.of (g5'.at n6 h61), fun tb htb => ⟨(by show 3 ≤ sizeLine; decide), fun t ht => ?_⟩⟩⟩
        refine q (.ref t) ds kd (rds.set (rs.length - 1) dv) nu _ ⟨?_, tk, kbk, smk.mono (Nat.le_refl _) (by decide), hrb, fun d hd => (hRd2 d hd).sm, by omega⟩ ((g5'.new htb).new ht).2 (B1.trans ((But2.of g5'.1).trans ((But2.new htb).trans (But2.new ht))))
        have T2 := (TupS.new (o := .tup (rs.set (rs.length - 1) v)) htb).trans (TupS.new (o := .tup [.ref ta, kv, .ref tb]) ht)
        refine .tup upd_same (.cons (.tup (T2 _ _ (ge.tups gt.2 _ _ upd_same)) ?_) (.cons (tdk.mono T2) (.cons (.tup (TupS.new ht _ _ upd_same) ?_) .nil)))
        · exact L1.mono (((TupS.new hta).trans (ge.tups gt.2)).trans T2)
        · exact R1.mono (((TupS.new hta).trans (ge.tups gt.2)).trans T2)
end
end K25
set_option Elab.async false
set_option linter.all false
set_option maxRecDepth 100000
set_option maxHeartbeats 4000000
/-! t[::-1] of a tuple -/
namespace L2
open PySem PySem.Spec PyProof.Rows
section
variable {prog : Program} {w : World} {A : Around} {E : Value → Shared → Prop} {s : Shared}
theorem back_places (n : Nat) : Builtin.Slice.slicePlaces ((n : Int) - 1) (-1) (-1) = n := by
  unfold Builtin.Slice.slicePlaces
  rw [if_neg (by decide)]
  cases n with
  | zero => rfl
  | succ m =>
    rw [if_pos (by omega)]
    have e : (((m + 1 : Nat) : Int) - 1 - -1 - 1) / (- -1) + 1 = ((m + 1 : Nat) : Int) := by
      rw [show (- -1 : Int) = 1 by decide, Int.ediv_one]
      omega
    rw [e]
    rfl
theorem back_pick (xs : Array Value) : ((List.range xs.size).filterMap fun (k : Nat) => xs[((xs.size : Int) - 1 + (k : Int) * (-1)).toNat]?) = xs.toList.reverse := by
  have e : (fun (k : Nat) => xs[((xs.size : Int) - 1 + (k : Int) * (-1)).toNat]?) = (fun j => xs[j]?) ∘ fun (k : Nat) => ((xs.size : Int) - 1 + (k : Int) * (-1)).toNat := rfl
  rw [e, ← List.filterMap_map]
  have e2 : (List.range xs.size).map (fun (k : Nat) => ((xs.size : Int) - 1 + (k : Int) * (-1)).toNat) = (List.range xs.size).reverse := by
    rw [← PySem.W.krv_range]
    refine List.map_congr_left fun k hk => ?_
    have := List.mem_range.mp hk
    omega
  rw [e2, List.filterMap_reverse, PySem.W.krv_all]
theorem back_applied {sl : Addr} {vs : Value} {n : Nat} {Q : Int × Int × Nat → Shared → Prop} (hs : s.heap.IsSliceOf sl .none .none vs) (ps : IsPart vs (some (-1))) (h : Q ((n : Int) - 1, -1, n) s) :
    wpAny (model prog w) A (Builtin.Slice.sliceApplied (.ref sl) (pure (n : Int))) Q E s := by
  obtain ⟨os, hos, _, hds⟩ := id hs
  unfold Builtin.Slice.sliceApplied Builtin.Slice.sliceFields
  refine wpAny_bind (wpAny_bind (wpAny_field hos hds (x := .none) rfl (wpAny_bind (wpAny_field hos hds (x := .none) rfl (wpAny_bind (wpAny_field hos hds (x := vs) rfl (wpAny_pure ?_)))))))
  refine wpAny_bind (HT.slicePart_ ps ?_)
  show wpAny _ _ (if ((-1 : Int) == 0) = true then _ else _) _ _ s
  rw [if_neg (by decide)]
  refine wpAny_bind (slicePart_none (wpAny_bind (slicePart_none (wpAny_bind (wpAny_pure ?_)))))
  show wpAny _ _ (pure ((n : Int) - 1, (-1 : Int), Builtin.Slice.slicePlaces ((n : Int) - 1) (-1) (-1))) _ _ s
  rw [back_places]
  exact wpAny_pure h
theorem getItem_tuple_back {t sl : Addr} {items : Array Value} {vs : Value} {Q : Value → Shared → Prop} (ht : IsTup s.heap t items) (hs : s.heap.IsSliceOf sl .none .none vs) (ps : IsPart vs (some (-1)))
    (h : Q (.ref s.heap.objs.size) { s with heap := s.heap.push { cls := .type "tuple", data := .seq items.toList.reverse.toArray } }) (hsz : items.size ≤ sizeLine) : wpAny (model prog w) A (getItem (.ref t) (.ref sl)) Q E s := by
  have hok : sizeOk (.seq items.toList.reverse.toArray) := by
    show items.toList.reverse.toArray.size ≤ sizeLine
    rw [List.size_toArray, List.length_reverse, Array.length_toList]
    exact hsz
  obtain ⟨os, hos, hcs, _⟩ := id hs
  have tySl : s.TypeIs (.ref sl) "slice" := ⟨os, hos, hcs⟩
  (unfold getItem); (try with_reducible refine wpAny_holding ?_); (first | refine wpAny_bind (wpAny_pure ?_) | skip)
  refine wpAny_bind (wpAny_sequenceKey ht.typeIs (by decide) (wpAny_bind (wpAny_callSpecial?_slot (name := Str.ofString "__getitem__") ht.typeIs PyProof.Rows.slot_tuple_getitem (wpAny_call_entry PyProof.Rows.slot_tuple_getitem ht.typeIs entry_tuple_getitem ?_ (args_tuple_getitem _ _)))))
  refine (show wpAny _ _ (Builtin.Tuple.tupleItemsOf (.ref t) >>= _) _ _ s from ?_)
  refine wpAny_bind (tupleItemsOf_ ht (wpAny_bind (wpAny_typeOf tySl ?_)))
  rw [if_pos (by decide)]
  refine wpAny_bind (back_applied (n := items.size) hs ps ?_)
  have no : ¬ ((((items.size : Int) - 1 == 0) && ((-1 : Int) == 1) && (items.size == items.size)) = true) := by
    rw [show ((-1 : Int) == 1) = false by decide, Bool.and_false, Bool.false_and]
    exact Bool.false_ne_true
  show wpAny _ _ (if (((items.size : Int) - 1 == 0) && ((-1 : Int) == 1) && (items.size == items.size)) = true then _ else _) _ _ s
  rw [if_neg no, back_pick]
  first
    | exact wpAny_bind (m := Builtin.Tuple.tupleExact _) (wpAny_newObj_type (wpAny_pure ⟨_, rfl, wpAny_pure h⟩) hok)
    | exact wpAny_bind (wpAny_bind (m := Builtin.Tuple.tupleExact _) (wpAny_newObj_type (wpAny_pure (wpAny_pure ⟨_, rfl, wpAny_pure h⟩)) hok))
    | exact wpAny_bind (m := Builtin.Tuple.tupleExact _) (wpAny_newObj_type (wpAny_bind (wpAny_pure (wpAny_pure ⟨_, rfl, wpAny_pure h⟩))) hok)
end
def tRevT (K : PySem.W.Frag) (te : TE) : TE := fun σ H Q => te σ H fun x H1 => ∃ a xs, x = .ref a ∧ SqT K H1 a xs ∧ ∀ p, H1 p = none → Q (.ref p) (upd H1 p (.tup xs.reverse))
section
variable {X : Cx}
theorem pe_revT {e : Expr} {te : TE} {k : Nat} {k1 k2 k3 pos : Pos} (he : PE X e te) : PE X (.Subscript e (.Slice none none (some (.UnaryOp .USub (.Constant (.int 1) k k1) k2)) k3) pos) (tRevT X.K te) := by
  refine ⟨fun pins s σ H Q I h => Subscript_ (thn (he.run pins s σ H _ I h) fun v u1 ⟨x, G1, J1, r1, q1⟩ => ?_)⟩
  obtain ⟨a, xs, rfl, hx, q⟩ := q1
  cases r1
  have hneg : PO X (some (.UnaryOp .USub (.Constant (.int 1) k k1) k2)) (tPart (tUn (rU fun i => .int (-i)) (tC (.int 1)))) := po_some (pe_un un_neg pe_int)
  refine wpAny_Slice (thn (po_none.run pins u1 σ G1 (fun o G2 => o = none ∧ G2 = G1) J1 ⟨rfl, rfl⟩) fun vl u2 ⟨l, G2, J2, pl, el, e2⟩ => ?_)
  subst el e2
  refine thn (po_none.run pins u2 σ G2 (fun o G3 => o = none ∧ G3 = G2) J2 ⟨rfl, rfl⟩) fun vu u3 ⟨u, G3, J3, pu, eu, e3⟩ => ?_
  subst eu e3
  refine thn (hneg.run pins u3 σ G3 (fun o G4 => o = some (-1) ∧ G4 = G3) J3 ⟨1, rfl, -1, rfl, rfl, rfl⟩) fun vs u4 ⟨o, G4, J4, ps, eo, e4⟩ => ?_
  subst eo e4
  cases pl
  cases pu
  have J5 : Inv X pins σ G4 { u4 with heap := u4.heap.push { cls := .type "slice", data := .fields #[.none, .none, vs] } } := J4.kept (t' := u4.toks) fun b ob q => Heap.get?_push_of_some _ q
  obtain ⟨its, r, ht, hz⟩ := J5.tuple hx
  have hlen := r.length
  refine tail_any (ops := [.ref a, .ref u4.heap.objs.size]) ht.typeIs PyProof.Rows.slot_tuple_getitem.lookup ?_ (by with_unfolding_all rfl)
  refine getItem_tuple_back ht (Heap.IsSliceOf.new _ .none .none vs) ps ?_ (by rw [List.size_toArray]; omega)
  refine ⟨.ref _, _, J5.laid (t' := u4.toks) (o := .tup xs.reverse) (fun b ob q => Heap.get?_push_of_some _ q) (Nat.le_refl _) ?_, rfl, q _ (J5.hok.fresh (Nat.le_refl _))⟩
  exact ⟨by rw [List.length_reverse]; exact hz, _, r.reverse, IsTup.new _ _⟩
end
end L2
/-! ### a tuple != () -/
namespace L2
open PySem PySem.Spec PyProof.Rows
def rNeTNil (K : PySem.W.Frag) : R2 := fun x y H Q => ∃ a b xs, x = .ref a ∧ y = .ref b ∧ SqT K H a xs ∧ SqT K H b [] ∧ Q (.bl !xs.isEmpty) H
section
variable {X : Cx}
theorem op_neTNil (hu : X.A.units + 64 < cLine) : OpR X (compareOp .NotEq) (rNeTNil X.K) := by
  intro pins s σ H x y v u Q I rx ry h
  obtain ⟨a, b, xs, rfl, rfl, ha, hb, q⟩ := h
  cases rx
  cases ry
  obtain ⟨its, r1, ⟨⟨cls, dd, data, sl⟩, ho, hc, n, hd⟩, hz1⟩ := I.tuple ha
  obtain ⟨its2, r2, ⟨⟨cls2, dd2, data2, sl2⟩, ho2, hc2, n2, hd2⟩, hz2⟩ := I.tuple hb
  simp only at hc hd hc2 hd2
  subst hc hd hc2 hd2
  cases r2
  have hl1 := r1.length
  have e := SeqAt.tuple_neAt a b its.toArray (#[] : Array Value) n n2 dd dd2 sl sl2 (fun _ => true)
  have er : (!((List.range (min its.toArray.size (#[] : Array Value).size)).all (fun _ => true) && its.toArray.size == (#[] : Array Value).size)) = !xs.isEmpty := by
    have h0 : min its.toArray.size (#[] : Array Value).size = 0 := Nat.min_zero _
    rw [h0, List.size_toArray, ← hl1]
    cases xs <;> rfl
  exact richCompare_meets_room (op := .NotEq) ⟨_, ho, rfl⟩ ⟨_, ho2, rfl⟩ F.slot_tuple_ne F.entry_tuple_ne (F.args_tuple_ne_2 _ _) e
    ⟨ho, ho2, fun j h1 h2 => absurd h2 (Nat.not_lt_zero _), show Value.bool _ ≠ Value.notImplemented ∧ _ from ⟨(fun x => nomatch x), .bl _, H, I, by rw [er]; rfl, q⟩⟩ (by omega)
end
end L2
set_option Elab.async false
set_option linter.all false
set_option maxRecDepth 100000
set_option maxHeartbeats 8000000
namespace K25
open PySem PySem.Spec PyProof.Rows L2 KD
open C8 (Cal Def cal0 pe_c fnBody fnScope fnArgs)
section
variable {K : PySem.W.Frag} {p : Addr} {n : Int} {H0 : Hp} {kn : List (V × PyData)} {σ : L2.St}
theorem small20 {i : Int} (h0 : -1000 < i) (h1 : i < 1000) : i.natAbs < 2 ^ 20 := by
  have : (2 : Nat) ^ 20 = 1048576 := by decide
  omega
theorem SmAll.rev {a : Nat} : ∀ {W : Nat} {ds : List PyData}, SmAll a W ds → SmAll a W ds.reverse
  | _, [], h => h
  | W, d :: ds, h => by
    obtain ⟨w, h1, w2, h2, e⟩ := h.uncons
    rw [List.reverse_cons]
    exact ((SmAll.rev h2).app (SmAll.cons h1 SmAll.nil)).mono (Nat.le_refl _) (by omega)
theorem dqAll_take {H : Hp} : ∀ {vs : List V} {ds : List PyData} (n : Nat), DqAll K H vs ds → DqAll K H (vs.take n) (ds.take n)
  | _, _, 0, _ => .nil
  | _, _, _ + 1, .nil => .nil
  | _, _, n + 1, .cons h t => .cons h (dqAll_take n t)
theorem dqAll_drop {H : Hp} : ∀ {vs : List V} {ds : List PyData} (n : Nat), DqAll K H vs ds → DqAll K H (vs.drop n) (ds.drop n)
  | _, _, 0, h => h
  | _, _, _ + 1, .nil => .nil
  | _, _, n + 1, .cons _ t => dqAll_drop n t
theorem dqAll_rev {H : Hp} : ∀ {vs : List V} {ds : List PyData}, DqAll K H vs ds → DqAll K H vs.reverse ds.reverse
  | _, _, .nil => .nil
  | _, _, .cons a t => by
    rw [List.reverse_cons, List.reverse_cons]
    exact (dqAll_rev t).app (.cons a .nil)
theorem dq_rtup {H : Hp} {t : Addr} {ds : List PyData} (h : Dq K H (.ref t) (.tuple ds)) : ∃ xs, SqT K H t xs ∧ DqAll K H xs ds := by
  cases h with
  | tup hq ha => exact ⟨_, hq, ha⟩
theorem catQ {H : Hp} {a b : Addr} {ds es : List PyData} {Q : VK} (hp : Pt H p n) (da : Qh K p H (.ref a) (.tuple ds)) (db : Qh K p H (.ref b) (.tuple es)) (hl : ds.length + es.length ≤ 1000)
    (q : ∀ t H', Qh K p H' (.ref t) (.tuple (ds ++ es)) → Same H H' → Q (.ref t) H') : rCatA K (.ref a) (.ref b) H Q := by
  obtain ⟨xs, hq1, ha1⟩ := dq_rtup da
  obtain ⟨ys, hq2, ha2⟩ := dq_rtup db
  have e1 := ha1.len
  have e2 := ha2.len
  refine ⟨a, b, xs, ys, rfl, rfl, sqT_mono hid_in hq1, sqT_mono hid_in hq2, by rw [sizeLine_eq]; omega, fun e => ?_, fun _ e => ?_, fun _ _ r hr => ?_⟩
  · subst e
    cases ha1
    exact q b H db (Same.refl H)
  · subst e
    cases ha2
    rw [List.append_nil] at q
    exact q a H da (Same.refl H)
  · exact q r _ (Dq.newT hr (hp.ne hr) (ha1.app ha2)) (Same.new hr)
/-- what stands while things are made: known data, the pot -/
structure In (K : PySem.W.Frag) (p : Addr) (n : Int) (H0 : Hp) (kn : List (V × PyData)) (H : Hp) : Prop where
  kn : ∀ v d, (v, d) ∈ kn → Qh K p H v d
  go : Go p n H0 H
theorem In.on {H H' : Hp} (I : In K p n H0 kn H) (g : Go p n H H') : In K p n H0 kn H' := ⟨fun v d h => (I.kn v d h).but g.1, I.go.trans g⟩
theorem In.new {H : Hp} {q : Addr} {o : HO} (I : In K p n H0 kn H) (hq : H q = none) : In K p n H0 kn (upd H q o) := ⟨fun v d h => (I.kn v d h).but (But.new hq), I.go.new hq⟩
theorem In.same {H H' : Hp} (I : In K p n H0 kn H) (e : Same H H') : In K p n H0 kn H' := ⟨fun v d h => (I.kn v d h).but (But.same e), I.go.same e⟩
/-- an expression that makes small data -/
def Item (K : PySem.W.Frag) (p : Addr) (n : Int) (H0 : Hp) (kn : List (V × PyData)) (σ : L2.St) (a W : Nat) (e : TE) : Prop :=
  ∀ H Q, In K p n H0 kn H → (∀ v d H', Sm a W d → Qh K p H' v d → In K p n H0 kn H' → But p H H' → Q v H') → e σ H Q
def Items (K : PySem.W.Frag) (p : Addr) (n : Int) (H0 : Hp) (kn : List (V × PyData)) (σ : L2.St) (a W N : Nat) (es : TA) : Prop :=
  ∀ H Q, In K p n H0 kn H → (∀ vs ds H', SmAll a W ds → ds.length = N → QhAll K p H' vs ds → In K p n H0 kn H' → But p H H' → Q vs H') → es σ H Q
theorem its_nil {a : Nat} : Items K p n H0 kn σ a 0 0 tNil := fun H Q I q => q [] [] H .nil rfl .nil I (But.refl p H)
theorem its_cons {a W W2 N : Nat} {e : TE} {es : TA} (h1 : Item K p n H0 kn σ a W e) (h2 : Items K p n H0 kn σ a W2 N es) : Items K p n H0 kn σ a (W + 1 + W2) (N + 1) (tCons e es) := fun H Q I q =>
  h1 H _ I fun v d H1 ok D I1 b1 => h2 H1 _ I1 fun vs ds H2 oks hl Ds I2 b2 => q (v :: vs) (d :: ds) H2 (SmAll.cons ok oks) (by rw [List.length_cons, hl]) (.cons (D.but b2) Ds) I2 (b1.trans b2)
theorem it_up {a b W : Nat} {e : TE} (h : Item K p n H0 kn σ a W e) (ab : a ≤ b) : Item K p n H0 kn σ b W e := fun H Q I q => h H Q I fun v d H1 ok D I1 b1 => q v d H1 (ok.mono ab (Nat.le_refl _)) D I1 b1
theorem it_tup {a W N : Nat} {es : TA} (h : Items K p n H0 kn σ a W N es) (hN : N ≤ 60) : Item K p n H0 kn σ (a + 1) W (tTup es) := fun H Q I q =>
  h H _ I fun vs ds H1 ok hl D I1 b1 => ⟨by have := D.len; rw [sizeLine_eq]; omega, fun t ht => q _ (.tuple ds) _ (Sm.tup ok (by omega)) (Dq.newT ht (I1.go.ne ht) D) (I1.new ht) (b1.trans (But.new ht))⟩
theorem it_lst {a W N : Nat} {es : TA} (h : Items K p n H0 kn σ a W N es) (hN : N ≤ 60) : Item K p n H0 kn σ (a + 1) W (tLst es) := fun H Q I q =>
  h H _ I fun vs ds H1 ok hl D I1 b1 => ⟨by have := D.len; rw [sizeLine_eq]; omega, fun t ht => q _ (.list ds) _ (Sm.lst ok (by omega)) (Dq.newL ht (I1.go.ne ht) D) (I1.new ht) (b1.trans (But.new ht))⟩
theorem it_dict {a : Nat} (ha : 1 ≤ a) : Item K p n H0 kn σ a 0 tDNewK := fun H Q I q => fun t ht => q _ (.dict []) _ (Sm.dict0 ha) (Dq.new0 ht (I.go.ne ht)) (I.new ht) (But.new ht)
theorem it_c {a W : Nat} {v : V} {d : PyData} (hd : ∀ H, Dq K H v d) (ok : Sm a W d) : Item K p n H0 kn σ a W (tC v) := fun H Q I q => q v d H ok (hd _) I (But.refl p H)
theorem it_str {a : Nat} {z : Str} (hl : z.length ≤ 20) : Item K p n H0 kn σ a 20 (tC (.str z)) := it_c (fun _ => .str z) (lit hl (by decide))
theorem it_non {a : Nat} : Item K p n H0 kn σ a 0 (tC .non) := it_c (fun _ => .non) .non
theorem it_bl {a : Nat} {b : Bool} : Item K p n H0 kn σ a 0 (tC (.bl b)) := it_c (fun _ => .bl b) (.bool b)
theorem it_int {a : Nat} {i : Int} (h : i.natAbs < 2 ^ 20) : Item K p n H0 kn σ a 20 (tC (.int i)) := it_c (fun _ => .int i) (Sm.int h (by decide) (Nat.le_refl _))
theorem it_neg {a : Nat} : Item K p n H0 kn σ a 20 (tUn (rU fun i => .int (-i)) (tC (.int 1))) := fun H Q I q => ⟨_, rfl, q _ (.int (-1)) H (Sm.int (k := 20) (by decide) (by decide) (Nat.le_refl _)) (.int _) I (But.refl p H)⟩
theorem it_var {a W i : Nat} {v : V} {d : PyData} (hs : σ[i]? = some (some v)) (hk : (v, d) ∈ kn) (ok : Sm a W d) : Item K p n H0 kn σ a W (tVar i) := fun H Q I q => ⟨v, hs, q v d H ok (I.kn v d hk) I (But.refl p H)⟩
/-- a tuple that is known -/
structure KnT (kn : List (V × PyData)) (t : Addr) (ds : List PyData) (a W M : Nat) : Prop where
  hk : (V.ref t, PyData.tuple ds) ∈ kn
  ok : SmAll a W ds
  ln : ds.length ≤ M
  l1000 : M ≤ 60
/-- an expression that makes a tuple of small data -/
def ItemT (K : PySem.W.Frag) (p : Addr) (n : Int) (H0 : Hp) (kn : List (V × PyData)) (σ : L2.St) (a W M : Nat) (e : TE) : Prop :=
  ∀ H Q, In K p n H0 kn H → (∀ t ds H', SmAll a W ds → ds.length ≤ M → Qh K p H' (.ref t) (.tuple ds) → In K p n H0 kn H' → But p H H' → Q (.ref t) H') → e σ H Q
section
variable {t : Addr} {ds : List PyData} {i a b W M : Nat}
theorem itT_var (hs : σ[i]? = some (some (.ref t))) (h : KnT kn t ds a W M) (ab : a ≤ b) : ItemT K p n H0 kn σ b W M (tVar i) := fun H Q I q => ⟨_, hs, q t ds H (h.ok.mono ab (Nat.le_refl _)) h.ln (I.kn _ _ h.hk) I (But.refl p H)⟩
theorem itT_tup {N : Nat} {es : TA} (h : Items K p n H0 kn σ a W N es) (hN : N ≤ 60 := by decide) : ItemT K p n H0 kn σ a W N (tTup es) := fun H Q I q =>
  h H _ I fun vs ds H1 ok hl D I1 b1 => ⟨by have := D.len; rw [sizeLine_eq]; omega, fun t ht => q t ds _ ok (by omega) (Dq.newT ht (I1.go.ne ht) D) (I1.new ht) (b1.trans (But.new ht))⟩
theorem itT_cat {W2 M2 : Nat} {e1 e2 : TE} (h1 : ItemT K p n H0 kn σ a W M e1) (h2 : ItemT K p n H0 kn σ a W2 M2 e2) (hM : M + M2 ≤ 60 := by decide) : ItemT K p n H0 kn σ a (W + W2) (M + M2) (tOp (rCatA K) e1 e2) := fun H Q I q =>
  h1 H _ I fun t1 ds H1 ok l1 D1 I1 b1 => h2 H1 _ I1 fun t2 es H2 ok2 l2 D2 I2 b2 =>
    catQ I2.go.2 (D1.but b2) D2 (by omega) fun t3 H3 D3 s3 => q t3 _ H3 (ok.app ok2) (by rw [List.length_append]; omega) D3 (I2.same s3) ((b1.trans b2).trans (But.same s3))
theorem it_ofT {e : TE} (h : ItemT K p n H0 kn σ a W M e) (hM : M ≤ 60) : Item K p n H0 kn σ (a + 1) W e := fun H Q I q =>
  h H Q I fun t ds H1 ok l D I1 b1 => q _ (.tuple ds) H1 (Sm.tup ok (by omega)) D I1 b1
theorem it_listOf (hs : σ[i]? = some (some (.ref t))) (h : KnT kn t ds a W M) : Item K p n H0 kn σ (a + 1) W (tCB (fun xs H Q => ∃ p ys, xs = [.ref p] ∧ (SqL K H p ys ∨ SqT K H p ys) ∧ ∀ l, H l = none → Q (.ref l) (upd H l (.lst ys))) (tCons (tVar i) tNil)) := fun H Q I q => by
  obtain ⟨xs, hq, ha⟩ := dq_rtup (I.kn _ _ h.hk)
  exact ⟨_, hs, t, xs, rfl, .inr (sqT_mono hid_in hq), fun l hl => q _ (.list ds) _ (Sm.lst h.ok (Nat.le_trans h.ln h.l1000)) (Dq.newL hl (I.go.ne hl) ha) (I.new hl) (But.new hl)⟩
theorem itT_init (hs : σ[i]? = some (some (.ref t))) (h : KnT kn t ds a W M) (ab : a ≤ b) (h1 : 1 ≤ ds.length := by assumption) : ItemT K p n H0 kn σ b W M (L2.tSl (rSlA K) (tVar i) tNoPart (tPart (tUn (rU fun i => .int (-i)) (tC (.int 1))))) := fun H Q I q => by
  obtain ⟨xs, hq, ha⟩ := dq_rtup (I.kn _ _ h.hk)
  have hl := ha.len
  have hix : HT.sIx xs.length xs.length (some (-1)) = xs.length - 1 := by
    show (if (-1 : Int) < 0 then ((-1 : Int) + (xs.length : Int)).toNat else min (-1 : Int).toNat xs.length) = xs.length - 1
    rw [if_pos (by decide)]
    omega
  refine ⟨_, hs, _, rfl, -1, rfl, t, _, rfl, sqT_mono hid_in hq, fun h => absurd h.2 (by rw [hix]; omega), fun _ l hl' => ?_⟩
  have ec : cutV xs none (some (-1)) = xs.take (xs.length - 1) := by
    unfold cutV
    rw [hix, HT.sIx_none]
    rfl
  rw [ec]
  exact q l (ds.take (xs.length - 1)) _ ((h.ok.take _).mono ab (Nat.le_refl _)) (by rw [List.length_take]; have := h.ln; omega) (Dq.newT hl' (I.go.ne hl') (dqAll_take _ ha)) (I.new hl') (But.new hl')
theorem itT_tail (hs : σ[i]? = some (some (.ref t))) (h : KnT kn t ds a W M) (ab : a ≤ b) (h1 : 1 ≤ ds.length := by assumption) : ItemT K p n H0 kn σ b W M (L2.tSl (rSlA K) (tVar i) (tPart (tC (.int 1))) tNoPart) := fun H Q I q => by
  obtain ⟨xs, hq, ha⟩ := dq_rtup (I.kn _ _ h.hk)
  have hl := ha.len
  cases xs with
  | nil => simp at hl; omega
  | cons x vr =>
    refine ⟨_, hs, 1, rfl, t, _, rfl, sqT_mono hid_in hq, tail_ne.elim, fun _ l hl' => ?_⟩
    rw [tail_cut]
    cases ha with
    | cons h2 hr => exact q l _ _ ((h.ok.drop 1).mono ab (Nat.le_refl _)) (by have := h.ln; rw [List.length_drop]; omega) (Dq.newT hl' (I.go.ne hl') hr) (I.new hl') (But.new hl')
theorem first_cut {xs : List V} : cutV xs none (some 1) = xs.take 1 := by
  unfold cutV
  have e : HT.sIx xs.length xs.length (some 1) = min 1 xs.length := by
    show (if (1 : Int) < 0 then ((1 : Int) + (xs.length : Int)).toNat else min (1 : Int).toNat xs.length) = min 1 xs.length
    rw [if_neg (by decide)]
    rfl
  rw [e, HT.sIx_none]
  cases xs with
  | nil => rfl
  | cons x y => simp
theorem itT_first (hs : σ[i]? = some (some (.ref t))) (h : KnT kn t ds a W M) (ab : a ≤ b) : ItemT K p n H0 kn σ b W 1 (L2.tSl (rSlA K) (tVar i) tNoPart (tPart (tC (.int 1)))) := fun H Q I q => by
  have D := I.kn _ _ h.hk
  obtain ⟨xs, hq, ha⟩ := dq_rtup D
  have hl := ha.len
  have e : HT.sIx xs.length xs.length (some 1) = min 1 xs.length := by
    show (if (1 : Int) < 0 then ((1 : Int) + (xs.length : Int)).toNat else min (1 : Int).toNat xs.length) = min 1 xs.length
    rw [if_neg (by decide)]
    rfl
  refine ⟨_, hs, 1, rfl, t, _, rfl, sqT_mono hid_in hq, fun hw => ?_, fun _ l hl' => ?_⟩
  · have h2 := hw.2
    rw [e] at h2
    exact q t ds H (h.ok.mono ab (Nat.le_refl _)) (by omega) D I (But.refl p H)
  · rw [first_cut]
    exact q l (ds.take 1) _ ((h.ok.take 1).mono ab (Nat.le_refl _)) (by rw [List.length_take]; omega) (Dq.newT hl' (I.go.ne hl') (dqAll_take _ ha)) (I.new hl') (But.new hl')
theorem itT_rev (hs : σ[i]? = some (some (.ref t))) (h : KnT kn t ds a W M) (ab : a ≤ b) : ItemT K p n H0 kn σ b W M (tRevT K (tVar i)) := fun H Q I q => by
  obtain ⟨xs, hq, ha⟩ := dq_rtup (I.kn _ _ h.hk)
  exact ⟨_, hs, t, xs, rfl, sqT_mono hid_in hq, fun l hl' => q l ds.reverse _ (h.ok.rev.mono ab (Nat.le_refl _)) (by rw [List.length_reverse]; exact h.ln) (Dq.newT hl' (I.go.ne hl') (dqAll_rev ha)) (I.new hl') (But.new hl')⟩
theorem itT_twice (hs : σ[i]? = some (some (.ref t))) (h : KnT kn t ds a W M) (ab : a ≤ b) (h1 : 1 ≤ ds.length := by assumption) : ItemT K p n H0 kn σ b (W + W) 2 (tOp (rRepT K) (L2.tSl (rSlA K) (tVar i) tNoPart (tPart (tC (.int 1)))) (tC (.int 2))) := fun H Q I q => by
  have D := I.kn _ _ h.hk
  obtain ⟨xs, hq, ha⟩ := dq_rtup D
  have hl := ha.len
  have e : HT.sIx xs.length xs.length (some 1) = min 1 xs.length := by
    show (if (1 : Int) < 0 then ((1 : Int) + (xs.length : Int)).toNat else min (1 : Int).toNat xs.length) = min 1 xs.length
    rw [if_neg (by decide)]
    rfl
  have go : ∀ (t2 : Addr) (ys : List V) (es : List PyData) (H2 : Hp), SqT K H2 t2 ys → QhAll K p H2 ys es → SmAll a W es → es.length = 1 → In K p n H0 kn H2 → But p H H2 → rRepT K (.ref t2) (.int 2) H2 Q := fun t2 ys es H2 h1 h2 h3 h4 I2 b2 => by
    have hy := h2.len
    refine ⟨t2, 2, ys, rfl, rfl, h1, fun z => by rw [z] at hy; simp at hy; omega, by decide, by decide, by omega, fun r hr => ?_⟩
    have er : (List.replicate (2 : Int).toNat ys).flatten = ys ++ ys := by
      show (List.replicate 2 ys).flatten = ys ++ ys
      simp [List.replicate]
    rw [er]
    exact q r (es ++ es) _ ((h3.app h3).mono ab (Nat.le_refl _)) (by rw [List.length_append]; omega) (Dq.newT hr (I2.go.ne hr) (h2.app h2)) (I2.new hr) (b2.trans (But.new hr))
  refine ⟨_, hs, 1, rfl, t, _, rfl, sqT_mono hid_in hq, fun hw => ?_, fun _ l hl' => ?_⟩
  · have h2 := hw.2
    rw [e] at h2
    exact go t xs ds H (sqT_mono hid_in hq) ha h.ok (by omega) I (But.refl p H)
  · rw [first_cut]
    exact go l (xs.take 1) (ds.take 1) _ (SqT.of upd_same) ((dqAll_take 1 ha).mono (hid_but (But.new hl'))) (h.ok.take 1) (by rw [List.length_take]; omega) (I.new hl') (But.new hl')
theorem it_len (hs : σ[i]? = some (some (.ref t))) (h : KnT kn t ds a W M) {c : Nat} : Item K p n H0 kn σ c 20 (tCB (rLenS K) (tCons (tVar i) tNil)) := fun H Q I q => by
  obtain ⟨xs, hq, ha⟩ := dq_rtup (I.kn _ _ h.hk)
  have hl := ha.len
  have := h.ln
  have := h.l1000
  exact ⟨_, hs, t, xs, rfl, .inr (sqT_mono hid_in hq), q _ (.int (xs.length : Nat)) H (Sm.int (k := 20) (small20 (by omega) (by omega)) (by decide) (Nat.le_refl _)) (.int _) I (But.refl p H)⟩
theorem it_len1 (hs : σ[i]? = some (some (.ref t))) (h : KnT kn t ds a W M) {c : Nat} : Item K p n H0 kn σ c 20 (tOp (rI0 fun i j => .int (i + j)) (tCB (rLenS K) (tCons (tVar i) tNil)) (tC (.int 1))) := fun H Q I q => by
  obtain ⟨xs, hq, ha⟩ := dq_rtup (I.kn _ _ h.hk)
  have hl := ha.len
  have := h.ln
  have := h.l1000
  exact ⟨_, hs, t, xs, rfl, .inr (sqT_mono hid_in hq), _, _, rfl, rfl, q _ (.int _) H (Sm.int (k := 20) (small20 (by omega) (by omega)) (by decide) (Nat.le_refl _)) (.int _) I (But.refl p H)⟩
theorem it_lenTake (h0 : σ[0]? = some (some (.ref p))) (hs : σ[i]? = some (some (.ref t))) (h : KnT kn t ds a W M) {c : Nat} : Item K p n H0 kn σ c 20 (tOp (rI0 fun i j => .int (i - j)) (tCB (rLenS K) (tCons (tVar i) tNil)) (tCall spTake [] C8.E0 (tCons (tVar 0) (tCons (tC (.int 2)) tNil)))) := fun H Q I q => by
  obtain ⟨xs, hq, ha⟩ := dq_rtup (I.kn _ _ h.hk)
  have hl := ha.len
  have := h.ln
  have := h.l1000
  refine ⟨_, hs, t, xs, rfl, .inr (sqT_mono hid_in hq), _, h0, p, n, 2, rfl, I.go.2, by decide, by decide, fun r H1 r0 r1 g => ⟨_, _, rfl, rfl, ?_⟩⟩
  exact q _ (.int _) H1 (Sm.int (k := 20) (small20 (by omega) (by omega)) (by decide) (Nat.le_refl _)) (.int _) (I.on g) g.1
end
theorem pre_cut {xs : List V} {k : Nat} (hk : k < xs.length) : HT.sIx xs.length xs.length (some (k : Int)) = k := by
  show (if (k : Int) < 0 then ((k : Int) + (xs.length : Int)).toNat else min (k : Int).toNat xs.length) = k
  rw [if_neg (by omega)]
  omega
theorem post_cut {xs : List V} {k : Nat} (hk : k < xs.length) : HT.sIx xs.length 0 (some ((k : Int) + 1)) = k + 1 := by
  show (if (k : Int) + 1 < 0 then ((k : Int) + 1 + (xs.length : Int)).toNat else min ((k : Int) + 1).toNat xs.length) = k + 1
  rw [if_neg (by omega)]
  omega
theorem itT_pre {t : Addr} {ds : List PyData} {i j a b W M k : Nat} (hs : σ[i]? = some (some (.ref t))) (hj : σ[j]? = some (some (.int (k : Nat)))) (h : KnT kn t ds a W M) (hk : k < ds.length) (ab : a ≤ b) : ItemT K p n H0 kn σ b W k (L2.tSl (rSlA K) (tVar i) tNoPart (tPart (tVar j))) := fun H Q I q => by
  obtain ⟨xs, hq, ha⟩ := dq_rtup (I.kn _ _ h.hk)
  have hl := ha.len
  have e := pre_cut (xs := xs) (k := k) (by omega)
  refine ⟨_, hs, _, hj, (k : Int), rfl, t, _, rfl, sqT_mono hid_in hq, fun hw => absurd hw.2 (by rw [e]; omega), fun _ l hl' => ?_⟩
  have ec : cutV xs none (some (k : Int)) = xs.take k := by
    unfold cutV
    rw [e, HT.sIx_none]
    rfl
  rw [ec]
  exact q l (ds.take k) _ ((h.ok.take _).mono ab (Nat.le_refl _)) (by rw [List.length_take]; omega) (Dq.newT hl' (I.go.ne hl') (dqAll_take _ ha)) (I.new hl') (But.new hl')
theorem itT_post {t : Addr} {ds : List PyData} {i j a b W M k : Nat} (hs : σ[i]? = some (some (.ref t))) (hj : σ[j]? = some (some (.int (k : Nat)))) (h : KnT kn t ds a W M) (hk : k < ds.length) (ab : a ≤ b) : ItemT K p n H0 kn σ b W (ds.length - (k + 1)) (L2.tSl (rSlA K) (tVar i) (tPart (tOp (rI0 fun i j => .int (i + j)) (tVar j) (tC (.int 1)))) tNoPart) := fun H Q I q => by
  obtain ⟨xs, hq, ha⟩ := dq_rtup (I.kn _ _ h.hk)
  have hl := ha.len
  have e := post_cut (xs := xs) (k := k) (by omega)
  refine ⟨_, hs, _, hj, _, _, rfl, rfl, _, rfl, t, _, rfl, sqT_mono hid_in hq, fun hw => absurd hw.1 (by rw [e]; omega), fun _ l hl' => ?_⟩
  have ec : cutV xs (some ((k : Int) + 1)) none = xs.drop (k + 1) := by
    unfold cutV
    rw [e, HT.sIx_none]
    exact List.take_of_length_le (by rw [List.length_drop]; omega)
  rw [ec]
  exact q l (ds.drop (k + 1)) _ ((h.ok.drop _).mono ab (Nat.le_refl _)) (by rw [List.length_drop]; omega) (Dq.newT hl' (I.go.ne hl') (dqAll_drop _ ha)) (I.new hl') (But.new hl')
/-- things by themselves -/
def Its (K : PySem.W.Frag) (p : Addr) (n : Int) (H0 : Hp) (kn : List (V × PyData)) (σ : L2.St) (A B N : Nat) (es : TA) : Prop :=
  ∀ H Q, In K p n H0 kn H → (∀ vs ds H', (∀ d ∈ ds, Sm A B d) → ds.length = N → QhAll K p H' vs ds → In K p n H0 kn H' → But p H H' → Q vs H') → es σ H Q
theorem is_nil {A B : Nat} : Its K p n H0 kn σ A B 0 tNil := fun H Q I q => q [] [] H (fun _ h => nomatch h) rfl .nil I (But.refl p H)
theorem is_cons {a W A B N : Nat} {e : TE} {es : TA} (h1 : Item K p n H0 kn σ a W e) (ha : a ≤ A) (hW : W ≤ B) (h2 : Its K p n H0 kn σ A B N es) : Its K p n H0 kn σ A B (N + 1) (tCons e es) := fun H Q I q =>
  h1 H _ I fun v d H1 ok D I1 b1 => h2 H1 _ I1 fun vs ds H2 oks hl Ds I2 b2 => q (v :: vs) (d :: ds) H2 (fun x hx => by
    rcases List.mem_cons.mp hx with rfl | hx
    · exact ok.mono ha hW
    · exact oks x hx) (by rw [List.length_cons, hl]) (.cons (D.but b2) Ds) I2 (b1.trans b2)
/-- a list at l of small data, made so far -/
structure Some_ (K : PySem.W.Frag) (p : Addr) (n : Int) (H0 : Hp) (kn : List (V × PyData)) (A B : Nat) (l : Addr) (H : Hp) (N : Nat) (vs : List V) (ds : List PyData) : Prop where
  at_ : H l = some (.lst vs)
  ne : l ≠ p
  dat : QhAll K p H vs ds
  ok : ∀ d ∈ ds, Sm A B d
  len : ds.length = N
  inn : In K p n H0 kn H
theorem start_ {A B N : Nat} {es : TA} {H : Hp} {Q : VK} (I : In K p n H0 kn H) (h : Its K p n H0 kn σ A B N es) (hN : N ≤ 1000) (q : ∀ l vs ds H', Some_ K p n H0 kn A B l H' N vs ds → Q (.ref l) H') : tLst es σ H Q :=
  h H _ I fun vs ds H1 ok hl D I1 b1 => ⟨by have := D.len; rw [sizeLine_eq]; omega, fun l hl2 => q l vs ds _ ⟨upd_same, I1.go.ne hl2, D.but (But.new hl2), ok, hl, I1.new hl2⟩⟩
theorem grow {A B i N N0 : Nat} {es : TA} {H : Hp} {Q : VK} {l : Addr} {vs : List V} {ds : List PyData} (S : Some_ K p n H0 kn A B l H N0 vs ds) (hs : σ[i]? = some (some (.ref l))) (h : Its K p n H0 kn σ A B N es) (hN : N0 + N ≤ 1000)
    (q : ∀ l vs ds H', Some_ K p n H0 kn A B l H' (N0 + N) vs ds → Q (.ref l) H') : tOp rCat (tVar i) (tLst es) σ H Q := by
  refine ⟨_, hs, h H _ S.inn fun us es H1 ok hl D I1 b1 => ⟨by have := D.len; rw [sizeLine_eq]; omega, fun l2 hl2 => ?_⟩⟩
  have b2 := But.new (p := p) (o := .lst us) hl2
  have I2 := I1.new (o := .lst us) hl2
  refine ⟨l, l2, vs, us, rfl, rfl, b2 _ _ S.ne (b1 _ _ S.ne S.at_), upd_same, ?_, fun l3 hl3 => ?_⟩
  · have := D.len
    have := S.dat.len
    have := S.len
    rw [sizeLine_eq]
    omega
  · have b3 := But.new (p := p) (o := .lst (vs ++ us)) hl3
    exact q l3 _ (ds ++ es) _ ⟨upd_same, I2.go.ne hl3, (S.dat.but ((b1.trans b2).trans b3)).app (D.but (b2.trans b3)), (fun x hx => by
      rcases List.mem_append.mp hx with hx | hx
      · exact S.ok x hx
      · exact ok x hx), by rw [List.length_append, S.len, hl], I2.new hl3⟩
end
section
variable {P : Program} {w : World} {K : PySem.W.Frag} {mg : Str → Option Value} {base : Heap}
theorem tups_hid {n : Int} {H : Hp} {p : Addr} (hp : Pt H p n) : TupS H (hid p H) := fun b xs e => by
  obtain ⟨x, y, a, _⟩ := hp
  rw [hid_ne (fun z => by rw [z, a] at e; cases e)]
  exact e
theorem Td.q {n : Int} {H : Hp} {p : Addr} {v : V} {d : PyData} (hp : Pt H p n) (h : Td H v d) : Qh K p H v d := (Td.mono (tups_hid hp) h).p.q
theorem td_three {H : Hp} {v : V} {x y z : PyData} (h : Td H v (.tuple [x, y, z])) : ∃ a u1 u2 u3, v = .ref a ∧ H a = some (.tup [u1, u2, u3]) ∧ Td H u1 x ∧ Td H u2 y ∧ Td H u3 z := by
  cases h with
  | tup hq ha =>
    cases ha with
    | cons h1 t1 =>
      cases t1 with
      | cons h2 t2 =>
        cases t2 with
        | cons h3 t3 =>
          cases t3
          exact ⟨_, _, _, _, rfl, hq, h1, h2, h3⟩
theorem td_ref {H : Hp} {v : V} {ds : List PyData} (h : Td H v (.tuple ds)) : ∃ a, v = .ref a := by
  cases h with
  | tup hq ha => exact ⟨_, rfl⟩
theorem rows_one {rs : List PyData} (h : rowsB (.tuple rs) = true) : 1 ≤ rs.length := by
  cases rs with
  | nil => cases h
  | cons x y => rw [List.length_cons]; omega
abbrev sLMade : Stmt := topS 52
abbrev NLMade : List Str := ["_law_pot_here", "_law_part_here", "_law_some_here", "_law_takes", "_law_gives", "_law_rows"]
theorem scLMade : FnScope NLMade ["_law_pot_here", "_law_part_here"] (fnScope sLMade) := ⟨rfl, rfl, rfl, by decide +kernel, rfl, by decide +kernel, by decide +kernel⟩
/-- things made of a part -/
def spMade (K : PySem.W.Frag) : Sp := fun vs H Q _ => ∃ (p : Addr) (n : Int) (v : V) (ts : List PyData) (g : PyData) (rs : List PyData), vs = [.ref p, v] ∧ Pt H p n ∧ PartIs H v ts g rs ∧
  ∀ l us ds H', H' l = some (.lst us) → l ≠ p → QhAll K p H' us ds → (∀ d ∈ ds, Sm 30 3000000 d) → ds.length ≤ 40 → Go p n H H' → Q (.ref l) H'
theorem c_made (T : Tp mg) (c_LTake : Cal P w K mg base 1 "_law_take" spTake []) {f : Addr} {fd : FuncData} (D : Def K mg "_law_made" sLMade f fd) (b : Binds K fd ["_law_pot_here", "_law_part_here"] []) : Cal P w K mg base 2 "_law_made" (spMade K) [] := by
  refine cal0 D b .nil scLMade (fun vs H Q E h => ?_) (fun cdv A outer s H vs Q E hr h => ?_)
  · obtain ⟨p, n, v, ts, g, rs, rfl, _⟩ := h
    rfl
  · obtain ⟨p, n, v, ts, g, rs, rfl, hp, hv, q⟩ := h
    have nd := scLMade.nd
    refine ⟨_, (pss_cons (ps_asg (pv 1) (pg_tup (n := 3) rfl (pgs_cons (pg_name (i := 3) nd rfl (.inl rfl)) (pgs_cons (pg_name (i := 4) nd rfl (.inl rfl)) (pgs_cons (pg_name (i := 5) nd rfl (.inl rfl)) pgs_nil)))))
    (C8.pss_cut (ps_set (i := 2) nd rfl (.inl rfl) (pe_lst (pa_cons (pe_tup (pa_cons (pv 3) (pa_cons (pv 4) (pa_cons (pe_tup pa_nil) pa_nil)))) (pa_cons (pe_tup (pa_cons (pv 3) (pa_cons (pv 4) (pa_cons (pe_callTy call_list_of (by rfl) T.n_list (by decide +kernel) (pa_cons (pv 5) pa_nil)) pa_nil)))) (pa_cons (pe_tup (pa_cons (pv 3) (pa_cons (pv 4) pa_nil))) (pa_cons (pe_op op_catA (pv 1) (pe_tup (pa_cons (pv 5) pa_nil))) (pa_cons (pe_callTy call_list_of (by rfl) T.n_list (by decide +kernel) (pa_cons (pv 1) pa_nil)) (pa_cons (pv 5) (pa_cons pe_non pa_nil)))))))))
    (C8.pss_cut (ps_set (i := 2) nd rfl (.inl rfl) (pe_op op_cat (pv 2) (pe_lst (pa_cons pe_dnewK pa_nil))))
    (C8.pss_cut (ps_set (i := 2) nd rfl (.inl rfl) (pe_op op_cat (pv 2) (pe_lst (pa_cons (pe_tup (pa_cons (pv 3) (pa_cons (pv 4) (pa_cons (pe_slice sl_tupA (pv 5) po_none (po_some (pe_un un_neg pe_int))) pa_nil)))) (pa_cons (pe_tup (pa_cons (pv 3) (pa_cons (pv 4) (pa_cons (pe_op op_catA (pv 5) (pe_tup (pa_cons (pe_tup (pa_cons pe_str (pa_cons pe_str pa_nil))) pa_nil))) pa_nil)))) (pa_cons (pe_tup (pa_cons (pv 3) (pa_cons (pv 4) (pa_cons (pe_op op_catA (pv 5) (pe_tup (pa_cons (pe_tup pa_nil) pa_nil))) pa_nil)))) pa_nil))))))
    (C8.pss_cut (ps_set (i := 2) nd rfl (.inl rfl) (pe_op op_cat (pv 2) (pe_lst (pa_cons (pe_tup (pa_cons (pv 3) (pa_cons (pv 4) (pa_cons (pe_op op_catA (pe_slice sl_tupA (pv 5) po_none (po_some (pe_un un_neg pe_int))) (pe_tup (pa_cons (pe_tup (pa_cons pe_str (pa_cons (pe_callB call_len_seq (by rfl) T.n_len (by decide +kernel) (pa_cons (pv 5) pa_nil)) pa_nil))) pa_nil))) pa_nil)))) pa_nil))))
    (C8.pss_cut (ps_set (i := 2) nd rfl (.inl rfl) (pe_op op_cat (pv 2) (pe_lst (pa_cons (pe_tup (pa_cons (pv 3) (pa_cons (pv 4) (pa_cons (pe_op op_catA (pe_tup (pa_cons (pe_tup (pa_cons pe_str (pa_cons (pe_callB call_len_seq (by rfl) T.n_len (by decide +kernel) (pa_cons (pv 5) pa_nil)) pa_nil))) pa_nil)) (pe_slice sl_tupA (pv 5) (po_some pe_int) po_none)) pa_nil)))) pa_nil))))
    (C8.pss_cut (ps_set (i := 2) nd rfl (.inl rfl) (pe_op op_cat (pv 2) (pe_lst (pa_cons (pe_tup (pa_cons (pv 3) (pa_cons (pv 4) (pa_cons (pe_op op_catA (pe_tup (pa_cons (pe_tup (pa_cons pe_str (pa_cons (pe_tup (pa_cons pe_str (pa_cons pe_bl pa_nil))) (pa_cons (pe_op op_sub (pe_callB call_len_seq (by rfl) T.n_len (by decide +kernel) (pa_cons (pv 5) pa_nil)) (pe_c c_LTake hr (by decide) (by rfl) (pa_cons (pv 0) (pa_cons pe_int pa_nil)))) pa_nil)))) pa_nil)) (pv 5)) pa_nil)))) pa_nil))))
    (C8.pss_cut (ps_set (i := 2) nd rfl (.inl rfl) (pe_op op_cat (pv 2) (pe_lst (pa_cons (pe_tup (pa_cons (pv 3) (pa_cons (pv 4) (pa_cons (pe_op op_catA (pe_tup (pa_cons (pe_tup (pa_cons pe_str (pa_cons (pe_tup (pa_cons pe_str (pa_cons pe_bl pa_nil))) (pa_cons (pe_op op_add (pe_callB call_len_seq (by rfl) T.n_len (by decide +kernel) (pa_cons (pv 5) pa_nil)) pe_int) pa_nil)))) pa_nil)) (pv 5)) pa_nil)))) (pa_cons (pe_tup (pa_cons (pe_callTy call_list_of (by rfl) T.n_list (by decide +kernel) (pa_cons (pv 3) pa_nil)) (pa_cons (pv 4) (pa_cons (pv 5) pa_nil)))) pa_nil)))))
    (C8.pss_cut (ps_set (i := 2) nd rfl (.inl rfl) (pe_op op_cat (pv 2) (pe_lst (pa_cons (pe_tup (pa_cons (pe_op op_catA (pv 3) (pe_slice sl_tupA (pv 3) po_none (po_some pe_int))) (pa_cons (pv 4) (pa_cons (pv 5) pa_nil)))) (pa_cons (pe_tup (pa_cons (pe_op op_catA (pv 3) (pe_tup (pa_cons (pe_tup (pa_cons pe_str (pa_cons (pe_tup (pa_cons pe_str pa_nil)) pa_nil))) pa_nil))) (pa_cons (pv 4) (pa_cons (pv 5) pa_nil)))) (pa_cons (pe_tup (pa_cons (pv 3) (pa_cons (pe_tup pa_nil) (pa_cons (pv 5) pa_nil)))) pa_nil))))))
    (C8.pss_cut (ps_set (i := 2) nd rfl (.inl rfl) (pe_op op_cat (pv 2) (pe_lst (pa_cons (pe_tup (pa_cons (pe_op op_catA (pv 3) (pe_tup (pa_cons (pe_tup (pa_cons pe_str (pa_cons (pe_tup (pa_cons pe_str pa_nil)) pa_nil))) pa_nil))) (pa_cons (pv 4) (pa_cons (pv 5) pa_nil)))) (pa_cons (pe_tup (pa_cons (pe_op op_catA (pv 3) (pe_tup (pa_cons pe_str pa_nil))) (pa_cons (pv 4) (pa_cons (pv 5) pa_nil)))) pa_nil)))))
    (C8.pss_cut (ps_set (i := 2) nd rfl (.inl rfl) (pe_op op_cat (pv 2) (pe_lst (pa_cons (pe_tup (pa_cons (pv 3) (pa_cons pe_str (pa_cons (pv 5) pa_nil)))) pa_nil))))
    (C8.pss_cut (ps_set (i := 2) nd rfl (.inl rfl) (pe_op op_cat (pv 2) (pe_lst (pa_cons (pe_tup (pa_cons (pv 3) (pa_cons (pe_tup (pa_cons pe_str (pa_cons (pv 4) pa_nil))) (pa_cons (pv 5) pa_nil)))) (pa_cons (pe_tup (pa_cons (pv 3) (pa_cons (pe_tup (pa_cons pe_str (pa_cons pe_str pa_nil))) (pa_cons (pv 5) pa_nil)))) (pa_cons (pe_tup (pa_cons pe_dnewK (pa_cons (pv 4) (pa_cons (pv 5) pa_nil)))) pa_nil))))))
    (C8.pss_cut (ps_set (i := 2) nd rfl (.inl rfl) (pe_op op_cat (pv 2) (pe_lst (pa_cons (pe_tup (pa_cons pe_non (pa_cons (pv 4) (pa_cons (pv 5) pa_nil)))) pa_nil))))
    (C8.pss_cut (ps_set (i := 2) nd rfl (.inl rfl) (pe_op op_cat (pv 2) (pe_lst (pa_cons (pe_tup (pa_cons (pe_op op_catA (pv 3) (pe_tup (pa_cons (pe_tup (pa_cons (pe_lst (pa_cons pe_str pa_nil)) (pa_cons (pv 4) pa_nil))) pa_nil))) (pa_cons (pv 4) (pa_cons (pv 5) pa_nil)))) (pa_cons (pe_tup (pa_cons (pe_op op_catA (pv 3) (pe_tup (pa_cons (pe_tup (pa_cons pe_int (pa_cons (pv 4) pa_nil))) pa_nil))) (pa_cons (pv 4) (pa_cons (pv 5) pa_nil)))) pa_nil)))))
    (C8.pss_cut (ps_set (i := 2) nd rfl (.inl rfl) (pe_op op_cat (pv 2) (pe_lst (pa_cons (pe_tup (pa_cons (pv 3) (pa_cons (pv 4) (pa_cons pe_non pa_nil)))) pa_nil))))
    (C8.pss_cut (ps_set (i := 2) nd rfl (.inl rfl) (pe_op op_cat (pv 2) (pe_lst (pa_cons (pe_tup (pa_cons (pe_revT (pv 3)) (pa_cons (pv 4) (pa_cons (pv 5) pa_nil)))) pa_nil))))
    (pss_one (ps_ret (pe_op op_cat (pv 2) (pe_lst (pa_cons (pe_tup (pa_cons (pv 3) (pa_cons (pv 4) (pa_cons (pe_op op_repT (pe_slice sl_tupA (pv 5) po_none (po_some pe_int)) pe_int) pa_nil)))) (pa_cons (pe_tup (pa_cons (pv 3) (pa_cons (pv 4) (pa_cons (pe_tup (pa_cons (pe_tup (pa_cons pe_str (pa_cons (pe_tup (pa_cons pe_str (pa_cons (pe_un un_neg pe_int) pa_nil))) pa_nil))) pa_nil)) pa_nil)))) pa_nil)))))))))))))))))))))), ?_⟩
    obtain ⟨pa, u1, gv, u3, rfl, hpa, td1, tdg, td3⟩ := td_three hv.td
    obtain ⟨ta, rfl⟩ := td_ref td1
    obtain ⟨ra, rfl⟩ := td_ref td3
    have h1 : 1 ≤ rs.length := rows_one hv.rw_
    refine ⟨_, rfl, pa, _, rfl, SqT.of hpa, rfl, _, _, rfl, _, _, rfl, _, _, rfl, rfl, ?_⟩
    obtain ⟨kn, hkn⟩ : ∃ kn, kn = [(V.ref pa, PyData.tuple [.tuple ts, g, .tuple rs]), (.ref ta, .tuple ts), (gv, g), (.ref ra, .tuple rs)] := ⟨_, rfl⟩
    have I0 : In K p n H kn H := ⟨fun v d h => by
      rw [hkn] at h
      simp only [List.mem_cons, List.not_mem_nil, or_false, Prod.mk.injEq] at h
      rcases h with ⟨rfl, rfl⟩ | ⟨rfl, rfl⟩ | ⟨rfl, rfl⟩ | ⟨rfl, rfl⟩
      · exact Td.q hp hv.td
      · exact Td.q hp td1
      · exact Td.q hp tdg
      · exact Td.q hp td3, Go.refl hp⟩
    have smT : SmAll 9 483 ts := (sm_all hv.tk.sm).mono (Nat.le_refl _) (by have := hv.tk.ln; omega)
    have smR : SmAll 22 1180059 rs := (sm_all hv.rs_).mono (Nat.le_refl _) (by have := hv.rl; omega)
    have t60 : ts.length ≤ 60 := by have := hv.tk.ln; omega
    have r60 : rs.length ≤ 60 := by have := hv.rl; omega
    have smP : SmAll 23 1180603 [.tuple ts, g, .tuple rs] := (SmAll.cons ((Sm.tup smT t60).mono (show 10 ≤ 23 by decide) (Nat.le_refl _)) (SmAll.cons (hv.gs.mono (by decide) (Nat.le_refl _)) (SmAll.cons (Sm.tup smR r60) SmAll.nil))).mono (Nat.le_refl _) (by decide)
    have hP : KnT kn pa [.tuple ts, g, .tuple rs] 23 1180603 3 := ⟨by rw [hkn]; simp, smP, by show 3 ≤ 3; decide, by decide⟩
    have hT : KnT kn ta ts 9 483 7 := ⟨by rw [hkn]; simp, smT, hv.tk.ln, by decide⟩
    have hR : KnT kn ra rs 22 1180059 59 := ⟨by rw [hkn]; simp, smR, hv.rl, by decide⟩
    have hG : (gv, g) ∈ kn := by rw [hkn]; simp
    have Pv : ∀ {σ : L2.St} {a : Nat}, 24 ≤ a → σ[1]? = some (some (.ref pa)) → Item K p n H kn σ a 1180603 (tVar 1) := fun h hs => it_var hs hP.hk ((Sm.tup smP (by show 3 ≤ 60; decide)).mono h (Nat.le_refl _))
    have Tv : ∀ {σ : L2.St} {a : Nat}, 10 ≤ a → σ[3]? = some (some (.ref ta)) → Item K p n H kn σ a 483 (tVar 3) := fun h hs => it_var hs hT.hk ((Sm.tup smT t60).mono h (Nat.le_refl _))
    have Gv : ∀ {σ : L2.St} {a : Nat}, 8 ≤ a → σ[4]? = some (some gv) → Item K p n H kn σ a 58 (tVar 4) := fun h hs => it_var hs hG (hv.gs.mono h (Nat.le_refl _))
    have Rv : ∀ {σ : L2.St} {a : Nat}, 23 ≤ a → σ[5]? = some (some (.ref ra)) → Item K p n H kn σ a 1180059 (tVar 5) := fun h hs => it_var hs hR.hk ((Sm.tup smR r60).mono h (Nat.le_refl _))
    refine ⟨fun σ' H' => ∃ l vs ds, σ' = [some (.ref p), some (.ref pa), some (.ref l), some (.ref ta), some gv, some (.ref ra)] ∧ Some_ K p n H kn 30 3000000 l H' 7 vs ds, ?_, ?_⟩
    · exact start_ I0 (is_cons (it_tup (a := 28) (its_cons (Tv (a := 28) (by decide) rfl) (its_cons (Gv (a := 28) (by decide) rfl) (its_cons (it_tup (a := 27) its_nil (by decide)) its_nil))) (by decide)) (by decide) (by decide) (is_cons (it_tup (a := 28) (its_cons (Tv (a := 28) (by decide) rfl) (its_cons (Gv (a := 28) (by decide) rfl) (its_cons (it_up (b := 28) (it_listOf rfl hR) (by decide)) its_nil))) (by decide)) (by decide) (by decide) (is_cons (it_tup (a := 28) (its_cons (Tv (a := 28) (by decide) rfl) (its_cons (Gv (a := 28) (by decide) rfl) its_nil)) (by decide)) (by decide) (by decide) (is_cons (it_ofT (a := 28) (itT_cat (itT_var rfl hP (by decide)) (itT_tup (its_cons (Rv (a := 28) (by decide) rfl) its_nil))) (by decide)) (by decide) (by decide) (is_cons (it_up (b := 29) (it_listOf rfl hP) (by decide)) (by decide) (by decide) (is_cons (Rv (a := 29) (by decide) rfl) (by decide) (by decide) (is_cons (it_non (a := 29)) (by decide) (by decide) is_nil))))))) (by decide) (fun l vs ds H' S => ⟨l, vs, ds, rfl, S⟩)
    · rintro σ2 H2 ⟨l, vs, ds, rfl, Sm0⟩
      refine ⟨fun σ' H' => ∃ l vs ds, σ' = [some (.ref p), some (.ref pa), some (.ref l), some (.ref ta), some gv, some (.ref ra)] ∧ Some_ K p n H kn 30 3000000 l H' 8 vs ds, ?_, ?_⟩
      · exact grow Sm0 rfl (is_cons (it_dict (a := 29) (by decide)) (by decide) (by decide) is_nil) (by decide) (fun l vs ds H' S => ⟨l, vs, ds, rfl, S⟩)
      · rintro σ2 H2 ⟨l, vs, ds, rfl, Sm0⟩
        refine ⟨fun σ' H' => ∃ l vs ds, σ' = [some (.ref p), some (.ref pa), some (.ref l), some (.ref ta), some gv, some (.ref ra)] ∧ Some_ K p n H kn 30 3000000 l H' 11 vs ds, ?_, ?_⟩
        · exact grow Sm0 rfl (is_cons (it_tup (a := 28) (its_cons (Tv (a := 28) (by decide) rfl) (its_cons (Gv (a := 28) (by decide) rfl) (its_cons (it_ofT (a := 27) (itT_init rfl hR (by decide)) (by decide)) its_nil))) (by decide)) (by decide) (by decide) (is_cons (it_tup (a := 28) (its_cons (Tv (a := 28) (by decide) rfl) (its_cons (Gv (a := 28) (by decide) rfl) (its_cons (it_ofT (a := 27) (itT_cat (itT_var rfl hR (by decide)) (itT_tup (its_cons (it_tup (a := 26) (its_cons (it_str (by decide)) (its_cons (it_str (by decide)) its_nil)) (by decide)) its_nil))) (by decide)) its_nil))) (by decide)) (by decide) (by decide) (is_cons (it_tup (a := 28) (its_cons (Tv (a := 28) (by decide) rfl) (its_cons (Gv (a := 28) (by decide) rfl) (its_cons (it_ofT (a := 27) (itT_cat (itT_var rfl hR (by decide)) (itT_tup (its_cons (it_tup (a := 26) its_nil (by decide)) its_nil))) (by decide)) its_nil))) (by decide)) (by decide) (by decide) is_nil))) (by decide) (fun l vs ds H' S => ⟨l, vs, ds, rfl, S⟩)
        · rintro σ2 H2 ⟨l, vs, ds, rfl, Sm0⟩
          refine ⟨fun σ' H' => ∃ l vs ds, σ' = [some (.ref p), some (.ref pa), some (.ref l), some (.ref ta), some gv, some (.ref ra)] ∧ Some_ K p n H kn 30 3000000 l H' 12 vs ds, ?_, ?_⟩
          · exact grow Sm0 rfl (is_cons (it_tup (a := 28) (its_cons (Tv (a := 28) (by decide) rfl) (its_cons (Gv (a := 28) (by decide) rfl) (its_cons (it_ofT (a := 27) (itT_cat (itT_init rfl hR (by decide)) (itT_tup (its_cons (it_tup (a := 26) (its_cons (it_str (by decide)) (its_cons (it_len rfl hR) its_nil)) (by decide)) its_nil))) (by decide)) its_nil))) (by decide)) (by decide) (by decide) is_nil) (by decide) (fun l vs ds H' S => ⟨l, vs, ds, rfl, S⟩)
          · rintro σ2 H2 ⟨l, vs, ds, rfl, Sm0⟩
            refine ⟨fun σ' H' => ∃ l vs ds, σ' = [some (.ref p), some (.ref pa), some (.ref l), some (.ref ta), some gv, some (.ref ra)] ∧ Some_ K p n H kn 30 3000000 l H' 13 vs ds, ?_, ?_⟩
            · exact grow Sm0 rfl (is_cons (it_tup (a := 28) (its_cons (Tv (a := 28) (by decide) rfl) (its_cons (Gv (a := 28) (by decide) rfl) (its_cons (it_ofT (a := 27) (itT_cat (itT_tup (its_cons (it_tup (a := 26) (its_cons (it_str (by decide)) (its_cons (it_len rfl hR) its_nil)) (by decide)) its_nil)) (itT_tail rfl hR (by decide))) (by decide)) its_nil))) (by decide)) (by decide) (by decide) is_nil) (by decide) (fun l vs ds H' S => ⟨l, vs, ds, rfl, S⟩)
            · rintro σ2 H2 ⟨l, vs, ds, rfl, Sm0⟩
              refine ⟨fun σ' H' => ∃ l vs ds, σ' = [some (.ref p), some (.ref pa), some (.ref l), some (.ref ta), some gv, some (.ref ra)] ∧ Some_ K p n H kn 30 3000000 l H' 14 vs ds, ?_, ?_⟩
              · exact grow Sm0 rfl (is_cons (it_tup (a := 28) (its_cons (Tv (a := 28) (by decide) rfl) (its_cons (Gv (a := 28) (by decide) rfl) (its_cons (it_ofT (a := 27) (itT_cat (itT_tup (its_cons (it_tup (a := 26) (its_cons (it_str (by decide)) (its_cons (it_tup (a := 25) (its_cons (it_str (by decide)) (its_cons it_bl its_nil)) (by decide)) (its_cons (it_lenTake rfl rfl hR) its_nil))) (by decide)) its_nil)) (itT_var rfl hR (by decide))) (by decide)) its_nil))) (by decide)) (by decide) (by decide) is_nil) (by decide) (fun l vs ds H' S => ⟨l, vs, ds, rfl, S⟩)
              · rintro σ2 H2 ⟨l, vs, ds, rfl, Sm0⟩
                refine ⟨fun σ' H' => ∃ l vs ds, σ' = [some (.ref p), some (.ref pa), some (.ref l), some (.ref ta), some gv, some (.ref ra)] ∧ Some_ K p n H kn 30 3000000 l H' 16 vs ds, ?_, ?_⟩
                · exact grow Sm0 rfl (is_cons (it_tup (a := 28) (its_cons (Tv (a := 28) (by decide) rfl) (its_cons (Gv (a := 28) (by decide) rfl) (its_cons (it_ofT (a := 27) (itT_cat (itT_tup (its_cons (it_tup (a := 26) (its_cons (it_str (by decide)) (its_cons (it_tup (a := 25) (its_cons (it_str (by decide)) (its_cons it_bl its_nil)) (by decide)) (its_cons (it_len1 rfl hR) its_nil))) (by decide)) its_nil)) (itT_var rfl hR (by decide))) (by decide)) its_nil))) (by decide)) (by decide) (by decide) (is_cons (it_tup (a := 28) (its_cons (it_up (b := 28) (it_listOf rfl hT) (by decide)) (its_cons (Gv (a := 28) (by decide) rfl) (its_cons (Rv (a := 28) (by decide) rfl) its_nil))) (by decide)) (by decide) (by decide) is_nil)) (by decide) (fun l vs ds H' S => ⟨l, vs, ds, rfl, S⟩)
                · rintro σ2 H2 ⟨l, vs, ds, rfl, Sm0⟩
                  refine ⟨fun σ' H' => ∃ l vs ds, σ' = [some (.ref p), some (.ref pa), some (.ref l), some (.ref ta), some gv, some (.ref ra)] ∧ Some_ K p n H kn 30 3000000 l H' 19 vs ds, ?_, ?_⟩
                  · exact grow Sm0 rfl (is_cons (it_tup (a := 28) (its_cons (it_ofT (a := 27) (itT_cat (itT_var rfl hT (by decide)) (itT_first rfl hT (by decide))) (by decide)) (its_cons (Gv (a := 28) (by decide) rfl) (its_cons (Rv (a := 28) (by decide) rfl) its_nil))) (by decide)) (by decide) (by decide) (is_cons (it_tup (a := 28) (its_cons (it_ofT (a := 27) (itT_cat (itT_var rfl hT (by decide)) (itT_tup (its_cons (it_tup (a := 26) (its_cons (it_str (by decide)) (its_cons (it_tup (a := 25) (its_cons (it_str (by decide)) its_nil) (by decide)) its_nil)) (by decide)) its_nil))) (by decide)) (its_cons (Gv (a := 28) (by decide) rfl) (its_cons (Rv (a := 28) (by decide) rfl) its_nil))) (by decide)) (by decide) (by decide) (is_cons (it_tup (a := 28) (its_cons (Tv (a := 28) (by decide) rfl) (its_cons (it_tup (a := 27) its_nil (by decide)) (its_cons (Rv (a := 28) (by decide) rfl) its_nil))) (by decide)) (by decide) (by decide) is_nil))) (by decide) (fun l vs ds H' S => ⟨l, vs, ds, rfl, S⟩)
                  · rintro σ2 H2 ⟨l, vs, ds, rfl, Sm0⟩
                    refine ⟨fun σ' H' => ∃ l vs ds, σ' = [some (.ref p), some (.ref pa), some (.ref l), some (.ref ta), some gv, some (.ref ra)] ∧ Some_ K p n H kn 30 3000000 l H' 21 vs ds, ?_, ?_⟩
                    · exact grow Sm0 rfl (is_cons (it_tup (a := 28) (its_cons (it_ofT (a := 27) (itT_cat (itT_var rfl hT (by decide)) (itT_tup (its_cons (it_tup (a := 26) (its_cons (it_str (by decide)) (its_cons (it_tup (a := 25) (its_cons (it_str (by decide)) its_nil) (by decide)) its_nil)) (by decide)) its_nil))) (by decide)) (its_cons (Gv (a := 28) (by decide) rfl) (its_cons (Rv (a := 28) (by decide) rfl) its_nil))) (by decide)) (by decide) (by decide) (is_cons (it_tup (a := 28) (its_cons (it_ofT (a := 27) (itT_cat (itT_var rfl hT (by decide)) (itT_tup (its_cons (it_str (by decide)) its_nil))) (by decide)) (its_cons (Gv (a := 28) (by decide) rfl) (its_cons (Rv (a := 28) (by decide) rfl) its_nil))) (by decide)) (by decide) (by decide) is_nil)) (by decide) (fun l vs ds H' S => ⟨l, vs, ds, rfl, S⟩)
                    · rintro σ2 H2 ⟨l, vs, ds, rfl, Sm0⟩
                      refine ⟨fun σ' H' => ∃ l vs ds, σ' = [some (.ref p), some (.ref pa), some (.ref l), some (.ref ta), some gv, some (.ref ra)] ∧ Some_ K p n H kn 30 3000000 l H' 22 vs ds, ?_, ?_⟩
                      · exact grow Sm0 rfl (is_cons (it_tup (a := 28) (its_cons (Tv (a := 28) (by decide) rfl) (its_cons (it_str (by decide)) (its_cons (Rv (a := 28) (by decide) rfl) its_nil))) (by decide)) (by decide) (by decide) is_nil) (by decide) (fun l vs ds H' S => ⟨l, vs, ds, rfl, S⟩)
                      · rintro σ2 H2 ⟨l, vs, ds, rfl, Sm0⟩
                        refine ⟨fun σ' H' => ∃ l vs ds, σ' = [some (.ref p), some (.ref pa), some (.ref l), some (.ref ta), some gv, some (.ref ra)] ∧ Some_ K p n H kn 30 3000000 l H' 25 vs ds, ?_, ?_⟩
                        · exact grow Sm0 rfl (is_cons (it_tup (a := 28) (its_cons (Tv (a := 28) (by decide) rfl) (its_cons (it_tup (a := 27) (its_cons (it_str (by decide)) (its_cons (Gv (a := 27) (by decide) rfl) its_nil)) (by decide)) (its_cons (Rv (a := 28) (by decide) rfl) its_nil))) (by decide)) (by decide) (by decide) (is_cons (it_tup (a := 28) (its_cons (Tv (a := 28) (by decide) rfl) (its_cons (it_tup (a := 27) (its_cons (it_str (by decide)) (its_cons (it_str (by decide)) its_nil)) (by decide)) (its_cons (Rv (a := 28) (by decide) rfl) its_nil))) (by decide)) (by decide) (by decide) (is_cons (it_tup (a := 28) (its_cons (it_dict (a := 28) (by decide)) (its_cons (Gv (a := 28) (by decide) rfl) (its_cons (Rv (a := 28) (by decide) rfl) its_nil))) (by decide)) (by decide) (by decide) is_nil))) (by decide) (fun l vs ds H' S => ⟨l, vs, ds, rfl, S⟩)
                        · rintro σ2 H2 ⟨l, vs, ds, rfl, Sm0⟩
                          refine ⟨fun σ' H' => ∃ l vs ds, σ' = [some (.ref p), some (.ref pa), some (.ref l), some (.ref ta), some gv, some (.ref ra)] ∧ Some_ K p n H kn 30 3000000 l H' 26 vs ds, ?_, ?_⟩
                          · exact grow Sm0 rfl (is_cons (it_tup (a := 28) (its_cons (it_non (a := 28)) (its_cons (Gv (a := 28) (by decide) rfl) (its_cons (Rv (a := 28) (by decide) rfl) its_nil))) (by decide)) (by decide) (by decide) is_nil) (by decide) (fun l vs ds H' S => ⟨l, vs, ds, rfl, S⟩)
                          · rintro σ2 H2 ⟨l, vs, ds, rfl, Sm0⟩
                            refine ⟨fun σ' H' => ∃ l vs ds, σ' = [some (.ref p), some (.ref pa), some (.ref l), some (.ref ta), some gv, some (.ref ra)] ∧ Some_ K p n H kn 30 3000000 l H' 28 vs ds, ?_, ?_⟩
                            · exact grow Sm0 rfl (is_cons (it_tup (a := 28) (its_cons (it_ofT (a := 27) (itT_cat (itT_var rfl hT (by decide)) (itT_tup (its_cons (it_tup (a := 26) (its_cons (it_lst (a := 25) (its_cons (it_str (by decide)) its_nil) (by decide)) (its_cons (Gv (a := 26) (by decide) rfl) its_nil)) (by decide)) its_nil))) (by decide)) (its_cons (Gv (a := 28) (by decide) rfl) (its_cons (Rv (a := 28) (by decide) rfl) its_nil))) (by decide)) (by decide) (by decide) (is_cons (it_tup (a := 28) (its_cons (it_ofT (a := 27) (itT_cat (itT_var rfl hT (by decide)) (itT_tup (its_cons (it_tup (a := 26) (its_cons (it_int (by decide)) (its_cons (Gv (a := 26) (by decide) rfl) its_nil)) (by decide)) its_nil))) (by decide)) (its_cons (Gv (a := 28) (by decide) rfl) (its_cons (Rv (a := 28) (by decide) rfl) its_nil))) (by decide)) (by decide) (by decide) is_nil)) (by decide) (fun l vs ds H' S => ⟨l, vs, ds, rfl, S⟩)
                            · rintro σ2 H2 ⟨l, vs, ds, rfl, Sm0⟩
                              refine ⟨fun σ' H' => ∃ l vs ds, σ' = [some (.ref p), some (.ref pa), some (.ref l), some (.ref ta), some gv, some (.ref ra)] ∧ Some_ K p n H kn 30 3000000 l H' 29 vs ds, ?_, ?_⟩
                              · exact grow Sm0 rfl (is_cons (it_tup (a := 28) (its_cons (Tv (a := 28) (by decide) rfl) (its_cons (Gv (a := 28) (by decide) rfl) (its_cons (it_non (a := 28)) its_nil))) (by decide)) (by decide) (by decide) is_nil) (by decide) (fun l vs ds H' S => ⟨l, vs, ds, rfl, S⟩)
                              · rintro σ2 H2 ⟨l, vs, ds, rfl, Sm0⟩
                                refine ⟨fun σ' H' => ∃ l vs ds, σ' = [some (.ref p), some (.ref pa), some (.ref l), some (.ref ta), some gv, some (.ref ra)] ∧ Some_ K p n H kn 30 3000000 l H' 30 vs ds, ?_, ?_⟩
                                · exact grow Sm0 rfl (is_cons (it_tup (a := 28) (its_cons (it_ofT (a := 27) (itT_rev rfl hT (by decide)) (by decide)) (its_cons (Gv (a := 28) (by decide) rfl) (its_cons (Rv (a := 28) (by decide) rfl) its_nil))) (by decide)) (by decide) (by decide) is_nil) (by decide) (fun l vs ds H' S => ⟨l, vs, ds, rfl, S⟩)
                                · rintro σ2 H2 ⟨l, vs, ds, rfl, Sm0⟩
                                  exact grow Sm0 rfl (is_cons (it_tup (a := 28) (its_cons (Tv (a := 28) (by decide) rfl) (its_cons (Gv (a := 28) (by decide) rfl) (its_cons (it_ofT (a := 27) (itT_twice rfl hR (by decide)) (by decide)) its_nil))) (by decide)) (by decide) (by decide) (is_cons (it_tup (a := 28) (its_cons (Tv (a := 28) (by decide) rfl) (its_cons (Gv (a := 28) (by decide) rfl) (its_cons (it_tup (a := 27) (its_cons (it_tup (a := 26) (its_cons (it_str (by decide)) (its_cons (it_tup (a := 25) (its_cons (it_str (by decide)) (its_cons it_neg its_nil)) (by decide)) its_nil)) (by decide)) its_nil) (by decide)) its_nil))) (by decide)) (by decide) (by decide) is_nil)) (by decide) (fun l vs ds H' S => q l vs ds H' S.at_ S.ne S.dat S.ok (by have := S.len; omega) S.inn.go)
end
end K25
set_option Elab.async false
set_option linter.all false
set_option maxRecDepth 100000
set_option maxHeartbeats 8000000
namespace K25
open PySem PySem.Spec PyProof.Rows L2 KD
open C8 (Cal Def cal0 pe_c fnBody fnScope fnArgs)
theorem rowsB_row {rs : List PyData} (h : rowsB (.tuple rs) = true) {d : PyData} (hd : d ∈ rs) : rowB d = true := by
  rw [rowsB_tup, Bool.and_eq_true, Bool.and_eq_true] at h
  exact List.all_eq_true.mp h.2.1 d hd
theorem td_at {H : Hp} : ∀ {vs : List V} {ds : List PyData} {i : Nat} {v : V}, TdAll H vs ds → vs[i]? = some v → ∃ d, ds[i]? = some d ∧ Td H v d
  | _, _, i, v, .nil, e => by simp at e
  | _, _, 0, v, .cons h _, e => by
    simp at e
    exact ⟨_, rfl, e ▸ h⟩
  | _, _, i + 1, v, .cons _ t, e => by
    obtain ⟨d, h1, h2⟩ := td_at (i := i) t (by simpa using e)
    exact ⟨d, by simpa using h1, h2⟩
theorem forms_three {u : Str} {f : List Str} (h : forms.lookup u = some f) : f.length ≤ 3 := by
  have h2 : ∀ (l : List (Str × List Str)), (l.all fun q => decide (q.2.length ≤ 3)) = true → ∀ {f : List Str}, l.lookup u = some f → f.length ≤ 3 := fun l => by
    induction l with
    | nil => intro _ f e; cases e
    | cons q l ih =>
      intro hl f e
      obtain ⟨k, g⟩ := q
      rw [List.all_cons, Bool.and_eq_true] at hl
      rw [List.lookup_cons] at e
      split at e
      · cases e
        exact of_decide_eq_true hl.1
      · exact ih hl.2 e
  exact h2 forms (by decide +kernel) h
theorem row_three {u : Str} {rest : List PyData} (h : rowB (.tuple (.str u :: rest)) = true) : rest.length ≤ 3 := by
  cases e : forms.lookup u with
  | none => rw [rowB_no e] at h; cases h
  | some f =>
    rw [rowB_at e, Bool.and_eq_true] at h
    have := of_decide_eq_true h.1
    have := forms_three e
    omega
section
variable {P : Program} {w : World} {K : PySem.W.Frag} {mg : Str → Option Value} {base : Heap}
abbrev sLRowAnywhere : Stmt := topS 53
abbrev NLRowAnywhere : List Str := ["_law_pot_here", "_law_rows", "_law_at", "_law_row_here", "_law_odd", "_law_thing"]
theorem scLRowAnywhere : FnScope NLRowAnywhere ["_law_pot_here", "_law_rows"] (fnScope sLRowAnywhere) := ⟨rfl, rfl, rfl, by decide +kernel, rfl, by decide +kernel, by decide +kernel⟩
def spRowAny (K : PySem.W.Frag) : Sp := fun vs H Q _ => ∃ (p : Addr) (n : Int) (ra : Addr) (rs : List PyData), vs = [.ref p, .ref ra] ∧ Pt H p n ∧ Td H (.ref ra) (.tuple rs) ∧ rowsB (.tuple rs) = true ∧ (∀ d ∈ rs, Sm 22 20000 d) ∧ rs.length ≤ 59 ∧
  ∀ l u1 u2 d1 d2 H', H' l = some (.lst [u1, u2]) → l ≠ p → Qh K p H' u1 d1 → Qh K p H' u2 d2 → Sm 27 2500000 d1 → Sm 27 2500000 d2 → Go p n H H' → Q (.ref l) H'
theorem c_rowAny (T : Tp mg) (c_LTake : Cal P w K mg base 1 "_law_take" spTake []) {f : Addr} {fd : FuncData} (D : Def K mg "_law_row_anywhere" sLRowAnywhere f fd) (b : Binds K fd ["_law_pot_here", "_law_rows"] []) : Cal P w K mg base 2 "_law_row_anywhere" (spRowAny K) [] := by
  refine cal0 D b .nil scLRowAnywhere (fun vs H Q E h => ?_) (fun cdv A outer s H vs Q E hr h => ?_)
  · obtain ⟨p, n, ra, rs, rfl, _⟩ := h
    rfl
  · obtain ⟨p, n, ra, rs, rfl, hp, htd, hrb, hsm, hl59, q⟩ := h
    have nd := scLRowAnywhere.nd
    refine ⟨_, (pss_cons (ps_set (i := 2) nd rfl (.inl rfl) (pe_c c_LTake hr (by decide) (by rfl) (pa_cons (pv 0) (pa_cons (pe_callB call_len_seq (by rfl) T.n_len (by decide +kernel) (pa_cons (pv 1) pa_nil)) pa_nil))))
    (pss_cons (ps_set (i := 3) nd rfl (.inl rfl) (pe_ix ix_tup (pv 1) (pv 2) (fun _ _ => rfl)))
    (C8.pss_cut (ps_set (i := 4) nd rfl (.inl rfl) (pe_lst (pa_cons (pe_tup (pa_cons pe_str (pa_cons (pe_callB call_len_seq (by rfl) T.n_len (by decide +kernel) (pa_cons (pv 1) pa_nil)) pa_nil))) (pa_cons (pe_tup (pa_cons pe_str (pa_cons (pe_un un_neg pe_int) pa_nil))) (pa_cons (pe_tup (pa_cons pe_str (pa_cons (pe_tup (pa_cons pe_str (pa_cons pe_bl pa_nil))) (pa_cons (pe_callB call_len_seq (by rfl) T.n_len (by decide +kernel) (pa_cons (pv 1) pa_nil)) pa_nil)))) (pa_cons (pe_tup (pa_cons pe_str (pa_cons pe_str pa_nil))) (pa_cons (pe_tup pa_nil) (pa_cons (pe_callTy call_list_of (by rfl) T.n_list (by decide +kernel) (pa_cons (pv 3) pa_nil)) pa_nil))))))))
    (C8.pss_cut (ps_set (i := 4) nd rfl (.inl rfl) (pe_op op_cat (pv 4) (pe_lst (pa_cons (pe_op op_catA (pv 3) (pe_tup (pa_cons pe_int pa_nil))) (pa_cons (pe_slice sl_tupA (pv 3) po_none (po_some (pe_un un_neg pe_int))) (pa_cons pe_non (pa_cons (pe_tup (pa_cons pe_str (pa_cons pe_bl pa_nil))) (pa_cons (pe_tup (pa_cons pe_str (pa_cons pe_str pa_nil))) (pa_cons (pe_tup (pa_cons pe_str (pa_cons (pe_tup (pa_cons pe_str (pa_cons pe_int pa_nil))) pa_nil))) pa_nil)))))))))
    (pss_cons (ps_set (i := 5) nd rfl (.inl rfl) (pe_ix ix_list (pv 4) (pe_c c_LTake hr (by decide) (by rfl) (pa_cons (pv 0) (pa_cons (pe_callB call_len_seq (by rfl) T.n_len (by decide +kernel) (pa_cons (pv 4) pa_nil)) pa_nil))) (fun _ _ => rfl)))
    (pss_one (ps_ret (pe_lst (pa_cons (pe_op op_catA (pe_op op_catA (pe_slice sl_tupA (pv 1) po_none (po_some (pv 2))) (pe_tup (pa_cons (pv 5) pa_nil))) (pe_slice sl_tupA (pv 1) (po_some (pe_op op_add (pv 2) pe_int)) po_none)) (pa_cons (pe_op op_catA (pe_slice sl_tupA (pv 1) po_none (po_some (pv 2))) (pe_slice sl_tupA (pv 1) (po_some (pe_op op_add (pv 2) pe_int)) po_none)) pa_nil)))))))))), ?_⟩
    have h1 : 1 ≤ rs.length := rows_one hrb
    obtain ⟨xs, hra, hxs⟩ : ∃ xs, H ra = some (.tup xs) ∧ TdAll H xs rs := by
      cases htd with
      | tup hq ha => exact ⟨_, hq, ha⟩
    have hl := hxs.len
    refine ⟨_, rfl, _, rfl, ra, xs, rfl, .inr (SqT.of hra), p, n, (xs.length : Int), rfl, hp, by omega, small300 (by omega) (by omega), fun r H1 r0 r1 g1 => ?_⟩
    obtain ⟨k, rfl⟩ : ∃ k : Nat, r = (k : Int) := ⟨r.toNat, by omega⟩
    have hk : k < rs.length := by omega
    obtain ⟨wv, hwv⟩ := at_some (show k < xs.length by omega)
    obtain ⟨wd, hwd, twd⟩ := td_at hxs hwv
    have hwm := List.mem_of_getElem? hwd
    have hwrow := rowsB_row hrb hwm
    obtain ⟨u, rest, rfl⟩ := row_form hwrow
    obtain ⟨wa, rfl⟩ := td_ref twd
    have T1 := g1.tups hp
    refine ⟨_, rfl, _, rfl, ra, xs, _, .ref wa, rfl, rfl, SqT.of (T1 _ _ hra), atI_nat hwv, ?_⟩
    obtain ⟨kn, hkn⟩ : ∃ kn, kn = [(V.ref ra, PyData.tuple rs), (.ref wa, .tuple (.str u :: rest))] := ⟨_, rfl⟩
    have I0 : In K p n H kn H1 := ⟨fun v d h => by
      rw [hkn] at h
      simp only [List.mem_cons, List.not_mem_nil, or_false, Prod.mk.injEq] at h
      rcases h with ⟨rfl, rfl⟩ | ⟨rfl, rfl⟩
      · exact (Td.q hp htd).but g1.1
      · exact (Td.q hp twd).but g1.1, g1⟩
    have smR : SmAll 22 1180059 rs := (sm_all hsm).mono (Nat.le_refl _) (by omega)
    have wl : (PyData.str u :: rest).length ≤ 4 := by
      rw [List.length_cons]
      have := row_three hwrow
      omega
    have w1 : 1 ≤ (PyData.str u :: rest).length := by rw [List.length_cons]; omega
    have hR : KnT kn ra rs 22 1180059 59 := ⟨by rw [hkn]; simp, smR, hl59, by decide⟩
    have hW : KnT kn wa (.str u :: rest) 21 20000 4 := ⟨by rw [hkn]; simp, (hsm _ hwm).els, wl, by decide⟩
    refine ⟨fun σ' H' => ∃ l vs ds, σ' = [some (.ref p), some (.ref ra), some (.int (k : Nat)), some (.ref wa), some (.ref l), none] ∧ Some_ K p n H kn 25 30000 l H' 6 vs ds, ?_, ?_⟩
    · exact start_ I0 (is_cons (it_tup (a := 23) (its_cons (it_str (by decide)) (its_cons (it_len rfl hR) its_nil)) (by decide)) (by decide) (by decide) (is_cons (it_tup (a := 23) (its_cons (it_str (by decide)) (its_cons it_neg its_nil)) (by decide)) (by decide) (by decide) (is_cons (it_tup (a := 23) (its_cons (it_str (by decide)) (its_cons (it_tup (a := 22) (its_cons (it_str (by decide)) (its_cons it_bl its_nil)) (by decide)) (its_cons (it_len rfl hR) its_nil))) (by decide)) (by decide) (by decide) (is_cons (it_tup (a := 23) (its_cons (it_str (by decide)) (its_cons (it_str (by decide)) its_nil)) (by decide)) (by decide) (by decide) (is_cons (it_tup (a := 23) its_nil (by decide)) (by decide) (by decide) (is_cons (it_up (b := 24) (it_listOf rfl hW) (by decide)) (by decide) (by decide) is_nil)))))) (by decide) (fun l vs ds H' S => ⟨l, vs, ds, rfl, S⟩)
    · rintro σ2 H2 ⟨l, vs, ds, rfl, Sm0⟩
      refine ⟨fun σ' H' => ∃ l vs ds, σ' = [some (.ref p), some (.ref ra), some (.int (k : Nat)), some (.ref wa), some (.ref l), none] ∧ Some_ K p n H kn 25 30000 l H' 12 vs ds, ?_, ?_⟩
      · exact grow Sm0 rfl (is_cons (it_ofT (a := 23) (itT_cat (itT_var rfl hW (by decide)) (itT_tup (its_cons (it_int (by decide)) its_nil))) (by decide)) (by decide) (by decide) (is_cons (it_ofT (a := 23) (itT_init rfl hW (by decide)) (by decide)) (by decide) (by decide) (is_cons (it_non (a := 24)) (by decide) (by decide) (is_cons (it_tup (a := 23) (its_cons (it_str (by decide)) (its_cons it_bl its_nil)) (by decide)) (by decide) (by decide) (is_cons (it_tup (a := 23) (its_cons (it_str (by decide)) (its_cons (it_str (by decide)) its_nil)) (by decide)) (by decide) (by decide) (is_cons (it_tup (a := 23) (its_cons (it_str (by decide)) (its_cons (it_tup (a := 22) (its_cons (it_str (by decide)) (its_cons (it_int (by decide)) its_nil)) (by decide)) its_nil)) (by decide)) (by decide) (by decide) is_nil)))))) (by decide) (fun l vs ds H' S => ⟨l, vs, ds, rfl, S⟩)
      · rintro σ2 H2 ⟨l, vs, ds, rfl, Sm0⟩
        have hlv := Sm0.dat.len
        have hN := Sm0.len
        refine ⟨_, rfl, _, rfl, _, rfl, l, _, rfl, .inl (SqL.of Sm0.at_), ?_⟩
        refine ⟨p, n, (vs.length : Int), rfl, Sm0.inn.go.2, by omega, small300 (by omega) (by omega), fun r H9 r0 r1 g9 => ?_⟩
        obtain ⟨v, hv⟩ := at_some (show r.toNat < vs.length by omega)
        obtain ⟨d, hd, Dv⟩ := Sm0.dat.at hv
        have er : r = (r.toNat : Int) := by omega
        refine ⟨l, vs, r, v, rfl, rfl, SqL.of (g9.at Sm0.ne Sm0.at_), (by rw [er]; exact atI_nat hv), ?_⟩
        have okd := Sm0.ok d (List.mem_of_getElem? hd)
        have I9 : In K p n H ((v, d) :: kn) H9 := ⟨fun v' d' h => by
          rcases List.mem_cons.mp h with h | h
          · cases h
            exact Dv.but g9.1
          · exact (Sm0.inn.kn _ _ h).but g9.1, Sm0.inn.go.trans g9⟩
        have hR9 : KnT ((v, d) :: kn) ra rs 22 1180059 59 := ⟨List.mem_cons_of_mem _ hR.hk, hR.ok, hR.ln, hR.l1000⟩
        have hv9 : (v, d) ∈ (v, d) :: kn := List.mem_cons_self
        refine (itT_cat (itT_cat (itT_pre rfl rfl hR9 hk (show 22 ≤ 25 by decide)) (itT_tup (its_cons (it_var rfl hv9 okd) its_nil)) (by omega)) (itT_post rfl rfl hR9 hk (show 22 ≤ 25 by decide)) (by omega)) H9 _ I9 fun t1 ds1 H10 ok1 l1 D1 I10 b10 => ?_
        refine (itT_cat (itT_pre rfl rfl hR9 hk (show 22 ≤ 25 by decide)) (itT_post rfl rfl hR9 hk (show 22 ≤ 25 by decide)) (by omega)) H10 _ I10 fun t2 ds2 H11 ok2 l2 D2 I11 b11 => ?_
        refine ⟨(by show 2 ≤ sizeLine; decide), fun l hl => ?_⟩
        exact q l (.ref t1) (.ref t2) _ _ _ upd_same (I11.go.ne hl) ((D1.but b11).but (But.new hl)) (D2.but (But.new hl)) ((Sm.tup ok1 (by omega)).mono (by decide) (by decide)) ((Sm.tup ok2 (by omega)).mono (by decide) (by decide)) (I11.go.new hl)
end
end K25
set_option Elab.async false
set_option linter.all false
set_option maxRecDepth 100000
set_option maxHeartbeats 8000000
/-! things made while a list at D is known by what it holds -/
namespace K25.Dd
open PySem PySem.Spec PyProof.Rows L2 KD K25
theorem hid2_in {p D : Addr} {H : Hp} : Same (hid p (hid D H)) H := fun b o h => (hid_some (hid_some h).2).2
theorem hb {p D : Addr} {H H' : Hp} (b : But p H H') : But p (hid D H) (hid D H') := fun c o nc e => by
  obtain ⟨n, e⟩ := hid_some e
  rw [hid_ne n]
  exact b c o nc e
theorem hid_new {D t : Addr} {H : Hp} {o : HO} (n : t ≠ D) : hid D (upd H t o) = upd (hid D H) t o := by
  funext b
  by_cases e : b = t
  · subst e
    rw [hid_ne n, upd_same, upd_same]
  · rw [upd_ne e]
    by_cases f : b = D
    · subst f
      show (if b = b then none else _) = (if b = b then none else _)
      rw [if_pos rfl, if_pos rfl]
    · rw [hid_ne f, hid_ne f, upd_ne e]
section
variable {K : PySem.W.Frag} {p D : Addr} {n : Int} {us0 : List V} {H0 : Hp} {kn : List (V × PyData)} {σ : L2.St}
structure In (K : PySem.W.Frag) (p D : Addr) (n : Int) (us0 : List V) (H0 : Hp) (kn : List (V × PyData)) (H : Hp) : Prop where
  kn : ∀ v d, (v, d) ∈ kn → Qh K p (hid D H) v d
  go : Go p n H0 H
  at_ : H D = some (.lst us0)
  ne : D ≠ p
theorem In.on {H H' : Hp} (I : In K p D n us0 H0 kn H) (g : Go p n H H') : In K p D n us0 H0 kn H' := ⟨fun v d h => (I.kn v d h).but (hb g.1), I.go.trans g, g.at I.ne I.at_, I.ne⟩
theorem In.off {H : Hp} {q : Addr} (I : In K p D n us0 H0 kn H) (hq : H q = none) : q ≠ D := fun e => by
  rw [e, I.at_] at hq
  cases hq
theorem In.new {H : Hp} {q : Addr} {o : HO} (I : In K p D n us0 H0 kn H) (hq : H q = none) : In K p D n us0 H0 kn (upd H q o) := I.on ((Go.refl I.go.2).new hq)
theorem In.same {H H' : Hp} (I : In K p D n us0 H0 kn H) (e : Same H H') : In K p D n us0 H0 kn H' := I.on ((Go.refl I.go.2).same e)
theorem newT {H : Hp} {t : Addr} {xs : List V} {ds : List PyData} (ht : H t = none) (I : In K p D n us0 H0 kn H) (h : QhAll K p (hid D H) xs ds) : Qh K p (hid D (upd H t (.tup xs))) (.ref t) (.tuple ds) := by
  rw [hid_new (I.off ht)]
  exact Dq.newT (by rw [hid_ne (I.off ht)]; exact ht) (I.go.ne ht) h
theorem newL {H : Hp} {t : Addr} {xs : List V} {ds : List PyData} (ht : H t = none) (I : In K p D n us0 H0 kn H) (h : QhAll K p (hid D H) xs ds) : Qh K p (hid D (upd H t (.lst xs))) (.ref t) (.list ds) := by
  rw [hid_new (I.off ht)]
  exact Dq.newL (by rw [hid_ne (I.off ht)]; exact ht) (I.go.ne ht) h
/-- D's list put otherwise: what is known stands -/
theorem In.out {H : Hp} {o : HO} {v : V} {d : PyData} (I : In K p D n us0 H0 kn H) (h : Qh K p (hid D H) v d) : Qh K p (upd H D o) v d := Dq.but (fun b u nb e => by
  obtain ⟨nD, e⟩ := hid_some e
  rw [upd_ne nD]
  exact e) h
theorem catQ {H : Hp} {a b : Addr} {ds es : List PyData} {Q : VK} (I : In K p D n us0 H0 kn H) (da : Qh K p (hid D H) (.ref a) (.tuple ds)) (db : Qh K p (hid D H) (.ref b) (.tuple es)) (hl : ds.length + es.length ≤ 1000)
    (q : ∀ t H', Qh K p (hid D H') (.ref t) (.tuple (ds ++ es)) → Same H H' → Q (.ref t) H') : rCatA K (.ref a) (.ref b) H Q := by
  obtain ⟨xs, hq1, ha1⟩ := dq_rtup da
  obtain ⟨ys, hq2, ha2⟩ := dq_rtup db
  have e1 := ha1.len
  have e2 := ha2.len
  refine ⟨a, b, xs, ys, rfl, rfl, sqT_mono hid2_in hq1, sqT_mono hid2_in hq2, by rw [sizeLine_eq]; omega, fun e => ?_, fun _ e => ?_, fun _ _ r hr => ?_⟩
  · subst e
    cases ha1
    exact q b H db (Same.refl H)
  · subst e
    cases ha2
    rw [List.append_nil] at q
    exact q a H da (Same.refl H)
  · exact q r _ (newT hr I (ha1.app ha2)) (Same.new hr)
def Item (K : PySem.W.Frag) (p D : Addr) (n : Int) (us0 : List V) (H0 : Hp) (kn : List (V × PyData)) (σ : L2.St) (a W : Nat) (e : TE) : Prop :=
  ∀ H Q, In K p D n us0 H0 kn H → (∀ v d H', Sm a W d → Qh K p (hid D H') v d → In K p D n us0 H0 kn H' → But p H H' → Q v H') → e σ H Q
def Items (K : PySem.W.Frag) (p D : Addr) (n : Int) (us0 : List V) (H0 : Hp) (kn : List (V × PyData)) (σ : L2.St) (a W N : Nat) (es : TA) : Prop :=
  ∀ H Q, In K p D n us0 H0 kn H → (∀ vs ds H', SmAll a W ds → ds.length = N → QhAll K p (hid D H') vs ds → In K p D n us0 H0 kn H' → But p H H' → Q vs H') → es σ H Q
theorem its_nil {a : Nat} : Items K p D n us0 H0 kn σ a 0 0 tNil := fun H Q I q => q [] [] H .nil rfl .nil I (But.refl p H)
theorem its_cons {a W W2 N : Nat} {e : TE} {es : TA} (h1 : Item K p D n us0 H0 kn σ a W e) (h2 : Items K p D n us0 H0 kn σ a W2 N es) : Items K p D n us0 H0 kn σ a (W + 1 + W2) (N + 1) (tCons e es) := fun H Q I q =>
  h1 H _ I fun v d H1 ok D I1 b1 => h2 H1 _ I1 fun vs ds H2 oks hl Ds I2 b2 => q (v :: vs) (d :: ds) H2 (SmAll.cons ok oks) (by rw [List.length_cons, hl]) (.cons (D.but (hb b2)) Ds) I2 (b1.trans b2)
theorem it_up {a b W : Nat} {e : TE} (h : Item K p D n us0 H0 kn σ a W e) (ab : a ≤ b) : Item K p D n us0 H0 kn σ b W e := fun H Q I q => h H Q I fun v d H1 ok D I1 b1 => q v d H1 (ok.mono ab (Nat.le_refl _)) D I1 b1
theorem it_tup {a W N : Nat} {es : TA} (h : Items K p D n us0 H0 kn σ a W N es) (hN : N ≤ 60) : Item K p D n us0 H0 kn σ (a + 1) W (tTup es) := fun H Q I q =>
  h H _ I fun vs ds H1 ok hl D I1 b1 => ⟨by have := D.len; rw [sizeLine_eq]; omega, fun t ht => q _ (.tuple ds) _ (Sm.tup ok (by omega)) (newT ht I1 D) (I1.new ht) (b1.trans (But.new ht))⟩
theorem it_lst {a W N : Nat} {es : TA} (h : Items K p D n us0 H0 kn σ a W N es) (hN : N ≤ 60) : Item K p D n us0 H0 kn σ (a + 1) W (tLst es) := fun H Q I q =>
  h H _ I fun vs ds H1 ok hl D I1 b1 => ⟨by have := D.len; rw [sizeLine_eq]; omega, fun t ht => q _ (.list ds) _ (Sm.lst ok (by omega)) (newL ht I1 D) (I1.new ht) (b1.trans (But.new ht))⟩
theorem it_c {a W : Nat} {v : V} {d : PyData} (hd : ∀ H, Dq K H v d) (ok : Sm a W d) : Item K p D n us0 H0 kn σ a W (tC v) := fun H Q I q => q v d H ok (hd _) I (But.refl p H)
theorem it_str {a : Nat} {z : Str} (hl : z.length ≤ 20) : Item K p D n us0 H0 kn σ a 20 (tC (.str z)) := it_c (fun _ => .str z) (lit hl (by decide))
theorem it_non {a : Nat} : Item K p D n us0 H0 kn σ a 0 (tC .non) := it_c (fun _ => .non) .non
theorem it_int {a : Nat} {i : Int} (h : i.natAbs < 2 ^ 20) : Item K p D n us0 H0 kn σ a 20 (tC (.int i)) := it_c (fun _ => .int i) (Sm.int h (by decide) (Nat.le_refl _))
theorem it_var {a W i : Nat} {v : V} {d : PyData} (hs : σ[i]? = some (some v)) (hk : (v, d) ∈ kn) (ok : Sm a W d) : Item K p D n us0 H0 kn σ a W (tVar i) := fun H Q I q => ⟨v, hs, q v d H ok (I.kn v d hk) I (But.refl p H)⟩
section
variable {t : Addr} {ds : List PyData} {i a b W M : Nat}
def ItemT (K : PySem.W.Frag) (p D : Addr) (n : Int) (us0 : List V) (H0 : Hp) (kn : List (V × PyData)) (σ : L2.St) (a W M : Nat) (e : TE) : Prop :=
  ∀ H Q, In K p D n us0 H0 kn H → (∀ t ds H', SmAll a W ds → ds.length ≤ M → Qh K p (hid D H') (.ref t) (.tuple ds) → In K p D n us0 H0 kn H' → But p H H' → Q (.ref t) H') → e σ H Q
theorem itT_var (hs : σ[i]? = some (some (.ref t))) (h : KnT kn t ds a W M) (ab : a ≤ b) : ItemT K p D n us0 H0 kn σ b W M (tVar i) := fun H Q I q => ⟨_, hs, q t ds H (h.ok.mono ab (Nat.le_refl _)) h.ln (I.kn _ _ h.hk) I (But.refl p H)⟩
theorem itT_tup {N : Nat} {es : TA} (h : Items K p D n us0 H0 kn σ a W N es) (hN : N ≤ 60 := by decide) : ItemT K p D n us0 H0 kn σ a W N (tTup es) := fun H Q I q =>
  h H _ I fun vs ds H1 ok hl D I1 b1 => ⟨by have := D.len; rw [sizeLine_eq]; omega, fun t ht => q t ds _ ok (by omega) (newT ht I1 D) (I1.new ht) (b1.trans (But.new ht))⟩
theorem itT_cat {W2 M2 : Nat} {e1 e2 : TE} (h1 : ItemT K p D n us0 H0 kn σ a W M e1) (h2 : ItemT K p D n us0 H0 kn σ a W2 M2 e2) (hM : M + M2 ≤ 60 := by decide) : ItemT K p D n us0 H0 kn σ a (W + W2) (M + M2) (tOp (rCatA K) e1 e2) := fun H Q I q =>
  h1 H _ I fun t1 ds H1 ok l1 D1 I1 b1 => h2 H1 _ I1 fun t2 es H2 ok2 l2 D2 I2 b2 =>
    catQ I2 (D1.but (hb b2)) D2 (by omega) fun t3 H3 D3 s3 => q t3 _ H3 (ok.app ok2) (by rw [List.length_append]; omega) D3 (I2.same s3) ((b1.trans b2).trans (But.same s3))
theorem it_ofT {e : TE} (h : ItemT K p D n us0 H0 kn σ a W M e) (hM : M ≤ 60) : Item K p D n us0 H0 kn σ (a + 1) W e := fun H Q I q =>
  h H Q I fun t ds H1 ok l D I1 b1 => q _ (.tuple ds) H1 (Sm.tup ok (by omega)) D I1 b1
end
theorem itT_pre {t : Addr} {ds : List PyData} {i j a b W M k : Nat} (hs : σ[i]? = some (some (.ref t))) (hj : σ[j]? = some (some (.int (k : Nat)))) (h : KnT kn t ds a W M) (hk : k < ds.length) (ab : a ≤ b) : ItemT K p D n us0 H0 kn σ b W k (L2.tSl (rSlA K) (tVar i) tNoPart (tPart (tVar j))) := fun H Q I q => by
  obtain ⟨xs, hq, ha⟩ := dq_rtup (I.kn _ _ h.hk)
  have hl := ha.len
  have e := pre_cut (xs := xs) (k := k) (by omega)
  refine ⟨_, hs, _, hj, (k : Int), rfl, t, _, rfl, sqT_mono hid2_in hq, fun hw => absurd hw.2 (by rw [e]; omega), fun _ l hl' => ?_⟩
  have ec : cutV xs none (some (k : Int)) = xs.take k := by
    unfold cutV
    rw [e, HT.sIx_none]
    rfl
  rw [ec]
  exact q l (ds.take k) _ ((h.ok.take _).mono ab (Nat.le_refl _)) (by rw [List.length_take]; omega) (newT hl' I (dqAll_take _ ha)) (I.new hl') (But.new hl')
theorem itT_post {t : Addr} {ds : List PyData} {i j a b W M k : Nat} (hs : σ[i]? = some (some (.ref t))) (hj : σ[j]? = some (some (.int (k : Nat)))) (h : KnT kn t ds a W M) (hk : k < ds.length) (ab : a ≤ b) : ItemT K p D n us0 H0 kn σ b W (ds.length - (k + 1)) (L2.tSl (rSlA K) (tVar i) (tPart (tOp (rI0 fun i j => .int (i + j)) (tVar j) (tC (.int 1)))) tNoPart) := fun H Q I q => by
  obtain ⟨xs, hq, ha⟩ := dq_rtup (I.kn _ _ h.hk)
  have hl := ha.len
  have e := post_cut (xs := xs) (k := k) (by omega)
  refine ⟨_, hs, _, hj, _, _, rfl, rfl, _, rfl, t, _, rfl, sqT_mono hid2_in hq, fun hw => absurd hw.1 (by rw [e]; omega), fun _ l hl' => ?_⟩
  have ec : cutV xs (some ((k : Int) + 1)) none = xs.drop (k + 1) := by
    unfold cutV
    rw [e, HT.sIx_none]
    exact List.take_of_length_le (by rw [List.length_drop]; omega)
  rw [ec]
  exact q l (ds.drop (k + 1)) _ ((h.ok.drop _).mono ab (Nat.le_refl _)) (by rw [List.length_drop]; omega) (newT hl' I (dqAll_drop _ ha)) (I.new hl') (But.new hl')
def Its (K : PySem.W.Frag) (p D : Addr) (n : Int) (us0 : List V) (H0 : Hp) (kn : List (V × PyData)) (σ : L2.St) (A B N : Nat) (es : TA) : Prop :=
  ∀ H Q, In K p D n us0 H0 kn H → (∀ vs ds H', (∀ d ∈ ds, Sm A B d) → ds.length = N → QhAll K p (hid D H') vs ds → In K p D n us0 H0 kn H' → But p H H' → Q vs H') → es σ H Q
theorem is_nil {A B : Nat} : Its K p D n us0 H0 kn σ A B 0 tNil := fun H Q I q => q [] [] H (fun _ h => nomatch h) rfl .nil I (But.refl p H)
theorem is_cons {a W A B N : Nat} {e : TE} {es : TA} (h1 : Item K p D n us0 H0 kn σ a W e) (ha : a ≤ A) (hW : W ≤ B) (h2 : Its K p D n us0 H0 kn σ A B N es) : Its K p D n us0 H0 kn σ A B (N + 1) (tCons e es) := fun H Q I q =>
  h1 H _ I fun v d H1 ok D I1 b1 => h2 H1 _ I1 fun vs ds H2 oks hl Ds I2 b2 => q (v :: vs) (d :: ds) H2 (fun x hx => by
    rcases List.mem_cons.mp hx with rfl | hx
    · exact ok.mono ha hW
    · exact oks x hx) (by rw [List.length_cons, hl]) (.cons (D.but (hb b2)) Ds) I2 (b1.trans b2)
structure Some_ (K : PySem.W.Frag) (p D : Addr) (n : Int) (us0 : List V) (H0 : Hp) (kn : List (V × PyData)) (A B : Nat) (l : Addr) (H : Hp) (N : Nat) (vs : List V) (ds : List PyData) : Prop where
  at_ : H l = some (.lst vs)
  ne : l ≠ p
  dat : QhAll K p (hid D H) vs ds
  ok : ∀ d ∈ ds, Sm A B d
  len : ds.length = N
  inn : In K p D n us0 H0 kn H
theorem start_ {A B N : Nat} {es : TA} {H : Hp} {Q : VK} (I : In K p D n us0 H0 kn H) (h : Its K p D n us0 H0 kn σ A B N es) (hN : N ≤ 1000) (q : ∀ l vs ds H', Some_ K p D n us0 H0 kn A B l H' N vs ds → Q (.ref l) H') : tLst es σ H Q :=
  h H _ I fun vs ds H1 ok hl D I1 b1 => ⟨by have := D.len; rw [sizeLine_eq]; omega, fun l hl2 => q l vs ds _ ⟨upd_same, I1.go.ne hl2, D.but (hb <| But.new hl2), ok, hl, I1.new hl2⟩⟩
theorem grow {A B i N N0 : Nat} {es : TA} {H : Hp} {Q : VK} {l : Addr} {vs : List V} {ds : List PyData} (S : Some_ K p D n us0 H0 kn A B l H N0 vs ds) (hs : σ[i]? = some (some (.ref l))) (h : Its K p D n us0 H0 kn σ A B N es) (hN : N0 + N ≤ 1000)
    (q : ∀ l vs ds H', Some_ K p D n us0 H0 kn A B l H' (N0 + N) vs ds → Q (.ref l) H') : tOp rCat (tVar i) (tLst es) σ H Q := by
  refine ⟨_, hs, h H _ S.inn fun us es H1 ok hl D I1 b1 => ⟨by have := D.len; rw [sizeLine_eq]; omega, fun l2 hl2 => ?_⟩⟩
  have b2 := But.new (p := p) (o := .lst us) hl2
  have I2 := I1.new (o := .lst us) hl2
  refine ⟨l, l2, vs, us, rfl, rfl, b2 _ _ S.ne (b1 _ _ S.ne S.at_), upd_same, ?_, fun l3 hl3 => ?_⟩
  · have := D.len
    have := S.dat.len
    have := S.len
    rw [sizeLine_eq]
    omega
  · have b3 := But.new (p := p) (o := .lst (vs ++ us)) hl3
    exact q l3 _ (ds ++ es) _ ⟨upd_same, I2.go.ne hl3, (S.dat.but (hb <| (b1.trans b2).trans b3)).app (D.but (hb <| b2.trans b3)), (fun x hx => by
      rcases List.mem_append.mp hx with hx | hx
      · exact S.ok x hx
      · exact ok x hx), by rw [List.length_append, S.len, hl], I2.new hl3⟩
end
end K25.Dd
set_option Elab.async false
set_option linter.all false
set_option maxRecDepth 100000
set_option maxHeartbeats 1000000
namespace K25
open PySem PySem.Spec PyProof.Rows L2 KD
open C8 (Cal Def cal0 pe_c fnBody fnScope fnArgs)
theorem take_form {d : PyData} (h : namedPairB d = true) (h2 : secondB kindB d = true) : ∃ y k, d = .tuple [.str y, k] ∧ nameS y = true ∧ kindB k = true := by
  unfold namedPairB at h
  split at h
  · rename_i x k
    unfold nameB at h
    split at h
    · exact ⟨_, _, rfl, h, h2⟩
    · cases h
  · cases h
theorem td_two {H : Hp} {v : V} {x y : PyData} (h : Td H v (.tuple [x, y])) : ∃ a u1 u2, v = .ref a ∧ H a = some (.tup [u1, u2]) ∧ Td H u1 x ∧ Td H u2 y := by
  cases h with
  | tup hq ha =>
    cases ha with
    | cons h1 t1 =>
      cases t1 with
      | cons h2 t2 =>
        cases t2
        exact ⟨_, _, _, rfl, hq, h1, h2⟩
theorem td_str {H : Hp} {v : V} {z : Str} (h : Td H v (.str z)) : v = .str z := by
  cases h
  rfl
section
variable {P : Program} {w : World} {K : PySem.W.Frag} {mg : Str → Option Value} {base : Heap}
abbrev sLAnywhere : Stmt := topS 54
abbrev NLAnywhere : List Str := ["_law_pot_here", "_law_part_here", "_law_found", "_law_takes", "_law_gives", "_law_rows", "_law_at", "_law_other", "_law_more", "_law_thing", "_law_some_here", "_law_name_here", "_law_kind_here"]
theorem scLAnywhere : FnScope NLAnywhere ["_law_pot_here", "_law_part_here"] (fnScope sLAnywhere) := ⟨rfl, rfl, rfl, by decide +kernel, rfl, by decide +kernel, by decide +kernel⟩
def spAny (K : PySem.W.Frag) : Sp := fun vs H Q _ => ∃ (p : Addr) (n : Int) (v : V) (ts : List PyData) (g : PyData) (rs : List PyData), vs = [.ref p, v] ∧ Pt H p n ∧ PartIs H v ts g rs ∧
  ∀ l us ds H', H' l = some (.lst us) → l ≠ p → QhAll K p H' us ds → (∀ d ∈ ds, Sm 30 3000000 d) → ds.length ≤ 3 → Go p n H H' → Q (.ref l) H'
theorem c_anywhere (T : Tp mg) (c_LTake : Cal P w K mg base 1 "_law_take" spTake []) (c_LRowAnywhere : Cal P w K mg base 2 "_law_row_anywhere" (spRowAny K) []) {f : Addr} {fd : FuncData} (D : Def K mg "_law_anywhere" sLAnywhere f fd) (b : Binds K fd ["_law_pot_here", "_law_part_here"] []) : Cal P w K mg base 3 "_law_anywhere" (spAny K) [] := by
  refine cal0 D b .nil scLAnywhere (fun vs H Q E h => ?_) (fun cdv A outer s H vs Q E hr h => ?_)
  · obtain ⟨p, n, v, ts, g, rs, rfl, _⟩ := h
    rfl
  · obtain ⟨p, n, v, ts, g, rs, rfl, hp, hv, q⟩ := h
    have nd := scLAnywhere.nd
    refine ⟨_, (pss_cons (ps_asg (pv 1) (pg_tup (n := 3) rfl (pgs_cons (pg_name (i := 3) nd rfl (.inr rfl)) (pgs_cons (pg_name (i := 4) nd rfl (.inr rfl)) (pgs_cons (pg_name (i := 5) nd rfl (.inl rfl)) pgs_nil)))))
    (pss_cons (ps_setLc (i := 2) (own := [("_law_some_here", 10)]) (g := gName 10) rfl nd rfl rfl (sw_true rfl rfl rfl (by decide +kernel)) (pi_list (pe_c c_LRowAnywhere hr (by decide) (by rfl) (pa_cons (pv 0) (pa_cons (pv 5) pa_nil)))) (blkOk_by (own := [("_law_some_here", 10)]) (N := NLAnywhere) (sc := fnScope sLAnywhere) (by decide +kernel)) (fun _ _ _ _ _ => pg_name (i := 10) nd rfl (Or.inl rfl)) (fun _ _ _ _ _ => pts_nil) (fun _ _ _ _ _ => (pe_tup (pa_cons (pv 3) (pa_cons (pv 4) (pa_cons (pv 10) pa_nil))))))
    (pss_cons (ps_if (pt_cmpR (op_neTNil hr.units) (pv 3) (pe_tup pa_nil) (nomark _))
      (pss_cons (ps_set (i := 6) nd rfl (.inl rfl) (pe_c c_LTake hr (by decide) (by rfl) (pa_cons (pv 0) (pa_cons (pe_callB call_len_seq (by rfl) T.n_len (by decide +kernel) (pa_cons (pv 3) pa_nil)) pa_nil))))
    (pss_cons (ps_asg (pe_ix ix_tup (pv 3) (pv 6) (fun _ _ => rfl)) (pg_tup (n := 2) rfl (pgs_cons (pg_name (i := 11) nd rfl (.inl rfl)) (pgs_cons (pg_name (i := 12) nd rfl (.inl rfl)) pgs_nil))))
    (pss_cons (ps_set (i := 7) nd rfl (.inl rfl) (pe_ix ix_tup (pe_ix ix_tup (pv 3) (pe_c c_LTake hr (by decide) (by rfl) (pa_cons (pv 0) (pa_cons (pe_callB call_len_seq (by rfl) T.n_len (by decide +kernel) (pa_cons (pv 3) pa_nil)) pa_nil))) (fun _ _ => rfl)) pe_int (fun _ _ => rfl)))
    (C8.pss_cut (ps_set (i := 8) nd rfl (.inl rfl) (pe_lst (pa_cons (pe_tup (pa_cons (pv 7) (pa_cons (pv 12) pa_nil))) (pa_cons (pe_tup (pa_cons (pv 11) (pa_cons (pe_tup (pa_cons pe_str pa_nil)) pa_nil))) (pa_cons (pe_tup (pa_cons pe_str (pa_cons (pv 12) pa_nil))) (pa_cons (pe_tup (pa_cons (pv 11) pa_nil)) (pa_cons (pe_lst (pa_cons (pv 11) (pa_cons (pv 12) pa_nil))) (pa_cons (pe_tup (pa_cons (pv 11) (pa_cons (pv 12) (pa_cons (pv 12) pa_nil)))) (pa_cons (pe_tup (pa_cons (pv 12) (pa_cons (pv 11) pa_nil))) pa_nil)))))))))
    (pss_cons (ps_set (i := 9) nd rfl (.inl rfl) (pe_ix ix_list (pe_op op_cat (pv 8) (pe_lst (pa_cons (pe_tup (pa_cons (pv 11) (pa_cons (pe_tup (pa_cons pe_str (pa_cons (pv 12) pa_nil))) pa_nil))) pa_nil))) (pe_c c_LTake hr (by decide) (by rfl) (pa_cons (pv 0) (pa_cons pe_int pa_nil))) (fun _ _ => rfl)))
    (pss_one (ps_expr (pe_bm PySem.F.plainAttrs_list PySem.F.slot_list_append PySem.F.type_list_append mt_append (pv 2) (pa_cons (pe_tup (pa_cons (pe_op op_catA (pe_op op_catA (pe_slice sl_tupA (pv 3) po_none (po_some (pv 6))) (pe_tup (pa_cons (pv 9) pa_nil))) (pe_slice sl_tupA (pv 3) (po_some (pe_op op_add (pv 6) pe_int)) po_none)) (pa_cons (pv 4) (pa_cons (pv 5) pa_nil)))) pa_nil)))))))))
      pss_nil)
    (pss_one (ps_ret (pv 2)))))), ?_⟩
    obtain ⟨pa, u1, gv, u3, rfl, hpa, td1, tdg, td3⟩ := td_three hv.td
    obtain ⟨ta, rfl⟩ := td_ref td1
    obtain ⟨ra, rfl⟩ := td_ref td3
    refine ⟨_, rfl, pa, _, rfl, SqT.of hpa, rfl, _, _, rfl, _, _, rfl, _, _, rfl, rfl, ?_⟩
    refine ⟨_, rfl, _, rfl, p, n, ra, rs, rfl, hp, td3, hv.rw_, hv.rs_, hv.rl, fun l0 v1 v2 d1 d2 H1 hl0 n0 D1 D2 sm1 sm2 g1 => ⟨l0, rfl, ⟨_, SqL.of hl0⟩, ?_⟩⟩
    refine lcNL (K := K) (xs := [v1, v2]) (fun m vs H' => m = n ∧ ∃ cs : List Addr, vs = cs.map V.ref ∧ ∀ q ∈ cs.zip [v1, v2], H' q.1 = some (.tup [.ref ta, gv, q.2])) ⟨rfl, [], rfl, fun q h => nomatch h⟩ (fun e ⟨h, cs, a, b⟩ => ⟨h, cs, a, fun q hq => e _ _ (b q hq)⟩) g1.2 hl0 n0 (by show 2 ≤ 1000; decide) (fun i x n5 vs H' Q' hx hvl ⟨hm, cs, ev, hcs⟩ hp' hq => ?_) (fun l4 H2 m us n4 hD4 hat4 hul ⟨hm, cs, ev, hcs⟩ g2 => ?_)
    · subst hm
      refine ⟨_, rfl, _, rfl, _, rfl, (by show 3 ≤ sizeLine; decide), fun t ht => hq _ n5 _ ((Go.refl hp').new ht) ⟨rfl, cs ++ [t], by rw [ev, List.map_append]; rfl, fun q hq2 => ?_⟩⟩
      have hcl : cs.length = i := by rw [← hvl, ev, List.length_map]
      have old : ∀ q ∈ cs.zip [v1, v2], (upd H' t (.tup [.ref ta, gv, x])) q.1 = some (.tup [.ref ta, gv, q.2]) := fun q hq => Same.new ht _ _ (hcs q hq)
      match cs, hcl with
      | [], e =>
        subst e
        cases hx
        simp only [List.nil_append, List.zip_cons_cons, List.zip_nil_left, List.mem_singleton] at hq2
        rw [hq2]
        exact upd_same
      | [c1], e =>
        subst e
        cases hx
        simp only [List.cons_append, List.nil_append, List.zip_cons_cons, List.zip_nil_left, List.mem_cons, List.not_mem_nil, or_false] at hq2
        rcases hq2 with rfl | rfl
        · exact old _ (by simp)
        · exact upd_same
      | c1 :: c2 :: r, e =>
        subst e
        simp at hx
    · have hm2 := hm.symm
      subst hm2
      have hcl : cs.length = 2 := by
        have h2 : us.length = 2 := hul
        rw [← h2, ev, List.length_map]
      match cs, hcl with
      | [c1, c2], _ =>
        subst ev
        have hc1 : H2 c1 = some (.tup [.ref ta, gv, v1]) := hcs (c1, v1) (by simp)
        have hc2 : H2 c2 = some (.tup [.ref ta, gv, v2]) := hcs (c2, v2) (by simp)
        have g12 := g1.trans g2
        have nc1 : c1 ≠ l4 := fun z => by rw [z, hat4] at hc1; cases hc1
        have nc2 : c2 ≠ l4 := fun z => by rw [z, hat4] at hc2; cases hc2
        have hpt := g12.2
        have np1 : c1 ≠ p := fun z => by obtain ⟨x, y, a, _⟩ := hpt; rw [z, a] at hc1; cases hc1
        have np2 : c2 ≠ p := fun z => by obtain ⟨x, y, a, _⟩ := hpt; rw [z, a] at hc2; cases hc2
        have bH : ∀ {Ha : Hp}, Ha l4 = none → But p Ha H2 → But p Ha (hid l4 H2) := fun hn b c o nc e => by
          rw [hid_ne (ne_of_none e hn)]
          exact b c o nc e
        have hD0 : H l4 = none := g1.fresh hD4
        have b0 := bH hD0 g12.1
        have b1 := bH hD4 g2.1
        have Qt : Qh K p (hid l4 H2) (.ref ta) (.tuple ts) := (Td.q hp td1).but b0
        have Qg : Qh K p (hid l4 H2) gv g := (Td.q hp tdg).but b0
        have Qr : Qh K p (hid l4 H2) (.ref ra) (.tuple rs) := (Td.q hp td3).but b0
        have Q1 : Qh K p (hid l4 H2) v1 d1 := D1.but b1
        have Q2 : Qh K p (hid l4 H2) v2 d2 := D2.but b1
        have Qc1 : Qh K p (hid l4 H2) (.ref c1) (.tuple [.tuple ts, g, d1]) := .tup (SqT.of (by rw [hid_ne np1, hid_ne nc1]; exact hc1)) (.cons Qt (.cons Qg (.cons Q1 .nil)))
        have Qc2 : Qh K p (hid l4 H2) (.ref c2) (.tuple [.tuple ts, g, d2]) := .tup (SqT.of (by rw [hid_ne np2, hid_ne nc2]; exact hc2)) (.cons Qt (.cons Qg (.cons Q2 .nil)))
        have smT : SmAll 9 483 ts := (sm_all hv.tk.sm).mono (Nat.le_refl _) (by have := hv.tk.ln; omega)
        have smR : SmAll 22 1180059 rs := (sm_all hv.rs_).mono (Nat.le_refl _) (by have := hv.rl; omega)
        have t60 : ts.length ≤ 60 := by have := hv.tk.ln; omega
        have r60 : rs.length ≤ 60 := by have := hv.rl; omega
        have st : Sm 10 483 (.tuple ts) := Sm.tup smT t60
        have sr : Sm 23 1180059 (.tuple rs) := Sm.tup smR r60
        have three : ∀ {d : PyData}, Sm 27 2500000 d → Sm 30 3000000 (.tuple [.tuple ts, g, d]) := fun h => (Sm.tup (SmAll.cons (st.mono (show 10 ≤ 27 by decide) (Nat.le_refl _)) (SmAll.cons (hv.gs.mono (by decide) (Nat.le_refl _)) (SmAll.cons h SmAll.nil))) (by show 3 ≤ 60; decide)).mono (by decide) (by decide)
        cases td1 with
        | @tup _ xs _ hta hxs =>
        have hl := hxs.len
        refine ⟨_, rfl, (by show 0 ≤ sizeLine; decide), fun e0 he0 => ⟨ta, e0, xs, rfl, rfl, ?_, SqT.of upd_same, ?_⟩⟩
        · exact SqT.of ((g12.new he0).tups hp _ _ hta)
        · have g3 := g12.new (o := .tup []) he0
          refine ⟨_, rfl, ite2 (fun e => ?_) (fun e => ?_)⟩
          · have t1 : 1 ≤ ts.length := by
              cases xs with
              | nil => cases e
              | cons x y => rw [← hl, List.length_cons]; omega
            have hta3 : (upd H2 e0 (.tup [])) ta = some (.tup xs) := g3.tups hp _ _ hta
            refine ⟨_, rfl, _, rfl, ta, xs, rfl, .inr (SqT.of hta3), p, n, (xs.length : Int), rfl, g3.2, by omega, small300 (by omega) (by omega), fun r H4 r0 r1 g4 => ?_⟩
            obtain ⟨k, rfl⟩ : ∃ k : Nat, r = (k : Int) := ⟨r.toNat, by omega⟩
            have hk : k < ts.length := by omega
            obtain ⟨wv, hwv⟩ := at_some (show k < xs.length by omega)
            obtain ⟨wd, hwd, twd⟩ := td_at hxs hwv
            have hwm := List.mem_of_getElem? hwd
            obtain ⟨y, kd, rfl, ny, kk⟩ := take_form (List.all_eq_true.mp hv.tk.nm _ hwm) (List.all_eq_true.mp hv.tk.kd _ hwm)
            obtain ⟨wa, yv, kv, rfl, hwa, ty, tk⟩ := td_two twd
            have ey := td_str ty
            subst ey
            have g14 := g3.trans g4
            refine ⟨_, rfl, _, rfl, ta, xs, _, .ref wa, rfl, rfl, SqT.of (g14.tups hp _ _ hta), atI_nat hwv, wa, _, rfl, SqT.of (g14.tups hp _ _ hwa), rfl, _, _, rfl, _, _, rfl, rfl, ?_⟩
            refine ⟨_, rfl, _, rfl, _, rfl, ta, xs, rfl, .inr (SqT.of (g14.tups hp _ _ hta)), p, n, (xs.length : Int), rfl, g14.2, by omega, small300 (by omega) (by omega), fun r2 H5 r20 r21 g5 => ?_⟩
            obtain ⟨k2, rfl⟩ : ∃ k2 : Nat, r2 = (k2 : Int) := ⟨r2.toNat, by omega⟩
            obtain ⟨zv, hzv⟩ := at_some (show k2 < xs.length by omega)
            obtain ⟨zd, hzd, tzd⟩ := td_at hxs hzv
            have hzm := List.mem_of_getElem? hzd
            obtain ⟨z, kd2, rfl, nz, kk2⟩ := take_form (List.all_eq_true.mp hv.tk.nm _ hzm) (List.all_eq_true.mp hv.tk.kd _ hzm)
            obtain ⟨wb, zv, kv2, rfl, hwb, tz, tk2⟩ := td_two tzd
            have ez := td_str tz
            subst ez
            have g15 := g14.trans g5
            refine ⟨ta, xs, _, .ref wb, rfl, rfl, SqT.of (g15.tups hp _ _ hta), atI_nat hzv, wb, _, _, .str z, rfl, rfl, SqT.of (g15.tups hp _ _ hwb), rfl, ?_⟩
            have g25 : Go p n H2 H5 := (((Go.refl g12.2).new he0).trans g4).trans g5
            obtain ⟨kn, hkn⟩ : ∃ kn, kn = [(V.ref ta, PyData.tuple ts), (gv, g), (.ref ra, .tuple rs), (.ref c1, .tuple [.tuple ts, g, d1]), (.ref c2, .tuple [.tuple ts, g, d2]), (.str y, .str y), (kv, kd), (.str z, .str z)] := ⟨_, rfl⟩
            have I2 : Dd.In K p l4 n [.ref c1, .ref c2] H kn H2 := ⟨fun v d h => by
              rw [hkn] at h
              simp only [List.mem_cons, List.not_mem_nil, or_false, Prod.mk.injEq] at h
              rcases h with ⟨rfl, rfl⟩ | ⟨rfl, rfl⟩ | ⟨rfl, rfl⟩ | ⟨rfl, rfl⟩ | ⟨rfl, rfl⟩ | ⟨rfl, rfl⟩ | ⟨rfl, rfl⟩ | ⟨rfl, rfl⟩
              · exact Qt
              · exact Qg
              · exact Qr
              · exact Qc1
              · exact Qc2
              · exact .str _
              · exact (Td.q hp tk).but b0
              · exact .str _, g12, hat4, n4⟩
            have I5 := I2.on g25
            have hT : KnT kn ta ts 9 483 7 := ⟨by rw [hkn]; simp, smT, hv.tk.ln, by decide⟩
            have sk : Sm 8 68 kd := by
              obtain ⟨w1, _, w2, h2, _⟩ := (hv.tk.sm _ hwm).els.uncons
              obtain ⟨w3, h3, w4, _, _⟩ := h2.uncons
              exact h3.mono (Nat.le_refl _) (by omega)
            have Nv : ∀ {σ : L2.St} {a : Nat}, σ[11]? = some (some (.str y)) → Dd.Item K p l4 n [.ref c1, .ref c2] H kn σ a 8 (tVar 11) := fun hs => Dd.it_var hs (by rw [hkn]; simp) (name_sm ny (Nat.le_refl _))
            have Kv : ∀ {σ : L2.St} {a : Nat}, 8 ≤ a → σ[12]? = some (some kv) → Dd.Item K p l4 n [.ref c1, .ref c2] H kn σ a 68 (tVar 12) := fun h hs => Dd.it_var hs (by rw [hkn]; simp) (sk.mono h (Nat.le_refl _))
            have Ov : ∀ {σ : L2.St} {a : Nat}, σ[7]? = some (some (.str z)) → Dd.Item K p l4 n [.ref c1, .ref c2] H kn σ a 8 (tVar 7) := fun hs => Dd.it_var hs (by rw [hkn]; simp) (name_sm nz (Nat.le_refl _))
            refine ⟨fun σ' H' => ∃ l vs ds, σ' = [some (.ref p), some (.ref pa), some (.ref l4), some (.ref ta), some gv, some (.ref ra), some (.int (k : Nat)), some (.str z), some (.ref l), none, none, some (.str y), some kv] ∧ Dd.Some_ K p l4 n [.ref c1, .ref c2] H kn 25 1000 l H' 7 vs ds, ?_, ?_⟩
            · exact Dd.start_ I5 (Dd.is_cons (Dd.it_tup (a := 22) (Dd.its_cons (Ov rfl) (Dd.its_cons (Kv (by decide) rfl) Dd.its_nil)) (by decide)) (by decide) (by decide) (Dd.is_cons (Dd.it_tup (a := 22) (Dd.its_cons (Nv rfl) (Dd.its_cons (Dd.it_tup (a := 21) (Dd.its_cons (Dd.it_str (by decide)) Dd.its_nil) (by decide)) Dd.its_nil)) (by decide)) (by decide) (by decide) (Dd.is_cons (Dd.it_tup (a := 22) (Dd.its_cons (Dd.it_str (by decide)) (Dd.its_cons (Kv (by decide) rfl) Dd.its_nil)) (by decide)) (by decide) (by decide) (Dd.is_cons (Dd.it_tup (a := 22) (Dd.its_cons (Nv rfl) Dd.its_nil) (by decide)) (by decide) (by decide) (Dd.is_cons (Dd.it_lst (a := 22) (Dd.its_cons (Nv rfl) (Dd.its_cons (Kv (by decide) rfl) Dd.its_nil)) (by decide)) (by decide) (by decide) (Dd.is_cons (Dd.it_tup (a := 22) (Dd.its_cons (Nv rfl) (Dd.its_cons (Kv (by decide) rfl) (Dd.its_cons (Kv (by decide) rfl) Dd.its_nil))) (by decide)) (by decide) (by decide) (Dd.is_cons (Dd.it_tup (a := 22) (Dd.its_cons (Kv (by decide) rfl) (Dd.its_cons (Nv rfl) Dd.its_nil)) (by decide)) (by decide) (by decide) Dd.is_nil))))))) (by decide) (fun l vs ds H' S => ⟨l, vs, ds, rfl, S⟩)
            rintro σ7 H7 ⟨l7, vs7, ds7, rfl, S7⟩
            have It8 : Dd.Its K p l4 n [.ref c1, .ref c2] H kn [some (.ref p), some (.ref pa), some (.ref l4), some (.ref ta), some gv, some (.ref ra), some (.int (k : Nat)), some (.str z), some (.ref l7), none, none, some (.str y), some kv] 25 1000 1 _ := (Dd.is_cons (Dd.it_tup (a := 22) (Dd.its_cons (Nv rfl) (Dd.its_cons (Dd.it_tup (a := 21) (Dd.its_cons (Dd.it_str (z := "list") (by decide)) (Dd.its_cons (Kv (by decide) rfl) Dd.its_nil)) (by decide)) Dd.its_nil)) (by decide)) (by decide) (by decide) Dd.is_nil)
            refine Dd.grow S7 rfl It8 (by decide) (fun l8 vs8 ds8 H8 S8 => ?_)
            have hlv := S8.dat.len
            have hN := S8.len
            refine ⟨_, rfl, p, n, 8, rfl, S8.inn.go.2, by decide, by decide, fun r9 H9 r90 r91 g9 => ?_⟩
            obtain ⟨k9, rfl⟩ : ∃ k9 : Nat, r9 = (k9 : Int) := ⟨r9.toNat, by omega⟩
            obtain ⟨v, hv9⟩ := at_some (show k9 < vs8.length by omega)
            obtain ⟨d, hd, Dv⟩ := S8.dat.at hv9
            refine ⟨l8, vs8, _, v, rfl, rfl, SqL.of (g9.at S8.ne S8.at_), atI_nat hv9, ?_⟩
            have okd := S8.ok d (List.mem_of_getElem? hd)
            have I9 : Dd.In K p l4 n [.ref c1, .ref c2] H ((v, d) :: kn) H9 := ⟨fun v' d' h => by
              rcases List.mem_cons.mp h with h | h
              · cases h
                exact Dv.but (Dd.hb g9.1)
              · exact (S8.inn.on g9).kn _ _ h, (S8.inn.on g9).go, (S8.inn.on g9).at_, n4⟩
            have hT9 : KnT ((v, d) :: kn) ta ts 9 483 7 := ⟨List.mem_cons_of_mem _ hT.hk, hT.ok, hT.ln, hT.l1000⟩
            have hv9' : (v, d) ∈ (v, d) :: kn := List.mem_cons_self
            have t7 := hv.tk.ln
            refine ⟨_, rfl, .inl ⟨rfl, _, SqL.of I9.at_⟩, ?_⟩
            have It9 : Dd.Item K p l4 n [.ref c1, .ref c2] H ((v, d) :: kn) [some (.ref p), some (.ref pa), some (.ref l4), some (.ref ta), some gv, some (.ref ra), some (.int (k : Nat)), some (.str z), some (.ref l7), some v, none, some (.str y), some kv] 28 _ _ := (Dd.it_tup (a := 27) (Dd.its_cons (Dd.it_ofT (a := 26) (Dd.itT_cat (Dd.itT_cat (Dd.itT_pre (i := 3) (j := 6) rfl rfl hT9 hk (show 9 ≤ 26 by decide)) (Dd.itT_tup (Dd.its_cons (Dd.it_var (i := 9) rfl hv9' (okd.mono (show 25 ≤ 26 by decide) (Nat.le_refl _))) Dd.its_nil)) (by omega)) (Dd.itT_post (i := 3) (j := 6) rfl rfl hT9 hk (show 9 ≤ 26 by decide)) (by omega)) (by omega)) (Dd.its_cons (Dd.it_var (i := 4) (v := gv) (d := g) (W := 58) rfl (List.mem_cons_of_mem _ (by rw [hkn]; simp)) (hv.gs.mono (by decide) (Nat.le_refl _))) (Dd.its_cons (Dd.it_var (i := 5) (v := .ref ra) (d := .tuple rs) (W := 1180059) rfl (List.mem_cons_of_mem _ (by rw [hkn]; simp)) (sr.mono (by decide) (Nat.le_refl _))) Dd.its_nil))) (by decide))
            refine It9 H9 _ I9 fun va da H10 oka Da I10 b10 => ?_
            refine ⟨l4, _, _, rfl, rfl, I10.at_, (by show 2 < sizeLine; decide), ?_⟩
            refine ⟨_, rfl, q l4 _ [_, _, _] _ upd_same n4 (.cons (I10.out (I10.kn (.ref c1) (.tuple [.tuple ts, g, d1]) (List.mem_cons_of_mem _ (by rw [hkn]; simp)))) (.cons (I10.out (I10.kn (.ref c2) (.tuple [.tuple ts, g, d2]) (List.mem_cons_of_mem _ (by rw [hkn]; simp)))) (.cons (I10.out Da) .nil))) (fun x hx => ?_) (by show 3 ≤ 3; decide) ⟨fun b o nb e => ?_, ?_⟩⟩
            · simp only [List.mem_cons, List.not_mem_nil, or_false] at hx
              rcases hx with rfl | rfl | rfl
              · exact three sm1
              · exact three sm2
              · exact oka.mono (by decide) (by decide)
            · rw [upd_ne (ne_of_none e hD0)]
              exact I10.go.1 b o nb e
            · obtain ⟨x, y, a, r⟩ := I10.go.2
              exact ⟨x, y, by rw [upd_ne n4.symm]; exact a, r⟩
          · have bF : But p (hid l4 H2) (upd H2 e0 (.tup [])) := fun b o nb e => Same.new he0 _ _ (hid_some e).2
            refine ⟨_, rfl, q l4 _ [_, _] _ (Same.new he0 _ _ hat4) n4 (.cons (Qc1.but bF) (.cons (Qc2.but bF) .nil)) (fun x hx => ?_) (by show 2 ≤ 3; decide) g3⟩
            simp only [List.mem_cons, List.not_mem_nil, or_false] at hx
            rcases hx with rfl | rfl
            · exact three sm1
            · exact three sm2
end
end K25
set_option Elab.async false
set_option linter.all false
set_option maxRecDepth 100000
set_option maxHeartbeats 1500000
namespace K25
open PySem PySem.Spec PyProof.Rows L2 KD
open C8 (Cal Def cal0 pe_c fnBody fnScope fnArgs)
theorem cut_8 (ns : List Int) : ∃ ms : List Int, cutV (ns.map V.int) none (some 8) = ms.map V.int ∧ ms.length ≤ ns.length := by
  unfold cutV
  refine ⟨(ns.drop (HT.sIx (ns.map V.int).length 0 none)).take (HT.sIx (ns.map V.int).length (ns.map V.int).length (some 8) - HT.sIx (ns.map V.int).length 0 none), ?_, ?_⟩
  · simp [List.map_take, List.map_drop]
  · simp only [List.length_take, List.length_drop, List.length_map]
    omega
theorem cut_mem {xs : List V} {a b : Option Int} {x : V} (h : x ∈ cutV xs a b) : x ∈ xs := by
  unfold cutV at h
  exact List.mem_of_mem_drop (List.mem_of_mem_take h)
theorem cut_len {xs : List V} {a b : Option Int} : (cutV xs a b).length ≤ xs.length := by
  unfold cutV
  rw [List.length_take, List.length_drop]
  omega
theorem int_of {ms : List Int} {x : V} (h : x ∈ ms.map V.int) : ∃ n, x = .int n := by
  obtain ⟨n, _, e⟩ := List.mem_map.mp h
  exact ⟨n, e.symm⟩
theorem bool_shown (b : Bool) : shownB (.bool b) := by
  cases b
  · exact ⟨by decide +kernel, by decide +kernel, by decide +kernel⟩
  · exact ⟨by decide +kernel, by decide +kernel, by decide +kernel⟩
theorem ne_self {x : V} : (!decide (x = x)) = false := by rw [decide_eq_true rfl]; rfl
theorem PartIs.mono {H H' : Hp} {v : V} {ts : List PyData} {g : PyData} {rs : List PyData} (h : PartIs H v ts g rs) (e : TupS H H') : PartIs H' v ts g rs := { h with td := Td.mono e h.td }
theorem qh_at {K : PySem.W.Frag} {p : Addr} {H : Hp} : ∀ {vs : List V} {ds : List PyData} {x : V}, QhAll K p H vs ds → x ∈ vs → ∃ d, d ∈ ds ∧ Qh K p H x d
  | _, _, _, .nil, h => nomatch h
  | _, _, x, .cons a t, h => by
    rcases List.mem_cons.mp h with rfl | h
    · exact ⟨_, List.mem_cons_self, a⟩
    · obtain ⟨d, hd, q⟩ := qh_at t h
      exact ⟨d, List.mem_cons_of_mem _ hd, q⟩
section
variable {P : Program} {w : World} {K : PySem.W.Frag} {mg : Str → Option Value} {base : Heap}
/-- a thing to be looked at -/
def Thing (K : PySem.W.Frag) (p : Addr) (H : Hp) (v : V) : Prop := ∃ d, Qh K p H v d ∧ Sm 30 3000000 d
theorem Thing.but {p : Addr} {H H' : Hp} {v : V} (h : Thing K p H v) (e : But p H H') : Thing K p H' v := let ⟨d, a, b⟩ := h; ⟨d, a.but e, b⟩
abbrev sLaw : Stmt := topS 55
abbrev NLaw : List Str := ["_law_script", "_law_cell_here", "_law_pot_here", "_law_part_here", "_law_things", "_law_thing"]
theorem scLaw : FnScope NLaw ["_law_script"] (fnScope sLaw) := ⟨rfl, rfl, rfl, by decide +kernel, rfl, by decide +kernel, by decide +kernel⟩
def spLaw (K : PySem.W.Frag) : Sp := fun vs H Q _ => ∃ (a : Addr) (ns : List Int), vs = [.ref a] ∧ SqL K H a (ns.map V.int) ∧ ns.length ≤ 63 ∧ ∀ H', Q (.bl true) H'
theorem f_law (T : Tp mg) (c_LCell : Cal P w K mg base 1 "_law_cell" (spCell K) []) (c_LPot : Cal P w K mg base 1 "_law_pot" spPot []) (c_LPart : Cal P w K mg base 25 "_law_part" spPart [])
    (c_LMade : Cal P w K mg base 2 "_law_made" (spMade K) []) (c_LAnywhere : Cal P w K mg base 3 "_law_anywhere" (spAny K) []) (c_PIsPart : Cal P w K mg base 9 "is_part" (spS K partB) []) (c_LIsPart : Cal P w K mg base 46 "_law_is_part" (spF K partB 40) [])
    {f : Addr} {fd : FuncData} (D : Def K mg "law" sLaw f fd) : FnG P w K mg base C8.CX0 47 f fd ["_law_script"] (spLaw K) := by
  refine fnG0 D scLaw (fun vs H Q E h => ?_) (fun cdv A outer s H vs Q E hg hr h => ?_)
  · obtain ⟨a, ns, rfl, _⟩ := h
    rfl
  · obtain ⟨a, ns, rfl, hS, hn, q⟩ := h
    have nd := scLaw.nd
    refine ⟨_, (pss_cons (ps_for PassesOwn.never rfl (pi_list (pe_op op_cat (pe_lst (pa_cons (pe_op op_add (pe_c c_LCell hr (by decide) (by rfl) (pa_cons (pv 0) (pa_cons pe_int pa_nil))) (pe_op op_mul pe_int (pe_callB call_len_seq (by rfl) T.n_len (by decide +kernel) (pa_cons (pv 0) pa_nil)))) pa_nil)) (pe_slice sl_list (pv 0) po_none (po_some pe_int)))) (pg_name (i := 1) nd rfl (.inl rfl))
      (pss_cons (ps_set (i := 2) nd rfl (.inl rfl) (pe_c c_LPot hr (by decide) (by rfl) (pa_cons (pv 1) pa_nil)))
    (pss_cons (ps_set (i := 3) nd rfl (.inl rfl) (pe_c c_LPart hr (by decide) (by rfl) (pa_cons (pv 2) (pa_cons (pe_lst pa_nil) (pa_cons pe_int (pa_cons pe_int pa_nil))))))
    (pss_cons (ps_if (pt_not (pt_val (pe_c c_PIsPart hr (by decide) (by rfl) (pa_cons (pv 3) pa_nil))))
      (pss_one (ps_ret pe_bl))
      pss_nil)
    (pss_cons (ps_set (i := 4) nd rfl (.inl rfl) (pe_op op_cat (pe_c c_LMade hr (by decide) (by rfl) (pa_cons (pv 2) (pa_cons (pv 3) pa_nil))) (pe_c c_LAnywhere hr (by decide) (by rfl) (pa_cons (pv 2) (pa_cons (pv 3) pa_nil)))))
    (pss_one (ps_for PassesOwn.never rfl (pi_list (pe_op op_cat (pe_op op_cat (pv 4) (pe_slice sl_list (pv 4) po_none (po_some pe_int))) (pe_lst (pa_cons (pv 3) pa_nil)))) (pg_name (i := 5) nd rfl (.inl rfl))
      (pss_one (ps_if (pt_cmpR op_ne (pe_callB (call_reprD hg (hrep_of hr)) (by rfl) T.n_repr (by decide +kernel) (pa_cons (pe_c c_PIsPart hr (by decide) (by rfl) (pa_cons (pv 5) pa_nil)) pa_nil)) (pe_callB (call_reprD hg (hrep_of hr)) (by rfl) T.n_repr (by decide +kernel) (pa_cons (pe_c c_LIsPart hr (by decide) (by rfl) (pa_cons (pv 5) pa_nil)) pa_nil)) (nomark _))
      (pss_one (ps_ret pe_bl))
      pss_nil)))))))))
    (pss_one (ps_ret pe_bl))), ?_⟩
    have hlen : (ns.map V.int).length = ns.length := List.length_map ..
    refine ⟨_, rfl, a, ns, 8, rfl, hS, by omega, fun n0 H2 s2 => ?_⟩
    have hS2 := sqL_same hS s2
    refine ⟨_, rfl, a, _, rfl, .inl hS2, _, _, rfl, rfl, .inl ⟨by omega, by omega⟩, _, _, rfl, rfl, (by show 1 ≤ sizeLine; decide), fun l1 hl1 => ?_⟩
    obtain ⟨ms, ems, lms⟩ := cut_8 ns
    refine ⟨_, rfl, 8, rfl, a, _, rfl, sqL_same hS2 (Same.new hl1), fun l2 hl2 => ?_⟩
    rw [ems]
    refine ⟨l1, l2, _, _, rfl, rfl, by rw [upd_ne (ne_new hl2), upd_same], upd_same, ?_, fun lc hlc => ⟨lc, rfl, ⟨_, SqL.of upd_same⟩, ?_⟩⟩
    · rw [sizeLine_eq]
      simp only [List.length_cons, List.length_nil, List.length_map]
      omega
    · refine for_list (K := K) (xs := [.int (n0 + 7 * ((ns.map V.int).length : Nat))] ++ ms.map V.int) (fun i σ H' => ∃ (v1 v2 v3 v4 v5 : Option V), σ = [some (.ref a), v1, v2, v3, v4, v5] ∧ H' lc = some (.lst ([.int (n0 + 7 * ((ns.map V.int).length : Nat))] ++ ms.map V.int)))
        ⟨_, _, _, _, _, rfl, upd_same⟩ (fun i σ H' _ hW => ?_) (fun i x σ H' hx hW => ?_) (fun σ H' hW => q H')
      · obtain ⟨v1, v2, v3, v4, v5, rfl, hc⟩ := hW
        exact SqL.of hc
      · obtain ⟨v1, v2, v3, v4, v5, rfl, hc⟩ := hW
        obtain ⟨n, rfl⟩ : ∃ n, x = .int n := by
          have hm := List.mem_of_getElem? hx
          rcases List.mem_append.mp hm with z | z
          · exact ⟨_, List.mem_singleton.mp z⟩
          · exact int_of z
        generalize ([.int (n0 + 7 * ((ns.map V.int).length : Nat))] ++ ms.map V.int : List V) = cs at *
        refine ⟨_, rfl, n, rfl, fun p H3 hp s3 hP => ?_⟩
        have ncp : lc ≠ p := ne_some hc hp
        have hc3 := s3 _ _ hc
        refine ⟨_, rfl, (by show 0 ≤ sizeLine; decide), fun mk hmk => ?_⟩
        have ncm : lc ≠ mk := ne_some hc3 hmk
        refine ⟨p, mk, 0, rfl, hP.new hmk, upd_same, hP.ne hmk, fun v ts g rs n1 H4 PI hP4 b4 => ?_⟩
        have hc4 := b4 _ _ ncp ncm (Same.new hmk _ _ hc3)
        have Sm1 : Sm 30 3000000 (.tuple [.tuple ts, g, .tuple rs]) := by
          have smT : SmAll 9 483 ts := (sm_all PI.tk.sm).mono (Nat.le_refl _) (by have := PI.tk.ln; omega)
          have smR : SmAll 22 1180059 rs := (sm_all PI.rs_).mono (Nat.le_refl _) (by have := PI.rl; omega)
          exact (Sm.tup (SmAll.cons ((Sm.tup smT (by have := PI.tk.ln; omega)).mono (show 10 ≤ 23 by decide) (Nat.le_refl _)) (SmAll.cons (PI.gs.mono (by decide) (Nat.le_refl _)) (SmAll.cons (Sm.tup smR (by have := PI.rl; omega)) SmAll.nil))) (by show 3 ≤ 60; decide)).mono (by decide) (by decide)
        have Q4 := Td.q (K := K) hP4 PI.td
        refine ⟨_, rfl, v, _, rfl, Q4.un, Sm1.sml (by decide), Sm1.sl, fun H5 s5 => ⟨_, rfl, iteF' (by rw [PI.ok]; rfl) ?_⟩⟩
        have P5 := PI.mono (TupS.same s5)
        have hP5 := hP4.same s5
        refine ⟨_, rfl, _, rfl, p, n1, v, ts, g, rs, rfl, hP5, P5, fun m1 us1 ds1 H6 at1 ne1 D1 ok1 ln1 g6 => ?_⟩
        refine ⟨_, rfl, _, rfl, p, n1, v, ts, g, rs, rfl, g6.2, P5.mono (g6.tups hP5), fun m2 us2 ds2 H7 at2 ne2 D2 ok2 ln2 g7 => ?_⟩
        have e1 := D1.len
        have e2 := D2.len
        refine ⟨m1, m2, us1, us2, rfl, rfl, g7.at ne1 at1, at2, by rw [sizeLine_eq]; omega, fun m3 h3 => ?_⟩
        have g57 := g6.trans g7
        have Q7 : Qh K p H7 v (.tuple [.tuple ts, g, .tuple rs]) := (Q4.but (But.same s5)).but g57.1
        have hc7 := g57.at ncp (s5 _ _ hc4)
        have all7 : ∀ x ∈ us1 ++ us2, Thing K p H7 x := fun x hx => by
          rcases List.mem_append.mp hx with hx | hx
          · obtain ⟨d, hd, z⟩ := qh_at D1 hx
            exact ⟨d, z.but g7.1, ok1 d hd⟩
          · obtain ⟨d, hd, z⟩ := qh_at D2 hx
            exact ⟨d, z, ok2 d hd⟩
        have lxs : (us1 ++ us2).length ≤ 43 := by rw [List.length_append]; omega
        have at8 : (upd H7 m3 (.lst (us1 ++ us2))) m3 = some (.lst (us1 ++ us2)) := upd_same
        have s78 : Same H7 (upd H7 m3 (.lst (us1 ++ us2))) := Same.new h3
        generalize us1 ++ us2 = xs at *
        generalize upd H7 m3 (.lst xs) = H8 at *
        have lcut : (cutV xs none (some 3)).length ≤ xs.length := cut_len
        refine ⟨_, rfl, _, rfl, 3, rfl, m3, _, rfl, SqL.of at8, fun m4 h4 => ?_⟩
        have s89 := s78.trans (Same.new (o := .lst (cutV xs none (some 3))) h4)
        refine ⟨m3, m4, _, _, rfl, rfl, Same.new h4 _ _ at8, upd_same, by rw [sizeLine_eq]; omega, fun m5 h5 => ?_⟩
        have s9 := s89.trans (Same.new (o := .lst (xs ++ cutV xs none (some 3))) h5)
        refine ⟨_, rfl, (by show 1 ≤ sizeLine; decide), fun m6 h6 => ?_⟩
        have s10 := s9.trans (Same.new (o := .lst [v]) h6)
        refine ⟨m5, m6, _, _, rfl, rfl, Same.new h6 _ _ upd_same, upd_same, by rw [sizeLine_eq, List.length_append, List.length_singleton]; omega, fun lq hlq => ⟨lq, rfl, ⟨_, SqL.of upd_same⟩, ?_⟩⟩
        have s11 := s10.trans (Same.new (o := .lst (xs ++ cutV xs none (some 3) ++ [v])) hlq)
        have all9 : ∀ x ∈ xs ++ cutV xs none (some 3) ++ [v], Thing K p H7 x := fun x hx => by
          rcases List.mem_append.mp hx with hx | hx
          · rcases List.mem_append.mp hx with hx | hx
            · exact all7 x hx
            · exact all7 x (cut_mem hx)
          · rw [List.mem_singleton.mp hx]
            exact ⟨_, Q7, Sm1⟩
        generalize xs ++ cutV xs none (some 3) ++ [v] = ys at *
        refine for_list (K := K) (xs := ys) (fun i σ H' => (∃ o, σ = [some (.ref a), some (.int n), some (.ref p), some v, some (.ref m3), o]) ∧ Same H7 H' ∧ H' lq = some (.lst ys))
          ⟨⟨_, rfl⟩, s11, upd_same⟩ (fun i σ H' _ hW => SqL.of hW.2.2) (fun i x σ H' hx hW => ?_) (fun σ H' hW => ?_)
        · obtain ⟨⟨o, rfl⟩, sm9, hq9⟩ := hW
          obtain ⟨dx, Dx, smx⟩ : Thing K p H7 x := all9 x (List.mem_of_getElem? hx)
          have Dx' : Dq K H' x dx := (Dq.un Dx).mono sm9
          refine ⟨_, rfl, x, dx, rfl, Dx', smx.sml (by decide), smx.sl, fun H10 s10 => ⟨.bl (partB dx), .bool (partB dx), rfl, .bl _, bool_shown _, ?_⟩⟩
          refine ⟨_, rfl, x, dx, rfl, Dx'.mono s10, smx.sml (by decide), smx.sl, Nat.lt_of_le_of_lt smx.dep (by decide), fun H11 s11 => ⟨.bl (partB dx), .bool (partB dx), rfl, .bl _, bool_shown _, ?_⟩⟩
          refine ⟨rfl, _, rfl, iteF' ne_self ?_⟩
          exact ⟨⟨_, rfl⟩, (sm9.trans s10).trans s11, s11 _ _ (s10 _ _ hq9)⟩
        · obtain ⟨⟨o, rfl⟩, sm9, hq9⟩ := hW
          exact ⟨_, _, _, _, _, rfl, sm9 _ _ hc7⟩
end
end K25
set_option Elab.async false
set_option linter.all false
set_option maxRecDepth 100000
set_option maxHeartbeats 8000000
namespace K25
open PySem PySem.Spec PyProof.Rows L2
open C8 (Cal Def cal0 pe_c fnBody fnScope fnArgs)
/-- a def of the module's top -/
theorem def_mk {K : PySem.W.Frag} {h : Heap} {mg : Str → Option Value} (X : K.In h) (G : h.Ns mainGlobals mg) {x : Str} {st : Stmt} {f : Addr} {oc : Value} {od an : Option Addr} {osl : Array (Option Value)} {kV doc pm cdv ct : Value}
    (a : PySem.W.nsIn K mainGlobals x = some (some (.ref f)))
    (l : K.lookup f = some ⟨oc, od, .func (PySem.W.fnOf x x (fnArgs st) (fnBody st) (fnScope st) .none kV doc pm an cdv ct), osl⟩)
    (c : PySem.W.codeIn K cdv x = true) (k : PySem.W.keepIn K (.ref f) = true) : Def K mg x st f (PySem.W.fnOf x x (fnArgs st) (fnBody st) (fnScope st) .none kV doc pm an cdv ct) :=
  ⟨⟨⟨oc, od, .none, kV, doc, pm, an, cdv, ct, osl, rfl, l, c⟩⟩, PySem.W.mg_of X G a, k⟩
theorem all_mk {l : PySem.W.OpenLaw} {w : World} {K : PySem.W.Frag} {h : Heap} {mg : Str → Option Value} {fa : Addr} (X : K.In h) (G : h.Ns mainGlobals mg) (hfa : mg "law" = some (.ref fa))
    {f1 : Addr} {od1 an1 : Option Addr} {sl1 : Array (Option Value)} {oc1 kV1 dc1 pm1 cd1 ct1 : Value}
    {f2 : Addr} {od2 an2 : Option Addr} {sl2 : Array (Option Value)} {oc2 kV2 dc2 pm2 cd2 ct2 : Value}
    {f3 : Addr} {od3 an3 : Option Addr} {sl3 : Array (Option Value)} {oc3 kV3 dc3 pm3 cd3 ct3 : Value}
    {f4 : Addr} {od4 an4 : Option Addr} {sl4 : Array (Option Value)} {oc4 kV4 dc4 pm4 cd4 ct4 : Value}
    {f5 : Addr} {od5 an5 : Option Addr} {sl5 : Array (Option Value)} {oc5 kV5 dc5 pm5 cd5 ct5 : Value}
    {f6 : Addr} {od6 an6 : Option Addr} {sl6 : Array (Option Value)} {oc6 kV6 dc6 pm6 cd6 ct6 : Value}
    {f7 : Addr} {od7 an7 : Option Addr} {sl7 : Array (Option Value)} {oc7 kV7 dc7 pm7 cd7 ct7 : Value}
    {f8 : Addr} {od8 an8 : Option Addr} {sl8 : Array (Option Value)} {oc8 kV8 dc8 pm8 cd8 ct8 : Value}
    {f9 : Addr} {od9 an9 : Option Addr} {sl9 : Array (Option Value)} {oc9 kV9 dc9 pm9 cd9 ct9 : Value}
    {f10 : Addr} {od10 an10 : Option Addr} {sl10 : Array (Option Value)} {oc10 kV10 dc10 pm10 cd10 ct10 : Value}
    {f11 : Addr} {od11 an11 : Option Addr} {sl11 : Array (Option Value)} {oc11 kV11 dc11 pm11 cd11 ct11 : Value}
    {f12 : Addr} {od12 an12 : Option Addr} {sl12 : Array (Option Value)} {oc12 kV12 dc12 pm12 cd12 ct12 : Value}
    {f13 : Addr} {od13 an13 : Option Addr} {sl13 : Array (Option Value)} {oc13 kV13 dc13 pm13 cd13 ct13 : Value}
    {f14 : Addr} {od14 an14 : Option Addr} {sl14 : Array (Option Value)} {oc14 kV14 dc14 pm14 cd14 ct14 : Value}
    {f15 : Addr} {od15 an15 : Option Addr} {sl15 : Array (Option Value)} {oc15 kV15 dc15 pm15 cd15 ct15 : Value}
    {f16 : Addr} {od16 an16 : Option Addr} {sl16 : Array (Option Value)} {oc16 kV16 dc16 pm16 cd16 ct16 : Value}
    {f17 : Addr} {od17 an17 : Option Addr} {sl17 : Array (Option Value)} {oc17 kV17 dc17 pm17 cd17 ct17 : Value}
    {f18 : Addr} {od18 an18 : Option Addr} {sl18 : Array (Option Value)} {oc18 kV18 dc18 pm18 cd18 ct18 : Value}
    {f19 : Addr} {od19 an19 : Option Addr} {sl19 : Array (Option Value)} {oc19 kV19 dc19 pm19 cd19 ct19 : Value}
    {f20 : Addr} {od20 an20 : Option Addr} {sl20 : Array (Option Value)} {oc20 kV20 dc20 pm20 cd20 ct20 : Value}
    {f21 : Addr} {od21 an21 : Option Addr} {sl21 : Array (Option Value)} {oc21 kV21 dc21 pm21 cd21 ct21 : Value}
    {f22 : Addr} {od22 an22 : Option Addr} {sl22 : Array (Option Value)} {oc22 kV22 dc22 pm22 cd22 ct22 : Value}
    {f23 : Addr} {od23 an23 : Option Addr} {sl23 : Array (Option Value)} {oc23 kV23 dc23 pm23 cd23 ct23 : Value}
    {f24 : Addr} {od24 an24 : Option Addr} {sl24 : Array (Option Value)} {oc24 kV24 dc24 pm24 cd24 ct24 : Value}
    {f25 : Addr} {od25 an25 : Option Addr} {sl25 : Array (Option Value)} {oc25 kV25 dc25 pm25 cd25 ct25 : Value}
    {f26 : Addr} {od26 an26 : Option Addr} {sl26 : Array (Option Value)} {oc26 kV26 dc26 pm26 cd26 ct26 : Value}
    {f27 : Addr} {od27 an27 : Option Addr} {sl27 : Array (Option Value)} {oc27 kV27 dc27 pm27 cd27 ct27 : Value}
    {f28 : Addr} {od28 an28 : Option Addr} {sl28 : Array (Option Value)} {oc28 kV28 dc28 pm28 cd28 ct28 : Value}
    {f29 : Addr} {od29 an29 : Option Addr} {sl29 : Array (Option Value)} {oc29 kV29 dc29 pm29 cd29 ct29 : Value}
    {f30 : Addr} {od30 an30 : Option Addr} {sl30 : Array (Option Value)} {oc30 kV30 dc30 pm30 cd30 ct30 : Value}
    {f31 : Addr} {od31 an31 : Option Addr} {sl31 : Array (Option Value)} {oc31 kV31 dc31 pm31 cd31 ct31 : Value}
    {f32 : Addr} {od32 an32 : Option Addr} {sl32 : Array (Option Value)} {oc32 kV32 dc32 pm32 cd32 ct32 : Value}
    {f33 : Addr} {od33 an33 : Option Addr} {sl33 : Array (Option Value)} {oc33 kV33 dc33 pm33 cd33 ct33 : Value}
    {f34 : Addr} {od34 an34 : Option Addr} {sl34 : Array (Option Value)} {oc34 kV34 dc34 pm34 cd34 ct34 : Value}
    {f35 : Addr} {od35 an35 : Option Addr} {sl35 : Array (Option Value)} {oc35 kV35 dc35 pm35 cd35 ct35 : Value}
    {f36 : Addr} {od36 an36 : Option Addr} {sl36 : Array (Option Value)} {oc36 kV36 dc36 pm36 cd36 ct36 : Value}
    {f37 : Addr} {od37 an37 : Option Addr} {sl37 : Array (Option Value)} {oc37 kV37 dc37 pm37 cd37 ct37 : Value}
    {f38 : Addr} {od38 an38 : Option Addr} {sl38 : Array (Option Value)} {oc38 kV38 dc38 pm38 cd38 ct38 : Value}
    {f39 : Addr} {od39 an39 : Option Addr} {sl39 : Array (Option Value)} {oc39 kV39 dc39 pm39 cd39 ct39 : Value}
    {f40 : Addr} {od40 an40 : Option Addr} {sl40 : Array (Option Value)} {oc40 kV40 dc40 pm40 cd40 ct40 : Value}
    {f41 : Addr} {od41 an41 : Option Addr} {sl41 : Array (Option Value)} {oc41 kV41 dc41 pm41 cd41 ct41 : Value}
    {f42 : Addr} {od42 an42 : Option Addr} {sl42 : Array (Option Value)} {oc42 kV42 dc42 pm42 cd42 ct42 : Value}
    {u_LONGEST_NAME u_NUMBERS u_MOST_LISTED : Value}
    {p_KEPT_WORDS : Addr} {od_KEPT_WORDS : Option Addr} {oi_KEPT_WORDS : Array Value} {on_KEPT_WORDS : Nat} {os_KEPT_WORDS : Array (Option Value)}
    {p_LEAVES : Addr} {od_LEAVES : Option Addr} {oi_LEAVES : Array Value} {on_LEAVES : Nat} {os_LEAVES : Array (Option Value)}
    {p_SORTS : Addr} {es_SORTS : Array DictEntry} {on_SORTS : Nat}
    {e_SORTS_1 : Addr} {od_SORTS_1 : Option Addr} {oi_SORTS_1 : Array Value} {on_SORTS_1 : Nat} {os_SORTS_1 : Array (Option Value)}
    {e_SORTS_2 : Addr} {od_SORTS_2 : Option Addr} {oi_SORTS_2 : Array Value} {on_SORTS_2 : Nat} {os_SORTS_2 : Array (Option Value)}
    {e_SORTS_3 : Addr} {od_SORTS_3 : Option Addr} {oi_SORTS_3 : Array Value} {on_SORTS_3 : Nat} {os_SORTS_3 : Array (Option Value)}
    {e_SORTS_4 : Addr} {od_SORTS_4 : Option Addr} {oi_SORTS_4 : Array Value} {on_SORTS_4 : Nat} {os_SORTS_4 : Array (Option Value)}
    {e_SORTS_5 : Addr} {od_SORTS_5 : Option Addr} {oi_SORTS_5 : Array Value} {on_SORTS_5 : Nat} {os_SORTS_5 : Array (Option Value)}
    {e_SORTS_6 : Addr} {od_SORTS_6 : Option Addr} {oi_SORTS_6 : Array Value} {on_SORTS_6 : Nat} {os_SORTS_6 : Array (Option Value)}
    {e_SORTS_7 : Addr} {od_SORTS_7 : Option Addr} {oi_SORTS_7 : Array Value} {on_SORTS_7 : Nat} {os_SORTS_7 : Array (Option Value)}
    {e_SORTS_8 : Addr} {od_SORTS_8 : Option Addr} {oi_SORTS_8 : Array Value} {on_SORTS_8 : Nat} {os_SORTS_8 : Array (Option Value)}
    {e_SORTS_9 : Addr} {od_SORTS_9 : Option Addr} {oi_SORTS_9 : Array Value} {on_SORTS_9 : Nat} {os_SORTS_9 : Array (Option Value)}
    {e_SORTS_10 : Addr} {od_SORTS_10 : Option Addr} {oi_SORTS_10 : Array Value} {on_SORTS_10 : Nat} {os_SORTS_10 : Array (Option Value)}
    {e_SORTS_11 : Addr} {od_SORTS_11 : Option Addr} {oi_SORTS_11 : Array Value} {on_SORTS_11 : Nat} {os_SORTS_11 : Array (Option Value)}
    {e_SORTS_12 : Addr} {od_SORTS_12 : Option Addr} {oi_SORTS_12 : Array Value} {on_SORTS_12 : Nat} {os_SORTS_12 : Array (Option Value)}
    {p_FORMS : Addr} {es_FORMS : Array DictEntry} {on_FORMS : Nat}
    {e_FORMS_1 : Addr} {od_FORMS_1 : Option Addr} {oi_FORMS_1 : Array Value} {on_FORMS_1 : Nat} {os_FORMS_1 : Array (Option Value)}
    {e_FORMS_2 : Addr} {od_FORMS_2 : Option Addr} {oi_FORMS_2 : Array Value} {on_FORMS_2 : Nat} {os_FORMS_2 : Array (Option Value)}
    {e_FORMS_3 : Addr} {od_FORMS_3 : Option Addr} {oi_FORMS_3 : Array Value} {on_FORMS_3 : Nat} {os_FORMS_3 : Array (Option Value)}
    {e_FORMS_4 : Addr} {od_FORMS_4 : Option Addr} {oi_FORMS_4 : Array Value} {on_FORMS_4 : Nat} {os_FORMS_4 : Array (Option Value)}
    {e_FORMS_5 : Addr} {od_FORMS_5 : Option Addr} {oi_FORMS_5 : Array Value} {on_FORMS_5 : Nat} {os_FORMS_5 : Array (Option Value)}
    {e_FORMS_6 : Addr} {od_FORMS_6 : Option Addr} {oi_FORMS_6 : Array Value} {on_FORMS_6 : Nat} {os_FORMS_6 : Array (Option Value)}
    {e_FORMS_7 : Addr} {od_FORMS_7 : Option Addr} {oi_FORMS_7 : Array Value} {on_FORMS_7 : Nat} {os_FORMS_7 : Array (Option Value)}
    {e_FORMS_8 : Addr} {od_FORMS_8 : Option Addr} {oi_FORMS_8 : Array Value} {on_FORMS_8 : Nat} {os_FORMS_8 : Array (Option Value)}
    {e_FORMS_9 : Addr} {od_FORMS_9 : Option Addr} {oi_FORMS_9 : Array Value} {on_FORMS_9 : Nat} {os_FORMS_9 : Array (Option Value)}
    {e_FORMS_10 : Addr} {od_FORMS_10 : Option Addr} {oi_FORMS_10 : Array Value} {on_FORMS_10 : Nat} {os_FORMS_10 : Array (Option Value)}
    (a1 : PySem.W.nsIn K mainGlobals "is_name" = some (some (.ref f1))) (l1 : K.lookup f1 = some ⟨oc1, od1, .func (PySem.W.fnOf "is_name" "is_name" (fnArgs sPIsName) (fnBody sPIsName) (fnScope sPIsName) .none kV1 dc1 pm1 an1 cd1 ct1), sl1⟩) (c1 : PySem.W.codeIn K cd1 "is_name" = true) (k1 : PySem.W.keepIn K (.ref f1) = true)
    (a2 : PySem.W.nsIn K mainGlobals "is_kind" = some (some (.ref f2))) (l2 : K.lookup f2 = some ⟨oc2, od2, .func (PySem.W.fnOf "is_kind" "is_kind" (fnArgs sPIsKind) (fnBody sPIsKind) (fnScope sPIsKind) .none kV2 dc2 pm2 an2 cd2 ct2), sl2⟩) (c2 : PySem.W.codeIn K cd2 "is_kind" = true) (k2 : PySem.W.keepIn K (.ref f2) = true)
    (a3 : PySem.W.nsIn K mainGlobals "_is_pair" = some (some (.ref f3))) (l3 : K.lookup f3 = some ⟨oc3, od3, .func (PySem.W.fnOf "_is_pair" "_is_pair" (fnArgs sPIsPair) (fnBody sPIsPair) (fnScope sPIsPair) .none kV3 dc3 pm3 an3 cd3 ct3), sl3⟩) (c3 : PySem.W.codeIn K cd3 "_is_pair" = true) (k3 : PySem.W.keepIn K (.ref f3) = true)
    (a4 : PySem.W.nsIn K mainGlobals "are_named" = some (some (.ref f4))) (l4 : K.lookup f4 = some ⟨oc4, od4, .func (PySem.W.fnOf "are_named" "are_named" (fnArgs sPAreNamed) (fnBody sPAreNamed) (fnScope sPAreNamed) .none kV4 dc4 pm4 an4 cd4 ct4), sl4⟩) (c4 : PySem.W.codeIn K cd4 "are_named" = true) (k4 : PySem.W.keepIn K (.ref f4) = true)
    (a5 : PySem.W.nsIn K mainGlobals "_is_named_pair" = some (some (.ref f5))) (l5 : K.lookup f5 = some ⟨oc5, od5, .func (PySem.W.fnOf "_is_named_pair" "_is_named_pair" (fnArgs sPIsNamedPair) (fnBody sPIsNamedPair) (fnScope sPIsNamedPair) .none kV5 dc5 pm5 an5 cd5 ct5), sl5⟩) (c5 : PySem.W.codeIn K cd5 "_is_named_pair" = true) (k5 : PySem.W.keepIn K (.ref f5) = true)
    (a6 : PySem.W.nsIn K mainGlobals "are_rising" = some (some (.ref f6))) (l6 : K.lookup f6 = some ⟨oc6, od6, .func (PySem.W.fnOf "are_rising" "are_rising" (fnArgs sPAreRising) (fnBody sPAreRising) (fnScope sPAreRising) .none kV6 dc6 pm6 an6 cd6 ct6), sl6⟩) (c6 : PySem.W.codeIn K cd6 "are_rising" = true) (k6 : PySem.W.keepIn K (.ref f6) = true)
    (a7 : PySem.W.nsIn K mainGlobals "are_unlike" = some (some (.ref f7))) (l7 : K.lookup f7 = some ⟨oc7, od7, .func (PySem.W.fnOf "are_unlike" "are_unlike" (fnArgs sPAreUnlike) (fnBody sPAreUnlike) (fnScope sPAreUnlike) .none kV7 dc7 pm7 an7 cd7 ct7), sl7⟩) (c7 : PySem.W.codeIn K cd7 "are_unlike" = true) (k7 : PySem.W.keepIn K (.ref f7) = true)
    (a8 : PySem.W.nsIn K mainGlobals "is_number" = some (some (.ref f8))) (l8 : K.lookup f8 = some ⟨oc8, od8, .func (PySem.W.fnOf "is_number" "is_number" (fnArgs sPIsNumber) (fnBody sPIsNumber) (fnScope sPIsNumber) .none kV8 dc8 pm8 an8 cd8 ct8), sl8⟩) (c8 : PySem.W.codeIn K cd8 "is_number" = true) (k8 : PySem.W.keepIn K (.ref f8) = true)
    (a9 : PySem.W.nsIn K mainGlobals "is_term" = some (some (.ref f9))) (l9 : K.lookup f9 = some ⟨oc9, od9, .func (PySem.W.fnOf "is_term" "is_term" (fnArgs sPIsTerm) (fnBody sPIsTerm) (fnScope sPIsTerm) .none kV9 dc9 pm9 an9 cd9 ct9), sl9⟩) (c9 : PySem.W.codeIn K cd9 "is_term" = true) (k9 : PySem.W.keepIn K (.ref f9) = true)
    (a10 : PySem.W.nsIn K mainGlobals "_is_shaped" = some (some (.ref f10))) (l10 : K.lookup f10 = some ⟨oc10, od10, .func (PySem.W.fnOf "_is_shaped" "_is_shaped" (fnArgs sPIsShaped) (fnBody sPIsShaped) (fnScope sPIsShaped) .none kV10 dc10 pm10 an10 cd10 ct10), sl10⟩) (c10 : PySem.W.codeIn K cd10 "_is_shaped" = true) (k10 : PySem.W.keepIn K (.ref f10) = true)
    (a11 : PySem.W.nsIn K mainGlobals "_is_leaf_part" = some (some (.ref f11))) (l11 : K.lookup f11 = some ⟨oc11, od11, .func (PySem.W.fnOf "_is_leaf_part" "_is_leaf_part" (fnArgs sPIsLeafPart) (fnBody sPIsLeafPart) (fnScope sPIsLeafPart) .none kV11 dc11 pm11 an11 cd11 ct11), sl11⟩) (c11 : PySem.W.codeIn K cd11 "_is_leaf_part" = true) (k11 : PySem.W.keepIn K (.ref f11) = true)
    (a12 : PySem.W.nsIn K mainGlobals "parts_of" = some (some (.ref f12))) (l12 : K.lookup f12 = some ⟨oc12, od12, .func (PySem.W.fnOf "parts_of" "parts_of" (fnArgs sPPartsOf) (fnBody sPPartsOf) (fnScope sPPartsOf) .none kV12 dc12 pm12 an12 cd12 ct12), sl12⟩) (c12 : PySem.W.codeIn K cd12 "parts_of" = true) (k12 : PySem.W.keepIn K (.ref f12) = true)
    (a13 : PySem.W.nsIn K mainGlobals "is_row" = some (some (.ref f13))) (l13 : K.lookup f13 = some ⟨oc13, od13, .func (PySem.W.fnOf "is_row" "is_row" (fnArgs sPIsRow) (fnBody sPIsRow) (fnScope sPIsRow) .none kV13 dc13 pm13 an13 cd13 ct13), sl13⟩) (c13 : PySem.W.codeIn K cd13 "is_row" = true) (k13 : PySem.W.keepIn K (.ref f13) = true)
    (a14 : PySem.W.nsIn K mainGlobals "_fits" = some (some (.ref f14))) (l14 : K.lookup f14 = some ⟨oc14, od14, .func (PySem.W.fnOf "_fits" "_fits" (fnArgs sPFits) (fnBody sPFits) (fnScope sPFits) .none kV14 dc14 pm14 an14 cd14 ct14), sl14⟩) (c14 : PySem.W.codeIn K cd14 "_fits" = true) (k14 : PySem.W.keepIn K (.ref f14) = true)
    (a15 : PySem.W.nsIn K mainGlobals "is_count" = some (some (.ref f15))) (l15 : K.lookup f15 = some ⟨oc15, od15, .func (PySem.W.fnOf "is_count" "is_count" (fnArgs sPIsCount) (fnBody sPIsCount) (fnScope sPIsCount) .none kV15 dc15 pm15 an15 cd15 ct15), sl15⟩) (c15 : PySem.W.codeIn K cd15 "is_count" = true) (k15 : PySem.W.keepIn K (.ref f15) = true)
    (a16 : PySem.W.nsIn K mainGlobals "jumps_of" = some (some (.ref f16))) (l16 : K.lookup f16 = some ⟨oc16, od16, .func (PySem.W.fnOf "jumps_of" "jumps_of" (fnArgs sPJumpsOf) (fnBody sPJumpsOf) (fnScope sPJumpsOf) .none kV16 dc16 pm16 an16 cd16 ct16), sl16⟩) (c16 : PySem.W.codeIn K cd16 "jumps_of" = true) (k16 : PySem.W.keepIn K (.ref f16) = true)
    (a17 : PySem.W.nsIn K mainGlobals "is_part" = some (some (.ref f17))) (l17 : K.lookup f17 = some ⟨oc17, od17, .func (PySem.W.fnOf "is_part" "is_part" (fnArgs sPIsPart) (fnBody sPIsPart) (fnScope sPIsPart) .none kV17 dc17 pm17 an17 cd17 ct17), sl17⟩) (c17 : PySem.W.codeIn K cd17 "is_part" = true) (k17 : PySem.W.keepIn K (.ref f17) = true)
    (a18 : PySem.W.nsIn K mainGlobals "_are_takes" = some (some (.ref f18))) (l18 : K.lookup f18 = some ⟨oc18, od18, .func (PySem.W.fnOf "_are_takes" "_are_takes" (fnArgs sPAreTakes) (fnBody sPAreTakes) (fnScope sPAreTakes) .none kV18 dc18 pm18 an18 cd18 ct18), sl18⟩) (c18 : PySem.W.codeIn K cd18 "_are_takes" = true) (k18 : PySem.W.keepIn K (.ref f18) = true)
    (a19 : PySem.W.nsIn K mainGlobals "_are_rows" = some (some (.ref f19))) (l19 : K.lookup f19 = some ⟨oc19, od19, .func (PySem.W.fnOf "_are_rows" "_are_rows" (fnArgs sPAreRows) (fnBody sPAreRows) (fnScope sPAreRows) .none kV19 dc19 pm19 an19 cd19 ct19), sl19⟩) (c19 : PySem.W.codeIn K cd19 "_are_rows" = true) (k19 : PySem.W.keepIn K (.ref f19) = true)
    (a20 : PySem.W.nsIn K mainGlobals "_law_cell" = some (some (.ref f20))) (l20 : K.lookup f20 = some ⟨oc20, od20, .func (PySem.W.fnOf "_law_cell" "_law_cell" (fnArgs sLCell) (fnBody sLCell) (fnScope sLCell) .none kV20 dc20 pm20 an20 cd20 ct20), sl20⟩) (c20 : PySem.W.codeIn K cd20 "_law_cell" = true) (k20 : PySem.W.keepIn K (.ref f20) = true)
    (a21 : PySem.W.nsIn K mainGlobals "_law_pot" = some (some (.ref f21))) (l21 : K.lookup f21 = some ⟨oc21, od21, .func (PySem.W.fnOf "_law_pot" "_law_pot" (fnArgs sLPot) (fnBody sLPot) (fnScope sLPot) .none kV21 dc21 pm21 an21 cd21 ct21), sl21⟩) (c21 : PySem.W.codeIn K cd21 "_law_pot" = true) (k21 : PySem.W.keepIn K (.ref f21) = true)
    (a22 : PySem.W.nsIn K mainGlobals "_law_take" = some (some (.ref f22))) (l22 : K.lookup f22 = some ⟨oc22, od22, .func (PySem.W.fnOf "_law_take" "_law_take" (fnArgs sLTake) (fnBody sLTake) (fnScope sLTake) .none kV22 dc22 pm22 an22 cd22 ct22), sl22⟩) (c22 : PySem.W.codeIn K cd22 "_law_take" = true) (k22 : PySem.W.keepIn K (.ref f22) = true)
    (a23 : PySem.W.nsIn K mainGlobals "_law_name" = some (some (.ref f23))) (l23 : K.lookup f23 = some ⟨oc23, od23, .func (PySem.W.fnOf "_law_name" "_law_name" (fnArgs sLName) (fnBody sLName) (fnScope sLName) .none kV23 dc23 pm23 an23 cd23 ct23), sl23⟩) (c23 : PySem.W.codeIn K cd23 "_law_name" = true) (k23 : PySem.W.keepIn K (.ref f23) = true)
    (a24 : PySem.W.nsIn K mainGlobals "_law_kind" = some (some (.ref f24))) (l24 : K.lookup f24 = some ⟨oc24, od24, .func (PySem.W.fnOf "_law_kind" "_law_kind" (fnArgs sLKind) (fnBody sLKind) (fnScope sLKind) .none kV24 dc24 pm24 an24 cd24 ct24), sl24⟩) (c24 : PySem.W.codeIn K cd24 "_law_kind" = true) (k24 : PySem.W.keepIn K (.ref f24) = true)
    (a25 : PySem.W.nsIn K mainGlobals "_law_leaf" = some (some (.ref f25))) (l25 : K.lookup f25 = some ⟨oc25, od25, .func (PySem.W.fnOf "_law_leaf" "_law_leaf" (fnArgs sLLeaf) (fnBody sLLeaf) (fnScope sLLeaf) .none kV25 dc25 pm25 an25 cd25 ct25), sl25⟩) (c25 : PySem.W.codeIn K cd25 "_law_leaf" = true) (k25 : PySem.W.keepIn K (.ref f25) = true)
    (a26 : PySem.W.nsIn K mainGlobals "_law_term" = some (some (.ref f26))) (l26 : K.lookup f26 = some ⟨oc26, od26, .func (PySem.W.fnOf "_law_term" "_law_term" (fnArgs sLTerm) (fnBody sLTerm) (fnScope sLTerm) .none kV26 dc26 pm26 an26 cd26 ct26), sl26⟩) (c26 : PySem.W.codeIn K cd26 "_law_term" = true) (k26 : PySem.W.keepIn K (.ref f26) = true)
    (a27 : PySem.W.nsIn K mainGlobals "_law_some" = some (some (.ref f27))) (l27 : K.lookup f27 = some ⟨oc27, od27, .func (PySem.W.fnOf "_law_some" "_law_some" (fnArgs sLSome) (fnBody sLSome) (fnScope sLSome) .none kV27 dc27 pm27 an27 cd27 ct27), sl27⟩) (c27 : PySem.W.codeIn K cd27 "_law_some" = true) (k27 : PySem.W.keepIn K (.ref f27) = true)
    (a28 : PySem.W.nsIn K mainGlobals "_law_names" = some (some (.ref f28))) (l28 : K.lookup f28 = some ⟨oc28, od28, .func (PySem.W.fnOf "_law_names" "_law_names" (fnArgs sLNames) (fnBody sLNames) (fnScope sLNames) .none kV28 dc28 pm28 an28 cd28 ct28), sl28⟩) (c28 : PySem.W.codeIn K cd28 "_law_names" = true) (k28 : PySem.W.keepIn K (.ref f28) = true)
    (a29 : PySem.W.nsIn K mainGlobals "_law_row" = some (some (.ref f29))) (l29 : K.lookup f29 = some ⟨oc29, od29, .func (PySem.W.fnOf "_law_row" "_law_row" (fnArgs sLRow) (fnBody sLRow) (fnScope sLRow) .none kV29 dc29 pm29 an29 cd29 ct29), sl29⟩) (c29 : PySem.W.codeIn K cd29 "_law_row" = true) (k29 : PySem.W.keepIn K (.ref f29) = true)
    (a30 : PySem.W.nsIn K mainGlobals "_law_part" = some (some (.ref f30))) (l30 : K.lookup f30 = some ⟨oc30, od30, .func (PySem.W.fnOf "_law_part" "_law_part" (fnArgs sLPart) (fnBody sLPart) (fnScope sLPart) .none kV30 dc30 pm30 an30 cd30 ct30), sl30⟩) (c30 : PySem.W.codeIn K cd30 "_law_part" = true) (k30 : PySem.W.keepIn K (.ref f30) = true)
    (a31 : PySem.W.nsIn K mainGlobals "_law_is_name" = some (some (.ref f31))) (l31 : K.lookup f31 = some ⟨oc31, od31, .func (PySem.W.fnOf "_law_is_name" "_law_is_name" (fnArgs sLIsName) (fnBody sLIsName) (fnScope sLIsName) .none kV31 dc31 pm31 an31 cd31 ct31), sl31⟩) (c31 : PySem.W.codeIn K cd31 "_law_is_name" = true) (k31 : PySem.W.keepIn K (.ref f31) = true)
    (a32 : PySem.W.nsIn K mainGlobals "_law_is_whole" = some (some (.ref f32))) (l32 : K.lookup f32 = some ⟨oc32, od32, .func (PySem.W.fnOf "_law_is_whole" "_law_is_whole" (fnArgs sLIsWhole) (fnBody sLIsWhole) (fnScope sLIsWhole) .none kV32 dc32 pm32 an32 cd32 ct32), sl32⟩) (c32 : PySem.W.codeIn K cd32 "_law_is_whole" = true) (k32 : PySem.W.keepIn K (.ref f32) = true)
    (a33 : PySem.W.nsIn K mainGlobals "_law_is_kind" = some (some (.ref f33))) (l33 : K.lookup f33 = some ⟨oc33, od33, .func (PySem.W.fnOf "_law_is_kind" "_law_is_kind" (fnArgs sLIsKind) (fnBody sLIsKind) (fnScope sLIsKind) .none kV33 dc33 pm33 an33 cd33 ct33), sl33⟩) (c33 : PySem.W.codeIn K cd33 "_law_is_kind" = true) (k33 : PySem.W.keepIn K (.ref f33) = true)
    (a34 : PySem.W.nsIn K mainGlobals "_law_is_term" = some (some (.ref f34))) (l34 : K.lookup f34 = some ⟨oc34, od34, .func (PySem.W.fnOf "_law_is_term" "_law_is_term" (fnArgs sLIsTerm) (fnBody sLIsTerm) (fnScope sLIsTerm) .none kV34 dc34 pm34 an34 cd34 ct34), sl34⟩) (c34 : PySem.W.codeIn K cd34 "_law_is_term" = true) (k34 : PySem.W.keepIn K (.ref f34) = true)
    (a35 : PySem.W.nsIn K mainGlobals "_law_is_fields" = some (some (.ref f35))) (l35 : K.lookup f35 = some ⟨oc35, od35, .func (PySem.W.fnOf "_law_is_fields" "_law_is_fields" (fnArgs sLIsFields) (fnBody sLIsFields) (fnScope sLIsFields) .none kV35 dc35 pm35 an35 cd35 ct35), sl35⟩) (c35 : PySem.W.codeIn K cd35 "_law_is_fields" = true) (k35 : PySem.W.keepIn K (.ref f35) = true)
    (a36 : PySem.W.nsIn K mainGlobals "_law_is_row" = some (some (.ref f36))) (l36 : K.lookup f36 = some ⟨oc36, od36, .func (PySem.W.fnOf "_law_is_row" "_law_is_row" (fnArgs sLIsRow) (fnBody sLIsRow) (fnScope sLIsRow) .none kV36 dc36 pm36 an36 cd36 ct36), sl36⟩) (c36 : PySem.W.codeIn K cd36 "_law_is_row" = true) (k36 : PySem.W.keepIn K (.ref f36) = true)
    (a37 : PySem.W.nsIn K mainGlobals "_law_is_pairs" = some (some (.ref f37))) (l37 : K.lookup f37 = some ⟨oc37, od37, .func (PySem.W.fnOf "_law_is_pairs" "_law_is_pairs" (fnArgs sLIsPairs) (fnBody sLIsPairs) (fnScope sLIsPairs) .none kV37 dc37 pm37 an37 cd37 ct37), sl37⟩) (c37 : PySem.W.codeIn K cd37 "_law_is_pairs" = true) (k37 : PySem.W.keepIn K (.ref f37) = true)
    (a38 : PySem.W.nsIn K mainGlobals "_law_is_part" = some (some (.ref f38))) (l38 : K.lookup f38 = some ⟨oc38, od38, .func (PySem.W.fnOf "_law_is_part" "_law_is_part" (fnArgs sLIsPart) (fnBody sLIsPart) (fnScope sLIsPart) .none kV38 dc38 pm38 an38 cd38 ct38), sl38⟩) (c38 : PySem.W.codeIn K cd38 "_law_is_part" = true) (k38 : PySem.W.keepIn K (.ref f38) = true)
    (a39 : PySem.W.nsIn K mainGlobals "_law_made" = some (some (.ref f39))) (l39 : K.lookup f39 = some ⟨oc39, od39, .func (PySem.W.fnOf "_law_made" "_law_made" (fnArgs sLMade) (fnBody sLMade) (fnScope sLMade) .none kV39 dc39 pm39 an39 cd39 ct39), sl39⟩) (c39 : PySem.W.codeIn K cd39 "_law_made" = true) (k39 : PySem.W.keepIn K (.ref f39) = true)
    (a40 : PySem.W.nsIn K mainGlobals "_law_row_anywhere" = some (some (.ref f40))) (l40 : K.lookup f40 = some ⟨oc40, od40, .func (PySem.W.fnOf "_law_row_anywhere" "_law_row_anywhere" (fnArgs sLRowAnywhere) (fnBody sLRowAnywhere) (fnScope sLRowAnywhere) .none kV40 dc40 pm40 an40 cd40 ct40), sl40⟩) (c40 : PySem.W.codeIn K cd40 "_law_row_anywhere" = true) (k40 : PySem.W.keepIn K (.ref f40) = true)
    (a41 : PySem.W.nsIn K mainGlobals "_law_anywhere" = some (some (.ref f41))) (l41 : K.lookup f41 = some ⟨oc41, od41, .func (PySem.W.fnOf "_law_anywhere" "_law_anywhere" (fnArgs sLAnywhere) (fnBody sLAnywhere) (fnScope sLAnywhere) .none kV41 dc41 pm41 an41 cd41 ct41), sl41⟩) (c41 : PySem.W.codeIn K cd41 "_law_anywhere" = true) (k41 : PySem.W.keepIn K (.ref f41) = true)
    (a42 : PySem.W.nsIn K mainGlobals "law" = some (some (.ref f42))) (l42 : K.lookup f42 = some ⟨oc42, od42, .func (PySem.W.fnOf "law" "law" (fnArgs sLaw) (fnBody sLaw) (fnScope sLaw) .none kV42 dc42 pm42 an42 cd42 ct42), sl42⟩) (c42 : PySem.W.codeIn K cd42 "law" = true) (k42 : PySem.W.keepIn K (.ref f42) = true)
    (z_isinstance : PySem.W.nsIn K mainGlobals "isinstance" = some none)
    (z_str : PySem.W.nsIn K mainGlobals "str" = some none)
    (z_tuple : PySem.W.nsIn K mainGlobals "tuple" = some none)
    (z_bool : PySem.W.nsIn K mainGlobals "bool" = some none)
    (z_list : PySem.W.nsIn K mainGlobals "list" = some none)
    (z_len : PySem.W.nsIn K mainGlobals "len" = some none)
    (z_range : PySem.W.nsIn K mainGlobals "range" = some none)
    (z_int : PySem.W.nsIn K mainGlobals "int" = some none)
    (z_set : PySem.W.nsIn K mainGlobals "set" = some none)
    (z_sorted : PySem.W.nsIn K mainGlobals "sorted" = some none)
    (z_all : PySem.W.nsIn K mainGlobals "all" = some none)
    (z_zip : PySem.W.nsIn K mainGlobals "zip" = some none)
    (z_repr : PySem.W.nsIn K mainGlobals "repr" = some none)
    (z_max : PySem.W.nsIn K mainGlobals "max" = some none)
    (g_LONGEST_NAME : PySem.W.nsIn K mainGlobals "LONGEST_NAME" = some (some u_LONGEST_NAME)) (r_LONGEST_NAME : RelV (.int 8) u_LONGEST_NAME)
    (g_NUMBERS : PySem.W.nsIn K mainGlobals "NUMBERS" = some (some u_NUMBERS)) (r_NUMBERS : RelV (.int 1000000000000) u_NUMBERS)
    (g_MOST_LISTED : PySem.W.nsIn K mainGlobals "MOST_LISTED" = some (some u_MOST_LISTED)) (r_MOST_LISTED : RelV (.int 8) u_MOST_LISTED)
    (g_KEPT_WORDS : PySem.W.nsIn K mainGlobals "KEPT_WORDS" = some (some (.ref p_KEPT_WORDS))) (l_KEPT_WORDS : K.lookup p_KEPT_WORDS = some ⟨.type "tuple", od_KEPT_WORDS, .seq oi_KEPT_WORDS on_KEPT_WORDS, os_KEPT_WORDS⟩) (v_KEPT_WORDS : Vals ([.str "number", .str "truth", .str "yes", .str "no"] : List V) oi_KEPT_WORDS.toList) (h_KEPT_WORDS : oi_KEPT_WORDS.size ≤ sizeLine)
    (g_LEAVES : PySem.W.nsIn K mainGlobals "LEAVES" = some (some (.ref p_LEAVES))) (l_LEAVES : K.lookup p_LEAVES = some ⟨.type "tuple", od_LEAVES, .seq oi_LEAVES on_LEAVES, os_LEAVES⟩) (v_LEAVES : Vals ([.str "number", .str "truth", .str "name", .str "box", .str "empty"] : List V) oi_LEAVES.toList) (h_LEAVES : oi_LEAVES.size ≤ sizeLine)
    (g_SORTS : PySem.W.nsIn K mainGlobals "SORTS" = some (some (.ref p_SORTS))) (l_SORTS : K.lookup p_SORTS = some ⟨.type "dict", none, .dict es_SORTS on_SORTS, #[]⟩) (k_SORTS : PySem.W.KeysLit w.params es_SORTS.toList) (w_SORTS : (p_SORTS == sysModules) = false) (n_SORTS : EntsV es_SORTS.toList [("add", V.ref e_SORTS_1), ("less", V.ref e_SORTS_2), ("times", V.ref e_SORTS_3), ("under", V.ref e_SORTS_4), ("same", V.ref e_SORTS_5), ("both", V.ref e_SORTS_6), ("join", V.ref e_SORTS_7), ("not", V.ref e_SORTS_8), ("many", V.ref e_SORTS_9), ("pick", V.ref e_SORTS_10), ("at", V.ref e_SORTS_11), ("field", V.ref e_SORTS_12)])
    (l_SORTS_1 : K.lookup e_SORTS_1 = some ⟨.type "tuple", od_SORTS_1, .seq oi_SORTS_1 on_SORTS_1, os_SORTS_1⟩) (v_SORTS_1 : Vals ([.str "number", .str "number"] : List V) oi_SORTS_1.toList) (h_SORTS_1 : oi_SORTS_1.size ≤ sizeLine)
    (l_SORTS_2 : K.lookup e_SORTS_2 = some ⟨.type "tuple", od_SORTS_2, .seq oi_SORTS_2 on_SORTS_2, os_SORTS_2⟩) (v_SORTS_2 : Vals ([.str "number", .str "number"] : List V) oi_SORTS_2.toList) (h_SORTS_2 : oi_SORTS_2.size ≤ sizeLine)
    (l_SORTS_3 : K.lookup e_SORTS_3 = some ⟨.type "tuple", od_SORTS_3, .seq oi_SORTS_3 on_SORTS_3, os_SORTS_3⟩) (v_SORTS_3 : Vals ([.str "number", .str "number"] : List V) oi_SORTS_3.toList) (h_SORTS_3 : oi_SORTS_3.size ≤ sizeLine)
    (l_SORTS_4 : K.lookup e_SORTS_4 = some ⟨.type "tuple", od_SORTS_4, .seq oi_SORTS_4 on_SORTS_4, os_SORTS_4⟩) (v_SORTS_4 : Vals ([.str "number", .str "number"] : List V) oi_SORTS_4.toList) (h_SORTS_4 : oi_SORTS_4.size ≤ sizeLine)
    (l_SORTS_5 : K.lookup e_SORTS_5 = some ⟨.type "tuple", od_SORTS_5, .seq oi_SORTS_5 on_SORTS_5, os_SORTS_5⟩) (v_SORTS_5 : Vals ([.str "", .str ""] : List V) oi_SORTS_5.toList) (h_SORTS_5 : oi_SORTS_5.size ≤ sizeLine)
    (l_SORTS_6 : K.lookup e_SORTS_6 = some ⟨.type "tuple", od_SORTS_6, .seq oi_SORTS_6 on_SORTS_6, os_SORTS_6⟩) (v_SORTS_6 : Vals ([.str "truth", .str "truth"] : List V) oi_SORTS_6.toList) (h_SORTS_6 : oi_SORTS_6.size ≤ sizeLine)
    (l_SORTS_7 : K.lookup e_SORTS_7 = some ⟨.type "tuple", od_SORTS_7, .seq oi_SORTS_7 on_SORTS_7, os_SORTS_7⟩) (v_SORTS_7 : Vals ([.str "list", .str "list"] : List V) oi_SORTS_7.toList) (h_SORTS_7 : oi_SORTS_7.size ≤ sizeLine)
    (l_SORTS_8 : K.lookup e_SORTS_8 = some ⟨.type "tuple", od_SORTS_8, .seq oi_SORTS_8 on_SORTS_8, os_SORTS_8⟩) (v_SORTS_8 : Vals ([.str "truth"] : List V) oi_SORTS_8.toList) (h_SORTS_8 : oi_SORTS_8.size ≤ sizeLine)
    (l_SORTS_9 : K.lookup e_SORTS_9 = some ⟨.type "tuple", od_SORTS_9, .seq oi_SORTS_9 on_SORTS_9, os_SORTS_9⟩) (v_SORTS_9 : Vals ([.str "list"] : List V) oi_SORTS_9.toList) (h_SORTS_9 : oi_SORTS_9.size ≤ sizeLine)
    (l_SORTS_10 : K.lookup e_SORTS_10 = some ⟨.type "tuple", od_SORTS_10, .seq oi_SORTS_10 on_SORTS_10, os_SORTS_10⟩) (v_SORTS_10 : Vals ([.str "truth", .str "", .str ""] : List V) oi_SORTS_10.toList) (h_SORTS_10 : oi_SORTS_10.size ≤ sizeLine)
    (l_SORTS_11 : K.lookup e_SORTS_11 = some ⟨.type "tuple", od_SORTS_11, .seq oi_SORTS_11 on_SORTS_11, os_SORTS_11⟩) (v_SORTS_11 : Vals ([.str "list", .str "number", .str ""] : List V) oi_SORTS_11.toList) (h_SORTS_11 : oi_SORTS_11.size ≤ sizeLine)
    (l_SORTS_12 : K.lookup e_SORTS_12 = some ⟨.type "tuple", od_SORTS_12, .seq oi_SORTS_12 on_SORTS_12, os_SORTS_12⟩) (v_SORTS_12 : Vals ([.str "record"] : List V) oi_SORTS_12.toList) (h_SORTS_12 : oi_SORTS_12.size ≤ sizeLine)
    (g_FORMS : PySem.W.nsIn K mainGlobals "FORMS" = some (some (.ref p_FORMS))) (l_FORMS : K.lookup p_FORMS = some ⟨.type "dict", none, .dict es_FORMS on_FORMS, #[]⟩) (k_FORMS : PySem.W.KeysLit w.params es_FORMS.toList) (w_FORMS : (p_FORMS == sysModules) = false) (n_FORMS : EntsV es_FORMS.toList [("let", V.ref e_FORMS_1), ("put", V.ref e_FORMS_2), ("set", V.ref e_FORMS_3), ("new", V.ref e_FORMS_4), ("call", V.ref e_FORMS_5), ("tell", V.ref e_FORMS_6), ("mark", V.ref e_FORMS_7), ("go", V.ref e_FORMS_8), ("unless", V.ref e_FORMS_9), ("back", V.ref e_FORMS_10)])
    (l_FORMS_1 : K.lookup e_FORMS_1 = some ⟨.type "tuple", od_FORMS_1, .seq oi_FORMS_1 on_FORMS_1, os_FORMS_1⟩) (v_FORMS_1 : Vals ([.str "name", .str "term"] : List V) oi_FORMS_1.toList) (h_FORMS_1 : oi_FORMS_1.size ≤ sizeLine)
    (l_FORMS_2 : K.lookup e_FORMS_2 = some ⟨.type "tuple", od_FORMS_2, .seq oi_FORMS_2 on_FORMS_2, os_FORMS_2⟩) (v_FORMS_2 : Vals ([.str "name", .str "term"] : List V) oi_FORMS_2.toList) (h_FORMS_2 : oi_FORMS_2.size ≤ sizeLine)
    (l_FORMS_3 : K.lookup e_FORMS_3 = some ⟨.type "tuple", od_FORMS_3, .seq oi_FORMS_3 on_FORMS_3, os_FORMS_3⟩) (v_FORMS_3 : Vals ([.str "term", .str "name", .str "term"] : List V) oi_FORMS_3.toList) (h_FORMS_3 : oi_FORMS_3.size ≤ sizeLine)
    (l_FORMS_4 : K.lookup e_FORMS_4 = some ⟨.type "tuple", od_FORMS_4, .seq oi_FORMS_4 on_FORMS_4, os_FORMS_4⟩) (v_FORMS_4 : Vals ([.str "name", .str "name", .str "fields"] : List V) oi_FORMS_4.toList) (h_FORMS_4 : oi_FORMS_4.size ≤ sizeLine)
    (l_FORMS_5 : K.lookup e_FORMS_5 = some ⟨.type "tuple", od_FORMS_5, .seq oi_FORMS_5 on_FORMS_5, os_FORMS_5⟩) (v_FORMS_5 : Vals ([.str "name", .str "name", .str "terms"] : List V) oi_FORMS_5.toList) (h_FORMS_5 : oi_FORMS_5.size ≤ sizeLine)
    (l_FORMS_6 : K.lookup e_FORMS_6 = some ⟨.type "tuple", od_FORMS_6, .seq oi_FORMS_6 on_FORMS_6, os_FORMS_6⟩) (v_FORMS_6 : Vals ([.str "term"] : List V) oi_FORMS_6.toList) (h_FORMS_6 : oi_FORMS_6.size ≤ sizeLine)
    (l_FORMS_7 : K.lookup e_FORMS_7 = some ⟨.type "tuple", od_FORMS_7, .seq oi_FORMS_7 on_FORMS_7, os_FORMS_7⟩) (v_FORMS_7 : Vals ([.str "name"] : List V) oi_FORMS_7.toList) (h_FORMS_7 : oi_FORMS_7.size ≤ sizeLine)
    (l_FORMS_8 : K.lookup e_FORMS_8 = some ⟨.type "tuple", od_FORMS_8, .seq oi_FORMS_8 on_FORMS_8, os_FORMS_8⟩) (v_FORMS_8 : Vals ([.str "count"] : List V) oi_FORMS_8.toList) (h_FORMS_8 : oi_FORMS_8.size ≤ sizeLine)
    (l_FORMS_9 : K.lookup e_FORMS_9 = some ⟨.type "tuple", od_FORMS_9, .seq oi_FORMS_9 on_FORMS_9, os_FORMS_9⟩) (v_FORMS_9 : Vals ([.str "term", .str "count"] : List V) oi_FORMS_9.toList) (h_FORMS_9 : oi_FORMS_9.size ≤ sizeLine)
    (l_FORMS_10 : K.lookup e_FORMS_10 = some ⟨.type "tuple", od_FORMS_10, .seq oi_FORMS_10 on_FORMS_10, os_FORMS_10⟩) (v_FORMS_10 : Vals ([.str "term"] : List V) oi_FORMS_10.toList) (h_FORMS_10 : oi_FORMS_10.size ≤ sizeLine)
    : ∃ fd : FuncData, (∀ (s : Shared) (v : Value), BindsTo s fd ⟨[v], []⟩ [("_law_script", v)]) ∧ ∀ base : Heap, K.In base → base.Ns mainGlobals mg → FnG l.prog w K mg base C8.CX0 47 fa fd ["_law_script"] (spLaw K) := by
  have e := hfa.symm.trans (PySem.W.mg_of X G a42)
  cases e
  have D_is_name := def_mk (st := sPIsName) X G a1 l1 c1 k1
  have D_is_kind := def_mk (st := sPIsKind) X G a2 l2 c2 k2
  have D__is_pair := def_mk (st := sPIsPair) X G a3 l3 c3 k3
  have D_are_named := def_mk (st := sPAreNamed) X G a4 l4 c4 k4
  have D__is_named_pair := def_mk (st := sPIsNamedPair) X G a5 l5 c5 k5
  have D_are_rising := def_mk (st := sPAreRising) X G a6 l6 c6 k6
  have D_are_unlike := def_mk (st := sPAreUnlike) X G a7 l7 c7 k7
  have D_is_number := def_mk (st := sPIsNumber) X G a8 l8 c8 k8
  have D_is_term := def_mk (st := sPIsTerm) X G a9 l9 c9 k9
  have D__is_shaped := def_mk (st := sPIsShaped) X G a10 l10 c10 k10
  have D__is_leaf_part := def_mk (st := sPIsLeafPart) X G a11 l11 c11 k11
  have D_parts_of := def_mk (st := sPPartsOf) X G a12 l12 c12 k12
  have D_is_row := def_mk (st := sPIsRow) X G a13 l13 c13 k13
  have D__fits := def_mk (st := sPFits) X G a14 l14 c14 k14
  have D_is_count := def_mk (st := sPIsCount) X G a15 l15 c15 k15
  have D_jumps_of := def_mk (st := sPJumpsOf) X G a16 l16 c16 k16
  have D_is_part := def_mk (st := sPIsPart) X G a17 l17 c17 k17
  have D__are_takes := def_mk (st := sPAreTakes) X G a18 l18 c18 k18
  have D__are_rows := def_mk (st := sPAreRows) X G a19 l19 c19 k19
  have D__law_cell := def_mk (st := sLCell) X G a20 l20 c20 k20
  have D__law_pot := def_mk (st := sLPot) X G a21 l21 c21 k21
  have D__law_take := def_mk (st := sLTake) X G a22 l22 c22 k22
  have D__law_name := def_mk (st := sLName) X G a23 l23 c23 k23
  have D__law_kind := def_mk (st := sLKind) X G a24 l24 c24 k24
  have D__law_leaf := def_mk (st := sLLeaf) X G a25 l25 c25 k25
  have D__law_term := def_mk (st := sLTerm) X G a26 l26 c26 k26
  have D__law_some := def_mk (st := sLSome) X G a27 l27 c27 k27
  have D__law_names := def_mk (st := sLNames) X G a28 l28 c28 k28
  have D__law_row := def_mk (st := sLRow) X G a29 l29 c29 k29
  have D__law_part := def_mk (st := sLPart) X G a30 l30 c30 k30
  have D__law_is_name := def_mk (st := sLIsName) X G a31 l31 c31 k31
  have D__law_is_whole := def_mk (st := sLIsWhole) X G a32 l32 c32 k32
  have D__law_is_kind := def_mk (st := sLIsKind) X G a33 l33 c33 k33
  have D__law_is_term := def_mk (st := sLIsTerm) X G a34 l34 c34 k34
  have D__law_is_fields := def_mk (st := sLIsFields) X G a35 l35 c35 k35
  have D__law_is_row := def_mk (st := sLIsRow) X G a36 l36 c36 k36
  have D__law_is_pairs := def_mk (st := sLIsPairs) X G a37 l37 c37 k37
  have D__law_is_part := def_mk (st := sLIsPart) X G a38 l38 c38 k38
  have D__law_made := def_mk (st := sLMade) X G a39 l39 c39 k39
  have D__law_row_anywhere := def_mk (st := sLRowAnywhere) X G a40 l40 c40 k40
  have D__law_anywhere := def_mk (st := sLAnywhere) X G a41 l41 c41 k41
  have D_law := def_mk (st := sLaw) X G a42 l42 c42 k42
  have b_is_name := D_is_name.fn.binds rfl (ps := ["thing"]) fun _ _ _ _ _ _ us hl => match us, hl with | [_], _ => rfl
  have b_is_kind := D_is_kind.fn.binds rfl (ps := ["thing"]) fun _ _ _ _ _ _ us hl => match us, hl with | [_], _ => rfl
  have b__is_pair := D__is_pair.fn.binds rfl (ps := ["thing", "word"]) fun _ _ _ _ _ _ us hl => match us, hl with | [_, _], _ => rfl
  have b_are_named := D_are_named.fn.binds rfl (ps := ["thing"]) fun _ _ _ _ _ _ us hl => match us, hl with | [_], _ => rfl
  have b__is_named_pair := D__is_named_pair.fn.binds rfl (ps := ["thing"]) fun _ _ _ _ _ _ us hl => match us, hl with | [_], _ => rfl
  have b_are_rising := D_are_rising.fn.binds rfl (ps := ["pairs"]) fun _ _ _ _ _ _ us hl => match us, hl with | [_], _ => rfl
  have b_are_unlike := D_are_unlike.fn.binds rfl (ps := ["names"]) fun _ _ _ _ _ _ us hl => match us, hl with | [_], _ => rfl
  have b_is_number := D_is_number.fn.binds rfl (ps := ["thing"]) fun _ _ _ _ _ _ us hl => match us, hl with | [_], _ => rfl
  have b_is_term := D_is_term.fn.binds rfl (ps := ["thing"]) fun _ _ _ _ _ _ us hl => match us, hl with | [_], _ => rfl
  have b__is_shaped := D__is_shaped.fn.binds rfl (ps := ["thing"]) fun _ _ _ _ _ _ us hl => match us, hl with | [_], _ => rfl
  have b__is_leaf_part := D__is_leaf_part.fn.binds rfl (ps := ["word", "part"]) fun _ _ _ _ _ _ us hl => match us, hl with | [_, _], _ => rfl
  have b_parts_of := D_parts_of.fn.binds rfl (ps := ["term"]) fun _ _ _ _ _ _ us hl => match us, hl with | [_], _ => rfl
  have b_is_row := D_is_row.fn.binds rfl (ps := ["thing"]) fun _ _ _ _ _ _ us hl => match us, hl with | [_], _ => rfl
  have b__fits := D__fits.fn.binds rfl (ps := ["slot", "thing"]) fun _ _ _ _ _ _ us hl => match us, hl with | [_, _], _ => rfl
  have b_is_count := D_is_count.fn.binds rfl (ps := ["thing"]) fun _ _ _ _ _ _ us hl => match us, hl with | [_], _ => rfl
  have b_jumps_of := D_jumps_of.fn.binds rfl (ps := ["row"]) fun _ _ _ _ _ _ us hl => match us, hl with | [_], _ => rfl
  have b_is_part := D_is_part.fn.binds rfl (ps := ["thing"]) fun _ _ _ _ _ _ us hl => match us, hl with | [_], _ => rfl
  have b__are_takes := D__are_takes.fn.binds rfl (ps := ["thing"]) fun _ _ _ _ _ _ us hl => match us, hl with | [_], _ => rfl
  have b__are_rows := D__are_rows.fn.binds rfl (ps := ["thing"]) fun _ _ _ _ _ _ us hl => match us, hl with | [_], _ => rfl
  have b__law_cell := D__law_cell.fn.binds rfl (ps := ["_law_script", "_law_at"]) fun _ _ _ _ _ _ us hl => match us, hl with | [_, _], _ => rfl
  have b__law_pot := D__law_pot.fn.binds rfl (ps := ["_law_cell_here"]) fun _ _ _ _ _ _ us hl => match us, hl with | [_], _ => rfl
  have b__law_take := D__law_take.fn.binds rfl (ps := ["_law_pot_here", "_law_many"]) fun _ _ _ _ _ _ us hl => match us, hl with | [_, _], _ => rfl
  have b__law_name := D__law_name.fn.binds rfl (ps := ["_law_pot_here"]) fun _ _ _ _ _ _ us hl => match us, hl with | [_], _ => rfl
  have b__law_kind := D__law_kind.fn.binds rfl (ps := ["_law_pot_here", "_law_deep"]) fun _ _ _ _ _ _ us hl => match us, hl with | [_, _], _ => rfl
  have b__law_leaf := D__law_leaf.fn.binds rfl (ps := ["_law_pot_here"]) fun _ _ _ _ _ _ us hl => match us, hl with | [_], _ => rfl
  have b__law_term := D__law_term.fn.binds rfl (ps := ["_law_pot_here", "_law_deep"]) fun _ _ _ _ _ _ us hl => match us, hl with | [_, _], _ => rfl
  have b__law_some := D__law_some.fn.binds rfl (ps := ["_law_pot_here", "_law_left"]) fun _ _ _ _ _ _ us hl => match us, hl with | [_, _], _ => rfl
  have b__law_names := D__law_names.fn.binds rfl (ps := ["_law_pot_here", "_law_most"]) fun _ _ _ _ _ _ us hl => match us, hl with | [_, _], _ => rfl
  have b__law_row := D__law_row.fn.binds rfl (ps := ["_law_pot_here", "_law_left", "_law_rows"]) fun _ _ _ _ _ _ us hl => match us, hl with | [_, _, _], _ => rfl
  have b__law_part := D__law_part.fn.binds rfl (ps := ["_law_pot_here", "_law_marks", "_law_left", "_law_most"]) fun _ _ _ _ _ _ us hl => match us, hl with | [_, _, _, _], _ => rfl
  have b__law_is_name := D__law_is_name.fn.binds rfl (ps := ["_law_thing"]) fun _ _ _ _ _ _ us hl => match us, hl with | [_], _ => rfl
  have b__law_is_whole := D__law_is_whole.fn.binds rfl (ps := ["_law_thing"]) fun _ _ _ _ _ _ us hl => match us, hl with | [_], _ => rfl
  have b__law_is_kind := D__law_is_kind.fn.binds rfl (ps := ["_law_thing"]) fun _ _ _ _ _ _ us hl => match us, hl with | [_], _ => rfl
  have b__law_is_term := D__law_is_term.fn.binds rfl (ps := ["_law_thing"]) fun _ _ _ _ _ _ us hl => match us, hl with | [_], _ => rfl
  have b__law_is_fields := D__law_is_fields.fn.binds rfl (ps := ["_law_thing"]) fun _ _ _ _ _ _ us hl => match us, hl with | [_], _ => rfl
  have b__law_is_row := D__law_is_row.fn.binds rfl (ps := ["_law_thing"]) fun _ _ _ _ _ _ us hl => match us, hl with | [_], _ => rfl
  have b__law_is_pairs := D__law_is_pairs.fn.binds rfl (ps := ["_law_thing"]) fun _ _ _ _ _ _ us hl => match us, hl with | [_], _ => rfl
  have b__law_is_part := D__law_is_part.fn.binds rfl (ps := ["_law_thing"]) fun _ _ _ _ _ _ us hl => match us, hl with | [_], _ => rfl
  have b__law_made := D__law_made.fn.binds rfl (ps := ["_law_pot_here", "_law_part_here"]) fun _ _ _ _ _ _ us hl => match us, hl with | [_, _], _ => rfl
  have b__law_row_anywhere := D__law_row_anywhere.fn.binds rfl (ps := ["_law_pot_here", "_law_rows"]) fun _ _ _ _ _ _ us hl => match us, hl with | [_, _], _ => rfl
  have b__law_anywhere := D__law_anywhere.fn.binds rfl (ps := ["_law_pot_here", "_law_part_here"]) fun _ _ _ _ _ _ us hl => match us, hl with | [_, _], _ => rfl
  have T : Tp mg := ⟨PySem.W.mg_none_of X G z_isinstance, PySem.W.mg_none_of X G z_str, PySem.W.mg_none_of X G z_tuple, PySem.W.mg_none_of X G z_bool, PySem.W.mg_none_of X G z_list, PySem.W.mg_none_of X G z_len, PySem.W.mg_none_of X G z_range, PySem.W.mg_none_of X G z_int, PySem.W.mg_none_of X G z_set, PySem.W.mg_none_of X G z_sorted, PySem.W.mg_none_of X G z_all, PySem.W.mg_none_of X G z_zip, PySem.W.mg_none_of X G z_repr, PySem.W.mg_none_of X G z_max, ⟨u_LONGEST_NAME, PySem.W.mg_of X G g_LONGEST_NAME, r_LONGEST_NAME⟩, ⟨u_NUMBERS, PySem.W.mg_of X G g_NUMBERS, r_NUMBERS⟩, ⟨u_MOST_LISTED, PySem.W.mg_of X G g_MOST_LISTED, r_MOST_LISTED⟩⟩
  have q_KEPT_WORDS : ∃ u, mg "KEPT_WORDS" = some u ∧ RelV (.ref p_KEPT_WORDS) u := ⟨_, PySem.W.mg_of X G g_KEPT_WORDS, rfl⟩
  have s_KEPT_WORDS : ∀ H, SqT K H p_KEPT_WORDS [.str "number", .str "truth", .str "yes", .str "no"] := sqT_K l_KEPT_WORDS h_KEPT_WORDS v_KEPT_WORDS
  have q_LEAVES : ∃ u, mg "LEAVES" = some u ∧ RelV (.ref p_LEAVES) u := ⟨_, PySem.W.mg_of X G g_LEAVES, rfl⟩
  have s_LEAVES : ∀ H, SqT K H p_LEAVES [.str "number", .str "truth", .str "name", .str "box", .str "empty"] := sqT_K l_LEAVES h_LEAVES v_LEAVES
  have q_SORTS : ∃ u, mg "SORTS" = some u ∧ RelV (.ref p_SORTS) u := ⟨_, PySem.W.mg_of X G g_SORTS, rfl⟩
  have d_SORTS : KDict K w p_SORTS es_SORTS on_SORTS := ⟨l_SORTS, k_SORTS, w_SORTS⟩
  have x_SORTS_1 : ∀ H, SqT K H e_SORTS_1 [.str "number", .str "number"] := sqT_K l_SORTS_1 h_SORTS_1 v_SORTS_1
  have x_SORTS_2 : ∀ H, SqT K H e_SORTS_2 [.str "number", .str "number"] := sqT_K l_SORTS_2 h_SORTS_2 v_SORTS_2
  have x_SORTS_3 : ∀ H, SqT K H e_SORTS_3 [.str "number", .str "number"] := sqT_K l_SORTS_3 h_SORTS_3 v_SORTS_3
  have x_SORTS_4 : ∀ H, SqT K H e_SORTS_4 [.str "number", .str "number"] := sqT_K l_SORTS_4 h_SORTS_4 v_SORTS_4
  have x_SORTS_5 : ∀ H, SqT K H e_SORTS_5 [.str "", .str ""] := sqT_K l_SORTS_5 h_SORTS_5 v_SORTS_5
  have x_SORTS_6 : ∀ H, SqT K H e_SORTS_6 [.str "truth", .str "truth"] := sqT_K l_SORTS_6 h_SORTS_6 v_SORTS_6
  have x_SORTS_7 : ∀ H, SqT K H e_SORTS_7 [.str "list", .str "list"] := sqT_K l_SORTS_7 h_SORTS_7 v_SORTS_7
  have x_SORTS_8 : ∀ H, SqT K H e_SORTS_8 [.str "truth"] := sqT_K l_SORTS_8 h_SORTS_8 v_SORTS_8
  have x_SORTS_9 : ∀ H, SqT K H e_SORTS_9 [.str "list"] := sqT_K l_SORTS_9 h_SORTS_9 v_SORTS_9
  have x_SORTS_10 : ∀ H, SqT K H e_SORTS_10 [.str "truth", .str "", .str ""] := sqT_K l_SORTS_10 h_SORTS_10 v_SORTS_10
  have x_SORTS_11 : ∀ H, SqT K H e_SORTS_11 [.str "list", .str "number", .str ""] := sqT_K l_SORTS_11 h_SORTS_11 v_SORTS_11
  have x_SORTS_12 : ∀ H, SqT K H e_SORTS_12 [.str "record"] := sqT_K l_SORTS_12 h_SORTS_12 v_SORTS_12
  have q_FORMS : ∃ u, mg "FORMS" = some u ∧ RelV (.ref p_FORMS) u := ⟨_, PySem.W.mg_of X G g_FORMS, rfl⟩
  have d_FORMS : KDict K w p_FORMS es_FORMS on_FORMS := ⟨l_FORMS, k_FORMS, w_FORMS⟩
  have x_FORMS_1 : ∀ H, SqT K H e_FORMS_1 [.str "name", .str "term"] := sqT_K l_FORMS_1 h_FORMS_1 v_FORMS_1
  have x_FORMS_2 : ∀ H, SqT K H e_FORMS_2 [.str "name", .str "term"] := sqT_K l_FORMS_2 h_FORMS_2 v_FORMS_2
  have x_FORMS_3 : ∀ H, SqT K H e_FORMS_3 [.str "term", .str "name", .str "term"] := sqT_K l_FORMS_3 h_FORMS_3 v_FORMS_3
  have x_FORMS_4 : ∀ H, SqT K H e_FORMS_4 [.str "name", .str "name", .str "fields"] := sqT_K l_FORMS_4 h_FORMS_4 v_FORMS_4
  have x_FORMS_5 : ∀ H, SqT K H e_FORMS_5 [.str "name", .str "name", .str "terms"] := sqT_K l_FORMS_5 h_FORMS_5 v_FORMS_5
  have x_FORMS_6 : ∀ H, SqT K H e_FORMS_6 [.str "term"] := sqT_K l_FORMS_6 h_FORMS_6 v_FORMS_6
  have x_FORMS_7 : ∀ H, SqT K H e_FORMS_7 [.str "name"] := sqT_K l_FORMS_7 h_FORMS_7 v_FORMS_7
  have x_FORMS_8 : ∀ H, SqT K H e_FORMS_8 [.str "count"] := sqT_K l_FORMS_8 h_FORMS_8 v_FORMS_8
  have x_FORMS_9 : ∀ H, SqT K H e_FORMS_9 [.str "term", .str "count"] := sqT_K l_FORMS_9 h_FORMS_9 v_FORMS_9
  have x_FORMS_10 : ∀ H, SqT K H e_FORMS_10 [.str "term"] := sqT_K l_FORMS_10 h_FORMS_10 v_FORMS_10
  refine ⟨PySem.W.fnOf "law" "law" (fnArgs sLaw) (fnBody sLaw) (fnScope sLaw) .none kV42 dc42 pm42 an42 cd42 ct42, fun s v => .of_eq rfl, fun base _ _ => ?_⟩
  have TK : Kept K mg p_KEPT_WORDS := ⟨q_KEPT_WORDS, s_KEPT_WORDS⟩
  have TV : Lv K mg p_LEAVES := ⟨q_LEAVES, s_LEAVES⟩
  have TC : Ct K w mg p_SORTS es_SORTS on_SORTS [("add", V.ref e_SORTS_1), ("less", V.ref e_SORTS_2), ("times", V.ref e_SORTS_3), ("under", V.ref e_SORTS_4), ("same", V.ref e_SORTS_5), ("both", V.ref e_SORTS_6), ("join", V.ref e_SORTS_7), ("not", V.ref e_SORTS_8), ("many", V.ref e_SORTS_9), ("pick", V.ref e_SORTS_10), ("at", V.ref e_SORTS_11), ("field", V.ref e_SORTS_12)] := ⟨q_SORTS, d_SORTS, n_SORTS, .cons ⟨rfl, e_SORTS_1, _, rfl, x_SORTS_1, rfl⟩ (.cons ⟨rfl, e_SORTS_2, _, rfl, x_SORTS_2, rfl⟩ (.cons ⟨rfl, e_SORTS_3, _, rfl, x_SORTS_3, rfl⟩ (.cons ⟨rfl, e_SORTS_4, _, rfl, x_SORTS_4, rfl⟩ (.cons ⟨rfl, e_SORTS_5, _, rfl, x_SORTS_5, rfl⟩ (.cons ⟨rfl, e_SORTS_6, _, rfl, x_SORTS_6, rfl⟩ (.cons ⟨rfl, e_SORTS_7, _, rfl, x_SORTS_7, rfl⟩ (.cons ⟨rfl, e_SORTS_8, _, rfl, x_SORTS_8, rfl⟩ (.cons ⟨rfl, e_SORTS_9, _, rfl, x_SORTS_9, rfl⟩ (.cons ⟨rfl, e_SORTS_10, _, rfl, x_SORTS_10, rfl⟩ (.cons ⟨rfl, e_SORTS_11, _, rfl, x_SORTS_11, rfl⟩ (.cons ⟨rfl, e_SORTS_12, _, rfl, x_SORTS_12, rfl⟩ (.nil))))))))))))⟩
  have TF : Fm K w mg p_FORMS es_FORMS on_FORMS [("let", V.ref e_FORMS_1), ("put", V.ref e_FORMS_2), ("set", V.ref e_FORMS_3), ("new", V.ref e_FORMS_4), ("call", V.ref e_FORMS_5), ("tell", V.ref e_FORMS_6), ("mark", V.ref e_FORMS_7), ("go", V.ref e_FORMS_8), ("unless", V.ref e_FORMS_9), ("back", V.ref e_FORMS_10)] := ⟨q_FORMS, d_FORMS, n_FORMS, .cons ⟨rfl, e_FORMS_1, rfl, x_FORMS_1⟩ (.cons ⟨rfl, e_FORMS_2, rfl, x_FORMS_2⟩ (.cons ⟨rfl, e_FORMS_3, rfl, x_FORMS_3⟩ (.cons ⟨rfl, e_FORMS_4, rfl, x_FORMS_4⟩ (.cons ⟨rfl, e_FORMS_5, rfl, x_FORMS_5⟩ (.cons ⟨rfl, e_FORMS_6, rfl, x_FORMS_6⟩ (.cons ⟨rfl, e_FORMS_7, rfl, x_FORMS_7⟩ (.cons ⟨rfl, e_FORMS_8, rfl, x_FORMS_8⟩ (.cons ⟨rfl, e_FORMS_9, rfl, x_FORMS_9⟩ (.cons ⟨rfl, e_FORMS_10, rfl, x_FORMS_10⟩ (.nil))))))))))⟩
  have cTake := c_take (P := l.prog) (w := w) (base := base) D__law_take b__law_take
  have cName := c_name T cTake D__law_name b__law_name
  have cKind := c_kind T cTake cName D__law_kind b__law_kind 8
  have cLeaf := c_leaf T cTake cName cKind D__law_leaf b__law_leaf
  have cTerm := c_term T cTake cName cLeaf D__law_term b__law_term 11
  have cSome := c_some cTerm D__law_some b__law_some
  have cNames := c_names T cTake cName D__law_names b__law_names
  have cRow := c_row T cTake cName cNames cSome D__law_row b__law_row
  have cPart := c_part T cTake cName cKind cNames cSome cRow D__law_part b__law_part
  have cMade := c_made T cTake D__law_made b__law_made
  have cAny := c_anywhere T cTake (c_rowAny T cTake D__law_row_anywhere b__law_row_anywhere) D__law_anywhere b__law_anywhere
  have pName := c_isName (P := l.prog) (w := w) (base := base) T TK D_is_name b_is_name
  have pKind := c_isKind T (c_isPair T D__is_pair b__is_pair) pName D_is_kind b_is_kind
  have pLeafPart := c_isLeafPart T (c_isNumber T D_is_number b_is_number) pKind pName D__is_leaf_part b__is_leaf_part
  have pTerm := c_isTerm (c_isShaped T TV TC pLeafPart pName D__is_shaped b__is_shaped) (c_partsOf T TV D_parts_of b_parts_of) D_is_term b_is_term
  have pNamed := c_areNamed T (c_isNamedPair T pName D__is_named_pair b__is_named_pair) D_are_named b_are_named
  have pFits := c_fits T pName pTerm (c_isCount T D_is_count b_is_count) pNamed (c_areRising T D_are_rising b_are_rising) D__fits b__fits
  have pRow := c_isRow T TF pFits D_is_row b_is_row
  have pTakes := c_areTakes T pNamed (c_areUnlike (P := l.prog) (w := w) (base := base) T D_are_unlike b_are_unlike) pKind D__are_takes b__are_takes
  have pRows := c_areRows T pRow (c_jumpsOf (P := l.prog) (w := w) (base := base) T D_jumps_of b_jumps_of) D__are_rows b__are_rows
  have pPart := c_isPart T pTakes pRows pKind D_is_part b_is_part
  have lName := c_lisName (P := l.prog) (w := w) (base := base) T D__law_is_name b__law_is_name
  have lWhole := c_lisWhole (P := l.prog) (w := w) (base := base) T D__law_is_whole b__law_is_whole
  have lKind := c_lisKind T lName D__law_is_kind b__law_is_kind
  have lTerm := c_lisTerm T lName lWhole lKind D__law_is_term b__law_is_term 40
  have lFields := c_lisFields T lName lTerm D__law_is_fields b__law_is_fields
  have lRow := c_lisRow T lName lWhole lTerm lFields D__law_is_row b__law_is_row
  have lPart := c_lisPart T (N := 40) (c_lisPairs T lName lKind D__law_is_pairs b__law_is_pairs) lKind lRow D__law_is_part b__law_is_part
  exact f_law T (c_cell D__law_cell b__law_cell) (c_pot T D__law_pot b__law_pot) cPart cMade cAny pPart lPart D_law
end K25
open PySem PySem.W PyProof.Rows
set_option maxHeartbeats 0 in
theorem PySem.Challenge.cw_changewhile_k25_parts_told_apart_holds : PySem.Challenge.rw_changewhile_k25_parts_told_apart.Holds := by
  w_on; o_law; k_head; (case hw => w_witness2)
  k_fill
  refine L2.walkG (l := PySem.Challenge.rw_changewhile_k25_parts_told_apart) (n := 63) (k := 47) (x := "_law_script") (sp := K25.spLaw) rfl (by decide) rfl ⟨rfl, by decide, by decide⟩ (fun w h Y => PySem.W.kIn_of Y) ?F (fun K H a ns hl _ hS => ⟨a, ns, rfl, hS, hl, fun _ => rfl⟩)
  case F =>
    intro w mg fa h KX G hmg
    refine' K25.all_mk KX G hmg ?a1 ?l1 ?c1 ?k1 ?a2 ?l2 ?c2 ?k2 ?a3 ?l3 ?c3 ?k3 ?a4 ?l4 ?c4 ?k4 ?a5 ?l5 ?c5 ?k5 ?a6 ?l6 ?c6 ?k6 ?a7 ?l7 ?c7 ?k7 ?a8 ?l8 ?c8 ?k8 ?a9 ?l9 ?c9 ?k9 ?a10 ?l10 ?c10 ?k10 ?a11 ?l11 ?c11 ?k11 ?a12 ?l12 ?c12 ?k12 ?a13 ?l13 ?c13 ?k13 ?a14 ?l14 ?c14 ?k14 ?a15 ?l15 ?c15 ?k15 ?a16 ?l16 ?c16 ?k16 ?a17 ?l17 ?c17 ?k17 ?a18 ?l18 ?c18 ?k18 ?a19 ?l19 ?c19 ?k19 ?a20 ?l20 ?c20 ?k20 ?a21 ?l21 ?c21 ?k21 ?a22 ?l22 ?c22 ?k22 ?a23 ?l23 ?c23 ?k23 ?a24 ?l24 ?c24 ?k24 ?a25 ?l25 ?c25 ?k25 ?a26 ?l26 ?c26 ?k26 ?a27 ?l27 ?c27 ?k27 ?a28 ?l28 ?c28 ?k28 ?a29 ?l29 ?c29 ?k29 ?a30 ?l30 ?c30 ?k30 ?a31 ?l31 ?c31 ?k31 ?a32 ?l32 ?c32 ?k32 ?a33 ?l33 ?c33 ?k33 ?a34 ?l34 ?c34 ?k34 ?a35 ?l35 ?c35 ?k35 ?a36 ?l36 ?c36 ?k36 ?a37 ?l37 ?c37 ?k37 ?a38 ?l38 ?c38 ?k38 ?a39 ?l39 ?c39 ?k39 ?a40 ?l40 ?c40 ?k40 ?a41 ?l41 ?c41 ?k41 ?a42 ?l42 ?c42 ?k42 ?z_isinstance ?z_str ?z_tuple ?z_bool ?z_list ?z_len ?z_range ?z_int ?z_set ?z_sorted ?z_all ?z_zip ?z_repr ?z_max ?g_LONGEST_NAME ?r_LONGEST_NAME ?g_NUMBERS ?r_NUMBERS ?g_MOST_LISTED ?r_MOST_LISTED ?g_KEPT_WORDS ?l_KEPT_WORDS ?v_KEPT_WORDS ?h_KEPT_WORDS ?g_LEAVES ?l_LEAVES ?v_LEAVES ?h_LEAVES ?g_SORTS ?l_SORTS ?k_SORTS ?w_SORTS ?n_SORTS ?l_SORTS_1 ?v_SORTS_1 ?h_SORTS_1 ?l_SORTS_2 ?v_SORTS_2 ?h_SORTS_2 ?l_SORTS_3 ?v_SORTS_3 ?h_SORTS_3 ?l_SORTS_4 ?v_SORTS_4 ?h_SORTS_4 ?l_SORTS_5 ?v_SORTS_5 ?h_SORTS_5 ?l_SORTS_6 ?v_SORTS_6 ?h_SORTS_6 ?l_SORTS_7 ?v_SORTS_7 ?h_SORTS_7 ?l_SORTS_8 ?v_SORTS_8 ?h_SORTS_8 ?l_SORTS_9 ?v_SORTS_9 ?h_SORTS_9 ?l_SORTS_10 ?v_SORTS_10 ?h_SORTS_10 ?l_SORTS_11 ?v_SORTS_11 ?h_SORTS_11 ?l_SORTS_12 ?v_SORTS_12 ?h_SORTS_12 ?g_FORMS ?l_FORMS ?k_FORMS ?w_FORMS ?n_FORMS ?l_FORMS_1 ?v_FORMS_1 ?h_FORMS_1 ?l_FORMS_2 ?v_FORMS_2 ?h_FORMS_2 ?l_FORMS_3 ?v_FORMS_3 ?h_FORMS_3 ?l_FORMS_4 ?v_FORMS_4 ?h_FORMS_4 ?l_FORMS_5 ?v_FORMS_5 ?h_FORMS_5 ?l_FORMS_6 ?v_FORMS_6 ?h_FORMS_6 ?l_FORMS_7 ?v_FORMS_7 ?h_FORMS_7 ?l_FORMS_8 ?v_FORMS_8 ?h_FORMS_8 ?l_FORMS_9 ?v_FORMS_9 ?h_FORMS_9 ?l_FORMS_10 ?v_FORMS_10 ?h_FORMS_10
    (case a1 => k_is); (case l1 => k_is); (case c1 => k_is); (case k1 => k_is); (case a2 => k_is); (case l2 => k_is); (case c2 => k_is); (case k2 => k_is); (case a3 => k_is); (case l3 => k_is); (case c3 => k_is); (case k3 => k_is); (case a4 => k_is); (case l4 => k_is); (case c4 => k_is); (case k4 => k_is); (case a5 => k_is); (case l5 => k_is); (case c5 => k_is); (case k5 => k_is); (case a6 => k_is); (case l6 => k_is); (case c6 => k_is); (case k6 => k_is); (case a7 => k_is); (case l7 => k_is); (case c7 => k_is); (case k7 => k_is); (case a8 => k_is); (case l8 => k_is); (case c8 => k_is); (case k8 => k_is); (case a9 => k_is); (case l9 => k_is); (case c9 => k_is); (case k9 => k_is); (case a10 => k_is); (case l10 => k_is); (case c10 => k_is); (case k10 => k_is); (case a11 => k_is); (case l11 => k_is); (case c11 => k_is); (case k11 => k_is); (case a12 => k_is); (case l12 => k_is); (case c12 => k_is); (case k12 => k_is); (case a13 => k_is); (case l13 => k_is); (case c13 => k_is); (case k13 => k_is); (case a14 => k_is); (case l14 => k_is); (case c14 => k_is); (case k14 => k_is); (case a15 => k_is); (case l15 => k_is); (case c15 => k_is); (case k15 => k_is); (case a16 => k_is); (case l16 => k_is); (case c16 => k_is); (case k16 => k_is); (case a17 => k_is); (case l17 => k_is); (case c17 => k_is); (case k17 => k_is); (case a18 => k_is); (case l18 => k_is); (case c18 => k_is); (case k18 => k_is); (case a19 => k_is); (case l19 => k_is); (case c19 => k_is); (case k19 => k_is); (case a20 => k_is); (case l20 => k_is); (case c20 => k_is); (case k20 => k_is); (case a21 => k_is); (case l21 => k_is); (case c21 => k_is); (case k21 => k_is); (case a22 => k_is); (case l22 => k_is); (case c22 => k_is); (case k22 => k_is); (case a23 => k_is); (case l23 => k_is); (case c23 => k_is); (case k23 => k_is); (case a24 => k_is); (case l24 => k_is); (case c24 => k_is); (case k24 => k_is); (case a25 => k_is); (case l25 => k_is); (case c25 => k_is); (case k25 => k_is); (case a26 => k_is); (case l26 => k_is); (case c26 => k_is); (case k26 => k_is); (case a27 => k_is); (case l27 => k_is); (case c27 => k_is); (case k27 => k_is); (case a28 => k_is); (case l28 => k_is); (case c28 => k_is); (case k28 => k_is); (case a29 => k_is); (case l29 => k_is); (case c29 => k_is); (case k29 => k_is); (case a30 => k_is); (case l30 => k_is); (case c30 => k_is); (case k30 => k_is); (case a31 => k_is); (case l31 => k_is); (case c31 => k_is); (case k31 => k_is); (case a32 => k_is); (case l32 => k_is); (case c32 => k_is); (case k32 => k_is); (case a33 => k_is); (case l33 => k_is); (case c33 => k_is); (case k33 => k_is); (case a34 => k_is); (case l34 => k_is); (case c34 => k_is); (case k34 => k_is); (case a35 => k_is); (case l35 => k_is); (case c35 => k_is); (case k35 => k_is); (case a36 => k_is); (case l36 => k_is); (case c36 => k_is); (case k36 => k_is); (case a37 => k_is); (case l37 => k_is); (case c37 => k_is); (case k37 => k_is); (case a38 => k_is); (case l38 => k_is); (case c38 => k_is); (case k38 => k_is); (case a39 => k_is); (case l39 => k_is); (case c39 => k_is); (case k39 => k_is); (case a40 => k_is); (case l40 => k_is); (case c40 => k_is); (case k40 => k_is); (case a41 => k_is); (case l41 => k_is); (case c41 => k_is); (case k41 => k_is); (case a42 => k_is); (case l42 => k_is); (case c42 => k_is); (case k42 => k_is); (case z_isinstance => k_is); (case z_str => k_is); (case z_tuple => k_is); (case z_bool => k_is); (case z_list => k_is); (case z_len => k_is); (case z_range => k_is); (case z_int => k_is); (case z_set => k_is); (case z_sorted => k_is); (case z_all => k_is); (case z_zip => k_is); (case z_repr => k_is); (case z_max => k_is); (case g_LONGEST_NAME => k_is); (case g_NUMBERS => k_is); (case g_MOST_LISTED => k_is); (case g_KEPT_WORDS => k_is); (case l_KEPT_WORDS => k_is); (case g_LEAVES => k_is); (case l_LEAVES => k_is); (case g_SORTS => k_is); (case l_SORTS => k_is); (case g_FORMS => k_is); (case l_FORMS => k_is)
    (case r_LONGEST_NAME => exact ⟨_, rfl⟩)
    (case r_NUMBERS => exact ⟨_, rfl⟩)
    (case r_MOST_LISTED => exact ⟨_, rfl⟩)
    (case v_KEPT_WORDS => exact .cons ⟨_, rfl⟩ (.cons ⟨_, rfl⟩ (.cons ⟨_, rfl⟩ (.cons ⟨_, rfl⟩ (.nil)))))
    (case h_KEPT_WORDS => rw [sizeLine_eq]; decide)
    (case v_LEAVES => exact .cons ⟨_, rfl⟩ (.cons ⟨_, rfl⟩ (.cons ⟨_, rfl⟩ (.cons ⟨_, rfl⟩ (.cons ⟨_, rfl⟩ (.nil))))))
    (case h_LEAVES => rw [sizeLine_eq]; decide)
    (case k_SORTS => k_keys)
    (case w_SORTS => decide)
    (case n_SORTS => exact .cons ⟨⟨_, rfl⟩, rfl⟩ (.cons ⟨⟨_, rfl⟩, rfl⟩ (.cons ⟨⟨_, rfl⟩, rfl⟩ (.cons ⟨⟨_, rfl⟩, rfl⟩ (.cons ⟨⟨_, rfl⟩, rfl⟩ (.cons ⟨⟨_, rfl⟩, rfl⟩ (.cons ⟨⟨_, rfl⟩, rfl⟩ (.cons ⟨⟨_, rfl⟩, rfl⟩ (.cons ⟨⟨_, rfl⟩, rfl⟩ (.cons ⟨⟨_, rfl⟩, rfl⟩ (.cons ⟨⟨_, rfl⟩, rfl⟩ (.cons ⟨⟨_, rfl⟩, rfl⟩ (.nil)))))))))))))
    (case l_SORTS_1 => k_is)
    (case v_SORTS_1 => exact .cons ⟨_, rfl⟩ (.cons ⟨_, rfl⟩ (.nil)))
    (case h_SORTS_1 => rw [sizeLine_eq]; decide)
    (case l_SORTS_2 => k_is)
    (case v_SORTS_2 => exact .cons ⟨_, rfl⟩ (.cons ⟨_, rfl⟩ (.nil)))
    (case h_SORTS_2 => rw [sizeLine_eq]; decide)
    (case l_SORTS_3 => k_is)
    (case v_SORTS_3 => exact .cons ⟨_, rfl⟩ (.cons ⟨_, rfl⟩ (.nil)))
    (case h_SORTS_3 => rw [sizeLine_eq]; decide)
    (case l_SORTS_4 => k_is)
    (case v_SORTS_4 => exact .cons ⟨_, rfl⟩ (.cons ⟨_, rfl⟩ (.nil)))
    (case h_SORTS_4 => rw [sizeLine_eq]; decide)
    (case l_SORTS_5 => k_is)
    (case v_SORTS_5 => exact .cons ⟨_, rfl⟩ (.cons ⟨_, rfl⟩ (.nil)))
    (case h_SORTS_5 => rw [sizeLine_eq]; decide)
    (case l_SORTS_6 => k_is)
    (case v_SORTS_6 => exact .cons ⟨_, rfl⟩ (.cons ⟨_, rfl⟩ (.nil)))
    (case h_SORTS_6 => rw [sizeLine_eq]; decide)
    (case l_SORTS_7 => k_is)
    (case v_SORTS_7 => exact .cons ⟨_, rfl⟩ (.cons ⟨_, rfl⟩ (.nil)))
    (case h_SORTS_7 => rw [sizeLine_eq]; decide)
    (case l_SORTS_8 => k_is)
    (case v_SORTS_8 => exact .cons ⟨_, rfl⟩ (.nil))
    (case h_SORTS_8 => rw [sizeLine_eq]; decide)
    (case l_SORTS_9 => k_is)
    (case v_SORTS_9 => exact .cons ⟨_, rfl⟩ (.nil))
    (case h_SORTS_9 => rw [sizeLine_eq]; decide)
    (case l_SORTS_10 => k_is)
    (case v_SORTS_10 => exact .cons ⟨_, rfl⟩ (.cons ⟨_, rfl⟩ (.cons ⟨_, rfl⟩ (.nil))))
    (case h_SORTS_10 => rw [sizeLine_eq]; decide)
    (case l_SORTS_11 => k_is)
    (case v_SORTS_11 => exact .cons ⟨_, rfl⟩ (.cons ⟨_, rfl⟩ (.cons ⟨_, rfl⟩ (.nil))))
    (case h_SORTS_11 => rw [sizeLine_eq]; decide)
    (case l_SORTS_12 => k_is)
    (case v_SORTS_12 => exact .cons ⟨_, rfl⟩ (.nil))
    (case h_SORTS_12 => rw [sizeLine_eq]; decide)
    (case k_FORMS => k_keys)
    (case w_FORMS => decide)
    (case n_FORMS => exact .cons ⟨⟨_, rfl⟩, rfl⟩ (.cons ⟨⟨_, rfl⟩, rfl⟩ (.cons ⟨⟨_, rfl⟩, rfl⟩ (.cons ⟨⟨_, rfl⟩, rfl⟩ (.cons ⟨⟨_, rfl⟩, rfl⟩ (.cons ⟨⟨_, rfl⟩, rfl⟩ (.cons ⟨⟨_, rfl⟩, rfl⟩ (.cons ⟨⟨_, rfl⟩, rfl⟩ (.cons ⟨⟨_, rfl⟩, rfl⟩ (.cons ⟨⟨_, rfl⟩, rfl⟩ (.nil)))))))))))
    (case l_FORMS_1 => k_is)
    (case v_FORMS_1 => exact .cons ⟨_, rfl⟩ (.cons ⟨_, rfl⟩ (.nil)))
    (case h_FORMS_1 => rw [sizeLine_eq]; decide)
    (case l_FORMS_2 => k_is)
    (case v_FORMS_2 => exact .cons ⟨_, rfl⟩ (.cons ⟨_, rfl⟩ (.nil)))
    (case h_FORMS_2 => rw [sizeLine_eq]; decide)
    (case l_FORMS_3 => k_is)
    (case v_FORMS_3 => exact .cons ⟨_, rfl⟩ (.cons ⟨_, rfl⟩ (.cons ⟨_, rfl⟩ (.nil))))
    (case h_FORMS_3 => rw [sizeLine_eq]; decide)
    (case l_FORMS_4 => k_is)
    (case v_FORMS_4 => exact .cons ⟨_, rfl⟩ (.cons ⟨_, rfl⟩ (.cons ⟨_, rfl⟩ (.nil))))
    (case h_FORMS_4 => rw [sizeLine_eq]; decide)
    (case l_FORMS_5 => k_is)
    (case v_FORMS_5 => exact .cons ⟨_, rfl⟩ (.cons ⟨_, rfl⟩ (.cons ⟨_, rfl⟩ (.nil))))
    (case h_FORMS_5 => rw [sizeLine_eq]; decide)
    (case l_FORMS_6 => k_is)
    (case v_FORMS_6 => exact .cons ⟨_, rfl⟩ (.nil))
    (case h_FORMS_6 => rw [sizeLine_eq]; decide)
    (case l_FORMS_7 => k_is)
    (case v_FORMS_7 => exact .cons ⟨_, rfl⟩ (.nil))
    (case h_FORMS_7 => rw [sizeLine_eq]; decide)
    (case l_FORMS_8 => k_is)
    (case v_FORMS_8 => exact .cons ⟨_, rfl⟩ (.nil))
    (case h_FORMS_8 => rw [sizeLine_eq]; decide)
    (case l_FORMS_9 => k_is)
    (case v_FORMS_9 => exact .cons ⟨_, rfl⟩ (.cons ⟨_, rfl⟩ (.nil)))
    (case h_FORMS_9 => rw [sizeLine_eq]; decide)
    (case l_FORMS_10 => k_is)
    (case v_FORMS_10 => exact .cons ⟨_, rfl⟩ (.nil))
    (case h_FORMS_10 => rw [sizeLine_eq]; decide)
