import PyProof.Rows.All
import Wide.All
import OpenK.AllK
import Wide.FinOn
import HandS.ForMost
import HandS.Codes
import HandS.Wide
import HandS.Deep
import HandS.IsInst
import HandS.TupAny
import HandS.StrMore
import HandS.Style
import HandS.ExcOwn
import HandS.Set
import HandS.SetTxt0
import HandS.SetFor
import HandS.Strs
import HandS.TupSets
import HandS.DeepEq
import HandS.DictComp
import HandS.Iter
import HandS.Walk
import KE.GoesEnum
import KE.GoesMore
import HandS.Dict
import HandS.Star
import HandS.Finally
import HandS.Exc
import HandS.ExcCtx
import HandS.ExcIs
import HandS.HotCalls
import HandS.ForExc
import PyProof.SetRoads
import KE.KRevSl
import HandS.Zip
import KE.KDictZip
import HandS.ListItems
import HandS.More
import KE.KeyNested
import HandS.SortRule
import PyProof.EqKinds
import PySem.Challenge.RW_changewhile_k31_kinds_of_terms
import HandS.Lambda
import HandS.Nested
import HandS.TupMul
import PyProof.NeKinds
import HandS.Sort
import KE.KDictList
import HandS.EndTab
set_option Elab.async false
set_option linter.all false
set_option maxRecDepth 100000
set_option maxHeartbeats 4000000
namespace L2
open PySem PySem.Spec PyProof.Rows
open C8 (Cal Def cal0 pe_c fnBody fnScope fnArgs)

/-! ### heaps: all but one list stays -/
def But (p : Addr) (H H' : Hp) : Prop := ∀ b o, b ≠ p → H b = some o → H' b = some o
theorem But.refl (p : Addr) (H : Hp) : But p H H := fun _ _ _ h => h
theorem But.trans {p : Addr} {H H1 H2 : Hp} (a : But p H H1) (b : But p H1 H2) : But p H H2 := fun c o n h => b c o n (a c o n h)
theorem But.same {p : Addr} {H H1 : Hp} (a : Same H H1) : But p H H1 := fun b o _ h => a b o h
theorem Same.new {q : Addr} {H : Hp} {o : HO} (h : H q = none) : Same H (upd H q o) := fun b u e => by
  rw [upd_ne (ne_of_none e h)]
  exact e
theorem But.new {p q : Addr} {H : Hp} {o : HO} (h : H q = none) : But p H (upd H q o) := But.same (Same.new h)
theorem But.pot {p : Addr} {H H' : Hp} {o : HO} (e : But p H H') : But p H (upd H' p o) := fun b u n h => by
  rw [upd_ne n]
  exact e b u n h
def hid (p : Addr) (H : Hp) : Hp := fun b => if b = p then none else H b
theorem hid_ne {p b : Addr} {H : Hp} (h : b ≠ p) : hid p H b = H b := if_neg h
theorem hid_some {p b : Addr} {H : Hp} {o : HO} (h : hid p H b = some o) : b ≠ p ∧ H b = some o := by
  unfold hid at h
  by_cases e : b = p
  · rw [if_pos e] at h; cases h
  · rw [if_neg e] at h; exact ⟨e, h⟩
theorem hid_but {p : Addr} {H H' : Hp} (e : But p H H') : Same (hid p H) (hid p H') := fun b o h => by
  obtain ⟨n, h⟩ := hid_some h
  rw [hid_ne n]
  exact e b o n h
theorem hid_in {p : Addr} {H : Hp} : Same (hid p H) H := fun b o h => (hid_some h).2

/-! ### data -/
section
variable {K : PySem.W.Frag}
theorem sqT_mono {H H' : Hp} {a : Addr} {xs : List V} (e : Same H H') (h : SqT K H a xs) : SqT K H' a xs := by
  rcases h with (h | ⟨o, h⟩) | h
  · exact .inl (.inl (e _ _ h))
  · exact .inl (.inr ⟨o, e _ _ h⟩)
  · exact .inr h
mutual
theorem Dp.mono {H H' : Hp} (e : Same H H') : ∀ {v : V} {d : PyData}, Dp K H v d → Dp K H' v d
  | _, _, .non => .non
  | _, _, .bl b => .bl b
  | _, _, .int i => .int i
  | _, _, .str x => .str x
  | _, _, .lst h a => .lst (e.seq h) (DpAll.mono e a)
  | _, _, .tup h a => .tup (sqT_mono e h) (DpAll.mono e a)
theorem DpAll.mono {H H' : Hp} (e : Same H H') : ∀ {vs : List V} {ds : List PyData}, DpAll K H vs ds → DpAll K H' vs ds
  | _, _, .nil => .nil
  | _, _, .cons h t => .cons (Dp.mono e h) (DpAll.mono e t)
end
theorem DpAll.len {H : Hp} : ∀ {vs : List V} {ds : List PyData}, DpAll K H vs ds → vs.length = ds.length
  | _, _, .nil => rfl
  | _, _, .cons _ t => congrArg (· + 1) (DpAll.len t)
theorem DpAll.app {H : Hp} : ∀ {vs ws : List V} {ds es : List PyData}, DpAll K H vs ds → DpAll K H ws es → DpAll K H (vs ++ ws) (ds ++ es)
  | _, _, _, _, .nil, t => t
  | _, _, _, _, .cons h s, t => .cons h (DpAll.app s t)
theorem DpAll.get {H : Hp} : ∀ {vs : List V} {ds : List PyData} {i : Nat} {d : PyData}, DpAll K H vs ds → ds[i]? = some d → ∃ v, vs[i]? = some v ∧ Dp K H v d
  | _, _, _, _, .nil, h => by simp at h
  | _, _, 0, _, .cons h _, e => by
    simp at e
    subst e
    exact ⟨_, rfl, h⟩
  | _, _, i + 1, _, .cons _ t, e => by
    obtain ⟨v, h1, h2⟩ := DpAll.get t (i := i) (by simpa using e)
    exact ⟨v, by simpa using h1, h2⟩
/-- data that does not come by the pot -/
abbrev Dh (K : PySem.W.Frag) (p : Addr) (H : Hp) (v : V) (d : PyData) : Prop := Dp K (hid p H) v d
abbrev DhAll (K : PySem.W.Frag) (p : Addr) (H : Hp) (vs : List V) (ds : List PyData) : Prop := DpAll K (hid p H) vs ds
theorem Dp.un {p : Addr} {H : Hp} {v : V} {d : PyData} (h : Dh K p H v d) : Dp K H v d := Dp.mono hid_in h
theorem Dp.but {p : Addr} {H H' : Hp} {v : V} {d : PyData} (e : But p H H') (h : Dh K p H v d) : Dh K p H' v d := Dp.mono (hid_but e) h
theorem DpAll.but {p : Addr} {H H' : Hp} {vs : List V} {ds : List PyData} (e : But p H H') (h : DhAll K p H vs ds) : DhAll K p H' vs ds := DpAll.mono (hid_but e) h
/-- a new tuple, a new list -/
theorem Dp.newT {p q : Addr} {H : Hp} {xs : List V} {ds : List PyData} (hq : H q = none) (n : q ≠ p) (h : DhAll K p H xs ds) : Dh K p (upd H q (.tup xs)) (.ref q) (.tuple ds) :=
  .tup (.inl (.inl (by rw [hid_ne n, upd_same]))) (DpAll.but (But.new hq) h)
theorem Dp.newL {p q : Addr} {H : Hp} {xs : List V} {ds : List PyData} (hq : H q = none) (n : q ≠ p) (h : DhAll K p H xs ds) : Dh K p (upd H q (.lst xs)) (.ref q) (.list ds) :=
  .lst (.inl (.inl (by rw [hid_ne n, upd_same]))) (DpAll.but (But.new hq) h)
theorem Dp.newT0 {q : Addr} {H : Hp} {xs : List V} {ds : List PyData} (hq : H q = none) (h : DpAll K H xs ds) : Dp K (upd H q (.tup xs)) (.ref q) (.tuple ds) :=
  .tup (.inl (.inl upd_same)) (DpAll.mono (Same.new hq) h)
theorem Dp.newL0 {q : Addr} {H : Hp} {xs : List V} {ds : List PyData} (hq : H q = none) (h : DpAll K H xs ds) : Dp K (upd H q (.lst xs)) (.ref q) (.list ds) :=
  .lst (.inl (.inl upd_same)) (DpAll.mono (Same.new hq) h)

/-! ### isinstance of data -/
def tyN : PyData → String
  | .none => "NoneType" | .bool _ => "bool" | .int _ => "int" | .str _ => "str" | .list _ => "list" | .tuple _ => "tuple" | .dict _ => "dict"
theorem Dp.ty {H : Hp} {v : V} {d : PyData} (h : Dp K H v d) : TyX K H v (.type (tyN d)) := by
  cases h with
  | non => exact .base .non
  | bl b => exact .base (.bl b)
  | int i => exact .base (.int i)
  | str x => exact .base (.str x)
  | lst hs _ =>
    rcases hs with (h | ⟨o, h⟩) | ⟨o, its, n, h, hc, _⟩
    · exact .base (.lst h)
    · exact .base (.frz h)
    · exact .kList h hc
  | tup hs _ =>
    rcases hs with (h | ⟨o, h⟩) | ⟨o, its, n, h, hc, _⟩
    · exact .base (.tup h)
    · exact .fTuple h
    · exact .kTuple h hc
def isS : PyData → Bool | .str _ => true | _ => false
def isT : PyData → Bool | .tuple _ => true | _ => false
def isL : PyData → Bool | .list _ => true | _ => false
def isB : PyData → Bool | .bool _ => true | _ => false
def isI : PyData → Bool | .bool _ => true | .int _ => true | _ => false
def isOf : String → PyData → Bool
  | "str", d => isS d
  | "tuple", d => isT d
  | "list", d => isL d
  | "bool", d => isB d
  | "int", d => isI d
  | _, _ => false
def tabN (a T : String) : Bool := a == T || (a == "bool" && T == "int")
theorem kitN : (["NoneType", "bool", "int", "str", "list", "tuple"].all fun a => ["str", "tuple", "list", "bool", "int"].all fun T => kitB a T == some (tabN a T)) = true := by decide +kernel
theorem kit_all {a T : String} (ha : a ∈ ["NoneType", "bool", "int", "str", "list", "tuple"]) (hT : T ∈ ["str", "tuple", "list", "bool", "int"]) : kitB a T = some (tabN a T) := by
  have h := List.all_eq_true.mp (List.all_eq_true.mp kitN a ha) T hT
  exact eq_of_beq h
theorem Dp.nodict {H : Hp} {v : V} {d : PyData} (h : Dp K H v d) : tyN d ≠ "dict" := by cases h <;> (intro e; exact absurd e (by simp [tyN]))
theorem isOf_tab {T : String} (hT : T ∈ ["str", "tuple", "list", "bool", "int"]) (d : PyData) : isOf T d = tabN (tyN d) T := by
  simp only [List.mem_cons, List.not_mem_nil, or_false] at hT
  rcases hT with rfl | rfl | rfl | rfl | rfl <;> cases d <;> first | rfl | decide
theorem isOf_kit {H : Hp} {v : V} {d : PyData} {T : String} (h : Dp K H v d) (hT : T ∈ ["str", "tuple", "list", "bool", "int"]) : kitB (tyN d) T = some (isOf T d) := by
  have n := h.nodict
  rw [isOf_tab hT]
  refine kit_all ?_ hT
  cases d <;> first | exact absurd rfl n | simp [tyN]
end
def rIsD (K : PySem.W.Frag) : List V → Hp → VK → Prop := fun xs H Q => ∃ (v : V) (d : PyData) (T : String), xs = [v, .ty T] ∧ Dp K H v d ∧ T ∈ ["str", "tuple", "list", "bool", "int"] ∧ Q (.bl (isOf T d)) H
section
variable {X : Cx}
theorem call_isD : CallR X (.builtin "isinstance") (rIsD X.K) := by
  intro pins s σ H xs us Q I r h
  obtain ⟨v, d, T, rfl, hd, hT, q⟩ := h
  exact call_isi pins s σ H _ us Q I r ⟨v, .ty T, .type (tyN d), .type T, isOf T d, rfl, .ty T, hd.ty, kit_ty (isOf_kit hd hT), q⟩
/-! ### repr of data -/
def shownB (d : PyData) : Prop := d.showable = true ∧ SeqAt.shaped d = true ∧ d.shown.length ≤ sizeLine
def rReprD (K : PySem.W.Frag) : List V → Hp → VK → Prop := fun xs H Q => ∃ (v : V) (d : PyData), xs = [v] ∧ Dp K H v d ∧ shownB d ∧ Q (.str d.shown) H
theorem call_reprD (hg : X.A.guards = some []) (hu : X.A.units + 70 < cLine) : CallR X (.builtin "repr") (rReprD X.K) := by
  intro pins s σ H xs us Q I r h
  obtain ⟨v, d, rfl, hd, ⟨hs, hsh, hl⟩, q⟩ := h
  obtain ⟨u, rfl, ru⟩ := vals1 r
  have hdep := SeqAt.depth_of_shaped hsh
  have hnd : d.hasDict = false := PyData.hasDict_of_canLay d (SeqAt.canLay_of_shaped hsh)
  obtain ⟨as, rd⟩ := Dp.reads I d v u hd ru
  have big : ∀ a, u = Value.ref a → wpAny (model X.prog X.w) X.A (call (.builtin "repr") [u]) (EP X pins σ Q) X.xe s := fun a e => by
    subst e
    exact repr_of_reads' rd hs (PyData.noDict_hsm hnd) hg (by omega) (fun _ _ e => e) (fun h' t tk k => ⟨.str d.shown, H, I.kept k, ⟨_, rfl⟩, q⟩) hl
  cases hd with
  | non =>
    cases ru
    exact PySem.P.repr_of_none ⟨.str _, H, I.tok _, ⟨_, rfl⟩, by simpa only [PyData.shown] using q⟩
  | bl b =>
    cases ru
    exact PySem.P.repr_of_bool ⟨.str _, H, I.tok _, ⟨_, rfl⟩, by simpa only [PyData.shown] using q⟩
  | int i =>
    obtain ⟨t, rfl⟩ := ru
    exact PySem.P.repr_of_int (by simpa [PyData.showable] using hs) ⟨.str _, H, I.tok _, ⟨_, rfl⟩, by simpa only [PyData.shown] using q⟩
  | str x =>
    obtain ⟨t, rfl⟩ := ru
    exact PySem.P.repr_of_str ⟨.str _, H, I.tok _, ⟨_, rfl⟩, by simpa only [PyData.shown] using q⟩ (by simpa only [PyData.shown] using hl)
  | lst _ _ => exact big _ ru
  | tup _ _ => exact big _ ru
end
/-! ### a comprehension over a text -/
theorem lc_str {z : Str} {g : TG} {tt : TT} {te : TE} {vs : List Nat} {σ : L2.St} {H1 : Hp} {D : Addr} {Qd : Hp → Prop} (Pv : Nat → Hp → Prop) (h0 : Pv 0 (upd H1 D (.lst [])))
    (hs : ∀ i c H, z.cps.toList[i]? = some c → Pv i H → g (.str ⟨#[c]⟩) (wipe σ vs) H fun σ2 H2 => wipe σ2 vs = wipe σ vs ∧ tt σ2 H2 fun b H3 =>
      if b = true then te σ2 H3 fun y H4 => ∃ acc, H4 D = some (.lst acc) ∧ acc.length < sizeLine ∧ Pv (i + 1) (upd H4 D (.lst (acc ++ [y]))) else Pv (i + 1) H3) (hd : ∀ H, Pv z.cps.toList.length H → Qd H) :
    ∃ W : Nat → Nat → Hp → Prop, (∃ m, W 0 m (upd H1 D (.lst []))) ∧ ∀ i m H, W i m H →
      ((Its z).stop i H ∧ Qd H) ∨ ((Its z).go i H ∧ ∃ Nx : Hp → Prop, (∀ H', Nx H' → ∃ m', m' < m ∧ W (i + 1) m' H') ∧ ∀ x H', (Its z).yld i H x H' → g x (wipe σ vs) H' fun σ2 H2 => wipe σ2 vs = wipe σ vs ∧ tt σ2 H2 fun b H3 =>
        if b = true then te σ2 H3 fun y H4 => ∃ acc, H4 D = some (.lst acc) ∧ acc.length < sizeLine ∧ Nx (upd H4 D (.lst (acc ++ [y]))) else Nx H3) := by
  have hz : z.cps.toList.length = z.cps.size := Array.length_toList
  refine ⟨fun i m H => m = z.cps.size - i ∧ i ≤ z.cps.size ∧ Pv i H, ⟨z.cps.size, by simp, Nat.zero_le _, h0⟩, ?_⟩
  rintro i m H ⟨rfl, hi, p⟩
  by_cases hlt : i < z.cps.size
  · refine .inr ⟨hlt, Pv (i + 1), fun H' p' => ⟨z.cps.size - (i + 1), by omega, rfl, hlt, p'⟩, fun x H' y => ?_⟩
    obtain ⟨e, c, hc, rfl⟩ := y
    subst e
    exact hs i c _ (by rw [Array.getElem?_toList]; exact hc) p
  · have e : i = z.cps.size := by omega
    subst e
    exact .inl ⟨Nat.le_refl _, hd H (by rw [hz]; exact p)⟩

/-! ### the pot: two numbers -/
structure Pot (H : Hp) (p : Addr) (x y : Int) : Prop where
  at_ : H p = some (.lst [.int x, .int y])
  x0 : 0 ≤ x
  y0 : 0 ≤ y
  y1 : y < 1099511627776
theorem Pot.ne {H : Hp} {p q : Addr} {x y : Int} (h : Pot H p x y) (hq : H q = none) : q ≠ p := fun e => by
  subst e
  rw [h.at_] at hq
  cases hq
theorem Pot.same {H H' : Hp} {p : Addr} {x y : Int} (h : Pot H p x y) (e : Same H H') : Pot H' p x y := ⟨e _ _ h.at_, h.x0, h.y0, h.y1⟩
theorem Pot.new {H : Hp} {p q : Addr} {x y : Int} {o : HO} (h : Pot H p x y) (hq : H q = none) : Pot (upd H q o) p x y := h.same (Same.new hq)
theorem hin_of {A : Around} {k : Nat} (hr : Room k A) : A.units + 65 < cLine := by have := hr.un; omega
theorem hrep_of {A : Around} {k : Nat} (hr : Room k A) : A.units + 70 < cLine := by have := hr.un; omega
end L2
set_option Elab.async false
set_option linter.all false
set_option maxRecDepth 100000
set_option maxHeartbeats 4000000
/-! set(a list), step by step by a predicate J i on heaps; sets of texts, of ints; sorted of them. -/
namespace L2
open PySem PySem.Spec PyProof.Rows
abbrev freshSet (w : World) : Obj := { cls := .type "set", dict := none, data := .set #[] 0 (.fresh 0 0 (!w.params.followText "set-order")) }
/-- what a set has got from the first i things -/
structure SetStep (P : Program) (w : World) (S : Addr) (J : Nat → Heap → Prop) (Pv : Nat → Value → Prop) : Prop where
  frame : ∀ i h h', J i h → (∀ o, h.get? S = some o → h'.get? S = some o) → J i h'
  step : ∀ (A : Around) (E : Value → Shared → Prop) i v (s : Shared) (Q : Bool → Shared → Prop), Pv i v → J i s.heap → (∀ b h' tk, Heap.SameBut S s.heap h' → s.toks ≤ tk → J (i + 1) h' → Q b { s with heap := h', toks := tk }) → wpAny (model P w) A (setAdd S v) Q E s
section
variable {P : Program} {w : World} {A : Around} {E : Value → Shared → Prop} {s : Shared}
theorem set_upd {I : Addr} {fp wr : List Addr} {G : Array GenState → Array GenState → Prop} {n : Nat} {Pv : Nat → Value → Prop} {St : Nat → Shared → Prop} {R : Result → Shared → Prop}
    (W : WalksS P w A.in1 I fp wr G n Pv St) {S : Addr} (hSf : S ∉ fp) {J : Nat → Heap → Prop} (T : SetStep P w S J Pv) :
    ∀ (k i : Nat) (s : Shared), n - i = k → i ≤ n → St i s → J i s.heap → (∀ s', Moved (S :: wr) G s s' → J n s'.heap → R (.ok (.ret .none)) s') →
      codeAny (model P w) A (.builtin "set.update.loop" ⟨[.ref S, .ref I], []⟩) R s := by
  have hSw : S ∉ wr := fun h => hSf (W.sub _ h)
  have up : ∀ b ∈ wr, b ∈ S :: wr := fun b hb => List.mem_cons_of_mem _ hb
  intro k
  induction k with
  | zero =>
    intro i s hk hi hst hJ hR
    have e : i = n := Nat.le_antisymm hi (by omega)
    subst e
    refine codeAny_builtin F.entry_set_update_loop ?_
    rw [Around.under_plainId F.plain_set_update_loop _]
    show wpAny _ A.in1 (pyNext (.ref I) >>= _) _ _ s
    refine wpAny_bind (W.done s _ _ hst fun s' hm => ?_)
    show wpAny _ A.in1 (ret Value.none) _ _ s'
    exact wpAny_pure (hR s' (hm.mono up) (T.frame _ _ _ hJ fun o e => hm.heap S o hSw e))
  | succ k ih =>
    intro i s hk hi hst hJ hR
    have hlt : i < n := by omega
    refine codeAny_builtin F.entry_set_update_loop ?_
    rw [Around.under_plainId F.plain_set_update_loop _]
    show wpAny _ A.in1 (pyNext (.ref I) >>= _) _ _ s
    refine wpAny_bind (W.item i s _ _ hlt hst fun v s' hP hst' hm => ?_)
    have hJ' := T.frame _ _ _ hJ fun o e => hm.heap S o hSw e
    show wpAny _ A.in1 (holding [v] (setAdd S v) >>= _) _ _ s'
    refine wpAny_bind (wpAny_holding (T.step _ _ i v s' _ hP hJ' fun b h' tk sb ht hJ2 => ?_))
    refine wpAny_pure ⟨plainId_quiet F.plain_set_update_loop _, ih (i + 1) _ (by omega) hlt (W.frame _ s' _ _ hst' ht fun c hc o e => ?_) hJ2 fun s'' hm'' hJ'' => ?_⟩
    · rw [sb.2 c fun z => hSf (z ▸ hc)]; exact e
    · refine hR s'' (Moved.trans W.gtrans ((hm.mono up).then_heap ht fun c o hc e => ?_) hm'') hJ''
      rw [sb.2 c fun z => hc (z ▸ List.mem_cons_self)]; exact e
set_option maxHeartbeats 6400000 in
theorem call_set_list {l : Addr} {items : Array Value} {J : Nat → Heap → Prop} {Q : Value → Shared → Prop} (hh : A.handled = none) (hl : s.heap.IsList l items)
    (T : SetStep P w s.heap.objs.size J fun i v => items[i]? = some v) (J0 : ∀ h : Heap, h.get? s.heap.objs.size = some (freshSet w) → J 0 h)
    (h : ∀ (h' : Heap) (tk : Nat), J items.size h' → (∀ b o, s.heap.get? b = some o → h'.get? b = some o) → Q (.ref s.heap.objs.size) { s with heap := h', toks := tk }) :
    wpAny (model P w) A (call (.type "set") [.ref l]) Q E s := by
  obtain ⟨c, tl, hmro⟩ := F.called_set.mro
  have hmade := F.called_set.made
  have hsub := F.called_set.sub
  refine wpAny_call (codeAny_of_tree ?_)
  show wpAny _ _ (callAny (.type "set") _) _ _ _
  refine wpAny_pure ⟨Code.quiet_builtin _ (by decide +kernel), codeAny_builtin F.entry_type_call ?_⟩
  rw [Around.under_plain (weight_type_call_type "set" [.ref l] []) rfl]
  have h1 := F.called_set.notType
  have h2 := F.called_set.canCreate
  have hct := F.typeCall_set_1 (.ref l)
  repeat (any_goals (first | assumption | wp_step))
  refine codeAny_mono (code_set_led1 (.ref l) (E := E) (Q₁ := fun obj s₁ => obj = .ref s.heap.objs.size ∧ s₁ = { s with heap := s.heap.push (freshSet w) }) ⟨rfl, rfl⟩) fun r s₁ hr => ?_
  cases r with
  | error e => exact hr
  | ok fl =>
    cases fl with
    | ret obj =>
      obtain ⟨rfl, rfl⟩ := hr
      have hS : (s.heap.push (freshSet w)).get? s.heap.objs.size = some (freshSet w) := Heap.get?_push_size _ rfl
      have hT : Shared.TypeIs { s with heap := s.heap.push (freshSet w) } (.ref s.heap.objs.size) "set" := ⟨_, hS, rfl⟩
      have hli := F.called_set.init.lookup
      have hbi := F.called_set.init.bind (.ref s.heap.objs.size)
      repeat (any_goals (first | assumption | wp_step))
      refine codeAny_mono (codeAny_call_builtin (R := wants (fun r s₂ => r = .none ∧ ∃ h' tk, s₂ = { s with heap := h', toks := tk } ∧ J items.size h' ∧ (∀ b o, s.heap.get? b = some o → h'.get? b = some o)) E) F.called_set.init.plain F.entry_set_init (check_set_init_1 hT ?_)) fun r₂ s₂ hr₂ => ?_
      · obtain ⟨ol, hol, hcl, nl, hdl⟩ := hl
        obtain ⟨ocls, odict, odata, oslots⟩ := ol
        simp only at hcl hdl
        subst hcl; subst hdl
        have hol' : (s.heap.push (freshSet w)).get? l = some { cls := .type "list", dict := odict, data := .seq items nl, slots := oslots } := Heap.get?_push_of_some _ hol
        have hsls := F.sub_list_set
        have hslf := F.sub_list_frozenset
        have hne : (Value.type "list" == Value.type "dict") = false := by decide
        have hl1 : (s.heap.push (freshSet w)).IsList l items := ⟨_, hol', rfl, nl, rfl⟩
        unfold Builtin.«set.__init__» noKeywords Builtin.Frozenset.updateFrom
        generalize hPI : pyIter = PI
        wp_walk
        subst hPI
        refine wpAny_pyIter_list hl1 ?_
        refine wpAny_bind (wpAny_runValue ?_)
        have hlS : l < s.heap.objs.size := Heap.lt_size hol
        have hh3 : A.in1.in1.in1.handled = none := by simp [hh]
        have hneI : l ≠ (s.heap.push (freshSet w)).objs.size := by
          rw [Heap.size_push]; exact Nat.ne_of_lt (Nat.lt_succ_of_lt hlS)
        have hSf : s.heap.objs.size ∉ [(s.heap.push (freshSet w)).objs.size, l] := by
          rw [Heap.size_push]; simp only [List.mem_cons, List.mem_singleton, List.not_mem_nil, or_false, not_or]
          exact ⟨Nat.ne_of_lt (Nat.lt_succ_self _), Nat.ne_of_gt hlS⟩
        refine set_upd ((Walks.list hh3 _ l hneI items).toS) hSf T (items.size - 0) 0 _ (by omega) (Nat.zero_le _)
          ⟨⟨_, Heap.get?_push_size _ rfl, rfl, rfl⟩, (hl1.push _)⟩ (J0 _ (Heap.get?_push_of_some _ hS)) fun s' hm hJ => ?_
        obtain ⟨h', g2, d', tk', os'⟩ := s'
        have eg : g2 = s.gens := hm.gens
        have ed : d' = s.drawn := hm.drawn
        have eo : os' = s.os := hm.os
        subst eg; subst ed; subst eo
        show wpAny _ _ _ _ _ _
        refine wpAny_pure ?_
        show wpAny _ _ (ret Value.none) _ _ _
        refine wpAny_pure ⟨rfl, h', tk', rfl, hJ, fun b o e => ?_⟩
        have hb := Heap.lt_size e
        refine hm.heap b o (fun z => ?_) (Heap.get?_push_of_some _ (Heap.get?_push_of_some _ e))
        rcases List.mem_cons.mp z with z | z
        · exact absurd hb (by rw [z]; exact Nat.lt_irrefl _)
        · have z := List.mem_singleton.mp z
          first
            | exact absurd hb (by rw [z, Heap.size_push]; exact Nat.not_lt_of_le (Nat.le_succ _))
            | exact absurd hb (by rw [z]; exact Nat.not_lt_of_le (Nat.le_succ _))
      · cases r₂ with
        | error e => exact hr₂
        | ok fl₂ =>
          cases fl₂ with
          | ret r =>
            obtain ⟨rfl, h', tk, rfl, hJ, hk⟩ := hr₂
            repeat (any_goals (first | assumption | wp_step))
            exact h _ _ hJ hk
          | _ => exact hr₂.elim
    | _ => exact hr.elim
end
end L2
set_option Elab.async false
set_option linter.all false
set_option maxRecDepth 100000
set_option maxHeartbeats 4000000
/-! set(a list of texts), sorted of it; set(a list of ints). -/
namespace L2
open PySem PySem.Spec PyProof.Rows PySem.Froz
/-- the set at a holds just the texts l -/
def SetX (P : Program) (w : World) (h : Heap) (a : Addr) (l : List Str) : Prop :=
  ∃ D : SD, h.get? a = some (sObj "set" D) ∧ TxOk P w D l ∧ l.Nodup ∧ Ris D.2.2.place.toList ∧ (w.params.followText "set-order" = true ∨ D.2.2.led = true)
theorem tail_ris {ep : Nat} {es1 : Array (Int × Value)} {t2 : SetTable} {b : Bool} (r : Ris t2.place.toList) : Ris (tailTx ep es1 t2 b).2.2.place.toList ∧ (tailTx ep es1 t2 b).2.2.led = t2.led := by
  unfold tailTx
  split
  · exact ⟨relayAll_ris _ _ _, relayAll_led _ _ _⟩
  · exact ⟨r, rfl⟩
theorem add_ris {h : Int} {v : Value} {D : SD} (r : Ris D.2.2.place.toList) : Ris (addTx h v D).2.2.place.toList ∧ (addTx h v D).2.2.led = D.2.2.led := by
  have r1 := layNew_ris D.2.2 D.1 h v r
  have l1 := layNew_led D.2.2 D.1 h v
  unfold addTx
  have r2 : Ris (if (layNew D.2.2 D.1 h v).2.1.plain = true then { (layNew D.2.2 D.1 h v).2.1 with plain := false } else (layNew D.2.2 D.1 h v).2.1).place.toList := by split <;> exact r1
  have l2 : (if (layNew D.2.2 D.1 h v).2.1.plain = true then { (layNew D.2.2 D.1 h v).2.1 with plain := false } else (layNew D.2.2 D.1 h v).2.1).led = D.2.2.led := by split <;> exact l1
  exact ⟨(tail_ris r2).1, (tail_ris r2).2.trans l2⟩
section
variable {P : Program} {w : World} {A : Around} {E : Value → Shared → Prop} {s : Shared}
theorem SetX.fresh {h : Heap} {a : Addr} (e : h.get? a = some (freshSet w)) : SetX P w h a [] :=
  ⟨(#[], 0, .fresh 0 0 (!w.params.followText "set-order")), e, TxOk.nil rfl, List.Pairwise.nil, List.Pairwise.nil, by
    show _ ∨ (!w.params.followText "set-order") = true
    cases w.params.followText "set-order"
    · exact .inr rfl
    · exact .inl rfl⟩
theorem SetX.keep {h h' : Heap} {a : Addr} {l : List Str} (x : SetX P w h a l) (k : ∀ o, h.get? a = some o → h'.get? a = some o) : SetX P w h' a l := by
  obtain ⟨D, e, r⟩ := x
  exact ⟨D, k _ e, r⟩
/-- one text more, or the same -/
def more (l : List Str) (k : Str) : List Str := if k ∈ l then l else k :: l
theorem SetX.add {a : Addr} {l : List Str} {k : Str} {u : Tok} {Q : Bool → Shared → Prop} (x : SetX P w s.heap a l) (hb : l.length + 1 < scanBound)
    (q : ∀ b h', Heap.SameBut a s.heap h' → SetX P w h' a (more l k) → Q b { s with heap := h' }) : wpAny (model P w) A (setAddHashed a (.str k u) (hashStr w k)) Q E s := by
  obtain ⟨D, e, F, nd, r, ld⟩ := x
  by_cases hk : k ∈ l
  · obtain ⟨es, ep, t⟩ := D
    have hd : (sObj "set" (es, ep, t)).data = .set es ep t := rfl
    have hf : t.fits es.size = true := F.fit
    have hel : ElemsOf (PySem.strKind P w) es.toList := F.el
    have hsz : es.size = l.length := F.sz
    have hb0 : es.size < scanBound := by omega
    have hkey : (PySem.strKind P w).is k (.str k u) = true := PySem.Froz.is_str k u
    obtain ⟨e1, he1, p1⟩ := (F.mem k).mp hk
    unfold setAddHashed setAddHashedIn
    refine wpAny_holding (wpAny_bind (wpAny_setState_of e hd hf ?_))
    dsimp only
    rw [byScan_of rfl hb0 hel]
    simp only [↓reduceIte]
    unfold setAddByScan
    refine wpAny_bind ?_
    refine wpAny_bind (wpAny_rule ?_)
    refine wpAny_bind (wpAny_setScan_of (knd := PySem.strKind P w) (k := k) hkey e hd hf hel ?_)
    cases hfi : List.findIdx? (fun e => (PySem.strKind P w).is k e.2) es.toList with
    | none =>
      have c := List.findIdx?_eq_none_iff.mp hfi e1 he1
      rw [p1] at c
      cases c
    | some j =>
      dsimp only
      refine wpAny_pure (wpAny_pure (q _ s.heap (Heap.SameBut.refl a s.heap) ?_))
      unfold more
      rw [if_pos hk]
      exact ⟨(es, ep, t), e, F, nd, r, ld⟩
  · refine add_x e F hk hb (q _ _ (Heap.SameBut.update s.heap a _) ?_)
    unfold more
    rw [if_neg hk]
    exact ⟨_, get_upd _ e rfl, add_ok u F, List.nodup_cons.mpr ⟨hk, nd⟩, (add_ris r).1, ld.imp id fun z => (add_ris r).2.trans z⟩
/-- what a set of these texts holds -/
def dd (xs : List Str) : List Str := xs.foldl more []
theorem dd_len : ∀ (xs l : List Str), (xs.foldl more l).length ≤ l.length + xs.length
  | [], l => Nat.le_refl _
  | x :: xs, l => by
    have h := dd_len xs (more l x)
    have h2 : (more l x).length ≤ l.length + 1 := by unfold more; split <;> simp
    simp only [List.foldl_cons, List.length_cons]
    omega
theorem dd_nodup : ∀ (xs l : List Str), l.Nodup → (xs.foldl more l).Nodup
  | [], l, h => h
  | x :: xs, l, h => dd_nodup xs _ (by
    unfold more
    split
    · exact h
    · rename_i c
      exact List.nodup_cons.mpr ⟨c, h⟩)
theorem dd_mem : ∀ (xs l : List Str) (k : Str), k ∈ xs.foldl more l ↔ k ∈ l ∨ k ∈ xs
  | [], l, k => by simp
  | x :: xs, l, k => by
    rw [List.foldl_cons, dd_mem xs]
    unfold more
    split
    · rename_i c
      exact ⟨fun z => z.elim .inl (fun y => .inr (List.mem_cons_of_mem _ y)), fun z => z.elim .inl fun y => (List.mem_cons.mp y).elim (fun y => .inl (y ▸ c)) .inr⟩
    · constructor
      · rintro (z | z)
        · exact (List.mem_cons.mp z).elim (fun y => .inr (y ▸ List.mem_cons_self)) .inl
        · exact .inr (List.mem_cons_of_mem _ z)
      · rintro (z | z)
        · exact .inl (List.mem_cons_of_mem _ z)
        · exact (List.mem_cons.mp z).elim (fun y => .inl (y ▸ List.mem_cons_self)) .inr
theorem take_more {xs : List Str} {i : Nat} {k : Str} (h : xs[i]? = some k) : more ((xs.take i).foldl more []) k = (xs.take (i + 1)).foldl more [] := by
  rw [List.take_succ, h, List.foldl_append] <;> rfl
theorem setX_steps (S : Addr) (xs : List Str) (hb : xs.length + 1 < scanBound) {items : Array Value} (hi : StrsAre items.toList xs) :
    SetStep P w S (fun i h => SetX P w h S ((xs.take i).foldl more [])) fun i v => items[i]? = some v where
  frame := fun i h h' x k => x.keep k
  step := fun A E i v s Q hv x q => by
    have hv' : items.toList[i]? = some v := by rw [Array.getElem?_toList]; exact hv
    have key : ∀ {vs : List Value} {ys : List Str}, StrsAre vs ys → ∀ {i : Nat} {v : Value}, vs[i]? = some v → ∃ k u, v = .str k u ∧ ys[i]? = some k := by
      intro vs ys h
      induction h with
      | nil => intro i v e; simp at e
      | cons x t h ih =>
        intro i v e
        cases i with
        | zero => exact ⟨x, t, by simpa using e.symm, rfl⟩
        | succ i => exact ih (by simpa using e)
    obtain ⟨k, u, rfl, hk⟩ := key hi hv'
    have hln : ((xs.take i).foldl more []).length ≤ xs.length := by
      have h1 := dd_len (xs.take i) []
      have h2 : (xs.take i).length ≤ xs.length := by rw [List.length_take]; omega
      simp only [List.length_nil] at h1
      omega
    unfold setAdd
    refine wpAny_holding ?_
    refine wpAny_bind ((PySem.strKind P w).pyHash (k := k) (PySem.Froz.is_str k u) ?_)
    refine SetX.add (s := { s with toks := s.toks + 1 }) (l := (xs.take i).foldl more []) x (by omega) fun b h' sb x' => ?_
    exact q b h' _ sb (Nat.le_succ _) (by rw [← take_more hk]; exact x')
theorem perm_of : ∀ (l ss : List Str), l.Nodup → (∀ x ∈ l, x ∈ ss) → ss.length ≤ l.length → ss.Perm l
  | [], ss, _, _, h => by
    cases ss with
    | nil => exact List.Perm.nil
    | cons a b => simp at h
  | x :: l, ss, nd, h, hl => by
    obtain ⟨a, b, rfl⟩ := List.append_of_mem (h x List.mem_cons_self)
    obtain ⟨n1, n2⟩ := List.nodup_cons.mp nd
    have ih := perm_of l (a ++ b) n2 (fun y hy => by
      have z := h y (List.mem_cons_of_mem _ hy)
      rcases List.mem_append.mp z with z | z
      · exact List.mem_append_left _ z
      · rcases List.mem_cons.mp z with z | z
        · exact absurd (z ▸ hy) n1
        · exact List.mem_append_right _ z) (by
      simp only [List.length_append, List.length_cons] at hl ⊢
      omega)
    exact List.perm_middle.trans (ih.cons x)
theorem StrsAre.mem_ {vs : List Value} {ss : List Str} (h : StrsAre vs ss) : ∀ {x : Str} {u : Tok}, Value.str x u ∈ vs → x ∈ ss := by
  induction h with
  | nil => intro x u e; cases e
  | cons y t h ih =>
    intro x u e
    rcases List.mem_cons.mp e with z | z
    · cases z; exact List.mem_cons_self
    · exact List.mem_cons_of_mem _ (ih z)
theorem sorted_setX {a : Addr} {l : List Str} {Q : Value → Shared → Prop} (x : SetX P w s.heap a l) (hh : A.handled = none) (h64 : l.length < 64)
    (hQ : ∀ s' p (out : Array Value) (c : Nat) (ys : List Str), (∀ b o, s.heap.get? b = some o → s'.heap.get? b = some o) → s'.gens = s.gens → s'.os = s.os → s.heap.objs.size ≤ p →
      s'.heap.get? p = some (seqObj "list" out c) → StrsAre out.toList ys → ys.Perm l → sortedS ys = true → Q (.ref p) s') :
    wpAny (model P w) A (call (.builtin "sorted") [.ref a]) Q E s := by
  obtain ⟨⟨es, ep, t⟩, e, F, nd, r, ld⟩ := x
  have hsz : es.size = l.length := F.sz
  refine Calls.call_function_entry kind_sorted plain_sorted entry_sorted (args_sorted1 _) ?_
  unfold Builtin.«sorted»
  refine wpAny_bind (m := checkCount "sorted" 1 1 _) (wpAny_pure ?_)
  refine wpAny_bind (collect_set (A := A.in1) (es := es) (ep := ep) (t := t) hh ⟨_, e, rfl, rfl⟩ F.fit (by rw [hsz]; unfold scanBound; omega) r ld fun s1 vs k1 hz g1 o1 pm => ?_)
  have hvl : vs.length = l.length := by rw [pm.length_eq, List.length_map, Array.length_toList]; exact hsz
  have el := F.el
  have hS : StrsAre vs (vs.map strOf) := strsAre_map vs fun v hv => by
    obtain ⟨q, hq, e'⟩ := List.mem_map.mp (pm.mem_iff.mp hv)
    obtain ⟨⟨k, hk, _⟩, _⟩ := el q hq
    subst e'
    generalize q.2 = y at hk
    cases y with
    | str z u => exact ⟨z, u, rfl⟩
    | _ => exact nomatch hk
  have pl : (vs.map strOf).Perm l := by
    refine perm_of l _ nd (fun x hx => ?_) (by rw [List.length_map, hvl]; exact Nat.le_refl _)
    obtain ⟨q, hq, hk⟩ := (F.mem x).mp hx
    have hm : q.2 ∈ vs := pm.mem_iff.mpr (List.mem_map.mpr ⟨q, hq, rfl⟩)
    obtain ⟨⟨k, hk', _⟩, _⟩ := el q hq
    generalize q.2 = y at hk hm
    cases y with
    | str z u =>
      have z2 : x = z := (PySem.strKind P w).inj (.str z u) x z hk (PySem.Froz.is_str z u)
      rw [z2]
      exact StrsAre.mem_ hS hm
    | _ => exact nomatch hk
  refine wpAny_bind (wpAny_newList ?_ (by rw [hvl, sizeLine_eq]; omega))
  have hoL : (s1.heap.push (seqObj "list" vs.toArray 0)).get? s1.heap.objs.size = some (seqObj "list" vs.toArray 0) := Heap.get?_push_size _ rfl
  refine wpAny_bind (wpAny_holding (wpAny_call_entry slot_list_sort ⟨_, hoL, rfl⟩ entry_list_sort (list_sort_treeK strKind_oneLt hoL hS.keysOf (fun v₁ v₂ rest e => keyKind_strs (by rw [← e]; exact hS)) (by rw [hvl]; exact h64) fun st' hp hs => ⟨_, rfl, ?_⟩) (args_list_sort _)))
  obtain ⟨ss', a1, a2, a3⟩ := sorted_out_str hS hp hs
  obtain ⟨c, hc⟩ := sortedHeap_at (vs := vs) (out := (arrOf st').map (·.2)) hoL
  refine wpAny_pure ⟨_, rfl, hQ _ s1.heap.objs.size _ c ss' (fun b u eb => ?_) g1 o1 hz hc a1 (a2.trans pl) a3⟩
  have q := k1 b u eb
  have hlt := Heap.lt_size q
  show (sortedHeap (s1.heap.push (seqObj "list" vs.toArray 0)) s1.heap.objs.size vs _).get? b = some u
  rw [sortedHeap_old (Nat.ne_of_lt hlt) (by rw [size_push']; exact Nat.lt_succ_of_lt hlt)]
  exact Heap.get?_push_of_some _ q
/-! ### ints -/
theorem setI_steps (S : Addr) (ns : List Int) (hb : ns.length + 1 < scanBound) {items : Array Value} (hi : IntsAre items.toList ns) :
    SetStep P w S (fun i h => ∃ n, n ≤ i ∧ SetR w h S (fun j => decide (j ∈ ns.take i)) n) fun i v => items[i]? = some v where
  frame := fun i h h' ⟨n, hn, x⟩ k => ⟨n, hn, SetR.at x k⟩
  step := fun A E i v s Q hv ⟨n, hn, x⟩ q => by
    have hv' : items.toList[i]? = some v := by rw [Array.getElem?_toList]; exact hv
    have key : ∀ {vs : List Value} {ys : List Int}, IntsAre vs ys → ∀ {i : Nat} {v : Value}, vs[i]? = some v → ∃ k u, v = .int k u ∧ ys[i]? = some k := by
      intro vs ys h
      induction h with
      | nil => intro i v e; simp at e
      | cons x t h ih =>
        intro i v e
        cases i with
        | zero => exact ⟨x, t, by simpa using e.symm, rfl⟩
        | succ i => exact ih (by simpa using e)
    obtain ⟨k, u, rfl, hk⟩ := key hi hv'
    have hil : i < ns.length := by
      obtain ⟨z, _⟩ := List.getElem?_eq_some_iff.mp hk
      exact z
    unfold setAdd
    refine wpAny_holding ?_
    refine wpAny_bind ((intKind P w).pyHash (intKind_is P w k u) ?_)
    refine setR_add_hashed (P := P) (s := { s with toks := s.toks + 1 }) x (by omega) fun h' sb x' => ?_
    refine q _ h' _ sb (Nat.le_succ _) ⟨_, ?_, x'.congr fun j => ?_⟩
    · split <;> omega
    · rw [List.take_succ, hk]
      show decide (j ∈ ns.take i ++ [k]) = (decide (j ∈ ns.take i) || decide (j = k))
      rw [Bool.eq_iff_iff]
      simp [List.mem_append]
end
/-! ### the words -/
def SetXO (P : Program) (w : World) (a : Addr) (l : List Str) : HO := .ext fun h => SetX P w h a l
theorem setXO_new {P : Program} {w : World} {H : Hp} {h : Heap} {a : Addr} {l : List Str} (R : SetX P w h a l) : ObjOk P w H h a (SetXO P w a l) := by
  have ⟨D, e, _⟩ := R
  exact ⟨R, ⟨_, e⟩, fun h1 h2 p k => SetX.keep p k⟩
section
variable {X : Cx}
def rSetS (K : PySem.W.Frag) (P : Program) (w : World) : List V → Hp → VK → Prop := fun xs H Q => ∃ (l : Addr) (zs : List Str), xs = [V.ref l] ∧ SqL K H l (zs.map V.str) ∧ zs.length < 1000 ∧
  ∀ a, H a = none → Q (.ref a) (upd H a (SetXO P w a (dd zs)))
theorem cr_setS (hc : X.calm = true) : CallR X (.type "set") (rSetS X.K X.prog X.w) := by
  intro pins s σ H xs us Q I r h
  obtain ⟨l, zs, rfl, hl, hf, q⟩ := h
  rw [Vals.ref1 r]
  obtain ⟨its, rv, pl, hz⟩ := I.list hl
  have hi : StrsAre its zs := rv.strs
  have hn : H s.heap.objs.size = none := I.hok.fresh (Nat.le_refl _)
  refine call_set_list (P := X.prog) (w := X.w) (I.ok.hd hc) pl.isList (setX_steps _ zs (by unfold scanBound; omega) (by simpa using hi)) (fun h e => SetX.fresh e) fun h' tk x k => ?_
  have e : zs.take its.toArray.size = zs := by
    rw [List.size_toArray, PyProof.Rows.StrsAre.length hi, List.take_length]
  simp only [e] at x
  exact ⟨.ref s.heap.objs.size, _, I.laid (t' := tk) k (Nat.le_refl _) (setXO_new x), rfl, q _ hn⟩
def rSetI (K : PySem.W.Frag) (w : World) : List V → Hp → VK → Prop := fun xs H Q => ∃ (l : Addr) (ns : List Int), xs = [V.ref l] ∧ SqL K H l (ns.map V.int) ∧ ns.length < 64 ∧
  ∀ a n, H a = none → n ≤ ns.length → Q (.ref a) (upd H a (SetO w a (fun j => decide (j ∈ ns)) n))
theorem cr_setI (hc : X.calm = true) : CallR X (.type "set") (rSetI X.K X.w) := by
  intro pins s σ H xs us Q I r h
  obtain ⟨l, ns, rfl, hl, hf, q⟩ := h
  rw [Vals.ref1 r]
  obtain ⟨its, rv, pl, hz⟩ := I.list hl
  have hi : IntsAre its ns := rv.ints
  have hn : H s.heap.objs.size = none := I.hok.fresh (Nat.le_refl _)
  refine call_set_list (P := X.prog) (w := X.w) (I.ok.hd hc) pl.isList (setI_steps _ ns (by unfold scanBound; omega) (by simpa using hi)) (fun h e => ⟨0, Nat.le_refl _, ?_⟩) fun h' tk x k => ?_
  · refine ⟨_, #[], 0, _, e, ⟨rfl, rfl, rfl⟩, rfl, (fun e he => by simp at he), (by simp), (fun k => by simp), (by decide), (by rfl), rfl, List.Pairwise.nil, ?_⟩
    show _ ∨ (!X.w.params.followText "set-order") = true
    cases X.w.params.followText "set-order"
    · exact .inr rfl
    · exact .inl rfl
  · have e : ns.take its.toArray.size = ns := by
      rw [List.size_toArray, hi.length, List.take_length]
    obtain ⟨n, h1, h2⟩ := x
    simp only [e] at h2
    have h1' : n ≤ ns.length := by rw [← hi.length]; simpa using h1
    exact ⟨.ref s.heap.objs.size, _, I.laid (t' := tk) k (Nat.le_refl _) (setO_new h2), rfl, q _ n hn h1'⟩
def rSortedX (P : Program) (w : World) : List V → Hp → VK → Prop := fun vs H Q => ∃ (a : Addr) (l : List Str), vs = [V.ref a] ∧ H a = some (SetXO P w a l) ∧ l.length < 64 ∧
  ∀ (ys : List Str) (p : Addr), ys.Perm l → sortedS ys = true → H p = none → Q (.ref p) (upd H p (.lst (ys.map V.str)))
theorem cr_sortedX (hc : X.calm = true) : CallR X (.builtin "sorted") (rSortedX X.prog X.w) := by
  intro pins s σ H vs us Q I r h
  obtain ⟨a, l, rfl, ha, h64, q⟩ := h
  have x : SetX X.prog X.w s.heap a l := (I.hok a _ ha).1
  rw [Vals.ref1 r]
  refine sorted_setX x (I.ok.hd hc) h64 fun s' p out c ys k g o hp hg hout pm so => ?_
  have hlen : (ys.map V.str).length ≤ sizeLine := by rw [List.length_map, pm.length_eq, sizeLine_eq]; omega
  have hn : H p = none := I.hok.fresh hp
  have J : Inv X pins σ (upd H p (.lst (ys.map V.str))) { s with heap := s'.heap, gens := s'.gens, drawn := s'.drawn, toks := s'.toks } :=
    I.call (ch := []) (Un.laid k hp hn) (I.hok.laid k hp ⟨hlen, out.toList, c, vals_of_strs hout, hg⟩) (by rw [g]; exact I.bare) (fun _ z => nomatch z)
  have e : s' = { s with heap := s'.heap, gens := s'.gens, drawn := s'.drawn, toks := s'.toks } := by
    cases s'
    cases s
    cases o
    rfl
  rw [e]
  exact ⟨.ref p, _, J, rfl, q ys p pm so hn⟩
end
end L2
set_option Elab.async false
set_option linter.all false
set_option maxRecDepth 100000
set_option maxHeartbeats 4000000
/-! == of a dict and an empty one; != of dicts whose values are data alike; texts in order. -/
namespace L2
open PySem PySem.Spec PyProof.Rows
section
variable {X : Cx}
def rEqE : R2 := fun x y H Q => ∃ a b ks, x = .ref a ∧ y = .ref b ∧ H a = some (.dK ks) ∧ H b = some (.dK []) ∧ ∀ c, Q (.bl c) H
theorem op_eqE (hu : X.A.units < cLine) : OpR X (compareOp .Eq) rEqE := by
  intro pins s σ H x y v u Q I rx ry h
  obtain ⟨a, b, ks, rfl, rfl, ea, eb, q⟩ := h
  cases (show v = Value.ref a from rx)
  cases (show u = Value.ref b from ry)
  obtain ⟨_, ya, va, ra, da⟩ := (show ObjOk X.prog X.w H s.heap a (.dK ks) from I.hok a _ ea)
  obtain ⟨_, yb, vb, rb, db⟩ := (show ObjOk X.prog X.w H s.heap b (.dK []) from I.hok b _ eb)
  cases rb
  refine PySem.W.rcP_dicts (knd := mixKind X.prog X.w) (r := true) ya yb da db hu (fun e => ?_) _ _ ⟨.bl _, H, I, rfl, q _⟩
  cases va with
  | nil => exact .nil
  | cons p r => cases e
/-- two dicts of the same keys, their values data alike -/
def rNeV (K : PySem.W.Frag) : R2 := fun x y H Q => ∃ a b ks ls, x = .ref a ∧ y = .ref b ∧ H a = some (.dK ks) ∧ H b = some (.dK ls) ∧ ks.length = ls.length ∧
  (∀ p ∈ ks, ∃ u d, valV ls p.1 = some u ∧ Dp K H p.2 d ∧ Dp K H u d ∧ d.canLay0 = true ∧ d.depth ≤ 60) ∧ Q (.bl false) H
theorem hitsD {pins : List (Addr × Obj)} {σ : St} {H : Hp} {s : Shared} (I : Inv X pins σ H s) {A : Around} (hu : A.units + 61 < cLine) {kvs : List (Key × V)} {vb : List (Key × Value)} (rb : KV kvs vb) {ks : List (Key × V)} {va : List (Key × Value)} (ra : KV ks va) :
    (∀ p ∈ ks, ∃ u d, valV kvs p.1 = some u ∧ Dp X.K H p.2 d ∧ Dp X.K H u d ∧ d.canLay0 = true ∧ d.depth ≤ 60) → PySem.W.KeqHits A s vb va true := by
  unfold KV at ra
  induction ra with
  | nil => intro _; exact .nil
  | @cons p q ps qs h t ih =>
    intro hp
    obtain ⟨h1, h2⟩ := h
    obtain ⟨u, d, e, d1, d2, hl, hd⟩ := hp p List.mem_cons_self
    have rr : RelO (some u) (valueAt vb p.1) := by rw [← e]; exact rb.val p.1
    obtain ⟨y, hy, ry⟩ := rr.some_of
    obtain ⟨k1, w1⟩ := q
    cases (show p.1 = k1 from h1)
    obtain ⟨as, r1⟩ := Dp.reads I d p.2 w1 d1 h2
    obtain ⟨bs, r2⟩ := Dp.reads I d u y d2 ry
    have eq : SeqAt.EqAt A s w1 y (PyData.eqv d d) := SeqAt.eqAt_reads d d A s w1 y as bs r1 r2 hl hl (by omega)
    rw [SeqAt.eqv_refl d hl] at eq
    show PySem.W.KeqHits A s vb ((p.1, w1) :: qs) (true && true)
    exact .hit hy eq (ih fun p' hm => hp p' (List.mem_cons_of_mem _ hm))
theorem op_neV (hu : X.A.units + 64 < cLine) : OpR X (compareOp .NotEq) (rNeV X.K) := by
  intro pins s σ H x y v u Q I rx ry h
  obtain ⟨a, b, ks, ls, rfl, rfl, ea, eb, hlen, hp, q⟩ := h
  obtain rfl : v = Value.ref a := rx
  obtain rfl : u = Value.ref b := ry
  obtain ⟨_, ya, va, ra, da⟩ := (show ObjOk X.prog X.w H s.heap a (.dK ks) from I.hok a _ ea)
  obtain ⟨_, yb, vb, rb, db⟩ := (show ObjOk X.prog X.w H s.heap b (.dK ls) from I.hok b _ eb)
  have hl : va.length = vb.length := by rw [← ra.length, ← rb.length]; exact hlen
  refine PySem.W.keq_ne (knd := mixKind X.prog X.w) (r := true) ya yb da db (by omega) (fun _ => hitsD I (by show X.A.units + 1 + 61 < cLine; omega) rb ra hp) ⟨.bl _, H, I, rfl, ?_⟩
  simpa [hl] using q
end
/-! ### texts in order -/
theorem le_of_lt_false {a b : List Nat} (h : ltCps b a = false) : a ≤ b := by
  rw [ltCps_eq, decide_eq_false_iff_not] at h
  exact List.not_lt.mp h
theorem rising_all : ∀ (l : List Str) (p : Str), risingS p l = true → ∀ x ∈ l, p.cps.toList ≤ x.cps.toList
  | [], _, _, x, hx => nomatch hx
  | y :: l, p, h, x, hx => by
    have h' : (!ltCps y.cps.toList p.cps.toList && risingS y l) = true := h
    rw [Bool.and_eq_true, Bool.not_eq_true'] at h'
    have h1 := le_of_lt_false h'.1
    rcases List.mem_cons.mp hx with z | z
    · rw [z]; exact h1
    · exact List.le_trans h1 (rising_all l y h'.2 x z)
theorem rising_tail : ∀ {l : List Str} {p : Str}, risingS p l = true → sortedS l = true
  | [], _, _ => rfl
  | y :: l, p, h => by
    have h' : (!ltCps y.cps.toList p.cps.toList && risingS y l) = true := h
    rw [Bool.and_eq_true] at h'
    exact h'.2
theorem sortedS_uniq : ∀ (ys zs : List Str), ys.Perm zs → sortedS ys = true → sortedS zs = true → ys = zs
  | [], zs, pm, _, _ => (List.nil_perm.mp pm).symm
  | y :: ys, [], pm, _, _ => absurd (List.perm_nil.mp pm) (fun z => nomatch z)
  | y :: ys, z :: zs, pm, h1, h2 => by
    have e : y = z := by
      have a1 : y ∈ z :: zs := pm.mem_iff.mp List.mem_cons_self
      have a2 : z ∈ y :: ys := pm.mem_iff.mpr List.mem_cons_self
      rcases List.mem_cons.mp a1 with c | c
      · exact c
      · rcases List.mem_cons.mp a2 with d | d
        · exact d.symm
        · have l1 := rising_all zs z h2 y c
          have l2 := rising_all ys y h1 z d
          have e := List.le_antisymm l2 l1
          have e2 : y.cps = z.cps := Array.toList_inj.mp e
          cases y
          cases z
          exact congrArg _ e2
    subst e
    rw [sortedS_uniq ys zs (List.Perm.cons_inv pm) (rising_tail h1) (rising_tail h2)]
theorem sortedS_pw : ∀ (l : List Str), sortedS l = true → l.Pairwise fun a b => a.cps.toList ≤ b.cps.toList
  | [], _ => List.Pairwise.nil
  | x :: l, h => List.pairwise_cons.mpr ⟨rising_all l x h, sortedS_pw l (rising_tail h)⟩
theorem sortedS_sub {ks ys : List Str} (h : sortedS ys = true) (sl : ks.Sublist ys) : sortedS ks = true := by
  refine sortedS_of_pairwise _ (((sortedS_pw ys h).sublist sl).imp fun {a b} hab => ?_)
  rw [ltCps_eq, decide_eq_false_iff_not]
  exact List.not_lt.mpr hab
theorem valV_out {k : List (Key × V)} {c : Key} (h : ∀ q ∈ k, q.1 ≠ c) : valV k c = none := by
  unfold valV
  have e : k.find? (fun kv => decide (kv.1 = c)) = none := List.find?_eq_none.mpr fun q hq => by simpa using h q hq
  rw [e]
  rfl
end L2
set_option Elab.async false
set_option linter.all false
set_option maxRecDepth 100000
set_option maxHeartbeats 4000000
/-! for i, x in enumerate(a tuple). -/
namespace L2
open PySem PySem.Spec PyProof.Rows PySem.W
set_option maxHeartbeats 1000000 in
theorem enum_new1 {v : Value} {o : Obj} {H : Heap → Prop} (B : Begins v o H) :
    Meets (Builtin.«enumerate.__new__» ⟨[.type "enumerate", v], []⟩) (fun _ R s => H s.heap ∧
      R (.ok (.ret (.ref (s.heap.push o).objs.size))) { s with heap := (s.heap.push o).push { cls := .type "enumerate", data := .fields #[.none, .bool false, .ref s.heap.objs.size, rawInt 0, .none, .none] } }) :=
  .of_wp fun prog w A R s h => by
    obtain ⟨hp, g, d, tk, os⟩ := s; obtain ⟨h1, h⟩ := h
    have hsub := sub_enumerate
    have q1 : ∀ {A' : Around} {E : Value → Shared → Prop} {Q : Value → Shared → Prop}, Q (.ref hp.objs.size) ⟨hp.push o, g, d, tk, os⟩ → wpAny (model prog w) A' (pyIter v) Q E ⟨hp, g, d, tk, os⟩ :=
      fun q => B.iter prog w _ _ ⟨hp, g, d, tk, os⟩ _ h1 q
    wp_walk using q1
    refine wpAny_stack_any fun st => wpAny_pure ?_
    split
    · rename_i c _ _ _ _ _
      cases (c == Value.type "enumerate")
      · wp_walk using q1
        exact ⟨_, rfl, h⟩
      · wp_walk using q1
        exact ⟨_, rfl, h⟩
    · wp_walk using q1
      exact ⟨_, rfl, h⟩
section
variable {prog : Program} {w : World} {A : Around} {E : Value → Shared → Prop} {s : Shared}
theorem enum_begins1 {v : Value} {o : Obj} {H : Heap → Prop} {Q : Value → Shared → Prop} (B : Begins v o H) (h1 : H s.heap)
    (h : ∀ h', IsEnum h' (s.heap.objs.size + 1) s.heap.objs.size 0 .none → h'.get? s.heap.objs.size = some o → h'.objs.size = s.heap.objs.size + 2 →
      (∀ b o, s.heap.get? b = some o → h'.get? b = some o) → Q (.ref (s.heap.objs.size + 1)) { s with heap := h' }) :
    wpAny (model prog w) A (call (.type "enumerate") [v]) Q E s := by
  refine callType_new F.called_enumerate (by decide) (F.typeCall_enumerate_1 _) (F.newCall_enumerate_1 _) (fun obj => F.args_object_init_2 obj _) F.entry_enumerate_new (enum_new1 B) ⟨h1, ?_⟩
  have hz : (s.heap.push o).objs.size = s.heap.objs.size + 1 := Heap.size_push ..
  show _ ∧ _
  rw [hz]
  have he : IsEnum ((s.heap.push o).push { cls := .type "enumerate", data := .fields #[.none, .bool false, .ref s.heap.objs.size, rawInt 0, .none, .none] }) (s.heap.objs.size + 1) s.heap.objs.size 0 .none := by
    have := Heap.get?_push_size (s.heap.push o) (o := { cls := .type "enumerate", data := .fields #[.none, .bool false, .ref s.heap.objs.size, rawInt 0, .none, .none] }) rfl
    rw [hz] at this; exact this
  exact ⟨⟨_, he, rfl⟩, h _ he (Heap.get?_push_of_some _ (Heap.get?_push_size _ B.free)) (by rw [Heap.size_push, hz]) fun b o x => Heap.get?_push_of_some _ (Heap.get?_push_of_some _ x)⟩
end
def IteT (K : PySem.W.Frag) (a : Addr) : It :=
  ⟨fun i H => ∃ (xs : List V) (x : V), SqT K H a xs ∧ xs[i]? = some x, fun i H v H' => ∃ T x, v = .ref T ∧ H T = none ∧ H' = upd H T (.tup [.int (i : Nat), x]) ∧ ∀ xs, SqT K H a xs → xs[i]? = some x, fun i H => ∃ xs : List V, SqT K H a xs ∧ xs.length ≤ i⟩
theorem turn_enumT {P : Program} {w : World} {K : PySem.W.Frag} {elts : List Expr} {kk : Nat} {tpos : Pos} (a e it : Addr) :
    Turn P w K (.Tuple elts kk tpos) (IteT K a) [e, it] e (fun i h => (∃ old, IsEnum h e it ((i : Nat) : Int) old) ∧ h.IsTupleIter it a i ∧ e ≠ it ∧ a ≠ it ∧ a ≠ e) where
  mem := by simp
  obj := fun i h st b hb => by
    obtain ⟨⟨old, he⟩, ⟨o, ho, hc, hd⟩, _⟩ := st
    have e' : b = e ∨ b = it := by simpa using hb
    rcases e' with z | z
    · rw [z]; exact ⟨_, he, fun v q => nomatch q⟩
    · rw [z]; exact ⟨o, ho, fun v q => by rw [hd] at q; cases q⟩
  keep := fun i h h' st k => let ⟨⟨old, he⟩, hi, hne⟩ := st; ⟨⟨old, k e (by simp) _ he⟩, hi.at fun o q => k it (by simp) o q, hne⟩
  item := by
    intro X hP hw hK hc i pins s σ H E I hf st hg
    subst hP hw hK
    obtain ⟨⟨old, he⟩, hit, hne, hai, hae⟩ := st
    obtain ⟨xs, x, hq, hx⟩ := hg
    obtain ⟨its, rv, p, hz⟩ := I.tuple hq
    obtain ⟨u, hu, ru⟩ := rv.get hx
    have hlt : i < its.length := by
      obtain ⟨z, _⟩ := List.getElem?_eq_some_iff.mp hu
      exact z
    have hel : e < s.heap.objs.size := Heap.lt_size he
    have hil : it < s.heap.objs.size := by obtain ⟨_, q, _⟩ := hit; exact Heap.lt_size q
    have D := Draws.tuple (prog := X.prog) (w := X.w) (A := X.A.in1) (show X.A.in1.handled = none from I.ok.hd hc) it a hai its.toArray
    refine wpAny_pyNext_enum_itemD D he ⟨hit, p⟩ (by simpa using hlt) hne (by simp [hne, hae.symm]) fun y h' tk hy ho st' hT hsz hk => ?_
    have hyu : y = u := by
      have h1 : its[i]? = some y := by simpa using hy
      rw [hu] at h1
      exact (Option.some.inj h1).symm
    subst hyu
    refine ⟨_, rfl, wpAny_letOwnedTupleGo_enum (s := { s with heap := h', toks := tk + 1 }) ho fun h'' he' sb => ?_⟩
    have hT2 : h''.get? s.heap.objs.size = some { cls := .type "tuple", data := .seq #[.int i tk, y] } := (sb.2 _ (Nat.ne_of_gt hel)).trans hT
    have new : ObjOk X.prog X.w (upd H s.heap.objs.size (.tup [.int (i : Nat), x])) h'' s.heap.objs.size (.tup [.int (i : Nat), x]) :=
      ⟨by show 2 ≤ sizeLine; decide, [.int i tk, y], .cons ⟨_, rfl⟩ (.cons ru .nil), ⟨_, hT2, rfl, _, rfl⟩⟩
    have I1 : Inv X pins σ (upd H s.heap.objs.size (.tup [.int (i : Nat), x])) { s with heap := h'', toks := tk + 1 } :=
      I.turnedNew (ch := [e, it]) (fun b ob hb q => (sb.2 b (fun z => hb (by simp [z]))).trans (hk b ob (fun z => hb (by simp [z])) (fun z => hb (by simp [z])) q)) hf (Nat.le_refl _) new
    refine ⟨.ref s.heap.objs.size, _, I1, rfl, ⟨_, x, rfl, I.hok.fresh (Nat.le_refl _), rfl, fun ys hy => by rw [I.tuple_inj hy hq]; exact hx⟩, ⟨⟨y, ?_⟩, st'.1.at fun o q => (sb.2 it (Ne.symm hne)).trans q, hne, hai, hae⟩, fun b hb => ?_⟩
    · have e1 : ((i + 1 : Nat) : Int) = (i : Int) + 1 := by omega
      rw [e1]; exact he'
    · have hb' : b < s.heap.objs.size := by
        have e' : b = e ∨ b = it := by simpa using hb
        rcases e' with z | z
        · rw [z]; exact hel
        · rw [z]; exact hil
      rw [upd_ne (Nat.ne_of_lt hb')]
      exact (hf b hb).1
  done := by
    intro X hP hw hK hc i pins s σ H E I hf st hg
    subst hP hw hK
    obtain ⟨⟨old, he⟩, hit, hne, hai, hae⟩ := st
    obtain ⟨xs, hq, hx⟩ := hg
    obtain ⟨its, rv, p, hz⟩ := I.tuple hq
    obtain ⟨f0, f1, f2, f3, f4, f5⟩ := hf it (by simp)
    have hl := rv.length
    have hh : X.A.in1.handled = none := I.ok.hd hc
    have D : Draws X.prog X.w X.A.in1 it [it, a] i (fun _ _ => False) (fun j h => j = i ∧ h.IsTupleIter it a j ∧ h.IsTuple a its.toArray) :=
      { live := fun _ _ st => let ⟨o, ho, _⟩ := st.2.1; ⟨o, ho⟩
        frame := fun _ _ _ st hk => ⟨st.1, st.2.1.at fun o e => hk it (by simp) o e, st.2.2.at fun o e => hk a (by simp) o e⟩
        item := fun j s Q E hj st hQ => absurd hj (by rw [st.1]; exact Nat.lt_irrefl _)
        done := fun s Q E st hE => wpAny_nextOf_tuple_end hh st.2.1 st.2.2 (by simp; omega) hE }
    exact wpAny_pyNext_enum_endD D he ⟨rfl, hit, p⟩ fun h' eb => ⟨rfl, I.turned (t' := s.toks) (fun b o hb q => eb b o hb q) f0 f1 f3 f4 f5⟩
  self := fun A i s Q E st h => let ⟨⟨_, he⟩, _⟩ := st; wpAny_pyIter_enum he h
def iEnumT (K : PySem.W.Frag) (ta : TA) : TI := fun σ H R => ta σ H fun vs H1 => ∃ a xs, vs = [.ref a] ∧ SqT K H1 a xs ∧ R (IteT K a) H1
theorem pi_enumT {X : Cx} {e : Expr} {ta : TA} {p pos tpos : Pos} {elts : List Expr} {kk : Nat} (hg : Gl X "enumerate") (hm : X.mg "enumerate" = none) (ha : PA X [e] ta) (hs : starEach [e] X.env = [(false, eval e X.env)] := by rfl) :
    PI X (.Tuple elts kk tpos) (.Call (.Name "enumerate" p) [e] [] pos) (iEnumT X.K ta) := by
  refine ⟨fun pins s σ H R I h => ?_⟩
  refine Call_ (ld_blt I hg hm boot_enumerate (PyProof.Rows.callWith_type1 (thn (ha.run pos pins s σ H _ I h) fun us s1 ⟨vs, H1, I1, r1, q1⟩ => ?_) hs rfl))
  obtain ⟨a, xs, ex, hq, q⟩ := q1
  subst ex
  cases r1 with
  | cons r rr =>
    cases rr
    cases r
    obtain ⟨its, rv, p', hz⟩ := I1.tuple hq
    have hal : a < s1.heap.objs.size := by obtain ⟨_, z, _⟩ := p'; exact Heap.lt_size z
    refine enum_begins1 (begins_tuple a its.toArray) p' fun h' he hit hsz hk => wpAny_pyIter_enum he ?_
    have I2 : Inv X pins σ H1 { s1 with heap := h' } := I1.kept (t' := s1.toks) hk
    have hit' : h'.IsTupleIter s1.heap.objs.size a 0 := ⟨_, hit, rfl, rfl⟩
    refine ⟨s1.heap.objs.size + 1, [s1.heap.objs.size + 1, s1.heap.objs.size], _, _, H1, rfl, I2, turn_enumT a (s1.heap.objs.size + 1) s1.heap.objs.size, ⟨⟨.none, he⟩, hit', Nat.succ_ne_self _, Nat.ne_of_lt hal, Nat.ne_of_lt (Nat.lt_succ_of_lt hal)⟩, fun b hb => ?_, q⟩
    have e' : b = s1.heap.objs.size + 1 ∨ b = s1.heap.objs.size := by simpa using hb
    have hle : s1.heap.objs.size ≤ b := by
      rcases e' with z | z
      · rw [z]; exact Nat.le_add_right _ _
      · rw [z]; exact Nat.le_refl _
    exact I1.fpOk hle (I1.hok.fresh hle)
/-- the i-th of xs with its number, in a new pair -/
theorem walk_enumT {K : PySem.W.Frag} {a : Addr} {xs : List V} : Walk (IteT K a) xs.length (fun H => SqT K H a xs) (fun i H v H' => ∃ T x, v = .ref T ∧ H T = none ∧ H' = upd H T (.tup [.int (i : Nat), x]) ∧ xs[i]? = some x) where
  goes := fun i H hi h => ⟨xs, xs[i], h, List.getElem?_eq_getElem hi⟩
  stops := fun H h => ⟨xs, h, Nat.le_refl _⟩
  yields := fun i H v H' hi h ⟨T, x, e, hT, eH, hx⟩ => ⟨T, x, e, hT, eH, hx xs h⟩
end L2
set_option Elab.async false
set_option linter.all false
set_option maxRecDepth 100000
set_option maxHeartbeats 4000000
namespace L2
open PySem PySem.Spec PyProof.Rows
/-! ### data with dicts in it -/
mutual
inductive Dq (K : PySem.W.Frag) (H : Hp) : V → PyData → Prop
  | non : Dq K H .non .none
  | bl (b : Bool) : Dq K H (.bl b) (.bool b)
  | int (i : Int) : Dq K H (.int i) (.int i)
  | str (x : Str) : Dq K H (.str x) (.str x)
  | lst {a : Addr} {xs : List V} {ds : List PyData} : SqL K H a xs → DqAll K H xs ds → Dq K H (.ref a) (.list ds)
  | tup {a : Addr} {xs : List V} {ds : List PyData} : SqT K H a xs → DqAll K H xs ds → Dq K H (.ref a) (.tuple ds)
  | dct {a : Addr} {kvs : List (Key × V)} {ps : List (PyData × PyData)} : H a = some (.dK kvs) → DqAll K H (kvs.map fun q => kV q.1) (ps.map (·.1)) → DqAll K H (kvs.map (·.2)) (ps.map (·.2)) → Dq K H (.ref a) (.dict ps)
inductive DqAll (K : PySem.W.Frag) (H : Hp) : List V → List PyData → Prop
  | nil : DqAll K H [] []
  | cons {v : V} {vs : List V} {d : PyData} {ds : List PyData} : Dq K H v d → DqAll K H vs ds → DqAll K H (v :: vs) (d :: ds)
end
section
variable {K : PySem.W.Frag}
mutual
theorem Dp.q {H : Hp} : ∀ {v : V} {d : PyData}, Dp K H v d → Dq K H v d
  | _, _, .non => .non
  | _, _, .bl b => .bl b
  | _, _, .int i => .int i
  | _, _, .str x => .str x
  | _, _, .lst h a => .lst h (DpAll.q a)
  | _, _, .tup h a => .tup h (DpAll.q a)
theorem DpAll.q {H : Hp} : ∀ {vs : List V} {ds : List PyData}, DpAll K H vs ds → DqAll K H vs ds
  | _, _, .nil => .nil
  | _, _, .cons h t => .cons (Dp.q h) (DpAll.q t)
end
mutual
theorem Dq.mono {H H' : Hp} (e : Same H H') : ∀ {v : V} {d : PyData}, Dq K H v d → Dq K H' v d
  | _, _, .non => .non
  | _, _, .bl b => .bl b
  | _, _, .int i => .int i
  | _, _, .str x => .str x
  | _, _, .lst h a => .lst (e.seq h) (DqAll.mono e a)
  | _, _, .tup h a => .tup (sqT_mono e h) (DqAll.mono e a)
  | _, _, .dct h a b => .dct (e _ _ h) (DqAll.mono e a) (DqAll.mono e b)
theorem DqAll.mono {H H' : Hp} (e : Same H H') : ∀ {vs : List V} {ds : List PyData}, DqAll K H vs ds → DqAll K H' vs ds
  | _, _, .nil => .nil
  | _, _, .cons h t => .cons (Dq.mono e h) (DqAll.mono e t)
end
theorem DqAll.len {H : Hp} : ∀ {vs : List V} {ds : List PyData}, DqAll K H vs ds → vs.length = ds.length
  | _, _, .nil => rfl
  | _, _, .cons _ t => congrArg (· + 1) (DqAll.len t)
theorem DqAll.app {H : Hp} : ∀ {vs ws : List V} {ds es : List PyData}, DqAll K H vs ds → DqAll K H ws es → DqAll K H (vs ++ ws) (ds ++ es)
  | _, _, _, _, .nil, t => t
  | _, _, _, _, .cons h s, t => .cons h (DqAll.app s t)
theorem DqAll.at {H : Hp} : ∀ {vs : List V} {ds : List PyData} {i : Nat} {v : V}, DqAll K H vs ds → vs[i]? = some v → ∃ d, ds[i]? = some d ∧ Dq K H v d
  | _, _, i, v, .nil, e => by simp at e
  | _, _, 0, v, .cons h t, e => by
    simp at e
    exact ⟨_, rfl, e ▸ h⟩
  | _, _, i + 1, v, .cons h t, e => by
    obtain ⟨d, h1, h2⟩ := DqAll.at (i := i) t (by simpa using e)
    exact ⟨d, by simpa using h1, h2⟩
abbrev Qh (K : PySem.W.Frag) (p : Addr) (H : Hp) (v : V) (d : PyData) : Prop := Dq K (hid p H) v d
abbrev QhAll (K : PySem.W.Frag) (p : Addr) (H : Hp) (vs : List V) (ds : List PyData) : Prop := DqAll K (hid p H) vs ds
theorem Dq.un {p : Addr} {H : Hp} {v : V} {d : PyData} (h : Qh K p H v d) : Dq K H v d := Dq.mono hid_in h
theorem Dq.but {p : Addr} {H H' : Hp} {v : V} {d : PyData} (e : But p H H') (h : Qh K p H v d) : Qh K p H' v d := Dq.mono (hid_but e) h
theorem DqAll.but {p : Addr} {H H' : Hp} {vs : List V} {ds : List PyData} (e : But p H H') (h : QhAll K p H vs ds) : QhAll K p H' vs ds := DqAll.mono (hid_but e) h
theorem Dq.newT {p q : Addr} {H : Hp} {xs : List V} {ds : List PyData} (hq : H q = none) (n : q ≠ p) (h : QhAll K p H xs ds) : Qh K p (upd H q (.tup xs)) (.ref q) (.tuple ds) :=
  .tup (.inl (.inl (by rw [hid_ne n, upd_same]))) (DqAll.but (But.new hq) h)
theorem Dq.newL {p q : Addr} {H : Hp} {xs : List V} {ds : List PyData} (hq : H q = none) (n : q ≠ p) (h : QhAll K p H xs ds) : Qh K p (upd H q (.lst xs)) (.ref q) (.list ds) :=
  .lst (.inl (.inl (by rw [hid_ne n, upd_same]))) (DqAll.but (But.new hq) h)
theorem Dq.new0 {p q : Addr} {H : Hp} (hq : H q = none) (n : q ≠ p) : Qh K p (upd H q (.dK [])) (.ref q) (.dict []) :=
  .dct (kvs := []) (by rw [hid_ne n, upd_same]) .nil .nil
/-! ### isinstance -/
theorem Dq.ty {H : Hp} {v : V} {d : PyData} (h : Dq K H v d) : TyX K H v (.type (tyN d)) := by
  cases h with
  | non => exact .base .non
  | bl b => exact .base (.bl b)
  | int i => exact .base (.int i)
  | str x => exact .base (.str x)
  | lst hs _ =>
    rcases hs with (h | ⟨o, h⟩) | ⟨o, its, n, h, hc, _⟩
    · exact .base (.lst h)
    · exact .base (.frz h)
    · exact .kList h hc
  | tup hs _ =>
    rcases hs with (h | ⟨o, h⟩) | ⟨o, its, n, h, hc, _⟩
    · exact .base (.tup h)
    · exact .fTuple h
    · exact .kTuple h hc
  | dct h _ _ => exact .base (.dK h)
def isD : PyData → Bool | .dict _ => true | _ => false
def isOfQ : String → PyData → Bool
  | "str", d => isS d
  | "tuple", d => isT d
  | "list", d => isL d
  | "bool", d => isB d
  | "int", d => isI d
  | "dict", d => isD d
  | _, _ => false
theorem kitNq : (["NoneType", "bool", "int", "str", "list", "tuple", "dict"].all fun a => ["str", "tuple", "list", "bool", "int", "dict"].all fun T => kitB a T == some (tabN a T)) = true := by decide +kernel
theorem kit_allq {a T : String} (ha : a ∈ ["NoneType", "bool", "int", "str", "list", "tuple", "dict"]) (hT : T ∈ ["str", "tuple", "list", "bool", "int", "dict"]) : kitB a T = some (tabN a T) := by
  have h := List.all_eq_true.mp (List.all_eq_true.mp kitNq a ha) T hT
  exact eq_of_beq h
theorem isOfQ_tab {T : String} (hT : T ∈ ["str", "tuple", "list", "bool", "int", "dict"]) (d : PyData) : isOfQ T d = tabN (tyN d) T := by
  simp only [List.mem_cons, List.not_mem_nil, or_false] at hT
  rcases hT with rfl | rfl | rfl | rfl | rfl | rfl <;> cases d <;> first | rfl | decide
theorem isOfQ_kit {d : PyData} {T : String} (hT : T ∈ ["str", "tuple", "list", "bool", "int", "dict"]) : kitB (tyN d) T = some (isOfQ T d) := by
  rw [isOfQ_tab hT]
  refine kit_allq ?_ hT
  cases d <;> simp [tyN]
end
def rIsQ (K : PySem.W.Frag) : List V → Hp → VK → Prop := fun xs H Q => ∃ (v : V) (d : PyData) (T : String), xs = [v, .ty T] ∧ Dq K H v d ∧ T ∈ ["str", "tuple", "list", "bool", "int", "dict"] ∧ Q (.bl (isOfQ T d)) H
section
variable {X : Cx}
theorem call_isQ : CallR X (.builtin "isinstance") (rIsQ X.K) := by
  intro pins s σ H xs us Q I r h
  obtain ⟨v, d, T, rfl, hd, hT, q⟩ := h
  exact call_isi pins s σ H _ us Q I r ⟨v, .ty T, .type (tyN d), .type T, isOfQ T d, rfl, .ty T, hd.ty, kit_ty (isOfQ_kit hT), q⟩
end
/-! ### the heap's own reading of it; no list beside a dict -/
mutual
def nl : PyData → Bool
  | .list _ => false
  | .tuple xs => nls xs
  | .dict kvs => nlk kvs
  | _ => true
def nls : List PyData → Bool
  | [] => true
  | x :: xs => nl x && nls xs
def nlk : List (PyData × PyData) → Bool
  | [] => true
  | (k, v) :: r => nl k && nl v && nlk r
end
theorem nlk_of : ∀ {ps : List (PyData × PyData)}, nlk ps = true → nls (ps.map (·.1)) = true ∧ nls (ps.map (·.2)) = true
  | [], _ => ⟨rfl, rfl⟩
  | (k, v) :: r, h => by
    have h' : (nl k && nl v && nlk r) = true := by simpa [nlk] using h
    simp only [Bool.and_eq_true] at h'
    have ih := nlk_of h'.2
    simp only [List.map_cons, nls, Bool.and_eq_true]
    exact ⟨⟨h'.1.1, ih.1⟩, ⟨h'.1.2, ih.2⟩⟩
section
variable {P : Program} {w : World}
theorem kv_keys : ∀ {kvs : List (Key × V)} {vs : List (Key × Value)} {es : List DictEntry}, KV kvs vs → Pairs (mixKind P w) es vs → Vals (kvs.map fun q => kV q.1) (es.map (·.key)) ∧ Vals (kvs.map (·.2)) (es.map (·.val))
  | _, _, _, .nil, .nil => ⟨.nil, .nil⟩
  | _, _, _, .cons (a := q) (b := z) ⟨h1, h2⟩ r, .cons (e := e) k1 k2 k3 => by
    have ih := kv_keys r k3
    refine ⟨.cons ?_ ih.1, .cons ?_ ih.2⟩
    · have k1' : keyIs z.1 e.key = true := k1
      rw [← h1] at k1'
      rcases keyIs_shape k1' with ⟨i, t, e1, e2⟩ | ⟨x, t, e1, e2⟩
      · show RelV (kV q.1) e.key
        rw [e1, e2]
        exact ⟨t, rfl⟩
      · show RelV (kV q.1) e.key
        rw [e1, e2]
        exact ⟨t, rfl⟩
    · show RelV q.2 e.val
      rw [k2]
      exact h2
end
section
variable {X : Cx} {pins : List (Addr × Obj)} {σ : St} {H : Hp} {s : Shared}
mutual
theorem Dq.reads (I : Inv X pins σ H s) : ∀ {v : V} {d : PyData} {u : Value}, Dq X.K H v d → RelV v u → ∃ as, Reads s.heap u d as ∧ (nl d = true → sysModules ∉ as)
  | _, _, _, .non, r => by
    cases r
    exact ⟨_, Reads.none, fun _ h => nomatch h⟩
  | _, _, _, .bl b, r => by
    cases r
    exact ⟨_, Reads.bool b, fun _ h => nomatch h⟩
  | _, _, _, .int i, r => by
    obtain ⟨t, rfl⟩ := r
    exact ⟨_, Reads.int i t, fun _ h => nomatch h⟩
  | _, _, _, .str x, r => by
    obtain ⟨t, rfl⟩ := r
    exact ⟨_, Reads.str x t, fun _ h => nomatch h⟩
  | _, _, _, .lst hs ha, r => by
    cases r
    obtain ⟨its, rv, ⟨o, n, ho, hc, _, hd⟩, _⟩ := I.list hs
    obtain ⟨as, hr, _⟩ := DqAll.reads I ha rv
    exact ⟨_, Reads.list ho hc hd hr, fun h => by simp [nl] at h⟩
  | _, _, _, .tup hs ha, r => by
    cases r
    obtain ⟨its, rv, ⟨o, ho, hc, n, hd⟩, _⟩ := I.tuple hs
    obtain ⟨as, hr, hn⟩ := DqAll.reads I ha rv
    exact ⟨_, Reads.tuple ho hc hd hr, fun h => hn (by simpa [nl] using h)⟩
  | _, _, _, .dct (a := a) (ps := ps) hs hk hv, r => by
    cases r
    obtain ⟨_, hlow, vs, kv, o, es, ep, ho, ⟨hc, _, _⟩, hd, _, hp, _⟩ := I.hok _ _ hs
    obtain ⟨v1, v2⟩ := kv_keys kv hp
    obtain ⟨as, r1, n1⟩ := DqAll.reads I hk v1
    obtain ⟨bs, r2, n2⟩ := DqAll.reads I hv v2
    refine ⟨_, Reads.dict ho hc hd r1 r2, fun h => ?_⟩
    have h' := nlk_of (ps := ps) (by simpa [nl] using h)
    have hl := beq_eq_false_iff_ne.mp hlow
    intro hm
    rw [List.cons_append, List.mem_cons, List.mem_append] at hm
    rcases hm with hm | hm | hm
    · exact hl hm.symm
    · exact n1 h'.1 hm
    · exact n2 h'.2 hm
theorem DqAll.reads (I : Inv X pins σ H s) : ∀ {vs : List V} {ds : List PyData} {us : List Value}, DqAll X.K H vs ds → Vals vs us → ∃ as, ReadsAll s.heap us ds as ∧ (nls ds = true → sysModules ∉ as)
  | _, _, _, .nil, r => by
    cases r
    exact ⟨_, ReadsAll.nil, fun _ h => nomatch h⟩
  | _, _, _, .cons h1 h2, r => by
    cases r with
    | cons r1 r2 =>
      obtain ⟨as, q1, n1⟩ := Dq.reads I h1 r1
      obtain ⟨bs, q2, n2⟩ := DqAll.reads I h2 r2
      refine ⟨_, ReadsAll.cons q1 q2, fun h => ?_⟩
      have h' := h
      simp only [nls, Bool.and_eq_true] at h'
      intro hm
      rcases List.mem_append.mp hm with hm | hm
      · exact n1 h'.1 hm
      · exact n2 h'.2 hm
end
/-! ### repr -/
structure shownQ (d : PyData) : Prop where
  sh : d.showable = true
  dep : d.depth ≤ 64
  len : d.shown.length ≤ sizeLine
  nd : d.hasDict = true → nl d = true
def rReprQ (K : PySem.W.Frag) : List V → Hp → VK → Prop := fun xs H Q => ∃ (v : V) (d : PyData), xs = [v] ∧ Dq K H v d ∧ shownQ d ∧ Q (.str d.shown) H
theorem call_reprQ (hg : X.A.guards = some []) (hu : X.A.units + 70 < cLine) : CallR X (.builtin "repr") (rReprQ X.K) := by
  intro pins s σ H xs us Q I r h
  obtain ⟨v, d, rfl, hd, ⟨hs, hdep, hl, hnd⟩, q⟩ := h
  obtain ⟨u, rfl, ru⟩ := vals1 r
  obtain ⟨as, rd, hm⟩ := Dq.reads I hd ru
  have big : ∀ a, u = Value.ref a → wpAny (model X.prog X.w) X.A (call (.builtin "repr") [u]) (EP X pins σ Q) X.xe s := fun a e => by
    subst e
    exact repr_of_reads' rd hs (fun h => hm (hnd h)) hg (by omega) (fun _ _ e => e) (fun h' t tk k => ⟨.str d.shown, H, I.kept k, ⟨_, rfl⟩, q⟩) hl
  cases hd with
  | non =>
    cases ru
    exact PySem.P.repr_of_none ⟨.str _, H, I.tok _, ⟨_, rfl⟩, by simpa only [PyData.shown] using q⟩
  | bl b =>
    cases ru
    exact PySem.P.repr_of_bool ⟨.str _, H, I.tok _, ⟨_, rfl⟩, by simpa only [PyData.shown] using q⟩
  | int i =>
    obtain ⟨t, rfl⟩ := ru
    exact PySem.P.repr_of_int (by simpa [PyData.showable] using hs) ⟨.str _, H, I.tok _, ⟨_, rfl⟩, by simpa only [PyData.shown] using q⟩
  | str x =>
    obtain ⟨t, rfl⟩ := ru
    exact PySem.P.repr_of_str ⟨.str _, H, I.tok _, ⟨_, rfl⟩, by simpa only [PyData.shown] using q⟩ (by simpa only [PyData.shown] using hl)
  | lst _ _ => exact big _ ru
  | tup _ _ => exact big _ ru
  | dct _ _ _ => exact big _ ru
end
end L2
set_option Elab.async false
set_option linter.all false
set_option maxRecDepth 100000
set_option maxHeartbeats 4000000
namespace L2
open PySem PySem.Spec PyProof.Rows
/-! ### data with dicts in it whose lists were all made by the run: repr of it, lists beside dicts too -/
mutual
inductive Dr (K : PySem.W.Frag) (H : Hp) : V → PyData → Prop
  | non : Dr K H .non .none
  | bl (b : Bool) : Dr K H (.bl b) (.bool b)
  | int (i : Int) : Dr K H (.int i) (.int i)
  | str (x : Str) : Dr K H (.str x) (.str x)
  | lst {a : Addr} {xs : List V} {ds : List PyData} : a ≠ sysModules → SqL K H a xs → DrAll K H xs ds → Dr K H (.ref a) (.list ds)
  | tup {a : Addr} {xs : List V} {ds : List PyData} : SqT K H a xs → DrAll K H xs ds → Dr K H (.ref a) (.tuple ds)
  | dct {a : Addr} {kvs : List (Key × V)} {ps : List (PyData × PyData)} : H a = some (.dK kvs) → DrAll K H (kvs.map fun q => kV q.1) (ps.map (·.1)) → DrAll K H (kvs.map (·.2)) (ps.map (·.2)) → Dr K H (.ref a) (.dict ps)
inductive DrAll (K : PySem.W.Frag) (H : Hp) : List V → List PyData → Prop
  | nil : DrAll K H [] []
  | cons {v : V} {vs : List V} {d : PyData} {ds : List PyData} : Dr K H v d → DrAll K H vs ds → DrAll K H (v :: vs) (d :: ds)
end
section
variable {K : PySem.W.Frag}
mutual
theorem Dr.q {H : Hp} : ∀ {v : V} {d : PyData}, Dr K H v d → Dq K H v d
  | _, _, .non => .non
  | _, _, .bl b => .bl b
  | _, _, .int i => .int i
  | _, _, .str x => .str x
  | _, _, .lst _ h a => .lst h (DrAll.q a)
  | _, _, .tup h a => .tup h (DrAll.q a)
  | _, _, .dct h a b => .dct h (DrAll.q a) (DrAll.q b)
theorem DrAll.q {H : Hp} : ∀ {vs : List V} {ds : List PyData}, DrAll K H vs ds → DqAll K H vs ds
  | _, _, .nil => .nil
  | _, _, .cons h t => .cons (Dr.q h) (DrAll.q t)
end
mutual
theorem Dr.mono {H H' : Hp} (e : Same H H') : ∀ {v : V} {d : PyData}, Dr K H v d → Dr K H' v d
  | _, _, .non => .non
  | _, _, .bl b => .bl b
  | _, _, .int i => .int i
  | _, _, .str x => .str x
  | _, _, .lst n h a => .lst n (e.seq h) (DrAll.mono e a)
  | _, _, .tup h a => .tup (sqT_mono e h) (DrAll.mono e a)
  | _, _, .dct h a b => .dct (e _ _ h) (DrAll.mono e a) (DrAll.mono e b)
theorem DrAll.mono {H H' : Hp} (e : Same H H') : ∀ {vs : List V} {ds : List PyData}, DrAll K H vs ds → DrAll K H' vs ds
  | _, _, .nil => .nil
  | _, _, .cons h t => .cons (Dr.mono e h) (DrAll.mono e t)
end
/-! data without lists and dicts, as it was read before -/
mutual
def pureD : PyData → Bool
  | .list _ => false
  | .dict _ => false
  | .tuple xs => pureDs xs
  | _ => true
def pureDs : List PyData → Bool
  | [] => true
  | x :: xs => pureD x && pureDs xs
end
mutual
theorem Dp.r {H : Hp} : ∀ {v : V} {d : PyData}, pureD d = true → Dp K H v d → Dr K H v d
  | _, _, _, .non => .non
  | _, _, _, .bl b => .bl b
  | _, _, _, .int i => .int i
  | _, _, _, .str x => .str x
  | _, _, n, .lst h a => by simp [pureD] at n
  | _, _, n, .tup h a => .tup h (DpAll.r (by simpa [pureD] using n) a)
theorem DpAll.r {H : Hp} : ∀ {vs : List V} {ds : List PyData}, pureDs ds = true → DpAll K H vs ds → DrAll K H vs ds
  | _, _, _, .nil => .nil
  | _, _, n, .cons h t => by
    have n' := n
    simp only [pureDs, Bool.and_eq_true] at n'
    exact .cons (Dp.r n'.1 h) (DpAll.r n'.2 t)
end
end
section
variable {X : Cx} {pins : List (Addr × Obj)} {σ : St} {H : Hp} {s : Shared}
mutual
theorem Dr.reads (I : Inv X pins σ H s) : ∀ {v : V} {d : PyData} {u : Value}, Dr X.K H v d → RelV v u → ∃ as, Reads s.heap u d as ∧ sysModules ∉ as
  | _, _, _, .non, r => by
    cases r
    exact ⟨_, Reads.none, fun h => nomatch h⟩
  | _, _, _, .bl b, r => by
    cases r
    exact ⟨_, Reads.bool b, fun h => nomatch h⟩
  | _, _, _, .int i, r => by
    obtain ⟨t, rfl⟩ := r
    exact ⟨_, Reads.int i t, fun h => nomatch h⟩
  | _, _, _, .str x, r => by
    obtain ⟨t, rfl⟩ := r
    exact ⟨_, Reads.str x t, fun h => nomatch h⟩
  | _, _, _, .lst (a := a) ne hs ha, r => by
    cases r
    obtain ⟨its, rv, ⟨o, n, ho, hc, _, hd⟩, _⟩ := I.list hs
    obtain ⟨as, hr, hn⟩ := DrAll.reads I ha rv
    refine ⟨_, Reads.list ho hc hd hr, fun hm => ?_⟩
    rcases List.mem_cons.mp hm with e | hm
    · exact ne e.symm
    · exact hn hm
  | _, _, _, .tup hs ha, r => by
    cases r
    obtain ⟨its, rv, ⟨o, ho, hc, n, hd⟩, _⟩ := I.tuple hs
    obtain ⟨as, hr, hn⟩ := DrAll.reads I ha rv
    exact ⟨_, Reads.tuple ho hc hd hr, hn⟩
  | _, _, _, .dct (a := a) (ps := ps) hs hk hv, r => by
    cases r
    obtain ⟨_, hlow, vs, kv, o, es, ep, ho, ⟨hc, _, _⟩, hd, _, hp, _⟩ := I.hok _ _ hs
    obtain ⟨v1, v2⟩ := kv_keys kv hp
    obtain ⟨as, r1, n1⟩ := DrAll.reads I hk v1
    obtain ⟨bs, r2, n2⟩ := DrAll.reads I hv v2
    refine ⟨_, Reads.dict ho hc hd r1 r2, fun hm => ?_⟩
    have hl := beq_eq_false_iff_ne.mp hlow
    rw [List.cons_append, List.mem_cons, List.mem_append] at hm
    rcases hm with hm | hm | hm
    · exact hl hm.symm
    · exact n1 hm
    · exact n2 hm
theorem DrAll.reads (I : Inv X pins σ H s) : ∀ {vs : List V} {ds : List PyData} {us : List Value}, DrAll X.K H vs ds → Vals vs us → ∃ as, ReadsAll s.heap us ds as ∧ sysModules ∉ as
  | _, _, _, .nil, r => by
    cases r
    exact ⟨_, ReadsAll.nil, fun h => nomatch h⟩
  | _, _, _, .cons h1 h2, r => by
    cases r with
    | cons r1 r2 =>
      obtain ⟨as, q1, n1⟩ := Dr.reads I h1 r1
      obtain ⟨bs, q2, n2⟩ := DrAll.reads I h2 r2
      refine ⟨_, ReadsAll.cons q1 q2, fun hm => ?_⟩
      rcases List.mem_append.mp hm with hm | hm
      · exact n1 hm
      · exact n2 hm
end
/-- a list written out: new, and not sys.modules -/
def tLstN (t : TA) : TE := fun σ H Q => t σ H fun xs H1 => xs.length ≤ sizeLine ∧ ∀ p, H1 p = none → p ≠ sysModules → Q (.ref p) (upd H1 p (.lst xs))
theorem pe_lstN {es : List Expr} {pos : Pos} {t : TA} (h : PA X es t) : PE X (.List es pos) (tLstN t) := by
  refine ⟨fun pins s σ H Q I hq => ?_⟩
  refine wpAny_List_spliced (thn (h.run pos pins s σ H _ I hq) fun us s1 ⟨xs, H1, I1, r, z, q⟩ => ⟨by rw [← r.length]; exact z, ?_⟩)
  have hf : H1 s1.heap.objs.size = none := I1.hok.fresh (Nat.le_refl _)
  have hb : s1.heap.objs.size ≠ sysModules := fun e => by
    have := I1.big
    rw [e] at this
    exact Nat.lt_irrefl _ this
  refine ⟨.ref s1.heap.objs.size, upd H1 s1.heap.objs.size (.lst xs), I1.laid (t' := s1.toks) (fun b u e => Heap.get?_push_of_some _ e) (Nat.le_refl _) ?_, rfl, q _ hf hb⟩
  exact ⟨z, us, 0, r, Heap.get?_push_size _ rfl⟩
structure shownR (d : PyData) : Prop where
  sh : d.showable = true
  dep : d.depth ≤ 64
  len : d.shown.length ≤ sizeLine
def rReprR (K : PySem.W.Frag) : List V → Hp → VK → Prop := fun xs H Q => ∃ (v : V) (d : PyData), xs = [v] ∧ Dr K H v d ∧ shownR d ∧ Q (.str d.shown) H
theorem call_reprR (hg : X.A.guards = some []) (hu : X.A.units + 70 < cLine) : CallR X (.builtin "repr") (rReprR X.K) := by
  intro pins s σ H xs us Q I r h
  obtain ⟨v, d, rfl, hd, ⟨hs, hdep, hl⟩, q⟩ := h
  obtain ⟨u, rfl, ru⟩ := vals1 r
  obtain ⟨as, rd, hm⟩ := Dr.reads I hd ru
  have big : ∀ a, u = Value.ref a → wpAny (model X.prog X.w) X.A (call (.builtin "repr") [u]) (EP X pins σ Q) X.xe s := fun a e => by
    subst e
    exact repr_of_reads' rd hs (fun _ => hm) hg (by omega) (fun _ _ e => e) (fun h' t tk k => ⟨.str d.shown, H, I.kept k, ⟨_, rfl⟩, q⟩) hl
  cases hd with
  | non =>
    cases ru
    exact PySem.P.repr_of_none ⟨.str _, H, I.tok _, ⟨_, rfl⟩, by simpa only [PyData.shown] using q⟩
  | bl b =>
    cases ru
    exact PySem.P.repr_of_bool ⟨.str _, H, I.tok _, ⟨_, rfl⟩, by simpa only [PyData.shown] using q⟩
  | int i =>
    obtain ⟨t, rfl⟩ := ru
    exact PySem.P.repr_of_int (by simpa [PyData.showable] using hs) ⟨.str _, H, I.tok _, ⟨_, rfl⟩, by simpa only [PyData.shown] using q⟩
  | str x =>
    obtain ⟨t, rfl⟩ := ru
    exact PySem.P.repr_of_str ⟨.str _, H, I.tok _, ⟨_, rfl⟩, by simpa only [PyData.shown] using q⟩ (by simpa only [PyData.shown] using hl)
  | lst _ _ => exact big _ ru
  | tup _ _ => exact big _ ru
  | dct _ _ _ => exact big _ ru
end
end L2
set_option Elab.async false
set_option linter.all false
set_option maxRecDepth 100000
set_option maxHeartbeats 4000000
namespace L2
open PySem PySem.Spec PyProof.Rows
/-! a def whose promise is asked only where no repr is under way -/
structure FnG (P : Program) (w : World) (K : PySem.W.Frag) (mg : Str → Option Value) (base : Heap) (CX : CXT) (k : Nat) (f : Addr) (fd : FuncData) (ps : List Str) (sp : Sp) : Prop where
  run : ∀ (A : Around) (outer : List Env) (s : Shared) (H : Hp) (args : Args) (us : List Value) (vs : List V) (Q : VK) (E : XK), A.guards = some [] → Room k A → Env0 P w K mg base A outer s H →
    BindsTo s fd args (ps.zip us) → Vals vs us → sp vs H Q E → codeAny (model P w) A (.call (.ref f) args) (CR CX outer P w H s Q E) s
section
variable {P : Program} {w : World} {K : PySem.W.Frag} {mg : Str → Option Value} {base : Heap} {CX : CXT} {k : Nat}
theorem fnG_of {f : Addr} {nm ql : Str} {pa : Arguments} {bd : List Stmt} {sc : Scope} {dV kV dc pm cdv ct oc : Value} {an od : Option Addr} {osl : Array (Option Value)} {N ps : List Str} {sp : Sp}
    (lk : K.lookup f = some ⟨oc, od, .func (PySem.W.fnOf nm ql pa bd sc dV kV dc pm an cdv ct), osl⟩) (hcd : PySem.W.codeIn K cdv ql = true) (S : FnScope N ps sc)
    (ln : ∀ vs H Q E, sp vs H Q E → vs.length = ps.length)
    (hb : ∀ (A : Around) (outer : List Env) (s : Shared) (H : Hp) (vs : List V) (Q : VK) (E : XK), (A.deeper (envOfC ql sc s.heap.objs.size f cdv)).guards = some [] → Room k (A.deeper (envOfC ql sc s.heap.objs.size f cdv)) → sp vs H Q E →
      ∃ t, PSs (cxOf CX P w K mg base N ql sc f cdv A outer s H E) bd t ∧ t { nx := fun _ H' => Q .non H', rt := Q } (start N vs) H) :
    FnG P w K mg base CX (k + 1) f (PySem.W.fnOf nm ql pa bd sc dV kV dc pm an cdv ct) ps sp := by
  constructor
  intro A outer s H args us vs Q E hg hr e0 hbd rv hsp
  have hln := ln _ _ _ _ hsp
  have inK : K.In s.heap := e0.mod.kin.keeps (fun b o e => (e0.bs b o e).1)
  have noL : s.heap.NoLimit := e0.mod.nolimit.keeps (fun b o e => (e0.bs b o e).1)
  have hkd : ∀ y ∈ ps.zip us, sc.names.lookup y.1 = some .local ∨ (sc.names.lookup y.1 = some .cell ∧ ((cellsFrom (s.heap.objs.size + 1) sc.names []).lookup y.1).isSome = true) := by
    rintro ⟨n, v⟩ hy
    rcases S.par n (List.of_mem_zip hy).1 with z | z
    · exact Or.inl z
    · exact Or.inr ⟨z, PySem.W.cellsFrom_some _ _ _ (Or.inl z)⟩
  refine codeAny_call_function hr.depth (inK _ _ lk) rfl S.co S.gen rfl
    (PySem.W.codeRec_of inK hcd) (hbd _ _ _ _ ?_)
  refine wpAny_newFunctionEnv_cells S.kind hkd
    (fun env he s1 x => ?_)
  subst he
  refine ⟨noL.keeps x.toInCall.keep, codeAny_func ?_⟩
  obtain ⟨t, ht, hq⟩ := hb A outer s H vs Q E hg (hr.deeper _) hsp
  have I0 := inv_start (CX := CX) (E := E) S hr.hd e0 hln rv x
  refine wpAny_mono (ht.run [] s1 (start N vs) H _ I0 hq)
    (fun fl s' hs => ?_) (fun e s' hs => hs)
  have done : ∀ {σ' : St} {H' : Hp} {v : V} {u : Value}, Inv (cxOf CX P w K mg base N ql sc f cdv A outer s H E) [] σ' H' s' → RelV v u → Q v H' → CE outer P w H s Q u s' := by
    intro σ' H' v u J r q
    exact ⟨v, H', J.os, J.bare, J.base, J.hok, r, q⟩
  cases fl with
  | ret u =>
    obtain ⟨v, σ', H', J, r, q⟩ := hs
    exact done J r q
  | next =>
    obtain ⟨σ', H', J, q⟩ := hs
    exact done (v := .non) (u := .none) J rfl q
  | brk => exact (hs.elim fun _ ⟨_, _, q⟩ => q.elim)
  | cont => exact (hs.elim fun _ ⟨_, _, q⟩ => q.elim)
/-- by its place in the text, as C8's -/
theorem fnG0 {x : Str} {st : Stmt} {f : Addr} {fd : FuncData} {N ps : List Str} {sp : Sp} (D : C8.Def K mg x st f fd) (S : FnScope N ps (C8.fnScope st)) (ln : ∀ vs H Q E, sp vs H Q E → vs.length = ps.length)
    (hb : ∀ (cdv : Value) (A : Around) (outer : List Env) (s : Shared) (H : Hp) (vs : List V) (Q : VK) (E : XK), (A.deeper (envOfC x (C8.fnScope st) s.heap.objs.size f cdv)).guards = some [] → Room k (A.deeper (envOfC x (C8.fnScope st) s.heap.objs.size f cdv)) → sp vs H Q E →
      ∃ t, PSs (cxOf C8.CX0 P w K mg base N x (C8.fnScope st) f cdv A outer s H E).nox (C8.fnBody st) t ∧ t { nx := fun _ H' => Q .non H', rt := Q } (start N vs) H) : FnG P w K mg base C8.CX0 (k + 1) f fd ps sp := by
  obtain ⟨oc, od, dV, kV, doc, pm, an, cdv, ct, osl, rfl, lk, hcd⟩ := D.fn.ex
  refine fnG_of lk hcd S ln (fun A outer s H vs Q E hg hr hsp => ?_)
  obtain ⟨t, h, q⟩ := hb cdv A outer s H vs Q E hg hr hsp
  exact ⟨t, h.nox, q⟩
end
/-- the law's call, from such a promise -/
theorem lawG {P : Program} {w : World} {K : PySem.W.Frag} {mg mb : Str → Option Value} {CX : CXT} {k : Nat} {fa a : Addr} {fd : FuncData} {x : Str} {sp : Sp} {s₁ : Shared} {vs : List Value} {ns : List Int}
    (KX : K.In s₁.heap) (hns : s₁.heap.Ns mainGlobals mg) (hb : s₁.heap.Ns builtinsNs mb) (hbb : ∀ x : Str, x ≠ "__name__" → mb x = bootBuiltins x) (hlim : s₁.heap.NoLimit) (hg : s₁.gens = #[])
    (ha : s₁.heap.get? a = some { cls := .type "list", data := .seq vs.toArray }) (hi : IntsAre vs ns) (hl : ns.length ≤ sizeLine) (hr : Room k callerA)
    (F : ∀ base : Heap, K.In base → base.Ns mainGlobals mg → FnG P w K mg base CX k fa fd [x] sp)
    (hbind : ∀ (s : Shared) (u : Value), BindsTo s fd ⟨[u], []⟩ [(x, u)])
    (hsp : ∀ H : Hp, Only H → SqL K H a (ns.map V.int) → sp [.ref a] H (fun v _ => v = .bl true) fun _ _ _ => False)
    (hCX : ∀ H e s', CX [] H s₁ (fun _ _ _ => False) e s' → False) :
    codeAny (model P w) callerA (.call (.ref fa) ⟨[.ref a], []⟩) (fun r s' => r = .ok (.ret (.bool true)) ∧ OldK s₁.heap s'.heap ∧ s'.os = s₁.os ∧ AllBare s'.gens) s₁ := by
  have vi := vals_ints hi
  have hvl := hi.length
  have main : ∀ H : Hp, Only H → SqL K H a (ns.map V.int) → HOk P w H s₁.heap → (∀ b, H b ≠ none → b = a) → (H a ≠ none → K.lookup a = none) →
      codeAny (model P w) callerA (.call (.ref fa) ⟨[.ref a], []⟩) (fun r s' => r = .ok (.ret (.bool true)) ∧ OldK s₁.heap s'.heap ∧ s'.os = s₁.os ∧ AllBare s'.gens) s₁ := by
    intro H only hS hok onlyA noK
    have free : ∀ {b : Addr} {o : Obj} {es : Array DictEntry} {ep : Nat}, s₁.heap.get? b = some o → o.data = .dict es ep → H b = none := by
      intro b o es ep e d
      cases q : H b with
      | none => rfl
      | some u =>
        have hba : b = a := onlyA b (by rw [q]; simp)
        subst hba
        rw [ha] at e
        cases e
        exact nomatch (show Data.seq vs.toArray _ = Data.dict es ep from d)
    have nsAt : ∀ {b : Addr} {m : Str → Option Value}, s₁.heap.Ns b m → (hidT s₁.heap H).Ns b m := by
      rintro b m ⟨o, es, ep, e, d, r⟩
      exact ⟨o, es, ep, hidT_get e (free e d), d, r⟩
    have inB : K.In (hidT s₁.heap H) := by
      intro b o e
      refine hidT_get (KX b o e) ?_
      cases q : H b with
      | none => rfl
      | some u =>
        have hba : b = a := onlyA b (by rw [q]; simp)
        subst hba
        rw [noK (by rw [q]; simp)] at e
        cases e
    have md : Mod K mg (hidT s₁.heap H) := by
      obtain ⟨mc, h1, h2⟩ := hlim
      exact ⟨inB, nsAt hns, ⟨mb, nsAt hb, hbb⟩, ⟨mc, nsAt h1, h2⟩⟩
    have e0 : Env0 P w K mg (hidT s₁.heap H) callerA [] s₁ H := by
      refine ⟨rfl, md, fun b o e => of_hidT e, Nat.le_of_eq (hidT_size _ _), trivial, ?_, hok, .of_eq hg⟩
      intro b hb
      exact absurd (show b ∈ ([] : List Addr) from hb) (by simp)
    have hrun := (F _ inB (nsAt hns)).run callerA [] s₁ H ⟨[.ref a], []⟩ [.ref a] [.ref a] _ _ rfl hr e0
      (hbind s₁ (.ref a)) (.cons rfl .nil) (hsp H only hS)
    refine codeAny_mono hrun (fun r s' h => ?_)
    cases r with
    | error e => exact (hCX H e s' h).elim
    | ok fl =>
      cases fl with
      | ret u =>
        obtain ⟨v, H', os, bare, un, hok', r', q⟩ := h
        have qv : v = .bl true := q
        subst qv
        have ru : u = Value.bool true := r'
        subst ru
        refine ⟨rfl, OldK.of_keep ?_, os, bare⟩
        intro b o e
        cases q : H b with
        | none => exact un.keep b o e q (fun z => absurd (show b ∈ ([] : List Addr) from z) (by simp)) (by simp)
        | some u =>
          rcases only b with z | ⟨ob, ys, z⟩
          · rw [q] at z
            cases z
          · obtain ⟨e1, _⟩ := hok b _ z
            obtain ⟨e2, _⟩ := hok' b _ (un.frzs b ob _ z)
            rw [e] at e1
            cases e1
            exact e2
      | next => exact False.elim h
      | brk => exact False.elim h
      | cont => exact False.elim h
  cases hk : K.lookup a with
  | some o =>
    have e := KX a o hk
    rw [ha] at e
    cases e
    refine main (fun _ => none) (fun _ => Or.inl rfl) (Or.inr ⟨_, vs.toArray, _, hk, rfl, rfl, rfl, ?_, ?_⟩) ?_ (fun b z => absurd rfl z) (fun z => absurd rfl z)
    · rw [List.size_toArray, hvl]
      exact hl
    · simpa using vi
    · intro b u z
      exact nomatch (show (none : Option HO) = some u from z)
  | none =>
    refine main (fun b => if b = a then some (.frz { cls := .type "list", data := .seq vs.toArray } (.lst (ns.map V.int))) else none) (fun b => ?_) (Or.inl (Or.inr ⟨_, if_pos rfl⟩)) (fun b u z => ?_) (fun b z => ?_) (fun _ => hk)
    · by_cases hba : b = a
      · exact Or.inr ⟨_, _, if_pos hba⟩
      · exact Or.inl (if_neg hba)
    · by_cases hba : b = a
      · have zz := (if_pos hba).symm.trans z
        cases zz
        subst hba
        exact ⟨ha, by rw [List.length_map]; exact hl, vs, _, vi, ha⟩
      · have zz := (if_neg hba).symm.trans z
        cases zz
    · by_cases hba : b = a
      · exact hba
      · exact absurd (if_neg hba) z
/-- the goal that the head leaves, from such a promise of the law's def -/
theorem walkG {l : PySem.W.OpenLaw} {n k : Nat} {q : Program} {loose : List Str} {XP : (Str → Option Value) → Heap → Prop} {YP : World → Heap → Prop} {d : DefRec} {K : Params → PySem.W.Frag} {sp : PySem.W.Frag → Sp} {x : Str}
    (hn : l.most = some n) (hn2 : n ≤ sizeLine) (hdf : d.params.defaults = []) (hr : Room k callerA) (hY : ∀ (w : World) (h : Heap), YP w h → (K w.params).In h)
    (F : ∀ (w : World) (mg : Str → Option Value) (fa : Addr) (h : Heap), (K w.params).In h → h.Ns mainGlobals mg → mg d.name = some (.ref fa) →
      ∃ fd : FuncData, (∀ (s : Shared) (u : Value), BindsTo s fd ⟨[u], []⟩ [(x, u)]) ∧ ∀ base : Heap, (K w.params).In base → base.Ns mainGlobals mg → FnG l.prog w (K w.params) mg base C8.CX0 k fa fd [x] (sp (K w.params)))
    (hsp : ∀ (K : PySem.W.Frag) (H : Hp) (a : Addr) (ns : List Int), ns.length ≤ n → Only H → SqL K H a (ns.map V.int) → sp K [.ref a] H (fun v _ => v = .bl true) fun _ _ _ => False) :
    PySem.W.WalkO q loose XP YP l.row.toRowW d [] (fun f vs => PySem.call f vs) := by
  refine Att.attach_call hn hdf ?_
  intro w s₀ s₁ mg mb fa o pm cd doc a vs ns G Y ho hd hcd hmg hobj hints hlen hg
  have inK := hY w _ Y
  obtain ⟨fd, hb, hF⟩ := F w mg fa _ inK G.T.g hmg
  exact lawG inK G.T.g G.T.b G.T.builtins G.T.nolimit hg hobj hints (Nat.le_trans hlen hn2) hr hF hb (fun H hO hS => hsp _ H a ns hlen hO hS) (fun H e s' z => z)
end L2
set_option Elab.async false
set_option linter.all false
set_option maxRecDepth 100000
set_option maxHeartbeats 4000000
namespace L2
open PySem PySem.Spec PyProof.Rows
/-- a def by its name, its promise asked only where no repr is under way -/
structure CalG (P : Program) (w : World) (K : PySem.W.Frag) (mg : Str → Option Value) (base : Heap) (k : Nat) (x : Str) (sp : Sp) : Prop where
  ex : ∃ (f : Addr) (fd : FuncData) (ps : List Str), (∀ vs H Q E, sp vs H Q E → vs.length = ps.length) ∧ FnG P w K mg base C8.CX0 k f fd ps sp ∧ mg x = some (.ref f) ∧ PySem.W.keepIn K (.ref f) = true ∧ Binds K fd ps []
section
variable {X : Cx} {k j : Nat} {x : Str} {sp : Sp} {p pos : Pos} {e : Expr} {es : List Expr} {t : TA}
theorem pe_cg (c : CalG X.prog X.w X.K X.mg X.base k x sp) (hgd : X.A.guards = some []) (hr : Room j X.A) (hk : k ≤ j) (hg : Gl X x) (ha : PA X (e :: es) t)
    (hdb : (x == ("__debug__" : Str)) = false := by decide) (he : starEach (e :: es) X.env = (false, eval e X.env) :: starEach es X.env := by rfl) (hpl : (backTo pos (starEach es X.env)).any (·.1) = false := by rfl) :
    PE X (.Call (.Name x p) (e :: es) [] pos) (tCall sp [] C8.E0 t) := by
  obtain ⟨f, fd, ps, ln, F, hm, kp, hb⟩ := c.ex
  refine ⟨fun pins s σ H Q I h => ?_⟩
  refine wpAny_Call_Name_kw (ld_glob I hg hm ?_ hdb)
  refine PySem.W.callWith_K (h₀ := X.base) I.ok.mod.kin kp (thn (ha.run pos pins s σ H _ I h) fun us s1 ⟨vs, H1, I1, r, q⟩ => ⟨I1.kIn, ?_⟩) he hpl
  have r2 : Vals (vs ++ []) (us ++ []) := r.append .nil
  have hl : (us ++ []).length = ps.length := by rw [← r2.length]; exact ln _ _ _ _ q
  refine wpAny_call (codeAny_mono (F.run X.A X.stack s1 H1 ⟨us, []⟩ (us ++ []) (vs ++ []) Q C8.E0 hgd (hr.mono hk) I1.env0 (hb s1 us I1.kIn hl) r2 q) fun r s' hq => ?_)
  cases r with
  | error e => exact (C8.pass0 (X := X) (E := C8.E0)) pins σ H1 s1 e s' I1 hq
  | ok fl =>
    cases fl with
    | ret u => exact I1.after hq
    | next => exact False.elim hq
    | brk => exact False.elim hq
    | cont => exact False.elim hq
end
end L2
set_option Elab.async false
set_option linter.all false
set_option maxRecDepth 100000
set_option maxHeartbeats 4000000
/-! *d of a dict in a list written out; d != {}; small data; data of tuples alone. -/
namespace L2
open PySem PySem.Spec PyProof.Rows
section
variable {X : Cx} {pins : List (Addr × Obj)} {σ : L2.St} {H : Hp} {s : Shared}
theorem star_dct (hcalm : X.calm = true) {a : Addr} {kvs : List (Key × V)} {E : Value → Shared → Prop} {Q : List Value → Shared → Prop} (I : Inv X pins σ H s) (h : H a = some (.dK kvs)) (hQ : ∀ us s', Inv X pins σ H s' → Vals (kvs.map fun q => kV q.1) us → Q us s') : PySem.W.StarOf (model X.prog X.w) X.A E (.ref a) Q s := by
  obtain ⟨z, lo, vs, rel, dd⟩ := dk_rd I.hok (.inl h)
  obtain ⟨ep, hat⟩ := dd.dictAt
  have hl : vs.length = kvs.length := rel.length.symm
  have hT : s.TypeIs (.ref a) "dict" := dd.typeIs
  have w : wpAny (model X.prog X.w) X.A (collect (.ref a)) Q E s := by
    refine PySem.W.kdu_collect (A := X.A) (PySem.W.kdl_dict (knd := mixKind X.prog X.w) (kvs := vs) (ep := ep) lo) (I.ok.hd hcalm) hat (by omega) fun h' tk acc hk hacc => ?_
    refine hQ _ _ (I.kept hk) ?_
    have e : (kvs.map fun q => kV q.1) = vs.map fun q => kV q.1 := by
      have e1 := rel.keys
      have e2 : (kvs.map (·.1)).map kV = (vs.map (·.1)).map kV := by rw [e1]
      simpa [List.map_map, Function.comp_def] using e2
    rw [e]
    refine keys_at (by rw [Array.length_toList, hacc.1]) fun j v hv => ?_
    exact hacc.2 j v (by rw [← Array.getElem?_toList]; exact hv)
  unfold PySem.W.StarOf notIterableAtAll
  exact wpAny_bind (wpAny_specialOf hT PySem.F.slot_dict_iter.lookup (wpAny_pure ⟨rfl, w⟩))
/-- *d in a list: the keys of a dict -/
def tStarD (te : TE) (t : TA) : TA := fun σ H Q => te σ H fun x H1 => ∃ p kvs, x = V.ref p ∧ H1 p = some (.dK kvs) ∧ t σ H1 fun ys H2 => Q ((kvs.map fun q => kV q.1) ++ ys) H2
theorem pa_starD (hcalm : X.calm = true) {e : Expr} {es : List Expr} {te : TE} {t : TA} {p : Pos} (he : PE X e te) (hr : PA X es t) (hs : starEach (.Starred e p :: es) X.env = (true, eval e X.env) :: starEach es X.env := by rfl) : PA X (.Starred e p :: es) (tStarD te t) := by
  refine ⟨fun pos pins s σ H Q I h => ?_⟩
  refine PySem.W.items_star (thn (he.run pins s σ H _ I h) fun v s1 ⟨y, H1, I1, ry, a, kvs, ey, hx, q⟩ => ?_) hs
  subst ey
  obtain rfl : v = Value.ref a := ry
  refine star_dct hcalm I1 hx fun us s2 I2 rv => ?_
  exact thn (hr.run pos pins s2 σ H1 _ I2 q) fun ws s3 ⟨vs, H3, I3, r3, q3⟩ => ⟨_, H3, I3, rv.append r3, q3⟩
def rNeE : R2 := fun x y H Q => ∃ a b ks, x = .ref a ∧ y = .ref b ∧ H a = some (.dK ks) ∧ H b = some (.dK []) ∧ Q (.bl (!ks.isEmpty)) H
theorem op_neE (hu : X.A.units < cLine) : OpR X (compareOp .NotEq) rNeE := by
  intro pins s σ H x y v u Q I rx ry h
  obtain ⟨a, b, ks, rfl, rfl, ea, eb, q⟩ := h
  obtain rfl : v = Value.ref a := rx
  obtain rfl : u = Value.ref b := ry
  obtain ⟨_, ya, va, ra, da⟩ := (show ObjOk X.prog X.w H s.heap a (.dK ks) from I.hok a _ ea)
  obtain ⟨_, yb, vb, rb, db⟩ := (show ObjOk X.prog X.w H s.heap b (.dK []) from I.hok b _ eb)
  cases rb
  have hl : va.length = ks.length := ra.length.symm
  refine PySem.W.keq_ne (knd := mixKind X.prog X.w) (r := true) ya yb da db hu (fun e => ?_) ⟨.bl _, H, I, rfl, ?_⟩
  · cases va with
    | nil => exact .nil
    | cons p r => cases e
  · have e : (va.length == ([] : List (Key × Value)).length && true) = ks.isEmpty := by
      rw [hl]
      cases ks <;> rfl
    rw [e]
    exact q
end
end L2

/-! ### small data -/
namespace KD
open PySem PySem.Spec PyProof.Rows L2
structure Ok (n m : Nat) (d : PyData) : Prop where
  dep : d.depth ≤ n
  wt : d.weight ≤ m
  ls : d.leavesShort 14 = true
  shw : d.showable = true
structure OkAll (n m : Nat) (ds : List PyData) : Prop where
  dep : PyData.depthAll ds ≤ n
  wt : PyData.weightAll ds ≤ m
  ls : PyData.leavesShortAll 14 ds = true
  shw : PyData.showableAll ds = true
theorem Ok.mono {n m n' m' : Nat} {d : PyData} (h : Ok n m d) (hn : n ≤ n') (hm : m ≤ m') : Ok n' m' d := ⟨Nat.le_trans h.dep hn, Nat.le_trans h.wt hm, h.ls, h.shw⟩
theorem OkAll.mono {n m n' m' : Nat} {ds : List PyData} (h : OkAll n m ds) (hn : n ≤ n') (hm : m ≤ m') : OkAll n' m' ds := ⟨Nat.le_trans h.dep hn, Nat.le_trans h.wt hm, h.ls, h.shw⟩
theorem OkAll.nil {n m : Nat} : OkAll n m [] := ⟨by simp [PyData.depthAll], by simp [PyData.weightAll], by simp [PyData.leavesShortAll], by simp [PyData.showableAll]⟩
theorem OkAll.cons {n a b : Nat} {d : PyData} {ds : List PyData} (h : Ok n a d) (t : OkAll n b ds) : OkAll n (a + 1 + b) (d :: ds) :=
  ⟨by simp only [PyData.depthAll]; exact Nat.max_le.mpr ⟨h.dep, t.dep⟩, by simp only [PyData.weightAll]; have := h.wt; have := t.wt; omega, by simp only [PyData.leavesShortAll, h.ls, t.ls, Bool.and_self], by simp only [PyData.showableAll, h.shw, t.shw, Bool.and_self]⟩
theorem OkAll.app {n : Nat} : ∀ {a b : Nat} {ds es : List PyData}, OkAll n a ds → OkAll n b es → OkAll n (a + b) (ds ++ es)
  | a, b, [], es, _, t => t.mono (Nat.le_refl _) (Nat.le_add_left _ _)
  | a, b, d :: ds, es, h, t => by
    have hd : max d.depth (PyData.depthAll ds) ≤ n := by simpa only [PyData.depthAll] using h.dep
    have hw : d.weight + 1 + PyData.weightAll ds ≤ a := by simpa only [PyData.weightAll] using h.wt
    have hl : d.leavesShort 14 = true ∧ PyData.leavesShortAll 14 ds = true := by simpa [PyData.leavesShortAll] using h.ls
    have hv : d.showable = true ∧ PyData.showableAll ds = true := by simpa [PyData.showableAll] using h.shw
    have h1 : Ok n d.weight d := ⟨Nat.le_trans (Nat.le_max_left _ _) hd, Nat.le_refl _, hl.1, hv.1⟩
    have h2 : OkAll n (a - d.weight - 1) ds := ⟨Nat.le_trans (Nat.le_max_right _ _) hd, by omega, hl.2, hv.2⟩
    exact (OkAll.cons h1 (OkAll.app h2 t)).mono (Nat.le_refl _) (by omega)
theorem Ok.tup {n m : Nat} {ds : List PyData} (h : OkAll n m ds) : Ok (n + 1) m (.tuple ds) :=
  ⟨by simp only [PyData.depth]; have := h.dep; omega, by simp only [PyData.weight]; exact h.wt, by simp only [PyData.leavesShort, h.ls], by simp only [PyData.showable, h.shw]⟩
theorem Ok.lst {n m : Nat} {ds : List PyData} (h : OkAll n m ds) : Ok (n + 1) m (.list ds) :=
  ⟨by simp only [PyData.depth]; have := h.dep; omega, by simp only [PyData.weight]; exact h.wt, by simp only [PyData.leavesShort, h.ls], by simp only [PyData.showable, h.shw]⟩
theorem Ok.str {n m : Nat} {z : Str} (hl : z.length ≤ m) (hc : ∀ c ∈ z.cps.toList, c < 128) : Ok n m (.str z) := by
  refine ⟨by simp [PyData.depth], by simp only [PyData.weight]; exact hl, ?_, by simp [PyData.showable]⟩
  simp only [PyData.leavesShort, List.all_eq_true, decide_eq_true_eq]
  intro c h
  have := hc c h
  have e : (16 : Nat) ^ 8 = 4294967296 := by decide
  omega
theorem Ok.bool {n m : Nat} (b : Bool) : Ok n m (.bool b) := ⟨by simp [PyData.depth], by simp [PyData.weight], rfl, rfl⟩
theorem Ok.none {n m : Nat} : Ok n m .none := ⟨by simp [PyData.depth], by simp [PyData.weight], rfl, rfl⟩
theorem Ok.num {n m : Nat} {i : Int} (h0 : -10000000000000 < i) (h1 : i < 10000000000000) (hm : 50 ≤ m) : Ok n m (.int i) := by
  have hl : i.natAbs < 2 ^ 44 := by
    have : (2 : Nat) ^ 44 = 17592186044416 := by decide
    omega
  refine ⟨by simp [PyData.depth], ?_, ?_, ?_⟩
  · simp only [PyData.weight]
    split
    · exact Nat.zero_le _
    · have := PySem.Flt.log2_lt_of (by decide : 0 < 44) hl
      omega
  · simp only [PyData.leavesShort, decide_eq_true_eq]
    show (Str.ofString (toString i)).length ≤ 14
    have e13 : (10 : Int) ^ 13 = 10000000000000 := by decide
    by_cases hn : 0 ≤ i
    · have := PyProof.Rows.toString_length_le hn (k := 13) (by decide) (by omega)
      omega
    · have e := PyProof.Rows.len_text_negI (n := i) (by omega)
      have := PyProof.Rows.toString_length_le (v := 0 - i) (by omega) (k := 13) (by decide) (by omega)
      omega
  · have := PySem.Flt.log2_lt_of (by decide : 0 < 44) hl
    simp only [PyData.showable, decide_eq_true_eq]
    omega
structure OkKv (n m : Nat) (ps : List (PyData × PyData)) : Prop where
  dep : PyData.depthKv ps ≤ n
  wt : PyData.weightKv ps ≤ m
  ls : PyData.leavesShortKv 14 ps = true
  shw : PyData.showableKv ps = true
theorem OkKv.nil {n m : Nat} : OkKv n m [] := ⟨by simp [PyData.depthKv], by simp [PyData.weightKv], by simp [PyData.leavesShortKv], by simp [PyData.showableKv]⟩
theorem OkKv.mono {n m n' m' : Nat} {ps : List (PyData × PyData)} (h : OkKv n m ps) (hn : n ≤ n') (hm : m ≤ m') : OkKv n' m' ps := ⟨Nat.le_trans h.dep hn, Nat.le_trans h.wt hm, h.ls, h.shw⟩
theorem OkKv.cons {n a b : Nat} {k v : PyData} {ps : List (PyData × PyData)} (hk : Ok n a k) (hv : Ok n a v) (t : OkKv n b ps) : OkKv n (2 * a + 2 + b) ((k, v) :: ps) :=
  ⟨by simp only [PyData.depthKv]; exact Nat.max_le.mpr ⟨Nat.max_le.mpr ⟨hk.dep, hv.dep⟩, t.dep⟩, by simp only [PyData.weightKv]; have := hk.wt; have := hv.wt; have := t.wt; omega, by simp only [PyData.leavesShortKv, hk.ls, hv.ls, t.ls, Bool.and_self], by simp only [PyData.showableKv, hk.shw, hv.shw, t.shw, Bool.and_self]⟩
theorem Ok.dict {n m : Nat} {ps : List (PyData × PyData)} (h : OkKv n m ps) : Ok (n + 1) m (.dict ps) :=
  ⟨by simp only [PyData.depth]; have := h.dep; omega, by simp only [PyData.weight]; exact h.wt, by simp only [PyData.leavesShort, h.ls], by simp only [PyData.showable, h.shw]⟩
theorem Ok.shown {n m : Nat} {d : PyData} (h : Ok n m d) (hn : n ≤ 64) (hm : m ≤ 100000) (hk : nl d = true) : shownQ d := by
  have hw := h.wt
  have := PyData.shown_le 14 (by decide) d h.ls
  have hd := h.dep
  exact ⟨h.shw, by omega, by rw [sizeLine_eq]; omega, fun _ => hk⟩
theorem Ok.shownR_ {n m : Nat} {d : PyData} (h : Ok n m d) (hn : n ≤ 64) (hm : m ≤ 100000) : shownR d := by
  have hw := h.wt
  have := PyData.shown_le 14 (by decide) d h.ls
  have hd := h.dep
  exact ⟨h.shw, by omega, by rw [sizeLine_eq]; omega⟩
/-! ### tuples stay -/
def TupS (H H' : Hp) : Prop := ∀ b xs, H b = some (.tup xs) → H' b = some (.tup xs)
theorem TupS.refl (H : Hp) : TupS H H := fun _ _ h => h
theorem TupS.trans {H H1 H2 : Hp} (a : TupS H H1) (b : TupS H1 H2) : TupS H H2 := fun c xs h => b c xs (a c xs h)
theorem TupS.same {H H' : Hp} (e : Same H H') : TupS H H' := fun b xs h => e _ _ h
theorem TupS.new {H : Hp} {q : Addr} {o : HO} (h : H q = none) : TupS H (upd H q o) := TupS.same (Same.new h)
theorem TupS.put {H : Hp} {q : Addr} {xs : List V} {o : HO} (h : H q = some (.lst xs)) : TupS H (upd H q o) := fun b ys e => by
  have n : b ≠ q := fun z => by
    rw [z, h] at e
    cases e
  rw [upd_ne n]
  exact e
theorem TupS.dput {H : Hp} {q : Addr} {xs : List (Key × V)} {o : HO} (h : H q = some (.dK xs)) : TupS H (upd H q o) := fun b ys e => by
  have n : b ≠ q := fun z => by
    rw [z, h] at e
    cases e
  rw [upd_ne n]
  exact e
/-! ### data of tuples alone -/
mutual
inductive Td (H : Hp) : V → PyData → Prop
  | bl (b : Bool) : Td H (.bl b) (.bool b)
  | int (i : Int) : Td H (.int i) (.int i)
  | str (x : Str) : Td H (.str x) (.str x)
  | tup {a : Addr} {xs : List V} {ds : List PyData} : H a = some (.tup xs) → TdAll H xs ds → Td H (.ref a) (.tuple ds)
inductive TdAll (H : Hp) : List V → List PyData → Prop
  | nil : TdAll H [] []
  | cons {v : V} {vs : List V} {d : PyData} {ds : List PyData} : Td H v d → TdAll H vs ds → TdAll H (v :: vs) (d :: ds)
end
mutual
theorem Td.mono {H H' : Hp} (e : TupS H H') : ∀ {v : V} {d : PyData}, Td H v d → Td H' v d
  | _, _, .bl b => .bl b
  | _, _, .int i => .int i
  | _, _, .str x => .str x
  | _, _, .tup h a => .tup (e _ _ h) (TdAll.mono e a)
theorem TdAll.mono {H H' : Hp} (e : TupS H H') : ∀ {vs : List V} {ds : List PyData}, TdAll H vs ds → TdAll H' vs ds
  | _, _, .nil => .nil
  | _, _, .cons h t => .cons (Td.mono e h) (TdAll.mono e t)
end
mutual
theorem Td.p {K : PySem.W.Frag} {H : Hp} : ∀ {v : V} {d : PyData}, Td H v d → Dp K H v d
  | _, _, .bl b => .bl b
  | _, _, .int i => .int i
  | _, _, .str x => .str x
  | _, _, .tup h a => .tup (SqT.of h) (TdAll.p a)
theorem TdAll.p {K : PySem.W.Frag} {H : Hp} : ∀ {vs : List V} {ds : List PyData}, TdAll H vs ds → DpAll K H vs ds
  | _, _, .nil => .nil
  | _, _, .cons h t => .cons (Td.p h) (TdAll.p t)
end
mutual
theorem Td.nl {H : Hp} : ∀ {v : V} {d : PyData}, Td H v d → L2.nl d = true
  | _, _, .bl b => by simp [L2.nl]
  | _, _, .int i => by simp [L2.nl]
  | _, _, .str x => by simp [L2.nl]
  | _, _, .tup h a => by simpa [L2.nl] using TdAll.nl a
theorem TdAll.nl {H : Hp} : ∀ {vs : List V} {ds : List PyData}, TdAll H vs ds → nls ds = true
  | _, _, .nil => by simp [nls]
  | _, _, .cons h t => by simp [nls, Td.nl h, TdAll.nl t]
end
theorem TdAll.app {H : Hp} : ∀ {vs ws : List V} {ds es : List PyData}, TdAll H vs ds → TdAll H ws es → TdAll H (vs ++ ws) (ds ++ es)
  | _, _, _, _, .nil, t => t
  | _, _, _, _, .cons h s, t => .cons h (TdAll.app s t)
theorem TdAll.len {H : Hp} : ∀ {vs : List V} {ds : List PyData}, TdAll H vs ds → vs.length = ds.length
  | _, _, .nil => rfl
  | _, _, .cons _ t => congrArg (· + 1) (TdAll.len t)
theorem Td.newT {q : Addr} {H : Hp} {xs : List V} {ds : List PyData} (hq : H q = none) (h : TdAll H xs ds) : Td (upd H q (.tup xs)) (.ref q) (.tuple ds) := .tup upd_same (h.mono (TupS.new hq))
theorem td_strs {H : Hp} : ∀ zs : List Str, TdAll H (zs.map V.str) (zs.map PyData.str)
  | [] => .nil
  | z :: zs => .cons (.str z) (td_strs zs)
theorem ok_strs {n m : Nat} : ∀ {zs : List Str}, (∀ z ∈ zs, z.length ≤ m ∧ ∀ c ∈ z.cps.toList, c < 128) → OkAll n (zs.length * (m + 1)) (zs.map PyData.str)
  | [], _ => .nil
  | z :: zs, h => (OkAll.cons (a := m) (.str (h z List.mem_cons_self).1 (h z List.mem_cons_self).2) (ok_strs fun y hy => h y (List.mem_cons_of_mem _ hy))).mono (Nat.le_refl _) (by rw [List.length_cons, Nat.succ_mul]; omega)
end KD
set_option Elab.async false
set_option linter.all false
set_option maxRecDepth 100000
set_option maxHeartbeats 4000000
namespace L2
open PySem PySem.Spec PyProof.Rows
/-! ### xs == [], xs of anything; xs.extend(t), t a tuple -/
def rEqNil (K : PySem.W.Frag) : R2 := fun x y H Q => ∃ a b xs, x = .ref a ∧ y = .ref b ∧ SqL K H a xs ∧ SqL K H b [] ∧ Q (.bl xs.isEmpty) H
def rNeNil (K : PySem.W.Frag) : R2 := fun x y H Q => ∃ a b xs, x = .ref a ∧ y = .ref b ∧ SqL K H a xs ∧ SqL K H b [] ∧ Q (.bl (!xs.isEmpty)) H
theorem list_extend_tupW (l : Addr) (items : Array Value) (n : Nat) (b : Addr) (items2 : Array Value) (n2 : Nat) (dd2 : Option Addr) (sl2 : Array (Option Value)) (hs0 : ¬(!items.isEmpty && Builtin.List.listTooLong (items.size + items2.size)) = true) (hs1 : items.size ≤ sizeLine) (hs2 : items.size + items2.size ≤ sizeLine + 1) :
    Meets (Builtin.«list.extend» ⟨[.ref l, .ref b], []⟩) (fun _ R s => s.heap.get? l = some { cls := .type "list", dict := none, data := .seq items n, slots := #[] } ∧ s.heap.get? b = some { cls := .type "tuple", dict := dd2, data := .seq items2 n2, slots := sl2 } ∧ R (.ok (.ret Value.none)) { s with heap := s.heap.update l (Obj.mapSeq fun x => x ++ items2), toks := s.toks }) :=
  .of_wp fun prog w A R s h => by
    obtain ⟨hp, g, d, tk, os⟩ := s
    obtain ⟨hl, hb, h⟩ := h
    have f1 := AutoSeq1.idx_int
    have f2 := AutoSeq1.sub_tuple_tuple
    have f3 := AutoSeq1.sub_list_list
    have f4 := AutoSeq1.sub_tuple_list
    have f5 := AutoSeq1.sub_list_tuple
    have hz' : (items ++ items2).size ≤ sizeLine + 1 := by rw [Array.size_append]; exact hs2
    wp_walk using (wpAny_updateSeq hl rfl (hz := hs1) (_hz' := hz')), AutoSeq1.wpAny_loadPart' hl, AutoSeq1.wpAny_loadPart' hb
    exact ⟨_, rfl, h⟩
def rExtT (K : PySem.W.Frag) : V → List V → Hp → VK → Prop := fun x vs H Q => ∃ l b xs zs, x = .ref l ∧ vs = [.ref b] ∧ H l = some (.lst xs) ∧ SqT K H b zs ∧ xs.length + zs.length ≤ sizeLine ∧ Q .non (upd H l (.lst (xs ++ zs)))
section
variable {X : Cx}
theorem op_eqNil (hu : X.A.units + 64 < cLine) : OpR X (compareOp .Eq) (rEqNil X.K) := by
  intro pins s σ H x y v u Q I rx ry h
  obtain ⟨a, b, xs, rfl, rfl, ha, hb, q⟩ := h
  cases rx
  cases ry
  obtain ⟨its, r1, ⟨⟨cls, dd, data, sl⟩, n, ho, hc, hdn, hd⟩, hz1⟩ := I.list ha
  obtain ⟨its2, r2, ⟨⟨cls2, dd2, data2, sl2⟩, n2, ho2, hc2, hdn2, hd2⟩, hz2⟩ := I.list hb
  simp only at hc hd hc2 hd2
  subst hc hd hc2 hd2
  cases r2
  have hl1 := r1.length
  cases xs with
  | nil =>
    cases r1
    have e := SeqAt.list_eqAt a b (#[] : Array Value) (#[] : Array Value) n n2 dd dd2 sl sl2 rfl (fun _ => true)
    exact richCompare_meets_room (op := .Eq) ⟨_, ho, rfl⟩ ⟨_, ho2, rfl⟩ F.slot_list_eq F.entry_list_eq (F.args_list_eq_2 _ _) e
      ⟨ho, ho2, fun j h1 => absurd h1 (Nat.not_lt_zero _), show Value.bool true ≠ Value.notImplemented ∧ _ from ⟨(fun x => nomatch x), .bl true, H, I, rfl, q⟩⟩ (by omega)
  | cons y ys =>
    have hne : (its.toArray.size != (#[] : Array Value).size) = true := by
      rw [List.size_toArray, ← hl1]
      rfl
    exact richCompare_meets_room (op := .Eq) ⟨_, ho, rfl⟩ ⟨_, ho2, rfl⟩ F.slot_list_eq F.entry_list_eq (F.args_list_eq_2 _ _) (SeqAt.list_eq_lengthsAt a b its.toArray #[] n n2 dd dd2 sl sl2 hne)
      ⟨ho, ho2, show Value.bool false ≠ Value.notImplemented ∧ _ from ⟨(fun x => nomatch x), .bl false, H, I, rfl, q⟩⟩ (by omega)
theorem op_neNil (hu : X.A.units + 64 < cLine) : OpR X (compareOp .NotEq) (rNeNil X.K) := by
  intro pins s σ H x y v u Q I rx ry h
  obtain ⟨a, b, xs, rfl, rfl, ha, hb, q⟩ := h
  cases rx
  cases ry
  obtain ⟨its, r1, ⟨⟨cls, dd, data, sl⟩, n, ho, hc, hdn, hd⟩, hz1⟩ := I.list ha
  obtain ⟨its2, r2, ⟨⟨cls2, dd2, data2, sl2⟩, n2, ho2, hc2, hdn2, hd2⟩, hz2⟩ := I.list hb
  simp only at hc hd hc2 hd2
  subst hc hd hc2 hd2
  cases r2
  have hl1 := r1.length
  cases xs with
  | nil =>
    cases r1
    have e := SeqAt.list_neAt a b (#[] : Array Value) (#[] : Array Value) n n2 dd dd2 sl sl2 rfl (fun _ => true)
    exact richCompare_meets_room (op := .NotEq) ⟨_, ho, rfl⟩ ⟨_, ho2, rfl⟩ F.slot_list_ne F.entry_list_ne (F.args_list_ne_2 _ _) e
      ⟨ho, ho2, fun j h1 => absurd h1 (Nat.not_lt_zero _), show Value.bool false ≠ Value.notImplemented ∧ _ from ⟨(fun x => nomatch x), .bl false, H, I, rfl, q⟩⟩ (by omega)
  | cons y ys =>
    have hne : (its.toArray.size != (#[] : Array Value).size) = true := by
      rw [List.size_toArray, ← hl1]
      rfl
    exact richCompare_meets_room (op := .NotEq) ⟨_, ho, rfl⟩ ⟨_, ho2, rfl⟩ F.slot_list_ne F.entry_list_ne (F.args_list_ne_2 _ _) (SeqAt.list_ne_lengthsAt a b its.toArray #[] n n2 dd dd2 sl sl2 hne)
      ⟨ho, ho2, show Value.bool true ≠ Value.notImplemented ∧ _ from ⟨(fun x => nomatch x), .bl true, H, I, rfl, q⟩⟩ (by omega)
theorem mt_extendT : MtM X "list.extend" (rExtT X.K) := by
  intro pins s σ H x vs v us Q I rx rv h
  obtain ⟨l, b, xs, zs, rfl, rfl, hH, hB, hz, q⟩ := h
  cases rx
  obtain ⟨u, rfl, ru⟩ := rv.one
  cases ru
  obtain ⟨z, its, n, r, hl, e⟩ := I.lstM hH
  obtain ⟨its2, r2, ⟨⟨cls2, dd2, data2, sl2⟩, ho2, hc2, n2, hd2⟩, z2⟩ := I.tuple hB
  simp only at hc2 hd2
  subst hc2 hd2
  have hl2 := r2.length
  have hsz : its.toArray.size + its2.toArray.size ≤ sizeLine := by rw [List.size_toArray, List.size_toArray]; omega
  have hlong : ¬ (!its.toArray.isEmpty && Builtin.List.listTooLong (its.toArray.size + its2.toArray.size)) = true := by
    rw [notLongL hsz, Bool.and_false]
    exact Bool.false_ne_true
  refine call_meets F.slot_list_extend ⟨_, e, rfl⟩ F.entry_list_extend (F.args_list_extend_2 _ _)
    (list_extend_tupW l its.toArray n b its2.toArray n2 dd2 sl2 hlong (by rw [List.size_toArray]; omega) (by omega)) ⟨e, ho2, ?_⟩
  refine ⟨.non, _, I.lset (its' := its ++ its2) hH e (by simp) (r.append r2) ?_, rfl, q⟩
  rw [List.length_append]
  omega
end
end L2
set_option Elab.async false
set_option linter.all false
set_option maxRecDepth 100000
set_option maxHeartbeats 4000000
namespace L2
open PySem PySem.Spec PyProof.Rows L2H
open C8 (Def fnBody fnScope fnArgs)
/-! ### defs that may raise -/
structure CalX (P : Program) (w : World) (K : PySem.W.Frag) (mg : Str → Option Value) (base : Heap) (k : Nat) (x : Str) (sp : Sp) : Prop where
  ex : ∃ (f : Addr) (fd : FuncData) (ps : List Str), FnOk P w K mg base (L2N.CX P w) k f fd ps sp ∧ mg x = some (.ref f) ∧ PySem.W.keepIn K (.ref f) = true ∧ Binds K fd ps []
section
variable {P : Program} {w : World} {K : PySem.W.Frag} {mg : Str → Option Value} {base : Heap}
theorem calX0 {x : Str} {st : Stmt} {f : Addr} {fd : FuncData} {N ps : List Str} {k : Nat} {sp : Sp} (D : Def K mg x st f fd) (b : Binds K fd ps []) (S : FnScope N ps (fnScope st)) (ln : ∀ vs H Q E, sp vs H Q E → vs.length = ps.length)
    (hb : ∀ (cdv : Value) (A : Around) (outer : List Env) (s : Shared) (H : Hp) (vs : List V) (Q : VK) (E : XK), Room k (A.deeper (envOfC x (fnScope st) s.heap.objs.size f cdv)) → sp vs H Q E →
      ∃ t, PSs (cxOf (L2N.CX P w) P w K mg base N x (fnScope st) f cdv A outer s H E) (fnBody st) t ∧ t { nx := fun _ H' => Q .non H', rt := Q } (start N vs) H) : CalX P w K mg base (k + 1) x sp := by
  obtain ⟨oc, od, dV, kV, doc, pm, an, cdv, ct, osl, rfl, lk, hcd⟩ := D.fn.ex
  exact ⟨f, _, ps, fn_of lk hcd S ln (fun A outer s H vs Q E hr hs => hb cdv A outer s H vs Q E hr hs), D.mgf, D.kp, b⟩
end
section
variable {X : Cx} {k j : Nat} {x : Str} {sp : Sp} {W : WX} {p pos : Pos} {e : Expr} {es : List Expr} {t : TA}
/-- such a def called: what it lets out is taken by W -/
theorem pe_cx (c : CalX X.prog X.w X.K X.mg X.base k x sp) (tk : L2N.Takes X W) (hr : Room j X.A) (hk : k ≤ j) (hg : Gl X x) (ha : PA X (e :: es) t)
    (hdb : (x == ("__debug__" : Str)) = false := by decide) (he : starEach (e :: es) X.env = (false, eval e X.env) :: starEach es X.env := by rfl) (hpl : (backTo pos (starEach es X.env)).any (·.1) = false := by rfl) :
    PE X (.Call (.Name x p) (e :: es) [] pos) (tCallS sp (WE W) t) := by
  obtain ⟨f, fd, ps, F, hm, kp, hb⟩ := c.ex
  exact pe_callS F (hr.mono hk) hg hm kp hb (fun σ => L2N.passAt tk σ) ha hdb he hpl
end
/-! ### a def called within an except suite, the exception handed in -/
/-- its promise knows the exception's own object -/
structure FnE (P : Program) (w : World) (K : PySem.W.Frag) (mg : Str → Option Value) (base : Heap) (k : Nat) (f : Addr) (fd : FuncData) (ps : List Str) (sp : Addr × Obj → Sp) : Prop where
  len : ∀ p vs H Q E, sp p vs H Q E → vs.length = ps.length
  run : ∀ (p : Addr × Obj) (A : Around), RoomH k A → Hot1 A p → ∀ (outer : List Env) (s : Shared) (H : Hp), PinOk outer H s p → Env0 P w K mg base A outer s H → ∀ (args : Args) (us : List Value) (vs : List V) (Q : VK) (E : XK),
    BindsTo s fd args (ps.zip us) → Vals vs us → sp p vs H Q E → codeAny (model P w) A (.call (.ref f) args) (CR C8.CX0 outer P w H s Q E) s
structure CalE (P : Program) (w : World) (K : PySem.W.Frag) (mg : Str → Option Value) (base : Heap) (k : Nat) (x : Str) (sp : Addr × Obj → Sp) : Prop where
  ex : ∃ (f : Addr) (fd : FuncData) (ps : List Str), FnE P w K mg base k f fd ps sp ∧ mg x = some (.ref f) ∧ PySem.W.keepIn K (.ref f) = true ∧ Binds K fd ps []
section
variable {P : Program} {w : World} {K : PySem.W.Frag} {mg : Str → Option Value} {base : Heap}
theorem calE0 {x : Str} {st : Stmt} {f : Addr} {fd : FuncData} {N ps : List Str} {k : Nat} {sp : Addr × Obj → Sp} (D : Def K mg x st f fd) (b : Binds K fd ps []) (S : FnScope N ps (fnScope st)) (ln : ∀ p vs H Q E, sp p vs H Q E → vs.length = ps.length)
    (hb : ∀ (cdv : Value) (A : Around) (outer : List Env) (s : Shared) (H : Hp) (vs : List V) (Q : VK) (E : XK) (p : Addr × Obj), Hot1 A p → RoomH k (A.deeper (envOfC x (fnScope st) s.heap.objs.size f cdv)) → sp p vs H Q E →
      ∃ t, PSs (cxH C8.CX0 P w K mg base N x (fnScope st) f cdv A outer s H E p) (fnBody st) t ∧ t { nx := fun _ H' => Q .non H', rt := Q } (start N vs) H) : CalE P w K mg base (k + 1) x sp := by
  obtain ⟨oc, od, dV, kV, doc, pm, an, cdv, ct, osl, rfl, lk, hcd⟩ := D.fn.ex
  refine ⟨f, _, ps, ⟨ln, ?_⟩, D.mgf, D.kp, b⟩
  intro p A hr hot outer s H hpin e0 args us vs Q E hbd rv hsp
  have hln := ln _ _ _ _ _ hsp
  have inK : K.In s.heap := e0.mod.kin.keeps (fun b o e => (e0.bs b o e).1)
  have noL : s.heap.NoLimit := e0.mod.nolimit.keeps (fun b o e => (e0.bs b o e).1)
  have hkd : ∀ y ∈ ps.zip us, (fnScope st).names.lookup y.1 = some .local ∨ ((fnScope st).names.lookup y.1 = some .cell ∧ ((cellsFrom (s.heap.objs.size + 1) (fnScope st).names []).lookup y.1).isSome = true) := by
    rintro ⟨n, v⟩ hy
    rcases S.par n (List.of_mem_zip hy).1 with z | z
    · exact Or.inl z
    · exact Or.inr ⟨z, PySem.W.cellsFrom_some _ _ _ (Or.inl z)⟩
  refine codeAny_call_function hr.depth (inK _ _ lk) rfl S.co S.gen rfl
    (PySem.W.codeRec_of inK hcd) (hbd _ _ _ _ ?_)
  refine wpAny_newFunctionEnv_cells S.kind hkd
    (fun env he s1 ic => ?_)
  subst he
  refine ⟨noL.keeps ic.toInCall.keep, codeAny_func ?_⟩
  obtain ⟨t, ht, hq⟩ := hb cdv A outer s H vs Q E p hot (hr.deeper _) hsp
  have I0 := inv_startH (CX := C8.CX0) (E := E) S hpin e0 hln rv ic
  refine wpAny_mono (ht.run [] s1 (start N vs) H _ I0 hq)
    (fun fl s' hs => ?_) (fun e s' hs => hs)
  have done : ∀ {σ' : St} {H' : Hp} {v : V} {u : Value}, Inv (cxH C8.CX0 P w K mg base N x (fnScope st) f cdv A outer s H E p) [] σ' H' s' → RelV v u → Q v H' → CE outer P w H s Q u s' := by
    intro σ' H' v u J r q
    exact ⟨v, H', J.os, J.bare, J.base, J.hok, r, q⟩
  cases fl with
  | ret u =>
    obtain ⟨v, σ', H', J, r, q⟩ := hs
    exact done J r q
  | next =>
    obtain ⟨σ', H', J, q⟩ := hs
    exact done (v := .non) (u := .none) J rfl q
  | brk => exact (hs.elim fun _ ⟨_, _, q⟩ => q.elim)
  | cont => exact (hs.elim fun _ ⟨_, _, q⟩ => q.elim)
end
section
variable {X : Cx} {k j : Nat} {x : Str} {sp : Addr × Obj → Sp} {q : Addr × Obj} {p pos : Pos} {e : Expr} {es : List Expr} {t : TA}
/-- the call, q the exception that is handled -/
theorem pe_ce (c : CalE X.prog X.w X.K X.mg X.base k x sp) (hot : Hot1 X.A q) (hq : q ∈ X.pn) (hr : RoomH j X.A) (hk : k ≤ j) (hg : Gl X x) (ha : PA X (e :: es) t)
    (hdb : (x == ("__debug__" : Str)) = false := by decide) (he : starEach (e :: es) X.env = (false, eval e X.env) :: starEach es X.env := by rfl) (hpl : (backTo pos (starEach es X.env)).any (·.1) = false := by rfl) :
    PE X (.Call (.Name x p) (e :: es) [] pos) (tCall (sp q) [] C8.E0 t) := by
  obtain ⟨f, fd, ps, F, hm, kp, hb⟩ := c.ex
  refine ⟨fun pins s σ H Q I h => ?_⟩
  refine wpAny_Call_Name_kw (ld_glob I hg hm ?_ hdb)
  refine PySem.W.callWith_K (h₀ := X.base) I.ok.mod.kin kp (thn (ha.run pos pins s σ H _ I h) fun us s1 ⟨vs, H1, I1, r, w⟩ => ⟨I1.kIn, ?_⟩) he hpl
  have r2 : Vals (vs ++ []) (us ++ []) := r.append .nil
  have hl : (us ++ []).length = ps.length := by rw [← r2.length]; exact F.len _ _ _ _ _ w
  have pin := I1.pin q (List.mem_append_left _ hq)
  have ok : PinOk X.stack H1 s1 q := by
    refine ⟨pin.1, pin.2.1, fun z => ?_, pin.2.2.2.2⟩
    rcases List.mem_cons.mp (I1.stkSub q.1 z) with z | z
    · exact pin.2.2.1 z
    · exact pin.2.2.2.1 z
  refine wpAny_call (codeAny_mono (F.run q X.A (hr.mono hk) hot X.stack s1 H1 ok I1.env0 ⟨us, []⟩ (us ++ []) (vs ++ []) Q C8.E0 (hb s1 us I1.kIn hl) r2 w) fun r s' hq => ?_)
  cases r with
  | error e => exact (C8.pass0 (X := X) (E := C8.E0)) pins σ H1 s1 e s' I1 hq
  | ok fl =>
    cases fl with
    | ret u => exact I1.after hq
    | next => exact False.elim hq
    | brk => exact False.elim hq
    | cont => exact False.elim hq
end
section
variable {X : Cx} {k j : Nat} {x : Str} {sp : Addr → Value → Option Addr → Sp} {a : Addr} {oe : Obj} {cls : Value} {d : Option Addr} {p pos : Pos} {e : Expr} {es : List Expr} {t : TA}
/-- .. in a suite: the promise speaks of the exception's address, class, own dict -/
theorem pe_ce2 (c : CalE X.prog X.w X.K X.mg X.base k x fun q => sp q.1 q.2.cls q.2.dict) (hot : Hot1 X.A (a, oe)) (hq : (a, oe) ∈ X.pn) (hz : L2N.Zn cls d oe) (hr : RoomH j X.A) (hk : k ≤ j) (hg : Gl X x) (ha : PA X (e :: es) t)
    (hdb : (x == ("__debug__" : Str)) = false := by decide) (he : starEach (e :: es) X.env = (false, eval e X.env) :: starEach es X.env := by rfl) (hpl : (backTo pos (starEach es X.env)).any (·.1) = false := by rfl) :
    PE X (.Call (.Name x p) (e :: es) [] pos) (tCall (sp a cls d) [] C8.E0 t) := by
  have h := pe_ce (p := p) c hot hq hr hk hg ha hdb he hpl
  rw [← hz.1, ← hz.2.1]
  exact h
/-- no exception is let out -/
theorem takes0N : L2N.Takes X (fun _ _ _ _ => False) := fun _ _ z => by
  obtain ⟨_, _, _, _, _, _, _, _, _, _, _, _, _, _, _, _, u⟩ := z
  exact u.elim
end
/-! ### isinstance of it -/
/-- an own exception's object, of the class at D -/
structure OwnE (D : Addr) (q : Addr × Obj) : Prop where
  cl : q.2.cls = .ref D
  nd : q.2.dict = none
  fl : ∃ vs, q.2.data = .fields vs
theorem OwnE.at_ {D : Addr} {q : Addr × Obj} (o : OwnE D q) {h : Heap} (e : h.get? q.1 = some q.2) : PySem.W.InstAt h q.1 q.2 D none := by
  obtain ⟨a, oc, od, oda, osl⟩ := q
  obtain ⟨h1, h2, vs, h3⟩ := o
  dsimp only at h1 h2 h3 e
  subst h1 h2 h3
  exact ⟨e, rfl, rfl, trivial⟩
def rIsP (K : PySem.W.Frag) (D : Addr) (q : Addr × Obj) : List V → Hp → VK → Prop := fun xs H Q => ∃ (c : V) (u : Value) (b : Bool), xs = [.ref q.1, c] ∧ ClsV c u ∧ PySem.W.kitOne K (.ref D) u = some b ∧ Q (.bl b) H
def rIsPs (K : PySem.W.Frag) (D : Addr) (q : Addr × Obj) : List V → Hp → VK → Prop := fun xs H Q => ∃ (tp : Addr) (cs : List V) (us : List Value) (b : Bool), xs = [.ref q.1, .ref tp] ∧ H tp = some (.tup cs) ∧ Paired ClsV cs us ∧ PySem.W.kitAny K (.ref D) us = some b ∧ Q (.bl b) H
section
variable {X : Cx} {D : Addr} {q : Addr × Obj}
theorem call_isP (C : ExcC X.K D) (o : OwnE D q) (hq : q ∈ X.pn) : CallR X (.builtin "isinstance") (rIsP X.K D q) := by
  intro pins s σ H xs us Q I r h
  obtain ⟨c, u, b, rfl, hc, e, w⟩ := h
  obtain ⟨u1, u2, rfl, r1, r2⟩ := vals2 r
  cases r1
  have e2 := hc.eq r2
  subst e2
  have J := o.at_ (I.pin q (List.mem_append_left _ hq)).1
  exact PySem.W.kia_one (PySem.W.handS_kitx_exc C.hg C.hk C.hs C.hd C.ha C.hn C.ht C.hm) I.kIn J e (fun z => nomatch z) fun tk => ⟨.bl b, H, I.kept (t' := tk) fun _ _ z => z, rfl, w⟩
theorem call_isPs (C : ExcC X.K D) (o : OwnE D q) (hq : q ∈ X.pn) : CallR X (.builtin "isinstance") (rIsPs X.K D q) := by
  intro pins s σ H xs us Q I r h
  obtain ⟨tp, cs, ws, b, rfl, hT, hc, e, w⟩ := h
  obtain ⟨u1, u2, rfl, r1, r2⟩ := vals2 r
  cases r1
  cases (show u2 = Value.ref tp from r2)
  have J := o.at_ (I.pin q (List.mem_append_left _ hq)).1
  obtain ⟨_, its, rv, ⟨oc, od, dt, sl⟩, g1, g2, n, g3⟩ := (show ObjOk X.prog X.w H s.heap tp (.tup cs) from I.hok tp _ hT)
  have e2 := ClsV.all hc rv
  simp only at g2 g3
  subst e2 g2 g3
  exact PySem.W.kia_tup (PySem.W.handS_kitx_exc C.hg C.hk C.hs C.hd C.ha C.hn C.ht C.hm) I.kIn J g1 e (fun z => nomatch z) fun tk => ⟨.bl b, H, I.kept (t' := tk) fun _ _ z => z, rfl, w⟩
end
end L2
set_option Elab.async false
set_option linter.all false
set_option maxRecDepth 100000
set_option maxHeartbeats 4000000
/-! len of a set of texts -/
namespace L2
open PySem PySem.Spec PyProof.Rows
abbrev rLenS (K : PySem.W.Frag) : List V → Hp → VK → Prop := fun xs H Q => ∃ p ys, xs = [.ref p] ∧ (SqL K H p ys ∨ SqT K H p ys) ∧ Q (.int ys.length) H
def rLenX (P : Program) (w : World) : List V → Hp → VK → Prop := fun vs H Q => ∃ (a : Addr) (l : List Str), vs = [V.ref a] ∧ H a = some (SetXO P w a l) ∧ l.length < 100000 ∧ Q (.int (l.length : Nat)) H
section
variable {X : Cx}
theorem call_lenX : CallR X (.builtin "len") (rLenX X.prog X.w) := by
  intro pins s σ H vs us Q I r h
  obtain ⟨a, l, rfl, ha, h64, q⟩ := h
  have x : SetX X.prog X.w s.heap a l := (I.hok a _ ha).1
  obtain ⟨⟨es, ep, t⟩, e, F, nd, ri, ld⟩ := x
  have hsz : es.size = l.length := F.sz
  rw [Vals.ref1 r]
  refine call_len_set e ⟨rfl, rfl, rfl⟩ rfl F.fit (by rw [hsz]; have : (2 : Int) ^ 63 = 9223372036854775808 := by decide
                                                      omega) ⟨.int (l.length : Nat), H, I.tok _, ⟨_, by rw [hsz]⟩, q⟩
end
/-! ### a tuple == () -/
def rEqTNil (K : PySem.W.Frag) : R2 := fun x y H Q => ∃ a b xs, x = .ref a ∧ y = .ref b ∧ SqT K H a xs ∧ SqT K H b [] ∧ Q (.bl xs.isEmpty) H
section
variable {X : Cx}
theorem op_eqTNil (hu : X.A.units + 64 < cLine) : OpR X (compareOp .Eq) (rEqTNil X.K) := by
  intro pins s σ H x y v u Q I rx ry h
  obtain ⟨a, b, xs, rfl, rfl, ha, hb, q⟩ := h
  cases rx
  cases ry
  obtain ⟨its, r1, ⟨⟨cls, dd, data, sl⟩, ho, hc, n, hd⟩, hz1⟩ := I.tuple ha
  obtain ⟨its2, r2, ⟨⟨cls2, dd2, data2, sl2⟩, ho2, hc2, n2, hd2⟩, hz2⟩ := I.tuple hb
  simp only at hc hd hc2 hd2
  subst hc hd hc2 hd2
  cases r2
  have hl1 := r1.length
  have e := SeqAt.tuple_eqAt a b its.toArray (#[] : Array Value) n n2 dd dd2 sl sl2 (fun _ => true)
  have er : ((List.range (min its.toArray.size (#[] : Array Value).size)).all (fun _ => true) && its.toArray.size == (#[] : Array Value).size) = xs.isEmpty := by
    have h0 : min its.toArray.size (#[] : Array Value).size = 0 := Nat.min_zero _
    rw [h0, List.size_toArray, ← hl1]
    cases xs <;> rfl
  exact richCompare_meets_room (op := .Eq) ⟨_, ho, rfl⟩ ⟨_, ho2, rfl⟩ F.slot_tuple_eq F.entry_tuple_eq (F.args_tuple_eq_2 _ _) e
    ⟨ho, ho2, fun j h1 h2 => absurd h2 (Nat.not_lt_zero _), show Value.bool _ ≠ Value.notImplemented ∧ _ from ⟨(fun x => nomatch x), .bl _, H, I, by rw [er]; rfl, q⟩⟩ (by omega)
end
/-! ### two for in one comprehension: over a tuple, and over a list within -/
/-- what a loop wants, by what stands at each place -/
theorem by_place {n : Nat} {H0 : Hp} {Go Stop : Nat → Hp → Prop} {Body : Nat → Hp → (Hp → Prop) → Prop} (At : Nat → Hp → Prop) (h0 : At 0 H0) (hs : ∀ i H, i < n → At i H → Go i H ∧ Body i H (At (i + 1))) (hd : ∀ H, At n H → Stop n H) :
    ∃ W : Nat → Nat → Hp → Prop, (∃ m, W 0 m H0) ∧ ∀ i m H, W i m H → Stop i H ∨ (Go i H ∧ ∃ Nx : Hp → Prop, (∀ H', Nx H' → ∃ m', m' < m ∧ W (i + 1) m' H') ∧ Body i H Nx) := by
  refine ⟨fun i m H => i + m = n ∧ At i H, ⟨n, Nat.zero_add n, h0⟩, fun i m H w => ?_⟩
  obtain ⟨e, p⟩ := w
  cases m with
  | zero =>
    obtain rfl : i = n := e
    exact Or.inl (hd H p)
  | succ m =>
    have r := hs i H (by omega) p
    exact Or.inr ⟨r.1, At (i + 1), fun H' p' => ⟨m, Nat.lt_succ_self m, by omega, p'⟩, r.2⟩
theorem lc2_tup {K : PySem.W.Frag} {a : Addr} {xs : List V} {g g1 : TG} {tt tt1 : TT} {wi1 : TI} {te : TE} {vs vs1 : List Nat} {σ : L2.St} {H1 : Hp} {D : Addr} {Qd : Hp → Prop} (Pv : Nat → Hp → Prop) (h0 : Pv 0 (upd H1 D (.lst []))) (hl : ∀ i H, i ≤ xs.length → Pv i H → SqT K H a xs)
    (hs : ∀ i x H, xs[i]? = some x → Pv i H → g x (wipe σ vs) H fun σ2 H2 => wipe σ2 vs = wipe σ vs ∧ tt σ2 H2 fun b H3 =>
      if b = true then wi1 σ2 H3 fun J1 H4 => ∃ W1 : Nat → Nat → Hp → Prop, (∃ m, W1 0 m H4) ∧ ∀ j k H, W1 j k H →
        (J1.stop j H ∧ Pv (i + 1) H) ∨ (J1.go j H ∧ ∃ Nx1 : Hp → Prop, (∀ H', Nx1 H' → ∃ k', k' < k ∧ W1 (j + 1) k' H') ∧ ∀ x H', J1.yld j H x H' → g1 x (wipe σ2 vs1) H' fun σ3 H5 => wipe σ3 vs1 = wipe σ2 vs1 ∧ tt1 σ3 H5 fun b H6 =>
          if b = true then te σ3 H6 fun y H7 => ∃ acc, H7 D = some (.lst acc) ∧ acc.length < sizeLine ∧ Nx1 (upd H7 D (.lst (acc ++ [y]))) else Nx1 H6)
      else Pv (i + 1) H3) (hd : ∀ H, Pv xs.length H → Qd H) :
    ∃ W : Nat → Nat → Hp → Prop, (∃ m, W 0 m (upd H1 D (.lst []))) ∧ ∀ q m H, W q m H →
      ((Itt K a).stop q H ∧ Qd H) ∨ ((Itt K a).go q H ∧ ∃ Nx : Hp → Prop, (∀ H', Nx H' → ∃ m', m' < m ∧ W (q + 1) m' H') ∧ ∀ x H', (Itt K a).yld q H x H' → g x (wipe σ vs) H' fun σ2 H2 => wipe σ2 vs = wipe σ vs ∧ tt σ2 H2 fun b H3 =>
        if b = true then wi1 σ2 H3 fun J1 H4 => ∃ W1 : Nat → Nat → Hp → Prop, (∃ m, W1 0 m H4) ∧ ∀ j k H, W1 j k H →
          (J1.stop j H ∧ Nx H) ∨ (J1.go j H ∧ ∃ Nx1 : Hp → Prop, (∀ H', Nx1 H' → ∃ k', k' < k ∧ W1 (j + 1) k' H') ∧ ∀ x H', J1.yld j H x H' → g1 x (wipe σ2 vs1) H' fun σ3 H5 => wipe σ3 vs1 = wipe σ2 vs1 ∧ tt1 σ3 H5 fun b H6 =>
            if b = true then te σ3 H6 fun y H7 => ∃ acc, H7 D = some (.lst acc) ∧ acc.length < sizeLine ∧ Nx1 (upd H7 D (.lst (acc ++ [y]))) else Nx1 H6)
        else Nx H3) := by
  refine by_place (n := xs.length) Pv h0 (fun i H hi p => ⟨⟨xs, xs[i], hl i H (Nat.le_of_lt hi) p, List.getElem?_eq_getElem hi⟩, fun x H' y => ?_⟩) (fun H p => ⟨⟨xs, hl _ H (Nat.le_refl _) p, Nat.le_refl _⟩, hd H p⟩)
  rw [y.1]
  exact hs i x H (y.2 xs (hl i H (Nat.le_of_lt hi) p)) p
theorem lc2_in {K : PySem.W.Frag} {l : Addr} {ys : List V} {g1 : TG} {tt1 : TT} {te : TE} {vs1 : List Nat} {σ2 : L2.St} {H4 : Hp} {D : Addr} {Nx : Hp → Prop} (Pi : Nat → Hp → Prop) (h0 : Pi 0 H4) (hl : ∀ j H, j ≤ ys.length → Pi j H → SqL K H l ys)
    (hs : ∀ j y H, ys[j]? = some y → Pi j H → g1 y (wipe σ2 vs1) H fun σ3 H5 => wipe σ3 vs1 = wipe σ2 vs1 ∧ tt1 σ3 H5 fun b H6 =>
      if b = true then te σ3 H6 fun y H7 => ∃ acc, H7 D = some (.lst acc) ∧ acc.length < sizeLine ∧ Pi (j + 1) (upd H7 D (.lst (acc ++ [y]))) else Pi (j + 1) H6) (hd : ∀ H, Pi ys.length H → Nx H) :
    ∃ W1 : Nat → Nat → Hp → Prop, (∃ m, W1 0 m H4) ∧ ∀ j k H, W1 j k H →
      ((Itl K l).stop j H ∧ Nx H) ∨ ((Itl K l).go j H ∧ ∃ Nx1 : Hp → Prop, (∀ H', Nx1 H' → ∃ k', k' < k ∧ W1 (j + 1) k' H') ∧ ∀ x H', (Itl K l).yld j H x H' → g1 x (wipe σ2 vs1) H' fun σ3 H5 => wipe σ3 vs1 = wipe σ2 vs1 ∧ tt1 σ3 H5 fun b H6 =>
        if b = true then te σ3 H6 fun y H7 => ∃ acc, H7 D = some (.lst acc) ∧ acc.length < sizeLine ∧ Nx1 (upd H7 D (.lst (acc ++ [y]))) else Nx1 H6) := by
  refine by_place (n := ys.length) Pi h0 (fun j H hj p => ⟨⟨ys, ys[j], hl j H (Nat.le_of_lt hj) p, List.getElem?_eq_getElem hj⟩, fun x H' y => ?_⟩) (fun H p => ⟨⟨ys, hl _ H (Nat.le_refl _) p, Nat.le_refl _⟩, hd H p⟩)
  rw [y.1]
  exact hs j x H (y.2 ys (hl j H (Nat.le_of_lt hj) p)) p
end L2
set_option Elab.async false
set_option linter.all false
set_option maxRecDepth 100000
set_option maxHeartbeats 4000000
/-! t[::-1] of a tuple -/
namespace L2
open PySem PySem.Spec PyProof.Rows
section
variable {prog : Program} {w : World} {A : Around} {E : Value → Shared → Prop} {s : Shared}
theorem back_places (n : Nat) : Builtin.Slice.slicePlaces ((n : Int) - 1) (-1) (-1) = n := by
  unfold Builtin.Slice.slicePlaces
  rw [if_neg (by decide)]
  cases n with
  | zero => rfl
  | succ m =>
    rw [if_pos (by omega)]
    have e : (((m + 1 : Nat) : Int) - 1 - -1 - 1) / (- -1) + 1 = ((m + 1 : Nat) : Int) := by
      rw [show (- -1 : Int) = 1 by decide, Int.ediv_one]
      omega
    rw [e]
    rfl
theorem back_pick (xs : Array Value) : ((List.range xs.size).filterMap fun (k : Nat) => xs[((xs.size : Int) - 1 + (k : Int) * (-1)).toNat]?) = xs.toList.reverse := by
  have e : (fun (k : Nat) => xs[((xs.size : Int) - 1 + (k : Int) * (-1)).toNat]?) = (fun j => xs[j]?) ∘ fun (k : Nat) => ((xs.size : Int) - 1 + (k : Int) * (-1)).toNat := rfl
  rw [e, ← List.filterMap_map]
  have e2 : (List.range xs.size).map (fun (k : Nat) => ((xs.size : Int) - 1 + (k : Int) * (-1)).toNat) = (List.range xs.size).reverse := by
    rw [← PySem.W.krv_range]
    refine List.map_congr_left fun k hk => ?_
    have := List.mem_range.mp hk
    omega
  rw [e2, List.filterMap_reverse, PySem.W.krv_all]
theorem back_applied {sl : Addr} {vs : Value} {n : Nat} {Q : Int × Int × Nat → Shared → Prop} (hs : s.heap.IsSliceOf sl .none .none vs) (ps : IsPart vs (some (-1))) (h : Q ((n : Int) - 1, -1, n) s) :
    wpAny (model prog w) A (Builtin.Slice.sliceApplied (.ref sl) (pure (n : Int))) Q E s := by
  obtain ⟨os, hos, _, hds⟩ := id hs
  unfold Builtin.Slice.sliceApplied Builtin.Slice.sliceFields
  refine wpAny_bind (wpAny_bind (wpAny_field hos hds (x := .none) rfl (wpAny_bind (wpAny_field hos hds (x := .none) rfl (wpAny_bind (wpAny_field hos hds (x := vs) rfl (wpAny_pure ?_)))))))
  refine wpAny_bind (HT.slicePart_ ps ?_)
  show wpAny _ _ (if ((-1 : Int) == 0) = true then _ else _) _ _ s
  rw [if_neg (by decide)]
  refine wpAny_bind (slicePart_none (wpAny_bind (slicePart_none (wpAny_bind (wpAny_pure ?_)))))
  show wpAny _ _ (pure ((n : Int) - 1, (-1 : Int), Builtin.Slice.slicePlaces ((n : Int) - 1) (-1) (-1))) _ _ s
  rw [back_places]
  exact wpAny_pure h
theorem getItem_tuple_back {t sl : Addr} {items : Array Value} {vs : Value} {Q : Value → Shared → Prop} (ht : IsTup s.heap t items) (hs : s.heap.IsSliceOf sl .none .none vs) (ps : IsPart vs (some (-1)))
    (h : Q (.ref s.heap.objs.size) { s with heap := s.heap.push { cls := .type "tuple", data := .seq items.toList.reverse.toArray } }) (hsz : items.size ≤ sizeLine) : wpAny (model prog w) A (getItem (.ref t) (.ref sl)) Q E s := by
  have hok : sizeOk (.seq items.toList.reverse.toArray) := by
    show items.toList.reverse.toArray.size ≤ sizeLine
    rw [List.size_toArray, List.length_reverse, Array.length_toList]
    exact hsz
  obtain ⟨os, hos, hcs, _⟩ := id hs
  have tySl : s.TypeIs (.ref sl) "slice" := ⟨os, hos, hcs⟩
  (unfold getItem); (try with_reducible refine wpAny_holding ?_); (first | refine wpAny_bind (wpAny_pure ?_) | skip)
  refine wpAny_bind (wpAny_sequenceKey ht.typeIs (by decide) (wpAny_bind (wpAny_callSpecial?_slot (name := Str.ofString "__getitem__") ht.typeIs PyProof.Rows.slot_tuple_getitem (wpAny_call_entry PyProof.Rows.slot_tuple_getitem ht.typeIs entry_tuple_getitem ?_ (args_tuple_getitem _ _)))))
  refine (show wpAny _ _ (Builtin.Tuple.tupleItemsOf (.ref t) >>= _) _ _ s from ?_)
  refine wpAny_bind (tupleItemsOf_ ht (wpAny_bind (wpAny_typeOf tySl ?_)))
  rw [if_pos (by decide)]
  refine wpAny_bind (back_applied (n := items.size) hs ps ?_)
  have no : ¬ ((((items.size : Int) - 1 == 0) && ((-1 : Int) == 1) && (items.size == items.size)) = true) := by
    rw [show ((-1 : Int) == 1) = false by decide, Bool.and_false, Bool.false_and]
    exact Bool.false_ne_true
  show wpAny _ _ (if (((items.size : Int) - 1 == 0) && ((-1 : Int) == 1) && (items.size == items.size)) = true then _ else _) _ _ s
  rw [if_neg no, back_pick]
  first
    | exact wpAny_bind (m := Builtin.Tuple.tupleExact _) (wpAny_newObj_type (wpAny_pure ⟨_, rfl, wpAny_pure h⟩) hok)
    | exact wpAny_bind (wpAny_bind (m := Builtin.Tuple.tupleExact _) (wpAny_newObj_type (wpAny_pure (wpAny_pure ⟨_, rfl, wpAny_pure h⟩)) hok))
    | exact wpAny_bind (m := Builtin.Tuple.tupleExact _) (wpAny_newObj_type (wpAny_bind (wpAny_pure (wpAny_pure ⟨_, rfl, wpAny_pure h⟩))) hok)
end
def tRevT (K : PySem.W.Frag) (te : TE) : TE := fun σ H Q => te σ H fun x H1 => ∃ a xs, x = .ref a ∧ SqT K H1 a xs ∧ ∀ p, H1 p = none → Q (.ref p) (upd H1 p (.tup xs.reverse))
section
variable {X : Cx}
theorem pe_revT {e : Expr} {te : TE} {k : Nat} {k1 k2 k3 pos : Pos} (he : PE X e te) : PE X (.Subscript e (.Slice none none (some (.UnaryOp .USub (.Constant (.int 1) k k1) k2)) k3) pos) (tRevT X.K te) := by
  refine ⟨fun pins s σ H Q I h => Subscript_ (thn (he.run pins s σ H _ I h) fun v u1 ⟨x, G1, J1, r1, q1⟩ => ?_)⟩
  obtain ⟨a, xs, rfl, hx, q⟩ := q1
  cases r1
  have hneg : PO X (some (.UnaryOp .USub (.Constant (.int 1) k k1) k2)) (tPart (tUn (rU fun i => .int (-i)) (tC (.int 1)))) := po_some (pe_un un_neg pe_int)
  refine wpAny_Slice (thn (po_none.run pins u1 σ G1 (fun o G2 => o = none ∧ G2 = G1) J1 ⟨rfl, rfl⟩) fun vl u2 ⟨l, G2, J2, pl, el, e2⟩ => ?_)
  subst el e2
  refine thn (po_none.run pins u2 σ G2 (fun o G3 => o = none ∧ G3 = G2) J2 ⟨rfl, rfl⟩) fun vu u3 ⟨u, G3, J3, pu, eu, e3⟩ => ?_
  subst eu e3
  refine thn (hneg.run pins u3 σ G3 (fun o G4 => o = some (-1) ∧ G4 = G3) J3 ⟨1, rfl, -1, rfl, rfl, rfl⟩) fun vs u4 ⟨o, G4, J4, ps, eo, e4⟩ => ?_
  subst eo e4
  cases pl
  cases pu
  have J5 : Inv X pins σ G4 { u4 with heap := u4.heap.push { cls := .type "slice", data := .fields #[.none, .none, vs] } } := J4.kept (t' := u4.toks) fun b ob q => Heap.get?_push_of_some _ q
  obtain ⟨its, r, ht, hz⟩ := J5.tuple hx
  have hlen := r.length
  refine tail_any (ops := [.ref a, .ref u4.heap.objs.size]) ht.typeIs PyProof.Rows.slot_tuple_getitem.lookup ?_ (by with_unfolding_all rfl)
  refine getItem_tuple_back ht (Heap.IsSliceOf.new _ .none .none vs) ps ?_ (by rw [List.size_toArray]; omega)
  refine ⟨.ref _, _, J5.laid (t' := u4.toks) (o := .tup xs.reverse) (fun b ob q => Heap.get?_push_of_some _ q) (Nat.le_refl _) ?_, rfl, q _ (J5.hok.fresh (Nat.le_refl _))⟩
  exact ⟨by rw [List.length_reverse]; exact hz, _, r.reverse, IsTup.new _ _⟩
end
end L2
/-! ### a tuple != () -/
namespace L2
open PySem PySem.Spec PyProof.Rows
def rNeTNil (K : PySem.W.Frag) : R2 := fun x y H Q => ∃ a b xs, x = .ref a ∧ y = .ref b ∧ SqT K H a xs ∧ SqT K H b [] ∧ Q (.bl !xs.isEmpty) H
section
variable {X : Cx}
theorem op_neTNil (hu : X.A.units + 64 < cLine) : OpR X (compareOp .NotEq) (rNeTNil X.K) := by
  intro pins s σ H x y v u Q I rx ry h
  obtain ⟨a, b, xs, rfl, rfl, ha, hb, q⟩ := h
  cases rx
  cases ry
  obtain ⟨its, r1, ⟨⟨cls, dd, data, sl⟩, ho, hc, n, hd⟩, hz1⟩ := I.tuple ha
  obtain ⟨its2, r2, ⟨⟨cls2, dd2, data2, sl2⟩, ho2, hc2, n2, hd2⟩, hz2⟩ := I.tuple hb
  simp only at hc hd hc2 hd2
  subst hc hd hc2 hd2
  cases r2
  have hl1 := r1.length
  have e := SeqAt.tuple_neAt a b its.toArray (#[] : Array Value) n n2 dd dd2 sl sl2 (fun _ => true)
  have er : (!((List.range (min its.toArray.size (#[] : Array Value).size)).all (fun _ => true) && its.toArray.size == (#[] : Array Value).size)) = !xs.isEmpty := by
    have h0 : min its.toArray.size (#[] : Array Value).size = 0 := Nat.min_zero _
    rw [h0, List.size_toArray, ← hl1]
    cases xs <;> rfl
  exact richCompare_meets_room (op := .NotEq) ⟨_, ho, rfl⟩ ⟨_, ho2, rfl⟩ F.slot_tuple_ne F.entry_tuple_ne (F.args_tuple_ne_2 _ _) e
    ⟨ho, ho2, fun j h1 h2 => absurd h2 (Nat.not_lt_zero _), show Value.bool _ ≠ Value.notImplemented ∧ _ from ⟨(fun x => nomatch x), .bl _, H, I, by rw [er]; rfl, q⟩⟩ (by omega)
end
end L2
set_option Elab.async false
set_option linter.all false
set_option maxRecDepth 100000
set_option maxHeartbeats 2000000
/-! zip over any two things that tell their items one by one (a list and a tuple, too); dict(zip(xs, t)), xs a list, t a tuple. -/
namespace MixZ
open PySem
open PySem.Sem (wp)
/-- the iterator at `it` tells what stands in xs, from the k-th on, where S k holds; it reads what is at l -/
structure Src (prog : Program) (w : World) (it l : Addr) (xs : Array Value) (S : Nat → Heap → Prop) : Prop where
  give : ∀ (A : Around) (E : Value → Shared → Prop) (s : Shared) (k : Nat) (x : Value) (Q : Value → Shared → Prop), S k s.heap → xs[k]? = some x → (∀ h', S (k + 1) h' → Heap.SameBut it s.heap h' → Q x { s with heap := h' }) →
    wpAny (model prog w) A (Builtin.SmallTypes.nextOf (.ref it)) Q E s
  stop : ∀ (A : Around) (E : Value → Shared → Prop) (s : Shared) (k : Nat) (Q : Value → Shared → Prop), A.handled = none → S k s.heap → xs[k]? = none →
    (∀ h' e, Heap.ExtBut it s.heap h' → (∃ o, h'.get? e = some o ∧ o.cls = .type "StopIteration") → E (.ref e) { s with heap := h' }) → wpAny (model prog w) A (Builtin.SmallTypes.nextOf (.ref it)) Q E s
  keep : ∀ k h h', S k h → (∀ o, h.get? it = some o → h'.get? it = some o) → (∀ o, h.get? l = some o → h'.get? l = some o) → S k h'
  here : ∀ k h, S k h → (∃ o, h.get? it = some o) ∧ ∃ o, h.get? l = some o
theorem src_list {prog : Program} {w : World} {it l : Addr} {xs : Array Value} (n : l ≠ it) : Src prog w it l xs (fun k h => h.IsListIter it l k ∧ h.IsList l xs) where
  give := fun A E s k x Q st hx hq => wpAny_nextOf_list_item st.1 st.2 hx fun h' a b => hq h' ⟨a, st.2.extBut b.extBut n⟩ b
  stop := fun A E s k Q hh st hx he => wpAny_nextOf_list_end hh st.1 st.2 hx fun h' e b c => he h' e b c
  keep := fun k h h' st a b => ⟨st.1.at a, st.2.at b⟩
  here := fun k h st => by
    obtain ⟨⟨o, a, _⟩, ⟨o2, b, _⟩⟩ := st
    exact ⟨⟨_, a⟩, _, b⟩
theorem src_tup {prog : Program} {w : World} {it l : Addr} {xs : Array Value} (n : l ≠ it) : Src prog w it l xs (fun k h => h.IsTupleIter it l k ∧ h.IsTuple l xs) where
  give := fun A E s k x Q st hx hq => RZ.nextOf_tuple_item st.1 st.2 hx fun h' a b => hq h' ⟨a, st.2.extBut b.extBut n⟩ b
  stop := fun A E s k Q hh st hx he => RZ.nextOf_tuple_end hh st.1 st.2 hx fun h' e b c => he h' e b c
  keep := fun k h h' st a b => ⟨st.1.at a, let ⟨o, x, r⟩ := st.2; ⟨o, b _ x, r⟩⟩
  here := fun k h st => by
    obtain ⟨⟨o, a, _⟩, ⟨o2, b, _⟩⟩ := st
    exact ⟨⟨_, a⟩, _, b⟩
section
variable {prog : Program} {w : World} {A : Around} {E : Value → Shared → Prop} {s : Shared} {z TI TO i1 i2 l1 l2 T : Addr} {k : Nat} {xs ys : Array Value} {S1 S2 : Nat → Heap → Prop} {x y a b : Value} {f : Bool} {oT : Obj}
theorem Src.off {it l c : Addr} {S : Nat → Heap → Prop} {h h' : Heap} (X : Src prog w it l xs S) (st : S k h) (e : Heap.ExtBut c h h') (n1 : it ≠ c) (n2 : l ≠ c) : S k h' := X.keep _ _ _ st (fun o => e _ o n1) (fun o => e _ o n2)
/-- one more, while the tuple T that was given out stands -/
theorem held_item {Q : Value → Shared → Prop} (X1 : Src prog w i1 l1 xs S1) (X2 : Src prog w i2 l2 ys S2) (D : ZipApart z TI TO i1 i2 l1 l2) (zz : IsZipHeld s.heap z TI TO T f) (tT : s.heap.get? T = some oT) (pI : IsPair s.heap TI (.ref i1) (.ref i2))
    (st1 : S1 k s.heap) (st2 : S2 k s.heap) (ex : xs[k]? = some x) (ey : ys[k]? = some y)
    (hq : ∀ h', IsZipHeld h' z TI TO T true → S1 (k + 1) h' → S2 (k + 1) h' → IsPair h' s.heap.objs.size x y → h'.objs.size = s.heap.objs.size + 1 → (∀ c o, c ≠ z → c ≠ i1 → c ≠ i2 → s.heap.get? c = some o → h'.get? c = some o) → Q (.ref s.heap.objs.size) { s with heap := h' }) :
    wpAny (model prog w) A (Builtin.«zip.__next__» ⟨[.ref z], []⟩) (fun fin s' => ∃ v, fin = .done (.ret v) ∧ Q v s') E s := by
  show wpAny _ _ (field (.ref z) 2 >>= _) _ _ _
  refine wpAny_bind (wpAny_field zz rfl (x := .bool false) rfl ?_); show wpAny _ _ (field (.ref z) 3 >>= _) _ _ _
  refine wpAny_bind (wpAny_field zz rfl (x := .ref TI) rfl (wpAny_bind (wpAny_seqItems pI rfl ?_)))
  refine wpAny_bind (wpAny_tupleHeld_zip zz tT fun g1 z1 c1 => ?_)
  simp only [Bool.false_eq_true, if_false]; rw [← Array.forIn_toList]
  simp only [List.forIn_cons, List.forIn_nil]
  refine wpAny_bind (wpAny_bind (wpAny_bind (wpAny_holding ?_))); show wpAny _ _ (Builtin.SmallTypes.nextOf (.ref i1) >>= _) _ _ _
  refine wpAny_bind (X1.give _ _ { s with heap := g1 } k x _ (X1.off st1 c1.extBut D.i1z D.l1z) ex fun g2 st1' c2 => wpAny_pure (wpAny_pure (wpAny_bind (wpAny_bind (wpAny_holding ?_)))))
  show wpAny _ _ (Builtin.SmallTypes.nextOf (.ref i2) >>= _) _ _ _
  have st2' : S2 k g2 := X2.off (X2.off st2 c1.extBut D.i2z D.l2z) c2.extBut D.i12.symm D.l2i1
  refine wpAny_bind (X2.give _ _ { s with heap := g2 } k y _ st2' ey fun g3 st2'' c3 => wpAny_pure (wpAny_pure (wpAny_pure ?_)))
  show wpAny _ _ (newTuple [x, y] >>= _) _ _ _
  refine wpAny_bind (wpAny_newTuple (wpAny_pure ⟨_, rfl, ?_⟩))
  have sz : g3.objs.size = s.heap.objs.size := c3.1.trans (c2.1.trans c1.1)
  have z3 : IsZipHeld g3 z TI TO T true := c3.extBut _ _ D.i2z.symm (c2.extBut _ _ D.i1z.symm z1)
  have up : ∀ c o, c ≠ z → c ≠ i1 → c ≠ i2 → s.heap.get? c = some o → g3.get? c = some o := fun c o n1 n2 n3 e => c3.extBut _ _ n3 (c2.extBut _ _ n2 (c1.extBut _ _ n1 e))
  have st13 : S1 (k + 1) g3 := X1.off st1' c3.extBut D.i12 D.l1i2
  show Q (.ref g3.objs.size) _
  have pT : IsPair (g3.push { cls := .type "tuple", data := .seq #[x, y] }) g3.objs.size x y := Heap.get?_push_size _ rfl
  have more : ∀ c o, g3.get? c = some o → (g3.push { cls := .type "tuple", data := .seq #[x, y] }).get? c = some o := fun c o e => Heap.get?_push_of_some _ e
  have s4 : (g3.push { cls := .type "tuple", data := .seq #[x, y] }).objs.size = g3.objs.size + 1 := Heap.size_push ..
  rw [sz] at pT s4 ⊢
  exact hq _ (more _ _ z3) (X1.keep _ _ _ st13 (more _) (more _)) (X2.keep _ _ _ st2'' (more _) (more _)) pT s4 fun c o n1 n2 n3 e => more c o (up c o n1 n2 n3 e)
/-- none is left, while T stands -/
theorem held_end {Q : Fin → Shared → Prop} (hh : A.handled = none) (X1 : Src prog w i1 l1 xs S1) (X2 : Src prog w i2 l2 ys S2) (D : ZipApart z TI TO i1 i2 l1 l2) (zz : IsZipHeld s.heap z TI TO T f) (tT : s.heap.get? T = some oT) (pI : IsPair s.heap TI (.ref i1) (.ref i2))
    (st1 : S1 k s.heap) (st2 : S2 k s.heap) (no : xs[k]? = none ∨ ys[k]? = none)
    (he : ∀ h' e, (∀ c o, c ≠ z → c ≠ i1 → c ≠ i2 → s.heap.get? c = some o → h'.get? c = some o) → (∃ o, h'.get? e = some o ∧ o.cls = .type "StopIteration") → E (.ref e) { s with heap := h' }) :
    wpAny (model prog w) A (Builtin.«zip.__next__» ⟨[.ref z], []⟩) Q E s := by
  show wpAny _ _ (field (.ref z) 2 >>= _) _ _ _
  refine wpAny_bind (wpAny_field zz rfl (x := .bool false) rfl ?_); show wpAny _ _ (field (.ref z) 3 >>= _) _ _ _
  refine wpAny_bind (wpAny_field zz rfl (x := .ref TI) rfl (wpAny_bind (wpAny_seqItems pI rfl ?_)))
  refine wpAny_bind (wpAny_tupleHeld_zip zz tT fun g1 z1 c1 => ?_)
  simp only [Bool.false_eq_true, if_false]; rw [← Array.forIn_toList]
  simp only [List.forIn_cons, List.forIn_nil]
  refine wpAny_bind (wpAny_bind (wpAny_bind (wpAny_holding ?_))); show wpAny _ _ (Builtin.SmallTypes.nextOf (.ref i1) >>= _) _ _ _
  have st1' : S1 k g1 := X1.off st1 c1.extBut D.i1z D.l1z
  cases ex : xs[k]? with
  | none => exact wpAny_bind (X1.stop _ _ { s with heap := g1 } k _ hh st1' ex fun g2 e c2 es => he g2 e (fun c o n1 n2 _ q => c2 _ _ n2 (c1.extBut _ _ n1 q)) es)
  | some x =>
    have ey : ys[k]? = none := no.elim (fun q => by rw [ex] at q; cases q) id
    refine wpAny_bind (X1.give _ _ { s with heap := g1 } k x _ st1' ex fun g2 _ c2 => wpAny_pure (wpAny_pure (wpAny_bind (wpAny_bind (wpAny_holding ?_)))))
    show wpAny _ _ (Builtin.SmallTypes.nextOf (.ref i2) >>= _) _ _ _
    have st2' : S2 k g2 := X2.off (X2.off st2 c1.extBut D.i2z D.l2z) c2.extBut D.i12.symm D.l2i1
    exact wpAny_bind (X2.stop _ _ { s with heap := g2 } k _ hh st2' ey fun g3 e c3 es => he g3 e (fun c o n1 n2 n3 q => c3 _ _ n3 (c2.extBut _ _ n2 (c1.extBut _ _ n1 q))) es)
/-- the first one -/
theorem first_itemT {Q : Value → Shared → Prop} (X1 : Src prog w i1 l1 xs S1) (X2 : Src prog w i2 l2 ys S2) (D : ZipApart z TI TO i1 i2 l1 l2) (zz : IsZip s.heap z TI TO .none) (pI : IsPair s.heap TI (.ref i1) (.ref i2)) (pO : IsPair s.heap TO a b)
    (st1 : S1 k s.heap) (st2 : S2 k s.heap) (ex : xs[k]? = some x) (ey : ys[k]? = some y)
    (hq : ∀ h', IsZip h' z TI TO (rawInt s.heap.objs.size) → S1 (k + 1) h' → S2 (k + 1) h' → IsPair h' s.heap.objs.size x y → IsPair h' TO x y → h'.objs.size = s.heap.objs.size + 1 → (∀ c o, c ≠ z → c ≠ TO → c ≠ i1 → c ≠ i2 → s.heap.get? c = some o → h'.get? c = some o) → Q (.ref s.heap.objs.size) { s with heap := h' }) :
    wpAny (model prog w) A (Builtin.«zip.__next__» ⟨[.ref z], []⟩) (fun fin s' => ∃ v, fin = .done (.ret v) ∧ Q v s') E s := by
  show wpAny _ _ (field (.ref z) 2 >>= _) _ _ _
  refine wpAny_bind (wpAny_field zz rfl (x := .bool false) rfl ?_); show wpAny _ _ (field (.ref z) 3 >>= _) _ _ _
  refine wpAny_bind (wpAny_field zz rfl (x := .ref TI) rfl (wpAny_bind (wpAny_seqItems pI rfl ?_)))
  show wpAny _ _ (Builtin.SmallTypes.ownedTupleIsFree (.ref z) >>= _) _ _ _; unfold Builtin.SmallTypes.ownedTupleIsFree
  refine wpAny_bind (wpAny_bind (wpAny_field zz rfl (x := .none) rfl (wpAny_pure ?_))); simp only [if_true]
  refine wpAny_bind (wpAny_rule (wpAny_bind (wpAny_field zz rfl (x := .ref TO) rfl (wpAny_bind (wpAny_setField_rec zz (by simp) fun g1 z1 c1 => ?_)))))
  have z1 : IsZip g1 z TI TO .ellipsis := z1
  refine wpAny_bind ?_; simp only [List.zipIdx_cons, List.zipIdx_nil, List.forIn_cons, List.forIn_nil]
  refine wpAny_bind (wpAny_bind (wpAny_onRaise ?_)); show wpAny _ _ (Builtin.SmallTypes.nextOf (.ref i1) >>= _) _ _ _
  refine wpAny_bind (X1.give _ _ { s with heap := g1 } k x _ (X1.off st1 c1.extBut D.i1z D.l1z) ex fun g2 st1' c2 => wpAny_pure ?_)
  have p2 : IsPair g2 TO a b := c2.extBut _ _ D.TOi1 (c1.extBut _ _ D.TOz pO)
  refine wpAny_bind (wpAny_seqItems p2 rfl (wpAny_bind (wpAny_updateSeq_pair p2 fun g3 p3 c3 => wpAny_bind (wpAny_letGo (wpAny_pure ?_)))))
  have p3 : IsPair g3 TO x b := p3
  refine wpAny_bind (wpAny_bind (wpAny_onRaise ?_)); show wpAny _ _ (Builtin.SmallTypes.nextOf (.ref i2) >>= _) _ _ _
  have st2' : S2 k g3 := X2.off (X2.off (X2.off st2 c1.extBut D.i2z D.l2z) c2.extBut D.i12.symm D.l2i1) c3.extBut D.TOi2.symm D.l2TO
  refine wpAny_bind (X2.give _ _ { s with heap := g3 } k y _ st2' ey fun g4 st2'' c4 => wpAny_pure ?_)
  have p4 : IsPair g4 TO x b := c4.extBut _ _ D.TOi2 p3
  refine wpAny_bind (wpAny_seqItems p4 rfl (wpAny_bind (wpAny_updateSeq_pair p4 fun g5 p5 c5 => wpAny_bind (wpAny_letGo (wpAny_pure (wpAny_pure ?_))))))
  have p5 : IsPair g5 TO x y := p5
  refine wpAny_bind (wpAny_seqItems p5 rfl (wpAny_bind (wpAny_newTuple ?_)))
  have sz : g5.objs.size = s.heap.objs.size := c5.1.trans (c4.1.trans (c3.1.trans (c2.1.trans c1.1)))
  have z5 : IsZip g5 z TI TO .ellipsis := c5.extBut _ _ D.TOz.symm (c4.extBut _ _ D.i2z.symm (c3.extBut _ _ D.TOz.symm (c2.extBut _ _ D.i1z.symm z1)))
  have up : ∀ c o, c ≠ z → c ≠ TO → c ≠ i1 → c ≠ i2 → s.heap.get? c = some o → g5.get? c = some o := fun c o n1 n2 n3 n4 e => c5.extBut _ _ n2 (c4.extBut _ _ n4 (c3.extBut _ _ n2 (c2.extBut _ _ n3 (c1.extBut _ _ n1 e))))
  have st15 : S1 (k + 1) g5 := X1.off (X1.off (X1.off st1' c3.extBut D.TOi1.symm D.l1TO) c4.extBut D.i12 D.l1i2) c5.extBut D.TOi1.symm D.l1TO
  have st25 : S2 (k + 1) g5 := X2.off st2'' c5.extBut D.TOi2.symm D.l2TO
  have zlt : z < g5.objs.size := Heap.lt_size z5
  show wpAny _ _ (Builtin.SmallTypes.ownedTupleHandOut (.ref z) (.ref g5.objs.size) >>= _) _ _ _
  refine wpAny_bind ?_; unfold Builtin.SmallTypes.ownedTupleHandOut
  have z6 : IsZip (g5.push { cls := .type "tuple", data := .seq #[x, y] }) z TI TO .ellipsis := Heap.get?_push_of_some _ z5
  refine wpAny_bind (wpAny_setField_rec z6 (by simp) fun g7 z7 c7 => ?_)
  have z7 : IsZip g7 z TI TO (rawInt g5.objs.size) := z7
  refine wpAny_setField_rec z7 (by simp) fun g8 z8 c8 => wpAny_pure ⟨_, rfl, ?_⟩
  have z8 : IsZip g8 z TI TO (rawInt g5.objs.size) := z8
  have on : ∀ c o, c ≠ z → g5.get? c = some o → g8.get? c = some o := fun c o n e => c8.extBut _ _ n (c7.extBut _ _ n (Heap.get?_push_of_some _ e))
  have pT : IsPair g8 g5.objs.size x y := c8.extBut _ _ (Nat.ne_of_gt zlt) (c7.extBut _ _ (Nat.ne_of_gt zlt) (Heap.get?_push_size _ rfl))
  have s8 : g8.objs.size = g5.objs.size + 1 := c8.1.trans (c7.1.trans (Heap.size_push ..))
  show Q (.ref g5.objs.size) _
  rw [sz] at z8 pT s8 ⊢
  exact hq g8 z8 (X1.keep _ _ _ st15 (fun o e => on _ o D.i1z e) fun o e => on _ o D.l1z e) (X2.keep _ _ _ st25 (fun o e => on _ o D.i2z e) fun o e => on _ o D.l2z e) pT (on _ _ D.TOz p5) s8 fun c o n1 n2 n3 n4 e => on c o n1 (up c o n1 n2 n3 n4 e)
theorem first_item {Q : Value → Shared → Prop} (X1 : Src prog w i1 l1 xs S1) (X2 : Src prog w i2 l2 ys S2) (D : ZipApart z TI TO i1 i2 l1 l2) (zz : IsZip s.heap z TI TO .none) (pI : IsPair s.heap TI (.ref i1) (.ref i2)) (pO : IsPair s.heap TO a b)
    (st1 : S1 k s.heap) (st2 : S2 k s.heap) (ex : xs[k]? = some x) (ey : ys[k]? = some y)
    (hq : ∀ h', IsZip h' z TI TO (rawInt s.heap.objs.size) → S1 (k + 1) h' → S2 (k + 1) h' → IsPair h' s.heap.objs.size x y → h'.objs.size = s.heap.objs.size + 1 → (∀ c o, c ≠ z → c ≠ TO → c ≠ i1 → c ≠ i2 → s.heap.get? c = some o → h'.get? c = some o) → Q (.ref s.heap.objs.size) { s with heap := h' }) :
    wpAny (model prog w) A (Builtin.«zip.__next__» ⟨[.ref z], []⟩) (fun fin s' => ∃ v, fin = .done (.ret v) ∧ Q v s') E s :=
  first_itemT X1 X2 D zz pI pO st1 st2 ex ey fun h' a1 a2 a3 a4 _ a5 a6 => hq h' a1 a2 a3 a4 a5 a6
/-- there is none at all -/
theorem first_end {Q : Fin → Shared → Prop} (hh : A.handled = none) (X1 : Src prog w i1 l1 xs S1) (X2 : Src prog w i2 l2 ys S2) (D : ZipApart z TI TO i1 i2 l1 l2) (zz : IsZip s.heap z TI TO .none) (pI : IsPair s.heap TI (.ref i1) (.ref i2)) (pO : IsPair s.heap TO a b)
    (st1 : S1 k s.heap) (st2 : S2 k s.heap) (no : xs[k]? = none ∨ ys[k]? = none)
    (he : ∀ h' e, (∀ c o, c ≠ z → c ≠ TO → c ≠ i1 → c ≠ i2 → s.heap.get? c = some o → h'.get? c = some o) → (∃ o, h'.get? e = some o ∧ o.cls = .type "StopIteration") → E (.ref e) { s with heap := h' }) :
    wpAny (model prog w) A (Builtin.«zip.__next__» ⟨[.ref z], []⟩) Q E s := by
  show wpAny _ _ (field (.ref z) 2 >>= _) _ _ _
  refine wpAny_bind (wpAny_field zz rfl (x := .bool false) rfl ?_); show wpAny _ _ (field (.ref z) 3 >>= _) _ _ _
  refine wpAny_bind (wpAny_field zz rfl (x := .ref TI) rfl (wpAny_bind (wpAny_seqItems pI rfl ?_)))
  show wpAny _ _ (Builtin.SmallTypes.ownedTupleIsFree (.ref z) >>= _) _ _ _; unfold Builtin.SmallTypes.ownedTupleIsFree
  refine wpAny_bind (wpAny_bind (wpAny_field zz rfl (x := .none) rfl (wpAny_pure ?_))); simp only [if_true]
  refine wpAny_bind (wpAny_rule (wpAny_bind (wpAny_field zz rfl (x := .ref TO) rfl (wpAny_bind (wpAny_setField_rec zz (by simp) fun g1 z1 c1 => ?_)))))
  have z1 : IsZip g1 z TI TO .ellipsis := z1
  refine wpAny_bind ?_; simp only [List.zipIdx_cons, List.zipIdx_nil, List.forIn_cons, List.forIn_nil]
  refine wpAny_bind (wpAny_bind (wpAny_onRaise ?_)); show wpAny _ _ (Builtin.SmallTypes.nextOf (.ref i1) >>= _) _ _ _
  have st1' : S1 k g1 := X1.off st1 c1.extBut D.i1z D.l1z
  cases ex : xs[k]? with
  | none =>
    refine wpAny_bind (X1.stop _ _ { s with heap := g1 } k _ hh st1' ex fun g2 e c2 es => ?_)
    obtain ⟨oe, a1, a2⟩ := es
    have z2 : IsZip g2 z TI TO .ellipsis := c2 _ _ D.i1z.symm z1
    have ne : e ≠ z := fun q => by rw [q, z2] at a1; cases a1; simp at a2
    exact wpAny_setField_rec z2 (by simp) fun g3 _ c3 => he g3 e (fun c o n1 _ n3 _ q => c3.extBut _ _ n1 (c2 _ _ n3 (c1.extBut _ _ n1 q))) ⟨oe, c3.extBut _ _ ne a1, a2⟩
  | some x =>
    have ey : ys[k]? = none := no.elim (fun q => by rw [ex] at q; cases q) id
    refine wpAny_bind (X1.give _ _ { s with heap := g1 } k x _ st1' ex fun g2 _ c2 => wpAny_pure ?_)
    have p2 : IsPair g2 TO a b := c2.extBut _ _ D.TOi1 (c1.extBut _ _ D.TOz pO)
    refine wpAny_bind (wpAny_seqItems p2 rfl (wpAny_bind (wpAny_updateSeq_pair p2 fun g3 _ c3 => wpAny_bind (wpAny_letGo (wpAny_pure ?_)))))
    refine wpAny_bind (wpAny_bind (wpAny_onRaise ?_)); show wpAny _ _ (Builtin.SmallTypes.nextOf (.ref i2) >>= _) _ _ _
    have st2' : S2 k g3 := X2.off (X2.off (X2.off st2 c1.extBut D.i2z D.l2z) c2.extBut D.i12.symm D.l2i1) c3.extBut D.TOi2.symm D.l2TO
    refine wpAny_bind (X2.stop _ _ { s with heap := g3 } k _ hh st2' ey fun g4 e c4 es => ?_)
    obtain ⟨oe, a1, a2⟩ := es
    have z4 : IsZip g4 z TI TO .ellipsis := c4 _ _ D.i2z.symm (c3.extBut _ _ D.TOz.symm (c2.extBut _ _ D.i1z.symm z1))
    have ne : e ≠ z := fun q => by rw [q, z4] at a1; cases a1; simp at a2
    exact wpAny_setField_rec z4 (by simp) fun g5 _ c5 => he g5 e (fun c o n1 n2 n3 n4 q => c5.extBut _ _ n1 (c4 _ _ n4 (c3.extBut _ _ n2 (c2.extBut _ _ n3 (c1.extBut _ _ n1 q))))) ⟨oe, c5.extBut _ _ ne a1, a2⟩
theorem next_give {R : Value → Shared → Prop} {Q : Option Value → Shared → Prop} (tz : s.TypeIs (.ref z) "zip")
    (hi : ∀ (A' : Around) (E' : Value → Shared → Prop) (Q' : Value → Shared → Prop), (∀ v s', R v s' → Q' v s') → wpAny (model prog w) A' (Builtin.«zip.__next__» ⟨[.ref z], []⟩) (fun fin s' => ∃ v, fin = .done (.ret v) ∧ Q' v s') E' s) (hq : ∀ v s', R v s' → Q (some v) s') :
    wpAny (model prog w) A (pyNext (.ref z)) Q E s := by
  unfold pyNext
  refine wpAny_bind (wpAny_attempt (wpAny_callSpecial?_slot (name := Str.ofString "__next__") tz F.slot_zip_next (wpAny_call_entry F.slot_zip_next tz F.entry_zip_next (hi _ _ _ fun v s' r => wpAny_pure (hq v s' r)) (F.args_zip_next_1 _))))
theorem next_stop {R : Heap → Prop} {Q : Option Value → Shared → Prop} (hh : A.handled = none) (tz : s.TypeIs (.ref z) "zip")
    (hi : ∀ (A' : Around) (E' : Value → Shared → Prop) (Q' : Fin → Shared → Prop), A'.handled = none → (∀ h' e, R h' → (∃ o, h'.get? e = some o ∧ o.cls = .type "StopIteration") → E' (.ref e) { s with heap := h' }) → wpAny (model prog w) A' (Builtin.«zip.__next__» ⟨[.ref z], []⟩) Q' E' s)
    (hq : ∀ h', R h' → Q none { s with heap := h' }) : wpAny (model prog w) A (pyNext (.ref z)) Q E s := by
  unfold pyNext
  refine wpAny_bind (wpAny_attempt (wpAny_callSpecial?_slot (name := Str.ofString "__next__") tz F.slot_zip_next (wpAny_call_entry F.slot_zip_next tz F.entry_zip_next (hi _ _ _ hh fun h' e r es => ?_) (F.args_zip_next_1 _))))
  obtain ⟨o, a1, a2⟩ := es
  exact wpAny_bind (wpAny_isInstance (T := "StopIteration") (b := true) ⟨o, a1, a2⟩ isSubtype_stop (wpAny_pure (hq _ r)))
/-! ### zip made of a list and a tuple -/
abbrev mz1 (h : Heap) (l1 : Addr) : Heap := h.push { cls := .type "list_iterator", data := .fields #[.ref l1, .int 0 0] }
abbrev mz2 (h : Heap) (l1 l2 : Addr) : Heap := (mz1 h l1).push { cls := .type "tuple_iterator", data := .fields #[.ref l2, .int 0 0] }
abbrev mz3 (h : Heap) (l1 l2 : Addr) : Heap := (mz2 h l1 l2).push { cls := .type "tuple", data := .seq #[.ref h.objs.size, .ref (mz1 h l1).objs.size] }
abbrev mz4 (h : Heap) (l1 l2 : Addr) : Heap := (mz3 h l1 l2).push { cls := .type "tuple", data := .seq #[.none, .none] }
abbrev mz5 (h : Heap) (l1 l2 : Addr) : Heap := (mz4 h l1 l2).push { cls := .type "zip", data := .fields #[.none, .bool false, .bool false, .ref (mz2 h l1 l2).objs.size, .ref (mz3 h l1 l2).objs.size] }
theorem made (l1 l2 : Addr) (xs ys : Array Value) : Meets (Builtin.«zip.__new__» ⟨[.type "zip", .ref l1, .ref l2], []⟩) (fun _ R s => s.heap.IsList l1 xs ∧ s.heap.IsTuple l2 ys ∧ R (.ok (.ret (.ref (mz4 s.heap l1 l2).objs.size))) { s with heap := mz5 s.heap l1 l2 }) :=
  .of_wp fun prog w A R s h => by
    obtain ⟨hp, g, d, tk, os⟩ := s
    obtain ⟨a1, a2, h⟩ := h
    have sub := sub_zip
    have b1 : Heap.IsList (Shared.heap ⟨hp, g, d, tk, os⟩) l1 xs := a1
    have b2 : Heap.IsTuple (Shared.heap ⟨hp.push { cls := .type "list_iterator", data := .fields #[.ref l1, .int 0 0] }, g, d, tk, os⟩) l2 ys := Heap.IsTuple.push a2 _
    wp_walk using wpAny_pyIter_list b1, wpAny_pyIter_tuple b2
    exact ⟨_, rfl, h⟩
theorem call_mix {Q : Value → Shared → Prop} (a1 : s.heap.IsList l1 xs) (a2 : s.heap.IsTuple l2 ys)
    (h : ∀ h', IsZip h' (s.heap.objs.size + 4) (s.heap.objs.size + 2) (s.heap.objs.size + 3) .none → IsPair h' (s.heap.objs.size + 2) (.ref s.heap.objs.size) (.ref (s.heap.objs.size + 1)) → IsPair h' (s.heap.objs.size + 3) .none .none →
      h'.IsListIter s.heap.objs.size l1 0 → h'.IsTupleIter (s.heap.objs.size + 1) l2 0 → h'.objs.size = s.heap.objs.size + 5 → (∀ c o, s.heap.get? c = some o → h'.get? c = some o) → Q (.ref (s.heap.objs.size + 4)) { s with heap := h' }) :
    wpAny (model prog w) A (call (.type "zip") [.ref l1, .ref l2]) Q E s := by
  refine callType_new F.called_zip (by decide) (F.typeCall_zip_2 _ _) (F.newCall_zip_2 _ _) (fun o => F.args_object_init_3 o _ _) F.entry_zip_new (made l1 l2 xs ys) ⟨a1, a2, ?_⟩
  have e1 : (mz1 s.heap l1).objs.size = s.heap.objs.size + 1 := Heap.size_push ..
  have e2 : (mz2 s.heap l1 l2).objs.size = s.heap.objs.size + 2 := by rw [Heap.size_push, e1]
  have e3 : (mz3 s.heap l1 l2).objs.size = s.heap.objs.size + 3 := by rw [Heap.size_push, e2]
  have e4 : (mz4 s.heap l1 l2).objs.size = s.heap.objs.size + 4 := by rw [Heap.size_push, e3]
  have e5 : (mz5 s.heap l1 l2).objs.size = s.heap.objs.size + 5 := by rw [Heap.size_push, e4]
  have p1 : ∀ c o, (mz1 s.heap l1).get? c = some o → (mz5 s.heap l1 l2).get? c = some o := fun c o q => Heap.get?_push_of_some _ (Heap.get?_push_of_some _ (Heap.get?_push_of_some _ (Heap.get?_push_of_some _ q)))
  have p2 : ∀ c o, (mz2 s.heap l1 l2).get? c = some o → (mz5 s.heap l1 l2).get? c = some o := fun c o q => Heap.get?_push_of_some _ (Heap.get?_push_of_some _ (Heap.get?_push_of_some _ q))
  have f1 := p1 _ _ (Heap.get?_push_size s.heap (o := { cls := .type "list_iterator", data := .fields #[.ref l1, .int 0 0] }) rfl)
  have f2 := p2 _ _ (Heap.get?_push_size (mz1 s.heap l1) (o := { cls := .type "tuple_iterator", data := .fields #[.ref l2, .int 0 0] }) rfl)
  have f3 : (mz5 s.heap l1 l2).get? (mz2 s.heap l1 l2).objs.size = some _ := Heap.get?_push_of_some _ (Heap.get?_push_of_some _ (Heap.get?_push_size _ rfl))
  have f4 : (mz5 s.heap l1 l2).get? (mz3 s.heap l1 l2).objs.size = some _ := Heap.get?_push_of_some _ (Heap.get?_push_size _ rfl)
  have f5 : (mz5 s.heap l1 l2).get? (mz4 s.heap l1 l2).objs.size = some _ := Heap.get?_push_size _ rfl
  show _ ∧ _
  rw [e1] at f2; rw [e1, e2] at f3; rw [e3] at f4; rw [e2, e3, e4] at f5; rw [e4]
  exact ⟨⟨_, f5, rfl⟩, h _ f5 f3 f4 ⟨_, f1, rfl, rfl⟩ ⟨_, f2, rfl, rfl⟩ e5 fun c o q => p1 _ _ (Heap.get?_push_of_some _ q)⟩
theorem pairArg (X1 : Src prog w i1 l1 xs S1) (X2 : Src prog w i2 l2 ys S2) (D : ZipApart z TI TO i1 i2 l1 l2) :
    PairArg prog w "zip" z [z, TI, TO, i1, i2, l1, l2] [z, TO, i1, i2] (min xs.size ys.size) (fun i k v => xs[i]? = some k ∧ ys[i]? = some v) (fun h => IsZip h z TI TO .none ∧ IsPair h TI (.ref i1) (.ref i2) ∧ (∃ a b, IsPair h TO a b) ∧ S1 0 h ∧ S2 0 h) where
  type := fun s ok => ⟨_, ok.1, rfl⟩
  notDict := by decide
  keep := fun h h' ok e => ⟨e _ _ ok.1, e _ _ ok.2.1, let ⟨a, b, q⟩ := ok.2.2.1; ⟨a, b, e _ _ q⟩, X1.keep _ _ _ ok.2.2.2.1 (e _) (e _), X2.keep _ _ _ ok.2.2.2.2 (e _) (e _)⟩
  there := fun h ok c hc => by
    obtain ⟨a1, a2, ⟨_, _, a3⟩, a4, a5⟩ := ok
    have b4 := X1.here _ _ a4
    have b5 := X2.here _ _ a5
    rcases List.mem_cons.mp hc with rfl | hc
    · exact ⟨_, a1⟩
    rcases List.mem_cons.mp hc with rfl | hc
    · exact ⟨_, a2⟩
    rcases List.mem_cons.mp hc with rfl | hc
    · exact ⟨_, a3⟩
    rcases List.mem_cons.mp hc with rfl | hc
    · exact b4.1
    rcases List.mem_cons.mp hc with rfl | hc
    · exact b5.1
    rcases List.mem_cons.mp hc with rfl | hc
    · exact b4.2
    rw [List.mem_singleton.mp hc]
    exact b5.2
  sub := fun c hc => by
    rcases List.mem_cons.mp hc with rfl | hc
    · simp
    rcases List.mem_cons.mp hc with rfl | hc
    · simp
    rcases List.mem_cons.mp hc with rfl | hc
    · simp
    rw [List.mem_singleton.mp hc]
    simp
  noKeys := fun A s Q E hA ok h => getAttrOr_miss_zip ok.1 rfl rfl rfl zip_no_keys (by decide +kernel) hA h
  iter := fun A s d Q E hA ok hd out h => by
    obtain ⟨a1, a2, ⟨a, b, a3⟩, a4, a5⟩ := ok
    have ne : ∀ c ∈ [z, TI, TO, i1, i2, l1, l2], c ≠ d := fun c hc q => out (q ▸ hc)
    refine wpAny_pyIter_zip a1 (h z [z, TO, i1, i2] (fun i h => IsPair h TI (.ref i1) (.ref i2) ∧ S1 i h ∧ S2 i h ∧ ((IsZip h z TI TO .none ∧ ∃ a b, IsPair h TO a b) ∨ ∃ T f oT, IsZipHeld h z TI TO T f ∧ h.get? T = some oT ∧ T ≠ z ∧ T ≠ i1 ∧ T ≠ i2 ∧ T ≠ d)) s.heap s.toks ?_ ⟨a2, a4, a5, .inl ⟨a1, a, b, a3⟩⟩ (fun _ _ e => e) fun c hc => .inl hc)
    refine { off := fun hm => ?_, frame := fun i g g' st e => ?_, item := fun i s1 Q1 E1 hi st lt hq => ?_, done := fun s1 Q1 E1 st hq => ?_ }
    · refine ne d ?_ rfl
      rcases List.mem_cons.mp hm with rfl | hm
      · simp
      rcases List.mem_cons.mp hm with rfl | hm
      · simp
      rcases List.mem_cons.mp hm with rfl | hm
      · simp
      rw [List.mem_singleton.mp hm]
      simp
    · obtain ⟨b2, b4, b5, b1⟩ := st
      refine ⟨e _ _ (ne _ (by simp)) b2, X1.keep _ _ _ b4 (fun o => e _ o (ne _ (by simp))) (fun o => e _ o (ne _ (by simp))), X2.keep _ _ _ b5 (fun o => e _ o (ne _ (by simp))) (fun o => e _ o (ne _ (by simp))), ?_⟩
      rcases b1 with ⟨q, u, v, p⟩ | ⟨T, f, oT, q, p, n1, n2, n3, n4⟩
      · exact .inl ⟨e _ _ (ne _ (by simp)) q, u, v, e _ _ (ne _ (by simp)) p⟩
      · exact .inr ⟨T, f, oT, e _ _ (ne _ (by simp)) q, e _ _ n4 p, n1, n2, n3, n4⟩
    · obtain ⟨b2, b4, b5, b1⟩ := st
      have ix : i < xs.size := Nat.lt_of_lt_of_le hi (Nat.min_le_left _ _)
      have iy : i < ys.size := Nat.lt_of_lt_of_le hi (Nat.min_le_right _ _)
      have ex := Array.getElem?_eq_getElem ix
      have ey := Array.getElem?_eq_getElem iy
      have old : ∀ {c}, (∃ o, s1.heap.get? c = some o) → s1.heap.objs.size ≠ c := fun ⟨_, e⟩ => Nat.ne_of_gt (Heap.lt_size e)
      have n1 := old (X1.here _ _ b4).1
      have n2 := old (X2.here _ _ b5).1
      rcases b1 with ⟨q, u, v, p⟩ | ⟨T, f, oT, q, p, m1, m2, m3, m4⟩
      · refine next_give (R := fun v s' => ∃ h', v = .ref s1.heap.objs.size ∧ s' = { s1 with heap := h' } ∧ IsZip h' z TI TO (rawInt s1.heap.objs.size) ∧ S1 (i + 1) h' ∧ S2 (i + 1) h' ∧ IsPair h' s1.heap.objs.size xs[i] ys[i] ∧ (∀ c o, c ≠ z → c ≠ TO → c ≠ i1 → c ≠ i2 → s1.heap.get? c = some o → h'.get? c = some o)) ⟨_, q, rfl⟩
          (fun A' E' Q' hr => first_item X1 X2 D q b2 p b4 b5 ex ey fun h' c1 c2 c3 c4 _ c6 => hr _ _ ⟨h', rfl, rfl, c1, c2, c3, c4, c6⟩) ?_
        rintro _ _ ⟨h', rfl, rfl, c1, c2, c3, c4, c6⟩
        refine hq s1.heap.objs.size _ _ h' s1.toks ⟨ex, ey⟩ (.inl ⟨_, c4, rfl, _, rfl⟩) ⟨c6 _ _ D.TIz D.TITO D.TIi1 D.TIi2 b2, c2, c3, .inr ⟨s1.heap.objs.size, false, _, c1, c4, old ⟨_, q⟩, n1, n2, Nat.ne_of_gt lt⟩⟩ fun c o hc e => ?_
        exact c6 c o (fun y => hc (by simp [y])) (fun y => hc (by simp [y])) (fun y => hc (by simp [y])) (fun y => hc (by simp [y])) e
      · refine next_give (R := fun v s' => ∃ h', v = .ref s1.heap.objs.size ∧ s' = { s1 with heap := h' } ∧ IsZipHeld h' z TI TO T true ∧ S1 (i + 1) h' ∧ S2 (i + 1) h' ∧ IsPair h' s1.heap.objs.size xs[i] ys[i] ∧ (∀ c o, c ≠ z → c ≠ i1 → c ≠ i2 → s1.heap.get? c = some o → h'.get? c = some o)) ⟨_, q, rfl⟩
          (fun A' E' Q' hr => held_item X1 X2 D q p b2 b4 b5 ex ey fun h' c1 c2 c3 c4 _ c6 => hr _ _ ⟨h', rfl, rfl, c1, c2, c3, c4, c6⟩) ?_
        rintro _ _ ⟨h', rfl, rfl, c1, c2, c3, c4, c6⟩
        refine hq s1.heap.objs.size _ _ h' s1.toks ⟨ex, ey⟩ (.inl ⟨_, c4, rfl, _, rfl⟩) ⟨c6 _ _ D.TIz D.TIi1 D.TIi2 b2, c2, c3, .inr ⟨T, true, oT, c1, c6 _ _ m1 m2 m3 p, m1, m2, m3, m4⟩⟩ fun c o hc e => ?_
        exact c6 c o (fun y => hc (by simp [y])) (fun y => hc (by simp [y])) (fun y => hc (by simp [y])) e
    · obtain ⟨b2, b4, b5, b1⟩ := st
      have no : xs[min xs.size ys.size]? = none ∨ ys[min xs.size ys.size]? = none := by
        rcases Nat.le_total xs.size ys.size with c | c
        · exact .inl (by rw [Nat.min_eq_left c]; simp)
        · exact .inr (by rw [Nat.min_eq_right c]; simp)
      rcases b1 with ⟨q, u, v, p⟩ | ⟨T, f, oT, q, p, m1, m2, m3, m4⟩
      · refine next_stop (R := fun h' => ∀ c o, c ≠ z → c ≠ TO → c ≠ i1 → c ≠ i2 → s1.heap.get? c = some o → h'.get? c = some o) hA ⟨_, q, rfl⟩ (fun A' E' Q' hh hr => first_end hh X1 X2 D q b2 p b4 b5 no fun h' e c es => hr h' e c es) fun h' c6 => ?_
        exact hq h' s1.toks fun c o hc e => c6 c o (fun y => hc (by simp [y])) (fun y => hc (by simp [y])) (fun y => hc (by simp [y])) (fun y => hc (by simp [y])) e
      · refine next_stop (R := fun h' => ∀ c o, c ≠ z → c ≠ i1 → c ≠ i2 → s1.heap.get? c = some o → h'.get? c = some o) hA ⟨_, q, rfl⟩ (fun A' E' Q' hh hr => held_end hh X1 X2 D q p b2 b4 b5 no fun h' e c es => hr h' e c es) fun h' c6 => ?_
        exact hq h' s1.toks fun c o hc e => c6 c o (fun y => hc (by simp [y])) (fun y => hc (by simp [y])) (fun y => hc (by simp [y])) e
end
end MixZ
set_option Elab.async false
set_option linter.all false
set_option maxRecDepth 100000
set_option maxHeartbeats 2000000
/-! dict(zip(xs, t)): xs a list of texts, t a tuple as long. -/
namespace L2
open PySem PySem.Spec PyProof.Rows
def zipK (zs : List Str) (ys : List V) : List (Key × V) := (zs.zip ys).map fun q => (Sum.inr q.1, q.2)
def tDictZip (K : PySem.W.Frag) (ta : TA) : TE := fun σ H Q => ta σ H fun vs H1 => ∃ (a b : Addr) (zs : List Str) (ys : List V), vs = [.ref a, .ref b] ∧ SqL K H1 a (zs.map V.str) ∧ SqT K H1 b ys ∧ zs.length = ys.length ∧
  ∀ p, H1 p = none → Q (.ref p) (upd H1 p (.dK (mergeK [] (zipK zs ys))))
theorem kv_zip : ∀ {zs : List Str} {ys : List V} {us ws : List Value}, Vals (zs.map V.str) us → Vals ys ws → zs.length = ys.length →
    KV (zipK zs ys) ((zs.zip ws).map fun q => ((Sum.inr q.1 : Key), q.2))
  | [], _, _, _, _, _, _ => .nil
  | z :: zs, y :: ys, _, _, .cons h1 t1, .cons h2 t2, hl => .cons ⟨rfl, h2⟩ (kv_zip t1 t2 (Nat.succ.inj hl))
  | _ :: _, [], _, _, _, _, hl => by cases hl
theorem dictZip_have {prog : Program} {w : World} {zs : List Str} {us ws : List Value} (h : Vals (zs.map V.str) us) (hl : zs.length = ws.length) :
    PairsHave (mixKind prog w) (min us.toArray.size ws.toArray.size) (fun i k v => us.toArray[i]? = some k ∧ ws.toArray[i]? = some v) ((zs.zip ws).map fun q => ((Sum.inr q.1 : Key), q.2)) := by
  have hu : us.length = zs.length := by have := h.length; rw [List.length_map] at this; exact this.symm
  refine ⟨by rw [List.length_map, List.length_zip]; simp [hu], fun i k v hr => ?_⟩
  have h1 : us[i]? = some k := by simpa using hr.1
  have h2 : ws[i]? = some v := by simpa using hr.2
  have iw := (List.getElem?_eq_some_iff.mp h2).1
  have iz : i < zs.length := by omega
  obtain ⟨u, hu1, hu2⟩ := h.get (i := i) (x := .str zs[i]) (by rw [List.getElem?_map, List.getElem?_eq_getElem iz]; rfl)
  rw [h1] at hu1
  cases hu1
  obtain ⟨t, rfl⟩ := hu2
  refine ⟨Sum.inr zs[i], ?_, ?_⟩
  · have e : (zs.zip ws)[i]? = some (zs[i], v) := List.getElem?_zip_eq_some.mpr ⟨List.getElem?_eq_getElem iz, h2⟩
    rw [List.getElem?_map, e]
    rfl
  · show keyIs (Sum.inr zs[i]) (.str zs[i] t) = true
    unfold keyIs
    simp [Value.isStrOf]
section
variable {X : Cx} {e e2 : Expr} {ta : TA} {p p2 pos pos2 : Pos}
theorem pe_dictZip (hc : X.calm = true) (ha : PA X [e, e2] ta) (hgd : Gl X "dict") (hmd : X.mg "dict" = none) (hvd : bootBuiltins "dict" = some (.type "dict")) (hgz : Gl X "zip") (hmz : X.mg "zip" = none)
    (hs : starEach [.Call (.Name "zip" p2) [e, e2] [] pos2] X.env = (false, eval (.Call (.Name "zip" p2) [e, e2] [] pos2) X.env) :: starEach [] X.env := by rfl)
    (hs2 : starEach [e, e2] X.env = (false, eval e X.env) :: starEach [e2] X.env := by rfl) (hpl : (backTo pos2 (starEach [e2] X.env)).any (·.1) = false := by rfl) :
    PE X (.Call (.Name "dict" p) [.Call (.Name "zip" p2) [e, e2] [] pos2] [] pos) (tDictZip X.K ta) := by
  refine ⟨fun pins s σ H Q I hq => ?_⟩
  refine wpAny_Call_Name_kw (ld_blt I hgd hmd hvd ?_)
  refine PyProof.Rows.callWith_type1 ?_ hs rfl
  rw [hs]
  show wpAny _ _ (spliced ((false, eval (.Call (.Name "zip" p2) [e, e2] [] pos2) X.env) :: backTo pos (starEach [] X.env))) _ _ s
  refine Calls.spliced_cons ?_
  refine wpAny_Call_Name_kw (ld_blt I hgz hmz PyProof.Rows.boot_zip (PyProof.Rows.callWith_type1 (thn (ha.run pos2 pins s σ H _ I hq) fun us s1 ⟨vs, H1, I1, r1, a, b, zs, ys, ex, hL, hT, hl, q⟩ => ?_) hs2 hpl))
  subst ex
  obtain ⟨u1, u2, rfl, ra, rb⟩ := vals2 r1
  cases ra
  cases rb
  obtain ⟨its, rv, pl, hzz⟩ := I1.list hL
  obtain ⟨its2, rv2, pt, _⟩ := I1.tuple hT
  obtain ⟨o2, ho2, _⟩ := id pt
  refine MixZ.call_mix pl.isList (show s1.heap.IsTuple b its2.toArray from pt) fun h' hz hTI hTO h1 h2 hsz hk => ?_
  refine Calls.spliced_nil ?_
  have la : a < s1.heap.objs.size := pl.lt
  have lb : b < s1.heap.objs.size := Heap.lt_size ho2
  have hle := rv2.length
  have hlu := rv.length
  rw [List.length_map] at hlu
  have hzl : min its.toArray.size its2.toArray.size ≤ sizeLine := by
    rw [List.length_map] at hzz
    refine Nat.le_trans (Nat.min_le_left _ _) ?_
    rw [List.size_toArray]
    omega
  have is1 : h'.IsList a its.toArray := let ⟨o, ho, r⟩ := pl.isList; ⟨o, hk _ _ ho, r⟩
  have is2 : h'.IsTuple b its2.toArray := let ⟨o, ho, r⟩ := (show s1.heap.IsTuple b its2.toArray from pt); ⟨o, hk _ _ ho, r⟩
  refine PySem.call_dict_pairs (knd := mixKind X.prog X.w) (kvs := (zs.zip its2).map fun q => ((Sum.inr q.1 : Key), q.2)) (MixZ.pairArg (MixZ.src_list (xs := its.toArray) (Nat.ne_of_lt la)) (MixZ.src_tup (xs := its2.toArray) (Nat.ne_of_lt (Nat.lt_succ_of_lt lb))) (PySem.W.ktu_apart s1.heap.objs.size a b la lb))
    (I1.ok.hd hc) ⟨hz, hTI, ⟨_, _, hTO⟩, ⟨h1, is1⟩, ⟨h2, is2⟩⟩ (dictZip_have rv (by omega)) hzl fun h2 tk hd hk2 => ?_
  have lz : (zipK zs ys).length = zs.length := by
    show (List.map _ _).length = _
    rw [List.length_map, List.length_zip, hl, Nat.min_self]
  rw [List.length_map] at hzz
  have hlen : (mergeK [] (zipK zs ys)).length ≤ sizeLine := by
    have := length_mergeK (zipK zs ys) []
    rw [List.length_nil] at this
    omega
  have hge : s1.heap.objs.size ≤ h'.objs.size := by rw [hsz]; exact Nat.le_add_right _ _
  have hm : (h'.objs.size == sysModules) = false := beq_eq_false_iff_ne.mpr (Nat.ne_of_gt (Nat.lt_of_lt_of_le I1.big hge))
  have old : ∀ c o, s1.heap.get? c = some o → h2.get? c = some o := fun c o e => by
    have lc := Heap.lt_size e
    refine hk2 c o (fun z => ?_) (hk c o e)
    have z' : c = s1.heap.objs.size + 4 ∨ c = s1.heap.objs.size + 3 ∨ c = s1.heap.objs.size ∨ c = s1.heap.objs.size + 1 := by simpa using z
    rcases z' with q | q | q | q
    rotate_left 2
    · rw [q] at lc
      exact absurd lc (Nat.lt_irrefl _)
    all_goals (rw [q] at lc; exact absurd lc (Nat.not_lt.mpr (Nat.le_add_right _ _)))
  exact ⟨.ref h'.objs.size, _, I1.laid (t' := tk) old hge (show ObjOk X.prog X.w _ _ _ (.dK (mergeK [] (zipK zs ys))) from ⟨hlen, hm, _, KV.merge (kv_zip rv rv2 hl) .nil, hd⟩), rfl, q _ (I1.hok.fresh hge)⟩
end
end L2
set_option Elab.async false
set_option linter.all false
set_option maxRecDepth 100000
set_option maxHeartbeats 1000000
/-! tuple(a list), the new tuple's object known to bear no names; dict(such a tuple of pairs); D.get(z, x) of a dict of the module. -/
namespace L2
open PySem PySem.Spec PyProof.Rows
/-- a tuple whose object bears no names of its own -/
def PlT (H : Hp) (a : Addr) (xs : List V) : Prop := ∃ o, H a = some (.frz o (.tup xs)) ∧ o.cls = .type "tuple" ∧ o.dict = none
theorem PlT.sq {K : PySem.W.Frag} {H : Hp} {a : Addr} {xs : List V} (h : PlT H a xs) : SqT K H a xs := let ⟨o, e, _⟩ := h; .inl (.inr ⟨o, e⟩)
theorem PlT.mono {H H' : Hp} {a : Addr} {xs : List V} (e : Same H H') (h : PlT H a xs) : PlT H' a xs := let ⟨o, z, r⟩ := h; ⟨o, e _ _ z, r⟩
section
variable {X : Cx}
theorem call_tupleP : CallR X (.type "tuple") (fun xs H Q => ∃ p ys, xs = [.ref p] ∧ SqL X.K H p ys ∧ ∀ l o, H l = none → o.cls = .type "tuple" → o.dict = none → Q (.ref l) (upd H l (.frz o (.tup ys)))) := by
  intro pins s σ H xs us Q I r h
  obtain ⟨p, ys, rfl, hq, q⟩ := h
  obtain ⟨u, rfl, rx⟩ := vals1 r
  cases rx
  obtain ⟨its, r', pl, hz⟩ := I.list hq
  have hlen := r'.length
  refine call_tuple_list pl.isList (fun h' kp => ?_) (by simp only [List.size_toArray] <;> omega)
  have I1 : Inv X pins σ H { s with heap := h' } := I.kept (t' := s.toks) kp
  have e : (h'.push { cls := .type "tuple", data := .seq its.toArray }).get? h'.objs.size = some { cls := .type "tuple", data := .seq its.toArray } := Heap.get?_push_size _ rfl
  have I2 : Inv X pins σ (upd H h'.objs.size (.frz { cls := .type "tuple", data := .seq its.toArray } (.tup ys))) { s with heap := h'.push { cls := .type "tuple", data := .seq its.toArray } } :=
    I1.laid (t' := s.toks) (fun b o e => Heap.get?_push_of_some _ e) (Nat.le_refl _) (show ObjOk X.prog X.w _ _ _ (.frz _ (.tup ys)) from ⟨e, hz, its, r', IsTup.new _ _⟩)
  exact ⟨.ref h'.objs.size, _, I2, rfl, q _ _ (I1.hok.fresh (Nat.le_refl _)) rfl rfl⟩
/-- dict(a tuple of pairs) -/
theorem call_dictT (hcalm : X.calm = true) : CallR X (.type "dict") (fun xs H Q => ∃ (a : Addr) (ps : List Addr) (kvs : List (Key × V)), xs = [.ref a] ∧ PlT H a (ps.map V.ref) ∧ Paired (fun p kv => SqT X.K H p [kV kv.1, kv.2]) ps kvs ∧
    ∀ p, H p = none → Q (.ref p) (upd H p (.dK (mergeK [] kvs)))) := by
  intro pins s σ H xs us Q I r q
  obtain ⟨a, ps, kvs, ex, ⟨o, ha, hc, hd⟩, hp, q⟩ := q
  subst ex
  obtain ⟨u, eu, rx⟩ := vals1 r
  subst eu
  cases rx
  have ok := I.hok _ _ ha
  obtain ⟨ho, hz, its, rv, o2, ho2, hc2, n, hdat⟩ := ok
  obtain rfl : o = o2 := Option.some.inj (ho.symm.trans ho2)
  have ei := refs_at rv
  subst ei
  rw [List.length_map] at hz
  obtain ⟨prs, rel, hl, hpr⟩ := pairs_of I hp
  have hex : ∀ j q, prs[j]? = some q → ∃ u, (ps.map Value.ref).toArray[j]? = some (.ref (ps.getD j 0)) ∧ IsTup s.heap (ps.getD j 0) #[u, q.2] ∧ keyIs q.1 u = true := fun j q e => by
    obtain ⟨b, u, e1, e2, e3⟩ := hpr j q e
    have eb : ps.getD j 0 = b := by rw [List.getD_eq_getElem?_getD, e1]; rfl
    exact ⟨u, by rw [eb]; simp [e1], by rw [eb]; exact e2, e3⟩
  obtain ⟨vks, hvl, hvk⟩ : ∃ vks : List (Value × Value), vks.length = prs.length ∧ ∀ j k v, vks[j]? = some (k, v) → ∃ q : Key × Value, prs[j]? = some q ∧ v = q.2 ∧ (ps.map Value.ref).toArray[j]? = some (.ref (ps.getD j 0)) ∧ IsTup s.heap (ps.getD j 0) #[k, v] ∧ keyIs q.1 k = true := by
    have key : ∀ m, m ≤ prs.length → ∃ vks : List (Value × Value), vks.length = m ∧ ∀ j k v, vks[j]? = some (k, v) → ∃ q : Key × Value, prs[j]? = some q ∧ v = q.2 ∧ (ps.map Value.ref).toArray[j]? = some (.ref (ps.getD j 0)) ∧ IsTup s.heap (ps.getD j 0) #[k, v] ∧ keyIs q.1 k = true := by
      intro m
      induction m with
      | zero => exact fun _ => ⟨[], rfl, fun j k v e => by simp at e⟩
      | succ m ih =>
        intro hm
        obtain ⟨vs, h1, h2⟩ := ih (by omega)
        have hlt : m < prs.length := by omega
        obtain ⟨u, e1, e2, e3⟩ := hex m prs[m] (List.getElem?_eq_getElem hlt)
        refine ⟨vs ++ [(u, prs[m].2)], by simp [h1], fun j k v e => ?_⟩
        by_cases hj : j < vs.length
        · rw [List.getElem?_append_left hj] at e
          exact h2 j k v e
        · rw [List.getElem?_append_right (by omega)] at e
          have hj0 : j - vs.length = 0 := by
            cases c : j - vs.length with
            | zero => rfl
            | succ i => rw [c] at e; simp at e
          have ej : j = m := by omega
          rw [hj0] at e
          have e' : (u, prs[m].2) = (k, v) := by simpa using e
          cases e'
          subst ej
          exact ⟨_, List.getElem?_eq_getElem hlt, rfl, e1, e2, e3⟩
    exact key prs.length (Nat.le_refl _)
  have hsize : (ps.map Value.ref).toArray.size = vks.length := by simp [hvl, hl]
  refine PySem.call_dict_pairs (knd := mixKind X.prog X.w) (kvs := prs) (PairArg.tuple a (ps.map Value.ref).toArray (fun j => ps.getD j 0) vks) (I.ok.hd hcalm)
    ⟨⟨o, n, ho, hc, hd, hdat⟩, hsize, fun j k v e => ?_⟩ ⟨hvl.symm, fun i k v e => ?_⟩ (by rw [hvl, hl]; exact hz) fun h' tk hd' k => ?_
  · obtain ⟨q, _, _, e1, e2, _⟩ := hvk j k v e
    exact ⟨e1, .inl e2⟩
  · obtain ⟨q, e0, ev, _, _, e3⟩ := hvk i k v e
    exact ⟨q.1, by rw [e0, ev], e3⟩
  · have hm : (s.heap.objs.size == sysModules) = false := beq_eq_false_iff_ne.mpr (Nat.ne_of_gt I.big)
    have hlen : (mergeK [] kvs).length ≤ sizeLine := by
      refine Nat.le_trans (length_mergeK kvs []) ?_
      rw [List.length_nil, Nat.zero_add, rel.length, hl]
      exact hz
    exact ⟨.ref s.heap.objs.size, upd H s.heap.objs.size (.dK (mergeK [] kvs)), I.laid (t' := tk) (fun b o e => k b o (by simp) e) (Nat.le_refl _) (show ObjOk X.prog X.w _ _ _ (.dK (mergeK [] kvs)) from ⟨hlen, hm, merged [] prs, KV.merge rel .nil, hd'⟩), rfl, q _ (I.hok.fresh (Nat.le_refl _))⟩
/-! ### D.get(z, x), D a dict of the module -/
def tKGet2 (K : PySem.W.Frag) (d : Addr) (td ty tx : TE) : TE := fun σ H Q => td σ H fun x H1 => x = .ref d ∧ ty σ H1 fun y H2 => ∃ z, y = .str z ∧ tx σ H2 fun v H3 =>
  (PySem.W.nsIn K d z = some none ∧ Q v H3) ∨ ∃ u0 v0, PySem.W.nsIn K d z = some (some u0) ∧ RelV v0 u0 ∧ Q v0 H3
theorem pe_kget2 {d : Addr} {es : Array DictEntry} {n : Nat} {o e f : Expr} {apos cpos : Pos} {td ty tx : TE} (D : KDict X.K X.w d es n) (ho : PE X o td) (he : PE X e ty) (hf : PE X f tx) (m : M2 X o "get" apos e f cpos) :
    PE X (.Call (.Attribute o "get" apos) [e, f] [] cpos) (tKGet2 X.K d td ty tx) := by
  refine ⟨fun pins s σ H Q I h => ?_⟩
  refine wpAny_Call_method m.base m.few m.line PySem.F.plainAttrs_dict PySem.F.slot_dict_get PySem.F.type_dict_get (thn (ho.run pins s σ H _ I h) fun u s1 ⟨x, H1, I1, rx, ex, q1⟩ => ?_)
  subst ex
  obtain rfl : u = Value.ref d := rx
  refine ⟨kd_type D I1, fun b q => ?_, ?_⟩
  · cases q
    exact ⟨_, I1.kIn _ _ D.at_, rfl⟩
  rw [m.trees]
  refine Calls.callWith_builtin rfl (Calls.evalArgs_plain (Calls.spliced_cons (thn (he.run pins s1 σ H1 _ I1 q1) fun iv s2 ⟨y, H2, I2, ry, z, ey, q2⟩ =>
    Calls.spliced_cons (thn (hf.run pins s2 σ H2 _ I2 q2) fun fv s3 ⟨v, H3, I3, rz, q3⟩ => Calls.spliced_nil ?_))))
  subst ey
  obtain ⟨t, rfl⟩ := ry
  have mo := PySem.W.mapOf_K (prog := X.prog) (w := X.w) I3.kIn D.at_ D.lit
  rcases q3 with ⟨hn, q3⟩ | ⟨u0, v0, hn, r0, q3⟩
  · refine call_meetsIn PySem.F.slot_dict_get mo.typeIs PySem.F.entry_dict_get (PySem.F.args_dict_get_3 _ _ _) (meets_dict_get_default (strKind X.prog X.w) d (PySem.strKind_is X.prog X.w z t) D.low fv) ⟨_, mo, ?_⟩
    rw [PySem.W.find_K D.at_ hn]
    exact ⟨v, H3, I3.tok _, rz, q3⟩
  · refine call_meetsIn PySem.F.slot_dict_get mo.typeIs PySem.F.entry_dict_get (PySem.F.args_dict_get_3 _ _ _) (meets_dict_get_default (strKind X.prog X.w) d (PySem.strKind_is X.prog X.w z t) D.low fv) ⟨_, mo, ?_⟩
    rw [PySem.W.find_K D.at_ hn]
    exact ⟨v0, H3, I3.tok _, r0, q3⟩
end
end L2
set_option Elab.async false
set_option linter.all false
set_option maxRecDepth 100000
set_option maxHeartbeats 1000000
/-! d.get(t, x): d a dict whose keys are texts, t a tuple. -/
namespace NoKeyT
open PySem
section
variable {prog : Program} {w : World} {A : Around} {E : Value → Shared → Prop} {s : Shared} {d a : Addr} {o : Obj} {es : Array DictEntry} {ep : Nat} {ks : List NestedKey}
theorem tells_not {stored : List Value} {Q : Bool → Shared → Prop} (hkey : NestedIs s.heap (.tup ks) (.ref a)) (hdp : (NestedKey.tup ks).depth ≤ 8) (hst : ∀ v ∈ stored, ∃ z t, v = Value.str z t) (h : Q false s) : wpAny (model prog w) A (tableMayTell (.ref a) stored) Q E s := by
  unfold tableMayTell
  split
  · exact wpAny_pure h
  · refine wpAny_bind (quiet_key _ _ 8 s hkey hdp A E _ ?_)
    simp only [Bool.not_true, Bool.false_eq_true, if_false]
    refine wpAny_bind ?_
    refine wpAny_forIn_list _ (fun rest r s' => s' = s ∧ r = (none, ()) ∧ ∀ v ∈ rest, ∃ z t, v = Value.str z t) _ ?_ ?_ _ _ ⟨rfl, rfl, hst⟩
    · rintro x rest r s' ⟨rfl, rfl, hr⟩
      obtain ⟨z, t, rfl⟩ := hr x List.mem_cons_self
      refine wpAny_bind (QuietAt.byValue (n := 8) (v := .str z t) rfl A E _ ?_)
      simp only [Bool.not_true, Bool.false_eq_true, if_false]
      exact wpAny_pure ⟨rfl, rfl, fun v hv => hr v (List.mem_cons_of_mem _ hv)⟩
    · rintro r s' ⟨rfl, rfl, _⟩
      exact wpAny_pure h
theorem find_not {h : Int} {Q : Option Nat → Shared → Prop} (hu : A.units + 8 < cLine) (hkey : NestedIs s.heap (.tup ks) (.ref a)) (hdp : (NestedKey.tup ks).depth ≤ 8) (ho : s.heap.get? d = some o) (hd : o.data = .dict es ep) (hstr : ∀ e ∈ es, ∃ z t, e.key = Value.str z t)
    (hq : Q none s) : wpAny (model prog w) A (dictFind d (.ref a) h) Q E s := by
  have hany : ¬ (es.any fun e => e.key == Value.ref a && e.hash != h) = true := by
    rw [← Array.any_toList, List.any_eq_true]
    rintro ⟨e, hin, hc⟩
    obtain ⟨z, t, hk⟩ := hstr e (Array.mem_toList_iff.mp hin)
    simp only [hk, Bool.and_eq_true, beq_iff_eq] at hc
    exact nomatch hc.1
  have hst : ∀ v ∈ (placesWithHash es.size (fun i => es[i]?.map (·.hash)) h).filterMap (fun i => es[i]?.map (·.key)), ∃ z t, v = Value.str z t := by
    intro v hv
    obtain ⟨i, _, hi⟩ := List.mem_filterMap.mp hv
    cases hei : es[i]? with
    | none => rw [hei] at hi; cases hi
    | some e =>
      rw [hei] at hi
      obtain rfl : e.key = v := by simpa using hi
      exact hstr e (Array.mem_of_getElem? hei)
  unfold dictFind
  try with_reducible refine wpAny_holding ?_
  refine wpAny_bind (wpAny_dictEntries ho hd ?_)
  dsimp only
  rw [if_neg (show ¬ ((Value.ref a :: (placesWithHash es.size (fun i => es[i]?.map (·.hash)) h).filterMap (fun i => es[i]?.map (·.key))).all carriedByValue) = true by simp [carriedByValue])]
  rw [if_neg hany]
  have hone : ¬ (((placesWithHash es.size (fun i => es[i]?.map (·.hash)) h).filterMap (fun i => es[i]?.map (·.key))) == [Value.ref a]) = true := by
    intro q
    have q' := eq_of_beq q
    obtain ⟨z, t, e⟩ := hst (.ref a) (by rw [q']; exact List.mem_singleton.mpr rfl)
    cases e
  rw [if_neg hone]
  refine wpAny_bind (tells_not hkey hdp hst ?_)
  rw [if_neg (by simp)]
  refine wpAny_bind ?_
  refine wpAny_forIn_list _ (fun rest b s' => s' = s ∧ b = (none, none)) _ ?_ ?_ _ _ ⟨rfl, rfl⟩
  · rintro x rest b s' ⟨rfl, rfl⟩
    cases hei : es[x]? with
    | none => exact wpAny_pure ⟨rfl, rfl⟩
    | some e =>
      obtain ⟨z, t, hk⟩ := hstr e (Array.mem_of_getElem? hei)
      dsimp only
      by_cases hh : (e.hash == h) = true
      · rw [if_pos hh]
        have eq1 := eqAt_key (prog := prog) (w := w) (.text z) (.tup ks) A s' (.str z t) (.ref a) (.text z t) hkey (by
          have : min (NestedKey.text z).depth (NestedKey.tup ks).depth = 0 := by simp [NestedKey.depth]
          omega)
        refine wpAny_bind (wpAny_dictEpoch ho hd (wpAny_bind ?_))
        rw [hk]
        refine eq1 _ _ ?_
        refine wpAny_bind (wpAny_dictEpoch ho hd ?_)
        show wpAny _ _ (if (ep != ep) = true then _ else _) _ E _
        rw [if_neg (by simp)]
        show wpAny _ _ (if (false = true) then _ else _) _ E _
        rw [if_neg (by simp)]
        refine wpAny_bind (wpAny_rule ?_)
        first | rw [if_neg (by simp)] | skip
        first
          | exact wpAny_pure ⟨rfl, rfl⟩
          | exact wpAny_bind (wpAny_pure (wpAny_pure ⟨rfl, rfl⟩))
      · rw [if_neg hh]
        exact wpAny_pure ⟨rfl, rfl⟩
  · rintro b s' ⟨rfl, rfl⟩
    exact wpAny_pure hq
end
end NoKeyT
namespace NoKeyT
open PySem
section
variable {prog : Program} {w : World} {A : Around} {E : Value → Shared → Prop} {s : Shared} {d a : Addr} {o : Obj} {es : Array DictEntry} {ep : Nat} {ks : List NestedKey}
theorem get_not {Q : Option Value → Shared → Prop} (hu : A.units + 8 < cLine) (hkey : NestedIs s.heap (.tup ks) (.ref a)) (hdp : (NestedKey.tup ks).depth ≤ 8) (ho : s.heap.get? d = some o) (hd : o.data = .dict es ep) (hstr : ∀ e ∈ es, ∃ z t, e.key = Value.str z t)
    (hq : Q none { s with toks := s.toks + (NestedKey.tup ks).draws }) : wpAny (model prog w) A (dictGet d (.ref a)) Q E s := by
  unfold dictGet
  try with_reducible refine wpAny_holding ?_
  refine wpAny_bind (pyHash_key _ _ _ _ _ hkey (by omega) (wpAny_bind (find_not (s := { s with toks := s.toks + (NestedKey.tup ks).draws }) hu hkey hdp ho hd hstr ?_)))
  exact wpAny_pure hq
theorem meets_get (hds : (d == sysModules) = false) (dflt : Value) :
    MeetsIn prog w (Builtin.«dict.get» ⟨[.ref d, .ref a, dflt], []⟩) (fun A R s => A.in1.units + 8 < cLine ∧ ∃ ks o es ep, NestedIs s.heap (.tup ks) (.ref a) ∧ (NestedKey.tup ks).depth ≤ 8 ∧ s.heap.get? d = some o ∧ o.data = .dict es ep ∧ (∀ e ∈ es, ∃ z t, e.key = Value.str z t) ∧
      R (.ok (.ret dflt)) { s with toks := s.toks + (NestedKey.tup ks).draws }) :=
  .of_wp fun A R s ⟨hu, ks, o, es, ep, hkey, hdp, ho, hd, hstr, h⟩ => by
    show wpAny _ _ (dictGet d (.ref a) >>= _) _ _ s
    refine wpAny_bind (get_not hu hkey hdp ho hd hstr ?_)
    show wpAny _ _ (Builtin.Dict.missed d (.ref a) >>= _) _ _ _
    exact wpAny_bind (wpAny_missed_other hds (wpAny_pure ⟨dflt, rfl, h⟩))
end
end NoKeyT
namespace L2
open PySem PySem.Spec PyProof.Rows
mutual
/-- data as a key -/
def nkD : PyData → NestedKey
  | .bool b => .num (if b = true then 1 else 0)
  | .int i => .num i
  | .str z => .text z
  | .tuple ds => .tup (nkL ds)
  | _ => .none
def nkL : List PyData → List NestedKey
  | [] => []
  | d :: ds => nkD d :: nkL ds
end
mutual
def keyD : PyData → Bool
  | .list _ => false
  | .dict _ => false
  | .tuple ds => keyL ds
  | _ => true
def keyL : List PyData → Bool
  | [] => true
  | d :: ds => keyD d && keyL ds
end
mutual
theorem nk_depth : ∀ d : PyData, (nkD d).depth ≤ d.depth
  | .none => by simp [nkD, NestedKey.depth]
  | .bool _ => by simp [nkD, NestedKey.depth]
  | .int _ => by simp [nkD, NestedKey.depth]
  | .str _ => by simp [nkD, NestedKey.depth]
  | .list _ => by simp [nkD, NestedKey.depth]
  | .dict _ => by simp [nkD, NestedKey.depth]
  | .tuple ds => by
    have := nkL_depth ds
    simp only [nkD, NestedKey.depth, PyData.depth]
    omega
theorem nkL_depth : ∀ ds : List PyData, NestedKey.depthAll (nkL ds) ≤ PyData.depthAll ds
  | [] => by simp [nkL, NestedKey.depthAll]
  | d :: ds => by
    have h1 := nk_depth d
    have h2 := nkL_depth ds
    simp only [nkL, NestedKey.depthAll, PyData.depthAll]
    omega
end
section
variable {X : Cx} {pins : List (Addr × Obj)} {σ : St} {H : Hp} {s : Shared}
mutual
theorem nk_is (I : Inv X pins σ H s) : ∀ (d : PyData) (v : V) (u : Value), keyD d = true → Dp X.K H v d → RelV v u → NestedIs s.heap (nkD d) u
  | .none, _, _, _, h, r => by cases h; cases r; exact .none
  | .bool b, _, _, _, h, r => by cases h; cases r; exact .bool rfl
  | .int i, _, _, _, h, r => by cases h; obtain ⟨t, rfl⟩ := r; exact .int i t
  | .str z, _, _, _, h, r => by cases h; obtain ⟨t, rfl⟩ := r; exact .text z t
  | .list _, _, _, k, _, _ => by simp [keyD] at k
  | .dict _, _, _, k, _, _ => by simp [keyD] at k
  | .tuple ds, _, _, k, h, r => by
    have k' : keyL ds = true := by simpa [keyD] using k
    cases h with
    | tup hq ha =>
      cases r
      obtain ⟨its, rv, ⟨o, ho, hc, n, hd⟩, _⟩ := I.tuple hq
      exact .tup ho hc hd (nk_all I ds _ _ k' ha rv)
theorem nk_all (I : Inv X pins σ H s) : ∀ (ds : List PyData) (vs : List V) (us : List Value), keyL ds = true → DpAll X.K H vs ds → Vals vs us → NestedAll s.heap (nkL ds) us
  | [], _, _, _, h, r => by cases h; cases r; exact .nil
  | d :: ds, _, _, k, h, r => by
    have k' : keyD d = true ∧ keyL ds = true := by simpa [keyL] using k
    cases h with
    | cons a b => cases r with
      | cons r1 r2 => exact .cons (nk_is I d _ _ k'.1 a r1) (nk_all I ds _ _ k'.2 b r2)
end
end
/-- d.get(y, x): y a text, or a tuple where no key is one -/
def tDGet2T (K : PySem.W.Frag) (td ty tx : TE) : TE := fun σ H Q => td σ H fun x H1 => ∃ a, x = .ref a ∧ IsD H1 a ∧ ty σ H1 fun y H2 => tx σ H2 fun z H3 => (∃ o, DGet H3 a y o ∧ Q (o.getD z) H3) ∨
  ∃ kvs b ds, y = .ref b ∧ Rd H3 a (.dK kvs) ∧ (∀ p ∈ kvs, ∃ z, p.1 = Sum.inr z) ∧ Dp K H3 y (.tuple ds) ∧ keyL ds = true ∧ (PyData.tuple ds).depth ≤ 8 ∧ Q z H3
section
variable {X : Cx} {o e f : Expr} {apos cpos : Pos} {td ty tx : TE}
theorem strs_of : ∀ {kvs : List (Key × V)} {vs : List (Key × Value)} {es : List DictEntry}, (∀ p ∈ kvs, ∃ z, p.1 = Sum.inr z) → KV kvs vs → Pairs (mixKind X.prog X.w) es vs → ∀ e ∈ es, ∃ z t, e.key = Value.str z t := by
  intro kvs vs es hk r
  induction r generalizing es with
  | nil => intro hp e he; cases hp; cases he
  | @cons p q ps qs h t ih =>
    intro hp e he
    cases hp with
    | cons h1 h2 h3 =>
      rcases List.mem_cons.mp he with rfl | he
      · obtain ⟨z, hz⟩ := hk p (List.mem_cons_self ..)
        have h1 : keyIs q.1 e.key = true := h1
        rw [← h.1, hz] at h1
        obtain ⟨t, e⟩ := Value.isStrOf_shape h1
        exact ⟨z, t, e⟩
      · exact ih (fun p' hp' => hk p' (List.mem_cons_of_mem _ hp')) h3 e he
theorem pe_dget2T (hu : X.A.units + 10 < cLine) (ho : PE X o td) (he : PE X e ty) (hf : PE X f tx) (m : M2 X o "get" apos e f cpos) : PE X (.Call (.Attribute o "get" apos) [e, f] [] cpos) (tDGet2T X.K td ty tx) := by
  refine ⟨fun pins s σ H Q I h => ?_⟩
  refine wpAny_Call_method m.base m.few m.line PySem.F.plainAttrs_dict PySem.F.slot_dict_get PySem.F.type_dict_get (thn (ho.run pins s σ H _ I h) fun u s1 ⟨x, H1, I1, rx, a, ex, d, q1⟩ => ?_)
  subst ex
  obtain rfl : u = Value.ref a := rx
  obtain ⟨t1, t2, _⟩ := isD_at I1 d
  refine ⟨t1, t2, ?_⟩
  rw [m.trees]
  refine Calls.callWith_builtin rfl (Calls.evalArgs_plain (Calls.spliced_cons (thn (he.run pins s1 σ H1 _ I1 q1) fun iv s2 ⟨y, H2, I2, ry, q2⟩ =>
    Calls.spliced_cons (thn (hf.run pins s2 σ H2 _ I2 q2) fun fv s3 ⟨z, H3, I3, rz, q3⟩ => Calls.spliced_nil ?_))))
  rcases q3 with ⟨ov, g, q3⟩ | ⟨kvs, b, ds, rfl, hr, hs, hd, hk, hdp, q3⟩
  · exact d_get2 (by omega) I3 g ry rz fun w' s4 I4 rw' => ⟨_, H3, I4, rw', q3⟩
  · cases ry
    obtain ⟨_, hm, vs, rel, dd⟩ := dk_rd I3.hok hr
    have nk := nk_is I3 (.tuple ds) _ _ (by simpa [keyD] using hk) hd rfl
    have ndp := nk_depth (.tuple ds)
    have tyd := dd.typeIs
    obtain ⟨ob, es, ep, hob, hex, hdat, _, hps, _⟩ := dd
    refine call_meetsIn PySem.F.slot_dict_get tyd PySem.F.entry_dict_get (PySem.F.args_dict_get_3 _ _ _) (NoKeyT.meets_get hm fv) ⟨?_, nkL ds, ob, es, ep, nk, Nat.le_trans ndp hdp, hob, hdat, ?_, ⟨z, H3, I3.tok _, rz, q3⟩⟩
    · show X.A.units + 1 + 8 < cLine
      omega
    · intro e he
      exact strs_of hs rel hps e (Array.mem_toList_iff.mpr he)
end
end L2
set_option Elab.async false
set_option linter.all false
set_option maxRecDepth 100000
set_option maxHeartbeats 1000000
/-! sorted(xs): xs a list or a tuple of tuples that begin with texts, no two with one text. -/
namespace SrtN
open PySem PyProof.Rows SrtO
section
variable {prog : Program} {w : World} {A : Around} {E : Value → Shared → Prop} {s : Shared}
/-- v is a tuple whose first is the text z -/
def Hd (h : Heap) (v : Value) (z : PySem.Str) : Prop := ∃ a o t rest n, v = .ref a ∧ h.get? a = some o ∧ o.cls = .type "tuple" ∧ o.data = .seq (List.toArray (.str z t :: rest)) n
theorem Hd.keeps {h h' : Heap} {v : Value} {z : PySem.Str} (p : Hd h v z) (k : ∀ b o, h.get? b = some o → o.cls = .type "tuple" → h'.get? b = some o) : Hd h' v z := by
  obtain ⟨a, o, t, rest, n, e, ho, hc, hd⟩ := p
  exact ⟨a, o, t, rest, n, e, k _ _ ho hc, hc, hd⟩
abbrev byN (k : Value → PySem.Str) (v u : Value) : Bool := decide ((k v).cps.toList < (k u).cps.toList)
theorem swo_byN (k : Value → PySem.Str) : Swo (byN k) := by
  refine ⟨fun x y h => ?_, fun x y z h1 h2 => ?_⟩
  · have a := of_decide_eq_true h
    exact decide_eq_false (fun b => List.lt_asymm a b)
  · have a := of_decide_eq_false h1
    have b := of_decide_eq_false h2
    refine decide_eq_false fun c => ?_
    rw [List.not_lt] at a b
    exact absurd (List.le_trans a b) (List.not_le.mpr c)
theorem cmpN {vs : List Value} {k : Value → PySem.Str} (hp : ∀ v ∈ vs, Hd s.heap v (k v)) (hu : ∀ v ∈ vs, ∀ u ∈ vs, k v = k u → v = u) : Cmp prog w A s (tuples' true) (fun p => p.1 ∈ vs) (lt2 (byN k)) := by
  intro p q hm hm'
  show wpAny (model prog w) A (keyLt' (tuples' true) p.1 q.1) (fun r s' => s' = s ∧ r = decide ((k p.1).cps.toList < (k q.1).cps.toList)) (fun _ _ => False) s
  have h1 := hp _ hm
  have h2 := hp _ hm'
  have hu' := hu _ hm _ hm'
  generalize k p.1 = x at *
  generalize k q.1 = y at *
  obtain ⟨a, o, t, r1, n, e, ho, hc, hd⟩ := h1
  obtain ⟨a', o', t', r2, n', e', ho', hc', hd'⟩ := h2
  rw [e, e'] at hu' ⊢
  refine PySem.W.kat_lt ho hd ho' hd' ?_
  show PySem.W.KatLex prog w A true (decide (_ < _)) _ ((.str x t, .str y t') :: r1.zip r2) 0 s
  refine PySem.W.kat_cons (SeqAt.EqAt.str_str x t y t' prog w _ _ ?_)
  refine PySem.W.kat_go (fun e1 => ?_) (fun e1 => ?_)
  · have exy : x = y := by simpa using e1
    obtain rfl : a = a' := Value.ref.inj (hu' exy)
    obtain rfl : o = o' := Option.some.inj (ho.symm.trans ho')
    rw [hd] at hd'
    injection hd' with hd1 hd2
    have hl : Value.str x t :: r1 = Value.str y t' :: r2 := by simpa using congrArg Array.toList hd1
    injection hl with _ hr
    subst hr
    subst exy
    have hf : decide (x.cps.toList < x.cps.toList) = false := decide_eq_false (List.lt_irrefl _)
    have go : ∀ (l : List Value) (i : Nat), PySem.W.KatLex prog w A true (decide ((List.toArray (Value.str x t :: r1)).size < (List.toArray (Value.str x t' :: r1)).size)) (fun r s' => s' = s ∧ r = decide (x.cps.toList < x.cps.toList)) (l.zip l) i s := by
      intro l
      induction l with
      | nil =>
        intro i
        refine PySem.W.kat_nil ⟨rfl, ?_⟩
        rw [hf]
        exact decide_eq_false (by simp)
      | cons y ys ih =>
        intro i
        refine PySem.W.kat_cons (SeqAt.EqAt.same y prog w _ _ ?_)
        exact PySem.W.kat_yes (ih (i + 1))
    exact PySem.W.kat_yes (go r1 1)
  · exact PySem.W.kat_no (oneLt_str ⟨rfl, rfl⟩)
theorem heads {h : Heap} {k : Value → PySem.Str} : ∀ {vs : List Value}, (∀ v ∈ vs, Hd h v (k v)) → ∃ fs : List Value, PySem.W.KatTups h vs fs ∧ fs.length = vs.length ∧ ∀ f ∈ fs, ∃ x t, f = Value.str x t
  | [], _ => ⟨[], PySem.W.KatTups.nil, rfl, fun _ hm => by simp at hm⟩
  | v :: vs, hp => by
    obtain ⟨fs, h1, h2, h3⟩ := heads (vs := vs) fun v' hm => hp v' (List.mem_cons_of_mem _ hm)
    obtain ⟨a, o, t, rest, n, e, ho, hc, hd⟩ := hp v (List.mem_cons_self ..)
    rw [e]
    refine ⟨.str (k v) t :: fs, PySem.W.KatTups.cons ho hc hd (by simp) h1, by simp [h2], fun f hm => ?_⟩
    rcases List.mem_cons.mp hm with rfl | hm
    · exact ⟨_, t, rfl⟩
    · exact h3 f hm
theorem sortableN {a : Addr} {vs : List Value} {k : Value → PySem.Str} (h0 : 0 < vs.length) (hp : ∀ v ∈ vs, Hd s.heap v (k v)) (hu : ∀ v ∈ vs, ∀ u ∈ vs, k v = k u → v = u) (ha : ∀ o, s.heap.get? a = some o → o.cls ≠ .type "tuple") : SortableO prog w A s a vs (byN k) := by
  intro h' keep
  have hp' : ∀ v ∈ vs, Hd h' v (k v) := fun v hm => (hp v hm).keeps fun b o e c => keep b o (fun z => by subst z; exact ha o e c) e
  obtain ⟨fs, h1, h2, h3⟩ := heads hp'
  refine ⟨tuples' true, fun Q E hq => ?_, cmpN hp' hu⟩
  refine PySem.W.kat_kind (T := .type "str") h1 (by omega) (fun f hm => ?_) (by rfl) ?_
  · obtain ⟨x, t, rfl⟩ := h3 f hm
    exact PySem.W.Looks.now
  · have e : (Value.type "str" != Value.type "tuple") = true := by first | decide +kernel | rfl | decide
    rw [e]
    exact hq
/-- what iterating a list or a tuple collects -/
theorem gather {l : Addr} {vs : List Value} {T : String} (hT : T = "list" ∨ T = "tuple") {Q : List Value → Shared → Prop} (hl : ∃ o n, s.heap.get? l = some o ∧ o.cls = .type T ∧ o.data = .seq vs.toArray n)
    (h : Q vs { s with heap := (s.heap.push (seqObj "list" #[] 0)).update s.heap.objs.size (Obj.mapSeq (· ++ vs.toArray)) }) (hz : vs.length ≤ sizeLine) : wpAny (model prog w) A (collect (.ref l)) Q E s := by
  obtain ⟨o, n, ho, hc, hd⟩ := hl
  rcases hT with rfl | rfl
  · exact collect_list ⟨o, ho, hc, n, hd⟩ h hz
  · unfold collect
    refine wpAny_bind (wpAny_runValue (codeAny_builtin entry_proto_collect' ?_))
    show wpAny _ _ (do again (.builtin "list.__iadd__" ⟨[← newList [], .ref l], []⟩)) _ _ s
    refine wpAny_bind (wpAny_newList (wpAny_pure ⟨Code.quiet_builtin _ (by decide +kernel), codeAny_builtin entry_list_iadd' ?_⟩))
    show wpAny _ _ (Builtin.List.listExtendWith (.ref s.heap.objs.size) (.ref l) (.ref s.heap.objs.size)) _ _ { s with heap := s.heap.push (seqObj "list" #[] 0) }
    unfold Builtin.List.listExtendWith
    have old : (s.heap.push (seqObj "list" #[] 0)).get? l = some o := Heap.get?_push_of_some _ ho
    refine wpAny_bind (wpAny_typeOf (T := "tuple") ⟨o, old, hc⟩ ?_)
    rw [if_pos (by simp)]
    refine wpAny_bind (listItems_at old hd ?_)
    refine wpAny_bind (listItems_at (xs := #[]) (n := 0) (Heap.get?_push_size _ rfl) rfl ?_)
    rw [if_neg (by simp)]
    refine wpAny_bind (listUpdate_at (xs := #[]) (n := 0) (Heap.get?_push_size _ rfl) rfl ?_ (Nat.zero_le _) (by show (#[] ++ vs.toArray).size ≤ sizeLine + 1; simp only [Array.size_append, List.size_toArray, List.length_nil]; omega))
    refine wpAny_pure ?_
    show wpAny (model prog w) A (do
        let o ← load s.heap.objs.size
        match o.data with
        | .seq xs _ => pure xs.toList
        | _ => unsupported "internal:collect") Q E { s with heap := (s.heap.push (seqObj "list" #[] 0)).update s.heap.objs.size (Obj.mapSeq (· ++ vs.toArray)) }
    refine wpAny_bind (wpAny_load (get?_update_seq (Heap.get?_push_size _ rfl) _) ?_)
    show wpAny _ _ (pure ((#[] : Array Value) ++ vs.toArray).toList) Q E _
    rw [show ((#[] : Array Value) ++ vs.toArray).toList = vs by simp]
    exact wpAny_pure h
end
end SrtN
namespace SrtN
open PySem PyProof.Rows SrtO
section
variable {prog : Program} {w : World} {A : Around} {E : Value → Shared → Prop} {s : Shared}
/-- sorted of such a list or tuple -/
theorem sortedN {l : Addr} {vs : List Value} {T : String} (hT : T = "list" ∨ T = "tuple") {k : Value → PySem.Str} {Q : Value → Shared → Prop} (hl : ∃ o n, s.heap.get? l = some o ∧ o.cls = .type T ∧ o.data = .seq vs.toArray n) (hz : vs.length ≤ sizeLine)
    (hp : ∀ v ∈ vs, Hd s.heap v (k v)) (hu : ∀ v ∈ vs, ∀ u ∈ vs, k v = k u → v = u)
    (h : ∀ (h' : Heap) (d : Addr) (out : List Value), Srtd (byN k) out → Stb (byN k) out vs → (∀ b o, s.heap.get? b = some o → h'.get? b = some o) → s.heap.objs.size ≤ d → (∃ n, h'.get? d = some (seqObj "list" out.toArray n)) → Q (.ref d) { s with heap := h' }) :
    wpAny (model prog w) A (call (.builtin "sorted") [.ref l]) Q E s := by
  have fin : ∀ out : List Value, Srtd (byN k) out → Stb (byN k) out vs → Q (.ref (s.heap.objs.size + 1)) { s with heap := sortedAll s.heap vs out.toArray } := fun out hs hb =>
    h _ _ out hs hb (fun b o e => sortedAll_old e) (Nat.le_succ _) (sortedAll_at s.heap vs out.toArray)
  refine Calls.call_function_entry kind_sorted plain_sorted entry_sorted (args_sorted1 _) ?_
  unfold Builtin.«sorted»
  refine wpAny_bind (m := checkCount "sorted" 1 1 _) (wpAny_pure ?_)
  refine wpAny_bind (gather hT hl (wpAny_bind (wpAny_newList ?_ hz)) hz)
  have size1 : ((s.heap.push (seqObj "list" #[] 0)).update s.heap.objs.size (Obj.mapSeq (· ++ vs.toArray))).objs.size = s.heap.objs.size + 1 := by
    rw [Heap.size_update, size_push']
  generalize hg : (s.heap.push (seqObj "list" #[] 0)).update s.heap.objs.size (Obj.mapSeq (· ++ vs.toArray)) = g at *
  have at1 : (g.push (seqObj "list" vs.toArray 0)).get? (s.heap.objs.size + 1) = some (seqObj "list" vs.toArray 0) := by
    rw [← size1]
    exact Heap.get?_push_size _ rfl
  have keep : ∀ b o, s.heap.get? b = some o → b ≠ s.heap.objs.size + 1 ∧ (g.push (seqObj "list" vs.toArray 0)).get? b = some o := fun b o q => by
    have lt := Heap.lt_size q
    refine ⟨Nat.ne_of_lt (Nat.lt_succ_of_lt lt), Heap.get?_push_of_some _ ?_⟩
    rw [← hg, Heap.get?_update_ne _ _ _ _ (Nat.ne_of_lt lt)]
    exact Heap.get?_push_of_some _ q
  show wpAny _ _ _ _ _ { s with heap := g.push (seqObj "list" vs.toArray 0) }
  rw [size1]
  refine wpAny_bind (wpAny_holding (wpAny_call_entry slot_list_sort ⟨_, at1, rfl⟩ entry_list_sort (list_sort_ord (swo_byN k) at1 hz (fun h2 => ?_) fun out hs hb => ⟨_, rfl, ?_⟩) (args_list_sort _)))
  · refine sortableN (by omega) (fun v hm => (hp v hm).keeps fun b o e _ => (keep b o e).2) hu fun o e => ?_
    have e' : some o = some (seqObj "list" vs.toArray 0) := e.symm.trans at1
    cases e'
    intro c
    exact absurd (Value.type.inj c) (by decide)
  · refine wpAny_pure ⟨_, rfl, ?_⟩
    have z := fin out hs hb
    unfold sortedAll at z
    rw [hg] at z
    exact z
end
end SrtN
namespace L2
open PySem PySem.Spec PyProof.Rows
/-- sorted(xs): tuples that begin with texts, no two with one text: a new list of them by these texts -/
def rSortedN (K : PySem.W.Frag) : List V → Hp → VK → Prop := fun vs H Q => ∃ (a : Addr) (xs : List V) (k : V → Str), vs = [V.ref a] ∧ (SqL K H a xs ∨ SqT K H a xs) ∧ (∀ x ∈ xs, ∃ t rest, x = V.ref t ∧ SqT K H t (.str (k x) :: rest)) ∧
  (∀ x ∈ xs, ∀ y ∈ xs, k x = k y → x = y) ∧ ∀ ys p, ys.Perm xs → ys.Pairwise (fun x y => ¬ (k y).cps.toList < (k x).cps.toList) → H p = none → Q (.ref p) (upd H p (.lst ys))
section
variable {X : Cx}
theorem cr_sortedN : CallR X (.builtin "sorted") (rSortedN X.K) := by
  intro pins s σ H vs us Q I r h
  obtain ⟨a, xs, k, rfl, hs, hx, hu, q⟩ := h
  obtain ⟨T, its, hT, rv, hl, hz⟩ : ∃ (T : String) (its : List Value), (T = "list" ∨ T = "tuple") ∧ Vals xs its ∧ (∃ o n, s.heap.get? a = some o ∧ o.cls = .type T ∧ o.data = .seq its.toArray n) ∧ xs.length ≤ sizeLine := by
    rcases hs with hs | hs
    · obtain ⟨its, rv, ⟨o, n, ho, hc, _, hd⟩, hz⟩ := I.list hs
      exact ⟨"list", its, .inl rfl, rv, ⟨o, n, ho, hc, hd⟩, hz⟩
    · obtain ⟨its, rv, ⟨o, ho, hc, n, hd⟩, hz⟩ := I.tuple hs
      exact ⟨"tuple", its, .inr rfl, rv, ⟨o, n, ho, hc, hd⟩, hz⟩
  obtain ⟨u, rfl, ru⟩ := vals1 r
  obtain rfl : u = Value.ref a := ru
  obtain ⟨e1, e2⟩ := refs_back rv fun x m => by
    obtain ⟨t, _, e, _⟩ := hx x m
    exact ⟨t, e⟩
  have mem : ∀ v ∈ its, backV v ∈ xs := fun v hv => by
    rw [e1]
    exact List.mem_map.mpr ⟨_, hv, rfl⟩
  refine SrtN.sortedN hT (k := fun u => k (backV u)) hl (by rw [← rv.length]; exact hz) (fun v hv => ?_) (fun v hv y hy e => ?_) fun h' d out h1 h2 kp hd hn => ?_
  · obtain ⟨t, rfl⟩ := e2 v hv
    obtain ⟨t', rest, e, ht⟩ := hx _ (mem _ hv)
    cases e
    obtain ⟨its2, r2, ⟨o, ho, hc, n, hd⟩, _⟩ := I.tuple ht
    cases r2 with
    | cons r0 rr =>
      obtain ⟨t1, rfl⟩ := r0
      exact ⟨t, o, t1, _, n, rfl, ho, hc, hd⟩
  · obtain ⟨t, rfl⟩ := e2 v hv
    obtain ⟨t', rfl⟩ := e2 y hy
    have z := hu _ (mem _ hv) _ (mem _ hy) e
    cases z
    rfl
  · have h3 : ∀ u ∈ out, ∃ a, u = Value.ref a := fun u hu => e2 u (h2.perm.mem_iff.mp hu)
    obtain ⟨n, hn⟩ := hn
    have hp : (out.map backV).Perm xs := by
      rw [e1]
      exact h2.perm.map backV
    refine ⟨.ref d, upd H d (.lst (out.map backV)), I.laid (t' := s.toks) kp hd ⟨by rw [hp.length_eq]; exact hz, out, n, vals_back h3, hn⟩, rfl, q _ d hp ?_ (I.hok.fresh hd)⟩
    refine List.pairwise_map.mpr (List.Pairwise.imp (fun {x y} h => ?_) h1)
    exact of_decide_eq_false h
end
end L2
set_option Elab.async false
set_option linter.all false
set_option maxRecDepth 100000
set_option maxHeartbeats 4000000
namespace K31
open PySem PySem.Spec PyProof.Rows L2 KD
open C8 (Cal Def cal0 pe_c fnBody fnScope fnArgs)

def topS (i : Nat) : Stmt := PySem.Challenge.pw_changewhile_k31_kinds_of_terms.main.body.getD i (.Pass ⟨0, 0, 0, 0⟩)
/-- what the module's names hold that are no defs -/
structure Tp (mg : Str → Option Value) : Prop where
  n_isinstance : mg "isinstance" = none
  n_int : mg "int" = none
  n_tuple : mg "tuple" = none
  n_list : mg "list" = none
  n_dict : mg "dict" = none
  n_len : mg "len" = none
  n_range : mg "range" = none
  n_max : mg "max" = none
  n_min : mg "min" = none
  n_all : mg "all" = none
  n_zip : mg "zip" = none
  n_sorted : mg "sorted" = none

/-! ### the pot: two numbers -/
def Pt (H : Hp) (p : Addr) : Prop := ∃ x y : Int, H p = some (.lst [.int x, .int y]) ∧ 0 ≤ x ∧ 0 ≤ y ∧ y < 1099511627776
/-- all but the pot stays, and the pot stays one -/
def Go (p : Addr) (H H' : Hp) : Prop := But p H H' ∧ Pt H' p
theorem Pt.ne {H : Hp} {p q : Addr} (h : Pt H p) (hq : H q = none) : q ≠ p := fun e => by
  obtain ⟨x, y, a, _⟩ := h
  subst e
  rw [a] at hq
  cases hq
theorem Pt.same {H H' : Hp} {p : Addr} (h : Pt H p) (e : Same H H') : Pt H' p := let ⟨x, y, a, r⟩ := h; ⟨x, y, e _ _ a, r⟩
theorem Pt.new {H : Hp} {p q : Addr} {o : HO} (h : Pt H p) (hq : H q = none) : Pt (upd H q o) p := h.same (Same.new hq)
theorem Go.refl {p : Addr} {H : Hp} (h : Pt H p) : Go p H H := ⟨But.refl p H, h⟩
theorem Go.trans {p : Addr} {H H1 H2 : Hp} (a : Go p H H1) (b : Go p H1 H2) : Go p H H2 := ⟨a.1.trans b.1, b.2⟩
theorem Go.new {p q : Addr} {H H1 : Hp} {o : HO} (a : Go p H H1) (hq : H1 q = none) : Go p H (upd H1 q o) := ⟨a.1.trans (But.new hq), a.2.new hq⟩
theorem Go.same {p : Addr} {H H1 H2 : Hp} (a : Go p H H1) (e : Same H1 H2) : Go p H H2 := ⟨a.1.trans (But.same e), a.2.same e⟩
theorem Go.ne {p q : Addr} {H H1 : Hp} (a : Go p H H1) (hq : H1 q = none) : q ≠ p := a.2.ne hq
theorem Go.put {p : Addr} {H H1 : Hp} {x y : Int} (a : But p H H1) (h0 : 0 ≤ x) (h1 : 0 ≤ y) (h2 : y < 1099511627776) : Go p H (upd H1 p (.lst [.int x, .int y])) := ⟨a.pot, x, y, upd_same, h0, h1, h2⟩
theorem Go.at {p b : Addr} {H H1 : Hp} {o : HO} (a : Go p H H1) (n : b ≠ p) (h : H b = some o) : H1 b = some o := a.1 b o n h
theorem Go.tups {p : Addr} {H H' : Hp} (hp : Pt H p) (g : Go p H H') : TupS H H' := fun b xs e => by
  obtain ⟨x, y, a, _⟩ := hp
  refine g.1 b _ (fun z => ?_) e
  rw [z, a] at e
  cases e
/-! ### arithmetic -/
theorem fmod_lo {a n : Int} (h : 0 < n) : 0 ≤ a.fmod n := by
  rw [Int.fmod_eq_emod_of_nonneg a (by omega)]
  exact Int.emod_nonneg a (by omega)
theorem fmod_hi {a n : Int} (h : 0 < n) : a.fmod n < n := by
  rw [Int.fmod_eq_emod_of_nonneg a (by omega)]
  exact Int.emod_lt_of_pos a h
theorem div_lo {a n : Int} (h : 0 < n) (ha : 0 ≤ a) : 0 ≤ a / n := Int.ediv_nonneg ha (by omega)
theorem small300 {n : Int} (h0 : 0 ≤ n) (h : n < 1000000) : n.natAbs < 2 ^ 300 := by
  have h1 : n.natAbs < 1000000 := by omega
  have h2 : (1000000 : Nat) ≤ 2 ^ 300 := Nat.le_trans (by decide : (1000000 : Nat) ≤ 2 ^ 20) (Nat.pow_le_pow_right (by decide) (by decide))
  exact Nat.lt_of_lt_of_le h1 h2
/-- one of a list, by an int within it -/
theorem pick {xs : List V} {r : Int} (h0 : 0 ≤ r) (h1 : r < (xs.length : Int)) : ∃ v ∈ xs, atI xs r = some v := by
  have e : r = (r.toNat : Int) := by omega
  have l : r.toNat < xs.length := by omega
  refine ⟨xs[r.toNat], List.getElem_mem l, ?_⟩
  have h : atI xs (r.toNat : Int) = some xs[r.toNat] := atI_nat (List.getElem?_eq_getElem l)
  rw [← e] at h
  exact h
theorem ne_new {H : Hp} {a b : Addr} {o : HO} (h : upd H a o b = none) : a ≠ b := fun z => by
  rw [← z, upd_same] at h
  cases h
theorem ne_some {H : Hp} {a b : Addr} {o : HO} (h : H a = some o) (hb : H b = none) : a ≠ b := fun z => by
  rw [z, hb] at h
  cases h
theorem ne_obj {H : Hp} {a b : Addr} {o o2 : HO} (h : H a = some o) (h2 : H b = some o2) (n : o ≠ o2) : a ≠ b := fun z => by
  rw [z, h2] at h
  exact n (Option.some.inj h).symm

section
variable {P : Program} {w : World} {K : PySem.W.Frag} {mg : Str → Option Value} {base : Heap}
/-! ### the drawing -/
abbrev sLTake : Stmt := topS 20
abbrev NLTake : List Str := ["_law_pot_here", "_law_many", "_law_digit"]
theorem scLTake : FnScope NLTake ["_law_pot_here", "_law_many"] (fnScope sLTake) := ⟨rfl, rfl, rfl, by decide +kernel, rfl, by decide +kernel, by decide +kernel⟩
def spTake : Sp := fun vs H Q _ => ∃ (p : Addr) (n : Int), vs = [.ref p, .int n] ∧ Pt H p ∧ 0 < n ∧ n.natAbs < 2 ^ 300 ∧ ∀ r H', 0 ≤ r → r < n → Go p H H' → Q (.int r) H'
theorem c_take {f : Addr} {fd : FuncData} (D : Def K mg "_law_take" sLTake f fd) (b : Binds K fd ["_law_pot_here", "_law_many"] []) : Cal P w K mg base 1 "_law_take" spTake [] := by
  refine cal0 D b .nil scLTake (fun vs H Q E h => ?_) (fun cdv A outer s H vs Q E hr h => ?_)
  · obtain ⟨p, n, rfl, _⟩ := h
    rfl
  · obtain ⟨p, n, rfl, ⟨x, y, hl, h0, h1, h2⟩, n0, n1, q⟩ := h
    have nd := scLTake.nd
    refine ⟨_, (pss_cons (ps_if (pt_cmpR op_gt (pe_ix ix_list (pv 0) pe_int (fun _ _ => rfl)) pe_int (nomark _))
      (pss_cons (ps_set (i := 2) nd rfl (.inl rfl) (pe_op op_modN (pe_ix ix_list (pv 0) pe_int (fun _ _ => rfl)) (pv 1)))
      (pss_cons (ps_asg (pe_op op_fdivW (pe_ix ix_list (pv 0) pe_int (fun _ _ => rfl)) (pv 1)) (pg_sub (pv 0) pe_int set_list))
      (pss_one (ps_ret (pv 2)))))
      pss_nil)
    (pss_cons (ps_asg (pe_op op_modN (pe_op op_add (pe_op op_mul (pe_ix ix_list (pv 0) pe_int (fun _ _ => rfl)) pe_int) pe_int) pe_int) (pg_sub (pv 0) pe_int set_list))
    (pss_one (ps_ret (pe_op op_modN (pe_op op_fdivW (pe_op op_modN (pe_op op_mul (pe_ix ix_list (pv 0) pe_int (fun _ _ => rfl)) (pe_ix ix_list (pv 0) pe_int (fun _ _ => rfl))) pe_int) pe_int) (pv 1)))))), ?_⟩
    refine ⟨_, rfl, _, _, _, _, rfl, rfl, SqL.of hl, atI_nat (j := 0) rfl, _, _, rfl, rfl, _, rfl, ite2 (fun e => ?_) (fun e => ?_)⟩
    · refine ⟨_, rfl, _, _, _, _, rfl, rfl, SqL.of hl, atI_nat (j := 0) rfl, _, rfl, _, _, rfl, rfl, (show n ≠ 0 by omega), ?_⟩
      refine ⟨_, rfl, _, _, _, _, rfl, rfl, SqL.of hl, atI_nat (j := 0) rfl, _, rfl, _, _, rfl, rfl, wide_div n0 n1 (by decide) (by decide), ?_⟩
      refine ⟨_, rfl, _, _, _, _, rfl, rfl, hl, rfl, ?_⟩
      refine ⟨_, rfl, ?_⟩
      exact q _ _ (fmod_lo n0) (fmod_hi n0) (Go.put (But.refl p H) (div_lo n0 h0) h1 h2)
    · refine ⟨_, rfl, _, _, _, _, rfl, rfl, SqL.of hl, atI_nat (j := 1) rfl, _, _, rfl, rfl, .inl ⟨by omega, by omega⟩, _, _, rfl, rfl, _, _, rfl, rfl, (by show (2147483629 : Int) ≠ 0; decide), ?_⟩
      refine ⟨_, rfl, _, _, _, _, rfl, rfl, hl, rfl, ?_⟩
      have b0 : 0 ≤ (y * 39373 + 7919).fmod 2147483629 := fmod_lo (by decide)
      have b1 : (y * 39373 + 7919).fmod 2147483629 < 2147483629 := fmod_hi (by decide)
      refine ⟨_, rfl, _, _, _, _, rfl, rfl, SqL.of upd_same, atI_nat (j := 1) rfl, _, rfl, _, _, _, _, rfl, rfl, SqL.of upd_same, atI_nat (j := 1) rfl, _, _, rfl, rfl, .inl ⟨by omega, by omega⟩, _, _, rfl, rfl, (by show (2147483563 : Int) ≠ 0; decide), _, _, rfl, rfl, wide_div (b := 64) (by decide) (by decide) (by decide) (by decide), _, rfl, _, _, rfl, rfl, (show n ≠ 0 by omega), ?_⟩
      exact q _ _ (fmod_lo n0) (fmod_hi n0) (Go.put (But.refl p H) h0 b0 (by omega))
abbrev sLPot : Stmt := topS 19
abbrev NLPot : List Str := ["_law_cell_here"]
theorem scLPot : FnScope NLPot ["_law_cell_here"] (fnScope sLPot) := ⟨rfl, rfl, rfl, by decide +kernel, rfl, by decide +kernel, by decide +kernel⟩
def spPot : Sp := fun vs H Q _ => ∃ (c : Int), vs = [.int c] ∧ ∀ p H', H p = none → Same H H' → Pt H' p → Q (.ref p) H'
theorem c_pot (T : Tp mg) {f : Addr} {fd : FuncData} (D : Def K mg "_law_pot" sLPot f fd) (b : Binds K fd ["_law_cell_here"] []) : Cal P w K mg base 1 "_law_pot" spPot [] := by
  refine cal0 D b .nil scLPot (fun vs H Q E h => ?_) (fun cdv A outer s H vs Q E hr h => ?_)
  · obtain ⟨c, rfl, _⟩ := h
    rfl
  · obtain ⟨c, rfl, q⟩ := h
    refine ⟨_, (pss_one (ps_ret (pe_lst (pa_cons (pe_op op_mul (pv 0) (pe_callTy call_int1 (by rfl) T.n_int (by decide +kernel) (pa_cons (pe_cmpR op_ge (pv 0) (pe_op op_pow pe_int pe_int) (nomark _)) pa_nil))) (pa_cons (pe_op op_modN (pe_op op_add (pe_op op_mul (pv 0) pe_int) pe_int) pe_int) pa_nil))))), ?_⟩
    refine ⟨_, rfl, _, rfl, _, _, rfl, rfl, (by show (0 : Int) ≤ 18 ∧ _; decide), _, _, rfl, rfl, .inr ⟨_, rfl, _, _, rfl, rfl, ?_, ?_⟩⟩
    · exact .inr ⟨by split <;> decide, by split <;> decide⟩
    · refine ⟨_, rfl, _, _, rfl, rfl, .inr ⟨by decide, by decide⟩, _, _, rfl, rfl, _, _, rfl, rfl, (by show (2147483647 : Int) ≠ 0; decide), (by show 2 ≤ sizeLine; decide), fun p hp => ?_⟩
      refine q p _ hp (Same.new hp) ⟨_, _, upd_same, ?_, fmod_lo (by decide), Int.lt_trans (fmod_hi (by decide)) (by decide)⟩
      by_cases c0 : (10 : Int) ^ (18 : Int).toNat ≤ c
      · rw [decide_eq_true c0]
        have e2 : (10 : Int) ^ (18 : Int).toNat = 1000000000000000000 := by decide
        show 0 ≤ c * 1
        omega
      · rw [decide_eq_false c0]
        show 0 ≤ c * 0
        omega
/-! ### a cell -/
abbrev sLNth : Stmt := topS 18
abbrev NLNth : List Str := ["_law_script", "_law_k"]
theorem scLNth : FnScope NLNth ["_law_script", "_law_k"] (fnScope sLNth) := ⟨rfl, rfl, rfl, by decide +kernel, rfl, by decide +kernel, by decide +kernel⟩
def spNth (K : PySem.W.Frag) : Sp := fun vs H Q _ => ∃ (a : Addr) (ns : List Int) (k : Nat), vs = [.ref a, .int k] ∧ SqL K H a (ns.map V.int) ∧ ∀ n, Q (.int n) H
theorem c_nth (T : Tp mg) {f : Addr} {fd : FuncData} (D : Def K mg "_law_cell" sLNth f fd) (b : Binds K fd ["_law_script", "_law_k"] []) : Cal P w K mg base 1 "_law_cell" (spNth K) [] := by
  refine cal0 D b .nil scLNth (fun vs H Q E h => ?_) (fun cdv A outer s H vs Q E hr h => ?_)
  · obtain ⟨a, ns, k, rfl, _⟩ := h
    rfl
  · obtain ⟨a, ns, k, rfl, hs, q⟩ := h
    refine ⟨_, (pss_one (ps_ret (pe_ifExp (pt_cmpR op_lt (pv 1) (pe_callB call_len_seq (by rfl) T.n_len (by decide +kernel) (pa_cons (pv 0) pa_nil)) (nomark _)) (pe_ix ix_list (pv 0) (pv 1) (fun _ _ => rfl)) pe_int))), ?_⟩
    refine ⟨_, rfl, _, rfl, _, _, rfl, .inl hs, _, _, rfl, rfl, _, rfl, ite2 (fun e => ?_) (fun e => ?_)⟩
    · have e1 : (k : Int) < ((ns.map V.int).length : Int) := of_decide_eq_true e
      have e2 : k < ns.length := by
        rw [List.length_map] at e1
        omega
      refine ⟨_, rfl, _, rfl, _, _, _, .int ns[k], rfl, rfl, hs, atI_nat (j := k) ?_, q _⟩
      rw [List.getElem?_map, List.getElem?_eq_getElem e2]
      rfl
    · exact q _
theorem iteT' {c : Bool} {A B : Prop} (e : c = true) (h : A) : if c = true then A else B := by
  subst e
  exact iteT h
theorem iteF' {c : Bool} {A B : Prop} (e : c = false) (h : B) : if c = true then A else B := by
  subst e
  exact iteF h
theorem cal_no {k : Nat} {x : Str} {st : Stmt} {f : Addr} {fd : FuncData} {ps : List Str} (sp : Sp) (h : ∀ vs H Q E, sp vs H Q E → False) (D : Def K mg x st f fd) (b : Binds K fd ps []) : Cal P w K mg base k x sp [] :=
  ⟨f, fd, ps, [], ⟨fun _ _ _ _ z => (h _ _ _ _ z).elim, fun _ _ _ _ _ _ _ _ _ _ _ _ _ z => (h _ _ _ _ z).elim⟩, D.mgf, D.kp, b, .nil⟩
theorem dec_vint {a b : Int} : decide (V.int a = V.int b) = decide (a = b) := by
  rw [Bool.eq_iff_iff, decide_eq_true_eq, decide_eq_true_eq]
  exact ⟨V.int.inj, congrArg _⟩
end
end K31
set_option Elab.async false
set_option linter.all false
set_option maxRecDepth 100000
set_option maxHeartbeats 2000000
/-! del xs[a:] -/
namespace L2
open PySem PySem.Spec PyProof.Rows
theorem sel_take {a : Nat} {sel : Nat → Bool} : ∀ (items : List Value) (m : Nat), (∀ k, m ≤ k → k < m + items.length → sel k = decide (a ≤ k)) → ((items.zipIdx m).filterMap fun q => if sel q.2 = true then none else some q.1) = items.take (a - m)
  | [], m, _ => by simp
  | x :: xs, m, h => by
    have ih := sel_take xs (m + 1) fun k h1 h2 => h k (by omega) (by rw [List.length_cons]; omega)
    rw [List.zipIdx_cons, List.filterMap_cons]
    dsimp only
    rw [h m (Nat.le_refl _) (by rw [List.length_cons]; omega)]
    by_cases e : a ≤ m
    · rw [decide_eq_true e, if_pos rfl]
      dsimp only
      rw [ih, show a - (m + 1) = 0 by omega, show a - m = 0 by omega]
      simp
    · rw [decide_eq_false e, if_neg Bool.false_ne_true]
      dsimp only
      rw [ih, show a - m = (a - (m + 1)) + 1 by omega]
      rfl
def selF (a n : Nat) (k : Nat) : Bool := if (1 : Int) > 0 then decide ((a : Int) ≤ (k : Int)) && decide ((k : Int) < (n : Int)) && ((k : Int) - (a : Int)) % 1 == 0 else decide ((n : Int) < (k : Int)) && decide ((k : Int) ≤ (a : Int)) && ((a : Int) - (k : Int)) % (-1) == 0
theorem selF_at {a n k : Nat} (hk : k < n) : selF a n k = decide (a ≤ k) := by
  unfold selF
  rw [if_pos (by decide)]
  have e1 : decide ((k : Int) < (n : Int)) = true := decide_eq_true (by omega)
  have e2 : (((k : Int) - (a : Int)) % 1 == 0) = true := by rw [Int.emod_one]; rfl
  rw [e1, e2, Bool.and_true, Bool.and_true]
  by_cases z : a ≤ k
  · rw [decide_eq_true z]
    exact decide_eq_true (by omega)
  · rw [decide_eq_false z]
    exact decide_eq_false (by omega)
section
variable {prog : Program} {w : World} {A : Around} {E : Value → Shared → Prop} {s : Shared}
theorem from_bounds {a n : Nat} (ha : a ≤ n) : sliceBounds (some (a : Int)) none none n = ((a : Int), (n : Int), 1) := by
  simp only [sliceBounds, Option.getD_none]
  have h1 : ¬ ((a : Int) < 0) := by omega
  simp only [h1, if_false, show (1 : Int) > 0 by decide, if_true]
  congr 1
  · omega
theorem delItem_from {l sl : Addr} {items : Array Value} {n : Nat} {vl : Value} {a : Nat} {Q : Unit → Shared → Prop} (e : s.heap.get? l = some { cls := .type "list", data := .seq items n }) (hs : s.heap.IsSliceOf sl vl .none .none) (pl : IsPart vl (some (a : Int)))
    (ha : a ≤ items.size) (hsz : items.size ≤ sizeLine) (h : ∀ F : Array Value → Array Value, F items = (items.toList.take a).toArray → Q () { s with heap := s.heap.update l (Obj.mapSeq F) }) :
    wpAny (model prog w) A (delItem (.ref l) (.ref sl)) Q E s := by
  have hl : s.heap.IsList l items := PySem.IsL.isList e
  obtain ⟨os, hos, hcs, hds⟩ := id hs
  have hTs : s.TypeIs (.ref sl) "slice" := ⟨os, hos, hcs⟩
  have hstep : ¬ ((rawPart none == rawInt 0) = true) := Bool.false_ne_true
  refine wpAny_delItem_slot hl.typeIs (by decide) F.slot_list_delitem (wpAny_call_entry F.slot_list_delitem hl.typeIs F.entry_list_delitem ?_ (F.args_list_delitem_2 _ _))
  show wpAny _ _ (Builtin.List.listSubscript? (.ref sl) >>= _) _ _ s
  refine wpAny_bind ?_
  unfold Builtin.List.listSubscript?
  refine wpAny_bind (wpAny_specialOf hTs slice_no_index ?_)
  simp only [Option.isNone_none, if_true]
  refine wpAny_pure ?_
  show wpAny _ _ (typeOf (.ref sl) >>= _) _ _ s
  refine wpAny_bind (wpAny_typeOf hTs ?_)
  first
    | rw [if_neg (by decide)]
    | refine PySem.W.KFB.if_not (by decide) ?_
  rw [listSliceParts_eq]
  refine wpAny_bind (wpAny_bind (wpAny_field hos hds (x := .none) rfl (wpAny_bind (wpAny_listPart .none ?_))))
  rw [if_neg hstep]
  refine wpAny_bind (wpAny_field hos hds (x := vl) rfl (wpAny_bind (wpAny_listPart pl ?_)))
  refine wpAny_bind (wpAny_field hos hds (x := .none) rfl (wpAny_bind (wpAny_listPart .none (wpAny_pure ?_))))
  unfold Builtin.List.listItems
  refine wpAny_bind (wpAny_bind (wpAny_seqItems e rfl (wpAny_pure ?_)))
  refine wpAny_bind (wpAny_of_eq ((sliceIndices_raw (some (a : Int)) none none items.size (by simp)).trans (congrArg (pure : Int × Int × Int → Sem (Int × Int × Int)) (from_bounds ha))) ?_)
  refine wpAny_bind (wpAny_rule ?_)
  have key : (items.toList.zipIdx.filterMap fun q => if selF a items.size q.2 = true then none else some q.1) = items.toList.take a :=
    sel_take (a := a) (sel := selF a items.size) items.toList 0 fun k _ hk => by
      rw [Array.length_toList] at hk
      exact selF_at (by omega)
  refine wpAny_bind (wpAny_updateSeq (hz := hsz) (_hz' := ?hz) e rfl ?_)
  case hz =>
    refine Nat.le_trans (m := items.size) ?_ (by omega)
    refine Nat.le_trans (Nat.le_of_eq (congrArg (fun l : List Value => l.toArray.size) key)) ?_
    show (items.toList.take a).toArray.size ≤ _
    rw [List.size_toArray, List.length_take, Array.length_toList]
    omega
  · refine wpAny_bind (wpAny_letGo ?_)
    exact wpAny_pure ⟨.none, rfl, h _ (congrArg List.toArray key)⟩
end
section
variable {X : Cx}
/-- del xs[a:], a a number within the list -/
def tDelFrom (to ti : TE) : TS := fun D σ H => to σ H fun x H1 => tPart ti σ H1 fun o H2 => ∃ (l : Addr) (xs : List V) (a : Nat), x = .ref l ∧ o = some (a : Int) ∧ H2 l = some (.lst xs) ∧ a ≤ xs.length ∧ D.nx σ (upd H2 l (.lst (xs.take a)))
theorem ps_delFrom {o i : Expr} {to ti : TE} {tpos p2 pos : Pos} (ho : PE X o to) (hi : PE X i ti) : PS X (.Delete [.Subscript o (.Slice (some i) none none p2) tpos] pos) (tDelFrom to ti) := by
  refine ⟨fun pins s σ H D I h => ?_⟩
  refine wpAny_Delete (wpAny_deleteEach_cons (wpAny_delete_Subscript (thn (ho.run pins s σ H _ I h) fun u s1 ⟨x, H1, I1, rx, q1⟩ => ?_)))
  refine wpAny_Slice (thn ((po_some (X := X) hi).run pins s1 σ H1 _ I1 q1) fun vl s2 ⟨o2, H2, I2, pl, q2⟩ => thn (po_none.run pins s2 σ H2 (fun o H3 => o = none ∧ H3 = H2) I2 ⟨rfl, rfl⟩) fun vu s3 ⟨u2, H3, I3, pu, eu, e3⟩ => ?_)
  · subst eu e3
    obtain ⟨l, xs, a, rfl, rfl, hH, ha, q⟩ := q2
    rw [evalPart_none]
    refine wpAny_pure ?_
    have I4 : Inv X pins σ H3 { s3 with heap := s3.heap.push { cls := .type "slice", data := .fields #[vl, vu, .none] } } := I3.kept (t' := s3.toks) fun b ob q => Heap.get?_push_of_some _ q
    obtain ⟨z, its, n, r, hl, e⟩ := I4.lstM hH
    cases (show u = Value.ref l from rx)
    cases pu
    refine delItem_from (a := a) e (Heap.IsSliceOf.new ..) pl (by rw [List.size_toArray, ← hl]; exact ha) (by rw [List.size_toArray, ← hl]; exact z) fun F hF => ?_
    refine wpAny_deleteEach_nil ⟨σ, _, I4.lset (its' := its.take a) (t' := s3.toks) hH e hF (r.take a) ?_, q⟩
    rw [List.length_take]
    omega
end
end L2
set_option Elab.async false
set_option linter.all false
set_option maxRecDepth 100000
set_option maxHeartbeats 2000000
/-! a lambda with parameters that keeps names of the def around, handed to a def and called there -/
namespace LamC
open PySem PySem.Spec PyProof.Rows L2 LamX NdefX
open C8 (Cal Def fnBody fnScope fnArgs)
/-- the object at f is the lambda F with the body b -/
def LamO (f : Addr) (F : NF) (b : Expr) : HO := .ext fun h => ∃ (pm ctv : Value), h.get? f = some (PySem.W.kla_obj F.name F.qual F.params b F.scope F.cl pm F.c ctv)
theorem lamO_ne {f : Addr} {F : NF} {b : Expr} (ps : Array Value) : LamO f F b ≠ .tbl ps := fun z => by
  unfold LamO at z
  cases z
theorem lamO_at {P : Program} {w : World} {H : Hp} {h : Heap} {f : Addr} {F : NF} {b : Expr} (hok : HOk P w H h) (e : H f = some (LamO f F b)) : ∃ (pm ctv : Value), h.get? f = some (PySem.W.kla_obj F.name F.qual F.params b F.scope F.cl pm F.c ctv) := by
  obtain ⟨z, _, _⟩ := hok f _ e
  exact z
section
variable {X : Cx} {pins : List (Addr × Obj)} {σ : L2.St} {H : Hp} {s : Shared}
theorem inv_lam {F : NF} {b : Expr} {t' : Nat} {pm ctv : Value} (I : Inv X pins σ H s) :
    Inv X pins σ (upd H s.heap.objs.size (LamO s.heap.objs.size F b)) { s with heap := s.heap.push (PySem.W.kla_obj F.name F.qual F.params b F.scope F.cl pm F.c ctv), toks := t' } := by
  refine I.laid (a := s.heap.objs.size) (fun b u e => Heap.get?_push_of_some _ e) (Nat.le_refl _) ?_
  have e : (s.heap.push (PySem.W.kla_obj F.name F.qual F.params b F.scope F.cl pm F.c ctv)).get? s.heap.objs.size = some (PySem.W.kla_obj F.name F.qual F.params b F.scope F.cl pm F.c ctv) := Heap.get?_push_size _ rfl
  exact ⟨⟨pm, ctv, e⟩, ⟨_, e⟩, fun h1 h2 ⟨p, t, z⟩ st => ⟨p, t, st _ z⟩⟩
/-- the lambda of this place, its code object at c' -/
abbrev lamF (X : Cx) (params : Arguments) (scope : Scope) (c' : Addr) : NF := ⟨"<lambda>", X.env.qual ++ "<lambda>", params, [], scope, cloFrom X.env.cells scope.names [], c'⟩
theorem lam_makeO {T : List (Addr × Str)} {c P : Addr} {params : Arguments} {body : Expr} {scope : Scope} {pos : Pos} {E : Value → Shared → Prop} {Q : Value → Shared → Prop} (I : Inv X pins σ H s) (TB : TabB X.base X.mg c P) (hcode : X.env.code = .ref c)
    (hm : (P, X.env.qual ++ "<lambda>") ∈ T) (hu : ∀ p ∈ T, p.1 = P → p.2 = X.env.qual ++ "<lambda>") (hT : Tabs T H) (hdef : defaultsOf params X.env = ([], [])) (hfree : ∀ y ∈ scope.names, y.2 = .free → ∃ c, X.env.cells.lookup y.1 = some c)
    (h : ∀ (f c' : Addr) (H1 : Hp) (s' : Shared), Inv X pins σ H1 s' → ExtN H H1 → (∀ b, H1 b = Option.none → H b = Option.none) → Tabs T H1 → H f = none → H1 f = some (LamO f (lamF X params scope c') body) → H1 c' = some (CodeO c' (X.env.qual ++ "<lambda>")) → Q (.ref f) s') :
    wpAny (model X.prog X.w) X.A (eval (.Lambda params body scope pos) X.env) Q E s := by
  obtain ⟨ps, hP, ht, ha⟩ := hT _ hm
  refine PySem.W.kla_eval hdef ?_
  have bP : s.heap.BuiltinsAt X.mg P := TB.bm.keeps I.bk
  have hP' : s.heap.get? P = some { cls := .none, data := .fields ps } := I.hok P _ hP
  cases hc : codeAmong pos ps.toList with
  | none =>
    refine PySem.W.kla_makeFunction (mg := X.mg) (c := c) (P := P) (ps := ps) (closure_ok hfree) I.ok.glob (I.mod.glob.keeps I.bk) hcode (TB.code.keeps I.bk) hP' ht hc TB.gP bP fun c' ctv h' tk hx hge hlt hrec htb => ?_
    obtain ⟨c2, oc, vs, t, e2, hoc, hd, hv⟩ := hrec
    cases e2
    have nC : H c' = none := I.hok.fresh hge
    have I1 := inv_table (t' := tk) (more := #[rawInt pos.line, rawInt pos.col, .ref c']) (h' := h') I hP (fun b o hb e => hx b o hb e) htb hge ⟨oc, vs, t, hoc, hd, hv⟩
    have hE : ExtN H (upd (upd H P (.tbl (ps ++ #[rawInt pos.line, rawInt pos.col, .ref c']))) c' (CodeO c' (X.env.qual ++ "<lambda>"))) := fun b o e n => by
      rw [upd_ne (ne_of_none e nC), upd_ne (fun z => n ps (Option.some.inj (e.symm.trans (by rw [z]; exact hP))))]
      exact e
    have eL : (ps ++ #[rawInt pos.line, rawInt pos.col, .ref c']).toList = ps.toList ++ [rawInt pos.line, rawInt pos.col, .ref c'] := by simp
    have T1 : Tabs T (upd (upd H P (.tbl (ps ++ #[rawInt pos.line, rawInt pos.col, .ref c']))) c' (CodeO c' (X.env.qual ++ "<lambda>"))) := fun p hp => by
      by_cases hb : p.1 = P
      · rw [hu p hp hb, hb]
        refine ⟨_, by rw [upd_ne (ne_of_none hP nC), upd_same], by rw [eL]; exact PySem.TriplesOk_snoc _ _ _ _ ht, fun p' cv hcv => ?_⟩
        rw [eL] at hcv
        rcases among_app _ ht hcv with z | z
        · obtain ⟨c0, e1, e2⟩ := ha p' cv z
          exact ⟨c0, e1, hE _ _ e2 codeO_ne⟩
        · exact ⟨c', z, upd_same⟩
      · obtain ⟨ps', a1, a2, a3⟩ := hT p hp
        refine ⟨ps', by rw [upd_ne (ne_of_none a1 nC), upd_ne hb]; exact a1, a2, fun p' cv hcv => ?_⟩
        obtain ⟨c0, e1, e2⟩ := a3 p' cv hcv
        exact ⟨c0, e1, hE _ _ e2 codeO_ne⟩
    have nF := I1.hok.fresh (Nat.le_refl _)
    have I2 := inv_lam (F := lamF X params scope c') (b := body) (t' := tk) (pm := (X.mg "__name__").getD .none) (ctv := ctv) I1
    refine h h'.objs.size c' _ _ I2 (fun b o e n => ?_) (fun b e => upd_none (upd_none (upd_none e))) (T1.ext fun b o e => ?_) (I.hok.fresh (Nat.le_trans hge (Nat.le_of_lt hlt))) upd_same ?_
    · have e1 := hE b o e n
      exact (upd_ne (ne_of_none e1 nF)).trans e1
    · exact (upd_ne (ne_of_none e nF)).trans e
    · exact (upd_ne (Nat.ne_of_lt hlt)).trans upd_same
  | some cv =>
    obtain ⟨c', e, hco⟩ := ha pos cv hc
    subst e
    refine PySem.W.kla_makeFunctionHit (mg := X.mg) (c := c) (P := P) (ps := ps) (closure_ok hfree) I.ok.glob (I.mod.glob.keeps I.bk) hcode (TB.code.keeps I.bk) hP' ht hc bP fun ctv h' tk hx hsz => ?_
    have I1 : Inv X pins σ H { s with heap := h', toks := tk } := I.kept hx
    have nF : H h'.objs.size = none := I1.hok.fresh (Nat.le_refl _)
    have I2 := inv_lam (F := lamF X params scope c') (b := body) (t' := tk) (pm := (X.mg "__name__").getD .none) (ctv := ctv) I1
    refine h h'.objs.size c' _ _ I2 (fun b o e n => ?_) (fun b e => upd_none e) (hT.ext fun b o e => ?_) nF upd_same ?_
    · exact (upd_ne (ne_of_none e nF)).trans e
    · exact (upd_ne (ne_of_none e nF)).trans e
    · exact (upd_ne (ne_of_none hco nF)).trans hco
/-- the reading of a lambda -/
def tLamO (T : List (Addr × Str)) (mk : Addr → NF) (b : Expr) : TE := fun _ H Q => Tabs T H ∧ ∀ (f c' : Addr) (H1 : Hp), ExtN H H1 → (∀ b, H1 b = Option.none → H b = Option.none) → Tabs T H1 → H f = none → H1 f = some (LamO f (mk c') b) → H1 c' = some (CodeO c' (mk c').qual) → Q (.ref f) H1
theorem pe_lam {T : List (Addr × Str)} {c P : Addr} {params : Arguments} {body : Expr} {scope : Scope} {pos : Pos} (TB : TabB X.base X.mg c P) (hcode : X.env.code = .ref c) (hm : (P, X.env.qual ++ "<lambda>") ∈ T) (hu : ∀ p ∈ T, p.1 = P → p.2 = X.env.qual ++ "<lambda>")
    (hdef : defaultsOf params X.env = ([], [])) (hfree : ∀ y ∈ scope.names, y.2 = .free → X.env.scope.names.lookup y.1 = some .cell ∨ X.env.scope.names.lookup y.1 = some .free) : PE X (.Lambda params body scope pos) (tLamO T (lamF X params scope) body) := by
  refine ⟨fun pins s σ H Q I h => ?_⟩
  obtain ⟨hT, h⟩ := h
  refine lam_makeO I TB hcode hm hu hT hdef (fun y hy e => (hfree y hy e).elim (fun z => I.ok.has _ (.inl z)) fun z => I.ok.has _ (.inr z)) fun f c' H1 s' I1 eN b1 T1 hn hf hc => ?_
  exact ⟨.ref f, H1, I1, rfl, h f c' H1 eN b1 T1 hn hf hc⟩
end
/-! ### its promise -/
structure LOk (P : Program) (w : World) (K : PySem.W.Frag) (mg : Str → Option Value) (base : Heap) (CX : CXT) (k : Nat) (f : Addr) (F : NF) (b : Expr) (ps fr : List Str) (sp : List (Option V) → Sp) : Prop where
  len : ∀ ws vs H Q E, sp ws vs H Q E → vs.length = ps.length
  run : ∀ (A : Around) (outer : List Env) (s : Shared) (H : Hp) (us : List Value) (vs : List V) (ws : List (Option V)) (Q : VK) (E : XK), Room k A → Env0 P w K mg base A outer s H → H f = some (LamO f F b) → H F.c = some (CodeO F.c F.qual) →
    CellsAt F.cl fr ws s.heap H → Vals vs us → sp ws vs H Q E → codeAny (model P w) A (.call (.ref f) ⟨us, []⟩) (CR CX outer P w H s Q E) s
section
variable {CX : CXT} {P : Program} {w : World} {K : PySem.W.Frag} {mg : Str → Option Value} {base : Heap} {N ps fr : List Str} {F : NF} {b : Expr} {f : Addr} {k j : Nat} {sp : List (Option V) → Sp}
theorem lok_of (S : NScope N ps fr F.scope) (hb : ∀ (pm ctv : Value) (us : List Value), us.length = ps.length → bindArgs (PySem.W.kla_fn F.name F.qual F.params b F.scope F.cl pm (.ref F.c) ctv) ⟨us, []⟩ = pure (ps.zip us)) (len : ∀ ws vs H Q E, sp ws vs H Q E → vs.length = ps.length)
    (hbody : ∀ (A : Around) (outer : List Env) (s : Shared) (H : Hp) (vs : List V) (ws : List (Option V)) (Q : VK) (E : XK), Room k (A.deeper (envF F f s.heap.objs.size)) → ws.length = fr.length → sp ws vs H Q E →
      ∃ t, PE (ncx CX P w K mg base N F f A outer s H E) b t ∧ t (startF N vs ws) H Q) : LOk P w K mg base CX (k + 1) f F b ps fr sp := by
  refine ⟨len, fun A outer s H us vs ws Q E hr e0 hf hc C r hsp => ?_⟩
  have hl := len _ _ _ _ _ hsp
  have lim : s.heap.NoLimit := e0.mod.nolimit.keeps fun b o e => (e0.bs b o e).1
  obtain ⟨pm, ctv, ho⟩ := lamO_at e0.hok hf
  refine PySem.W.kla_callFunE hr.depth ho rfl S.co S.gen rfl (codeO_at e0.hok hc) ?_
  rw [hb pm ctv us (by rw [← r.length]; exact hl)]
  refine wpAny_pure (wpAny_newFunctionEnv S.nocell (fun ⟨n, _⟩ hy => S.par n (List.of_mem_zip hy).1) (fun h₁ hns hsb => ⟨lim.fresh _ hsb, ?_⟩) S.kind)
  show codeAny _ _ (.expr b (envF F f s.heap.objs.size)) _ _
  have kp : ∀ b o, s.heap.get? b = some o → h₁.get? b = some o := fun b o e => hsb.extBut b o (Nat.ne_of_lt (Heap.lt_size e)) (Heap.get?_push_of_some _ e)
  obtain ⟨t, ht, hq⟩ := hbody A outer s H vs ws Q E (hr.deeper _) C.len hsp
  have I : Inv (ncx CX P w K mg base N F f A outer s H E) [] (startF N vs ws) H { s with heap := h₁, toks := s.toks + (ps.zip us).length } := inv_startN S hr.hd e0 hl r C hns kp
  refine PySem.W.kla_codeExpr (wpAny_mono (ht.run [] _ (startF N vs ws) H _ I hq) (fun v s' hs => ?_) fun e s' hs => hs)
  obtain ⟨w', H', J, rv, q⟩ := hs
  exact ⟨w', H', J.os, J.bare, J.base, J.hok, rv, q⟩
end
/-! ### called where it was handed to -/
section
variable {X : Cx} {CX : CXT} {cl : List (Str × Addr)} {ps fr : List Str} {ws : List (Option V)} {js : List Nat} {i j k : Nat} {x : Str} {f : Addr} {F : NF} {b : Expr} {sp : List (Option V) → Sp} {E : XK} {t : TA} {e : Expr} {es : List Expr} {p pos : Pos}
theorem cells_later {pins : List (Addr × Obj)} {σ : L2.St} {H : Hp} {s : Shared} (C : CellsAt cl fr ws X.s_0.heap X.H_0) (hx : ∀ c, c ∉ X.ex) (I : Inv X pins σ H s) : CellsAt cl fr ws s.heap H := by
  have kp : ∀ y c, cl.lookup y = some c → ∀ v, X.s_0.heap.IsCell c v → s.heap.IsCell c v := fun y c e v ⟨o, ho, hd⟩ => by
    obtain ⟨sl, q⟩ := I.base.any ho (C.all y c e).1 (hx c)
    exact ⟨_, q, hd⟩
  refine ⟨C.len, fun y c e => ?_, C.inj, fun i y e => ?_⟩
  · obtain ⟨n, v, z⟩ := C.all y c e
    refine ⟨?_, v, kp y c e v z⟩
    obtain ⟨o, ho, _⟩ := z
    exact I.base.free c o ho n (hx c)
  · obtain ⟨c, hc, hv⟩ := C.has i y e
    refine ⟨c, hc, fun v ev => ?_⟩
    obtain ⟨u, r, z⟩ := hv v ev
    exact ⟨u, r, kp y c hc _ z⟩
theorem lamAt_of {pins : List (Addr × Obj)} {σ : L2.St} {H : Hp} {s : Shared} (I : Inv X pins σ H s) (e : H f = some (LamO f F b)) : PySem.W.FnAt f s.heap := by
  obtain ⟨pm, ctv, ho⟩ := lamO_at I.hok e
  exact ⟨_, _, _, _, ho⟩
/-- x(..): the slot i holds the lambda at f -/
def tCallLam (i : Nat) (f : Addr) (F : NF) (b : Expr) (ws : List (Option V)) (sp : List (Option V) → Sp) (E : XK) (t : TA) : TE := fun σ H Q => σ[i]? = some (some (.ref f)) ∧ H f = some (LamO f F b) ∧ t σ H fun vs H1 => H1 f = some (LamO f F b) ∧ H1 F.c = some (CodeO F.c F.qual) ∧ sp ws vs H1 Q E
theorem pe_callLam (Fn : LOk X.prog X.w X.K X.mg X.base CX k f F b ps fr sp) (C0 : CellsAt F.cl fr ws X.s_0.heap X.H_0) (hex : ∀ c, c ∉ X.ex) (hr : Room j X.A) (hk : k ≤ j) (hx : Passes CX X E) (hN : X.N[i]? = some x) (hv : Vis X.env.scope x) (ha : PA X (e :: es) t)
    (hd : (x == ("__debug__" : Str)) = false := by decide) (hcd : (x == ("__classdict__" : Str)) = false := by decide)
    (he : starEach (e :: es) X.env = (false, eval e X.env) :: starEach es X.env := by rfl) (hpl : (backTo pos (starEach es X.env)).any (·.1) = false := by rfl) :
    PE X (.Call (.Name x p) (e :: es) [] pos) (tCallLam i f F b ws sp E t) := by
  refine ⟨fun pins s σ H Q I h => ?_⟩
  obtain ⟨hs, hf, ht⟩ := h
  refine wpAny_Call_Name_kw (thn ((pe_var (pos := p) hN hv hd hcd).run pins s σ H (fun v H1 => v = .ref f ∧ H1 = H) I ⟨.ref f, hs, rfl, rfl⟩) fun u s1 ⟨v, H1, I1, r1, q1⟩ => ?_)
  obtain ⟨ev, eH⟩ := q1
  subst ev
  rw [eH] at I1
  obtain rfl : u = Value.ref f := r1
  refine PySem.W.callWith_F (first := []) (lamAt_of I1 hf) (thn (ha.run pos pins s1 σ H _ I1 ht) fun us s2 ⟨vs, H2, I2, r, h1, h2, q⟩ => ⟨lamAt_of I2 h1, ?_⟩) he hpl
  show wpAny _ _ (call (.ref f) us) _ _ _
  refine wpAny_call (codeAny_mono (Fn.run X.A X.stack s2 H2 us vs _ Q E (hr.mono hk) I2.env0 h1 h2 (cells_later C0 hex I2) r q) fun r s' hq => ?_)
  cases r with
  | error e => exact hx pins σ H2 s2 e s' I2 hq
  | ok fl =>
    cases fl with
    | ret u => exact I2.after hq
    | next => exact False.elim hq
    | brk => exact False.elim hq
    | cont => exact False.elim hq
end
/-! ### a def whose promise is told of the state where it begins -/
structure CalS (P : Program) (w : World) (K : PySem.W.Frag) (mg : Str → Option Value) (base : Heap) (k : Nat) (x : Str) (sp : Shared → List V → Hp → VK → Prop) : Prop where
  ex : ∃ (f : Addr) (fd : FuncData) (ps : List Str), (∀ s vs H Q, sp s vs H Q → vs.length = ps.length) ∧
    (∀ (A : Around) (outer : List Env) (s : Shared) (H : Hp) (args : Args) (us : List Value) (vs : List V) (Q : VK), Room k A → Env0 P w K mg base A outer s H → BindsTo s fd args (ps.zip us) → Vals vs us → sp s vs H Q → codeAny (model P w) A (.call (.ref f) args) (CR C8.CX0 outer P w H s Q C8.E0) s) ∧
    mg x = some (.ref f) ∧ PySem.W.keepIn K (.ref f) = true ∧ Binds K fd ps []
theorem calS0 {P : Program} {w : World} {K : PySem.W.Frag} {mg : Str → Option Value} {base : Heap} {x : Str} {st : Stmt} {f : Addr} {fd : FuncData} {N ps : List Str} {k : Nat} {sp : Shared → List V → Hp → VK → Prop} (F : Def K mg x st f fd) (b : Binds K fd ps []) (S : FnScope N ps (fnScope st)) (len : ∀ s vs H Q, sp s vs H Q → vs.length = ps.length)
    (hbody : ∀ (cdv : Value) (A : Around) (outer : List Env) (s : Shared) (H : Hp) (vs : List V) (Q : VK), Room k (A.deeper (envOfC x (fnScope st) s.heap.objs.size f cdv)) → sp s vs H Q →
      ∃ t, PSs (cxOf C8.CX0 P w K mg base N x (fnScope st) f cdv A outer s H C8.E0).nox (fnBody st) t ∧ t { nx := fun _ H' => Q .non H', rt := Q } (start N vs) H) : CalS P w K mg base (k + 1) x sp := by
  obtain ⟨oc, od, dV, kV, doc, pm, an, cdv, ct, osl, e, lk, hcd⟩ := F.fn.ex
  refine ⟨f, fd, ps, len, fun A outer s H args us vs Q hr e0 hb r hsp => ?_, F.mgf, F.kp, b⟩
  subst e
  refine run_ofS (N := N) (ps := ps) (us := us) (vs := vs) lk hcd S hr e0 hb r (len _ _ _ _ hsp) fun hr' => ?_
  obtain ⟨t, ht, hq⟩ := hbody cdv A outer s H vs Q hr' hsp
  exact ⟨t, ht.nox, hq⟩
section
variable {X : Cx} {cl : List (Str × Addr)} {fr : List Str} {js : List Nat} {j k : Nat} {x : Str} {sp : Shared → List V → Hp → VK → Prop} {Sc : List (Option V) → List V → Hp → VK → Prop} {t : TA} {e : Expr} {es : List Expr} {p pos : Pos}
/-- .. called where the cells of the running def are told, too -/
theorem pe_cS (c : CalS X.prog X.w X.K X.mg X.base k x sp) (hr : Room j X.A) (hk : k ≤ j) (hg : Gl X x) (cp : X.Ok → Caps X cl fr js) (hsp : ∀ s ws vs H Q, CellsAt cl fr ws s.heap H → Sc ws vs H Q → sp s vs H Q) (ha : PA X (e :: es) t)
    (hdb : (x == ("__debug__" : Str)) = false := by decide) (he : starEach (e :: es) X.env = (false, eval e X.env) :: starEach es X.env := by rfl) (hpl : (backTo pos (starEach es X.env)).any (·.1) = false := by rfl) :
    PE X (.Call (.Name x p) (e :: es) [] pos) (fun σ H Q => t σ H fun vs H1 => Sc (js.map (slotAt σ)) vs H1 Q) := by
  obtain ⟨f, fd, ps, len, run, hm, kp, b⟩ := c.ex
  refine ⟨fun pins s σ H Q I h => ?_⟩
  refine wpAny_Call_Name_kw (ld_glob I hg hm ?_ hdb)
  refine PySem.W.callWith_K (h₀ := X.base) I.ok.mod.kin kp (thn (ha.run pos pins s σ H _ I h) fun us s1 ⟨vs, H1, I1, r, q⟩ => ⟨I1.kIn, ?_⟩) he hpl
  have q2 := hsp s1 _ vs H1 Q (cells_of I1 (cp I1.ok)) q
  have hl : us.length = ps.length := by rw [← r.length]; exact len _ _ _ _ q2
  refine wpAny_call (codeAny_mono (run X.A X.stack s1 H1 ⟨us, []⟩ us vs Q (hr.mono hk) I1.env0 ?_ r q2) fun r s' hq => ?_)
  · have z := b s1 us I1.kIn (by rw [List.append_nil]; exact hl)
    rw [List.append_nil] at z
    exact z
  cases r with
  | error e => exact (show False from hq).elim
  | ok fl =>
    cases fl with
    | ret u => exact I1.after hq
    | next => exact False.elim hq
    | brk => exact False.elim hq
    | cont => exact False.elim hq
end
end LamC
set_option Elab.async false
set_option linter.all false
set_option maxRecDepth 100000
set_option maxHeartbeats 1000000
namespace K31
open PySem PySem.Spec PyProof.Rows L2
open C8 (Cal Def cal0 pe_c fnBody fnScope fnArgs)
/-! data without lists stand beside any list -/
mutual
def noL : PyData → Bool
  | .list _ => false
  | .dict _ => false
  | .tuple xs => noLs xs
  | _ => true
def noLs : List PyData → Bool
  | [] => true
  | x :: xs => noL x && noLs xs
end
theorem noLs_app : ∀ {xs ys : List PyData}, noLs xs = true → noLs ys = true → noLs (xs ++ ys) = true
  | [], _, _, h => h
  | x :: xs, _, h, h2 => by
    have h' : noL x = true ∧ noLs xs = true := by simpa [noLs] using h
    simp only [List.cons_append, noLs, h'.1, noLs_app h'.2 h2, Bool.and_self]
/-! ### data of tuples stand where tuples stand -/
def TR (H H' : Hp) : Prop := ∀ a xs, Rd H a (.tup xs) → Rd H' a (.tup xs)
theorem TR.refl (H : Hp) : TR H H := fun _ _ h => h
theorem TR.trans {H H1 H2 : Hp} (a : TR H H1) (b : TR H1 H2) : TR H H2 := fun c xs h => b c xs (a c xs h)
theorem TR.same {H H' : Hp} (e : Same H H') : TR H H' := fun a xs h => by
  rcases h with h | ⟨o, h⟩
  · exact .inl (e _ _ h)
  · exact .inr ⟨o, e _ _ h⟩
theorem TR.new {H : Hp} {q : Addr} {o : HO} (h : H q = none) : TR H (upd H q o) := TR.same (Same.new h)
theorem TR.put {H : Hp} {q : Addr} {xs : List V} {o : HO} (h : H q = some (.lst xs)) : TR H (upd H q o) := fun a ys e => by
  have n : a ≠ q := fun z => by
    rcases e with e | ⟨o, e⟩ <;> rw [z, h] at e <;> cases e
  rcases e with e | ⟨o, e⟩
  · exact .inl (by rw [upd_ne n]; exact e)
  · exact .inr ⟨o, by rw [upd_ne n]; exact e⟩
theorem TR.dput {H : Hp} {q : Addr} {xs : List (Key × V)} {o : HO} (h : H q = some (.dK xs)) : TR H (upd H q o) := fun a ys e => by
  have n : a ≠ q := fun z => by
    rcases e with e | ⟨o, e⟩ <;> rw [z, h] at e <;> cases e
  rcases e with e | ⟨o, e⟩
  · exact .inl (by rw [upd_ne n]; exact e)
  · exact .inr ⟨o, by rw [upd_ne n]; exact e⟩
theorem TR.ext {H H' : Hp} (e : LamX.ExtN H H') : TR H H' := fun a xs h => by
  rcases h with h | ⟨o, h⟩
  · exact .inl (e _ _ h fun ps z => nomatch z)
  · exact .inr ⟨o, e _ _ h fun ps z => nomatch z⟩
theorem TR.but {p : Addr} {H H' : Hp} {xs : List V} (e : But p H H') (hp : H p = some (.lst xs)) : TR H H' := fun a ys h => by
  have n : a ≠ p := fun z => by
    rcases h with h | ⟨o, h⟩ <;> rw [z, hp] at h <;> cases h
  rcases h with h | ⟨o, h⟩
  · exact .inl (e _ _ n h)
  · exact .inr ⟨o, e _ _ n h⟩
section
variable {K : PySem.W.Frag}
theorem TR.sq {H H' : Hp} {a : Addr} {xs : List V} (e : TR H H') (h : SqT K H a xs) : SqT K H' a xs := h.elim (fun h => .inl (e _ _ h)) .inr
mutual
theorem dp_tr {H H' : Hp} (e : TR H H') : ∀ {d : PyData} {v : V}, noL d = true → Dp K H v d → Dp K H' v d
  | .none, _, _, h => by cases h; exact .non
  | .bool b, _, _, h => by cases h; exact .bl b
  | .int i, _, _, h => by cases h; exact .int i
  | .str x, _, _, h => by cases h; exact .str x
  | .list _, _, n, _ => by simp [noL] at n
  | .dict _, _, n, _ => by simp [noL] at n
  | .tuple ds, _, n, h => by
    have n' : noLs ds = true := by simpa [noL] using n
    cases h with
    | tup hq ha => exact .tup (e.sq hq) (dpAll_tr e n' ha)
theorem dpAll_tr {H H' : Hp} (e : TR H H') : ∀ {ds : List PyData} {vs : List V}, noLs ds = true → DpAll K H vs ds → DpAll K H' vs ds
  | [], _, _, h => by cases h; exact .nil
  | d :: ds, _, n, h => by
    have n' : noL d = true ∧ noLs ds = true := by simpa [noLs] using n
    cases h with
    | cons a b => exact .cons (dp_tr e n'.1 a) (dpAll_tr e n'.2 b)
end
/-- tuples of tuples -/
structure Tn (K : PySem.W.Frag) (H : Hp) (v : V) (d : PyData) : Prop where
  dp : Dp K H v d
  nl : noL d = true
structure TnAll (K : PySem.W.Frag) (H : Hp) (vs : List V) (ds : List PyData) : Prop where
  dp : DpAll K H vs ds
  nl : noLs ds = true
theorem Tn.tr {H H' : Hp} {v : V} {d : PyData} (h : Tn K H v d) (e : TR H H') : Tn K H' v d := ⟨dp_tr e h.nl h.dp, h.nl⟩
theorem TnAll.tr {H H' : Hp} {vs : List V} {ds : List PyData} (h : TnAll K H vs ds) (e : TR H H') : TnAll K H' vs ds := ⟨dpAll_tr e h.nl h.dp, h.nl⟩
theorem TnAll.nil {H : Hp} : TnAll K H [] [] := ⟨.nil, rfl⟩
theorem TnAll.cons {H : Hp} {v : V} {vs : List V} {d : PyData} {ds : List PyData} (h : Tn K H v d) (t : TnAll K H vs ds) : TnAll K H (v :: vs) (d :: ds) := ⟨.cons h.dp t.dp, by simp [noLs, h.nl, t.nl]⟩
theorem TnAll.app {H : Hp} {vs ws : List V} {ds es : List PyData} (h : TnAll K H vs ds) (t : TnAll K H ws es) : TnAll K H (vs ++ ws) (ds ++ es) := ⟨h.dp.app t.dp, noLs_app h.nl t.nl⟩
theorem TnAll.len {H : Hp} {vs : List V} {ds : List PyData} (h : TnAll K H vs ds) : vs.length = ds.length := h.dp.len
theorem TnAll.uncons {H : Hp} {vs : List V} {d : PyData} {ds : List PyData} (h : TnAll K H vs (d :: ds)) : ∃ v vr, vs = v :: vr ∧ Tn K H v d ∧ TnAll K H vr ds := by
  obtain ⟨h1, h2⟩ := h
  have n' : noL d = true ∧ noLs ds = true := by simpa [noLs] using h2
  cases h1 with
  | cons a b => exact ⟨_, _, rfl, ⟨a, n'.1⟩, ⟨b, n'.2⟩⟩
theorem TnAll.split {H : Hp} : ∀ {xs ys : List PyData} {vs : List V}, TnAll K H vs (xs ++ ys) → ∃ us ws, vs = us ++ ws ∧ TnAll K H us xs ∧ TnAll K H ws ys
  | [], ys, vs, h => ⟨[], vs, rfl, .nil, h⟩
  | x :: xs, ys, vs, h => by
    obtain ⟨v, vr, rfl, h1, h2⟩ := TnAll.uncons (show TnAll K H vs (x :: (xs ++ ys)) from h)
    obtain ⟨us, ws, rfl, h3, h4⟩ := TnAll.split h2
    exact ⟨v :: us, ws, rfl, .cons h1 h3, h4⟩
theorem TnAll.rev {H : Hp} : ∀ {ds : List PyData} {vs : List V}, TnAll K H vs ds → TnAll K H vs.reverse ds.reverse
  | [], vs, h => by
    obtain ⟨h1, h2⟩ := h
    cases h1
    exact .nil
  | d :: ds, vs, h => by
    obtain ⟨v, vr, rfl, h1, h2⟩ := h.uncons
    rw [List.reverse_cons, List.reverse_cons]
    exact (TnAll.rev h2).app (.cons h1 .nil)
theorem Tn.tup {H : Hp} {v : V} {ds : List PyData} (h : Tn K H v (.tuple ds)) : ∃ a xs, v = .ref a ∧ SqT K H a xs ∧ TnAll K H xs ds := by
  obtain ⟨h1, h2⟩ := h
  have n' : noLs ds = true := by simpa [noL] using h2
  cases h1 with
  | tup hq ha => exact ⟨_, _, rfl, hq, ha, n'⟩
theorem Tn.of {H : Hp} {a : Addr} {xs : List V} {ds : List PyData} (h : SqT K H a xs) (t : TnAll K H xs ds) : Tn K H (.ref a) (.tuple ds) := ⟨.tup h t.dp, by simp [noL, t.nl]⟩
theorem Tn.newT {H : Hp} {q : Addr} {xs : List V} {ds : List PyData} (hq : H q = none) (t : TnAll K H xs ds) : Tn K (upd H q (.tup xs)) (.ref q) (.tuple ds) := .of (SqT.of upd_same) (t.tr (TR.new hq))
theorem Tn.str {H : Hp} (z : Str) : Tn K H (.str z) (.str z) := ⟨.str z, rfl⟩
theorem Tn.bl {H : Hp} (b : Bool) : Tn K H (.bl b) (.bool b) := ⟨.bl b, rfl⟩
theorem Tn.strv {H : Hp} {v : V} {z : Str} (h : Tn K H v (.str z)) : v = .str z := by
  cases h.dp
  rfl
end
/-! ### what a term is, by its shape -/
def leafW (u : Str) : Bool := inV (.str u) [.str "number", .str "truth", .str "name", .str "box", .str "empty"]
def isS : PyData → Bool
  | .str _ => true
  | _ => false
inductive Kd where
  | num | tru | rcd (z : Str) | lst (k : Kd)
deriving DecidableEq
def Kd.d : Kd → PyData
  | .num => .tuple [.str "number"]
  | .tru => .tuple [.str "truth"]
  | .rcd z => .tuple [.str "record", .str z]
  | .lst k => .tuple [.str "list", k.d]
def Kd.word : Kd → Str
  | .num => "number" | .tru => "truth" | .rcd _ => "record" | .lst _ => "list"
def Kd.base : Kd → Option Str
  | .rcd z => some z
  | .lst k => k.base
  | _ => none
def Kd.inner : Kd → Option Kd
  | .lst k => some k
  | _ => none
def Kd.deep : Kd → Nat
  | .lst k => k.deep + 1
  | _ => 0
/-- data read as a kind -/
def toK : PyData → Option Kd
  | .tuple [.str u] => if u == "number" then some .num else if u == "truth" then some .tru else none
  | .tuple [.str u, x] => if u == "list" then (toK x).map .lst else match x with
    | .str z => if u == "record" then some (.rcd z) else none
    | _ => none
  | _ => none
theorem toK_d : ∀ k : Kd, toK k.d = some k
  | .num => by simp [Kd.d, toK]
  | .tru => by simp [Kd.d, toK]; decide +kernel
  | .rcd z => by simp [Kd.d, toK]; decide +kernel
  | .lst k => by simp [Kd.d, toK, toK_d k]
theorem toK_some : ∀ {d : PyData} {k : Kd}, toK d = some k → d = k.d
  | .tuple [.str u], k, h => by
    simp only [toK] at h
    split at h
    · rename_i e
      cases h
      rw [eq_of_beq e]
      rfl
    · split at h
      · rename_i e
        cases h
        rw [eq_of_beq e]
        rfl
      · cases h
  | .tuple [.str u, x], k, h => by
    simp only [toK] at h
    split at h
    · rename_i e
      cases hx : toK x with
      | none => rw [hx] at h; cases h
      | some k1 =>
        rw [hx] at h
        cases h
        rw [toK_some hx, eq_of_beq e]
        rfl
    · split at h
      · split at h
        · rename_i e
          cases h
          rw [eq_of_beq e]
          rfl
        · cases h
      · cases h
  | .none, _, h => by simp [toK] at h
  | .bool _, _, h => by simp [toK] at h
  | .int _, _, h => by simp [toK] at h
  | .str _, _, h => by simp [toK] at h
  | .list _, _, h => by simp [toK] at h
  | .dict _, _, h => by simp [toK] at h
  | .tuple [], _, h => by simp [toK] at h
  | .tuple (.none :: _), _, h => by simp [toK] at h
  | .tuple (.bool _ :: _), _, h => by simp [toK] at h
  | .tuple (.int _ :: _), _, h => by simp [toK] at h
  | .tuple (.list _ :: _), _, h => by simp [toK] at h
  | .tuple (.dict _ :: _), _, h => by simp [toK] at h
  | .tuple (.tuple _ :: _), _, h => by simp [toK] at h
  | .tuple (.str _ :: _ :: _ :: _), _, h => by simp [toK] at h
def isI : PyData → Bool
  | .int _ => true
  | _ => false
def isBo : PyData → Bool
  | .bool _ => true
  | _ => false
def leafB (u : Str) (d : PyData) : Bool := if u == "name" || u == "box" then isS d else if u == "empty" then (toK d).isSome else if u == "number" then isI d else isBo d
def counts : List (Str × Nat) := [("add", 2), ("less", 2), ("times", 2), ("under", 2), ("same", 2), ("both", 2), ("join", 2), ("not", 1), ("many", 1), ("pick", 3), ("at", 3)]
def shapedW (u : Str) (rest : List PyData) : Bool :=
  if leafW u then decide (rest.length = 1) && (rest[0]?.map (leafB u)).getD false
  else if u == "field" then decide (rest.length = 2) && (rest[1]?.map isS).getD false
  else if u == "list" then decide (rest.length ≤ 8)
  else match counts.lookup u with
    | some c => decide (rest.length = c)
    | none => false
def shapedB : PyData → Bool
  | .tuple (.str u :: rest) => decide (1 ≤ rest.length) && shapedW u rest
  | _ => false
/-- the places of the terms right within -/
def selW {α : Type} (u : Str) (rest : List α) : List α := if leafW u then [] else if u == "field" then rest.take 1 else rest
def partsD : PyData → List PyData
  | .tuple (.str u :: rest) => selW u rest
  | _ => []
mutual
def termB : PyData → Bool
  | .tuple ds => shapedB (.tuple ds) && ((match ds with | .str u :: _ => selW u ((termL ds).drop 1) | _ => []).all id)
  | _ => false
def termL : List PyData → List Bool
  | [] => []
  | x :: xs => termB x :: termL xs
end
theorem termL_map : ∀ ds : List PyData, termL ds = ds.map termB
  | [] => by simp [termL]
  | x :: xs => by simp [termL, termL_map xs]
theorem selW_map {α β : Type} (f : α → β) (u : Str) (l : List α) : selW u (l.map f) = (selW u l).map f := by
  unfold selW
  split
  · rfl
  · split
    · rw [List.map_take]
    · rfl
theorem termB_eq (d : PyData) : termB d = (shapedB d && (partsD d).all termB) := by
  cases d with
  | tuple ds =>
    cases ds with
    | nil => simp [termB, shapedB]
    | cons x rest =>
      cases x with
      | str u =>
        rw [termB, termL_map]
        show (shapedB (.tuple (.str u :: rest)) && (selW u (rest.map termB)).all id) = (shapedB (.tuple (.str u :: rest)) && (selW u rest).all termB)
        rw [selW_map, List.all_map]
        rfl
      | _ => simp [termB, shapedB]
  | _ => simp [termB, shapedB]
theorem sel_len {α : Type} (u : Str) (l : List α) : (selW u l).length ≤ l.length := by
  unfold selW
  split
  · exact Nat.zero_le _
  · split
    · rw [List.length_take]; omega
    · exact Nat.le_refl _
section
variable {K : PySem.W.Frag}
theorem dpAll_take {H : Hp} : ∀ {vs : List V} {ds : List PyData} (n : Nat), DpAll K H vs ds → DpAll K H (vs.take n) (ds.take n)
  | _, _, 0, _ => by rw [List.take_zero, List.take_zero]; exact .nil
  | _, _, _ + 1, .nil => .nil
  | _, _, n + 1, .cons h t => .cons h (dpAll_take n t)
theorem sel_dp {H : Hp} {vs : List V} {ds : List PyData} (u : Str) (h : DpAll K H vs ds) : DpAll K H (selW u vs) (selW u ds) := by
  unfold selW
  split
  · exact .nil
  · split
    · exact dpAll_take 1 h
    · exact h
end
section
variable {P : Program} {w : World} {K : PySem.W.Frag} {mg : Str → Option Value} {base : Heap}
/-- the leaves' words, as the module has them -/
structure Lv (K : PySem.W.Frag) (mg : Str → Option Value) (aL : Addr) : Prop where
  g : ∃ u, mg "LEAVES" = some u ∧ RelV (.ref aL) u
  sq : ∀ H, SqT K H aL [.str "number", .str "truth", .str "name", .str "box", .str "empty"]
theorem dpAll_head {H : Hp} {xs : List V} {x : PyData} {rest : List PyData} (h : DpAll K H xs (x :: rest)) : ∃ v vr, xs = v :: vr ∧ Dp K H v x ∧ DpAll K H vr rest := by
  cases h with
  | cons a b => exact ⟨_, _, rfl, a, b⟩
theorem head_of {ds : List PyData} (h : 2 ≤ ds.length) : ∃ x rest, ds = x :: rest ∧ 1 ≤ rest.length := by
  cases ds with
  | nil => exact absurd h (by decide)
  | cons x rest => exact ⟨x, rest, rfl, by simp at h; omega⟩
theorem at_some {α : Type} {l : List α} {i : Nat} (h : i < l.length) : ∃ x, l[i]? = some x := ⟨_, List.getElem?_eq_getElem h⟩
abbrev sPPartsOf : Stmt := topS 7
abbrev NPPartsOf : List Str := ["term"]
theorem scPPartsOf : FnScope NPPartsOf ["term"] (fnScope sPPartsOf) := ⟨rfl, rfl, rfl, by decide +kernel, rfl, by decide +kernel, by decide +kernel⟩
/-- of a tuple that begins with a word: a new list of the things at the places of its terms -/
def spParts (K : PySem.W.Frag) : Sp := fun vs H Q _ => ∃ a u vr, vs = [.ref a] ∧ SqT K H a (.str u :: vr) ∧ 1 ≤ vr.length ∧ vr.length ≤ 1000 ∧ ∀ l H', H l = none → Same H H' → H' l = some (.lst (selW u vr)) → Q (.ref l) H'
theorem slice_tail {H : Hp} {a : Addr} {x : V} {vr : List V} {Q : V → Hp → Prop} (hq : SqT K H a (x :: vr)) (q : ∀ p, H p = none → Q (.ref p) (upd H p (.tup vr))) : (rSlA K) (.ref a) (some 1) none H Q := by
  have hs1 : HT.sIx (x :: vr).length 0 (some 1) = 1 := by
    rw [show HT.sIx (x :: vr).length 0 (some 1) = min 1 (x :: vr).length from HT.sIx_nat (x :: vr).length 0 1, List.length_cons]
    omega
  have ec : cutV (x :: vr) (some 1) none = vr := by
    unfold cutV
    rw [hs1, HT.sIx_none]
    exact List.take_of_length_le (by simp)
  refine ⟨a, x :: vr, rfl, hq, fun h => ?_, fun _ p hp => ?_⟩
  · rw [hs1] at h
    exact absurd h.1 (by decide)
  · rw [ec]
    exact q p hp
theorem c_partsOf (T : Tp mg) {aL : Addr} (TL : Lv K mg aL) {f : Addr} {fd : FuncData} (D : Def K mg "parts_of" sPPartsOf f fd) (b : Binds K fd ["term"] []) : Cal P w K mg base 1 "parts_of" (spParts K) [] := by
  refine cal0 D b .nil scPPartsOf (fun vs H Q E h => ?_) (fun cdv A outer s H vs Q E hr h => ?_)
  · obtain ⟨a, u, vr, rfl, _⟩ := h
    rfl
  · obtain ⟨a, u, vr, rfl, hq, h1, h2, q⟩ := h
    refine ⟨_, (pss_cons (ps_if (pt_cmpR op_in_seq (pe_ix ix_tup (pv 0) pe_int (fun _ _ => rfl)) (C8.pe_gc (by rfl) TL.g) (by rfl))
      (pss_one (ps_ret (pe_lst pa_nil)))
      pss_nil)
    (pss_cons (ps_if (pt_cmpR op_eq (pe_ix ix_tup (pv 0) pe_int (fun _ _ => rfl)) pe_str (nomark _))
      (pss_one (ps_ret (pe_lst (pa_cons (pe_ix ix_tup (pv 0) pe_int (fun _ _ => rfl)) pa_nil))))
      pss_nil)
    (pss_one (ps_ret (pe_callTy call_list_of (by rfl) T.n_list (by decide +kernel) (pa_cons (pe_slice sl_tupA (pv 0) (po_some pe_int) po_none) pa_nil)))))), ?_⟩
    unfold selW at q
    refine ⟨_, rfl, a, _, _, .str u, rfl, rfl, hq, atI_nat (j := 0) rfl, aL, _, rfl, .inr (TL.sq H), rfl, rfl, _, rfl, ?_⟩
    show if (leafW u) = true then _ else _
    refine ite2 (fun e => ?_) (fun e => ?_)
    · rw [if_pos e] at q
      exact ⟨(by show 0 ≤ sizeLine; decide), fun l hl => q l _ hl (Same.new hl) upd_same⟩
    · rw [if_neg e] at q
      refine ⟨_, rfl, a, _, _, .str u, rfl, rfl, hq, atI_nat (j := 0) rfl, rfl, _, rfl, ?_⟩
      rw [dec_str]
      refine ite2 (fun e2 => ?_) (fun e2 => ?_)
      · rw [if_pos e2] at q
        cases vr with
        | nil => exact absurd h1 (by decide)
        | cons v1 vr2 =>
          refine ⟨_, rfl, a, _, _, v1, rfl, rfl, hq, atI_nat (j := 1) rfl, (by show 1 ≤ sizeLine; decide), fun l hl => q l _ hl (Same.new hl) upd_same⟩
      · rw [if_neg e2] at q
        refine ⟨_, rfl, 1, rfl, ?_⟩
        refine slice_tail (Q := fun x H1 => ∃ p ys, [x] = [V.ref p] ∧ (SqL K H1 p ys ∨ SqT K H1 p ys) ∧ ∀ l, H1 l = none → Q (V.ref l) (upd H1 l (.lst ys))) hq fun p hp => ⟨p, vr, rfl, .inr (SqT.of upd_same), fun l hl => ?_⟩
        exact q l _ ((Same.new hp).free hl) ((Same.new hp).trans (Same.new hl)) upd_same

theorem weightAll_app : ∀ (xs ys : List PyData), PyData.weightAll (xs ++ ys) = PyData.weightAll xs + PyData.weightAll ys
  | [], ys => by simp [PyData.weightAll]
  | x :: xs, ys => by
    rw [List.cons_append, PyData.weightAll, PyData.weightAll, weightAll_app xs ys]
    omega
theorem len_weightAll : ∀ xs : List PyData, xs.length ≤ PyData.weightAll xs
  | [] => Nat.zero_le _
  | x :: xs => by
    have := len_weightAll xs
    rw [PyData.weightAll, List.length_cons]
    omega
theorem weight_sel (u : Str) (l : List PyData) : PyData.weightAll (selW u l) ≤ PyData.weightAll l := by
  unfold selW
  split
  · simp [PyData.weightAll]
  · split
    · cases l with
      | nil => simp [PyData.weightAll]
      | cons x r => simp only [List.take, PyData.weightAll]; omega
    · exact Nat.le_refl _
theorem weight_parts (d : PyData) : PyData.weightAll (partsD d) ≤ d.weight := by
  cases d with
  | tuple ds =>
    cases ds with
    | nil => simp [partsD, PyData.weightAll]
    | cons x rest =>
      cases x with
      | str u =>
        have := weight_sel u rest
        show PyData.weightAll (selW u rest) ≤ (PyData.tuple (.str u :: rest)).weight
        rw [PyData.weight, PyData.weightAll]
        omega
      | _ => simp [partsD, PyData.weightAll]
  | _ => simp [partsD, PyData.weightAll]
theorem shaped_form {d : PyData} (h : shapedB d = true) : ∃ u rest, d = .tuple (.str u :: rest) ∧ 1 ≤ rest.length := by
  unfold shapedB at h
  split at h
  · rename_i u rest
    rw [Bool.and_eq_true] at h
    exact ⟨u, rest, rfl, of_decide_eq_true h.1⟩
  · cases h
theorem split_last {α : Type} {l : List α} (h : l ≠ []) : ∃ i x, l = i ++ [x] := ⟨l.dropLast, l.getLast h, (List.dropLast_concat_getLast h).symm⟩
theorem TnAll.at {K : PySem.W.Frag} {H : Hp} : ∀ {ds : List PyData} {vs : List V} {i : Nat} {v : V}, TnAll K H vs ds → vs[i]? = some v → ∃ d, ds[i]? = some d ∧ Tn K H v d
  | [], vs, i, v, h, e => by
    have := h.len
    cases vs with
    | nil => simp at e
    | cons x y => cases this
  | d :: ds, vs, i, v, h, e => by
    obtain ⟨v0, vr, rfl, h1, h2⟩ := h.uncons
    cases i with
    | zero =>
      simp at e
      exact ⟨d, rfl, e ▸ h1⟩
    | succ i =>
      obtain ⟨d', h3, h4⟩ := TnAll.at h2 (i := i) (by simpa using e)
      exact ⟨d', by simpa using h3, h4⟩
theorem TnAll.takes {K : PySem.W.Frag} {H : Hp} {ds : List PyData} {vs : List V} (k : Nat) (h : TnAll K H vs ds) : TnAll K H (vs.take k) (ds.take k) ∧ TnAll K H (vs.drop k) (ds.drop k) := by
  have e := List.take_append_drop k ds
  rw [← e] at h
  obtain ⟨us, ws, rfl, h1, h2⟩ := h.split
  have hl := h1.len
  have hv := h2.len
  by_cases hk : k ≤ ds.length
  · have l1 : us.length = k := by rw [hl, List.length_take]; omega
    rw [← l1] at h1 h2 ⊢
    rw [List.take_left, List.drop_left]
    exact ⟨h1, h2⟩
  · have e1 : ds.take k = ds := List.take_of_length_le (by omega)
    have e2 : ds.drop k = [] := List.drop_of_length_le (by omega)
    rw [e2] at hv h2 ⊢
    rw [e1] at hl h1 ⊢
    have ew : ws = [] := List.length_eq_zero_iff.mp hv
    subst ew
    rw [List.append_nil, List.take_of_length_le (by omega), List.drop_of_length_le (by omega)]
    exact ⟨h1, .nil⟩
theorem from_cut {xs : List V} {k : Nat} (hk : k ≤ xs.length) : cutV xs (some (k : Int)) none = xs.drop k := by
  have e : HT.sIx xs.length 0 (some (k : Int)) = k := by
    show (if (k : Int) < 0 then ((k : Int) + (xs.length : Int)).toNat else min (k : Int).toNat xs.length) = k
    rw [if_neg (by omega)]
    omega
  unfold cutV
  rw [e, HT.sIx_none]
  exact List.take_of_length_le (by rw [List.length_drop]; omega)
theorem same_put {H H1 : Hp} {l : Addr} {o : HO} (e : Same H H1) (h : H l = none) : Same H (upd H1 l o) := fun b u q => by
  rw [upd_ne (ne_of_none q h)]
  exact e b u q
theorem weightAll_rev : ∀ l : List PyData, PyData.weightAll l.reverse = PyData.weightAll l
  | [] => rfl
  | x :: xs => by
    rw [List.reverse_cons, weightAll_app, weightAll_rev xs]
    simp only [PyData.weightAll]
    omega
theorem sel_tn {H : Hp} {vs : List V} {ds : List PyData} (u : Str) (h : TnAll K H vs ds) : TnAll K H (selW u vs) (selW u ds) := by
  refine ⟨sel_dp u h.dp, ?_⟩
  unfold selW
  split
  · rfl
  · split
    · have n := h.nl
      cases ds with
      | nil => rfl
      | cons x y =>
        have n' : noL x = true ∧ noLs y = true := by simpa [noLs] using n
        simp [noLs, n'.1]
    · exact h.nl
end
/-- how much is left to do -/
def muQ (q : PyData × Bool) : Nat := if q.2 then 1 else 2 * q.1.weight + 2
def muS : List (PyData × Bool) → Nat
  | [] => 0
  | q :: t => muQ q + muS t
theorem muS_app : ∀ (s t : List (PyData × Bool)), muS (s ++ t) = muS s + muS t
  | [], t => by simp [muS]
  | q :: s, t => by
    rw [List.cons_append, muS, muS, muS_app s t]
    omega
theorem muS_falses : ∀ ps : List PyData, muS (ps.map fun p => (p, false)) = 2 * PyData.weightAll ps
  | [] => by simp [muS, PyData.weightAll]
  | p :: ps => by
    rw [List.map_cons, muS, muS_falses ps, PyData.weightAll]
    show 2 * p.weight + 2 + _ = _
    omega
theorem muS_len : ∀ s : List (PyData × Bool), s.length ≤ muS s
  | [] => Nat.zero_le _
  | q :: s => by
    have := muS_len s
    rw [List.length_cons, muS]
    have : 1 ≤ muQ q := by
      unfold muQ
      split <;> omega
    omega
/-- a pair of the stack, as data -/
def prQ (q : PyData × Bool) : PyData := .tuple [q.1, .bool q.2]
theorem term_form {d : PyData} (h : termB d = true) : ∃ u rest, d = .tuple (.str u :: rest) ∧ 1 ≤ rest.length ∧ shapedW u rest = true ∧ (selW u rest).all termB = true := by
  rw [termB_eq, Bool.and_eq_true] at h
  obtain ⟨u, rest, rfl, h1⟩ := shaped_form h.1
  have h2 : (decide (1 ≤ rest.length) && shapedW u rest) = true := h.1
  rw [Bool.and_eq_true] at h2
  exact ⟨u, rest, rfl, h1, h2.2, h.2⟩
theorem lookup_le {u : Str} {c : Nat} : ∀ {l : List (Str × Nat)}, (∀ p ∈ l, p.2 ≤ 3) → l.lookup u = some c → c ≤ 3
  | [], _, h => by cases h
  | (y, i) :: l, hp, h => by
    rw [List.lookup_cons] at h
    cases e : (u == y) with
    | true =>
      rw [e] at h
      have : i = c := by simpa using h
      have := hp (y, i) (List.mem_cons_self ..)
      simp only at this
      omega
    | false =>
      rw [e] at h
      exact lookup_le (fun p hm => hp p (List.mem_cons_of_mem _ hm)) (by simpa using h)
theorem shaped_len {u : Str} {rest : List PyData} (h : shapedW u rest = true) : rest.length ≤ 8 := by
  unfold shapedW at h
  split at h
  · rw [Bool.and_eq_true] at h
    have := of_decide_eq_true h.1
    omega
  · split at h
    · rw [Bool.and_eq_true] at h
      have := of_decide_eq_true h.1
      omega
    · split at h
      · exact of_decide_eq_true h
      · split at h
        · rename_i c hc
          have hl := of_decide_eq_true h
          have := lookup_le (by decide) hc
          omega
        · cases h
end K31
set_option Elab.async false
set_option linter.all false
set_option maxRecDepth 100000
set_option maxHeartbeats 1000000
namespace K31
open PySem PySem.Spec PyProof.Rows L2
open C8 (Cal Def cal0 pe_c fnBody fnScope fnArgs)
/-! ### what is asked: names held, boxes, kinds of records -/
structure En where
  h : Str → Option Kd
  b : Str → Option Kd
  f : Str → Option (List (Str × Kd))
def thereK (c : En) (k : Kd) : Bool := match k.base with
  | some z => (c.f z).isSome
  | none => true
def sorts : List (Str × List Str) := [("add", ["number", "number"]), ("less", ["number", "number"]), ("times", ["number", "number"]), ("under", ["number", "number"]), ("same", ["", ""]), ("both", ["truth", "truth"]), ("join", ["list", "list"]), ("not", ["truth"]), ("many", ["list"]), ("pick", ["truth", "", ""]), ("at", ["list", "number", ""]), ("field", ["record"])]
def sortsK (u : Str) : List Str := (sorts.lookup u).getD []
def zipB (ss : List Str) (kk : List Kd) : Bool := (ss.zip kk).all fun p => p.1 == "" || p.1 == p.2.word
def matchK (u : Str) (kk : List Kd) : Bool :=
  if !zipB (sortsK u) kk then false
  else if u == "pick" then decide (kk[1]? = kk[2]?)
  else if u == "at" then decide (kk[0]?.bind Kd.inner = kk[2]?)
  else if u == "same" || u == "join" || u == "list" then kk.all fun k => decide (some k = kk[0]?)
  else true
def strAt (rest : List PyData) (i : Nat) : Str := match rest[i]? with
  | some (.str z) => z
  | _ => ""
def fieldK (c : En) (o : Option Kd) (x : Str) : Option Kd := match o with
  | some (.rcd z) => (c.f z).bind fun fs => fs.lookup x
  | _ => none
def byWordK (c : En) (u : Str) (rest : List PyData) (kk : List Kd) : Option Kd :=
  if u == "number" || u == "add" || u == "less" || u == "times" || u == "many" then some .num
  else if u == "truth" || u == "under" || u == "same" || u == "both" || u == "not" then some .tru
  else if u == "name" then c.h (strAt rest 0)
  else if u == "box" then c.b (strAt rest 0)
  else if u == "empty" then (rest[0]?.bind toK).map .lst
  else if u == "list" then kk[0]?.map .lst
  else if u == "field" then fieldK c kk[0]? (strAt rest 1)
  else kk.getLast?
def overK (c : En) (u : Str) (rest : List PyData) (ks : List (Option Kd)) : Option Kd :=
  if ks.any Option.isNone then none
  else if !matchK u (ks.filterMap id) then none
  else match byWordK c u rest (ks.filterMap id) with
    | none => none
    | some k => if thereK c k then some k else none
mutual
def evK (c : En) : PyData → Option Kd
  | .tuple ds => match ds with
    | .str u :: rest => overK c u rest (selW u ((evL c ds).drop 1))
    | _ => none
  | _ => none
def evL (c : En) : List PyData → List (Option Kd)
  | [] => []
  | x :: xs => evK c x :: evL c xs
end
theorem evL_map (c : En) : ∀ ds : List PyData, evL c ds = ds.map (evK c)
  | [] => by simp [evL]
  | x :: xs => by simp [evL, evL_map c xs]
theorem evK_eq (c : En) (u : Str) (rest : List PyData) : evK c (.tuple (.str u :: rest)) = overK c u rest ((selW u rest).map (evK c)) := by
  rw [evK, evL_map]
  show overK c u rest (selW u (rest.map (evK c))) = _
  rw [selW_map]
def oD : Option Kd → PyData
  | none => .none
  | some k => k.d
theorem kd_noL : ∀ k : Kd, noL k.d = true
  | .num => rfl
  | .tru => rfl
  | .rcd _ => rfl
  | .lst k => by simp [Kd.d, noL, noLs, kd_noL k]
theorem od_noL (o : Option Kd) : noL (oD o) = true := by
  cases o with
  | none => rfl
  | some k => exact kd_noL k
theorem eqv_two (a b : Str) (x y : PyData) : PyData.eqv (.tuple [.str a, x]) (.tuple [.str b, y]) = ((a == b) && PyData.eqv x y) := by
  simp only [PyData.eqv, PyData.eqvAll, Bool.and_true]
theorem eqv_one (a b : Str) : PyData.eqv (.tuple [.str a]) (.tuple [.str b]) = (a == b) := by
  simp only [PyData.eqv, PyData.eqvAll, Bool.and_true]
theorem eqv_12 (a b : Str) (y : PyData) : PyData.eqv (.tuple [.str a]) (.tuple [.str b, y]) = false := by
  rw [PyData.eqv, PyData.eqvAll]
  simp [PyData.eqvAll]
theorem eqv_21 (a b : Str) (y : PyData) : PyData.eqv (.tuple [.str a, y]) (.tuple [.str b]) = false := by
  rw [PyData.eqv, PyData.eqvAll]
  simp [PyData.eqvAll]
theorem kd_eqv : ∀ k k' : Kd, PyData.eqv k.d k'.d = decide (k = k')
  | .num, .num => (eqv_one _ _).trans (by decide +kernel)
  | .num, .tru => (eqv_one _ _).trans (by decide +kernel)
  | .num, .rcd _ => (eqv_12 _ _ _).trans (by simp)
  | .num, .lst _ => (eqv_12 _ _ _).trans (by simp)
  | .tru, .num => (eqv_one _ _).trans (by decide +kernel)
  | .tru, .tru => (eqv_one _ _).trans (by decide +kernel)
  | .tru, .rcd _ => (eqv_12 _ _ _).trans (by simp)
  | .tru, .lst _ => (eqv_12 _ _ _).trans (by simp)
  | .rcd _, .num => (eqv_21 _ _ _).trans (by simp)
  | .rcd _, .tru => (eqv_21 _ _ _).trans (by simp)
  | .rcd x, .rcd y => (eqv_two _ _ _ _).trans (by
      have e2 : PyData.eqv (.str x) (.str y) = (x == y) := by rw [PyData.eqv]
      rw [e2, Bool.eq_iff_iff]
      simp)
  | .rcd x, .lst k => (eqv_two _ _ _ _).trans (by
      rw [show ((("record" : Str) == ("list" : Str)) = false) by decide +kernel]
      simp)
  | .lst _, .num => (eqv_21 _ _ _).trans (by simp)
  | .lst _, .tru => (eqv_21 _ _ _).trans (by simp)
  | .lst k, .rcd x => (eqv_two _ _ _ _).trans (by
      rw [show ((("list" : Str) == ("record" : Str)) = false) by decide +kernel]
      simp)
  | .lst k, .lst k' => (eqv_two _ _ _ _).trans (by
      rw [kd_eqv k k', Bool.eq_iff_iff]
      simp)
/-- a kind that is laid out, n deep -/
def KL (n : Nat) (k : Kd) : Prop := k.d.canLay0 = true ∧ k.d.depth ≤ n
structure EnOk (c : En) : Prop where
  h : ∀ z k, c.h z = some k → KL 20 k
  b : ∀ z k, c.b z = some k → KL 20 k
  f : ∀ z fs, c.f z = some fs → ∀ a ∈ fs, KL 20 a.2
theorem KL.mono {n m : Nat} {k : Kd} (h : KL n k) (e : n ≤ m) : KL m k := ⟨h.1, Nat.le_trans h.2 e⟩
theorem KL.lst {n : Nat} {k : Kd} (h : KL n k) : KL (n + 1) (.lst k) := by
  refine ⟨?_, ?_⟩
  · simp only [Kd.d, PyData.canLay0, PyData.canLayAll0, h.1, Bool.and_true]
    decide +kernel
  · have := h.2
    simp only [Kd.d, PyData.depth, PyData.depthAll]
    omega
theorem KL.shaped {n : Nat} {k : Kd} (h : KL n k) (hn : n ≤ 64) : SeqAt.shaped k.d = true := by
  show (k.d.canLay0 && decide (k.d.depth ≤ 64)) = true
  rw [h.1, decide_eq_true (Nat.le_trans h.2 hn)]
  rfl
theorem mem_lookup {x : Str} {k : Kd} : ∀ {fs : List (Str × Kd)}, fs.lookup x = some k → ∃ a ∈ fs, a.2 = k
  | [], h => by cases h
  | (y, i) :: l, h => by
    rw [List.lookup_cons] at h
    cases e : (x == y) with
    | true =>
      rw [e] at h
      exact ⟨(y, i), List.mem_cons_self .., by simpa using h⟩
    | false =>
      rw [e] at h
      obtain ⟨a, h1, h2⟩ := mem_lookup (fs := l) (by simpa using h)
      exact ⟨a, List.mem_cons_of_mem _ h1, h2⟩
theorem lay_mem {ds : List PyData} {d : PyData} (h : PyData.canLayAll0 ds = true) (hm : d ∈ ds) : d.canLay0 = true ∧ d.depth ≤ PyData.depthAll ds := by
  induction ds with
  | nil => cases hm
  | cons x xs ih =>
    have h' : x.canLay0 = true ∧ PyData.canLayAll0 xs = true := by simpa [PyData.canLayAll0] using h
    simp only [PyData.depthAll]
    rcases List.mem_cons.mp hm with rfl | hm
    · exact ⟨h'.1, by omega⟩
    · have := ih h'.2 hm
      exact ⟨this.1, by omega⟩
theorem word_ok {c : En} (ok : EnOk c) {u : Str} {rest : List PyData} {kk : List Kd} {n : Nat} {k : Kd} (hn : 20 ≤ n) (hk : ∀ x ∈ kk, KL n x) (hr : ∀ d ∈ rest, d.canLay0 = true ∧ d.depth ≤ n) (h : byWordK c u rest kk = some k) : KL (n + 1) k := by
  unfold byWordK at h
  split at h
  · cases h; exact ⟨by decide +kernel, by simp only [Kd.d, PyData.depth, PyData.depthAll]; omega⟩
  · split at h
    · cases h; exact ⟨by decide +kernel, by simp only [Kd.d, PyData.depth, PyData.depthAll]; omega⟩
    · split at h
      · exact (ok.h _ _ h).mono (by omega)
      · split at h
        · exact (ok.b _ _ h).mono (by omega)
        · split at h
          · cases e : rest[0]? with
            | none => rw [e] at h; cases h
            | some d =>
              rw [e] at h
              cases e2 : toK d with
              | none => simp [e2] at h
              | some k1 =>
                simp [e2] at h
                have ed := toK_some e2
                have := hr d (List.mem_of_getElem? e)
                rw [← h]
                rw [ed] at this
                exact KL.lst this
          · split at h
            · cases e : kk[0]? with
              | none => rw [e] at h; cases h
              | some k1 =>
                simp [e] at h
                rw [← h]
                exact KL.lst (hk _ (List.mem_of_getElem? e))
            · split at h
              · unfold fieldK at h
                split at h
                · rename_i z _
                  cases e : c.f z with
                  | none => rw [e] at h; cases h
                  | some fs =>
                    rw [e] at h
                    obtain ⟨a, h1, h2⟩ := mem_lookup (fs := fs) h
                    rw [← h2]
                    exact (ok.f _ _ e a h1).mono (by omega)
                · cases h
              · exact (hk _ (List.mem_of_getLast? h)).mono (by omega)
theorem over_some {c : En} {u : Str} {rest : List PyData} {ks : List (Option Kd)} {k : Kd} (h : overK c u rest ks = some k) : byWordK c u rest (ks.filterMap id) = some k ∧ thereK c k = true ∧ ks.any Option.isNone = false ∧ matchK u (ks.filterMap id) = true := by
  unfold overK at h
  split at h
  · cases h
  · rename_i h0
    split at h
    · cases h
    · rename_i h1
      split at h
      · cases h
      · rename_i k1 hk
        split at h
        · rename_i ht
          cases h
          exact ⟨hk, ht, Bool.eq_false_iff.mpr h0, by simpa using h1⟩
        · cases h
theorem mem_sel {α : Type} {u : Str} {l : List α} {x : α} (h : x ∈ selW u l) : x ∈ l := by
  unfold selW at h
  split at h
  · cases h
  · split at h
    · exact List.mem_of_mem_take h
    · exact h
mutual
theorem ev_ok {c : En} (ok : EnOk c) : ∀ (d : PyData) (k : Kd), d.canLay0 = true → evK c d = some k → KL (20 + d.depth) k
  | .tuple ds, k, hl, h => by
    have hl' : PyData.canLayAll0 ds = true := by simpa [PyData.canLay0] using hl
    have ih := evs_ok ok ds hl'
    cases ds with
    | nil => simp [evK] at h
    | cons x rest =>
      cases x with
      | str u =>
        rw [evK_eq] at h
        obtain ⟨h2, _⟩ := over_some h
        have hr : ∀ d ∈ rest, d.canLay0 = true ∧ d.depth ≤ PyData.depthAll (.str u :: rest) := fun d hd => lay_mem hl' (List.mem_cons_of_mem _ hd)
        have := word_ok ok (n := 20 + PyData.depthAll (.str u :: rest)) (by omega) (fun x hx => ?_) (fun d hd => ⟨(hr d hd).1, by have := (hr d hd).2; omega⟩) h2
        · simp only [PyData.depth]
          exact this.mono (by omega)
        · obtain ⟨o, ho, e⟩ := List.mem_filterMap.mp hx
          obtain ⟨p, hp, e2⟩ := List.mem_map.mp ho
          have e3 : evK c p = some x := by rw [e2]; exact e
          exact ih p (List.mem_cons_of_mem _ (mem_sel hp)) x e3
      | _ => simp [evK] at h
  | .none, _, _, h => by simp [evK] at h
  | .bool _, _, _, h => by simp [evK] at h
  | .int _, _, _, h => by simp [evK] at h
  | .str _, _, _, h => by simp [evK] at h
  | .list _, _, _, h => by simp [evK] at h
  | .dict _, _, _, h => by simp [evK] at h
theorem evs_ok {c : En} (ok : EnOk c) : ∀ (ds : List PyData), PyData.canLayAll0 ds = true → ∀ d ∈ ds, ∀ k, evK c d = some k → KL (20 + PyData.depthAll ds) k
  | [], _, d, hm, _, _ => by cases hm
  | x :: xs, hl, d, hm, k, h => by
    have hl' : x.canLay0 = true ∧ PyData.canLayAll0 xs = true := by simpa [PyData.canLayAll0] using hl
    simp only [PyData.depthAll]
    rcases List.mem_cons.mp hm with e | hm
    · rw [e] at h
      exact (ev_ok ok x k hl'.1 h).mono (by omega)
    · exact (evs_ok ok xs hl'.2 d hm k h).mono (by omega)
end
end K31
set_option Elab.async false
set_option linter.all false
set_option maxRecDepth 100000
set_option maxHeartbeats 1000000
/-! a walk over zip(t, xs): t a tuple, xs a list. -/
namespace MixW
open PySem PySem.Spec PyProof.Rows L2 RZ MixZ
def ItzM (K : PySem.W.Frag) (a b : Addr) : It :=
  ⟨fun i H => ∃ (xs ys : List V) (x y : V), SqT K H a xs ∧ SqL K H b ys ∧ xs[i]? = some x ∧ ys[i]? = some y,
    fun i H v H' => ∃ T x y, v = .ref T ∧ H T = none ∧ H' = upd H T (.tup [x, y]) ∧ (∀ xs, SqT K H a xs → xs[i]? = some x) ∧ ∀ ys, SqL K H b ys → ys[i]? = some y,
    fun i H => ∃ xs ys : List V, SqT K H a xs ∧ SqL K H b ys ∧ (xs.length ≤ i ∨ ys.length ≤ i)⟩
theorem turn_zipM {P : Program} {w : World} {K : PySem.W.Frag} {elts : List Expr} {kk : Nat} {tpos : Pos} {a b z TI TO i1 i2 : Addr} (D : ZipApart z TI TO i1 i2 a b) :
    Turn P w K (.Tuple elts kk tpos) (ItzM K a b) [z, TI, TO, i1, i2] z (fun i h => IsZip h z TI TO .none ∧ IsPair h TI (.ref i1) (.ref i2) ∧ (∃ x y, IsPair h TO x y) ∧ h.IsTupleIter i1 a i ∧ h.IsListIter i2 b i) where
  mem := by simp
  obj := fun i h st c hc => by
    obtain ⟨hz, hTI, ⟨x, y, hTO⟩, ⟨o1, e1, _, d1⟩, ⟨o2, e2, _, d2⟩⟩ := st
    have e' : c = z ∨ c = TI ∨ c = TO ∨ c = i1 ∨ c = i2 := by simpa using hc
    rcases e' with rfl | rfl | rfl | rfl | rfl
    · exact ⟨_, hz, fun v q => nomatch q⟩
    · exact ⟨_, hTI, fun v q => nomatch q⟩
    · exact ⟨_, hTO, fun v q => nomatch q⟩
    · exact ⟨o1, e1, fun v q => by rw [d1] at q; cases q⟩
    · exact ⟨o2, e2, fun v q => by rw [d2] at q; cases q⟩
  keep := fun i h h' st k => by
    obtain ⟨hz, hTI, ⟨x, y, hTO⟩, h1, h2⟩ := st
    exact ⟨k z (by simp) _ hz, k TI (by simp) _ hTI, ⟨x, y, k TO (by simp) _ hTO⟩, h1.at fun o q => k i1 (by simp) o q, h2.at fun o q => k i2 (by simp) o q⟩
  item := by
    intro X hP hw hK hc i pins s σ H E I hf st hg
    subst hP hw hK
    obtain ⟨hz, hTI, ⟨x0, y0, hTO⟩, h1, h2⟩ := st
    obtain ⟨xs, ys, x, y, hqx, hqy, hx, hy⟩ := hg
    obtain ⟨its, rv, p, _⟩ := I.tuple hqx
    obtain ⟨its2, rv2, p2, _⟩ := I.list hqy
    obtain ⟨u, hu, ru⟩ := rv.get hx
    obtain ⟨u2, hu2, ru2⟩ := rv2.get hy
    have hzl : z < s.heap.objs.size := Heap.lt_size hz
    refine next_give (R := fun v s' => ∃ h', v = .ref s.heap.objs.size ∧ s' = { s with heap := h' } ∧ IsZip h' z TI TO (rawInt s.heap.objs.size) ∧ (h'.IsTupleIter i1 a (i + 1) ∧ h'.IsTuple a its.toArray) ∧ (h'.IsListIter i2 b (i + 1) ∧ h'.IsList b its2.toArray) ∧ IsPair h' s.heap.objs.size u u2 ∧ IsPair h' TO u u2 ∧ (∀ c o, c ≠ z → c ≠ TO → c ≠ i1 → c ≠ i2 → s.heap.get? c = some o → h'.get? c = some o)) ⟨_, hz, rfl⟩
      (fun A' E' Q' hr => first_itemT (src_tup D.l1i1) (src_list D.l2i2) D hz hTI hTO ⟨h1, show s.heap.IsTuple a its.toArray from p⟩ ⟨h2, p2.isList⟩ (by simpa using hu) (by simpa using hu2) fun h' c1 c2 c3 c4 c5 _ c6 => hr _ _ ⟨h', rfl, rfl, c1, c2, c3, c4, c5, c6⟩) ?_
    rintro _ _ ⟨h', rfl, rfl, z', ⟨h1', _⟩, ⟨h2', _⟩, hT, hTO', hk⟩
    refine ⟨_, rfl, wpAny_letOwnedTupleGo_zip (s := { s with heap := h' }) z' fun h'' z'' sb => ?_⟩
    have hT2 : h''.get? s.heap.objs.size = some { cls := .type "tuple", data := .seq #[u, u2] } := (sb.2 _ (Nat.ne_of_gt hzl)).trans hT
    have new : ObjOk X.prog X.w (upd H s.heap.objs.size (.tup [x, y])) h'' s.heap.objs.size (.tup [x, y]) :=
      ⟨by show 2 ≤ sizeLine; decide, [u, u2], .cons ru (.cons ru2 .nil), ⟨_, hT2, rfl, _, rfl⟩⟩
    have I1 : Inv X pins σ (upd H s.heap.objs.size (.tup [x, y])) { s with heap := h'' } :=
      I.turnedNew (t' := s.toks) (ch := [z, TI, TO, i1, i2]) (fun c o hb q => (sb.2 c (fun q' => hb (by simp [q']))).trans (hk c o (fun q' => hb (by simp [q'])) (fun q' => hb (by simp [q'])) (fun q' => hb (by simp [q'])) (fun q' => hb (by simp [q'])) q)) hf (Nat.le_refl _) new
    refine ⟨.ref s.heap.objs.size, _, I1, rfl, ⟨_, x, y, rfl, I.hok.fresh (Nat.le_refl _), rfl, fun l hl => by rw [I.tuple_inj hl hqx]; exact hx, fun l hl => by rw [I.list_inj hl hqy]; exact hy⟩, ⟨z'', ?_, ⟨u, u2, ?_⟩, ?_, ?_⟩, fun c hcm => ?_⟩
    · exact (sb.2 _ D.TIz).trans (hk _ _ D.TIz D.TITO D.TIi1 D.TIi2 hTI)
    · exact (sb.2 _ D.TOz).trans hTO'
    · exact h1'.at fun o q => (sb.2 _ D.i1z).trans q
    · exact h2'.at fun o q => (sb.2 _ D.i2z).trans q
    · have hlt : c < s.heap.objs.size := by
        have e' : c = z ∨ c = TI ∨ c = TO ∨ c = i1 ∨ c = i2 := by simpa using hcm
        rcases e' with rfl | rfl | rfl | rfl | rfl
        · exact hzl
        · exact Heap.lt_size hTI
        · exact Heap.lt_size hTO
        · obtain ⟨_, e1, _⟩ := h1; exact Heap.lt_size e1
        · obtain ⟨_, e2, _⟩ := h2; exact Heap.lt_size e2
      rw [upd_ne (Nat.ne_of_lt hlt)]
      exact (hf c hcm).1
  done := by
    intro X hP hw hK hc i pins s σ H E I hf st hg
    subst hP hw hK
    obtain ⟨hz, hTI, ⟨x0, y0, hTO⟩, h1, h2⟩ := st
    obtain ⟨xs, ys, hqx, hqy, hend⟩ := hg
    obtain ⟨its, rv, p, _⟩ := I.tuple hqx
    obtain ⟨its2, rv2, p2, _⟩ := I.list hqy
    have l1 := rv.length
    have l2 := rv2.length
    have he : its.toArray[i]? = none ∨ its2.toArray[i]? = none := by
      rcases hend with q | q
      · exact .inl (by simp; omega)
      · exact .inr (by simp; omega)
    refine next_stop (R := fun h' => ∀ c o, c ≠ z → c ≠ TO → c ≠ i1 → c ≠ i2 → s.heap.get? c = some o → h'.get? c = some o) (I.ok.hd hc) ⟨_, hz, rfl⟩
      (fun A' E' Q' hh hr => first_end hh (src_tup D.l1i1) (src_list D.l2i2) D hz hTI hTO ⟨h1, show s.heap.IsTuple a its.toArray from p⟩ ⟨h2, p2.isList⟩ he fun h' e c es => hr h' e c es) fun h' hk => ?_
    exact ⟨rfl, I.turnedL (t' := s.toks) (ch := [z, TI, TO, i1, i2]) (fun c o hb q => hk c o (fun q' => hb (by simp [q'])) (fun q' => hb (by simp [q'])) (fun q' => hb (by simp [q'])) (fun q' => hb (by simp [q'])) q) hf⟩
  self := fun A i s Q E st h => wpAny_pyIter_zip st.1 h
/-! zip made of a tuple and a list -/
abbrev nz1 (h : Heap) (l1 : Addr) : Heap := h.push { cls := .type "tuple_iterator", data := .fields #[.ref l1, .int 0 0] }
abbrev nz2 (h : Heap) (l1 l2 : Addr) : Heap := (nz1 h l1).push { cls := .type "list_iterator", data := .fields #[.ref l2, .int 0 0] }
abbrev nz3 (h : Heap) (l1 l2 : Addr) : Heap := (nz2 h l1 l2).push { cls := .type "tuple", data := .seq #[.ref h.objs.size, .ref (nz1 h l1).objs.size] }
abbrev nz4 (h : Heap) (l1 l2 : Addr) : Heap := (nz3 h l1 l2).push { cls := .type "tuple", data := .seq #[.none, .none] }
abbrev nz5 (h : Heap) (l1 l2 : Addr) : Heap := (nz4 h l1 l2).push { cls := .type "zip", data := .fields #[.none, .bool false, .bool false, .ref (nz2 h l1 l2).objs.size, .ref (nz3 h l1 l2).objs.size] }
theorem madeM (l1 l2 : Addr) (xs ys : Array Value) : Meets (Builtin.«zip.__new__» ⟨[.type "zip", .ref l1, .ref l2], []⟩) (fun _ R s => s.heap.IsTuple l1 xs ∧ s.heap.IsList l2 ys ∧ R (.ok (.ret (.ref (nz4 s.heap l1 l2).objs.size))) { s with heap := nz5 s.heap l1 l2 }) :=
  .of_wp fun prog w A R s h => by
    obtain ⟨hp, g, d, tk, os⟩ := s
    obtain ⟨a1, a2, h⟩ := h
    have sub := sub_zip
    have b1 : Heap.IsTuple (Shared.heap ⟨hp, g, d, tk, os⟩) l1 xs := a1
    have b2 : Heap.IsList (Shared.heap ⟨hp.push { cls := .type "tuple_iterator", data := .fields #[.ref l1, .int 0 0] }, g, d, tk, os⟩) l2 ys := Heap.IsList.push a2 _
    wp_walk using wpAny_pyIter_tuple b1, wpAny_pyIter_list b2
    exact ⟨_, rfl, h⟩
section
variable {prog : Program} {w : World} {A : Around} {E : Value → Shared → Prop} {s : Shared} {l1 l2 : Addr} {xs ys : Array Value}
theorem call_mixM {Q : Value → Shared → Prop} (a1 : s.heap.IsTuple l1 xs) (a2 : s.heap.IsList l2 ys)
    (h : ∀ h', IsZip h' (s.heap.objs.size + 4) (s.heap.objs.size + 2) (s.heap.objs.size + 3) .none → IsPair h' (s.heap.objs.size + 2) (.ref s.heap.objs.size) (.ref (s.heap.objs.size + 1)) → IsPair h' (s.heap.objs.size + 3) .none .none →
      h'.IsTupleIter s.heap.objs.size l1 0 → h'.IsListIter (s.heap.objs.size + 1) l2 0 → (∀ c o, s.heap.get? c = some o → h'.get? c = some o) → Q (.ref (s.heap.objs.size + 4)) { s with heap := h' }) :
    wpAny (model prog w) A (call (.type "zip") [.ref l1, .ref l2]) Q E s := by
  refine callType_new F.called_zip (by decide) (F.typeCall_zip_2 _ _) (F.newCall_zip_2 _ _) (fun o => F.args_object_init_3 o _ _) F.entry_zip_new (madeM l1 l2 xs ys) ⟨a1, a2, ?_⟩
  have e1 : (nz1 s.heap l1).objs.size = s.heap.objs.size + 1 := Heap.size_push ..
  have e2 : (nz2 s.heap l1 l2).objs.size = s.heap.objs.size + 2 := by rw [Heap.size_push, e1]
  have e3 : (nz3 s.heap l1 l2).objs.size = s.heap.objs.size + 3 := by rw [Heap.size_push, e2]
  have e4 : (nz4 s.heap l1 l2).objs.size = s.heap.objs.size + 4 := by rw [Heap.size_push, e3]
  have p1 : ∀ c o, (nz1 s.heap l1).get? c = some o → (nz5 s.heap l1 l2).get? c = some o := fun c o q => Heap.get?_push_of_some _ (Heap.get?_push_of_some _ (Heap.get?_push_of_some _ (Heap.get?_push_of_some _ q)))
  have p2 : ∀ c o, (nz2 s.heap l1 l2).get? c = some o → (nz5 s.heap l1 l2).get? c = some o := fun c o q => Heap.get?_push_of_some _ (Heap.get?_push_of_some _ (Heap.get?_push_of_some _ q))
  have f1 := p1 _ _ (Heap.get?_push_size s.heap (o := { cls := .type "tuple_iterator", data := .fields #[.ref l1, .int 0 0] }) rfl)
  have f2 := p2 _ _ (Heap.get?_push_size (nz1 s.heap l1) (o := { cls := .type "list_iterator", data := .fields #[.ref l2, .int 0 0] }) rfl)
  have f3 : (nz5 s.heap l1 l2).get? (nz2 s.heap l1 l2).objs.size = some _ := Heap.get?_push_of_some _ (Heap.get?_push_of_some _ (Heap.get?_push_size _ rfl))
  have f4 : (nz5 s.heap l1 l2).get? (nz3 s.heap l1 l2).objs.size = some _ := Heap.get?_push_of_some _ (Heap.get?_push_size _ rfl)
  have f5 : (nz5 s.heap l1 l2).get? (nz4 s.heap l1 l2).objs.size = some _ := Heap.get?_push_size _ rfl
  show _ ∧ _
  rw [e1] at f2; rw [e1, e2] at f3; rw [e3] at f4; rw [e2, e3, e4] at f5; rw [e4]
  exact ⟨⟨_, f5, rfl⟩, h _ f5 f3 f4 ⟨_, f1, rfl, rfl⟩ ⟨_, f2, rfl, rfl⟩ fun c o q => p1 _ _ (Heap.get?_push_of_some _ q)⟩
end
def iZipM (K : PySem.W.Frag) (ta : TA) : TI := fun σ H R => ta σ H fun vs H1 => ∃ a b xs ys, vs = [.ref a, .ref b] ∧ SqT K H1 a xs ∧ SqL K H1 b ys ∧ R (ItzM K a b) H1
theorem pi_zipM {X : Cx} {e e2 : Expr} {ta : TA} {p pos tpos : Pos} {elts : List Expr} {kk : Nat} (hg : Gl X "zip") (hm : X.mg "zip" = none) (ha : PA X [e, e2] ta)
    (hs : starEach [e, e2] X.env = (false, eval e X.env) :: starEach [e2] X.env := by rfl) (hpl : (backTo pos (starEach [e2] X.env)).any (·.1) = false := by rfl) :
    PI X (.Tuple elts kk tpos) (.Call (.Name "zip" p) [e, e2] [] pos) (iZipM X.K ta) := by
  refine ⟨fun pins s σ H R I h => ?_⟩
  refine Call_ (ld_blt I hg hm PyProof.Rows.boot_zip (PyProof.Rows.callWith_type1 (thn (ha.run pos pins s σ H _ I h) fun us s1 ⟨vs, H1, I1, r1, a, b, xs, ys, ex, hqx, hqy, q⟩ => ?_) hs hpl))
  subst ex
  obtain ⟨u1, u2, rfl, ra, rb⟩ := vals2 r1
  cases ra
  cases rb
  obtain ⟨its, rv, p1, _⟩ := I1.tuple hqx
  obtain ⟨its2, rv2, p2, _⟩ := I1.list hqy
  obtain ⟨o1, ho1, _⟩ := id p1
  have fresh5 : ∀ c, c ∈ [s1.heap.objs.size + 4, s1.heap.objs.size + 2, s1.heap.objs.size + 3, s1.heap.objs.size, s1.heap.objs.size + 1] → FpOk X pins H1 c := fun c hcm => by
    have e' : c = s1.heap.objs.size + 4 ∨ c = s1.heap.objs.size + 2 ∨ c = s1.heap.objs.size + 3 ∨ c = s1.heap.objs.size ∨ c = s1.heap.objs.size + 1 := by simpa using hcm
    have hle : s1.heap.objs.size ≤ c := by
      rcases e' with z | z | z | z | z <;> rw [z] <;> first | exact Nat.le_add_right _ _ | exact Nat.le_refl _
    exact I1.fpOk hle (I1.hok.fresh hle)
  refine call_mixM (show s1.heap.IsTuple a its.toArray from p1) p2.isList fun h' hz hTI hTO h1 h2 hk => wpAny_pyIter_zip hz ?_
  have I2 : Inv X pins σ H1 { s1 with heap := h' } := I1.kept (t' := s1.toks) hk
  exact ⟨s1.heap.objs.size + 4, [s1.heap.objs.size + 4, s1.heap.objs.size + 2, s1.heap.objs.size + 3, s1.heap.objs.size, s1.heap.objs.size + 1], _, _, H1, rfl, I2, turn_zipM (PySem.W.ktu_apart s1.heap.objs.size a b (Heap.lt_size ho1) p2.lt), ⟨hz, hTI, ⟨_, _, hTO⟩, h1, h2⟩, fresh5, q⟩
theorem walk_zipM {K : PySem.W.Frag} {a b : Addr} {xs ys : List V} {n : Nat} (hn : n = min xs.length ys.length) : Walk (ItzM K a b) n (fun H => SqT K H a xs ∧ SqL K H b ys) (YPair (fun i => xs[i]?) (fun i => ys[i]?)) := by
  subst hn
  refine ⟨fun i _ hi q => ?_, fun _ q => ⟨xs, ys, q.1, q.2, by omega⟩, fun i H v H' _ q y => ?_⟩
  · exact ⟨xs, ys, xs[i]'(by omega), ys[i]'(by omega), q.1, q.2, List.getElem?_eq_getElem _, List.getElem?_eq_getElem _⟩
  · obtain ⟨T, x, z, e1, e2, e3, e4, e5⟩ := y
    exact ⟨T, x, z, e1, e2, e3, e4 xs q.1, e5 ys q.2⟩
/-- a comprehension that looks at each thing of a walk -/
theorem lc_looks {J : It} {n : Nat} {G : Hp → Prop} {Y : Nat → Hp → V → Hp → Prop} (w : Walk J n G Y) {g : TG} {te : TE} {vs : List Nat} {σ : L2.St} {H : Hp} {R9 : Addr → Hp → Prop} (f : Nat → Bool) (hn : n ≤ 100000) (hG : ∀ H', Same H H' → G H')
    (hs : ∀ (i : Nat) (x : V) (H1 H2 : Hp) (Q' : VK), i < n → Same H H1 → Y i H1 x H2 → (∀ H3, Same H1 H3 → Q' (.bl (f i)) H3) → g x (wipe σ vs) H2 fun σ2 H3 => wipe σ2 vs = wipe σ vs ∧ te σ2 H3 Q')
    (mono : ∀ {x : V} {K1 K2 : L2.St → Hp → Prop} {σ' : L2.St} {H' : Hp}, (∀ s h, K1 s h → K2 s h) → g x σ' H' K1 → g x σ' H' K2)
    (hq : ∀ D H', H D = none → H' D = some (.lst ((List.range n).map fun i => V.bl (f i))) → Same H H' → R9 D H') :
    ∀ D, H D = none → ∃ W : Nat → Nat → Hp → Prop, (∃ m, W 0 m (upd H D (.lst []))) ∧ ∀ i m H, W i m H →
      (J.stop i H ∧ R9 D H) ∨ (J.go i H ∧ ∃ Nx : Hp → Prop, (∀ H', Nx H' → ∃ m', m' < m ∧ W (i + 1) m' H') ∧ ∀ x H', J.yld i H x H' → g x (wipe σ vs) H' fun σ2 H2 => wipe σ2 vs = wipe σ vs ∧ tYes σ2 H2 fun b H3 =>
        if b = true then te σ2 H3 fun y H4 => ∃ acc, H4 D = some (.lst acc) ∧ acc.length < sizeLine ∧ Nx (upd H4 D (.lst (acc ++ [y]))) else Nx H3) := by
  intro D hD
  refine lc_it w (Qd := R9 D) (fun i H' => H' D = some (.lst ((List.range i).map fun i => V.bl (f i))) ∧ Same H H') ⟨upd_same, Same.new hD⟩ (fun i H' _ hW => hG H' hW.2) (fun i x H1 H2 hi hW hY => ?_) (fun H' hW => hq D H' hD hW.1 hW.2)
  obtain ⟨hat, sm⟩ := hW
  refine mono (fun s h q => ⟨q.1, ?_⟩) (hs i x H1 H2 (fun y H4 => ∃ acc, H4 D = some (.lst acc) ∧ acc.length < sizeLine ∧ ((upd H4 D (.lst (acc ++ [y]))) D = some (.lst ((List.range (i + 1)).map fun i => V.bl (f i))) ∧ Same H (upd H4 D (.lst (acc ++ [y]))))) hi sm hY fun H3 s3 => ?_)
  · unfold tYes; dsimp only
    rw [if_pos rfl]
    exact q.2
  · refine ⟨_, s3 _ _ hat, by rw [List.length_map, List.length_range, sizeLine_eq]; omega, ?_, fun b o hb => ?_⟩
    · rw [List.range_succ, List.map_append]
      exact upd_same
    · rw [upd_ne (fun z => by rw [z, hD] at hb; cases hb)]
      exact s3 _ _ (sm _ _ hb)
end MixW
set_option Elab.async false
set_option linter.all false
set_option maxRecDepth 100000
set_option maxHeartbeats 1000000
namespace K31
open PySem PySem.Spec PyProof.Rows L2 MixW
open C8 (Cal Def cal0 pe_c fnBody fnScope fnArgs)
section
variable {K : PySem.W.Frag}
theorem tk_at {H : Hp} {v : V} {k : Kd} (h : Tn K H v k.d) : ∃ a xs, v = .ref a ∧ SqT K H a xs ∧ xs[0]? = some (.str k.word) ∧ (∀ k', k = .lst k' → ∃ v', xs = [.str "list", v'] ∧ Tn K H v' k'.d) ∧ (∀ z, k = .rcd z → xs = [.str "record", .str z]) := by
  cases k with
  | num =>
    obtain ⟨a, xs, rfl, hq, hx⟩ := Tn.tup (ds := [.str "number"]) h
    obtain ⟨v1, r1, rfl, h1, h2⟩ := hx.uncons
    obtain rfl := h1.strv
    exact ⟨a, _, rfl, hq, rfl, (fun _ e => nomatch e), fun _ e => nomatch e⟩
  | tru =>
    obtain ⟨a, xs, rfl, hq, hx⟩ := Tn.tup (ds := [.str "truth"]) h
    obtain ⟨v1, r1, rfl, h1, h2⟩ := hx.uncons
    obtain rfl := h1.strv
    exact ⟨a, _, rfl, hq, rfl, (fun _ e => nomatch e), fun _ e => nomatch e⟩
  | rcd z =>
    obtain ⟨a, xs, rfl, hq, hx⟩ := Tn.tup (ds := [.str "record", .str z]) h
    obtain ⟨v1, r1, rfl, h1, h2⟩ := hx.uncons
    obtain ⟨v2, r2, rfl, h3, h4⟩ := h2.uncons
    obtain rfl := h1.strv
    obtain rfl := h3.strv
    have := List.length_eq_zero_iff.mp h4.len
    subst this
    exact ⟨a, _, rfl, hq, rfl, (fun _ e => nomatch e), fun _ e => by cases e; rfl⟩
  | lst k' =>
    obtain ⟨a, xs, rfl, hq, hx⟩ := Tn.tup (ds := [.str "list", k'.d]) h
    obtain ⟨v1, r1, rfl, h1, h2⟩ := hx.uncons
    obtain ⟨v2, r2, rfl, h3, h4⟩ := h2.uncons
    obtain rfl := h1.strv
    have := List.length_eq_zero_iff.mp h4.len
    subst this
    exact ⟨a, _, rfl, hq, rfl, (fun _ e => by cases e; exact ⟨v2, rfl, h3⟩), fun _ e => nomatch e⟩
theorem word_list {k : Kd} (h : k.word = "list") : ∃ k', k = .lst k' := by
  cases k with
  | lst k' => exact ⟨k', rfl⟩
  | num => exact absurd h (by decide +kernel)
  | tru => exact absurd h (by decide +kernel)
  | rcd z => exact absurd h (by show ¬ (("record" : Str) = "list"); decide +kernel)
theorem word_rec {k : Kd} (h : k.word = "record") : ∃ z, k = .rcd z := by
  cases k with
  | rcd z => exact ⟨z, rfl⟩
  | num => exact absurd h (by decide +kernel)
  | tru => exact absurd h (by decide +kernel)
  | lst k => exact absurd h (by show ¬ (("list" : Str) = "record"); decide +kernel)
/-! ### the program, as it is asked -/
/-- fields: a tuple of pairs -/
def Fd (K : PySem.W.Frag) (H : Hp) (t : Addr) (fs : List (Str × Kd)) : Prop := ∃ ps : List Addr, PlT H t (ps.map V.ref) ∧ Paired (fun p (a : Str × Kd) => ∃ v, SqT K H p [.str a.1, v] ∧ Tn K H v a.2.d) ps fs ∧ (fs.map (·.1)).Nodup
def MpK (K : PySem.W.Frag) (H : Hp) (kvs : List (Key × V)) (m : Str → Option Kd) : Prop := ∀ z : Str, (valV kvs (.inr z) = none ∧ m z = none) ∨ ∃ v k, valV kvs (.inr z) = some v ∧ m z = some k ∧ Tn K H v k.d
structure Pg (K : PySem.W.Frag) (H : Hp) (pa : Addr) (c : En) (d0 d1 : Addr) (x2 : V) (kv0 kv1 : List (Key × V)) : Prop where
  at_ : SqT K H pa [.ref d0, .ref d1, x2]
  a0 : H d0 = some (.dK kv0)
  a1 : H d1 = some (.dK kv1)
  f : ∀ z : Str, (valV kv0 (.inr z) = none ∧ c.f z = none) ∨ ∃ t fs, valV kv0 (.inr z) = some (.ref t) ∧ c.f z = some fs ∧ Fd K H t fs
  b : ∀ z : Str, (valV kv1 (.inr z) = none ∧ c.b z = none) ∨ ∃ t kv x k, valV kv1 (.inr z) = some (.ref t) ∧ c.b z = some k ∧ SqT K H t [kv, x] ∧ Tn K H kv k.d
def PgOk (K : PySem.W.Frag) (H : Hp) (pa : Addr) (c : En) : Prop := ∃ d0 d1 x2 kv0 kv1, Pg K H pa c d0 d1 x2 kv0 kv1
theorem Fd.same {H H' : Hp} {t : Addr} {fs : List (Str × Kd)} (e : Same H H') (h : Fd K H t fs) : Fd K H' t fs := by
  obtain ⟨ps, h1, h2, h3⟩ := h
  exact ⟨ps, h1.mono e, Paired.mapP h2 fun _ _ ⟨v, a, b⟩ => ⟨v, sqT_mono e a, b.tr (TR.same e)⟩, h3⟩
theorem MpK.tr {H H' : Hp} {kvs : List (Key × V)} {m : Str → Option Kd} (h : MpK K H kvs m) (e : TR H H') : MpK K H' kvs m := fun z => by
  rcases h z with h | ⟨v, k, h1, h2, h3⟩
  · exact .inl h
  · exact .inr ⟨v, k, h1, h2, h3.tr e⟩
theorem Pg.same {H H' : Hp} {pa d0 d1 : Addr} {c : En} {x2 : V} {kv0 kv1 : List (Key × V)} (h : Pg K H pa c d0 d1 x2 kv0 kv1) (e : Same H H') : Pg K H' pa c d0 d1 x2 kv0 kv1 := by
  refine ⟨sqT_mono e h.at_, e _ _ h.a0, e _ _ h.a1, fun z => ?_, fun z => ?_⟩
  · rcases h.f z with h | ⟨t, fs, h1, h2, h3⟩
    · exact .inl h
    · exact .inr ⟨t, fs, h1, h2, h3.same e⟩
  · rcases h.b z with h | ⟨t, kv, x, k, h1, h2, h3, h4⟩
    · exact .inl h
    · exact .inr ⟨t, kv, x, k, h1, h2, sqT_mono e h3, h4.tr (TR.same e)⟩
theorem PgOk.same {H H' : Hp} {pa : Addr} {c : En} (h : PgOk K H pa c) (e : Same H H') : PgOk K H' pa c := let ⟨_, _, _, _, _, h⟩ := h; ⟨_, _, _, _, _, h.same e⟩
end
section
variable {P : Program} {w : World} {K : PySem.W.Frag} {mg : Str → Option Value} {base : Heap}
def baseL (k : Kd) : List V := match k.base with
  | some z => [.str z]
  | none => []
def spNames (K : PySem.W.Frag) : Sp := fun vs H Q _ => ∃ v k, vs = [v] ∧ Tn K H v (Kd.d k) ∧ ∀ l H', H l = none → Same H H' → H' l = some (.lst (baseL k)) → Q (.ref l) H'
abbrev sPNamesIn : Stmt := topS 3
abbrev NPNamesIn : List Str := ["kind"]
theorem scPNamesIn : FnScope NPNamesIn ["kind"] (fnScope sPNamesIn) := ⟨rfl, rfl, rfl, by decide +kernel, rfl, by decide +kernel, by decide +kernel⟩
theorem c_namesIn {f : Addr} {fd : FuncData} (D : Def K mg "names_in" sPNamesIn f fd) (b : Binds K fd ["kind"] []) : Cal P w K mg base 1 "names_in" (spNames K) [] := by
  refine cal0 D b .nil scPNamesIn (fun vs H Q E h => ?_) (fun cdv A outer s H vs Q E hr h => ?_)
  · obtain ⟨v, k, rfl, _⟩ := h
    rfl
  · obtain ⟨v0, k0, rfl, hd0, q⟩ := h
    have nd := scPNamesIn.nd
    refine ⟨_, (pss_cons (ps_while PassesOwn.never (pt_cmpR op_eq (pe_ix ix_tup (pv 0) pe_int (fun _ _ => rfl)) pe_str (nomark _))
      (pss_one (ps_set (i := 0) nd rfl (.inl rfl) (pe_ix ix_tup (pv 0) pe_int (fun _ _ => rfl)))))
    (pss_cons (ps_if (pt_cmpR op_eq (pe_ix ix_tup (pv 0) pe_int (fun _ _ => rfl)) pe_str (nomark _))
      (pss_one (ps_ret (pe_lst (pa_cons (pe_ix ix_tup (pv 0) pe_int (fun _ _ => rfl)) pa_nil))))
      pss_nil)
    (pss_one (ps_ret (pe_lst pa_nil))))), ?_⟩
    refine ⟨fun m σ H1 => ∃ v k, σ = [some v] ∧ Tn K H1 v (Kd.d k) ∧ k.base = k0.base ∧ H1 = H ∧ m = k.deep, ⟨_, v0, k0, rfl, hd0, rfl, rfl, rfl⟩, ?_⟩
    rintro m σ H1 ⟨v, k, rfl, hd, hk, rfl, rfl⟩
    obtain ⟨a, xs, rfl, hq, hx0, hxl, hxr⟩ := tk_at hd
    refine ⟨_, rfl, a, xs, _, _, rfl, rfl, hq, atI_nat (j := 0) hx0, rfl, _, rfl, ite2 (fun e => ?_) (fun e => ?_)⟩
    · obtain ⟨k', rfl⟩ := word_list (V.str.inj (of_decide_eq_true e))
      obtain ⟨v', rfl, hd'⟩ := hxl k' rfl
      refine ⟨fun σ' H' => ∃ m', m' < _ ∧ ∃ v k, σ' = [some v] ∧ Tn K H' v (Kd.d k) ∧ k.base = k0.base ∧ H' = H1 ∧ m' = k.deep, fun σ' H' h => h, ?_⟩
      refine ⟨_, rfl, a, _, _, v', rfl, rfl, hq, atI_nat (j := 1) rfl, ?_⟩
      exact ⟨k'.deep, Nat.lt_succ_self _, v', k', rfl, hd', hk, rfl, rfl⟩
    · refine ⟨_, rfl, a, xs, _, _, rfl, rfl, hq, atI_nat (j := 0) hx0, rfl, _, rfl, ite2 (fun e2 => ?_) (fun e2 => ?_)⟩
      · obtain ⟨z, rfl⟩ := word_rec (V.str.inj (of_decide_eq_true e2))
        have hx := hxr z rfl
        subst hx
        refine ⟨_, rfl, a, _, _, .str z, rfl, rfl, hq, atI_nat (j := 1) rfl, (by show 1 ≤ sizeLine; decide), fun l hl => ?_⟩
        refine q l _ hl (Same.new hl) ?_
        unfold baseL
        rw [upd_same, ← hk]
        rfl
      · refine ⟨(by show 0 ≤ sizeLine; decide), fun l hl => ?_⟩
        refine q l _ hl (Same.new hl) ?_
        unfold baseL
        rw [upd_same, ← hk]
        cases k with
        | lst k' => exact absurd (decide_eq_true rfl) e
        | rcd z => exact absurd (decide_eq_true rfl) e2
        | num => rfl
        | tru => rfl
theorem gName_mono {k : Nat} {x : V} {K1 K2 : L2.St → Hp → Prop} {σ' : L2.St} {H' : Hp} (h : ∀ s h, K1 s h → K2 s h) (q : gName k x σ' H' K1) : gName k x σ' H' K2 := h _ _ q
theorem wipe1 {σ : L2.St} {k : Nat} {x : V} : wipe ((wipe σ [k]).set k (some x)) [k] = wipe σ [k] := by
  show ((wipe σ [k]).set k (some x)).set k none = wipe σ [k]
  rw [List.set_set]
  show ((σ.set k none).set k none) = σ.set k none
  rw [List.set_set]
def spThere (K : PySem.W.Frag) : Sp := fun vs H Q _ => ∃ v k pa c, vs = [v, .ref pa] ∧ Tn K H v (Kd.d k) ∧ PgOk K H pa c ∧ ∀ H', Same H H' → Q (.bl (thereK c k)) H'
abbrev sPIsThere : Stmt := topS 10
abbrev NPIsThere : List Str := ["kind", "program", "name"]
theorem scPIsThere : FnScope NPIsThere ["kind", "program"] (fnScope sPIsThere) := ⟨rfl, rfl, rfl, by decide +kernel, rfl, by decide +kernel, by decide +kernel⟩
theorem c_isThere (T : Tp mg) (c_PNamesIn : Cal P w K mg base 1 "names_in" (spNames K) []) {f : Addr} {fd : FuncData} (D : Def K mg "is_there" sPIsThere f fd) (b : Binds K fd ["kind", "program"] []) : Cal P w K mg base 2 "is_there" (spThere K) [] := by
  refine cal0 D b .nil scPIsThere (fun vs H Q E h => ?_) (fun cdv A outer s H vs Q E hr h => ?_)
  · obtain ⟨v, k, pa, c, rfl, _⟩ := h
    rfl
  · obtain ⟨v, k, pa, c, rfl, hv, hp, q⟩ := h
    have nd := scPIsThere.nd
    refine ⟨_, (pss_one (ps_ret (pe_callB (cr_all rfl) (by rfl) T.n_all (by decide +kernel) (pa_cons (pe_lc (own := [("name", 2)]) (g := gName 2) (by rfl) nd (pi_list (pe_c c_PNamesIn hr (by decide) (by rfl) (pa_cons (pv 0) pa_nil))) (blkOk_by (own := [("name", 2)]) (N := NPIsThere) (sc := fnScope sPIsThere) (by decide +kernel)) (fun _ _ _ _ _ => pg_name (i := 2) nd rfl (Or.inl rfl)) (fun _ _ _ _ _ => pts_nil) (fun _ _ _ _ _ => pe_cmp (pc_din (hu_of hr) (pv 2) (pe_ix (r := rIxT K) ix_tup (pv 1) pe_int (fun _ _ => rfl))) rfl)) pa_nil)))), ?_⟩
    refine ⟨_, rfl, v, k, rfl, hv, fun l H1 hl s1 hat => ⟨l, rfl, ⟨_, SqL.of hat⟩, ?_⟩⟩
    have hp1 := hp.same s1
    refine lc_looks (walk_list (K := K) (a := l) (xs := baseL k)) (fun _ => thereK c k) (by unfold baseL; split <;> simp) (fun H' s => SqL.of (s _ _ hat)) (fun i x H2 H3 Q' hi s2 hY hQ => ?_) gName_mono (fun Dl H2 hD hat2 s2 => ?_)
    · obtain ⟨rfl, hx⟩ := hY
      refine ⟨wipe1, ?_⟩
      obtain ⟨d0, d1, x2, kv0, kv1, pg⟩ := hp1.same s2
      obtain ⟨z, hz, rfl⟩ : ∃ z, k.base = some z ∧ x = .str z := by
        unfold baseL at hx
        cases e : k.base with
        | none => rw [e] at hx; simp at hx
        | some z =>
          rw [e] at hx
          cases i with
          | zero => exact ⟨z, rfl, by simpa using hx.symm⟩
          | succ i => simp at hx
      refine ⟨_, rfl, _, rfl, pa, _, 0, .ref d0, rfl, rfl, pg.at_, atI_nat (j := 0) rfl, d0, _, rfl, DGet.k (k := .inr z) pg.a0, ?_⟩
      have e : (valV kv0 (.inr z)).isSome = thereK c k := by
        have e2 : thereK c k = (c.f z).isSome := by
          unfold thereK
          rw [hz]
        rw [e2]
        rcases pg.f z with ⟨h1, h2⟩ | ⟨t, fs, h1, h2, _⟩ <;> rw [h1, h2] <;> rfl
      rw [e]
      exact hQ _ (Same.refl _)
    · refine ⟨Dl, (List.range (baseL k).length).map fun _ => thereK c k, rfl, SqL.of (by rw [hat2, List.map_map]; rfl), ?_⟩
      have e : ((List.range (baseL k).length).map fun _ => thereK c k).all id = thereK c k := by
        unfold baseL thereK
        cases k.base with
        | none => rfl
        | some z => simp
      rw [e]
      exact q H2 (s1.trans s2)
/-! ### boxes and fields -/
abbrev sPBoxKind : Stmt := topS 15
abbrev NPBoxKind : List Str := ["box", "program"]
theorem scPBoxKind : FnScope NPBoxKind ["box", "program"] (fnScope sPBoxKind) := ⟨rfl, rfl, rfl, by decide +kernel, rfl, by decide +kernel, by decide +kernel⟩
def spBox (K : PySem.W.Frag) : Sp := fun vs H Q _ => ∃ z pa c, vs = [.str z, .ref pa] ∧ PgOk K H pa c ∧ ∀ v, Tn K H v (oD (c.b z)) → Q v H
theorem c_boxKind {f : Addr} {fd : FuncData} (D : Def K mg "_box_kind" sPBoxKind f fd) (b : Binds K fd ["box", "program"] []) : Cal P w K mg base 1 "_box_kind" (spBox K) [] := by
  refine cal0 D b .nil scPBoxKind (fun vs H Q E h => ?_) (fun cdv A outer s H vs Q E hr h => ?_)
  · obtain ⟨z, pa, c, rfl, _⟩ := h
    rfl
  · obtain ⟨z, pa, c, rfl, ⟨d0, d1, x2, kv0, kv1, pg⟩, q⟩ := h
    refine ⟨_, (pss_cons (ps_if (pt_cmp (pc_dnotin (hu_of hr) (pv 0) (pe_ix (r := rIxT K) ix_tup (pv 1) pe_int (fun _ _ => rfl))) rfl)
      (pss_one (ps_ret pe_non))
      pss_nil)
    (pss_one (ps_ret (pe_ix (r := rIxT K) ix_tup (pe_dget (hu_of hr) (pe_ix (r := rIxT K) ix_tup (pv 1) pe_int (fun _ _ => rfl)) (pv 0) (fun _ _ => rfl)) pe_int (fun _ _ => rfl))))), ?_⟩
    refine ⟨_, rfl, _, rfl, pa, _, 1, .ref d1, rfl, rfl, pg.at_, atI_nat (j := 1) rfl, d1, _, rfl, DGet.k (k := .inr z) pg.a1, _, rfl, ?_⟩
    rcases pg.b z with ⟨h1, h2⟩ | ⟨t, kv, x, k, h1, h2, h3, h4⟩
    · rw [h1]
      rw [h2] at q
      exact iteT (q _ ⟨.non, rfl⟩)
    · rw [h1]
      rw [h2] at q
      refine iteF ⟨_, rfl, pa, _, 1, .ref d1, rfl, rfl, pg.at_, atI_nat (j := 1) rfl, _, rfl, d1, .ref t, rfl, ?_, t, _, 0, kv, rfl, rfl, h3, atI_nat (j := 0) rfl, q _ h4⟩
      have := DGet.k (k := .inr z) pg.a1
      rw [h1] at this
      exact this
abbrev sPFieldKind : Stmt := topS 16
abbrev NPFieldKind : List Str := ["kind", "field", "program"]
theorem scPFieldKind : FnScope NPFieldKind ["kind", "field", "program"] (fnScope sPFieldKind) := ⟨rfl, rfl, rfl, by decide +kernel, rfl, by decide +kernel, by decide +kernel⟩
/-- pairs' dict -/
abbrev kvOf (fs : List (Str × Kd)) (vs : List V) : List (Key × V) := (fs.zip vs).map fun q => (Sum.inr q.1.1, q.2)
theorem fd_kvs {H : Hp} : ∀ {ps : List Addr} {fs : List (Str × Kd)}, Paired (fun p (a : Str × Kd) => ∃ v, SqT K H p [.str a.1, v] ∧ Tn K H v a.2.d) ps fs →
    ∃ kvs : List (Key × V), Paired (fun p kv => SqT K H p [kV kv.1, kv.2]) ps kvs ∧ Paired (fun (kv : Key × V) (a : Str × Kd) => kv.1 = Sum.inr a.1 ∧ Tn K H kv.2 a.2.d) kvs fs
  | _, _, .nil => ⟨[], .nil, .nil⟩
  | _, _, .cons (b := a) ⟨v, h1, h2⟩ t => by
    obtain ⟨kvs, r1, r2⟩ := fd_kvs t
    exact ⟨(Sum.inr a.1, v) :: kvs, .cons h1 r1, .cons ⟨rfl, h2⟩ r2⟩
theorem valV_cons {k k2 : Key} {v : V} {l : List (Key × V)} : valV ((k2, v) :: l) k = if k2 = k then some v else valV l k := by
  unfold valV
  rw [List.find?_cons]
  by_cases e : k2 = k
  · simp [e]
  · simp [e]
theorem mpK_of {H : Hp} : ∀ {kvs : List (Key × V)} {fs : List (Str × Kd)}, Paired (fun (kv : Key × V) (a : Str × Kd) => kv.1 = Sum.inr a.1 ∧ Tn K H kv.2 a.2.d) kvs fs → MpK K H kvs (fun z => fs.lookup z)
  | _, _, .nil => fun z => .inl ⟨rfl, rfl⟩
  | _, _, .cons (a := kv) (b := a) ⟨h1, h2⟩ t => fun z => by
    obtain ⟨k0, v0⟩ := kv
    obtain ⟨x, k⟩ := a
    simp only at h1 h2
    subst h1
    show (valV ((Sum.inr x, v0) :: _) (Sum.inr z) = none ∧ List.lookup z ((x, k) :: _) = none) ∨ ∃ v k', valV ((Sum.inr x, v0) :: _) (Sum.inr z) = some v ∧ List.lookup z ((x, k) :: _) = some k' ∧ Tn K H v k'.d
    rw [valV_cons, List.lookup_cons]
    by_cases e : z = x
    · subst e
      refine .inr ⟨v0, k, by simp, by simp, h2⟩
    · have e1 : ¬ (Sum.inr x : Key) = Sum.inr z := fun q => e (Sum.inr.inj q).symm
      have e2 : (z == x) = false := by simpa using e
      rw [if_neg e1, e2]
      exact mpK_of t z
theorem merge_nodup : ∀ {kvs acc : List (Key × V)}, ((acc ++ kvs).map (·.1)).Nodup → mergeK acc kvs = acc ++ kvs
  | [], acc, _ => by rw [List.append_nil]; rfl
  | (k, v) :: kvs, acc, h => by
    have hp : putK acc k v = acc ++ [(k, v)] := by
      unfold putK
      rw [if_neg]
      intro q
      obtain ⟨p, hp, e⟩ := List.any_eq_true.mp q
      have e' : p.1 = k := of_decide_eq_true e
      rw [List.map_append, List.nodup_append] at h
      exact h.2.2 p.1 (List.mem_map_of_mem hp) k (by simp) e'
    show mergeK (putK acc k v) kvs = _
    rw [hp, merge_nodup (by rw [List.append_assoc]; exact h), List.append_assoc]
    rfl
theorem keys_of {H : Hp} : ∀ {kvs : List (Key × V)} {fs : List (Str × Kd)}, Paired (fun (kv : Key × V) (a : Str × Kd) => kv.1 = Sum.inr a.1 ∧ Tn K H kv.2 a.2.d) kvs fs → kvs.map (·.1) = (fs.map (·.1)).map Sum.inr
  | _, _, .nil => rfl
  | _, _, .cons ⟨h1, _⟩ t => by simp [h1, keys_of t]
theorem nodup_inr {l : List Str} (h : l.Nodup) : (l.map (Sum.inr : Str → Key)).Nodup := List.pairwise_map.mpr (List.Pairwise.imp (fun hne e => hne (Sum.inr.inj e)) h)
/-- dict(fields) -/
theorem fd_dict {H : Hp} {t : Addr} {fs : List (Str × Kd)} (hf : Fd K H t fs) :
    ∃ (ps : List Addr) (kvs : List (Key × V)), PlT H t (ps.map V.ref) ∧ Paired (fun p kv => SqT K H p [kV kv.1, kv.2]) ps kvs ∧ mergeK [] kvs = kvs ∧ MpK K H kvs (fun z => fs.lookup z) ∧ kvs.map (·.1) = (fs.map (·.1)).map Sum.inr := by
  obtain ⟨ps, h1, h2, h3⟩ := hf
  obtain ⟨kvs, r1, r2⟩ := fd_kvs h2
  have hk := keys_of r2
  refine ⟨ps, kvs, h1, r1, ?_, mpK_of r2, hk⟩
  have := merge_nodup (acc := []) (kvs := kvs) (by rw [List.nil_append, hk]; exact nodup_inr h3)
  rw [this]
  rfl
def spField (K : PySem.W.Frag) : Sp := fun vs H Q _ => ∃ v o x pa c, vs = [v, .str x, .ref pa] ∧ Tn K H v (oD o) ∧ PgOk K H pa c ∧ (∀ k, o = some k → thereK c k = true) ∧ ∀ v' H', Same H H' → Tn K H' v' (oD (fieldK c o x)) → Q v' H'
theorem c_fieldKind (T : Tp mg) {f : Addr} {fd : FuncData} (D : Def K mg "_field_kind" sPFieldKind f fd) (b : Binds K fd ["kind", "field", "program"] []) : Cal P w K mg base 1 "_field_kind" (spField K) [] := by
  refine cal0 D b .nil scPFieldKind (fun vs H Q E h => ?_) (fun cdv A outer s H vs Q E hr h => ?_)
  · obtain ⟨v, o, x, pa, c, rfl, _⟩ := h
    rfl
  · obtain ⟨v, o, x, pa, c, rfl, hv, ⟨d0, d1, x2, kv0, kv1, pg⟩, hth, q⟩ := h
    refine ⟨_, (pss_cons (ps_if (PW.pt (pw_or (pt_cmpR op_isN (pv 0) pe_non (nomark _)) (pw_or1 (pt_cmpR op_ne (pe_ix (r := rIxT K) ix_tup (pv 0) pe_int (fun _ _ => rfl)) pe_str (nomark _)))))
      (pss_one (ps_ret pe_non))
      pss_nil)
    (pss_one (ps_ret (pe_dget1 (hu_of hr) (pe_callTy (call_dictT rfl) (by rfl) T.n_dict (by decide +kernel) (pa_cons (pe_dget (hu_of hr) (pe_ix (r := rIxT K) ix_tup (pv 2) pe_int (fun _ _ => rfl)) (pe_ix (r := rIxT K) ix_tup (pv 0) pe_int (fun _ _ => rfl)) (fun _ _ => rfl)) pa_nil)) (pv 1) ⟨rfl, rfl, rfl, rfl⟩)))), ?_⟩
    cases o with
    | none =>
      cases hv.dp
      refine ⟨_, rfl, rfl, _, rfl, iteT (q _ H (Same.refl H) ⟨.non, rfl⟩)⟩
    | some k =>
      obtain ⟨a, xs, rfl, hq, hx0, hxl, hxr⟩ := tk_at hv
      refine ⟨_, rfl, rfl, _, rfl, iteF ⟨_, rfl, a, xs, 0, _, rfl, rfl, hq, atI_nat (j := 0) hx0, rfl, _, rfl, ite2 (fun e => ?_) (fun e => ?_)⟩⟩
      · have e1 : ¬ k.word = "record" := by
          intro z
          rw [z] at e
          exact absurd e (by decide +kernel)
        have e2 : fieldK c (some k) x = none := by
          cases k with
          | rcd z => exact absurd rfl e1
          | _ => rfl
        rw [e2] at q
        exact q _ H (Same.refl H) ⟨.non, rfl⟩
      · have e1 : k.word = "record" := by
          have e' : ¬ (!decide (V.str k.word = V.str "record")) = true := e
          have : decide (V.str k.word = V.str "record") = true := by simpa using e'
          exact V.str.inj (of_decide_eq_true this)
        obtain ⟨z, rfl⟩ := word_rec e1
        have hx := hxr z rfl
        subst hx
        have ht : (c.f z).isSome = true := hth _ rfl
        rcases pg.f z with ⟨h1, h2⟩ | ⟨t, fs, h1, h2, h3⟩
        · rw [h2] at ht
          cases ht
        · have hg := DGet.k (k := .inr z) pg.a0
          rw [h1] at hg
          have ef : fieldK c (some (.rcd z)) x = fs.lookup x := by
            show (c.f z).bind _ = _
            rw [h2]
            rfl
          rw [ef] at q
          refine ⟨_, rfl, pa, _, 0, .ref d0, rfl, rfl, pg.at_, atI_nat (j := 0) rfl, _, rfl, a, _, 1, .str z, rfl, rfl, hq, atI_nat (j := 1) rfl, d0, .ref t, rfl, hg, ?_⟩
          obtain ⟨ps, kvs, hpl, hpr, hme, hm, _⟩ := fd_dict h3
          refine ⟨t, ps, kvs, rfl, hpl, hpr, fun p hp => ?_⟩
          rw [hme]
          refine ⟨p, rfl, .inl ⟨kvs, .inl upd_same⟩, _, rfl, _, DGet.k (k := .inr x) upd_same, ?_⟩
          have hx := hm x
          dsimp only at hx
          rcases hx with ⟨m1, m2⟩ | ⟨v', k', m1, m2, m3⟩
          · rw [m1]
            rw [m2] at q
            exact q _ _ (Same.new hp) ⟨.non, rfl⟩
          · rw [m1]
            rw [m2] at q
            exact q _ _ (Same.new hp) (m3.tr (TR.new hp))
end
end K31
set_option Elab.async false
set_option linter.all false
set_option maxRecDepth 100000
set_option maxHeartbeats 2000000
namespace K31
open PySem PySem.Spec PyProof.Rows L2 MixW
open C8 (Cal Def cal0 pe_c fnBody fnScope fnArgs)
/-- the module's own tuples and dict -/
structure Md (K : PySem.W.Frag) (w : World) (mg : Str → Option Value) (aN aT aS : Addr) (es : Array DictEntry) (n : Nat) : Prop where
  gN : ∃ u, mg "NUMBER" = some u ∧ RelV (.ref aN) u
  gT : ∃ u, mg "TRUTH" = some u ∧ RelV (.ref aT) u
  gS : ∃ u, mg "SORTS" = some u ∧ RelV (.ref aS) u
  sN : ∀ H, SqT K H aN [.str "number"]
  sT : ∀ H, SqT K H aT [.str "truth"]
  d : KDict K w aS es n
  s : ∀ u : Str, (sorts.lookup u = none ∧ PySem.W.nsIn K aS u = some none) ∨ ∃ ss a u0, sorts.lookup u = some ss ∧ PySem.W.nsIn K aS u = some (some u0) ∧ RelV (.ref a) u0 ∧ ∀ H, SqT K H a (ss.map V.str)
section
variable {P : Program} {w : World} {K : PySem.W.Frag} {mg : Str → Option Value} {base : Heap}
theorem tnAll_at {H : Hp} {kk : List Kd} {vm : List V} {i : Nat} {k : Kd} (h : TnAll K H vm (kk.map Kd.d)) (e : kk[i]? = some k) : ∃ v, vm[i]? = some v ∧ Tn K H v k.d := by
  have hl := h.len
  rw [List.length_map] at hl
  have hi := (List.getElem?_eq_some_iff.mp e).1
  obtain ⟨d, hd, hv⟩ := h.at (i := i) (v := vm[i]'(by omega)) (List.getElem?_eq_getElem (by omega))
  rw [List.getElem?_map, e] at hd
  cases hd
  exact ⟨_, List.getElem?_eq_getElem (by omega), hv⟩
theorem gTup2_mono {a b : Nat} {x : V} {K1 K2 : L2.St → Hp → Prop} {σ' : L2.St} {H' : Hp} (h : ∀ s h, K1 s h → K2 s h) (q : gTup K 2 (gCons (gName a) (gCons (gName b) gNil)) x σ' H' K1) : gTup K 2 (gCons (gName a) (gCons (gName b) gNil)) x σ' H' K2 := by
  obtain ⟨a, xs, e1, e2, e3, v1, r1, e4, v2, r2, e5, e6, q⟩ := q
  exact ⟨a, xs, e1, e2, e3, v1, r1, e4, v2, r2, e5, e6, h _ _ q⟩
theorem eqv_str (a b : Str) : decide (V.str a = V.str b) = (a == b) := by
  by_cases h : a = b
  · subst h
    simp
  · have h2 : (a == b) = false := by simpa using h
    rw [h2]
    exact decide_eq_false fun e => h (V.str.inj e)
theorem eqv_comm (a b : Str) : eqV (.str a) (.str b) = (b == a) := by
  rw [Bool.eq_iff_iff]
  simp [eqV]
  exact ⟨fun h => h.symm, fun h => h.symm⟩
theorem in2 (s a b : Str) : inV (.str s) [.str a, .str b] = (s == a || s == b) := by
  unfold inV
  simp only [List.any_cons, List.any_nil, Bool.or_false, eqv_comm]
theorem in3 (s a b c : Str) : inV (.str s) [.str a, .str b, .str c] = (s == a || s == b || s == c) := by
  unfold inV
  simp only [List.any_cons, List.any_nil, Bool.or_false, eqv_comm, Bool.or_assoc]
/-- one step of the look at sorts -/
def zipF (ss : List Str) (kk : List Kd) (i : Nat) : Bool := match ss[i]?, kk[i]? with
  | some s, some k => s == "" || s == k.word
  | _, _ => true
theorem zipB_all : ∀ (ss : List Str) (kk : List Kd), ((List.range (min ss.length kk.length)).map (zipF ss kk)).all id = zipB ss kk
  | [], kk => by simp [zipB]
  | s :: ss, [] => by simp [zipB]
  | s :: ss, k :: kk => by
    have ih := zipB_all ss kk
    have e : (List.range (min (s :: ss).length (k :: kk).length)).map (zipF (s :: ss) (k :: kk)) = zipF (s :: ss) (k :: kk) 0 :: (List.range (min ss.length kk.length)).map (zipF ss kk) := by
      rw [List.length_cons, List.length_cons, Nat.succ_min_succ, List.range_succ_eq_map, List.map_cons, List.map_map]
      rfl
    rw [e, List.all_cons, ih]
    rfl
theorem lcZ {H : Hp} {a l : Addr} {ss : List Str} {vm : List V} {kk : List Kd} {o0 o1 o2 o3 : Option V} {te : TE} {R9 : Addr → Hp → Prop} (ha : ∀ H', Same H H' → SqT K H' a (ss.map V.str)) (hl : H l = some (.lst vm)) (hk : TnAll K H vm (kk.map Kd.d)) (hn : kk.length ≤ 8)
    (hte : ∀ (s : Str) (v : V) (k : Kd) (H' : Hp) (Q' : VK), Tn K H' v k.d → (∀ H3, Same H' H3 → Q' (.bl (s == "" || s == k.word)) H3) → te [o0, o1, some v, some (.str s)] H' Q')
    (hq : ∀ D H', H D = none → H' D = some (.lst (((List.range (min ss.length kk.length)).map (zipF ss kk)).map V.bl)) → Same H H' → R9 D H') :
    ∀ D, H D = none → ∃ W : Nat → Nat → Hp → Prop, (∃ m, W 0 m (upd H D (.lst []))) ∧ ∀ i m H, W i m H →
      ((ItzM K a l).stop i H ∧ R9 D H) ∨ ((ItzM K a l).go i H ∧ ∃ Nx : Hp → Prop, (∀ H', Nx H' → ∃ m', m' < m ∧ W (i + 1) m' H') ∧ ∀ x H', (ItzM K a l).yld i H x H' → gTup K 2 (gCons (gName 3) (gCons (gName 2) gNil)) x (wipe [o0, o1, o2, o3] [3, 2]) H' fun σ2 H2 => wipe σ2 [3, 2] = wipe [o0, o1, o2, o3] [3, 2] ∧ tYes σ2 H2 fun b H3 =>
        if b = true then te σ2 H3 fun y H4 => ∃ acc, H4 D = some (.lst acc) ∧ acc.length < sizeLine ∧ Nx (upd H4 D (.lst (acc ++ [y]))) else Nx H3) := by
  have hvl := hk.len
  rw [List.length_map] at hvl
  refine lc_looks (walk_zipM (K := K) (a := a) (b := l) (xs := ss.map V.str) (ys := vm) (n := min ss.length kk.length) (by rw [List.length_map, hvl])) (zipF ss kk) (by omega) (fun H' s => ⟨ha _ s, SqL.of (s _ _ hl)⟩) (fun i x H1 H2 Q' hi s1 hY hQ => ?_) gTup2_mono (fun Dl H2 hD hat2 s2 => hq Dl H2 hD (by rw [hat2, List.map_map]; rfl) s2)
  obtain ⟨T9, x9, y9, rfl, hT9, rfl, hx9, hy9⟩ := hY
  have hi1 : i < ss.length := by omega
  have hi2 : i < kk.length := by omega
  have ex : x9 = .str ss[i] := by
    have : (ss.map V.str)[i]? = some x9 := hx9
    rw [List.getElem?_map, List.getElem?_eq_getElem hi1] at this
    cases this
    rfl
  subst ex
  have hy9 : vm[i]? = some y9 := hy9
  obtain ⟨v, hv1, hv2⟩ := tnAll_at hk (List.getElem?_eq_getElem hi2)
  rw [hy9] at hv1
  cases hv1
  refine ⟨T9, _, rfl, SqT.of upd_same, rfl, _, _, rfl, _, _, rfl, rfl, rfl, ?_⟩
  refine hte _ _ _ _ _ ((hv2.tr (TR.same s1)).tr (TR.new hT9)) fun H3 s3 => ?_
  have e : zipF ss kk i = (ss[i] == "" || ss[i] == kk[i].word) := by
    unfold zipF
    rw [List.getElem?_eq_getElem hi1, List.getElem?_eq_getElem hi2]
  rw [← e]
  exact hQ H3 ((Same.new hT9).trans s3)
abbrev sPAreMatching : Stmt := topS 13
abbrev NPAreMatching : List Str := ["word", "kinds", "kind", "sort"]
theorem scPAreMatching : FnScope NPAreMatching ["word", "kinds"] (fnScope sPAreMatching) := ⟨rfl, rfl, rfl, by decide +kernel, rfl, by decide +kernel, by decide +kernel⟩
/-- how many parts a word has -/
def wideOk (u : Str) (n : Nat) : Prop := (u = "pick" → n = 3) ∧ (u = "at" → n = 3) ∧ (u = "same" ∨ u = "join" ∨ u = "list" → 1 ≤ n)
def spMatch (K : PySem.W.Frag) : Sp := fun vs H Q _ => ∃ u l vm kk, vs = [.str u, .ref l] ∧ H l = some (.lst vm) ∧ TnAll K H vm (kk.map Kd.d) ∧ (∀ k ∈ kk, KL 60 k) ∧ kk.length ≤ 8 ∧ wideOk u kk.length ∧ ∀ H', Same H H' → Q (.bl (matchK u kk)) H'
theorem c_areMatching (T : Tp mg) {aN aT aS : Addr} {es : Array DictEntry} {n : Nat} (M : Md K w mg aN aT aS es n) {f : Addr} {fd : FuncData} (D : Def K mg "_are_matching" sPAreMatching f fd) (b : Binds K fd ["word", "kinds"] []) : Cal P w K mg base 1 "_are_matching" (spMatch K) [] := by
  refine cal0 D b .nil scPAreMatching (fun vs H Q E h => ?_) (fun cdv A outer s H vs Q E hr h => ?_)
  · obtain ⟨u, l, vm, kk, rfl, _⟩ := h
    rfl
  · obtain ⟨u, l, vm, kk, rfl, hl, hk, hkl, hn, hw, q⟩ := h
    have nd := scPAreMatching.nd
    refine ⟨_, (C8.pss_cut (ps_if (pt_not (pt_val (pe_callB (cr_all rfl) (by rfl) T.n_all (by decide +kernel) (pa_cons (pe_lc (own := [("sort", 3), ("kind", 2)]) (g := gTup K 2 (gCons (gName 3) (gCons (gName 2) gNil))) (by rfl) nd (pi_zipM (by rfl) T.n_zip (pa_cons (pe_kget2 M.d (C8.pe_gc (by rfl) M.gS) (pv 0) (pe_tup pa_nil) ⟨rfl, rfl, rfl, rfl⟩) (pa_cons (pv 1) pa_nil))) (blkOk_by (own := [("sort", 3), ("kind", 2)]) (N := NPAreMatching) (sc := fnScope sPAreMatching) (by decide +kernel)) (fun _ _ _ _ _ => (pg_tup (n := 2) rfl (pgs_cons (pg_name (i := 3) nd rfl (Or.inl rfl)) (pgs_cons (pg_name (i := 2) nd rfl (Or.inl rfl)) pgs_nil)))) (fun _ _ _ _ _ => pts_nil) (fun _ _ _ _ _ => (pe_cmpR (r := rIn K false) op_in_seq (pv 3) (pe_tup (pa_cons pe_str (pa_cons (pe_ix (r := rIxT K) ix_tup (pv 2) pe_int (fun _ _ => rfl)) pa_nil))) (by rfl)))) pa_nil))))
      (pss_one (ps_ret pe_bl))
      pss_nil)
    (pss_cons (ps_if (pt_cmpR op_eq (pv 0) pe_str (nomark _))
      (pss_one (ps_ret (pe_cmpR (op_eqD hr.units) (pe_ix ix_list (pv 1) pe_int (fun _ _ => rfl)) (pe_ix ix_list (pv 1) pe_int (fun _ _ => rfl)) (nomark _))))
      pss_nil)
    (pss_cons (ps_if (pt_cmpR op_eq (pv 0) pe_str (nomark _))
      (pss_one (ps_ret (pe_cmpR (op_eqD hr.units) (pe_ix (r := rIxT K) ix_tup (pe_ix ix_list (pv 1) pe_int (fun _ _ => rfl)) pe_int (fun _ _ => rfl)) (pe_ix ix_list (pv 1) pe_int (fun _ _ => rfl)) (nomark _))))
      pss_nil)
    (pss_cons (ps_if (pt_cmpR op_in_seq (pv 0) (pe_tup (pa_cons pe_str (pa_cons pe_str (pa_cons pe_str pa_nil)))) (by rfl))
      (pss_one (ps_ret (pe_callB (cr_all rfl) (by rfl) T.n_all (by decide +kernel) (pa_cons (pe_lc (own := [("kind", 2)]) (g := gName 2) (by rfl) nd (pi_list (pv 1)) (blkOk_by (own := [("kind", 2)]) (N := NPAreMatching) (sc := fnScope sPAreMatching) (by decide +kernel)) (fun _ _ _ _ _ => pg_name (i := 2) nd rfl (Or.inl rfl)) (fun _ _ _ _ _ => pts_nil) (fun _ _ _ _ _ => (pe_cmpR (r := rEqD K) (op_eqD hr.units) (pv 2) (pe_ix (r := rIxL K) ix_list (pv 1) pe_int (fun _ _ => rfl)) (nomark _)))) pa_nil))))
      pss_nil)
    (pss_one (ps_ret pe_bl)))))), ?_⟩
    have hvl := hk.len
    rw [List.length_map] at hvl
    refine ⟨fun σ' H' => (∃ o2 o3, σ' = [some (.str u), some (.ref l), o2, o3]) ∧ Same H H' ∧ zipB (sortsK u) kk = true, ?_, ?_⟩
    · refine ⟨rfl, _, rfl, u, rfl, (by show 0 ≤ sizeLine; decide), fun q0 hq0 => ?_⟩
      have s1 : Same H (upd H q0 (.tup [])) := Same.new hq0
      have hl1 := s1 _ _ hl
      have hk1 := hk.tr (TR.same s1)
      rcases M.s u with ⟨h1, h2⟩ | ⟨ss, a, u0, h1, h2, h3, h4⟩
      · have es : sortsK u = [] := by unfold sortsK; rw [h1]; rfl
        refine .inl ⟨h2, _, rfl, q0, l, [], vm, rfl, SqT.of upd_same, SqL.of hl1, ?_⟩
        refine lcZ (ss := []) (fun H' s => SqT.of (s _ _ upd_same)) hl1 hk1 hn (fun s v k H' Q' hv hQ => ?_) (fun D H' hD hat sm => ?_)
        · obtain ⟨a9, xs9, rfl, hq9, hx9, _⟩ := tk_at hv
          refine ⟨_, rfl, _, rfl, a9, xs9, 0, _, rfl, rfl, hq9, atI_nat (j := 0) hx9, (by show 2 ≤ sizeLine; decide), fun t9 ht9 => ⟨t9, _, rfl, .inr (SqT.of upd_same), rfl, rfl, ?_⟩⟩
          show Q' (.bl (inV (.str s) [.str "", .str k.word])) _
          rw [in2]
          exact hQ _ (Same.new ht9)
        · refine ⟨D, _, rfl, SqL.of hat, _, rfl, ?_⟩
          rw [zipB_all, ← es]
          refine ite2 (fun e => ?_) (fun e => ?_)
          · have e2 : zipB (sortsK u) kk = false := by simpa using e
            unfold matchK at q
            rw [e2] at q
            exact q _ (s1.trans sm)
          · have e2 : zipB (sortsK u) kk = true := by simpa using e
            exact ⟨⟨_, _, rfl⟩, s1.trans sm, e2⟩
      · have es : sortsK u = ss := by unfold sortsK; rw [h1]; rfl
        refine .inr ⟨u0, .ref a, h2, h3, _, rfl, a, l, _, vm, rfl, h4 _, SqL.of hl1, ?_⟩
        refine lcZ (ss := ss) (fun H' s => h4 H') hl1 hk1 hn (fun s v k H' Q' hv hQ => ?_) (fun D H' hD hat sm => ?_)
        · obtain ⟨a9, xs9, rfl, hq9, hx9, _⟩ := tk_at hv
          refine ⟨_, rfl, _, rfl, a9, xs9, 0, _, rfl, rfl, hq9, atI_nat (j := 0) hx9, (by show 2 ≤ sizeLine; decide), fun t9 ht9 => ⟨t9, _, rfl, .inr (SqT.of upd_same), rfl, rfl, ?_⟩⟩
          show Q' (.bl (inV (.str s) [.str "", .str k.word])) _
          rw [in2]
          exact hQ _ (Same.new ht9)
        · refine ⟨D, _, rfl, SqL.of hat, _, rfl, ?_⟩
          rw [zipB_all, ← es]
          refine ite2 (fun e => ?_) (fun e => ?_)
          · have e2 : zipB (sortsK u) kk = false := by simpa using e
            unfold matchK at q
            rw [e2] at q
            exact q _ (s1.trans sm)
          · have e2 : zipB (sortsK u) kk = true := by simpa using e
            exact ⟨⟨_, _, rfl⟩, s1.trans sm, e2⟩
    · rintro σ H1 ⟨⟨o2, o3, rfl⟩, s1, hz⟩
      have hl1 := s1 _ _ hl
      have hk1 := hk.tr (TR.same s1)
      unfold matchK at q
      rw [hz] at q
      have q : ∀ H', Same H H' → Q (.bl (if u == "pick" then decide (kk[1]? = kk[2]?) else if u == "at" then decide (kk[0]?.bind Kd.inner = kk[2]?) else if u == "same" || u == "join" || u == "list" then kk.all fun k => decide (some k = kk[0]?) else true)) H' := q
      have shp : ∀ k ∈ kk, SeqAt.shaped k.d = true := fun k hk => (hkl k hk).shaped (by decide)
      have getk : ∀ i, i < kk.length → ∃ k v, kk[i]? = some k ∧ vm[i]? = some v ∧ Tn K H1 v k.d ∧ k ∈ kk := fun i hi => by
        obtain ⟨v, h1, h2⟩ := tnAll_at hk1 (List.getElem?_eq_getElem hi)
        exact ⟨_, v, List.getElem?_eq_getElem hi, h1, h2, List.getElem_mem hi⟩
      refine ⟨_, rfl, rfl, _, rfl, ?_⟩
      rw [eqv_str]
      refine ite2 (fun e => ?_) (fun e => ?_)
      · have h3 : kk.length = 3 := hw.1 (eq_of_beq e)
        obtain ⟨k1, v1, e1, f1, g1, m1⟩ := getk 1 (by omega)
        obtain ⟨k2, v2, e2, f2, g2, m2⟩ := getk 2 (by omega)
        rw [if_pos e] at q
        refine ⟨_, rfl, l, vm, 1, v1, rfl, rfl, SqL.of hl1, atI_nat (j := 1) f1, _, rfl, l, vm, 2, v2, rfl, rfl, SqL.of hl1, atI_nat (j := 2) f2, k1.d, k2.d, g1.dp, g2.dp, shp _ m1, shp _ m2, ?_⟩
        rw [kd_eqv]
        have := q H1 s1
        rw [e1, e2] at this
        simpa using this
      · rw [if_neg e] at q
        refine ⟨_, rfl, rfl, _, rfl, ?_⟩
        rw [eqv_str]
        refine ite2 (fun e2 => ?_) (fun e2 => ?_)
        · have h3 : kk.length = 3 := hw.2.1 (eq_of_beq e2)
          obtain ⟨k0, v0, e0, f0, g0, m0⟩ := getk 0 (by omega)
          obtain ⟨k2, v2, e2', f2, g2, m2⟩ := getk 2 (by omega)
          rw [if_pos e2] at q
          have hw0 : k0.word = "list" := by
            have eu : u = "at" := eq_of_beq e2
            subst eu
            match kk, h3, e0 with
            | [a, b, c], _, e0 =>
              cases e0
              have hz : (("list" : Str) == "" || ("list" : Str) == k0.word) = true := by
                have : ((("list" : Str) == "" || ("list" : Str) == k0.word) && ((("number" : Str) == "" || ("number" : Str) == b.word) && ((("" : Str) == "" || ("" : Str) == c.word) && true))) = true := hz
                simp only [Bool.and_eq_true] at this
                exact this.1
              rw [show ((("list" : Str) == "") = false) by decide +kernel, Bool.false_or] at hz
              exact (eq_of_beq hz).symm
          obtain ⟨k', rfl⟩ := word_list hw0
          obtain ⟨a0, xs0, rfl, hq0, _, hxl, _⟩ := tk_at g0
          obtain ⟨v', rfl, hv'⟩ := hxl k' rfl
          have shp' : SeqAt.shaped k'.d = true := by
            have h1 := hkl _ m0
            have h2 : KL 60 k' := by
              refine ⟨?_, ?_⟩
              · have := h1.1
                simp only [Kd.d, PyData.canLay0, PyData.canLayAll0, Bool.and_true, Bool.and_eq_true] at this
                exact this.2
              · have := h1.2
                simp only [Kd.d, PyData.depth, PyData.depthAll] at this
                omega
            exact h2.shaped (by decide)
          refine ⟨_, rfl, l, vm, 0, .ref a0, rfl, rfl, SqL.of hl1, atI_nat (j := 0) f0, a0, _, 1, v', rfl, rfl, hq0, atI_nat (j := 1) rfl, _, rfl, l, vm, 2, v2, rfl, rfl, SqL.of hl1, atI_nat (j := 2) f2, k'.d, k2.d, hv'.dp, g2.dp, shp', shp _ m2, ?_⟩
          rw [kd_eqv]
          have := q H1 s1
          rw [e0, e2'] at this
          simpa [Kd.inner] using this
        · rw [if_neg e2] at q
          refine ⟨_, rfl, (by show 3 ≤ sizeLine; decide), fun t9 ht9 => ⟨t9, _, rfl, .inr (SqT.of upd_same), rfl, rfl, _, rfl, ?_⟩⟩
          have s2 := s1.trans (Same.new (o := .tup [.str "same", .str "join", .str "list"]) ht9)
          have hl2 := s2 _ _ hl
          have hk2 := hk.tr (TR.same s2)
          show if (inV (.str u) [.str "same", .str "join", .str "list"]) = true then _ else _
          rw [in3]
          refine ite2 (fun e3 => ?_) (fun e3 => ?_)
          · rw [if_pos e3] at q
            have h1 : 1 ≤ kk.length := hw.2.2 (by
              simp only [Bool.or_eq_true, beq_iff_eq] at e3
              rcases e3 with (h | h) | h
              · exact .inl h
              · exact .inr (.inl h)
              · exact .inr (.inr h))
            obtain ⟨k0, v0, e0, f0, g0, m0⟩ := getk 0 (by omega)
            refine ⟨_, rfl, l, rfl, ⟨_, SqL.of hl2⟩, ?_⟩
            refine lc_looks (walk_list (K := K) (a := l) (xs := vm)) (fun i => match kk[i]? with | some k => decide (some k = kk[0]?) | none => true) (by omega) (fun H' s => SqL.of (s _ _ hl2)) (fun i x H3 H4 Q' hi s3 hY hQ => ?_) gName_mono (fun Dl H3 hD hat s3 => ?_)
            · obtain ⟨rfl, hx⟩ := hY
              refine ⟨wipe1, ?_⟩
              have hi2 : i < kk.length := by omega
              obtain ⟨ki, vi, ei, fi, gi, mi⟩ := getk i hi2
              rw [hx] at fi
              cases fi
              have t3 := TR.same ((Same.new (o := .tup [.str "same", .str "join", .str "list"]) ht9).trans s3)
              refine ⟨_, rfl, _, rfl, l, vm, 0, v0, rfl, rfl, SqL.of (s3 _ _ hl2), atI_nat (j := 0) f0, ki.d, k0.d, (gi.tr t3).dp, (g0.tr t3).dp, shp _ mi, shp _ m0, ?_⟩
              rw [kd_eqv]
              have := hQ _ (Same.refl _)
              rw [ei, e0] at this
              simpa using this
            · refine ⟨Dl, (List.range vm.length).map (fun i => match kk[i]? with | some k => decide (some k = kk[0]?) | none => true), rfl, SqL.of (by rw [hat, List.map_map]; rfl), ?_⟩
              have ea : ((List.range vm.length).map (fun i => match kk[i]? with | some k => decide (some k = kk[0]?) | none => true)).all id = kk.all fun k => decide (some k = kk[0]?) := by
                rw [Bool.eq_iff_iff, List.all_eq_true, List.all_eq_true]
                constructor
                · intro h k hk
                  obtain ⟨i, hi⟩ := List.mem_iff_getElem?.mp hk
                  have hlt := (List.getElem?_eq_some_iff.mp hi).1
                  have := h _ (List.mem_map.mpr ⟨i, List.mem_range.mpr (by omega), rfl⟩)
                  rw [hi] at this
                  exact this
                · intro h b hb
                  obtain ⟨i, hi, rfl⟩ := List.mem_map.mp hb
                  have hlt : i < kk.length := by have := List.mem_range.mp hi; omega
                  rw [List.getElem?_eq_getElem hlt]
                  exact h _ (List.getElem_mem hlt)
              rw [ea]
              exact q H3 (s2.trans s3)
          · rw [if_neg e3] at q
            exact q _ s2
end
end K31
set_option Elab.async false
set_option linter.all false
set_option maxRecDepth 100000
set_option maxHeartbeats 2000000
namespace K31
open PySem PySem.Spec PyProof.Rows L2 MixW
open C8 (Cal Def cal0 pe_c fnBody fnScope fnArgs)
section
variable {P : Program} {w : World} {K : PySem.W.Frag} {mg : Str → Option Value} {base : Heap}
theorem in5 (s a b c d e : Str) : inV (.str s) [.str a, .str b, .str c, .str d, .str e] = (s == a || s == b || s == c || s == d || s == e) := by
  unfold inV
  simp only [List.any_cons, List.any_nil, Bool.or_false, eqv_comm, Bool.or_assoc]
/-- a term's own parts, by its word -/
structure PartsOk (H : Hp) (K : PySem.W.Frag) (u : Str) (rest : List PyData) (vr : List V) (n : Nat) : Prop where
  nm : u = "name" → ∃ z, rest = [.str z] ∧ vr = [.str z]
  bx : u = "box" → ∃ z, rest = [.str z] ∧ vr = [.str z]
  em : u = "empty" → ∃ k v, rest = [k.d] ∧ vr = [v] ∧ Tn K H v (Kd.d k)
  fd : u = "field" → ∃ d z v, rest = [d, .str z] ∧ vr = [v, .str z] ∧ n = 1
  ls : u = "list" → 1 ≤ n
  el : (u == "number" || u == "add" || u == "less" || u == "times" || u == "many") = false → (u == "truth" || u == "under" || u == "same" || u == "both" || u == "not") = false → u ≠ "name" → u ≠ "box" → u ≠ "empty" → 1 ≤ n
abbrev sPKindByWord : Stmt := topS 14
abbrev NPKindByWord : List Str := ["term", "kinds", "held", "program", "word"]
theorem scPKindByWord : FnScope NPKindByWord ["term", "kinds", "held", "program"] (fnScope sPKindByWord) := ⟨rfl, rfl, rfl, by decide +kernel, rfl, by decide +kernel, by decide +kernel⟩
def spWord (K : PySem.W.Frag) : Sp := fun vs H Q _ => ∃ t u vr rest l vm kk hd kvh pa c, vs = [.ref t, .ref l, .ref hd, .ref pa] ∧ SqT K H t (.str u :: vr) ∧ PartsOk H K u rest vr kk.length ∧ H l = some (.lst vm) ∧ TnAll K H vm (kk.map Kd.d) ∧ kk.length ≤ 8 ∧
  H hd = some (.dK kvh) ∧ MpK K H kvh c.h ∧ PgOk K H pa c ∧ (∀ k ∈ kk, thereK c k = true) ∧ ∀ v H', Same H H' → Tn K H' v (oD (byWordK c u rest kk)) → Q v H'
theorem c_kindByWord (T : Tp mg) {aN aT aS : Addr} {es : Array DictEntry} {n : Nat} (M : Md K w mg aN aT aS es n) (c_PBoxKind : Cal P w K mg base 1 "_box_kind" (spBox K) []) (c_PFieldKind : Cal P w K mg base 1 "_field_kind" (spField K) []) {f : Addr} {fd : FuncData} (D : Def K mg "_kind_by_word" sPKindByWord f fd) (b : Binds K fd ["term", "kinds", "held", "program"] []) : Cal P w K mg base 2 "_kind_by_word" (spWord K) [] := by
  refine cal0 D b .nil scPKindByWord (fun vs H Q E h => ?_) (fun cdv A outer s H vs Q E hr h => ?_)
  · obtain ⟨t, u, vr, rest, l, vm, kk, hd, kvh, pa, c, rfl, _⟩ := h
    rfl
  · obtain ⟨t, u, vr, rest, l, vm, kk, hd, kvh, pa, c, rfl, hq, po, hl, hk, hn, hhd, hmh, hp, hth, q⟩ := h
    have nd := scPKindByWord.nd
    refine ⟨_, (pss_cons (ps_set (i := 4) nd rfl (.inl rfl) (pe_ix (r := rIxT K) ix_tup (pv 0) pe_int (fun _ _ => rfl)))
    (pss_cons (ps_if (pt_cmpR op_in_seq (pv 4) (pe_tup (pa_cons pe_str (pa_cons pe_str (pa_cons pe_str (pa_cons pe_str (pa_cons pe_str pa_nil)))))) (by rfl))
      (pss_one (ps_ret (C8.pe_gc (by rfl) M.gN)))
      pss_nil)
    (pss_cons (ps_if (pt_cmpR op_in_seq (pv 4) (pe_tup (pa_cons pe_str (pa_cons pe_str (pa_cons pe_str (pa_cons pe_str (pa_cons pe_str pa_nil)))))) (by rfl))
      (pss_one (ps_ret (C8.pe_gc (by rfl) M.gT)))
      pss_nil)
    (pss_cons (ps_if (pt_cmpR op_eq (pv 4) pe_str (nomark _))
      (pss_one (ps_ret (pe_dget1 (hu_of hr) (pv 2) (pe_ix (r := rIxT K) ix_tup (pv 0) pe_int (fun _ _ => rfl)) ⟨rfl, rfl, rfl, rfl⟩)))
      pss_nil)
    (pss_cons (ps_if (pt_cmpR op_eq (pv 4) pe_str (nomark _))
      (pss_one (ps_ret (pe_c c_PBoxKind hr (by decide) (by rfl) (pa_cons (pe_ix (r := rIxT K) ix_tup (pv 0) pe_int (fun _ _ => rfl)) (pa_cons (pv 3) pa_nil)))))
      pss_nil)
    (pss_cons (ps_if (pt_cmpR op_eq (pv 4) pe_str (nomark _))
      (pss_one (ps_ret (pe_tup (pa_cons pe_str (pa_cons (pe_ix (r := rIxT K) ix_tup (pv 0) pe_int (fun _ _ => rfl)) pa_nil)))))
      pss_nil)
    (pss_cons (ps_if (pt_cmpR op_eq (pv 4) pe_str (nomark _))
      (pss_one (ps_ret (pe_tup (pa_cons pe_str (pa_cons (pe_ix ix_list (pv 1) pe_int (fun _ _ => rfl)) pa_nil)))))
      pss_nil)
    (pss_cons (ps_if (pt_cmpR op_eq (pv 4) pe_str (nomark _))
      (pss_one (ps_ret (pe_c c_PFieldKind hr (by decide) (by rfl) (pa_cons (pe_ix ix_list (pv 1) pe_int (fun _ _ => rfl)) (pa_cons (pe_ix (r := rIxT K) ix_tup (pv 0) pe_int (fun _ _ => rfl)) (pa_cons (pv 3) pa_nil))))))
      pss_nil)
    (pss_one (ps_ret (pe_ix ix_list (pv 1) (pe_un un_neg pe_int) (fun _ _ => rfl)))))))))))), ?_⟩
    have hvl := hk.len
    rw [List.length_map] at hvl
    refine ⟨_, rfl, t, _, 0, .str u, rfl, rfl, hq, atI_nat (j := 0) rfl, ?_⟩
    refine ⟨_, rfl, (by show 5 ≤ sizeLine; decide), fun t1 ht1 => ⟨t1, _, rfl, .inr (SqT.of upd_same), rfl, rfl, _, rfl, ?_⟩⟩
    have s1 : Same H (upd H t1 (.tup [.str "number", .str "add", .str "less", .str "times", .str "many"])) := Same.new ht1
    show if (inV (.str u) [.str "number", .str "add", .str "less", .str "times", .str "many"]) = true then _ else _
    rw [in5]
    unfold byWordK at q
    generalize upd H t1 (.tup [.str "number", .str "add", .str "less", .str "times", .str "many"]) = H1 at *
    refine ite2 (fun e => ?_) (fun e => ?_)
    · rw [if_pos e] at q
      exact q _ _ s1 (Tn.of (M.sN _) (.cons (Tn.str "number") .nil))
    · rw [if_neg e] at q
      refine ⟨_, rfl, (by show 5 ≤ sizeLine; decide), fun t2 ht2 => ⟨t2, _, rfl, .inr (SqT.of upd_same), rfl, rfl, _, rfl, ?_⟩⟩
      have s2 : Same H (upd H1 t2 (.tup [.str "truth", .str "under", .str "same", .str "both", .str "not"])) := s1.trans (Same.new ht2)
      show if (inV (.str u) [.str "truth", .str "under", .str "same", .str "both", .str "not"]) = true then _ else _
      rw [in5]
      generalize upd H1 t2 (.tup [.str "truth", .str "under", .str "same", .str "both", .str "not"]) = H2 at *
      have hq2 := sqT_mono s2 hq
      have hl2 := s2 _ _ hl
      have hk2 := hk.tr (TR.same s2)
      refine ite2 (fun e2 => ?_) (fun e2 => ?_)
      · rw [if_pos e2] at q
        exact q _ _ s2 (Tn.of (M.sT _) (.cons (Tn.str "truth") .nil))
      · rw [if_neg e2] at q
        refine ⟨_, rfl, rfl, _, rfl, ?_⟩
        rw [eqv_str]
        refine ite2 (fun e3 => ?_) (fun e3 => ?_)
        · rw [if_pos e3] at q
          obtain ⟨z, rfl, rfl⟩ := po.nm (eq_of_beq e3)
          refine ⟨_, rfl, hd, rfl, .inl ⟨_, .inl (s2 _ _ hhd)⟩, _, rfl, t, _, 1, .str z, rfl, rfl, hq2, atI_nat (j := 1) rfl, _, DGet.k (k := .inr z) (s2 _ _ hhd), ?_⟩
          have q2 := q
          rcases hmh z with ⟨m1, m2⟩ | ⟨v', k', m1, m2, m3⟩
          · rw [m1]
            refine q _ _ s2 ?_
            show Tn K H2 .non (oD (c.h z))
            rw [m2]
            exact ⟨.non, rfl⟩
          · rw [m1]
            refine q _ _ s2 ?_
            show Tn K H2 v' (oD (c.h z))
            rw [m2]
            exact m3.tr (TR.same s2)
        · rw [if_neg e3] at q
          refine ⟨_, rfl, rfl, _, rfl, ?_⟩
          rw [eqv_str]
          refine ite2 (fun e4 => ?_) (fun e4 => ?_)
          · rw [if_pos e4] at q
            obtain ⟨z, rfl, rfl⟩ := po.bx (eq_of_beq e4)
            exact ⟨_, rfl, t, _, 1, .str z, rfl, rfl, hq2, atI_nat (j := 1) rfl, _, rfl, z, pa, c, rfl, hp.same s2, fun v hv => q _ _ s2 hv⟩
          · rw [if_neg e4] at q
            refine ⟨_, rfl, rfl, _, rfl, ?_⟩
            rw [eqv_str]
            refine ite2 (fun e5 => ?_) (fun e5 => ?_)
            · rw [if_pos e5] at q
              obtain ⟨k, v, rfl, rfl, hv⟩ := po.em (eq_of_beq e5)
              refine ⟨_, rfl, t, _, 1, v, rfl, rfl, hq2, atI_nat (j := 1) rfl, (by show 2 ≤ sizeLine; decide), fun t3 ht3 => q _ _ (s2.trans (Same.new ht3)) ?_⟩
              have e : (([k.d] : List PyData)[0]?.bind toK).map Kd.lst = some (.lst k) := by
                show ((toK k.d)).map Kd.lst = _
                rw [toK_d]
                rfl
              rw [e]
              exact Tn.newT ht3 (.cons (Tn.str "list") (.cons (hv.tr (TR.same s2)) .nil))
            · rw [if_neg e5] at q
              refine ⟨_, rfl, rfl, _, rfl, ?_⟩
              rw [eqv_str]
              have getk : ∀ i, i < kk.length → ∃ k v, kk[i]? = some k ∧ vm[i]? = some v ∧ Tn K H2 v k.d ∧ k ∈ kk := fun i hi => by
                obtain ⟨v, h1, h2⟩ := tnAll_at hk2 (List.getElem?_eq_getElem hi)
                exact ⟨_, v, List.getElem?_eq_getElem hi, h1, h2, List.getElem_mem hi⟩
              refine ite2 (fun e6 => ?_) (fun e6 => ?_)
              · rw [if_pos e6] at q
                obtain ⟨k0, v0, e0, f0, g0, m0⟩ := getk 0 (by have := po.ls (eq_of_beq e6); omega)
                refine ⟨_, rfl, l, vm, 0, v0, rfl, rfl, SqL.of hl2, atI_nat (j := 0) f0, (by show 2 ≤ sizeLine; decide), fun t3 ht3 => q _ _ (s2.trans (Same.new ht3)) ?_⟩
                rw [e0]
                exact Tn.newT ht3 (.cons (Tn.str "list") (.cons g0 .nil))
              · rw [if_neg e6] at q
                refine ⟨_, rfl, rfl, _, rfl, ?_⟩
                rw [eqv_str]
                refine ite2 (fun e7 => ?_) (fun e7 => ?_)
                · rw [if_pos e7] at q
                  obtain ⟨d, z, v, rfl, rfl, hone⟩ := po.fd (eq_of_beq e7)
                  obtain ⟨k0, v0, e0, f0, g0, m0⟩ := getk 0 (by omega)
                  refine ⟨_, rfl, l, vm, 0, v0, rfl, rfl, SqL.of hl2, atI_nat (j := 0) f0, _, rfl, t, _, 2, .str z, rfl, rfl, hq2, atI_nat (j := 2) rfl, _, rfl, v0, some k0, z, pa, c, rfl, g0, hp.same s2, (fun k e => by cases e; exact hth _ m0), fun v' H' s' hv' => q _ _ (s2.trans s') ?_⟩
                  rw [e0]
                  exact hv'
                · rw [if_neg e7] at q
                  have h1 : 1 ≤ kk.length := po.el (by simpa using e) (by simpa using e2) (by simpa using e3) (by simpa using e4) (by simpa using e5)
                  obtain ⟨k0, v0, e0, f0, g0, m0⟩ := getk (kk.length - 1) (by omega)
                  have eg : kk.getLast? = some k0 := by rw [List.getLast?_eq_getElem?]; exact e0
                  rw [eg] at q
                  refine ⟨_, rfl, 1, rfl, l, vm, -1, v0, rfl, rfl, SqL.of hl2, ?_, q _ _ s2 g0⟩
                  unfold atI
                  have : ixN vm.length (-1) = some (kk.length - 1) := by
                    unfold ixN
                    rw [if_neg (by omega), if_pos (by omega)]
                    congr 1
                    omega
                  rw [this]
                  exact f0
end
end K31
set_option Elab.async false
set_option linter.all false
set_option maxRecDepth 100000
set_option maxHeartbeats 2000000
namespace K31
open PySem PySem.Spec PyProof.Rows L2 MixW LamX NdefX LamC StX
open C8 (Cal Def cal0 pe_c fnBody fnScope fnArgs)
theorem somes : ∀ {ks : List (Option Kd)}, ks.any Option.isNone = false → ks.map oD = (ks.filterMap id).map Kd.d ∧ (ks.filterMap id).length = ks.length ∧ ∀ k ∈ ks.filterMap id, some k ∈ ks
  | [], _ => ⟨rfl, rfl, fun k h => nomatch h⟩
  | none :: ks, h => by simp at h
  | some k :: ks, h => by
    have h' : ks.any Option.isNone = false := by simpa using h
    obtain ⟨h1, h2, h3⟩ := somes h'
    refine ⟨by simp [oD, h1], by simpa using h2, fun x hx => ?_⟩
    have hx' : x = k ∨ x ∈ ks.filterMap id := by simpa using hx
    rcases hx' with rfl | hx'
    · exact List.mem_cons_self ..
    · exact List.mem_cons_of_mem _ (h3 x hx')
section
variable {P : Program} {w : World} {K : PySem.W.Frag} {mg : Str → Option Value} {base : Heap}
theorem eqv_non (o : Option Kd) : PyData.eqv (oD o) .none = o.isNone := by
  cases o with
  | none => simp [oD, PyData.eqv]
  | some k => cases k <;> simp [oD, Kd.d, PyData.eqv]
theorem any_non (ks : List (Option Kd)) : ((ks.map oD).any fun z => PyData.eqv z .none) = ks.any Option.isNone := by
  rw [List.any_map]
  congr 1
  funext o
  exact eqv_non o
theorem od_shaped {ks : List (Option Kd)} (h : ∀ k, some k ∈ ks → KL 60 k) : SeqAt.shaped (.list (ks.map oD)) = true := by
  have go : ∀ {ks : List (Option Kd)}, (∀ k, some k ∈ ks → KL 60 k) → PyData.canLayAll0 (ks.map oD) = true ∧ PyData.depthAll (ks.map oD) ≤ 60 := by
    intro ks
    induction ks with
    | nil => exact fun _ => ⟨rfl, by simp [PyData.depthAll]⟩
    | cons o ks ih =>
      intro h
      obtain ⟨i1, i2⟩ := ih fun k hk => h k (List.mem_cons_of_mem _ hk)
      have ho : (oD o).canLay0 = true ∧ (oD o).depth ≤ 60 := by
        cases o with
        | none => exact ⟨rfl, by simp [oD, PyData.depth]⟩
        | some k => exact h k (List.mem_cons_self ..)
      refine ⟨?_, ?_⟩
      · simp only [List.map_cons, PyData.canLayAll0, ho.1, i1, Bool.and_self]
      · simp only [List.map_cons, PyData.depthAll]
        have := ho.2
        omega
  obtain ⟨h1, h2⟩ := go h
  show ((PyData.list (ks.map oD)).canLay0 && decide ((PyData.list (ks.map oD)).depth ≤ 64)) = true
  have e1 : (PyData.list (ks.map oD)).canLay0 = true := by simp only [PyData.canLay0, h1]
  have e2 : (PyData.list (ks.map oD)).depth ≤ 64 := by
    simp only [PyData.depth]
    omega
  rw [e1, decide_eq_true e2]
  rfl
abbrev sPKindOver : Stmt := topS 12
abbrev NPKindOver : List Str := ["term", "kinds", "held", "program", "kind"]
theorem scPKindOver : FnScope NPKindOver ["term", "kinds", "held", "program"] (fnScope sPKindOver) := ⟨rfl, rfl, rfl, by decide +kernel, rfl, by decide +kernel, by decide +kernel⟩
def spOver (K : PySem.W.Frag) : Sp := fun vs H Q _ => ∃ t u vr rest l vm ks hd kvh pa c, vs = [.ref t, .ref l, .ref hd, .ref pa] ∧ SqT K H t (.str u :: vr) ∧ PartsOk H K u rest vr (List.length ks) ∧ wideOk u ks.length ∧ H l = some (.lst vm) ∧ TnAll K H vm (ks.map oD) ∧ ks.length ≤ 8 ∧
  H hd = some (.dK kvh) ∧ MpK K H kvh c.h ∧ PgOk K H pa c ∧ (∀ k, some k ∈ ks → thereK c k = true ∧ KL 60 k) ∧ ∀ v H', Same H H' → Tn K H' v (oD (overK c u rest ks)) → Q v H'
theorem PartsOk.same {H H' : Hp} {u : Str} {rest : List PyData} {vr : List V} {n : Nat} (h : PartsOk H K u rest vr n) (e : Same H H') : PartsOk H' K u rest vr n :=
  ⟨h.nm, h.bx, fun x => let ⟨k, v, a, b, t⟩ := h.em x; ⟨k, v, a, b, t.tr (TR.same e)⟩, h.fd, h.ls, h.el⟩
theorem c_kindOver (T : Tp mg) (c_PAreMatching : Cal P w K mg base 1 "_are_matching" (spMatch K) []) (c_PKindByWord : Cal P w K mg base 2 "_kind_by_word" (spWord K) []) (c_PIsThere : Cal P w K mg base 2 "is_there" (spThere K) []) {f : Addr} {fd : FuncData} (D : Def K mg "_kind_over" sPKindOver f fd) (b : Binds K fd ["term", "kinds", "held", "program"] []) : Cal P w K mg base 3 "_kind_over" (spOver K) [] := by
  refine cal0 D b .nil scPKindOver (fun vs H Q E h => ?_) (fun cdv A outer s H vs Q E hr h => ?_)
  · obtain ⟨t, u, vr, rest, l, vm, ks, hd, kvh, pa, c, rfl, _⟩ := h
    rfl
  · obtain ⟨t, u, vr, rest, l, vm, ks, hd, kvh, pa, c, rfl, hq, po, hw, hl, hk, hn, hhd, hmh, hp, hth, q⟩ := h
    have nd := scPKindOver.nd
    refine ⟨_, (C8.pss_cut (ps_if (PW.pt (pw_or (pt_cmpR (op_inD (hin_of hr)) pe_non (pv 1) (by rfl)) (pw_or1 (pt_not (pt_val (pe_c c_PAreMatching hr (by decide) (by rfl) (pa_cons (pe_ix (r := rIxT K) ix_tup (pv 0) pe_int (fun _ _ => rfl)) (pa_cons (pv 1) pa_nil))))))))
      (pss_one (ps_ret pe_non))
      pss_nil)
    (pss_cons (ps_set (i := 4) nd rfl (.inl rfl) (pe_c c_PKindByWord hr (by decide) (by rfl) (pa_cons (pv 0) (pa_cons (pv 1) (pa_cons (pv 2) (pa_cons (pv 3) pa_nil))))))
    (pss_cons (ps_if (PW.pt (pw_or (pt_cmpR op_isN (pv 4) pe_non (nomark _)) (pw_or1 (pt_not (pt_val (pe_c c_PIsThere hr (by decide) (by rfl) (pa_cons (pv 4) (pa_cons (pv 3) pa_nil))))))))
      (pss_one (ps_ret pe_non))
      pss_nil)
    (pss_one (ps_ret (pv 4)))))), ?_⟩
    refine ⟨fun σ' H' => σ' = [some (.ref t), some (.ref l), some (.ref hd), some (.ref pa), none] ∧ Same H H' ∧ ks.any Option.isNone = false ∧ matchK u (ks.filterMap id) = true, ?_, ?_⟩
    · refine ⟨_, rfl, .none, ks.map oD, .non, .lst (SqL.of hl) hk.dp, by decide +kernel, od_shaped (fun k hk => (hth k hk).2), _, rfl, ?_⟩
      rw [any_non]
      refine ite2 (fun e => ?_) (fun e => ?_)
      · have e2 : overK c u rest ks = none := by unfold overK; rw [if_pos e]
        rw [e2] at q
        exact q _ _ (Same.refl H) ⟨.non, rfl⟩
      · have e1 : ks.any Option.isNone = false := Bool.eq_false_iff.mpr e
        obtain ⟨h1, h2, h3⟩ := somes e1
        rw [h1] at hk
        refine ⟨_, rfl, t, _, 0, .str u, rfl, rfl, hq, atI_nat (j := 0) rfl, _, rfl, u, l, vm, ks.filterMap id, rfl, hl, hk, (fun k hk => (hth k (h3 k hk)).2), by omega, by rw [h2]; exact hw, fun H1 s1 => ⟨_, rfl, ?_⟩⟩
        refine ite2 (fun e4 => ?_) (fun e4 => ?_)
        · have e5 : overK c u rest ks = none := by unfold overK; rw [if_neg e, if_pos e4]
          rw [e5] at q
          exact q _ _ s1 ⟨.non, rfl⟩
        · exact ⟨rfl, s1, e1, by simpa using e4⟩
    · rintro σ H1 ⟨rfl, s1, e1, em⟩
      obtain ⟨h1, h2, h3⟩ := somes e1
      have hk1 := hk.tr (TR.same s1)
      rw [h1] at hk1
      refine ⟨_, rfl, _, rfl, _, rfl, _, rfl, t, u, vr, rest, l, vm, ks.filterMap id, hd, kvh, pa, c, rfl, sqT_mono s1 hq, by rw [h2]; exact po.same s1, s1 _ _ hl, hk1, by omega, s1 _ _ hhd, hmh.tr (TR.same s1), hp.same s1, (fun k hk => (hth k (h3 k hk)).1), fun v H2 s2 hv => ?_⟩
      have eo : overK c u rest ks = (match byWordK c u rest (ks.filterMap id) with | none => none | some k => if thereK c k then some k else none) := by
        unfold overK
        rw [if_neg (by rw [e1]; decide), if_neg (by rw [em]; decide)]
        all_goals rfl
      have s12 := s1.trans s2
      cases hb : byWordK c u rest (ks.filterMap id) with
      | none =>
        rw [hb] at hv eo
        rw [eo] at q
        cases hv.dp
        exact ⟨_, rfl, rfl, _, rfl, iteT (q _ _ s12 ⟨.non, rfl⟩)⟩
      | some k =>
        rw [hb] at hv eo
        obtain ⟨a, xs, rfl, hq9, _⟩ := tk_at hv
        refine ⟨_, rfl, rfl, _, rfl, iteF ⟨_, rfl, _, rfl, .ref a, k, pa, c, rfl, hv, hp.same s12, fun H3 s3 => ⟨_, rfl, ?_⟩⟩⟩
        have s13 := s12.trans s3
        refine ite2 (fun e7 => ?_) (fun e7 => ?_)
        · have e8 : thereK c k = false := by simpa using e7
          simp only [e8, Bool.false_eq_true, if_false] at eo
          rw [eo] at q
          exact q _ _ s13 ⟨.non, rfl⟩
        · have e8 : thereK c k = true := by simpa using e7
          simp only [e8, if_true] at eo
          rw [eo] at q
          exact ⟨_, rfl, q _ _ s13 (hv.tr (TR.same s3))⟩
end
end K31
set_option Elab.async false
set_option linter.all false
set_option maxRecDepth 100000
set_option maxHeartbeats 1500000
namespace K31
open PySem PySem.Spec PyProof.Rows L2 LamX NdefX LamC StX
open C8 (Cal Def cal0 pe_c fnBody fnScope fnArgs)
/-! ### the stack of what is to be done, on data: g is what a term comes to -/
open Classical in
noncomputable def stepD (g : PyData → PyData) (q : PyData × Bool) (done : List PyData) : Option (List PyData) :=
  if q.2 && !(partsD q.1).isEmpty then
    if (partsD q.1).length ≤ done.length ∧ done.drop (done.length - (partsD q.1).length) = (partsD q.1).map g then some (done.take (done.length - (partsD q.1).length) ++ [g q.1]) else none
  else some (done ++ [g q.1])
noncomputable def finD (g : PyData → PyData) : List (PyData × Bool) → List PyData → Option (List PyData)
  | [], done => some done
  | q :: t, done => (stepD g q done).bind (finD g t)
theorem finD_falses (g : PyData → PyData) : ∀ (ps : List PyData) (t : List (PyData × Bool)) (done : List PyData), finD g (ps.map (fun p => (p, false)) ++ t) done = finD g t (done ++ ps.map g)
  | [], t, done => by simp
  | p :: ps, t, done => by
    show (stepD g (p, false) done).bind (finD g (ps.map (fun p => (p, false)) ++ t)) = _
    have e : stepD g (p, false) done = some (done ++ [g p]) := rfl
    rw [e]
    show finD g (ps.map (fun p => (p, false)) ++ t) (done ++ [g p]) = _
    rw [finD_falses g ps t, List.append_assoc]
    rfl
theorem finD_open (g : PyData → PyData) (u : Str) (rest : List PyData) (hp : (partsD (.tuple (.str u :: rest))).isEmpty = false) (t : List (PyData × Bool)) (done : List PyData) :
    finD g ((partsD (.tuple (.str u :: rest))).map (fun p => (p, false)) ++ (.tuple (.str u :: rest), true) :: t) done = finD g ((.tuple (.str u :: rest), false) :: t) done := by
  rw [finD_falses]
  show (stepD g (.tuple (.str u :: rest), true) (done ++ (partsD (.tuple (.str u :: rest))).map g)).bind (finD g t) = (stepD g (.tuple (.str u :: rest), false) done).bind (finD g t)
  have e2 : stepD g (.tuple (.str u :: rest), false) done = some (done ++ [g (.tuple (.str u :: rest))]) := rfl
  have ek : (done ++ (partsD (.tuple (.str u :: rest))).map g).length - (partsD (.tuple (.str u :: rest))).length = done.length := by
    rw [List.length_append, List.length_map]
    omega
  have e1 : stepD g (.tuple (.str u :: rest), true) (done ++ (partsD (.tuple (.str u :: rest))).map g) = some (done ++ [g (.tuple (.str u :: rest))]) := by
    unfold stepD
    rw [if_pos (by show (true && !(partsD (.tuple (.str u :: rest))).isEmpty) = true; rw [hp]; rfl)]
    dsimp only
    rw [ek, List.drop_left, List.take_left, if_pos ⟨by rw [List.length_append, List.length_map]; omega, rfl⟩]
  rw [e1, e2]
theorem fin_close (g : PyData → PyData) {u : Str} {rest : List PyData} {fx : Bool} {t : List (PyData × Bool)} {ds r : List PyData} (h : finD g ((.tuple (.str u :: rest), fx) :: t) ds = some r) (hc : (selW u rest).isEmpty = true ∨ fx = true) :
    (selW u rest).length ≤ ds.length ∧ finD g t (ds.take (ds.length - (selW u rest).length) ++ [g (.tuple (.str u :: rest))]) = some r ∧ ds.drop (ds.length - (selW u rest).length) = (selW u rest).map g := by
  have h : (stepD g (.tuple (.str u :: rest), fx) ds).bind (finD g t) = some r := h
  have hpl : partsD (.tuple (.str u :: rest)) = selW u rest := rfl
  unfold stepD at h
  dsimp only at h
  rw [hpl] at h
  by_cases he : (selW u rest).isEmpty = true
  · have e0 : selW u rest = [] := List.isEmpty_iff.mp he
    rw [he] at h
    rw [if_neg (by simp)] at h
    rw [e0]
    refine ⟨Nat.zero_le _, ?_, by simp⟩
    simp only [List.length_nil, Nat.sub_zero, List.take_length]
    exact h
  · have hfx : fx = true := hc.elim (fun z => absurd z he) id
    have hf : (selW u rest).isEmpty = false := by simpa using he
    subst hfx
    rw [hf] at h
    rw [if_pos (by rfl)] at h
    by_cases hl : (selW u rest).length ≤ ds.length ∧ ds.drop (ds.length - (selW u rest).length) = (selW u rest).map g
    · rw [if_pos hl] at h
      exact ⟨hl.1, h, hl.2⟩
    · rw [if_neg hl] at h
      cases h
section
variable {P : Program} {w : World} {K : PySem.W.Frag} {mg : Str → Option Value} {base : Heap}
abbrev sPFolded : Stmt := topS 8
abbrev NPFolded : List Str := ["term", "told", "done", "todo", "one", "are_parts_done", "parts", "ahead", "made", "part"]
theorem scPFolded : FnScope NPFolded ["term", "told"] (fnScope sPFolded) := ⟨rfl, rfl, rfl, by decide +kernel, rfl, by decide +kernel, by decide +kernel⟩
/-- terms that are asked: tuples of a word and parts that are asked, too -/
def GdOk (Gd : PyData → Prop) : Prop := ∀ d, Gd d → ∃ u rest, d = .tuple (.str u :: rest) ∧ 1 ≤ rest.length ∧ rest.length ≤ 1000 ∧ ∀ p ∈ selW u rest, Gd p
def spLamG (K : PySem.W.Frag) (ws0 : List (Option V)) (g : PyData → PyData) (Gd : PyData → Prop) (J : Hp → Prop) : List (Option V) → Sp := fun ws vs H Q _ => ws = ws0 ∧ ∃ v d l vm, vs = [v, .ref l] ∧ Tn K H v d ∧ Gd d ∧ H l = some (.lst vm) ∧ TnAll K H vm ((partsD d).map g) ∧ J H ∧
  ∀ v' H', Same H H' → Tn K H' v' (g d) → Q v' H'
def spFold (P : Program) (w : World) (K : PySem.W.Frag) (mg : Str → Option Value) (base : Heap) (lamB : Expr) (ps fr : List Str) (kl : Nat) : Shared → List V → Hp → VK → Prop := fun s vs H Q => ∃ v d f F ws g Gd J, vs = [v, .ref f] ∧ Tn K H v d ∧ Gd d ∧ d.weight ≤ 100000 ∧ GdOk Gd ∧ (∀ H H', Same H H' → J H → J H') ∧
  LOk P w K mg base C8.CX0 kl f F lamB ps fr (spLamG K ws g Gd J) ∧ H f = some (LamO f F lamB) ∧ H F.c = some (CodeO F.c F.qual) ∧ CellsAt F.cl fr ws s.heap H ∧ J H ∧
  ∀ v' H', Same H H' → Tn K H' v' (g d) → Q v' H'
/-- what stands while the stack is worked off -/
structure StF (K : PySem.W.Frag) (H : Hp) (g : PyData → PyData) (Gd : PyData → Prop) (d0 : PyData) (ld lt : Addr) (n : Nat) (H1 : Hp) (vd : List V) (ds : List PyData) (vq : List V) (qs : List (PyData × Bool)) : Prop where
  ad : H1 ld = some (.lst vd)
  at_ : H1 lt = some (.lst vq)
  td : TnAll K H1 vd ds
  tq : TnAll K H1 vq (qs.map prQ)
  tm : ∀ q ∈ qs, Gd q.1
  fin : finD g qs.reverse ds = some [g d0]
  same : Same H H1
  mu : n = muS qs
  le : ds.length + muS qs ≤ 200002
theorem c_folded {lamB : Expr} {ps fr : List Str} {kl k : Nat} (h1l : 1 ≤ k) (hkl : kl ≤ k) (T : Tp mg) (c_PPartsOf : Cal P w K mg base 1 "parts_of" (spParts K) []) {f : Addr} {fd : FuncData} (D : Def K mg "folded" sPFolded f fd) (b : Binds K fd ["term", "told"] []) : CalS P w K mg base (k + 1) "folded" (spFold P w K mg base lamB ps fr kl) := by
  refine calS0 D b scPFolded (fun s vs H Q h => ?_) (fun cdv A outer s H vs Q hr h => ?_)
  · obtain ⟨v, d, f, F, ws, g, Gd, J, rfl, _⟩ := h
    rfl
  · obtain ⟨v0, d0, f, F, ws, g, Gd, J, rfl, hv0, ht0, hw0, hgd, hJ, Fn, hf, hc, C0, hj, q⟩ := h
    have nd := scPFolded.nd
    have line := sizeLine_eq
    refine ⟨_, (pss_cons (ps_set (i := 2) nd rfl (.inl rfl) (pe_lst pa_nil))
    (pss_cons (ps_set (i := 3) nd rfl (.inl rfl) (pe_lst (pa_cons (pe_tup (pa_cons (pv 0) (pa_cons pe_bl pa_nil))) pa_nil)))
    (pss_cons (ps_while PassesOwn.never (pt_truth (pv 3) (by intro _; rfl))
      (pss_cons (ps_asg (pe_bm0 PySem.F.plainAttrs_list PySem.F.slot_list_pop PySem.F.type_list_pop mt_pop (pv 3)) (pg_tup (n := 2) rfl (pgs_cons (pg_name (i := 4) nd rfl (.inl rfl)) (pgs_cons (pg_name (i := 5) nd rfl (.inl rfl)) pgs_nil))))
    (pss_cons (ps_set (i := 6) nd rfl (.inl rfl) (pe_c c_PPartsOf hr h1l (by rfl) (pa_cons (pv 4) pa_nil)))
    (pss_one (ps_if (PW.pt (pw_and (pt_truth (pv 6) (by intro _; rfl)) (pw_and1 (pt_not (pt_val (pv 5))))))
      (pss_cons (ps_expr (pe_bm PySem.F.plainAttrs_list PySem.F.slot_list_append PySem.F.type_list_append mt_append (pv 3) (pa_cons (pe_tup (pa_cons (pv 4) (pa_cons pe_bl pa_nil))) pa_nil)))
    (pss_one (ps_expr (pe_bm PySem.F.plainAttrs_list PySem.F.slot_list_extend PySem.F.type_list_extend mt_extend (pv 3) (pa_cons (pe_lc (own := [("part", 9)]) (g := gName 9) (by rfl) nd (pi_list (pe_revL (pv 6))) (blkOk_by (own := [("part", 9)]) (N := NPFolded) (sc := fnScope sPFolded) (by decide +kernel)) (fun _ _ _ _ _ => pg_name (i := 9) nd rfl (Or.inl rfl)) (fun _ _ _ _ _ => pts_nil) (fun _ _ _ _ _ => pe_tup (pa_cons (pv 9) (pa_cons pe_bl pa_nil)))) pa_nil)))))
      (pss_cons (ps_set (i := 7) nd rfl (.inl rfl) (pe_op op_sub (pe_callB call_len_seq (by rfl) T.n_len (by decide +kernel) (pa_cons (pv 2) pa_nil)) (pe_callB call_len_seq (by rfl) T.n_len (by decide +kernel) (pa_cons (pv 6) pa_nil))))
    (pss_cons (ps_set (i := 8) nd rfl (.inl rfl) (pe_slice sl_list (pv 2) (po_some (pv 7)) po_none))
    (pss_cons (ps_delFrom (pv 2) (pv 7))
    (pss_one (ps_expr (pe_bm PySem.F.plainAttrs_list PySem.F.slot_list_append PySem.F.type_list_append mt_append (pv 2) (pa_cons (pe_callLam (i := 1) (E := C8.E0) (ws := ws) Fn C0 (fun c z => nomatch z) hr hkl C8.pass0 rfl (.inl rfl) (pa_cons (pv 4) (pa_cons (pv 8) pa_nil))) pa_nil))))))))))))
    (pss_one (ps_ret (pe_ix ix_list (pv 2) pe_int (fun _ _ => rfl))))))), ?_⟩
    refine ⟨(by show 0 ≤ sizeLine; decide), fun ld hld => ?_⟩
    refine ⟨_, rfl, (by show 2 ≤ sizeLine; decide), fun t0 ht0' => ⟨(by show 1 ≤ sizeLine; decide), fun lt hlt => ?_⟩⟩
    have nltd : lt ≠ ld := fun e => by
      rw [e, Same.new ht0' _ _ upd_same] at hlt
      cases hlt
    have hltH : H lt = none := (Same.new hld).free ((Same.new ht0').free hlt)
    refine ⟨fun n σ H1 => ∃ vd ds vq qs o4 o5 o6 o7 o8, σ = [some v0, some (.ref f), some (.ref ld), some (.ref lt), o4, o5, o6, o7, o8, none] ∧ StF K H g Gd d0 ld lt n H1 vd ds vq qs,
      ⟨muS [(d0, false)], [], [], [.ref t0], [(d0, false)], none, none, none, none, none, rfl, ?_⟩, ?_⟩
    · have s1 := (Same.new (o := .lst []) hld).trans (Same.new (o := .tup [v0, .bl false]) ht0')
      refine ⟨Same.new hlt _ _ (Same.new ht0' _ _ upd_same), upd_same, .nil, .cons ?_ .nil, (fun q hq => by rw [List.mem_singleton.mp hq]; exact ht0), rfl, s1.trans (Same.new hlt), rfl, ?_⟩
      · exact (Tn.newT ht0' (.cons (hv0.tr (TR.new hld)) (.cons (.bl _) .nil))).tr (TR.new hlt)
      · show 0 + (2 * d0.weight + 2 + 0) ≤ 200002
        omega
    rintro n σ H1 ⟨vd, ds, vq, qs, o4, o5, o6, o7, o8, rfl, S⟩
    refine ⟨_, rfl, !vq.isEmpty, .inl ⟨vq, SqL.of S.at_, rfl⟩, ?_⟩
    by_cases hqs : qs = []
    · subst hqs
      have hvq : vq = [] := List.length_eq_zero_iff.mp S.tq.len
      subst hvq
      have hds : ds = [g d0] := Option.some.inj S.fin
      subst hds
      obtain ⟨v', vr, rfl, h1, h2⟩ := S.td.uncons
      exact iteF ⟨_, rfl, ld, _, _, v', rfl, rfl, SqL.of S.ad, atI_nat (j := 0) rfl, q v' H1 S.same h1⟩
    · obtain ⟨qi, ⟨dx, fx⟩, rfl⟩ := split_last hqs
      have tq := S.tq
      rw [List.map_append] at tq
      obtain ⟨us, wx, rfl, tqi, tqx⟩ := tq.split
      obtain ⟨vx, wr, rfl, tvx, hwr⟩ := tqx.uncons
      have ewr : wr = [] := List.length_eq_zero_iff.mp hwr.len
      subst ewr
      obtain ⟨tx, xs, rfl, hqx, hxs⟩ := tvx.tup
      obtain ⟨v, xr, rfl, hv, hxr⟩ := hxs.uncons
      obtain ⟨bv, xr2, rfl, hbv, hx2⟩ := hxr.uncons
      have exr : xr2 = [] := List.length_eq_zero_iff.mp hx2.len
      subst exr
      obtain rfl : bv = .bl fx := by cases hbv.dp; rfl
      have htx : Gd dx := S.tm (dx, fx) (by simp)
      have htmi : ∀ q ∈ qi, Gd q.1 := fun q hq => S.tm q (List.mem_append_left _ hq)
      have hfin := S.fin
      rw [List.reverse_append] at hfin
      have hfin : finD g ((dx, fx) :: qi.reverse) ds = some [g d0] := hfin
      have hmu : n = muS qi + (muQ (dx, fx) + 0) := S.mu.trans (muS_app _ _)
      have hle := S.le
      rw [muS_app] at hle
      have hle : ds.length + (muS qi + (muQ (dx, fx) + 0)) ≤ 200002 := hle
      have hqil := muS_len qi
      obtain ⟨u, rest, rfl, hr1, hrl, hkt⟩ := hgd dx htx
      obtain ⟨a, ys, rfl, hqa, hya⟩ := hv.tup
      obtain ⟨uv, vr, rfl, huv, hvr⟩ := hya.uncons
      have euv := huv.strv
      subst euv
      have hvrl := hvr.len
      refine iteT' (by simp) ?_
      refine ⟨fun σ' H' => ∃ n', n' < n ∧ ∃ vd ds vq qs o4 o5 o6 o7 o8, σ' = [some v0, some (.ref f), some (.ref ld), some (.ref lt), o4, o5, o6, o7, o8, none] ∧ StF K H g Gd d0 ld lt n' H' vd ds vq qs, fun σ' H' h => h, ?_⟩
      refine ⟨_, rfl, .inl ⟨rfl, _, SqL.of S.at_⟩, lt, _, .ref tx, rfl, rfl, S.at_, by simp, ?_⟩
      rw [List.dropLast_concat]
      have t12 : TR H1 (upd H1 lt (.lst us)) := TR.put S.at_
      have s2 : Same H (upd H1 lt (.lst us)) := same_put S.same hltH
      have hd2 : (upd H1 lt (.lst us)) ld = some (.lst vd) := by rw [upd_ne nltd.symm]; exact S.ad
      have hat2 : (upd H1 lt (.lst us)) lt = some (.lst us) := upd_same
      generalize hH2 : upd H1 lt (.lst us) = H2 at *
      refine ⟨tx, _, rfl, t12.sq hqx, rfl, .ref a, _, rfl, .bl fx, _, rfl, rfl, ?_⟩
      refine ⟨_, rfl, a, u, vr, rfl, t12.sq hqa, by omega, by omega, fun lp H3 hlp s23 hlp3 => ?_⟩
      have t23 := TR.same s23
      have t13 := t12.trans t23
      have s3 := s2.trans s23
      have hd3 := s23 _ _ hd2
      have hat3 := s23 _ _ hat2
      have hkids : TnAll K H3 (selW u vr) (selW u rest) := (sel_tn u hvr).tr t13
      have hkl := hkids.len
      have hpl : (partsD (.tuple (.str u :: rest))) = selW u rest := rfl
      have hslen : (selW u rest).length ≤ 1000 := Nat.le_trans (sel_len u rest) hrl
      have hnp : lp ≠ ld := fun e => by rw [e, hd2] at hlp; cases hlp
      have hnt : lp ≠ lt := fun e => by rw [e, hat2] at hlp; cases hlp
      refine (fun (els : ((¬ ((!(selW u vr).isEmpty) = true)) ∨ ¬ ((!fx) = true)) → _) => ⟨_, rfl, !(selW u vr).isEmpty, .inl ⟨_, SqL.of hlp3, rfl⟩, ite2 (fun e => ⟨_, rfl, fx, rfl, ite2 (fun e2 => ?_) (fun e2 => els (.inr e2))⟩) (fun e => els (.inl e))⟩) ?_
      · intro hels
        have hcl : (selW u rest).isEmpty = true ∨ fx = true := by
          rcases hels with h | h
          · left
            cases e1 : selW u rest with
            | nil => rfl
            | cons x y =>
              rw [e1] at hkl
              cases e2 : selW u vr with
              | nil => rw [e2] at hkl; cases hkl
              | cons x2 y2 => rw [e2] at h; exact absurd rfl h
          · right
            cases fx with
            | true => rfl
            | false => exact absurd rfl h
        obtain ⟨hk1, hfin2, hemp⟩ := fin_close g hfin hcl
        have hvd := S.td.len
        obtain ⟨k, hk⟩ : ∃ k : Nat, k = ds.length - (selW u rest).length := ⟨_, rfl⟩
        rw [← hk] at hfin2 hemp
        have ek : ((vd.length : Nat) : Int) - (((selW u vr).length : Nat) : Int) = ((k : Nat) : Int) := by omega
        refine ⟨_, rfl, ld, vd, rfl, .inl (SqL.of hd3), _, rfl, lp, _, rfl, .inl (SqL.of hlp3), _, _, rfl, rfl, ?_⟩
        refine (show gName 7 (.int (((vd.length : Nat) : Int) - (((selW u vr).length : Nat) : Int))) _ _ _ from ?_)
        rw [ek]
        refine ⟨_, rfl, _, rfl, (k : Int), rfl, ld, vd, rfl, SqL.of hd3, fun lm hlm => ?_⟩
        rw [from_cut (by omega)]
        have nmd : lm ≠ ld := fun e => by rw [e, hd3] at hlm; cases hlm
        have nmt : lm ≠ lt := fun e => by rw [e, hat3] at hlm; cases hlm
        have s4 := s3.trans (Same.new (o := .lst (vd.drop k)) hlm)
        have hd4 : (upd H3 lm (.lst (vd.drop k))) ld = some (.lst vd) := Same.new hlm _ _ hd3
        have hat4 : (upd H3 lm (.lst (vd.drop k))) lt = some (.lst us) := Same.new hlm _ _ hat3
        have t34 : TR H3 (upd H3 lm (.lst (vd.drop k))) := TR.new hlm
        have hlm4 : (upd H3 lm (.lst (vd.drop k))) lm = some (.lst (vd.drop k)) := upd_same
        generalize upd H3 lm (.lst (vd.drop k)) = H4 at *
        refine ⟨_, rfl, _, rfl, _, rfl, ld, vd, k, rfl, rfl, hd4, by omega, ?_⟩
        have s5 := same_put (o := .lst (vd.take k)) s4 hld
        have t45 : TR H4 (upd H4 ld (.lst (vd.take k))) := TR.put hd4
        have hd5 : (upd H4 ld (.lst (vd.take k))) ld = some (.lst (vd.take k)) := upd_same
        have hat5 : (upd H4 ld (.lst (vd.take k))) lt = some (.lst us) := by rw [upd_ne nltd]; exact hat4
        have hlm5 : (upd H4 ld (.lst (vd.take k))) lm = some (.lst (vd.drop k)) := by rw [upd_ne nmd]; exact hlm4
        generalize upd H4 ld (.lst (vd.take k)) = H5 at *
        have t15 := (t13.trans t34).trans t45
        obtain ⟨hT, hDr⟩ := (S.td.tr t15).takes k
        refine ⟨_, rfl, .inl ⟨rfl, _, SqL.of hd5⟩, rfl, s5 _ _ hf, _, rfl, _, rfl, s5 _ _ hf, s5 _ _ hc, rfl, .ref a, _, lm, _, rfl, hv.tr t15, htx, hlm5, (by rw [hpl, ← hemp]; exact hDr), hJ _ _ s5 hj, fun v' H6 s56 tn6 => ⟨ld, _, v', rfl, rfl, s56 _ _ hd5, ?_, ?_⟩⟩
        · rw [List.length_take]
          omega
        · have t67 : TR H6 (upd H6 ld (.lst (vd.take k ++ [v']))) := TR.put (s56 _ _ hd5)
          have t57 := (TR.same s56).trans t67
          refine ⟨muS qi, ?_, _, ds.take k ++ [g (.tuple (.str u :: rest))], us, qi, _, _, _, _, _, rfl, upd_same, by rw [upd_ne nltd]; exact s56 _ _ hat5, (hT.tr t57).app (.cons (tn6.tr t67) .nil), tqi.tr (t15.trans t57), htmi, hfin2, same_put (s5.trans s56) hld, rfl, ?_⟩
          · rw [hmu]
            have : 1 ≤ muQ (.tuple (.str u :: rest), fx) := by
              unfold muQ
              split <;> omega
            omega
          · rw [List.length_append, List.length_take, List.length_singleton]
            have h1 : 1 ≤ muQ (.tuple (.str u :: rest), fx) := by
              unfold muQ
              split <;> omega
            omega
      · have hfx : fx = false := by
          cases fx with
          | false => rfl
          | true => exact absurd e2 Bool.false_ne_true
        subst hfx
        have hne : (partsD (.tuple (.str u :: rest))).isEmpty = false := by
          show (selW u rest).isEmpty = false
          cases e1 : selW u rest with
          | cons x y => rfl
          | nil =>
            rw [e1] at hkl
            have e3 := List.length_eq_zero_iff.mp hkl
            rw [e3] at e
            cases e
        have hop := finD_open g u rest hne qi.reverse ds
        have hwp := weight_parts (.tuple (.str u :: rest))
        rw [hpl] at hop hwp
        have hul := tqi.len
        rw [List.length_map] at hul
        have hkw := len_weightAll (selW u rest)
        have emq : muQ (.tuple (.str u :: rest), false) = 2 * (PyData.tuple (.str u :: rest)).weight + 2 := rfl
        rw [emq] at hmu hle
        refine ⟨_, rfl, .inl ⟨rfl, _, SqL.of hat3⟩, _, rfl, (by show 2 ≤ sizeLine; decide), fun t ht => ⟨lt, us, _, rfl, rfl, Same.new ht _ _ hat3, by omega, ?_⟩⟩
        have t34 : TR H3 (upd H3 t (.tup [.ref a, .bl true])) := TR.new ht
        have s4 := s3.trans (Same.new (o := .tup [.ref a, .bl true]) ht)
        have hat4 : (upd H3 t (.tup [.ref a, .bl true])) lt = some (.lst us) := Same.new ht _ _ hat3
        have hd4 : (upd H3 t (.tup [.ref a, .bl true])) ld = some (.lst vd) := Same.new ht _ _ hd3
        have hlp4 : (upd H3 t (.tup [.ref a, .bl true])) lp = some (.lst (selW u vr)) := Same.new ht _ _ hlp3
        have tn4 : Tn K (upd H3 t (.tup [.ref a, .bl true])) (.ref t) (prQ (.tuple (.str u :: rest), true)) := Tn.newT ht (.cons (hv.tr t13) (.cons (.bl true) .nil))
        generalize upd H3 t (.tup [.ref a, .bl true]) = H4 at *
        have t45 : TR H4 (upd H4 lt (.lst (us ++ [.ref t]))) := TR.put hat4
        have s5 := same_put (o := .lst (us ++ [.ref t])) s4 hltH
        have hat5 : (upd H4 lt (.lst (us ++ [.ref t]))) lt = some (.lst (us ++ [.ref t])) := upd_same
        have hd5 : (upd H4 lt (.lst (us ++ [.ref t]))) ld = some (.lst vd) := by rw [upd_ne nltd.symm]; exact hd4
        have hlp5 : (upd H4 lt (.lst (us ++ [.ref t]))) lp = some (.lst (selW u vr)) := by rw [upd_ne hnt]; exact hlp4
        generalize upd H4 lt (.lst (us ++ [.ref t])) = H5 at *
        refine ⟨_, rfl, .inl ⟨rfl, _, SqL.of hat5⟩, _, rfl, lp, _, rfl, SqL.of hlp5, fun lr hlr => ⟨lr, rfl, ⟨_, SqL.of upd_same⟩, fun Dl hDl => ?_⟩⟩
        have s56 : Same H5 (upd H5 lr (.lst (selW u vr).reverse)) := Same.new hlr
        have hlr6 : (upd H5 lr (.lst (selW u vr).reverse)) lr = some (.lst (selW u vr).reverse) := upd_same
        generalize upd H5 lr (.lst (selW u vr).reverse) = H6 at *
        have t36 := (t34.trans t45).trans (TR.same s56)
        have hrev : TnAll K H6 (selW u vr).reverse (selW u rest).reverse := (hkids.tr t36).rev
        have nDr : Dl ≠ lr := fun z => by rw [z, hlr6] at hDl; cases hDl
        refine lc_list (K := K) (a := lr) (xs := (selW u vr).reverse) (fun i H' => ∃ acc, H' Dl = some (.lst acc) ∧ acc.length = i ∧ Same H6 H' ∧ TnAll K H' acc (((selW u rest).reverse.take i).map fun p => prQ (p, false))) ⟨[], upd_same, rfl, Same.new hDl, .nil⟩ (fun i H' _ hW => ?_) (fun i x H' hi hW => ?_) (fun H' hW => ?_)
        · obtain ⟨acc, h1, h2, h3, h4⟩ := hW
          exact SqL.of (h3 _ _ hlr6)
        · obtain ⟨acc, h1, h2, h3, h4⟩ := hW
          obtain ⟨pd, hpd, tpd⟩ := hrev.at hi
          have hil : i < (selW u vr).reverse.length := (List.getElem?_eq_some_iff.mp hi).1
          rw [List.length_reverse] at hil
          refine ⟨rfl, ?_⟩
          unfold tYes; dsimp only
          rw [if_pos rfl]
          refine ⟨_, rfl, (by show 2 ≤ sizeLine; decide), fun t2 ht2 => ?_⟩
          have h1' : (upd H' t2 (.tup [x, .bl false])) Dl = some (.lst acc) := Same.new ht2 _ _ h1
          have tp : TR (upd H' t2 (.tup [x, .bl false])) (upd (upd H' t2 (.tup [x, .bl false])) Dl (.lst (acc ++ [.ref t2]))) := TR.put h1'
          refine ⟨acc, h1', by omega, acc ++ [.ref t2], upd_same, by rw [List.length_append, h2]; rfl, same_put (h3.trans (Same.new ht2)) hDl, ?_⟩
          rw [List.take_succ, hpd]
          show TnAll K _ _ (List.map _ (_ ++ [pd]))
          rw [List.map_append]
          exact ((h4.tr (TR.new ht2)).tr tp).app (.cons ((Tn.newT ht2 (.cons (tpd.tr (TR.same h3)) (.cons (.bl false) .nil))).tr tp) .nil)
        · obtain ⟨acc, h1, h2, h3, h4⟩ := hW
          rw [List.length_reverse] at h2
          have hat7 := h3 _ _ (s56 _ _ hat5)
          have hd7 := h3 _ _ (s56 _ _ hd5)
          have e7 : (selW u rest).reverse.take (selW u vr).reverse.length = (selW u rest).reverse := List.take_of_length_le (by rw [List.length_reverse, List.length_reverse]; omega)
          rw [e7] at h4
          refine ⟨lt, Dl, _, acc, rfl, rfl, hat7, h1, by rw [List.length_append, List.length_singleton]; omega, ?_⟩
          have t78 : TR H' (upd H' lt (.lst (us ++ [.ref t] ++ acc))) := TR.put hat7
          have t48 : TR H4 (upd H' lt (.lst (us ++ [.ref t] ++ acc))) := ((t45.trans (TR.same s56)).trans (TR.same h3)).trans t78
          have t18 := (t13.trans t34).trans t48
          have em : muS ((qi ++ [(PyData.tuple (.str u :: rest), true)]) ++ (selW u rest).reverse.map fun p => (p, false)) = muS qi + 1 + 2 * PyData.weightAll (selW u rest) := by
            rw [muS_app, muS_app, muS_falses, weightAll_rev]
            rfl
          refine ⟨muS ((qi ++ [(PyData.tuple (.str u :: rest), true)]) ++ (selW u rest).reverse.map fun p => (p, false)), ?_, vd, ds, _, (qi ++ [(PyData.tuple (.str u :: rest), true)]) ++ (selW u rest).reverse.map (fun p => (p, false)), _, _, _, _, _, rfl, by rw [upd_ne nltd.symm]; exact hd7, upd_same, S.td.tr t18, ?_, ?_, ?_, same_put ((s5.trans s56).trans h3) hltH, rfl, ?_⟩
          · rw [em, hmu]
            omega
          · rw [List.map_append, List.map_append, List.map_map]
            exact ((tqi.tr t18).app (.cons (tn4.tr t48) .nil)).app (h4.tr t78)
          · intro q hq
            rcases List.mem_append.mp hq with hq | hq
            · rcases List.mem_append.mp hq with hq | hq
              · exact htmi q hq
              · rw [List.mem_singleton.mp hq]
                exact htx
            · obtain ⟨p, hp, rfl⟩ := List.mem_map.mp hq
              exact hkt p (List.mem_reverse.mp hp)
          · rw [List.reverse_append, List.reverse_append, ← List.map_reverse, List.reverse_reverse]
            exact hop.trans hfin
          · rw [em]
            omega
end
end K31
set_option Elab.async false
set_option linter.all false
set_option maxRecDepth 100000
set_option maxHeartbeats 1500000
namespace LamC
open PySem PySem.Spec PyProof.Rows L2 LamX NdefX
open C8 (Cal Def fnBody fnScope fnArgs)
/-- a def whose code object is known -/
theorem calL0 {P : Program} {w : World} {K : PySem.W.Frag} {mg : Str → Option Value} {base : Heap} {x : Str} {st : Stmt} {f c : Addr} {N ps : List Str} {k : Nat} {sp : Sp} {oc dV kV doc pm ct : Value} {od an : Option Addr} {osl : Array (Option Value)}
    (lk : K.lookup f = some ⟨oc, od, .func (PySem.W.fnOf x x (fnArgs st) (fnBody st) (fnScope st) dV kV doc pm an (.ref c) ct), osl⟩) (hcd : PySem.W.codeIn K (.ref c) x = true) (hm : mg x = some (.ref f)) (kp : PySem.W.keepIn K (.ref f) = true)
    (b : Binds K (PySem.W.fnOf x x (fnArgs st) (fnBody st) (fnScope st) dV kV doc pm an (.ref c) ct) ps []) (S : FnScope N ps (fnScope st)) (len : ∀ vs H Q E, sp vs H Q E → vs.length = ps.length)
    (hbody : ∀ (A : Around) (outer : List Env) (s : Shared) (H : Hp) (vs : List V) (Q : VK) (E : XK), Room k (A.deeper (envOfC x (fnScope st) s.heap.objs.size f (.ref c))) → sp vs H Q E →
      ∃ t, PSs (cxOf C8.CX0 P w K mg base N x (fnScope st) f (.ref c) A outer s H E).nox (fnBody st) t ∧ t { nx := fun _ H' => Q .non H', rt := Q } (start N vs) H) : Cal P w K mg base (k + 1) x sp [] := by
  refine ⟨f, _, ps, [], ⟨len, fun A outer s H args us vs Q E hr e0 hb r h => ?_⟩, hm, kp, b, .nil⟩
  refine run_ofS lk hcd S hr e0 hb r (len _ _ _ _ h) fun hr' => ?_
  obtain ⟨t, ht, hq⟩ := hbody A outer s H vs Q E hr' h
  exact ⟨t, ht.nox, hq⟩
end LamC
namespace K31
open PySem PySem.Spec PyProof.Rows L2 LamX NdefX LamC StX
open C8 (Cal Def cal0 pe_c fnBody fnScope fnArgs)
/-! ### terms that are asked for their kinds -/
structure GoodD (d : PyData) : Prop where
  tm : termB d = true
  lay : d.canLay0 = true
  dep : d.depth ≤ 30
theorem good_ok : GdOk GoodD := fun d h => by
  obtain ⟨u, rest, rfl, h1, h2, h3⟩ := term_form h.tm
  refine ⟨u, rest, rfl, h1, Nat.le_trans (shaped_len h2) (by decide), fun p hp => ?_⟩
  have hl : PyData.canLayAll0 (.str u :: rest) = true := by simpa [PyData.canLay0] using h.lay
  have hm := lay_mem hl (List.mem_cons_of_mem _ (mem_sel hp))
  have hd : (PyData.tuple (.str u :: rest)).depth = PyData.depthAll (.str u :: rest) + 1 := by simp only [PyData.depth]
  have := h.dep
  exact ⟨List.all_eq_true.mp h3 p hp, hm.1, by omega⟩
section
variable {P : Program} {w : World} {K : PySem.W.Frag} {mg : Str → Option Value} {base : Heap}
theorem good_parts {H : Hp} {v : V} {u : Str} {rest : List PyData} (hv : Tn K H v (.tuple (.str u :: rest))) (h1 : 1 ≤ rest.length) (h2 : shapedW u rest = true) :
    ∃ t vr, v = .ref t ∧ SqT K H t (.str u :: vr) ∧ PartsOk H K u rest vr (selW u rest).length ∧ wideOk u (selW u rest).length ∧ (selW u rest).length ≤ 8 ∧ TnAll K H vr rest := by
  obtain ⟨t, ys, rfl, hq, hy⟩ := hv.tup
  obtain ⟨uv, vr, rfl, huv, hvr⟩ := hy.uncons
  obtain rfl := huv.strv
  have l8 := Nat.le_trans (sel_len u rest) (shaped_len h2)
  have leaf1 : ∀ x : Unit, leafW u = true → ∃ d v1, rest = [d] ∧ vr = [v1] ∧ Tn K H v1 d ∧ leafB u d = true := fun _ hl => by
    unfold shapedW at h2
    rw [if_pos hl, Bool.and_eq_true] at h2
    have hl1 := of_decide_eq_true h2.1
    have h22 := h2.2
    match rest, hl1, hvr, h22 with
    | [d], _, hvr, h22 =>
      obtain ⟨v1, r, rfl, g1, g2⟩ := hvr.uncons
      have := List.length_eq_zero_iff.mp g2.len
      subst this
      exact ⟨d, v1, rfl, rfl, g1, h22⟩
  have cnt : ∀ c, leafW u = false → (u == "field") = false → (u == "list") = false → counts.lookup u = some c → rest.length = c := fun c a1 a2 a3 a4 => by
    unfold shapedW at h2
    rw [if_neg (by rw [a1]; decide), if_neg (by rw [a2]; decide), if_neg (by rw [a3]; decide), a4] at h2
    exact of_decide_eq_true h2
  have big : leafW u = false → 1 ≤ (selW u rest).length := fun a1 => by
    unfold selW
    rw [if_neg (by rw [a1]; decide)]
    split
    · rw [List.length_take]
      omega
    · exact h1
  have whole : leafW u = false → (u == "field") = false → selW u rest = rest := fun a1 a2 => by
    unfold selW
    rw [if_neg (by rw [a1]; decide), if_neg (by rw [a2]; decide)]
  refine ⟨t, vr, rfl, hq, ⟨?_, ?_, ?_, ?_, ?_, ?_⟩, ⟨?_, ?_, ?_⟩, l8, hvr⟩
  · intro e
    subst e
    obtain ⟨d, v1, rfl, rfl, g1, g2⟩ := leaf1 () (by decide +kernel)
    have g2 : isS d = true := g2
    cases d with
    | str z =>
      obtain rfl := g1.strv
      exact ⟨z, rfl, rfl⟩
    | _ => cases g2
  · intro e
    subst e
    obtain ⟨d, v1, rfl, rfl, g1, g2⟩ := leaf1 () (by decide +kernel)
    have g2 : isS d = true := g2
    cases d with
    | str z =>
      obtain rfl := g1.strv
      exact ⟨z, rfl, rfl⟩
    | _ => cases g2
  · intro e
    subst e
    obtain ⟨d, v1, rfl, rfl, g1, g2⟩ := leaf1 () (by decide +kernel)
    have g2 : (toK d).isSome = true := g2
    obtain ⟨k, hk⟩ := Option.isSome_iff_exists.mp g2
    have := toK_some hk
    subst this
    exact ⟨k, v1, rfl, rfl, g1⟩
  · intro e
    subst e
    have h3 : (decide (rest.length = 2) && (rest[1]?.map isS).getD false) = true := h2
    rw [Bool.and_eq_true] at h3
    have hl2 := of_decide_eq_true h3.1
    have h32 := h3.2
    match rest, hl2, hvr, h32 with
    | [d, y], _, hvr, h32 =>
      have h4 : isS y = true := h32
      cases y with
      | str z =>
        obtain ⟨v1, r, rfl, g1, g2⟩ := hvr.uncons
        obtain ⟨v2, r2, rfl, g3, g4⟩ := g2.uncons
        obtain rfl := g3.strv
        have := List.length_eq_zero_iff.mp g4.len
        subst this
        exact ⟨d, z, v1, rfl, rfl, rfl⟩
      | _ => cases h4
  · intro e
    subst e
    exact big (by decide +kernel)
  · intro e1 e2 e3 e4 e5
    refine big ?_
    cases hl : leafW u with
    | false => rfl
    | true =>
      exfalso
      unfold leafW at hl
      rw [in5] at hl
      simp only [Bool.or_eq_true, beq_iff_eq] at hl
      rcases hl with (((h | h) | h) | h) | h
      · subst h; exact absurd e1 (by decide +kernel)
      · subst h; exact absurd e2 (by decide +kernel)
      · exact e3 h
      · exact e4 h
      · exact e5 h
  · intro e
    subst e
    rw [whole (by decide +kernel) (by decide +kernel)]
    exact cnt 3 (by decide +kernel) (by decide +kernel) (by decide +kernel) (by decide +kernel)
  · intro e
    subst e
    rw [whole (by decide +kernel) (by decide +kernel)]
    exact cnt 3 (by decide +kernel) (by decide +kernel) (by decide +kernel) (by decide +kernel)
  · rintro (e | e | e) <;> subst e <;> exact big (by decide +kernel)
/-! ### the lambda in kind_of -/
abbrev sPKindOf : Stmt := topS 11
abbrev lamParams : Arguments := match fnBody sPKindOf with
  | [_, .Return (some (.Call _ [_, .Lambda p _ _ _] _ _)) _] => p
  | _ => fnArgs sPKindOf
abbrev lamBody : Expr := match fnBody sPKindOf with
  | [_, .Return (some (.Call _ [_, .Lambda _ b _ _] _ _)) _] => b
  | _ => .Constant (.int 0) 0 ⟨0, 0, 0, 0⟩
abbrev lamScope : Scope := match fnBody sPKindOf with
  | [_, .Return (some (.Call _ [_, .Lambda _ _ s _] _ _)) _] => s
  | _ => fnScope sPKindOf
abbrev lamN : List Str := ["one", "kinds", "held", "program"]
theorem lamSc : NScope lamN ["one", "kinds"] ["held", "program"] lamScope := nscope_by (by decide +kernel)
def evO (c : En) (d : PyData) : PyData := oD (evK c d)
def JK (K : PySem.W.Frag) (hd pa : Addr) (kvh : List (Key × V)) (c : En) : Hp → Prop := fun H => H hd = some (.dK kvh) ∧ MpK K H kvh c.h ∧ PgOk K H pa c
theorem JK.same {hd pa : Addr} {kvh : List (Key × V)} {c : En} : ∀ H H', Same H H' → JK K hd pa kvh c H → JK K hd pa kvh c H' := fun H H' e h => ⟨e _ _ h.1, h.2.1.tr (TR.same e), h.2.2.same e⟩
theorem lok_lam (c_PKindOver : Cal P w K mg base 3 "_kind_over" (spOver K) []) (nm ql : Str) (cl : List (Str × Addr)) (cc f hd pa : Addr) (kvh : List (Key × V)) (c : En) (ok : EnOk c) :
    LOk P w K mg base C8.CX0 4 f ⟨nm, ql, lamParams, [], lamScope, cl, cc⟩ lamBody ["one", "kinds"] ["held", "program"] (spLamG K [some (.ref hd), some (.ref pa)] (evO c) GoodD (JK K hd pa kvh c)) := by
  refine lok_of (N := lamN) lamSc (fun pm ctv us hl => ?_) (fun ws vs H Q E h => ?_) (fun A outer s H vs ws Q E hr hws h => ?_)
  · match us, hl with
    | [a, b], _ => rfl
  · obtain ⟨_, v, d, l, vm, rfl, _⟩ := h
    rfl
  · obtain ⟨rfl, v, d, l, vm, rfl, hv, hg, hl, hm, hj, q⟩ := h
    refine ⟨_, pe_c c_PKindOver hr (by decide) (by rfl) (pa_cons (pv 0) (pa_cons (pv 1) (pa_cons (pv 2) (pa_cons (pv 3) pa_nil)))), ?_⟩
    obtain ⟨u, rest, rfl, h1, h2, h3⟩ := term_form hg.tm
    obtain ⟨t, vr, rfl, hq, po, wo, l8, _⟩ := good_parts hv h1 h2
    have hm2 : TnAll K H vm (((selW u rest).map (evK c)).map oD) := by
      rw [List.map_map]
      exact hm
    refine ⟨_, rfl, _, rfl, _, rfl, _, rfl, t, u, vr, rest, l, vm, (selW u rest).map (evK c), hd, kvh, pa, c, rfl, hq, by rw [List.length_map]; exact po, by rw [List.length_map]; exact wo, hl, hm2, by rw [List.length_map]; exact l8, hj.1, hj.2.1, hj.2.2, fun k hk => ?_, fun v' H' s' hv' => q v' H' s' ?_⟩
    · obtain ⟨p, hp, e⟩ := List.mem_map.mp hk
      obtain ⟨u2, rest2, e2, _, _, hgp⟩ := good_ok _ hg
      cases e2
      have gp := hgp p hp
      refine ⟨?_, ?_⟩
      · obtain ⟨u3, rest3, e3, _⟩ := term_form gp.tm
        rw [e3, evK_eq] at e
        exact (over_some e).2.1
      · exact (ev_ok ok p k gp.lay e).mono (by have := gp.dep; omega)
    · unfold evO
      rw [evK_eq]
      exact hv'
end
end K31
set_option Elab.async false
set_option linter.all false
set_option maxRecDepth 100000
set_option maxHeartbeats 1500000
namespace K31
open PySem PySem.Spec PyProof.Rows L2 LamX NdefX LamC StX
open C8 (Cal Def cal0 pe_c fnBody fnScope fnArgs)
section
variable {P : Program} {w : World} {K : PySem.W.Frag} {mg : Str → Option Value} {base : Heap}
abbrev NPKindOf : List Str := ["term", "holding", "program", "held"]
theorem scPKindOf : FnScope NPKindOf ["term", "holding", "program"] (fnScope sPKindOf) := ⟨rfl, rfl, rfl, by decide +kernel, rfl, by decide +kernel, by decide +kernel⟩
abbrev lamQ : Str := (("kind_of" : Str) ++ ".<locals>.") ++ "<lambda>"
def spKindOf (K : PySem.W.Frag) (Pt : Addr) : Sp := fun vs H Q _ => ∃ v d th pa c fs, vs = [v, .ref th, .ref pa] ∧ Tn K H v d ∧ GoodD d ∧ d.weight ≤ 100000 ∧ Fd K H th fs ∧ c.h = (fun z => fs.lookup z) ∧ PgOk K H pa c ∧ EnOk c ∧ Tabs [(Pt, lamQ)] H ∧
  ∀ v' H', ExtN H H' → (∀ b, H' b = none → H b = none) → Tabs [(Pt, lamQ)] H' → Tn K H' v' (evO c d) → Q v' H'
def ScKO (K : PySem.W.Frag) (F : Addr → NF) : List (Option V) → List V → Hp → VK → Prop := fun ws vs H Q => ∃ v d g c' hd pa kvh c, vs = [v, .ref g] ∧ ws = [some (.ref hd), some (.ref pa)] ∧ Tn K H v d ∧ GoodD d ∧ d.weight ≤ 100000 ∧ H g = some (LamO g (F c') lamBody) ∧ H (F c').c = some (CodeO (F c').c (F c').qual) ∧ JK K hd pa kvh c H ∧ EnOk c ∧
  ∀ v' H', Same H H' → Tn K H' v' (evO c d) → Q v' H'
theorem lamFree : ndefB (fnScope sPKindOf) lamScope ["held", "program"] = true := by decide +kernel
theorem fd_ext {H H' : Hp} {pa : Addr} {c : En} (h : PgOk K H pa c) (e : ExtN H H') : PgOk K H' pa c := by
  obtain ⟨d0, d1, x2, kv0, kv1, pg⟩ := h
  have tr : TR H H' := TR.ext e
  refine ⟨d0, d1, x2, kv0, kv1, tr.sq pg.at_, e _ _ pg.a0 (fun ps z => nomatch z), e _ _ pg.a1 (fun ps z => nomatch z), fun z => ?_, fun z => ?_⟩
  · rcases pg.f z with h | ⟨t, fs, h1, h2, ps, ⟨o, h3, h4, h5⟩, h6, h7⟩
    · exact .inl h
    · exact .inr ⟨t, fs, h1, h2, ps, ⟨o, e _ _ h3 (fun ps z => nomatch z), h4, h5⟩, Paired.mapP h6 fun _ _ ⟨v, a, b⟩ => ⟨v, tr.sq a, b.tr tr⟩, h7⟩
  · rcases pg.b z with h | ⟨t, kv, x, k, h1, h2, h3, h4⟩
    · exact .inl h
    · exact .inr ⟨t, kv, x, k, h1, h2, tr.sq h3, h4.tr tr⟩
theorem c_kindOf (T : Tp mg) (cFold : CalS P w K mg base 5 "folded" (spFold P w K mg base lamBody ["one", "kinds"] ["held", "program"] 4)) (c_PKindOver : Cal P w K mg base 3 "_kind_over" (spOver K) []) {Pt : Addr} {f c : Addr} {oc dV kV doc pm ct : Value} {od an : Option Addr} {osl : Array (Option Value)}
    (lk : K.lookup f = some ⟨oc, od, .func (PySem.W.fnOf "kind_of" "kind_of" (fnArgs sPKindOf) (fnBody sPKindOf) (fnScope sPKindOf) dV kV doc pm an (.ref c) ct), osl⟩) (hcd : PySem.W.codeIn K (.ref c) "kind_of" = true) (hmg : mg "kind_of" = some (.ref f)) (kp : PySem.W.keepIn K (.ref f) = true)
    (b : L2.Binds K (PySem.W.fnOf "kind_of" "kind_of" (fnArgs sPKindOf) (fnBody sPKindOf) (fnScope sPKindOf) dV kV doc pm an (.ref c) ct) ["term", "holding", "program"] []) (TB : TabB base mg c Pt) : Cal P w K mg base 6 "kind_of" (spKindOf K Pt) [] := by
  refine calL0 (N := NPKindOf) lk hcd hmg kp b scPKindOf (fun vs H Q E h => ?_) (fun A outer s H vs Q E hr h => ?_)
  · obtain ⟨v, d, th, pa, c, fs, rfl, _⟩ := h
    rfl
  · obtain ⟨v, d, th, pa, cc, fs, rfl, hv, hg, hw, hf, hh, hp, ok, hT, q⟩ := h
    have nd := scPKindOf.nd
    have hfree := ndef_free lamFree
    have hfr := ndef_fr lamFree
    refine ⟨_, pss_cons (ps_set (i := 3) nd rfl (.inr rfl) (pe_callTy (call_dictT rfl) (by rfl) T.n_dict (by decide +kernel) (pa_cons (pv 1) pa_nil))) (pss_one (ps_ret (pe_cS (js := [3, 2]) (fr := ["held", "program"]) (Sc := ScKO K (lamF (cxOf C8.CX0 P w K mg base NPKindOf "kind_of" (fnScope sPKindOf) f (.ref c) A outer s H E).nox lamParams lamScope)) cFold hr (by decide) (by rfl) (fun ok => Caps.made ok hfree hfr rfl) (fun s' ws vs' H' Q' C h' => ?_) (pa_cons (pv 0) (pa_cons (pe_lam (T := [(Pt, lamQ)]) TB rfl ?_ ?_ rfl hfree) pa_nil))))), ?_⟩
    · obtain ⟨v1, d1, g, c', hd1, pa1, kvh1, c1, rfl, rfl, h1, h2, h3, h4, h5, h6, h7, h8⟩ := h'
      exact ⟨v1, d1, g, _, _, evO c1, GoodD, JK K hd1 pa1 kvh1 c1, rfl, h1, h2, h3, good_ok, JK.same, lok_lam c_PKindOver _ _ _ _ _ _ _ _ _ h7, h4, h5, C, h6, h8⟩
    · exact List.mem_singleton.mpr rfl
    · intro p hp _
      rw [List.mem_singleton.mp hp]
      rfl
    · obtain ⟨ps, kvs, hpl, hpr, hme, hm, _⟩ := fd_dict hf
      refine ⟨_, rfl, th, ps, kvs, rfl, hpl, hpr, fun p hp0 => ?_⟩
      rw [hme]
      have s1 : Same H (upd H p (.dK kvs)) := Same.new hp0
      have e1 : ExtN H (upd H p (.dK kvs)) := ExtN.of s1
      refine ⟨_, rfl, hT.ext s1, fun g c' H1 eN bN T1 hg0 hg1 hc' => ?_⟩
      have tr := (TR.same s1).trans (TR.ext eN)
      refine ⟨v, d, g, c', p, pa, kvs, cc, rfl, rfl, hv.tr tr, hg, hw, hg1, hc', ⟨eN _ _ upd_same (fun ps z => nomatch z), ?_, fd_ext (hp.same s1) eN⟩, ok, fun v' H' s' tn => q v' H' ((e1.trans eN).trans (ExtN.of s')) (fun b hb => s1.free (bN b (s'.free hb))) (T1.ext s') tn⟩
      rw [hh]
      exact hm.tr ((TR.new hp0).trans (TR.ext eN))
end
end K31
set_option Elab.async false
set_option linter.all false
set_option maxRecDepth 100000
set_option maxHeartbeats 1000000
namespace K31
open PySem PySem.Spec PyProof.Rows L2
open C8 (Cal Def cal0 pe_c fnBody fnScope fnArgs)
/-! ### what the law says of parts' kinds -/
def dueF (c : En) (u : Str) (rest : List PyData) (kk : List Kd) : Option Kd :=
  if u == "add" || u == "less" || u == "times" || u == "under" then (if kk = [.num, .num] then some (if u == "under" then .tru else .num) else none)
  else if u == "both" || u == "not" then (if kk.all (fun k => decide (k = .tru)) then some .tru else none)
  else if u == "same" then (if kk[0]? = kk[1]? then some .tru else none)
  else if u == "many" then (if (kk[0]?.map Kd.word) = some "list" then some .num else none)
  else if u == "join" then (if (kk[0]?.map Kd.word) = some "list" ∧ kk[0]? = kk[1]? then kk[0]? else none)
  else if u == "pick" then (if kk[0]? = some .tru ∧ kk[1]? = kk[2]? then kk[1]? else none)
  else if u == "at" then (if kk[0]? = kk[2]?.map .lst ∧ kk[1]? = some .num then kk[2]? else none)
  else if u == "list" then (if kk.all (fun k => decide (some k = kk[0]?)) then kk[0]?.map .lst else none)
  else fieldK c kk[0]? (strAt rest 1)
theorem is_num (k : Kd) : (("number" : Str) == k.word) = decide (k = .num) := by
  cases k with
  | num => decide +kernel
  | tru => decide +kernel
  | rcd z => exact (show (("number" : Str) == "record") = false by decide +kernel).trans (by simp)
  | lst z => exact (show (("number" : Str) == "list") = false by decide +kernel).trans (by simp)
theorem is_tru (k : Kd) : (("truth" : Str) == k.word) = decide (k = .tru) := by
  cases k with
  | num => decide +kernel
  | tru => decide +kernel
  | rcd z => exact (show (("truth" : Str) == "record") = false by decide +kernel).trans (by simp)
  | lst z => exact (show (("truth" : Str) == "list") = false by decide +kernel).trans (by simp)
theorem is_lst (k : Kd) : (("list" : Str) == k.word) = decide (k.word = "list") := by
  rw [Bool.eq_iff_iff]
  simp
  exact ⟨fun h => h.symm, fun h => h.symm⟩
def ovF (c : En) (u : Str) (rest : List PyData) (kk : List Kd) : Option Kd := if !matchK u kk then none else byWordK c u rest kk
theorem zip2 (a b : Str) (x y : Kd) : zipB [a, b] [x, y] = ((a == "" || a == x.word) && (b == "" || b == y.word)) := by
  show ((a == "" || a == x.word) && ((b == "" || b == y.word) && true)) = _
  rw [Bool.and_true]
theorem zip1 (a : Str) (x : Kd) : zipB [a] [x] = (a == "" || a == x.word) := by
  show ((a == "" || a == x.word) && true) = _
  rw [Bool.and_true]
theorem zip3 (a b d : Str) (x y z : Kd) : zipB [a, b, d] [x, y, z] = ((a == "" || a == x.word) && ((b == "" || b == y.word) && (d == "" || d == z.word))) := by
  show ((a == "" || a == x.word) && ((b == "" || b == y.word) && ((d == "" || d == z.word) && true))) = _
  rw [Bool.and_true]
theorem num_empty : (("number" : Str) == "") = false := by decide +kernel
theorem tru_empty : (("truth" : Str) == "") = false := by decide +kernel
theorem lst_empty : (("list" : Str) == "") = false := by decide +kernel
theorem two_len {kk : List Kd} (h : kk.length = 2) : ∃ a b, kk = [a, b] := match kk, h with | [a, b], _ => ⟨a, b, rfl⟩
theorem one_len {kk : List Kd} (h : kk.length = 1) : ∃ a, kk = [a] := match kk, h with | [a], _ => ⟨a, rfl⟩
theorem three_len {kk : List Kd} (h : kk.length = 3) : ∃ a b d, kk = [a, b, d] := match kk, h with | [a, b, d], _ => ⟨a, b, d, rfl⟩
/-- of two numbers -/
theorem ov_nums (c : En) (rest : List PyData) {u : Str} {kk : List Kd} (h : kk.length = 2) (hs : sortsK u = ([("number" : Str), "number"] : List Str)) (r : Option Kd) (hm : matchK u kk = zipB (sortsK u) kk) (hb : byWordK c u rest kk = r) (hd : dueF c u rest kk = if kk = [.num, .num] then r else none) : ovF c u rest kk = dueF c u rest kk := by
  obtain ⟨a, b, rfl⟩ := two_len h
  rw [hd]
  unfold ovF
  rw [hm, hs, zip2, num_empty, Bool.false_or, is_num, Bool.false_or, is_num, hb]
  by_cases h1 : a = .num
  · by_cases h2 : b = .num
    · simp [h1, h2]
    · simp [h1, h2]
  · simp [h1]
theorem lookup_mem {u : Str} {c : Nat} : ∀ {l : List (Str × Nat)}, l.lookup u = some c → (u, c) ∈ l
  | [], h => by cases h
  | (y, i) :: l, h => by
    rw [List.lookup_cons] at h
    cases e : (u == y) with
    | true =>
      rw [e] at h
      have e2 : i = c := by simpa using h
      rw [eq_of_beq e, e2]
      exact List.mem_cons_self ..
    | false =>
      rw [e] at h
      exact List.mem_cons_of_mem _ (lookup_mem (by simpa using h))
theorem if_not {α : Type} (b : Bool) (x : Option α) : (if (!b) = true then none else x) = (if b = true then x else none) := by cases b <;> rfl
theorem if_ff (b : Bool) : (if (!b) = true then false else true) = b := by cases b <;> rfl
theorem if_f (b d : Bool) : (if (!b) = true then false else d) = (b && d) := by cases b <;> rfl
theorem ov_same (c : En) (rest : List PyData) (a b : Kd) : ovF c "same" rest [a, b] = dueF c "same" rest [a, b] := by
  show (if (!(if (!zipB ["", ""] [a, b]) = true then false else (decide (some a = some a) && (decide (some b = some a) && true)))) = true then none else some Kd.tru) = (if some a = some b then some Kd.tru else none)
  rw [if_f, if_not, zip2]
  by_cases h : a = b
  · subst h
    simp
  · have h2 : ¬ b = a := fun e => h e.symm
    simp [h, h2]
theorem ov_both (c : En) (rest : List PyData) (a b : Kd) : ovF c "both" rest [a, b] = dueF c "both" rest [a, b] := by
  show (if (!(if (!zipB ["truth", "truth"] [a, b]) = true then false else true)) = true then none else some Kd.tru) = (if (decide (a = .tru) && (decide (b = .tru) && true)) = true then some Kd.tru else none)
  rw [if_ff, if_not, zip2, tru_empty, Bool.false_or, is_tru, Bool.false_or, is_tru, Bool.and_true]
theorem ov_not (c : En) (rest : List PyData) (a : Kd) : ovF c "not" rest [a] = dueF c "not" rest [a] := by
  show (if (!(if (!zipB ["truth"] [a]) = true then false else true)) = true then none else some Kd.tru) = (if (decide (a = .tru) && true) = true then some Kd.tru else none)
  rw [if_ff, if_not, zip1, tru_empty, Bool.false_or, is_tru, Bool.and_true]
theorem ov_many (c : En) (rest : List PyData) (a : Kd) : ovF c "many" rest [a] = dueF c "many" rest [a] := by
  show (if (!(if (!zipB ["list"] [a]) = true then false else true)) = true then none else some Kd.num) = (if some a.word = some "list" then some Kd.num else none)
  rw [if_ff, if_not, zip1, lst_empty, Bool.false_or, is_lst]
  by_cases h : a.word = "list" <;> simp [h]
theorem ov_join (c : En) (rest : List PyData) (a b : Kd) : ovF c "join" rest [a, b] = dueF c "join" rest [a, b] := by
  show (if (!(if (!zipB ["list", "list"] [a, b]) = true then false else (decide (some a = some a) && (decide (some b = some a) && true)))) = true then none else some b) = (if some a.word = some "list" ∧ some a = some b then some a else none)
  rw [if_f, if_not, zip2, lst_empty, Bool.false_or, Bool.false_or, is_lst, is_lst]
  by_cases h : a = b
  · subst h
    by_cases h3 : a.word = "list" <;> simp [h3]
  · have h2 : ¬ b = a := fun e => h e.symm
    simp [h, h2]
theorem ov_pick (c : En) (rest : List PyData) (a b d : Kd) : ovF c "pick" rest [a, b, d] = dueF c "pick" rest [a, b, d] := by
  show (if (!(if (!zipB ["truth", "", ""] [a, b, d]) = true then false else decide (some b = some d))) = true then none else some d) = (if some a = some Kd.tru ∧ some b = some d then some b else none)
  rw [if_f, if_not, zip3, tru_empty, Bool.false_or, is_tru]
  by_cases h : b = d
  · subst h
    by_cases h3 : a = .tru <;> simp [h3]
  · simp [h]
theorem ov_at (c : En) (rest : List PyData) (a b d : Kd) : ovF c "at" rest [a, b, d] = dueF c "at" rest [a, b, d] := by
  show (if (!(if (!zipB ["list", "number", ""] [a, b, d]) = true then false else decide (a.inner = some d))) = true then none else some d) = (if some a = some (Kd.lst d) ∧ some b = some Kd.num then some d else none)
  rw [if_f, if_not, zip3, lst_empty, Bool.false_or, num_empty, Bool.false_or, is_num, is_lst]
  cases a with
  | lst k =>
    by_cases h : k = d <;> by_cases h3 : b = .num <;> simp [h, h3, Kd.inner, Kd.word]
  | num => simp [Kd.inner]
  | tru => simp [Kd.inner]
  | rcd z => simp [Kd.inner]
theorem due_eq (c : En) {u : Str} {rest : List PyData} {kk : List Kd} (hl : leafW u = false) (h1 : 1 ≤ rest.length) (hs : shapedW u rest = true) (hk : kk.length = (selW u rest).length) : ovF c u rest kk = dueF c u rest kk := by
  unfold shapedW at hs
  rw [if_neg (by rw [hl]; decide)] at hs
  unfold selW at hk
  rw [if_neg (by rw [hl]; decide)] at hk
  split at hs
  · rename_i e
    have eu : u = "field" := eq_of_beq e
    subst eu
    rw [if_pos e] at hk
    rw [Bool.and_eq_true] at hs
    have hl2 := of_decide_eq_true hs.1
    have hk1 : kk.length = 1 := by rw [hk, List.length_take, hl2]; decide
    obtain ⟨a, rfl⟩ := one_len hk1
    have em : matchK "field" [a] = (("record" : Str) == "" || ("record" : Str) == a.word) := by
      show (if !zipB ["record"] [a] then false else true) = _
      rw [zip1]
      cases (("record" : Str) == "" || ("record" : Str) == a.word) <;> rfl
    unfold ovF
    rw [em, show ((("record" : Str) == "") = false) by decide +kernel, Bool.false_or]
    show (if (!(("record" : Str) == a.word)) = true then none else fieldK c (some a) (strAt rest 1)) = fieldK c (some a) (strAt rest 1)
    cases a with
    | rcd z => rw [show ((("record" : Str) == (Kd.rcd z).word) = true) from by show (("record" : Str) == "record") = true; decide +kernel]; rfl
    | num => rfl
    | tru => rfl
    | lst k => exact (if_pos (show (!(("record" : Str) == "list")) = true by decide +kernel))
  · rename_i e
    rw [if_neg e] at hk
    split at hs
    · rename_i e2
      have eu : u = "list" := eq_of_beq e2
      subst eu
      show (if !(if !zipB [] kk then false else kk.all fun k => decide (some k = kk[0]?)) then none else kk[0]?.map Kd.lst) = (if kk.all (fun k => decide (some k = kk[0]?)) then kk[0]?.map Kd.lst else none)
      have ez : zipB [] kk = true := rfl
      rw [ez]
      show (if (!(kk.all fun k => decide (some k = kk[0]?))) = true then none else kk[0]?.map Kd.lst) = _
      cases (kk.all fun k => decide (some k = kk[0]?)) <;> rfl
    · rename_i e2
      split at hs
      · rename_i cn hc
        have hr := of_decide_eq_true hs
        have hk : kk.length = cn := by rw [hk, hr]
        clear hs
        have hm := lookup_mem hc
        simp only [counts, List.mem_cons, Prod.mk.injEq, List.mem_nil_iff, or_false, List.not_mem_nil] at hm
        have nums : ∀ (v : Str) (r : Option Kd), sortsK v = ([("number" : Str), "number"] : List Str) → matchK v kk = zipB (sortsK v) kk → byWordK c v rest kk = r → dueF c v rest kk = (if kk = [.num, .num] then r else none) → kk.length = 2 → ovF c v rest kk = dueF c v rest kk := fun v r a b d e f => ov_nums c rest f a r b d e
        rcases hm with ⟨rfl, rfl⟩ | ⟨rfl, rfl⟩ | ⟨rfl, rfl⟩ | ⟨rfl, rfl⟩ | ⟨rfl, rfl⟩ | ⟨rfl, rfl⟩ | ⟨rfl, rfl⟩ | ⟨rfl, rfl⟩ | ⟨rfl, rfl⟩ | ⟨rfl, rfl⟩ | ⟨rfl, rfl⟩
        · exact nums _ (some .num) (by decide +kernel) (if_ff _) rfl rfl hk
        · exact nums _ (some .num) (by decide +kernel) (if_ff _) rfl rfl hk
        · exact nums _ (some .num) (by decide +kernel) (if_ff _) rfl rfl hk
        · exact nums _ (some .tru) (by decide +kernel) (if_ff _) rfl rfl hk
        · obtain ⟨a, b, rfl⟩ := two_len hk
          exact ov_same c rest a b
        · obtain ⟨a, b, rfl⟩ := two_len hk
          exact ov_both c rest a b
        · obtain ⟨a, b, rfl⟩ := two_len hk
          exact ov_join c rest a b
        · obtain ⟨a, rfl⟩ := one_len hk
          exact ov_not c rest a
        · obtain ⟨a, rfl⟩ := one_len hk
          exact ov_many c rest a
        · obtain ⟨a, b, d, rfl⟩ := three_len hk
          exact ov_pick c rest a b d
        · obtain ⟨a, b, d, rfl⟩ := three_len hk
          exact ov_at c rest a b d
      · cases hs
end K31
set_option Elab.async false
set_option linter.all false
set_option maxRecDepth 100000
set_option maxHeartbeats 2000000
namespace K31
open PySem PySem.Spec PyProof.Rows L2 MixW
open C8 (Cal Def cal0 pe_c fnBody fnScope fnArgs)
section
variable {P : Program} {w : World} {K : PySem.W.Frag} {mg : Str → Option Value} {base : Heap}
abbrev sLThere : Stmt := topS 30
abbrev NLThere : List Str := ["_law_kind_here", "_law_program"]
theorem scLThere : FnScope NLThere ["_law_kind_here", "_law_program"] (fnScope sLThere) := ⟨rfl, rfl, rfl, by decide +kernel, rfl, by decide +kernel, by decide +kernel⟩
theorem c_lthere {f : Addr} {fd : FuncData} (D : Def K mg "_law_there" sLThere f fd) (b : Binds K fd ["_law_kind_here", "_law_program"] []) : Cal P w K mg base 1 "_law_there" (spThere K) [] := by
  refine cal0 D b .nil scLThere (fun vs H Q E h => ?_) (fun cdv A outer s H vs Q E hr h => ?_)
  · obtain ⟨v, k, pa, c, rfl, _⟩ := h
    rfl
  · obtain ⟨v0, k0, pa, c, rfl, hd0, ⟨d0, d1, x2, kv0, kv1, pg⟩, q⟩ := h
    have nd := scLThere.nd
    refine ⟨_, (pss_cons (ps_while PassesOwn.never (pt_cmpR op_eq (pe_ix (r := rIxT K) ix_tup (pv 0) pe_int (fun _ _ => rfl)) pe_str (nomark _))
      (pss_one (ps_set (i := 0) nd rfl (.inl rfl) (pe_ix (r := rIxT K) ix_tup (pv 0) pe_int (fun _ _ => rfl)))))
    (pss_one (ps_ret (pe_or (pe_cmpR op_ne (pe_ix (r := rIxT K) ix_tup (pv 0) pe_int (fun _ _ => rfl)) pe_str (nomark _)) (pe_one (pe_cmp (pc_din (hu_of hr) (pe_ix (r := rIxT K) ix_tup (pv 0) pe_int (fun _ _ => rfl)) (pe_ix (r := rIxT K) ix_tup (pv 1) pe_int (fun _ _ => rfl))) rfl)))))), ?_⟩
    refine ⟨fun m σ H1 => ∃ v k, σ = [some v, some (.ref pa)] ∧ Tn K H1 v (Kd.d k) ∧ k.base = k0.base ∧ H1 = H ∧ m = k.deep, ⟨_, v0, k0, rfl, hd0, rfl, rfl, rfl⟩, ?_⟩
    rintro m σ H1 ⟨v, k, rfl, hd, hk, rfl, rfl⟩
    obtain ⟨a, xs, rfl, hq, hx0, hxl, hxr⟩ := tk_at hd
    refine ⟨_, rfl, a, xs, _, _, rfl, rfl, hq, atI_nat (j := 0) hx0, rfl, _, rfl, ite2 (fun e => ?_) (fun e => ?_)⟩
    · obtain ⟨k', rfl⟩ := word_list (V.str.inj (of_decide_eq_true e))
      obtain ⟨v', rfl, hd'⟩ := hxl k' rfl
      refine ⟨fun σ' H' => ∃ m', m' < _ ∧ ∃ v k, σ' = [some v, some (.ref pa)] ∧ Tn K H' v (Kd.d k) ∧ k.base = k0.base ∧ H' = H1 ∧ m' = k.deep, fun σ' H' h => h, ?_⟩
      refine ⟨_, rfl, a, _, _, v', rfl, rfl, hq, atI_nat (j := 1) rfl, ?_⟩
      exact ⟨k'.deep, Nat.lt_succ_self _, v', k', rfl, hd', hk, rfl, rfl⟩
    · have e9 : thereK c k0 = thereK c k := by unfold thereK; rw [hk]
      rw [e9] at q
      have q0 := q H1 (Same.refl H1)
      refine ⟨_, rfl, a, xs, _, _, rfl, rfl, hq, atI_nat (j := 0) hx0, rfl, _, rfl, ?_⟩
      cases k with
      | rcd z =>
        refine iteF' (by show (!decide (V.str "record" = V.str "record")) = false; decide +kernel) ?_
        have hx := hxr z rfl
        subst hx
        refine ⟨_, rfl, a, _, 1, .str z, rfl, rfl, hq, atI_nat (j := 1) rfl, _, rfl, pa, _, 0, .ref d0, rfl, rfl, pg.at_, atI_nat (j := 0) rfl, d0, _, rfl, DGet.k (k := .inr z) pg.a0, ?_⟩
        have e : (valV kv0 (.inr z)).isSome = thereK c (.rcd z) := by
          show _ = (c.f z).isSome
          rcases pg.f z with ⟨h1, h2⟩ | ⟨t, fs, h1, h2, _⟩ <;> rw [h1, h2] <;> rfl
        rw [e]
        exact q0
      | lst k' => exact absurd (decide_eq_true rfl) e
      | num => exact iteT' (by decide +kernel) q0
      | tru => exact iteT' (by decide +kernel) q0
theorem eqv_all : ∀ (kk jj : List Kd), PyData.eqvAll (kk.map Kd.d) (jj.map Kd.d) = decide (kk = jj)
  | [], [] => by simp [PyData.eqvAll]
  | [], _ :: _ => by simp [PyData.eqvAll]
  | _ :: _, [] => by simp [PyData.eqvAll]
  | k :: kk, j :: jj => by
    rw [List.map_cons, List.map_cons, PyData.eqvAll, kd_eqv, eqv_all kk jj, Bool.eq_iff_iff]
    simp
theorem eqv_lists (kk jj : List Kd) : PyData.eqv (.list (kk.map Kd.d)) (.list (jj.map Kd.d)) = decide (kk = jj) := by
  rw [PyData.eqv]
  exact eqv_all kk jj
theorem kk_shaped {kk : List Kd} (h : ∀ k ∈ kk, KL 60 k) : SeqAt.shaped (.list (kk.map Kd.d)) = true := by
  have := od_shaped (ks := kk.map some) (fun k hk => by
    obtain ⟨k', h1, h2⟩ := List.mem_map.mp hk
    cases h2
    exact h _ h1)
  rw [List.map_map] at this
  exact this
theorem pick2 (x : V) (b : Bool) : atI [V.non, x] (if b = true then 1 else 0) = some (if b = true then x else .non) := by cases b <;> rfl
theorem pickx (x y : V) (b : Bool) : atI [x, y] (if b = true then 1 else 0) = some (if b = true then y else x) := by cases b <;> rfl
theorem tn_if {H : Hp} {x : V} {k : Kd} {b : Bool} (h : Tn K H x k.d) : Tn K H (if b = true then x else .non) (oD (if b = true then some k else none)) := by
  cases b with
  | true => exact h
  | false => exact ⟨.non, rfl⟩
theorem in4 (s a b c d : Str) : inV (.str s) [.str a, .str b, .str c, .str d] = (s == a || s == b || s == c || s == d) := by
  unfold inV
  simp only [List.any_cons, List.any_nil, Bool.or_false, eqv_comm, Bool.or_assoc]
theorem tn_num {H : Hp} {a : Addr} (h : SqT K H a [.str "number"]) : Tn K H (.ref a) (Kd.d .num) := Tn.of h (.cons (Tn.str "number") .nil)
theorem tn_tru {H : Hp} {a : Addr} (h : SqT K H a [.str "truth"]) : Tn K H (.ref a) (Kd.d .tru) := Tn.of h (.cons (Tn.str "truth") .nil)
theorem kl_num : KL 60 .num := ⟨by decide +kernel, by simp [Kd.d, PyData.depth, PyData.depthAll]⟩
theorem kl_tru : KL 60 .tru := ⟨by decide +kernel, by simp [Kd.d, PyData.depth, PyData.depthAll]⟩
theorem cut_to {xs : List V} (k : Nat) : cutV xs none (some (k : Int)) = xs.take k := by
  unfold cutV
  rw [HT.sIx_none, HT.sIx_nat, List.drop_zero, Nat.sub_zero]
  by_cases h : k ≤ xs.length
  · rw [Nat.min_eq_left h]
  · rw [Nat.min_eq_right (by omega), List.take_of_length_le (Nat.le_refl _), List.take_of_length_le (by omega)]
/-- the things that are not so, in a comprehension: whether there are any -/
theorem lcN {a : Addr} {xs : List V} {H : Hp} {σ : L2.St} {k : Nat} {tt : TT} {te : TE} {R9 : Addr → Hp → Prop} (f : Nat → Bool) (ha : H a = some (.lst xs)) (hn : xs.length ≤ 1000)
    (hte : ∀ (i : Nat) (v : V) (H' : Hp) (Q' : Bool → Hp → Prop), xs[i]? = some v → Same H H' → Q' (!f i) H' → tt ((wipe σ [k]).set k (some v)) H' Q')
    (hye : ∀ (v : V) (H' : Hp) (Q' : VK), Q' v H' → te ((wipe σ [k]).set k (some v)) H' Q')
    (hq : ∀ D H' ys, H D = none → H' D = some (.lst ys) → ys.isEmpty = (List.range xs.length).all f → Same H H' → R9 D H') :
    ∀ D, H D = none → ∃ W : Nat → Nat → Hp → Prop, (∃ m, W 0 m (upd H D (.lst []))) ∧ ∀ i m H, W i m H →
      ((Itl K a).stop i H ∧ R9 D H) ∨ ((Itl K a).go i H ∧ ∃ Nx : Hp → Prop, (∀ H', Nx H' → ∃ m', m' < m ∧ W (i + 1) m' H') ∧ ∀ x H', (Itl K a).yld i H x H' → gName k x (wipe σ [k]) H' fun σ2 H2 => wipe σ2 [k] = wipe σ [k] ∧ tt σ2 H2 fun b H3 =>
        if b = true then te σ2 H3 fun y H4 => ∃ acc, H4 D = some (.lst acc) ∧ acc.length < sizeLine ∧ Nx (upd H4 D (.lst (acc ++ [y]))) else Nx H3) := by
  intro D hD
  refine lc_list (K := K) (a := a) (xs := xs) (fun i H' => ∃ ys, H' D = some (.lst ys) ∧ ys.length ≤ i ∧ ys.isEmpty = (List.range i).all f ∧ Same H H') ⟨[], upd_same, Nat.le_refl _, rfl, Same.new hD⟩ (fun i H' _ hW => let ⟨_, _, _, _, s⟩ := hW; SqL.of (s _ _ ha)) (fun i x H' hi hW => ?_) (fun H' hW => let ⟨ys, h1, _, h3, h4⟩ := hW; hq D H' ys hD h1 h3 h4)
  obtain ⟨ys, h1, h2, h3, h4⟩ := hW
  have hlt := (List.getElem?_eq_some_iff.mp hi).1
  refine ⟨wipe1, hte i x H' _ hi h4 ?_⟩
  cases e : f i with
  | true =>
    refine iteF' rfl ⟨ys, h1, by omega, ?_, h4⟩
    rw [List.range_succ, List.all_append, h3]
    simp [e]
  | false =>
    refine iteT' rfl (hye x H' _ ⟨ys, h1, by rw [sizeLine_eq]; omega, ys ++ [x], upd_same, by rw [List.length_append, List.length_singleton]; omega, ?_, fun b o hb => ?_⟩)
    · rw [List.range_succ, List.all_append]
      simp [e]
    · rw [upd_ne (fun z => by rw [z, hD] at hb; cases hb)]
      exact h4 _ _ hb
end
end K31
set_option Elab.async false
set_option linter.all false
set_option maxRecDepth 100000
set_option maxHeartbeats 3000000
namespace K31
open PySem PySem.Spec PyProof.Rows L2 MixW
open C8 (Cal Def cal0 pe_c fnBody fnScope fnArgs)
section
variable {P : Program} {w : World} {K : PySem.W.Frag} {mg : Str → Option Value} {base : Heap}
abbrev sLByParts : Stmt := topS 31
abbrev NLByParts : List Str := ["_law_term_here", "_law_some", "_law_program", "_law_word", "_law_number", "_law_truth", "_law_one"]
theorem scLByParts : FnScope NLByParts ["_law_term_here", "_law_some", "_law_program"] (fnScope sLByParts) := ⟨rfl, rfl, rfl, by decide +kernel, rfl, by decide +kernel, by decide +kernel⟩
def spBy (K : PySem.W.Frag) : Sp := fun vs H Q _ => ∃ t u vr rest l vm kk pa c, vs = [.ref t, .ref l, .ref pa] ∧ SqT K H t (.str u :: vr) ∧ PartsOk H K u rest vr (List.length kk) ∧ leafW u = false ∧ 1 ≤ rest.length ∧ shapedW u rest = true ∧ kk.length = (selW u rest).length ∧
  H l = some (.lst vm) ∧ TnAll K H vm (kk.map Kd.d) ∧ (∀ k ∈ kk, thereK c k = true ∧ KL 60 k) ∧ PgOk K H pa c ∧ ∀ v H', Same H H' → Tn K H' v (oD (dueF c u rest kk)) → Q v H'
theorem c_byParts (T : Tp mg) {f : Addr} {fd : FuncData} (D : Def K mg "_law_by_parts" sLByParts f fd) (b : Binds K fd ["_law_term_here", "_law_some", "_law_program"] []) : Cal P w K mg base 1 "_law_by_parts" (spBy K) [] := by
  refine cal0 D b .nil scLByParts (fun vs H Q E h => ?_) (fun cdv A outer s H vs Q E hr h => ?_)
  · obtain ⟨t, u, vr, rest, l, vm, kk, pa, c, rfl, _⟩ := h
    rfl
  · obtain ⟨t, u, vr, rest, l, vm, kk, pa, c, rfl, hq, po, hlf, hr1, hsh, hlen, hl, hk, hth, hp, q⟩ := h
    have nd := scLByParts.nd
    have hu := hr.units
    refine ⟨_, (pss_cons (ps_asg (pe_tup (pa_cons (pe_ix (r := rIxT K) ix_tup (pv 0) pe_int (fun _ _ => rfl)) (pa_cons (pe_tup (pa_cons pe_str pa_nil)) (pa_cons (pe_tup (pa_cons pe_str pa_nil)) pa_nil)))) (pg_tup (n := 3) rfl (pgs_cons (pg_name (i := 3) nd rfl (.inl rfl)) (pgs_cons (pg_name (i := 4) nd rfl (.inl rfl)) (pgs_cons (pg_name (i := 5) nd rfl (.inr rfl)) pgs_nil)))))
    (pss_cons (ps_if (pt_cmpR op_in_seq (pv 3) (pe_lst (pa_cons pe_str (pa_cons pe_str (pa_cons pe_str (pa_cons pe_str pa_nil))))) (by rfl))
      (pss_one (ps_ret (pe_ix ix_list (pe_lst (pa_cons pe_non (pa_cons (pe_ix ix_list (pe_lst (pa_cons (pv 4) (pa_cons (pv 5) pa_nil))) (pe_callTy call_int1 (by rfl) T.n_int (by decide +kernel) (pa_cons (pe_cmpR op_eq (pv 3) pe_str (nomark _)) pa_nil)) (fun _ _ => rfl)) pa_nil))) (pe_callTy call_int1 (by rfl) T.n_int (by decide +kernel) (pa_cons (pe_cmpR (op_eqD hu) (pv 1) (pe_lst (pa_cons (pv 4) (pa_cons (pv 4) pa_nil))) (nomark _)) pa_nil)) (fun _ _ => rfl))))
      pss_nil)
    (pss_cons (ps_if (pt_cmpR op_in_seq (pv 3) (pe_lst (pa_cons pe_str (pa_cons pe_str pa_nil))) (by rfl))
      (pss_one (ps_ret (pe_ix ix_list (pe_lst (pa_cons pe_non (pa_cons (pv 5) pa_nil))) (pe_callTy call_int1 (by rfl) T.n_int (by decide +kernel) (pa_cons (pe_cmpR (op_eqNil hu) (pe_lc (own := [("_law_one", 6)]) (g := gName 6) (by rfl) nd (pi_list (pv 1)) (blkOk_by (own := [("_law_one", 6)]) (N := NLByParts) (sc := fnScope sLByParts) (by decide +kernel)) (fun _ _ _ _ _ => pg_name (i := 6) nd rfl (Or.inl rfl)) (fun _ _ _ _ _ => (pts_one (pt_cmpR (r := rNeD K) (op_neD hu) (pv 6) (pv 5) (nomark _)))) (fun _ _ _ _ _ => (pv 6))) (pe_lst pa_nil) (nomark _)) pa_nil)) (fun _ _ => rfl))))
      pss_nil)
    (pss_cons (ps_if (pt_cmpR op_eq (pv 3) pe_str (nomark _))
      (pss_one (ps_ret (pe_ix ix_list (pe_lst (pa_cons pe_non (pa_cons (pv 5) pa_nil))) (pe_callTy call_int1 (by rfl) T.n_int (by decide +kernel) (pa_cons (pe_cmpR (op_eqD hu) (pe_ix ix_list (pv 1) pe_int (fun _ _ => rfl)) (pe_ix ix_list (pv 1) pe_int (fun _ _ => rfl)) (nomark _)) pa_nil)) (fun _ _ => rfl))))
      pss_nil)
    (pss_cons (ps_if (pt_cmpR op_eq (pv 3) pe_str (nomark _))
      (pss_one (ps_ret (pe_ix ix_list (pe_lst (pa_cons pe_non (pa_cons (pv 4) pa_nil))) (pe_callTy call_int1 (by rfl) T.n_int (by decide +kernel) (pa_cons (pe_cmpR op_eq (pe_ix (r := rIxT K) ix_tup (pe_ix ix_list (pv 1) pe_int (fun _ _ => rfl)) pe_int (fun _ _ => rfl)) pe_str (nomark _)) pa_nil)) (fun _ _ => rfl))))
      pss_nil)
    (pss_cons (ps_if (pt_cmpR op_eq (pv 3) pe_str (nomark _))
      (pss_one (ps_ret (pe_ix ix_list (pe_lst (pa_cons pe_non (pa_cons (pe_ix ix_list (pv 1) pe_int (fun _ _ => rfl)) pa_nil))) (pe_callTy call_int1 (by rfl) T.n_int (by decide +kernel) (pa_cons (pe_and (pe_cmpR op_eq (pe_ix (r := rIxT K) ix_tup (pe_ix ix_list (pv 1) pe_int (fun _ _ => rfl)) pe_int (fun _ _ => rfl)) pe_str (nomark _)) (pe_one (pe_cmpR (op_eqD hu) (pe_ix ix_list (pv 1) pe_int (fun _ _ => rfl)) (pe_ix ix_list (pv 1) pe_int (fun _ _ => rfl)) (nomark _)))) pa_nil)) (fun _ _ => rfl))))
      pss_nil)
    (pss_cons (ps_if (pt_cmpR op_eq (pv 3) pe_str (nomark _))
      (pss_one (ps_ret (pe_ix ix_list (pe_lst (pa_cons pe_non (pa_cons (pe_ix ix_list (pv 1) pe_int (fun _ _ => rfl)) pa_nil))) (pe_callTy call_int1 (by rfl) T.n_int (by decide +kernel) (pa_cons (pe_and (pe_cmpR (op_eqD hu) (pe_ix ix_list (pv 1) pe_int (fun _ _ => rfl)) (pv 5) (nomark _)) (pe_one (pe_cmpR (op_eqD hu) (pe_ix ix_list (pv 1) pe_int (fun _ _ => rfl)) (pe_ix ix_list (pv 1) pe_int (fun _ _ => rfl)) (nomark _)))) pa_nil)) (fun _ _ => rfl))))
      pss_nil)
    (pss_cons (ps_if (pt_cmpR op_eq (pv 3) pe_str (nomark _))
      (pss_one (ps_ret (pe_ix ix_list (pe_lst (pa_cons pe_non (pa_cons (pe_ix ix_list (pv 1) pe_int (fun _ _ => rfl)) pa_nil))) (pe_callTy call_int1 (by rfl) T.n_int (by decide +kernel) (pa_cons (pe_cmpR (op_eqD hu) (pe_slice sl_list (pv 1) po_none (po_some pe_int)) (pe_lst (pa_cons (pe_tup (pa_cons pe_str (pa_cons (pe_ix ix_list (pv 1) pe_int (fun _ _ => rfl)) pa_nil))) (pa_cons (pv 4) pa_nil))) (nomark _)) pa_nil)) (fun _ _ => rfl))))
      pss_nil)
    (pss_cons (ps_if (pt_cmpR op_eq (pv 3) pe_str (nomark _))
      (pss_one (ps_ret (pe_ix ix_list (pe_lst (pa_cons pe_non (pa_cons (pe_tup (pa_cons pe_str (pa_cons (pe_ix ix_list (pv 1) pe_int (fun _ _ => rfl)) pa_nil))) pa_nil))) (pe_callTy call_int1 (by rfl) T.n_int (by decide +kernel) (pa_cons (pe_cmpR (op_eqNil hu) (pe_lc (own := [("_law_one", 6)]) (g := gName 6) (by rfl) nd (pi_list (pv 1)) (blkOk_by (own := [("_law_one", 6)]) (N := NLByParts) (sc := fnScope sLByParts) (by decide +kernel)) (fun _ _ _ _ _ => pg_name (i := 6) nd rfl (Or.inl rfl)) (fun _ _ _ _ _ => (pts_one (pt_cmpR (r := rNeD K) (op_neD hu) (pv 6) (pe_ix (r := rIxL K) ix_list (pv 1) pe_int (fun _ _ => rfl)) (nomark _)))) (fun _ _ _ _ _ => (pv 6))) (pe_lst pa_nil) (nomark _)) pa_nil)) (fun _ _ => rfl))))
      pss_nil)
    (pss_cons (ps_if (pt_cmpR op_ne (pe_ix (r := rIxT K) ix_tup (pe_ix ix_list (pv 1) pe_int (fun _ _ => rfl)) pe_int (fun _ _ => rfl)) pe_str (nomark _))
      (pss_one (ps_ret pe_non))
      pss_nil)
    (pss_one (ps_ret (pe_dget1 (hu_of hr) (pe_callTy (call_dictT rfl) (by rfl) T.n_dict (by decide +kernel) (pa_cons (pe_dget (hu_of hr) (pe_ix (r := rIxT K) ix_tup (pv 2) pe_int (fun _ _ => rfl)) (pe_ix (r := rIxT K) ix_tup (pe_ix ix_list (pv 1) pe_int (fun _ _ => rfl)) pe_int (fun _ _ => rfl)) (fun _ _ => rfl)) pa_nil)) (pe_ix (r := rIxT K) ix_tup (pv 0) pe_int (fun _ _ => rfl)) ⟨rfl, rfl, rfl, rfl⟩))))))))))))), ?_⟩
    have hvl := hk.len
    rw [List.length_map] at hvl
    refine ⟨_, rfl, t, _, 0, .str u, rfl, rfl, hq, atI_nat (j := 0) rfl, (by show 1 ≤ sizeLine; decide), fun a1 h1 => ⟨(by show 1 ≤ sizeLine; decide), fun a2 h2 => ⟨(by show 3 ≤ sizeLine; decide), fun a3 h3 => ⟨a3, _, rfl, SqT.of upd_same, rfl, _, _, rfl, _, _, rfl, _, _, rfl, rfl, ?_⟩⟩⟩⟩
    have s1 : Same H (upd (upd (upd H a1 (.tup [.str "number"])) a2 (.tup [.str "truth"])) a3 (.tup [.str u, .ref a1, .ref a2])) := ((Same.new h1).trans (Same.new h2)).trans (Same.new h3)
    have sn : SqT K (upd (upd (upd H a1 (.tup [.str "number"])) a2 (.tup [.str "truth"])) a3 (.tup [.str u, .ref a1, .ref a2])) a1 [.str "number"] := SqT.of (Same.new h3 _ _ (Same.new h2 _ _ upd_same))
    have st : SqT K (upd (upd (upd H a1 (.tup [.str "number"])) a2 (.tup [.str "truth"])) a3 (.tup [.str u, .ref a1, .ref a2])) a2 [.str "truth"] := SqT.of (Same.new h3 _ _ upd_same)
    generalize upd (upd (upd H a1 (.tup [.str "number"])) a2 (.tup [.str "truth"])) a3 (.tup [.str u, .ref a1, .ref a2]) = H1 at *
    have hl1 := s1 _ _ hl
    have hq1 := sqT_mono s1 hq
    have shp : ∀ k ∈ kk, SeqAt.shaped k.d = true := fun k hk => ((hth k hk).2).shaped (by decide)
    have shn : SeqAt.shaped (Kd.d .num) = true := kl_num.shaped (by decide)
    have sht : SeqAt.shaped (Kd.d .tru) = true := kl_tru.shaped (by decide)
    have shk : SeqAt.shaped (.list (kk.map Kd.d)) = true := kk_shaped fun k hk => (hth k hk).2
    have getk : ∀ i, i < kk.length → ∃ k v, kk[i]? = some k ∧ vm[i]? = some v ∧ (∀ H', Same H1 H' → Tn K H' v k.d) ∧ k ∈ kk := fun i hi => by
      obtain ⟨v, h1, h2⟩ := tnAll_at hk (List.getElem?_eq_getElem hi)
      exact ⟨_, v, List.getElem?_eq_getElem hi, h1, (fun H' s => h2.tr (TR.same (s1.trans s))), List.getElem_mem hi⟩
    have q : ∀ v H', Same H1 H' → Tn K H' v (oD (dueF c u rest kk)) → Q v H' := fun v H' s hv => q v H' (s1.trans s) hv
    have sq1 : ∀ H', Same H1 H' → SqL K H' l vm := fun H' s => SqL.of (s _ _ hl1)
    have tnn : ∀ H', Same H1 H' → Tn K H' (.ref a1) (Kd.d .num) := fun H' s => tn_num (sqT_mono s sn)
    have tnt : ∀ H', Same H1 H' → Tn K H' (.ref a2) (Kd.d .tru) := fun H' s => tn_tru (sqT_mono s st)
    have kdp : ∀ H', Same H1 H' → Dp K H' (.ref l) (.list (kk.map Kd.d)) := fun H' s => .lst (sq1 H' s) (hk.tr (TR.same (s1.trans s))).dp
    have wfd : u = "field" → kk.length = 1 := fun e => by
      obtain ⟨d, z, v, _, _, h⟩ := po.fd e
      exact h
    unfold dueF at q
    refine ⟨_, rfl, (by show 4 ≤ sizeLine; decide), fun b1 hb1 => ⟨b1, _, rfl, .inl (SqL.of upd_same), rfl, rfl, _, rfl, ?_⟩⟩
    have g1 : Same H1 (upd H1 b1 (.lst [.str "add", .str "less", .str "times", .str "under"])) := Same.new hb1
    show if (inV (.str u) [.str "add", .str "less", .str "times", .str "under"]) = true then _ else _
    rw [in4]
    generalize upd H1 b1 (.lst [.str "add", .str "less", .str "times", .str "under"]) = H2 at *
    refine ite2 (fun e => ?_) (fun e => ?_)
    · rw [if_pos e] at q
      refine ⟨_, rfl, _, rfl, (by show 2 ≤ sizeLine; decide), fun l2 hl2 => ⟨_, rfl, rfl, .inr ⟨_, rfl, l2, _, _, _, rfl, rfl, SqL.of upd_same, pickx _ _ _, (by show 2 ≤ sizeLine; decide), fun l3 hl3 => ⟨_, rfl, _, rfl, _, rfl, (by show 2 ≤ sizeLine; decide), fun l4 hl4 => ?_⟩⟩⟩⟩
      have g2 := g1.trans (((Same.new (o := .lst [.ref a1, .ref a2]) hl2).trans (Same.new hl3)).trans (Same.new (o := .lst [.ref a1, .ref a1]) hl4))
      refine ⟨.list (kk.map Kd.d), .list ([Kd.num, Kd.num].map Kd.d), kdp _ g2, .lst (SqL.of upd_same) (.cons (tnn _ g2).dp (.cons (tnn _ g2).dp .nil)), shk, kk_shaped (fun k hk => by
        have : k = .num := by simpa using hk
        rw [this]; exact kl_num), ?_⟩
      rw [eqv_lists]
      refine .inr ⟨_, rfl, l3, _, _, _, rfl, rfl, SqL.of (Same.new hl4 _ _ upd_same), pick2 _ _, q _ _ g2 ?_⟩
      have hx : ∀ H', Same H1 H' → Tn K H' (if decide (V.str u = V.str "under") = true then .ref a2 else .ref a1) (Kd.d (if (u == ("under" : Str)) = true then .tru else .num)) := fun H' s => by
        rw [eqv_str]
        by_cases hun : (u == ("under" : Str)) = true
        · rw [if_pos hun, if_pos hun]
          exact tnt _ s
        · rw [if_neg hun, if_neg hun]
          exact tnn _ s
      by_cases hkk : kk = [.num, .num]
      · rw [if_pos hkk, decide_eq_true hkk, if_pos rfl]
        exact hx _ g2
      · rw [if_neg hkk, decide_eq_false hkk]
        exact ⟨.non, rfl⟩
    · rw [if_neg e] at q
      refine ⟨_, rfl, (by show 2 ≤ sizeLine; decide), fun b2 hb2 => ⟨b2, _, rfl, .inl (SqL.of upd_same), rfl, rfl, _, rfl, ?_⟩⟩
      have g2 : Same H1 (upd H2 b2 (.lst [.str "both", .str "not"])) := g1.trans (Same.new hb2)
      show if (inV (.str u) [.str "both", .str "not"]) = true then _ else _
      rw [in2]
      generalize upd H2 b2 (.lst [.str "both", .str "not"]) = H3 at *
      refine ite2 (fun e2 => ?_) (fun e2 => ?_)
      · rw [if_pos e2] at q
        refine ⟨_, rfl, (by show 2 ≤ sizeLine; decide), fun l2 hl2 => ?_⟩
        have g3 : Same H1 (upd H3 l2 (.lst [.non, .ref a2])) := g2.trans (Same.new hl2)
        refine ⟨_, rfl, l, rfl, ⟨_, sq1 _ g3⟩, ?_⟩
        refine lcN (K := K) (a := l) (xs := vm) (fun i => match kk[i]? with | some k => decide (k = .tru) | none => true) (g3 _ _ hl1) (by rw [hvl]; have := Nat.le_trans (sel_len u rest) (shaped_len hsh); omega) (fun i v H' Q' hi sm hQ => ?_) (fun v H' Q' hQ => ⟨_, rfl, hQ⟩) (fun D H' ys hD hat hys sm => ?_)
        · have hi2 : i < kk.length := by have := (List.getElem?_eq_some_iff.mp hi).1; omega
          obtain ⟨k, v', ek, ev, tk, mk⟩ := getk i hi2
          rw [hi] at ev
          cases ev
          refine ⟨_, rfl, _, rfl, k.d, Kd.d .tru, (tk _ (g3.trans sm)).dp, (tnt _ (g3.trans sm)).dp, shp _ mk, sht, _, rfl, ?_⟩
          rw [kd_eqv]
          rw [ek] at hQ
          exact hQ
        · refine ⟨(by show 0 ≤ sizeLine; decide), fun l3 hl3 => ⟨D, l3, ys, rfl, rfl, SqL.of (Same.new hl3 _ _ hat), SqL.of upd_same, .inr ⟨_, rfl, l2, _, _, _, rfl, rfl, SqL.of (Same.new hl3 _ _ (sm _ _ upd_same)), pick2 _ _, q _ _ ((g3.trans sm).trans (Same.new hl3)) ?_⟩⟩⟩
          have ea : ys.isEmpty = kk.all (fun k => decide (k = .tru)) := by
            rw [hys, Bool.eq_iff_iff, List.all_eq_true, List.all_eq_true]
            constructor
            · intro h k hk
              obtain ⟨i, hi⟩ := List.mem_iff_getElem?.mp hk
              have hlt := (List.getElem?_eq_some_iff.mp hi).1
              have := h i (List.mem_range.mpr (by omega))
              rw [hi] at this
              exact this
            · intro h i hi
              have hlt : i < kk.length := by have := List.mem_range.mp hi; omega
              rw [List.getElem?_eq_getElem hlt]
              exact h _ (List.getElem_mem hlt)
          rw [ea]
          exact tn_if (tnt _ ((g3.trans sm).trans (Same.new hl3)))
      · rw [if_neg e2] at q
        clear hq1
        refine ⟨_, rfl, rfl, _, rfl, ?_⟩
        rw [eqv_str]
        have hq3 := sqT_mono (s1.trans g2) hq
        refine ite2 (fun e3 => ?_) (fun e3 => ?_)
        · rw [if_pos e3] at q
          have hn : kk.length = 2 := by
            have eu : u = "same" := eq_of_beq e3
            subst eu
            have h4 : decide (rest.length = 2) = true := hsh
            have h5 : kk.length = rest.length := hlen
            have := of_decide_eq_true h4
            omega
          obtain ⟨k0, v0, e0, f0, t0, m0⟩ := getk 0 (by omega)
          obtain ⟨k1, v1, e1, f1, t1, m1⟩ := getk 1 (by omega)
          rw [e0, e1] at q
          refine ⟨_, rfl, (by show 2 ≤ sizeLine; decide), fun l2 hl2 => ?_⟩
          have g3 : Same H1 (upd H3 l2 (.lst [.non, .ref a2])) := g2.trans (Same.new hl2)
          refine ⟨_, rfl, l, vm, 0, v0, rfl, rfl, sq1 _ g3, atI_nat (j := 0) f0, _, rfl, l, vm, 1, v1, rfl, rfl, sq1 _ g3, atI_nat (j := 1) f1, k0.d, k1.d, (t0 _ g3).dp, (t1 _ g3).dp, shp _ m0, shp _ m1, ?_⟩
          rw [kd_eqv]
          refine .inr ⟨_, rfl, l2, _, _, _, rfl, rfl, SqL.of upd_same, pick2 _ _, q _ _ g3 ?_⟩
          by_cases h : k0 = k1
          · rw [if_pos (show some k0 = some k1 from congrArg some h), decide_eq_true h]
            exact tnt _ g3
          · rw [if_neg (show ¬ some k0 = some k1 from fun z => h (Option.some.inj z)), decide_eq_false h]
            exact ⟨.non, rfl⟩
        · rw [if_neg e3] at q
          refine ⟨_, rfl, rfl, _, rfl, ?_⟩
          rw [eqv_str]
          refine ite2 (fun e4 => ?_) (fun e4 => ?_)
          · rw [if_pos e4] at q
            have hn : 1 ≤ kk.length := by
              have eu : u = "many" := eq_of_beq e4
              subst eu
              have h5 : kk.length = rest.length := hlen
              omega
            obtain ⟨k0, v0, e0, f0, t0, m0⟩ := getk 0 (by omega)
            rw [e0] at q
            refine ⟨_, rfl, (by show 2 ≤ sizeLine; decide), fun l2 hl2 => ?_⟩
            have g3 : Same H1 (upd H3 l2 (.lst [.non, .ref a1])) := g2.trans (Same.new hl2)
            obtain ⟨a9, xs9, rfl, hq9, hx9, _⟩ := tk_at (t0 _ g3)
            refine ⟨_, rfl, l, vm, 0, .ref a9, rfl, rfl, sq1 _ g3, atI_nat (j := 0) f0, a9, xs9, 0, _, rfl, rfl, hq9, atI_nat (j := 0) hx9, rfl, .inr ⟨_, rfl, l2, _, _, _, rfl, rfl, SqL.of upd_same, pick2 _ _, q _ _ g3 ?_⟩⟩
            by_cases h : k0.word = "list"
            · rw [if_pos (show Option.map Kd.word (some k0) = some "list" from congrArg some h), decide_eq_true (show V.str k0.word = V.str "list" from congrArg V.str h)]
              exact tnn _ g3
            · rw [if_neg (show ¬ Option.map Kd.word (some k0) = some "list" from fun z => h (Option.some.inj z)), decide_eq_false (show ¬ V.str k0.word = V.str "list" from fun z => h (V.str.inj z))]
              exact ⟨.non, rfl⟩
          · rw [if_neg e4] at q
            refine ⟨_, rfl, rfl, _, rfl, ?_⟩
            rw [eqv_str]
            refine ite2 (fun e5 => ?_) (fun e5 => ?_)
            · rw [if_pos e5] at q
              have hn : kk.length = 2 := by
                have eu : u = "join" := eq_of_beq e5
                subst eu
                have h4 : decide (rest.length = 2) = true := hsh
                have h5 : kk.length = rest.length := hlen
                have := of_decide_eq_true h4
                omega
              obtain ⟨k0, v0, e0, f0, t0, m0⟩ := getk 0 (by omega)
              obtain ⟨k1, v1, e1, f1, t1, m1⟩ := getk 1 (by omega)
              rw [e0, e1] at q
              refine ⟨_, rfl, l, vm, 0, v0, rfl, rfl, sq1 _ g2, atI_nat (j := 0) f0, (by show 2 ≤ sizeLine; decide), fun l2 hl2 => ?_⟩
              have g3 : Same H1 (upd H3 l2 (.lst [.non, v0])) := g2.trans (Same.new hl2)
              obtain ⟨a9, xs9, ev9, hq9, hx9, _⟩ := tk_at (t0 _ g3)
              have fin : ∀ b : Bool, b = decide (k0.word = "list" ∧ k0 = k1) → Q (if b = true then v0 else .non) (upd H3 l2 (.lst [.non, v0])) := fun b hb => q _ _ g3 (by
                subst hb
                by_cases h : k0.word = "list" ∧ k0 = k1
                · rw [if_pos (show Option.map Kd.word (some k0) = some "list" ∧ some k0 = some k1 from ⟨congrArg some h.1, congrArg some h.2⟩), decide_eq_true h]
                  exact t0 _ g3
                · rw [if_neg (show ¬ (Option.map Kd.word (some k0) = some "list" ∧ some k0 = some k1) from fun z => h ⟨Option.some.inj z.1, Option.some.inj z.2⟩), decide_eq_false h]
                  exact ⟨.non, rfl⟩)
              refine ⟨_, rfl, l, vm, 0, v0, rfl, rfl, sq1 _ g3, atI_nat (j := 0) f0, a9, xs9, 0, _, ev9, rfl, hq9, atI_nat (j := 0) hx9, rfl, _, rfl, ite2 (fun h => ?_) (fun h => ?_)⟩
              · refine ⟨_, rfl, l, vm, 0, v0, rfl, rfl, sq1 _ g3, atI_nat (j := 0) f0, _, rfl, l, vm, 1, v1, rfl, rfl, sq1 _ g3, atI_nat (j := 1) f1, k0.d, k1.d, (t0 _ g3).dp, (t1 _ g3).dp, shp _ m0, shp _ m1, ?_⟩
                rw [kd_eqv]
                refine .inr ⟨_, rfl, l2, _, _, _, rfl, rfl, SqL.of upd_same, pick2 _ _, fin _ ?_⟩
                have h7 : k0.word = "list" := V.str.inj (of_decide_eq_true h)
                by_cases h8 : k0 = k1 <;> simp [h7, h8]
                rw [← h8]; exact h7
              · refine .inr ⟨_, rfl, l2, _, _, _, rfl, rfl, SqL.of upd_same, pick2 _ _, fin _ ?_⟩
                have h7 : ¬ k0.word = "list" := fun z => h (decide_eq_true (by rw [z]))
                simp [h7]
            · rw [if_neg e5] at q
              refine ⟨_, rfl, rfl, _, rfl, ?_⟩
              rw [eqv_str]
              refine ite2 (fun e6 => ?_) (fun e6 => ?_)
              · rw [if_pos e6] at q
                have hn : kk.length = 3 := by
                  have eu : u = "pick" := eq_of_beq e6
                  subst eu
                  have h4 : decide (rest.length = 3) = true := hsh
                  have h5 : kk.length = rest.length := hlen
                  have := of_decide_eq_true h4
                  omega
                obtain ⟨k0, v0, e0, f0, t0, m0⟩ := getk 0 (by omega)
                obtain ⟨k1, v1, e1, f1, t1, m1⟩ := getk 1 (by omega)
                obtain ⟨k2, v2, e2', f2, t2, m2⟩ := getk 2 (by omega)
                rw [e0, e1, e2'] at q
                refine ⟨_, rfl, l, vm, 1, v1, rfl, rfl, sq1 _ g2, atI_nat (j := 1) f1, (by show 2 ≤ sizeLine; decide), fun l2 hl2 => ?_⟩
                have g3 : Same H1 (upd H3 l2 (.lst [.non, v1])) := g2.trans (Same.new hl2)
                have fin : ∀ b : Bool, b = decide (k0 = .tru ∧ k1 = k2) → Q (if b = true then v1 else .non) (upd H3 l2 (.lst [.non, v1])) := fun b hb => q _ _ g3 (by
                  subst hb
                  by_cases h : k0 = .tru ∧ k1 = k2
                  · rw [if_pos (show some k0 = some Kd.tru ∧ some k1 = some k2 from ⟨congrArg some h.1, congrArg some h.2⟩), decide_eq_true h]
                    exact t1 _ g3
                  · rw [if_neg (show ¬ (some k0 = some Kd.tru ∧ some k1 = some k2) from fun z => h ⟨Option.some.inj z.1, Option.some.inj z.2⟩), decide_eq_false h]
                    exact ⟨.non, rfl⟩)
                refine ⟨_, rfl, l, vm, 0, v0, rfl, rfl, sq1 _ g3, atI_nat (j := 0) f0, _, rfl, k0.d, Kd.d .tru, (t0 _ g3).dp, (tnt _ g3).dp, shp _ m0, sht, _, rfl, ?_⟩
                rw [kd_eqv]
                refine ite2 (fun h => ?_) (fun h => ?_)
                · refine ⟨_, rfl, l, vm, 1, v1, rfl, rfl, sq1 _ g3, atI_nat (j := 1) f1, _, rfl, l, vm, 2, v2, rfl, rfl, sq1 _ g3, atI_nat (j := 2) f2, k1.d, k2.d, (t1 _ g3).dp, (t2 _ g3).dp, shp _ m1, shp _ m2, ?_⟩
                  rw [kd_eqv]
                  refine .inr ⟨_, rfl, l2, _, _, _, rfl, rfl, SqL.of upd_same, pick2 _ _, fin _ ?_⟩
                  have h7 := of_decide_eq_true h
                  rw [Bool.eq_iff_iff]
                  simp [h7]
                · refine .inr ⟨_, rfl, l2, _, _, _, rfl, rfl, SqL.of upd_same, pick2 _ _, fin _ ?_⟩
                  have h7 : ¬ k0 = .tru := fun z => h (decide_eq_true z)
                  simp [h7]
              · rw [if_neg e6] at q
                refine ⟨_, rfl, rfl, _, rfl, ?_⟩
                rw [eqv_str]
                refine ite2 (fun e7 => ?_) (fun e7 => ?_)
                · rw [if_pos e7] at q
                  have hn : kk.length = 3 := by
                    have eu : u = "at" := eq_of_beq e7
                    subst eu
                    have h4 : decide (rest.length = 3) = true := hsh
                    have h5 : kk.length = rest.length := hlen
                    have := of_decide_eq_true h4
                    omega
                  obtain ⟨k0, v0, e0, f0, t0, m0⟩ := getk 0 (by omega)
                  obtain ⟨k1, v1, e1, f1, t1, m1⟩ := getk 1 (by omega)
                  obtain ⟨k2, v2, e2', f2, t2, m2⟩ := getk 2 (by omega)
                  have ekk : kk = [k0, k1, k2] := by
                    match kk, hn, e0, e1, e2' with
                    | [a, b, d], _, e0, e1, e2' =>
                      cases e0; cases e1; cases e2'
                      rfl
                  rw [e0, e1, e2'] at q
                  refine ⟨_, rfl, l, vm, 2, v2, rfl, rfl, sq1 _ g2, atI_nat (j := 2) f2, (by show 2 ≤ sizeLine; decide), fun l2 hl2 => ?_⟩
                  have g3 : Same H1 (upd H3 l2 (.lst [.non, v2])) := g2.trans (Same.new hl2)
                  have hk9 := fun H' s => (hk.tr (TR.same (s1.trans s)) : TnAll K H' vm (kk.map Kd.d))
                  refine ⟨_, rfl, 2, rfl, l, vm, rfl, sq1 _ g3, fun l3 hl3 => ?_⟩
                  have ec : cutV vm none (some 2) = vm.take 2 := cut_to 2
                  rw [ec]
                  have g4 := g3.trans (Same.new (o := .lst (vm.take 2)) hl3)
                  refine ⟨_, rfl, l, vm, 2, v2, rfl, rfl, sq1 _ g4, atI_nat (j := 2) f2, (by show 2 ≤ sizeLine; decide), fun t4 ht4 => ⟨_, rfl, (by show 2 ≤ sizeLine; decide), fun l5 hl5 => ?_⟩⟩
                  have s45 := (Same.new (o := .tup [.str "list", v2]) ht4).trans (Same.new (o := .lst [.ref t4, .ref a1]) hl5)
                  have g5 := g4.trans s45
                  have d1 : TnAll K (upd (upd (upd (upd H3 l2 (.lst [.non, v2])) l3 (.lst (vm.take 2))) t4 (.tup [.str "list", v2])) l5 (.lst [.ref t4, .ref a1])) (vm.take 2) ([k0, k1].map Kd.d) := by
                    have := ((hk9 _ g5).takes 2).1
                    rw [ekk] at this
                    exact this
                  have d2 : Tn K (upd (upd (upd (upd H3 l2 (.lst [.non, v2])) l3 (.lst (vm.take 2))) t4 (.tup [.str "list", v2])) l5 (.lst [.ref t4, .ref a1])) (.ref t4) (Kd.d (.lst k2)) :=
                    Tn.of (SqT.of (Same.new hl5 _ _ upd_same)) (.cons (Tn.str "list") (.cons (t2 _ g5) .nil))
                  have kl2 : KL 61 (.lst k2) := KL.lst (hth _ m2).2
                  have sh1 : SeqAt.shaped (.list ([k0, k1].map Kd.d)) = true := kk_shaped fun k hk => by
                    have : k = k0 ∨ k = k1 := by simpa using hk
                    rcases this with rfl | rfl
                    · exact (hth _ m0).2
                    · exact (hth _ m1).2
                  have sh2 : SeqAt.shaped (.list ([Kd.lst k2, Kd.num].map Kd.d)) = true := by
                    show ((PyData.list ([Kd.lst k2, Kd.num].map Kd.d)).canLay0 && decide ((PyData.list ([Kd.lst k2, Kd.num].map Kd.d)).depth ≤ 64)) = true
                    have e1 : (PyData.list ([Kd.lst k2, Kd.num].map Kd.d)).canLay0 = true := by simp only [List.map_cons, List.map_nil, PyData.canLay0, PyData.canLayAll0, kl2.1, kl_num.1, Bool.and_self]
                    have e2 : (PyData.list ([Kd.lst k2, Kd.num].map Kd.d)).depth ≤ 64 := by
                      simp only [List.map_cons, List.map_nil, PyData.depth, PyData.depthAll]
                      have h1 := kl2.2
                      have h2 : (Kd.d .num).depth ≤ 60 := kl_num.2
                      omega
                    rw [e1, decide_eq_true e2]
                    rfl
                  refine ⟨.list ([k0, k1].map Kd.d), .list ([Kd.lst k2, Kd.num].map Kd.d), .lst (SqL.of (s45 _ _ upd_same)) d1.dp, .lst (SqL.of upd_same) (.cons d2.dp (.cons (tnn _ g5).dp .nil)), sh1, sh2, ?_⟩
                  rw [eqv_lists]
                  refine .inr ⟨_, rfl, l2, _, _, _, rfl, rfl, SqL.of (s45 _ _ (Same.new hl3 _ _ upd_same)), pick2 _ _, q _ _ g5 ?_⟩
                  by_cases h : [k0, k1] = [Kd.lst k2, Kd.num]
                  · have h1 : k0 = .lst k2 ∧ k1 = .num := by simpa using h
                    rw [if_pos (show some k0 = Option.map Kd.lst (some k2) ∧ some k1 = some Kd.num from ⟨congrArg some h1.1, congrArg some h1.2⟩), decide_eq_true h]
                    exact t2 _ g5
                  · rw [if_neg (show ¬ (some k0 = Option.map Kd.lst (some k2) ∧ some k1 = some Kd.num) from fun z => h (by
                      have z1 : k0 = .lst k2 := Option.some.inj z.1
                      have z2 : k1 = .num := Option.some.inj z.2
                      rw [z1, z2])), decide_eq_false h]
                    exact ⟨.non, rfl⟩
                · rw [if_neg e7] at q
                  refine ⟨_, rfl, rfl, _, rfl, ?_⟩
                  rw [eqv_str]
                  refine ite2 (fun e8 => ?_) (fun e8 => ?_)
                  · rw [if_pos e8] at q
                    have hn : 1 ≤ kk.length := po.ls (eq_of_beq e8)
                    obtain ⟨k0, v0, e0, f0, t0, m0⟩ := getk 0 (by omega)
                    refine ⟨_, rfl, l, vm, 0, v0, rfl, rfl, sq1 _ g2, atI_nat (j := 0) f0, (by show 2 ≤ sizeLine; decide), fun t4 ht4 => ⟨(by show 2 ≤ sizeLine; decide), fun l2 hl2 => ?_⟩⟩
                    have g3 : Same H1 (upd (upd H3 t4 (.tup [.str "list", v0])) l2 (.lst [.non, .ref t4])) := (g2.trans (Same.new ht4)).trans (Same.new hl2)
                    refine ⟨_, rfl, l, rfl, ⟨_, sq1 _ g3⟩, ?_⟩
                    refine lcN (K := K) (a := l) (xs := vm) (fun i => match kk[i]? with | some k => decide (some k = kk[0]?) | none => true) (g3 _ _ hl1) (by rw [hvl]; have := Nat.le_trans (sel_len u rest) (shaped_len hsh); omega) (fun i v H' Q' hi sm hQ => ?_) (fun v H' Q' hQ => ⟨_, rfl, hQ⟩) (fun D H' ys hD hat hys sm => ?_)
                    · have hi2 : i < kk.length := by have := (List.getElem?_eq_some_iff.mp hi).1; omega
                      obtain ⟨k, v', ek, ev, tk, mk⟩ := getk i hi2
                      rw [hi] at ev
                      cases ev
                      refine ⟨_, rfl, _, rfl, l, vm, 0, v0, rfl, rfl, sq1 _ (g3.trans sm), atI_nat (j := 0) f0, k.d, k0.d, (tk _ (g3.trans sm)).dp, (t0 _ (g3.trans sm)).dp, shp _ mk, shp _ m0, _, rfl, ?_⟩
                      rw [kd_eqv]
                      rw [ek, e0] at hQ
                      simpa using hQ
                    · refine ⟨(by show 0 ≤ sizeLine; decide), fun l3 hl3 => ⟨D, l3, ys, rfl, rfl, SqL.of (Same.new hl3 _ _ hat), SqL.of upd_same, .inr ⟨_, rfl, l2, _, _, _, rfl, rfl, SqL.of (Same.new hl3 _ _ (sm _ _ upd_same)), pick2 _ _, q _ _ ((g3.trans sm).trans (Same.new hl3)) ?_⟩⟩⟩
                      have ea : ys.isEmpty = kk.all (fun k => decide (some k = kk[0]?)) := by
                        rw [hys, Bool.eq_iff_iff, List.all_eq_true, List.all_eq_true]
                        constructor
                        · intro h k hk
                          obtain ⟨i, hi⟩ := List.mem_iff_getElem?.mp hk
                          have hlt := (List.getElem?_eq_some_iff.mp hi).1
                          have := h i (List.mem_range.mpr (by omega))
                          rw [hi] at this
                          exact this
                        · intro h i hi
                          have hlt : i < kk.length := by have := List.mem_range.mp hi; omega
                          rw [List.getElem?_eq_getElem hlt]
                          exact h _ (List.getElem_mem hlt)
                      rw [ea, e0]
                      have sF := (Same.new (o := .lst [.non, .ref t4]) hl2).trans (sm.trans (Same.new (o := .lst []) hl3))
                      exact tn_if (k := .lst k0) (Tn.of (SqT.of (sF _ _ upd_same)) (.cons (Tn.str "list") (.cons (t0 _ ((g3.trans sm).trans (Same.new hl3))) .nil)))
                  · rw [if_neg e8] at q
                    have eu : u = "field" := by
                      unfold shapedW at hsh
                      rw [if_neg (by rw [hlf]; decide)] at hsh
                      split at hsh
                      · rename_i z
                        exact eq_of_beq z
                      · try rw [if_neg e8] at hsh
                        split at hsh
                        · rename_i cn hc
                          have hm := lookup_mem hc
                          simp only [counts, List.mem_cons, Prod.mk.injEq, List.not_mem_nil, or_false] at hm
                          exfalso
                          rcases hm with ⟨rfl, _⟩ | ⟨rfl, _⟩ | ⟨rfl, _⟩ | ⟨rfl, _⟩ | ⟨rfl, _⟩ | ⟨rfl, _⟩ | ⟨rfl, _⟩ | ⟨rfl, _⟩ | ⟨rfl, _⟩ | ⟨rfl, _⟩ | ⟨rfl, _⟩
                          · exact e (by decide +kernel)
                          · exact e (by decide +kernel)
                          · exact e (by decide +kernel)
                          · exact e (by decide +kernel)
                          · exact e3 (by decide +kernel)
                          · exact e2 (by decide +kernel)
                          · exact e5 (by decide +kernel)
                          · exact e2 (by decide +kernel)
                          · exact e4 (by decide +kernel)
                          · exact e6 (by decide +kernel)
                          · exact e7 (by decide +kernel)
                        · cases hsh
                    obtain ⟨dd, x, vx, rfl, rfl, hone⟩ := po.fd eu
                    obtain ⟨k0, v0, e0, f0, t0, m0⟩ := getk 0 (by omega)
                    rw [e0] at q
                    obtain ⟨a9, xs9, rfl, hq9, hx9, _, hx9r⟩ := tk_at (t0 _ g2)
                    refine ⟨_, rfl, l, vm, 0, .ref a9, rfl, rfl, sq1 _ g2, atI_nat (j := 0) f0, a9, xs9, 0, _, rfl, rfl, hq9, atI_nat (j := 0) hx9, rfl, _, rfl, ite2 (fun e9 => ?_) (fun e9 => ?_)⟩
                    · have e1 : ¬ k0.word = "record" := by
                        intro z
                        rw [z] at e9
                        exact absurd e9 (by decide +kernel)
                      have e10 : fieldK c (some k0) (strAt [dd, .str x] 1) = none := by
                        cases k0 with
                        | rcd z => exact absurd rfl e1
                        | _ => rfl
                      rw [e10] at q
                      exact q _ _ g2 ⟨.non, rfl⟩
                    · have e1 : k0.word = "record" := by
                        have e' : ¬ (!decide (V.str k0.word = V.str "record")) = true := e9
                        have : decide (V.str k0.word = V.str "record") = true := by simpa using e'
                        exact V.str.inj (of_decide_eq_true this)
                      obtain ⟨z, rfl⟩ := word_rec e1
                      have hx := hx9r z rfl
                      subst hx
                      obtain ⟨d0, d1, x2, kv0, kv1, pg⟩ := hp.same (s1.trans g2)
                      have ht : (c.f z).isSome = true := (hth _ m0).1
                      rcases pg.f z with ⟨h1, h2⟩ | ⟨t', fs, h1, h2, h3⟩
                      · rw [h2] at ht
                        cases ht
                      · have hg := DGet.k (k := .inr z) pg.a0
                        rw [h1] at hg
                        have ef : fieldK c (some (.rcd z)) (strAt [dd, .str x] 1) = fs.lookup x := by
                          show (c.f z).bind _ = _
                          rw [h2]
                          rfl
                        rw [ef] at q
                        refine ⟨_, rfl, pa, _, 0, .ref d0, rfl, rfl, pg.at_, atI_nat (j := 0) rfl, _, rfl, l, vm, 0, .ref a9, rfl, rfl, sq1 _ g2, atI_nat (j := 0) f0, a9, _, 1, .str z, rfl, rfl, hq9, atI_nat (j := 1) rfl, d0, .ref t', rfl, hg, ?_⟩
                        obtain ⟨ps, kvs, hpl, hpr, hme, hm, _⟩ := fd_dict h3
                        refine ⟨t', ps, kvs, rfl, hpl, hpr, fun p hp => ?_⟩
                        rw [hme]
                        have g9 := g2.trans (Same.new (o := .dK kvs) hp)
                        refine ⟨p, rfl, .inl ⟨kvs, .inl upd_same⟩, _, rfl, t, _, 2, .str x, rfl, rfl, sqT_mono (s1.trans g9) hq, atI_nat (j := 2) rfl, _, DGet.k (k := .inr x) upd_same, ?_⟩
                        have hx := hm x
                        dsimp only at hx
                        rcases hx with ⟨m1, m2⟩ | ⟨v', k', m1, m2, m3⟩
                        · rw [m1]
                          rw [m2] at q
                          exact q _ _ g9 ⟨.non, rfl⟩
                        · rw [m1]
                          rw [m2] at q
                          exact q _ _ g9 (m3.tr (TR.new hp))
end
end K31
set_option Elab.async false
set_option linter.all false
set_option maxRecDepth 100000
set_option maxHeartbeats 2000000
namespace K31
open PySem PySem.Spec PyProof.Rows L2 MixW
open C8 (Cal Def cal0 pe_c fnBody fnScope fnArgs)
def isTu : PyData → Bool
  | .tuple _ => true
  | _ => false
def prD (u : Str) (d : PyData) : Bool := isTu d && !(u == "empty")
theorem term_tu {d : PyData} (h : termB d = true) : isTu d = true := by
  obtain ⟨u, rest, rfl, _⟩ := term_form h
  rfl
theorem filter_all {l : List PyData} {f : PyData → Bool} (h : ∀ d ∈ l, f d = true) : l.filter f = l := List.filter_eq_self.mpr h
theorem sel_filter {u : Str} {rest : List PyData} (h1 : 1 ≤ rest.length) (h2 : shapedW u rest = true) (h3 : (selW u rest).all termB = true) : rest.filter (prD u) = selW u rest := by
  unfold shapedW at h2
  unfold selW at h3 ⊢
  by_cases hl : leafW u = true
  · rw [if_pos hl] at h2 ⊢
    rw [Bool.and_eq_true] at h2
    have hl1 := of_decide_eq_true h2.1
    match rest, hl1, h2.2 with
    | [d], _, hb =>
      have hb : leafB u d = true := hb
      have : prD u d = false := by
        unfold leafB at hb
        unfold prD
        split at hb
        · cases d <;> first | rfl | cases hb
        · split at hb
          · rename_i e
            rw [e]
            simp
          · split at hb
            · cases d <;> first | rfl | cases hb
            · cases d <;> first | rfl | cases hb
      simp [this]
  · rw [if_neg hl] at h2 h3 ⊢
    have hne : (u == ("empty" : Str)) = false := by
      cases e : (u == ("empty" : Str)) with
      | false => rfl
      | true =>
        have := eq_of_beq e
        subst this
        exact absurd (by decide +kernel) hl
    by_cases hf : (u == ("field" : Str)) = true
    · rw [if_pos hf] at h2 h3 ⊢
      rw [Bool.and_eq_true] at h2
      have hl2 := of_decide_eq_true h2.1
      match rest, hl2, h2.2, h3 with
      | [d, y], _, hb, h3 =>
        have hb : isS y = true := hb
        have hd : termB d = true := by
          have : ([d] : List PyData).all termB = true := h3
          simpa using this
        have e1 : prD u d = true := by unfold prD; rw [term_tu hd, hne]; rfl
        have e2 : prD u y = false := by
          unfold prD
          cases y <;> first | rfl | cases hb
        simp [e1, e2]
    · rw [if_neg hf] at h2 h3 ⊢
      exact filter_all fun d hd => by
        unfold prD
        rw [term_tu (List.all_eq_true.mp h3 d hd), hne]
        rfl
def foundK (c : En) (u : Str) (rest : List PyData) (ks : List (Option Kd)) : Option Kd :=
  if leafW u then byWordK c u rest [] else if ks.any Option.isNone then none else dueF c u rest (ks.filterMap id)
theorem over_found (c : En) {u : Str} {rest : List PyData} {ks : List (Option Kd)} (h1 : 1 ≤ rest.length) (h2 : shapedW u rest = true) (hk : ks.length = (selW u rest).length) :
    overK c u rest ks = (match foundK c u rest ks with | none => none | some k => if thereK c k then some k else none) := by
  unfold overK foundK
  by_cases hl : leafW u = true
  · rw [if_pos hl]
    have e0 : selW u rest = [] := by unfold selW; rw [if_pos hl]
    rw [e0] at hk
    have ek : ks = [] := List.length_eq_zero_iff.mp hk
    subst ek
    have em : matchK u [] = true := by
      have z : zipB (sortsK u) [] = true := by unfold zipB; simp
      unfold matchK
      rw [z]
      show (if u == "pick" then decide (([] : List Kd)[1]? = ([] : List Kd)[2]?) else _) = true
      split
      · rfl
      · split
        · rfl
        · split <;> rfl
    show (if false = true then none else if (!matchK u []) = true then none else match byWordK c u rest [] with | none => none | some k => if thereK c k then some k else none) = _
    rw [em]
    rfl
  · rw [if_neg hl]
    by_cases ha : ks.any Option.isNone = true
    · rw [if_pos ha, if_pos ha]
    · rw [if_neg ha, if_neg ha]
      obtain ⟨_, hl2, _⟩ := somes (Bool.eq_false_iff.mpr ha)
      rw [← due_eq c (by simpa using hl) h1 h2 (by rw [hl2]; exact hk)]
      unfold ovF
      split
      · rfl
      · rfl
end K31
set_option Elab.async false
set_option linter.all false
set_option maxRecDepth 100000
set_option maxHeartbeats 3000000
namespace K31
open PySem PySem.Spec PyProof.Rows L2 MixW
open C8 (Cal Def cal0 pe_c fnBody fnScope fnArgs)
section
variable {P : Program} {w : World} {K : PySem.W.Frag} {mg : Str → Option Value} {base : Heap}
abbrev sLDue : Stmt := topS 32
abbrev NLDue : List Str := ["_law_term_here", "_law_held", "_law_program", "_law_found", "_law_some", "_law_part"]
theorem scLDue : FnScope NLDue ["_law_term_here", "_law_held", "_law_program"] (fnScope sLDue) := ⟨rfl, rfl, rfl, by decide +kernel, rfl, by decide +kernel, by decide +kernel⟩
def spDue (K : PySem.W.Frag) (n : Nat) : Sp := fun vs H Q _ => ∃ v d hd kvh pa c, vs = [v, .ref hd, .ref pa] ∧ Tn K H v d ∧ GoodD d ∧ d.depth < n ∧ JK K hd pa kvh c H ∧ EnOk c ∧ ∀ v' H', Same H H' → Tn K H' v' (evO c d) → Q v' H'
theorem take_succ_at {α : Type} {l : List α} {i : Nat} {x : α} (h : l[i]? = some x) : l.take (i + 1) = l.take i ++ [x] := by
  rw [List.take_succ, h]
  rfl
theorem c_due (T : Tp mg) (c_LByParts : Cal P w K mg base 1 "_law_by_parts" (spBy K) []) (c_LThere : Cal P w K mg base 1 "_law_there" (spThere K) []) {f : Addr} {fd : FuncData} (D : Def K mg "_law_due" sLDue f fd) (b : Binds K fd ["_law_term_here", "_law_held", "_law_program"] []) :
    ∀ n : Nat, Cal P w K mg base (2 + n) "_law_due" (spDue K n) []
  | 0 => cal_no _ (fun vs H Q E ⟨v, d, hd, kvh, pa, c, _, _, _, h, _⟩ => absurd h (Nat.not_lt_zero _)) D b
  | n + 1 => by
    have c_LDue := c_due T c_LByParts c_LThere D b n
    refine cal0 D b .nil scLDue (fun vs H Q E h => ?_) (fun cdv A outer s H vs Q E hr h => ?_)
    · obtain ⟨v, d, hd, kvh, pa, c, rfl, _⟩ := h
      rfl
    · obtain ⟨v, d, hd, kvh, pa, c, rfl, hv, hg, hdp, hj, ok, q⟩ := h
      have nd := scLDue.nd
      have hr := (show Room (2 + n) _ from hr)
      have hu1 := hu_of hr
      refine ⟨_, (pss_cons (ps_set (i := 3) nd rfl (.inl rfl) pe_non)
    (C8.pss_cut (ps_setLc (i := 4) (own := [("_law_part", 5)]) (g := gName 5) rfl nd rfl rfl (sw_true rfl rfl rfl (by decide +kernel)) (pi_tup (pe_slice sl_tupA (pv 0) (po_some pe_int) po_none)) (blkOk_by (own := [("_law_part", 5)]) (N := NLDue) (sc := fnScope sLDue) (by decide +kernel)) (fun _ _ _ _ _ => pg_name (i := 5) nd rfl (Or.inl rfl)) (fun _ _ _ _ _ => (pts_one (PW.pt (pw_and (pt_val (pe_callB (id := "isinstance") (r := rIsQ K) call_isQ (by rfl) T.n_isinstance (by decide +kernel) (pa_cons (pv 5) (pa_cons (pe_bltn (v := .ty "tuple") (by rfl) T.n_tuple (by decide +kernel) rfl) pa_nil)))) (pw_and1 (pt_cmpR op_ne (pe_ix (r := rIxT K) ix_tup (pv 0) pe_int (fun _ _ => rfl)) pe_str (nomark _))))))) (fun _ _ _ _ _ => (pe_c c_LDue hr (Nat.le_refl _) (by rfl) (pa_cons (pv 5) (pa_cons (pv 1) (pa_cons (pv 2) pa_nil))))))
    (C8.pss_cut (ps_if (pt_cmpR op_in_seq (pe_ix (r := rIxT K) ix_tup (pv 0) pe_int (fun _ _ => rfl)) (pe_lst (pa_cons pe_str (pa_cons pe_str pa_nil))) (by rfl))
      (pss_one (ps_set (i := 3) nd rfl (.inl rfl) (pe_tup (pa_cons (pe_ix (r := rIxT K) ix_tup (pv 0) pe_int (fun _ _ => rfl)) pa_nil))))
      (pss_one (ps_if (pt_cmpR op_eq (pe_ix (r := rIxT K) ix_tup (pv 0) pe_int (fun _ _ => rfl)) pe_str (nomark _))
      (pss_one (ps_set (i := 3) nd rfl (.inl rfl) (pe_dget1 hu1 (pv 1) (pe_ix (r := rIxT K) ix_tup (pv 0) pe_int (fun _ _ => rfl)) ⟨rfl, rfl, rfl, rfl⟩)))
      (pss_one (ps_if (pt_cmpR op_eq (pe_ix (r := rIxT K) ix_tup (pv 0) pe_int (fun _ _ => rfl)) pe_str (nomark _))
      (pss_one (ps_set (i := 3) nd rfl (.inl rfl) (pe_ix (r := rIxT K) ix_tup (pe_dget2 hu1 (pe_ix (r := rIxT K) ix_tup (pv 2) pe_int (fun _ _ => rfl)) (pe_ix (r := rIxT K) ix_tup (pv 0) pe_int (fun _ _ => rfl)) (pe_tup (pa_cons pe_non (pa_cons pe_non pa_nil))) ⟨rfl, rfl, rfl, rfl⟩) pe_int (fun _ _ => rfl))))
      (pss_one (ps_if (pt_cmpR op_eq (pe_ix (r := rIxT K) ix_tup (pv 0) pe_int (fun _ _ => rfl)) pe_str (nomark _))
      (pss_one (ps_set (i := 3) nd rfl (.inl rfl) (pe_tup (pa_cons pe_str (pa_cons (pe_ix (r := rIxT K) ix_tup (pv 0) pe_int (fun _ _ => rfl)) pa_nil)))))
      (pss_one (ps_if (pt_cmpR (op_notInD (hin_of hr)) pe_non (pv 4) (by rfl))
      (pss_one (ps_set (i := 3) nd rfl (.inl rfl) (pe_c c_LByParts hr (by omega) (by rfl) (pa_cons (pv 0) (pa_cons (pv 4) (pa_cons (pv 2) pa_nil))))))
      pss_nil)))))))))
    (pss_cons (ps_if (PW.pt (pw_or (pt_cmpR op_isN (pv 3) pe_non (nomark _)) (pw_or1 (pt_not (pt_val (pe_c c_LThere hr (by omega) (by rfl) (pa_cons (pv 3) (pa_cons (pv 2) pa_nil))))))))
      (pss_one (ps_ret pe_non))
      pss_nil)
    (pss_one (ps_ret (pv 3))))))), ?_⟩
      obtain ⟨u, rest, rfl, h1, h2, h3⟩ := term_form hg.tm
      obtain ⟨t, vr, rfl, hq, po, wo, l8, hvr⟩ := good_parts hv h1 h2
      have hsf := sel_filter h1 h2 h3
      have hvl := hvr.len
      have q : ∀ v' H', Same H H' → Tn K H' v' (oD (overK c u rest ((selW u rest).map (evK c)))) → Q v' H' := fun v' H' s hv' => q v' H' s (by unfold evO; rw [evK_eq]; exact hv')
      rw [over_found c h1 h2 (by rw [List.length_map])] at q
      obtain ⟨u9, rest9, e9, _, _, hgp⟩ := good_ok _ hg
      cases e9
      refine ⟨fun σ' H' => (∃ Dl vm, σ' = [some (.ref t), some (.ref hd), some (.ref pa), some .non, some (.ref Dl), none] ∧ H' Dl = some (.lst vm) ∧ TnAll K H' vm (((selW u rest).map (evK c)).map oD)) ∧ Same H H', ?_, ?_⟩
      · have hs1 : HT.sIx (V.str u :: vr).length 0 (some 1) = 1 := by
          rw [show HT.sIx (V.str u :: vr).length 0 (some 1) = min 1 (V.str u :: vr).length from HT.sIx_nat (V.str u :: vr).length 0 1, List.length_cons]
          omega
        have ec : cutV (V.str u :: vr) (some 1) none = vr := by
          unfold cutV
          rw [hs1, HT.sIx_none]
          exact List.take_of_length_le (by simp)
        refine ⟨_, rfl, 1, rfl, t, .str u :: vr, rfl, hq, fun h => ?_, fun _ p hp => ?_⟩
        · rw [hs1] at h
          exact absurd h.1 (by decide)
        · rw [ec]
          have s0 : Same H (upd H p (.tup vr)) := Same.new hp
          refine ⟨p, rfl, ⟨_, SqT.of upd_same⟩, fun Dl hD => ?_⟩
          refine lc_tup (K := K) (a := p) (xs := vr) (fun i H' => ∃ acc, H' Dl = some (.lst acc) ∧ acc.length ≤ i ∧ Same (upd H p (.tup vr)) H' ∧ TnAll K H' acc (((rest.take i).filter (prD u)).map (evO c))) ⟨[], upd_same, Nat.le_refl _, Same.new hD, .nil⟩ (fun i H' _ hW => let ⟨_, _, _, s, _⟩ := hW; SqT.of (s _ _ upd_same)) (fun i x H' hi hW => ?_) (fun H' hW => ?_)
          · obtain ⟨acc, a1, a2, a3, a4⟩ := hW
            have s2 := s0.trans a3
            refine ⟨wipe1, ?_⟩
            obtain ⟨dx, hdx, tx⟩ := hvr.at hi
            have htx := tx.tr (TR.same s2)
            have hir := (List.getElem?_eq_some_iff.mp hi).1
            have hq2 := sqT_mono s2 hq
            have etk := take_succ_at hdx
            have no : prD u dx = false → (∃ acc, H' Dl = some (.lst acc) ∧ acc.length ≤ i + 1 ∧ Same (upd H p (.tup vr)) H' ∧ TnAll K H' acc (((rest.take (i + 1)).filter (prD u)).map (evO c))) := fun hf => by
              refine ⟨acc, a1, by omega, a3, ?_⟩
              rw [etk, List.filter_append]
              simpa [hf] using a4
            refine ⟨_, rfl, x, dx, "tuple", rfl, htx.dp.q, by decide, _, rfl, ?_⟩
            cases dx with
            | tuple dds =>
              refine iteT ⟨_, rfl, t, _, 0, .str u, rfl, rfl, hq2, atI_nat (j := 0) rfl, rfl, _, rfl, ?_⟩
              rw [eqv_str]
              cases he : (u == ("empty" : Str)) with
              | true => exact iteF (no (by unfold prD; rw [he]; rfl))
              | false =>
                have hyes : prD u (.tuple dds) = true := by unfold prD; rw [he]; rfl
                have hmem : PyData.tuple dds ∈ selW u rest := by
                  rw [← hsf]
                  exact List.mem_filter.mpr ⟨List.mem_of_getElem? hdx, hyes⟩
                have gp := hgp _ hmem
                have hdep : (PyData.tuple dds).depth < n := by
                  have hl : PyData.canLayAll0 (.str u :: rest) = true := by simpa [PyData.canLay0] using hg.lay
                  have hm := lay_mem hl (List.mem_cons_of_mem _ (List.mem_of_getElem? hdx))
                  have hd : (PyData.tuple (.str u :: rest)).depth = PyData.depthAll (.str u :: rest) + 1 := by simp only [PyData.depth]
                  omega
                refine iteT ⟨_, rfl, _, rfl, _, rfl, x, .tuple dds, hd, kvh, pa, c, rfl, htx, gp, hdep, JK.same _ _ s2 hj, ok, fun v' H2 s3 tv => ?_⟩
                refine ⟨acc, s3 _ _ a1, by rw [sizeLine_eq]; have := shaped_len h2; omega, acc ++ [v'], upd_same, by rw [List.length_append, List.length_singleton]; omega, fun b o hb => ?_, ?_⟩
                · rw [upd_ne (fun z => by rw [z, hD] at hb; cases hb)]
                  exact s3 _ _ (a3 _ _ hb)
                · have tp : TR H2 (upd H2 Dl (.lst (acc ++ [v']))) := TR.put (s3 _ _ a1)
                  rw [etk, List.filter_append]
                  have : List.filter (prD u) [PyData.tuple dds] = [PyData.tuple dds] := by simp [hyes]
                  rw [this, List.map_append]
                  exact ((a4.tr (TR.same s3)).tr tp).app (.cons (tv.tr tp) .nil)
            | _ => exact iteF (no rfl)
          · obtain ⟨acc, a1, a2, a3, a4⟩ := hW
            rw [hvl, List.take_of_length_le (Nat.le_refl _), hsf] at a4
            refine ⟨⟨Dl, acc, rfl, a1, ?_⟩, s0.trans a3⟩
            rw [List.map_map]
            exact a4
      · rintro σ H1 ⟨⟨Dl, vm, rfl, hat, hvm⟩, s1⟩
        have hq1 := sqT_mono s1 hq
        have hj1 := JK.same _ _ s1 hj
        refine ⟨fun σ' H' => (∃ vf, σ' = [some (.ref t), some (.ref hd), some (.ref pa), some vf, some (.ref Dl), none] ∧ Tn K H' vf (oD (foundK c u rest ((selW u rest).map (evK c))))) ∧ Same H H', ?_, ?_⟩
        · refine ⟨_, rfl, t, _, 0, .str u, rfl, rfl, hq1, atI_nat (j := 0) rfl, (by show 2 ≤ sizeLine; decide), fun b1 hb1 => ⟨b1, _, rfl, .inl (SqL.of upd_same), rfl, rfl, _, rfl, ?_⟩⟩
          have g1 : Same H (upd H1 b1 (.lst [.str "number", .str "truth"])) := s1.trans (Same.new hb1)
          have gH : Same H1 (upd H1 b1 (.lst [.str "number", .str "truth"])) := Same.new hb1
          show if (inV (.str u) [.str "number", .str "truth"]) = true then _ else _
          rw [in2]
          generalize upd H1 b1 (.lst [.str "number", .str "truth"]) = H2 at *
          have hq2 := sqT_mono g1 hq
          refine ite2 (fun e => ?_) (fun e => ?_)
          · refine ⟨_, rfl, t, _, 0, .str u, rfl, rfl, hq2, atI_nat (j := 0) rfl, (by show 1 ≤ sizeLine; decide), fun t2 ht2 => ⟨⟨_, rfl, ?_⟩, g1.trans (Same.new ht2)⟩⟩
            have hu : u = "number" ∨ u = "truth" := by simpa using e
            rcases hu with rfl | rfl
            · exact Tn.newT ht2 (.cons (Tn.str "number") .nil)
            · exact Tn.newT ht2 (.cons (Tn.str "truth") .nil)
          · refine ⟨_, rfl, t, _, 0, .str u, rfl, rfl, hq2, atI_nat (j := 0) rfl, rfl, _, rfl, ?_⟩
            rw [eqv_str]
            obtain ⟨jh, jm, jp⟩ := JK.same _ _ g1 hj
            refine ite2 (fun e2 => ?_) (fun e2 => ?_)
            · have eu : u = "name" := eq_of_beq e2
              obtain ⟨z, rfl, rfl⟩ := po.nm eu
              subst eu
              refine ⟨_, rfl, hd, rfl, .inl ⟨_, .inl jh⟩, _, rfl, t, _, 1, .str z, rfl, rfl, hq2, atI_nat (j := 1) rfl, _, DGet.k (k := .inr z) jh, ⟨⟨_, rfl, ?_⟩, g1⟩⟩
              show Tn K H2 ((valV kvh (.inr z)).getD .non) (oD (c.h z))
              rcases jm z with ⟨m1, m2⟩ | ⟨v', k', m1, m2, m3⟩
              · rw [m1, m2]
                exact ⟨.non, rfl⟩
              · rw [m1, m2]
                exact m3
            · refine ⟨_, rfl, t, _, 0, .str u, rfl, rfl, hq2, atI_nat (j := 0) rfl, rfl, _, rfl, ?_⟩
              rw [eqv_str]
              refine ite2 (fun e3 => ?_) (fun e3 => ?_)
              · have eu : u = "box" := eq_of_beq e3
                obtain ⟨z, rfl, rfl⟩ := po.bx eu
                subst eu
                obtain ⟨d0, d1, x2, kv0, kv1, pg⟩ := jp
                refine ⟨_, rfl, pa, _, 1, .ref d1, rfl, rfl, pg.at_, atI_nat (j := 1) rfl, d1, rfl, .inl ⟨_, .inl pg.a1⟩, _, rfl, t, _, 1, .str z, rfl, rfl, hq2, atI_nat (j := 1) rfl, (by show 2 ≤ sizeLine; decide), fun t2 ht2 => ⟨_, DGet.k (k := .inr z) (Same.new ht2 _ _ pg.a1), ?_⟩⟩
                have g2 := g1.trans (Same.new (o := .tup [.non, .non]) ht2)
                rcases pg.b z with ⟨m1, m2⟩ | ⟨tb, kv, x, k, m1, m2, m3, m4⟩
                · rw [m1]
                  refine ⟨t2, _, 0, .non, rfl, rfl, SqT.of upd_same, atI_nat (j := 0) rfl, ⟨_, rfl, ?_⟩, g2⟩
                  show Tn K _ .non (oD (c.b z))
                  rw [m2]
                  exact ⟨.non, rfl⟩
                · rw [m1]
                  refine ⟨tb, _, 0, kv, rfl, rfl, sqT_mono (Same.new ht2) m3, atI_nat (j := 0) rfl, ⟨_, rfl, ?_⟩, g2⟩
                  show Tn K _ kv (oD (c.b z))
                  rw [m2]
                  exact m4.tr (TR.new ht2)
              · refine ⟨_, rfl, t, _, 0, .str u, rfl, rfl, hq2, atI_nat (j := 0) rfl, rfl, _, rfl, ?_⟩
                rw [eqv_str]
                refine ite2 (fun e4 => ?_) (fun e4 => ?_)
                · have eu : u = "empty" := eq_of_beq e4
                  obtain ⟨k, v, rfl, rfl, hvk⟩ := po.em eu
                  subst eu
                  refine ⟨_, rfl, t, _, 1, v, rfl, rfl, hq2, atI_nat (j := 1) rfl, (by show 2 ≤ sizeLine; decide), fun t2 ht2 => ⟨⟨_, rfl, ?_⟩, g1.trans (Same.new ht2)⟩⟩
                  have e9 : foundK c "empty" [k.d] ((selW "empty" [k.d]).map (evK c)) = some (.lst k) := by
                    show ((toK k.d)).map Kd.lst = _
                    rw [toK_d]
                    rfl
                  rw [e9]
                  exact Tn.newT ht2 (.cons (Tn.str "list") (.cons (hvk.tr (TR.same g1)) .nil))
                · have hlf : leafW u = false := by
                    cases hl : leafW u with
                    | false => rfl
                    | true =>
                      exfalso
                      unfold leafW at hl
                      rw [in5] at hl
                      simp only [Bool.or_eq_true, beq_iff_eq] at hl e e2 e3 e4
                      rcases hl with (((h | h) | h) | h) | h
                      · exact e (.inl h)
                      · exact e (.inr h)
                      · exact e2 h
                      · exact e3 h
                      · exact e4 h
                  have hth : ∀ k, some k ∈ (selW u rest).map (evK c) → thereK c k = true ∧ KL 60 k := fun k hk => by
                    obtain ⟨p, hp, ep⟩ := List.mem_map.mp hk
                    have gp := hgp p hp
                    refine ⟨?_, (ev_ok ok p k gp.lay ep).mono (by have := gp.dep; omega)⟩
                    obtain ⟨u3, rest3, e3, _⟩ := term_form gp.tm
                    rw [e3, evK_eq] at ep
                    exact (over_some ep).2.1
                  refine ⟨_, rfl, .none, ((selW u rest).map (evK c)).map oD, .non, .lst (SqL.of (gH _ _ hat)) (hvm.tr (TR.same gH)).dp, by decide +kernel, od_shaped (fun k hk => (hth k hk).2), _, rfl, ?_⟩
                  rw [any_non]
                  have ef : foundK c u rest ((selW u rest).map (evK c)) = (if ((selW u rest).map (evK c)).any Option.isNone = true then none else dueF c u rest (((selW u rest).map (evK c)).filterMap id)) := by
                    unfold foundK
                    rw [if_neg (by rw [hlf]; decide)]
                  rw [ef]
                  cases ha : ((selW u rest).map (evK c)).any Option.isNone with
                  | true => exact iteF' rfl ⟨⟨_, rfl, .non, rfl⟩, g1⟩
                  | false =>
                    obtain ⟨m1, m2, m3⟩ := somes ha
                    have hvm2 := hvm.tr (TR.same gH)
                    rw [m1] at hvm2
                    have m2' : (((selW u rest).map (evK c)).filterMap id).length = (selW u rest).length := by rw [m2, List.length_map]
                    refine iteT' rfl ⟨_, rfl, _, rfl, _, rfl, t, u, vr, rest, Dl, vm, ((selW u rest).map (evK c)).filterMap id, pa, c, rfl, hq2, by rw [m2']; exact po.same g1, hlf, h1, h2, m2', gH _ _ hat, hvm2, (fun k hk => hth k (m3 k hk)), jp, fun v' H' s' hv' => ⟨⟨_, rfl, ?_⟩, g1.trans s'⟩⟩
                    exact hv'
        · rintro σ H2 ⟨⟨vf, rfl, hf⟩, s2⟩
          have q2 := fun v' H' (s : Same H2 H') hv' => q v' H' (s2.trans s) hv'
          cases hb : foundK c u rest ((selW u rest).map (evK c)) with
          | none =>
            rw [hb] at hf q2
            cases hf.dp
            exact ⟨_, rfl, rfl, _, rfl, iteT (q2 _ _ (Same.refl _) ⟨.non, rfl⟩)⟩
          | some k =>
            rw [hb] at hf q2
            obtain ⟨a, xs, rfl, hq9, _⟩ := tk_at hf
            refine ⟨_, rfl, rfl, _, rfl, iteF ⟨_, rfl, _, rfl, .ref a, k, pa, c, rfl, hf, (JK.same _ _ s2 hj).2.2, fun H3 s3 => ⟨_, rfl, ?_⟩⟩⟩
            refine ite2 (fun e7 => ?_) (fun e7 => ?_)
            · have e8 : thereK c k = false := by simpa using e7
              simp only [e8, Bool.false_eq_true, if_false] at q2
              exact q2 _ _ s3 ⟨.non, rfl⟩
            · have e8 : thereK c k = true := by simpa using e7
              simp only [e8, if_true] at q2
              exact ⟨_, rfl, q2 _ _ s3 (hf.tr (TR.same s3))⟩
end
end K31
set_option Elab.async false
set_option linter.all false
set_option maxRecDepth 100000
set_option maxHeartbeats 2000000
namespace K31
open PySem PySem.Spec PyProof.Rows L2 MixW
open C8 (Cal Def cal0 pe_c fnBody fnScope fnArgs)
theorem Go.tr {p : Addr} {H H' : Hp} (hp : Pt H p) (g : Go p H H') : TR H H' := by
  obtain ⟨x, y, a, _⟩ := hp
  exact TR.but g.1 a
def LayS (zs : List Str) : Prop := ∀ z ∈ zs, (PyData.str z).canLay0 = true ∧ z.cps.size ≤ 20
/-- kinds as they are drawn: not deep, not heavy -/
structure KM (n : Nat) (k : Kd) : Prop where
  kl : KL n k
  wt : k.d.weight ≤ 6 * k.d.depth + 40
theorem KM.mono {n m : Nat} {k : Kd} (h : KM n k) (e : n ≤ m) : KM m k := ⟨h.kl.mono e, h.wt⟩
theorem KM.lst {n : Nat} {k : Kd} (h : KM n k) : KM (n + 1) (.lst k) := by
  refine ⟨h.kl.lst, ?_⟩
  have := h.wt
  have h4 : (("list" : Str)).cps.size = 4 := by decide +kernel
  simp only [Kd.d, PyData.weight, PyData.weightAll, PyData.depth, PyData.depthAll, h4]
  omega
theorem KM.inn {n : Nat} {k : Kd} (h : KM n (.lst k)) : KM n k := by
  have h4 : (("list" : Str)).cps.size = 4 := by decide +kernel
  obtain ⟨⟨h1, h2⟩, h3⟩ := h
  simp only [Kd.d, PyData.canLay0, PyData.canLayAll0, Bool.and_eq_true, PyData.weight, PyData.weightAll, PyData.depth, PyData.depthAll, h4] at h1 h2 h3
  exact ⟨⟨h1.2.1, by omega⟩, by omega⟩
theorem kl_rcd {z : Str} (h : (PyData.str z).canLay0 = true ∧ z.cps.size ≤ 20) : KM 1 (.rcd z) := by
  refine ⟨⟨?_, by simp [Kd.d, PyData.depth, PyData.depthAll]⟩, ?_⟩
  · simp only [Kd.d, PyData.canLay0, PyData.canLayAll0, Bool.and_true, Bool.and_eq_true]
    exact ⟨by decide +kernel, by simpa [PyData.canLay0] using h.1⟩
  · have h6 : (("record" : Str)).cps.size = 6 := by decide +kernel
    have := h.2
    simp only [Kd.d, PyData.weight, PyData.weightAll, PyData.depth, PyData.depthAll, h6]
    omega
theorem kl_num1 : KM 1 .num := ⟨⟨by decide +kernel, by simp [Kd.d, PyData.depth, PyData.depthAll]⟩, by decide +kernel⟩
theorem kl_tru1 : KM 1 .tru := ⟨⟨by decide +kernel, by simp [Kd.d, PyData.depth, PyData.depthAll]⟩, by decide +kernel⟩
section
variable {P : Program} {w : World} {K : PySem.W.Frag} {mg : Str → Option Value} {base : Heap}
abbrev sLKind : Stmt := topS 21
abbrev NLKind : List Str := ["_law_pot_here", "_law_records", "_law_deep", "_law_way"]
theorem scLKind : FnScope NLKind ["_law_pot_here", "_law_records", "_law_deep"] (fnScope sLKind) := ⟨rfl, rfl, rfl, by decide +kernel, rfl, by decide +kernel, by decide +kernel⟩
def spKind (K : PySem.W.Frag) (n : Nat) : Sp := fun vs H Q _ => ∃ (p L : Addr) (zs : List Str) (m : Nat), vs = [.ref p, .ref L, .int m] ∧ m < n ∧ Pt H p ∧ H L = some (.lst (zs.map V.str)) ∧ L ≠ p ∧ LayS zs ∧ zs.length ≤ 1000 ∧ ∀ v (k : Kd) H', KM (m + 1) k → Tn K H' v k.d → Go p H H' → Q v H'
theorem c_kind (T : Tp mg) (c_LTake : Cal P w K mg base 1 "_law_take" spTake []) {f : Addr} {fd : FuncData} (D : Def K mg "_law_kind" sLKind f fd) (b : Binds K fd ["_law_pot_here", "_law_records", "_law_deep"] []) :
    ∀ n : Nat, Cal P w K mg base (2 + n) "_law_kind" (spKind K n) []
  | 0 => cal_no _ (fun vs H Q E ⟨p, L, zs, m, _, h, _⟩ => absurd h (Nat.not_lt_zero _)) D b
  | n + 1 => by
    have c_LKind := c_kind T c_LTake D b n
    refine cal0 D b .nil scLKind (fun vs H Q E h => ?_) (fun cdv A outer s H vs Q E hr h => ?_)
    · obtain ⟨p, L, zs, m, rfl, _⟩ := h
      rfl
    · obtain ⟨p, L, zs, m, rfl, hm, hp, hL, nLp, hz, hzl, q⟩ := h
      have nd := scLKind.nd
      have hr := (show Room (2 + n) _ from hr)
      have hnil : (A.deeper (envOfC "_law_kind" (fnScope sLKind) s.heap.objs.size f cdv)).units + 64 < cLine := hr.units
      refine ⟨_, (pss_cons (ps_set (i := 3) nd rfl (.inl rfl) (pe_c c_LTake hr (by omega) (by rfl) (pa_cons (pv 0) (pa_cons pe_int pa_nil))))
    (C8.pss_cut (ps_if (PW.pt (pw_and (pt_cmpR op_gt (pv 3) pe_int (nomark _)) (pw_and1 (pt_cmpR (op_neNil hnil) (pv 1) (pe_lst pa_nil) (nomark _)))))
      (pss_one (ps_ret (pe_tup (pa_cons pe_str (pa_cons (pe_ix ix_list (pv 1) (pe_c c_LTake hr (by omega) (by rfl) (pa_cons (pv 0) (pa_cons (pe_callB call_len_seq (by rfl) T.n_len (by decide +kernel) (pa_cons (pv 1) pa_nil)) pa_nil))) (fun _ _ => rfl)) pa_nil)))))
      pss_nil)
    (C8.pss_cut (ps_if (PW.pt (pw_and (pt_cmpR op_gt (pv 3) pe_int (nomark _)) (pw_and1 (pt_cmpR op_gt (pv 2) pe_int (nomark _)))))
      (pss_one (ps_ret (pe_tup (pa_cons pe_str (pa_cons (pe_c c_LKind hr (by omega) (by rfl) (pa_cons (pv 0) (pa_cons (pv 1) (pa_cons (pe_op op_sub (pv 2) pe_int) pa_nil)))) pa_nil)))))
      pss_nil)
    (pss_one (ps_ret (pe_ix ix_list (pe_lst (pa_cons (pe_tup (pa_cons pe_str pa_nil)) (pa_cons (pe_tup (pa_cons pe_str pa_nil)) pa_nil))) (pe_op op_modN (pv 3) pe_int) (fun _ _ => rfl))))))), ?_⟩
      refine ⟨_, rfl, p, 8, rfl, hp, by decide, by decide, fun r H1 r0 r1 g1 => ?_⟩
      have go : ∀ H', Same H1 H' → (fun (σ' : L2.St) (H' : Hp) => σ' = [some (.ref p), some (.ref L), some (.int m), some (.int r)] ∧ Go p H H') [some (.ref p), some (.ref L), some (.int m), some (.int r)] H' := fun H' s => ⟨rfl, g1.same s⟩
      refine ⟨fun σ' H' => σ' = [some (.ref p), some (.ref L), some (.int m), some (.int r)] ∧ Go p H H', ?_, ?_⟩
      · refine ⟨_, rfl, _, _, rfl, rfl, _, rfl, ite2 (fun e => ?_) (fun e => ?_)⟩
        · refine ⟨_, rfl, (by show 0 ≤ sizeLine; decide), fun l hl => ⟨L, l, _, rfl, rfl, SqL.of (Same.new hl _ _ (g1.at nLp hL)), SqL.of upd_same, _, rfl, ?_⟩⟩
          have g2 : Go p H (upd H1 l (.lst [])) := g1.new hl
          refine ite2 (fun e2 => ?_) (fun e2 => go _ (Same.new hl))
          have hne : 0 < zs.length := by
            cases zs with
            | nil => exact absurd e2 (by decide)
            | cons z zr => simp
          have hL2 := g2.at nLp hL
          refine ⟨_, rfl, _, rfl, _, rfl, L, _, rfl, .inl (SqL.of hL2), p, _, rfl, g2.2, by rw [List.length_map]; omega, small300 (by omega) (by rw [List.length_map]; omega), fun r2 H2 r20 r21 g3 => ?_⟩
          have g4 := g2.trans g3
          rw [List.length_map] at r21
          have e3 : r2 = (r2.toNat : Int) := by omega
          have l3 : r2.toNat < zs.length := by omega
          refine ⟨L, _, r2, .str zs[r2.toNat], rfl, rfl, SqL.of (g4.at nLp hL), ?_, (by show 2 ≤ sizeLine; decide), fun t ht => q _ (.rcd zs[r2.toNat]) _ ((kl_rcd (hz _ (List.getElem_mem l3))).mono (by omega)) (Tn.newT ht (.cons (Tn.str "record") (.cons (Tn.str _) .nil))) (g4.new ht)⟩
          have h9 : atI (zs.map V.str) (r2.toNat : Int) = some (.str zs[r2.toNat]) := atI_nat (by rw [List.getElem?_map, List.getElem?_eq_getElem l3]; rfl)
          rw [← e3] at h9
          exact h9
        · exact iteF (go _ (Same.refl _))
      · rintro σ H2 ⟨rfl, g2⟩
        refine ⟨fun σ' H' => σ' = [some (.ref p), some (.ref L), some (.int m), some (.int r)] ∧ Go p H H', ?_, ?_⟩
        · refine ⟨_, rfl, _, _, rfl, rfl, _, rfl, ite2 (fun e => ?_) (fun e => ?_)⟩
          · refine ⟨_, rfl, _, _, rfl, rfl, _, rfl, ite2 (fun e2 => ?_) (fun e2 => ⟨rfl, g2⟩)⟩
            have m0 : (0 : Int) < m := of_decide_eq_true e2
            refine ⟨_, rfl, _, rfl, _, rfl, _, _, rfl, rfl, p, L, zs, m - 1, ?_, by omega, g2.2, g2.at nLp hL, nLp, hz, hzl, fun v k H3 hk hv g3 => ⟨(by show 2 ≤ sizeLine; decide), fun t ht => ?_⟩⟩
            · show [V.ref p, V.ref L, V.int ((m : Int) - 1)] = _
              rw [show ((m - 1 : Nat) : Int) = (m : Int) - 1 by omega]
            · exact q _ (.lst k) _ ((KM.lst hk).mono (by omega)) (Tn.newT ht (.cons (Tn.str "list") (.cons hv .nil))) ((g2.trans g3).new ht)
          · exact iteF ⟨rfl, g2⟩
        · rintro σ H3 ⟨rfl, g3⟩
          refine ⟨(by show 1 ≤ sizeLine; decide), fun t1 ht1 => ⟨(by show 1 ≤ sizeLine; decide), fun t2 ht2 => ⟨(by show 2 ≤ sizeLine; decide), fun l hl => ?_⟩⟩⟩
          have gF : Go p H (upd (upd (upd H3 t1 (.tup [.str "number"])) t2 (.tup [.str "truth"])) l (.lst [.ref t1, .ref t2])) := ((g3.new ht1).new ht2).new hl
          have d1 : Tn K (upd (upd (upd H3 t1 (.tup [.str "number"])) t2 (.tup [.str "truth"])) l (.lst [.ref t1, .ref t2])) (.ref t1) (Kd.d .num) := tn_num (SqT.of (Same.new hl _ _ (Same.new ht2 _ _ upd_same)))
          have d2 : Tn K (upd (upd (upd H3 t1 (.tup [.str "number"])) t2 (.tup [.str "truth"])) l (.lst [.ref t1, .ref t2])) (.ref t2) (Kd.d .tru) := tn_tru (SqT.of (Same.new hl _ _ upd_same))
          refine ⟨_, rfl, _, _, rfl, rfl, (by show (2 : Int) ≠ 0; decide), ?_⟩
          have f0 : 0 ≤ r.fmod 2 := fmod_lo (by decide)
          have f1 : r.fmod 2 < 2 := fmod_hi (by decide)
          have hc : r.fmod 2 = 0 ∨ r.fmod 2 = 1 := by omega
          rcases hc with h | h
          · exact ⟨l, _, _, .ref t1, rfl, rfl, SqL.of upd_same, by rw [h]; rfl, q _ .num _ (kl_num1.mono (by omega)) d1 gF⟩
          · exact ⟨l, _, _, .ref t2, rfl, rfl, SqL.of upd_same, by rw [h]; rfl, q _ .tru _ (kl_tru1.mono (by omega)) d2 gF⟩
/-! ### plain values: anything flat -/
abbrev sLPlain : Stmt := topS 22
abbrev NLPlain : List Str := ["_law_pot_here", "_law_kind_here"]
theorem scLPlain : FnScope NLPlain ["_law_pot_here", "_law_kind_here"] (fnScope sLPlain) := ⟨rfl, rfl, rfl, by decide +kernel, rfl, by decide +kernel, by decide +kernel⟩
/-- what a plain value is: an int for a number, a truth for a truth -/
def PlOk (K : PySem.W.Frag) (H : Hp) (v : V) (k : Kd) : Prop := (k = .num → ∃ i : Int, v = .int i ∧ 0 ≤ i ∧ i < 1000000000000) ∧ (k = .tru → ∃ b : Bool, v = .bl b)
def spPlain (K : PySem.W.Frag) : Sp := fun vs H Q _ => ∃ (p : Addr) (kv : V) (k : Kd), vs = [.ref p, kv] ∧ Pt H p ∧ Tn K H kv k.d ∧ ∀ v H', PlOk K H' v k → Go p H H' → Q v H'
theorem c_plain (T : Tp mg) (c_LTake : Cal P w K mg base 1 "_law_take" spTake []) {f : Addr} {fd : FuncData} (D : Def K mg "_law_plain" sLPlain f fd) (b : Binds K fd ["_law_pot_here", "_law_kind_here"] []) : Cal P w K mg base 2 "_law_plain" (spPlain K) [] := by
  refine cal0 D b .nil scLPlain (fun vs H Q E h => ?_) (fun cdv A outer s H vs Q E hr h => ?_)
  · obtain ⟨p, kv, k, rfl, _⟩ := h
    rfl
  · obtain ⟨p, kv, k, rfl, hp, hk, q⟩ := h
    refine ⟨_, (pss_cons (ps_if (pt_cmpR op_eq (pe_ix (r := rIxT K) ix_tup (pv 1) pe_int (fun _ _ => rfl)) pe_str (nomark _))
      (pss_one (ps_ret (pe_tup pa_nil)))
      pss_nil)
    (pss_one (ps_ret (pe_ix ix_list (pe_lst (pa_cons (pe_c c_LTake hr (by decide) (by rfl) (pa_cons (pv 0) (pa_cons (pe_op op_pow pe_int pe_int) pa_nil))) (pa_cons (pe_cmpR op_eq (pe_c c_LTake hr (by decide) (by rfl) (pa_cons (pv 0) (pa_cons pe_int pa_nil))) pe_int (nomark _)) pa_nil))) (pe_callTy call_int1 (by rfl) T.n_int (by decide +kernel) (pa_cons (pe_cmpR op_eq (pe_ix (r := rIxT K) ix_tup (pv 1) pe_int (fun _ _ => rfl)) pe_str (nomark _)) pa_nil)) (fun _ _ => rfl))))), ?_⟩
    obtain ⟨a, xs, rfl, hq, hx0, hxl, hxr⟩ := tk_at hk
    refine ⟨_, rfl, a, xs, 0, _, rfl, rfl, hq, atI_nat (j := 0) hx0, rfl, _, rfl, ite2 (fun e => ?_) (fun e => ?_)⟩
    · obtain ⟨k', rfl⟩ := word_list (V.str.inj (of_decide_eq_true e))
      exact ⟨(by show 0 ≤ sizeLine; decide), fun t ht => q _ _ ⟨(fun z => nomatch z), fun z => nomatch z⟩ ((Go.refl hp).new ht)⟩
    · refine ⟨_, rfl, _, _, rfl, rfl, (by show (0 : Int) ≤ 12 ∧ _; decide), p, _, rfl, hp, by decide, by decide +kernel, fun r H1 r0 r1 g1 => ?_⟩
      refine ⟨_, rfl, p, 2, rfl, g1.2, by decide, by decide, fun r2 H2 r20 r21 g2 => ⟨rfl, (by show 2 ≤ sizeLine; decide), fun l hl => ?_⟩⟩
      have g3 := (g1.trans g2).new (o := .lst [.int r, .bl (decide (V.int r2 = V.int 0))]) hl
      have hk3 := hk.tr (Go.tr hp g3)
      obtain ⟨a', xs', ea, hq', hx', _⟩ := tk_at hk3
      cases ea
      refine ⟨_, rfl, a, xs', 0, _, rfl, rfl, hq', atI_nat (j := 0) hx', rfl, .inr ⟨_, rfl, l, _, _, _, rfl, rfl, SqL.of upd_same, pickx _ _ _, q _ _ ⟨fun ek => ?_, fun ek => ?_⟩ g3⟩⟩
      · subst ek
        have e12 : (10 : Int) ^ (12 : Int).toNat = 1000000000000 := by decide
        exact ⟨r, rfl, r0, by rw [← e12]; exact r1⟩
      · subst ek
        exact ⟨decide (V.int r2 = V.int 0), rfl⟩
end
end K31
set_option Elab.async false
set_option linter.all false
set_option maxRecDepth 100000
set_option maxHeartbeats 2000000
namespace K31
open PySem PySem.Spec PyProof.Rows L2 MixW
open C8 (Cal Def cal0 pe_c fnBody fnScope fnArgs)
section
variable {P : Program} {w : World} {K : PySem.W.Frag} {mg : Str → Option Value} {base : Heap}
theorem Go.put2 {p b : Addr} {H H2 : Hp} {o : HO} (hb : H b = none) (nb : b ≠ p) (g : Go p H H2) : Go p H (upd H2 b o) := by
  refine ⟨fun c u nc hc => ?_, ?_⟩
  · rw [upd_ne (ne_some hc hb)]
    exact g.1 c u nc hc
  · obtain ⟨x, y, a, r⟩ := g.2
    exact ⟨x, y, by rw [upd_ne nb.symm]; exact a, r⟩
theorem Pt.neF {H : Hp} {p t : Addr} {o : Obj} {u : HO} (hp : Pt H p) (h : H t = some (.frz o u)) : t ≠ p := fun e => by
  obtain ⟨x, y, a, _⟩ := hp
  rw [e, a] at h
  cases h
theorem Pt.neK {H : Hp} {p t : Addr} {kv : List (Key × V)} (hp : Pt H p) (h : H t = some (.dK kv)) : t ≠ p := fun e => by
  obtain ⟨x, y, a, _⟩ := hp
  rw [e, a] at h
  cases h
/-- what is in the tuple's pairs -/
abbrev PrP (K : PySem.W.Frag) (H : Hp) : List Addr → List (Str × Kd) → Prop := Paired (fun p (a : Str × Kd) => ∃ v, SqT K H p [.str a.1, v] ∧ Tn K H v a.2.d)
theorem PrP.tr {H H' : Hp} {ps : List Addr} {fs : List (Str × Kd)} (h : PrP K H ps fs) (e : TR H H') : PrP K H' ps fs := Paired.mapP h fun _ _ ⟨v, a, b⟩ => ⟨v, e.sq a, b.tr e⟩
theorem PlT.go {p t : Addr} {H H' : Hp} {xs : List V} (hp : Pt H p) (g : Go p H H') (h : PlT H t xs) : PlT H' t xs := by
  obtain ⟨o, h1, h2⟩ := h
  exact ⟨o, g.at (hp.neF h1) h1, h2⟩
theorem Fd.go {p t : Addr} {H H' : Hp} {fs : List (Str × Kd)} (hp : Pt H p) (g : Go p H H') (h : Fd K H t fs) : Fd K H' t fs := by
  obtain ⟨ps, h1, h2, h3⟩ := h
  exact ⟨ps, PlT.go hp g h1, PrP.tr h2 (Go.tr hp g), h3⟩
theorem paired_snoc {α β : Type} {F : α → β → Prop} {x : α} {y : β} : ∀ {xs : List α} {ys : List β}, Paired F xs ys → F x y → Paired F (xs ++ [x]) (ys ++ [y])
  | _, _, .nil, h => .cons h .nil
  | _, _, .cons a t, h => .cons a (paired_snoc t h)
/-- fields, drawn -/
structure FsOk (n : Nat) (ns : List Str) (fs : List (Str × Kd)) : Prop where
  sub : (fs.map (·.1)).Sublist ns
  kl : ∀ a ∈ fs, KM n a.2
abbrev sLPairs : Stmt := topS 23
abbrev NLPairs : List Str := ["_law_pot_here", "_law_names", "_law_records", "_law_name"]
theorem scLPairs : FnScope NLPairs ["_law_pot_here", "_law_names", "_law_records"] (fnScope sLPairs) := ⟨rfl, rfl, rfl, by decide +kernel, rfl, by decide +kernel, by decide +kernel⟩
def spPairs (K : PySem.W.Frag) : Sp := fun vs H Q _ => ∃ (p N L : Addr) (ns zs : List Str), vs = [.ref p, .ref N, .ref L] ∧ Pt H p ∧ H N = some (.lst (ns.map V.str)) ∧ N ≠ p ∧ ns.Nodup ∧ ns.length ≤ 100 ∧ H L = some (.lst (zs.map V.str)) ∧ L ≠ p ∧ LayS zs ∧ zs.length ≤ 1000 ∧
  ∀ t fs H', FsOk 3 ns fs → Fd K H' t fs → Go p H H' → H t = none → Q (.ref t) H'
theorem c_pairs (T : Tp mg) (c_LTake : Cal P w K mg base 1 "_law_take" spTake []) (c_LKind : Cal P w K mg base 5 "_law_kind" (spKind K 3) []) {f : Addr} {fd : FuncData} (D : Def K mg "_law_pairs" sLPairs f fd) (b : Binds K fd ["_law_pot_here", "_law_names", "_law_records"] []) : Cal P w K mg base 6 "_law_pairs" (spPairs K) [] := by
  refine cal0 D b .nil scLPairs (fun vs H Q E h => ?_) (fun cdv A outer s H vs Q E hr h => ?_)
  · obtain ⟨p, N, L, ns, zs, rfl, _⟩ := h
    rfl
  · obtain ⟨p, N, L, ns, zs, rfl, hp, hN, nNp, hnd, hnl, hL, nLp, hz, hzl, q⟩ := h
    have nd := scLPairs.nd
    refine ⟨_, (pss_one (ps_ret (pe_callTy call_tupleP (by rfl) T.n_tuple (by decide +kernel) (pa_cons (pe_lc (own := [("_law_name", 3)]) (g := gName 3) (by rfl) nd (pi_list (pv 1)) (blkOk_by (own := [("_law_name", 3)]) (N := NLPairs) (sc := fnScope sLPairs) (by decide +kernel)) (fun _ _ _ _ _ => pg_name (i := 3) nd rfl (Or.inl rfl)) (fun _ _ _ _ _ => (pts_one (pt_cmpR (r := rEq) op_eq (pe_c c_LTake hr (by decide) (by rfl) (pa_cons (pv 0) (pa_cons pe_int pa_nil))) pe_int (nomark _)))) (fun _ _ _ _ _ => (pe_tup (pa_cons (pv 3) (pa_cons (pe_c c_LKind hr (by decide) (by rfl) (pa_cons (pv 0) (pa_cons (pv 2) (pa_cons pe_int pa_nil)))) pa_nil))))) pa_nil)))), ?_⟩
    refine ⟨_, rfl, N, rfl, ⟨_, SqL.of hN⟩, fun Dl hD => ?_⟩
    have nD := hp.ne hD
    refine lc_list (K := K) (a := N) (xs := ns.map V.str) (fun i H' => ∃ ps fs, H' Dl = some (.lst (ps.map V.ref)) ∧ ps.length ≤ i ∧ PrP K H' ps fs ∧ FsOk 3 (ns.take i) fs ∧ Go p H H') ⟨[], [], upd_same, Nat.le_refl _, .nil, ⟨by simp, fun a h => nomatch h⟩, (Go.refl hp).new hD⟩ (fun i H' _ hW => let ⟨_, _, _, _, _, _, g⟩ := hW; SqL.of (g.at nNp hN)) (fun i x H1 hi hW => ?_) (fun H1 hW => ?_)
    · obtain ⟨ps, fs, h1, h2, h3, h4, g1⟩ := hW
      refine ⟨wipe1, ?_⟩
      have hi2 : i < ns.length := by
        have := (List.getElem?_eq_some_iff.mp hi).1
        rwa [List.length_map] at this
      have ex : x = .str ns[i] := by
        rw [List.getElem?_map, List.getElem?_eq_getElem hi2] at hi
        cases hi
        rfl
      subst ex
      have etk : ns.take (i + 1) = ns.take i ++ [ns[i]] := take_succ_at (List.getElem?_eq_getElem hi2)
      refine ⟨_, rfl, p, 2, rfl, g1.2, by decide, by decide, fun r H2 r0 r1 g2 => ⟨rfl, _, rfl, ?_⟩⟩
      have t2 := Go.tr g1.2 g2
      have h12 := g2.at nD h1
      refine ite2 (fun e => ?_) (fun e => ?_)
      · refine ⟨_, rfl, _, rfl, _, rfl, p, L, zs, 2, rfl, by decide, g2.2, (g1.trans g2).at nLp hL, nLp, hz, hzl, fun v k H3 hk hv g3 => ⟨(by show 2 ≤ sizeLine; decide), fun t ht => ?_⟩⟩
        have g4 := (g1.trans g2).trans g3
        have h13 := g3.at nD h12
        have h14 : (upd H3 t (.tup [.str ns[i], v])) Dl = some (.lst (ps.map V.ref)) := Same.new ht _ _ h13
        refine ⟨_, h14, by rw [List.length_map, sizeLine_eq]; omega, ps ++ [t], fs ++ [(ns[i], k)], ?_, by rw [List.length_append, List.length_singleton]; omega, ?_, ⟨?_, fun a ha => ?_⟩, ?_⟩
        · rw [List.map_append]
          exact upd_same
        · have tp : TR (upd H3 t (.tup [.str ns[i], v])) (upd (upd H3 t (.tup [.str ns[i], v])) Dl (.lst (ps.map V.ref ++ [.ref t]))) := TR.put h14
          have t3 := ((t2.trans (Go.tr g2.2 g3)).trans (TR.new ht)).trans tp
          exact paired_snoc (PrP.tr h3 t3) ⟨v, tp.sq (SqT.of upd_same), (hv.tr (TR.new ht)).tr tp⟩
        · rw [etk, List.map_append]
          exact List.Sublist.append h4.sub (List.Sublist.refl _)
        · rcases List.mem_append.mp ha with ha | ha
          · exact h4.kl a ha
          · rw [List.mem_singleton.mp ha]
            exact hk
        · exact Go.put2 hD nD (g4.new ht)
      · exact ⟨ps, fs, h12, by omega, PrP.tr h3 t2, ⟨by rw [etk]; exact List.Sublist.trans h4.sub (List.sublist_append_left _ _), h4.kl⟩, g1.trans g2⟩
    · obtain ⟨ps, fs, h1, h2, h3, h4, g1⟩ := hW
      rw [List.length_map, List.take_of_length_le (Nat.le_refl _)] at h4
      refine ⟨Dl, _, rfl, SqL.of h1, fun t o ht hc ho => ?_⟩
      have s1 : Same H1 (upd H1 t (.frz o (.tup (ps.map V.ref)))) := Same.new ht
      refine q t fs _ h4 ⟨ps, ⟨o, upd_same, hc, ho⟩, PrP.tr h3 (TR.same s1), List.Sublist.nodup h4.sub hnd⟩ (g1.new ht) ?_
      cases c : H t with
      | none => rfl
      | some o2 => rw [g1.1 t o2 (g1.ne ht) c] at ht; cases ht
end
end K31
set_option Elab.async false
set_option linter.all false
set_option maxRecDepth 100000
set_option maxHeartbeats 3000000
namespace K31
open PySem PySem.Spec PyProof.Rows L2 MixW
open C8 (Cal Def cal0 pe_c fnBody fnScope fnArgs)
section
variable {P : Program} {w : World} {K : PySem.W.Frag} {mg : Str → Option Value} {base : Heap}
theorem put_new {acc : List (Key × V)} {k : Key} {v : V} (h : k ∉ acc.map (·.1)) : putK acc k v = acc ++ [(k, v)] := by
  unfold putK
  rw [if_neg]
  intro q
  obtain ⟨p, hp, e⟩ := List.any_eq_true.mp q
  have e' : p.1 = k := of_decide_eq_true e
  exact h (by rw [← e']; exact List.mem_map_of_mem hp)
/-- kinds of records, boxes, faces, as they were drawn -/
abbrev R0 (K : PySem.W.Frag) (H : Hp) : List (Key × V) → List (Str × List (Str × Kd)) → Prop := Paired (fun (q : Key × V) (a : Str × List (Str × Kd)) => q.1 = Sum.inr a.1 ∧ ∃ t, q.2 = .ref t ∧ Fd K H t a.2)
abbrev R1 (K : PySem.W.Frag) (H : Hp) : List (Key × V) → List (Str × Kd) → Prop := Paired (fun (q : Key × V) (a : Str × Kd) => q.1 = Sum.inr a.1 ∧ ∃ t kv x, q.2 = .ref t ∧ SqT K H t [kv, x] ∧ Tn K H kv a.2.d)
abbrev R2 (K : PySem.W.Frag) (H : Hp) : List (Key × V) → List Str → Prop := Paired (fun (q : Key × V) (z : Str) => q.1 = Sum.inr z ∧ ∃ t ys, q.2 = .ref t ∧ SqT K H t ys ∧ ys.length ≤ 10)
theorem R0.go {p : Addr} {H H' : Hp} {kv : List (Key × V)} {l : List (Str × List (Str × Kd))} (hp : Pt H p) (g : Go p H H') (h : R0 K H kv l) : R0 K H' kv l := Paired.mapP h fun _ _ ⟨a, t, b, c⟩ => ⟨a, t, b, c.go hp g⟩
theorem R1.tr {H H' : Hp} {kv : List (Key × V)} {l : List (Str × Kd)} (e : TR H H') (h : R1 K H kv l) : R1 K H' kv l := Paired.mapP h fun _ _ ⟨a, t, kv, x, b, c, d⟩ => ⟨a, t, kv, x, b, e.sq c, d.tr e⟩
theorem R2.tr {H H' : Hp} {kv : List (Key × V)} {l : List Str} (e : TR H H') (h : R2 K H kv l) : R2 K H' kv l := Paired.mapP h fun _ _ ⟨a, t, ys, b, c, d⟩ => ⟨a, t, ys, b, e.sq c, d⟩
theorem R0.keys {H : Hp} {kv : List (Key × V)} {l : List (Str × List (Str × Kd))} (h : R0 K H kv l) : kv.map (·.1) = (l.map (·.1)).map Sum.inr := by
  induction h with
  | nil => rfl
  | cons r t ih => simp [r.1, ih]
theorem R1.keys {H : Hp} {kv : List (Key × V)} {l : List (Str × Kd)} (h : R1 K H kv l) : kv.map (·.1) = (l.map (·.1)).map Sum.inr := by
  induction h with
  | nil => rfl
  | cons r t ih => simp [r.1, ih]
theorem R2.keys {H : Hp} {kv : List (Key × V)} {l : List Str} (h : R2 K H kv l) : kv.map (·.1) = l.map Sum.inr := by
  induction h with
  | nil => rfl
  | cons r t ih => simp [r.1, ih]
theorem inr_notin {z : Str} {l : List Str} (h : z ∉ l) : (Sum.inr z : Key) ∉ l.map Sum.inr := fun m => by
  obtain ⟨y, hy, e⟩ := List.mem_map.mp m
  cases e
  exact h hy
theorem nodup_take_notin {l : List Str} {i : Nat} {x : Str} (h : l.Nodup) (e : l[i]? = some x) : x ∉ l.take i := fun m => by
  obtain ⟨hi, ei⟩ := List.getElem?_eq_some_iff.mp e
  obtain ⟨j, hj, ej⟩ := List.mem_iff_getElem.mp m
  rw [List.length_take] at hj
  rw [List.getElem_take] at ej
  exact absurd (ej.trans ei.symm) (List.pairwise_iff_getElem.mp h j i (by omega) hi (by omega))
theorem pairedAt {α β : Type} {F : α → β → Prop} : ∀ {xs : List α} {ys : List β}, Paired F xs ys → ∀ {i : Nat} {x : α}, xs[i]? = some x → ∃ y, ys[i]? = some y ∧ F x y
  | _, _, .nil, i, x, e => by simp at e
  | _, _, .cons a t, 0, x, e => by
    cases e
    exact ⟨_, rfl, a⟩
  | _, _, .cons a t, i + 1, x, e => pairedAt t (i := i) (by simpa using e)
theorem flat01 {k : Int} {zs : List Str} (h : k = 0 ∨ k = 1) (hz : LayS zs) (hl : zs.length ≤ 3) : ∃ zs' : List Str, (List.replicate k.toNat (zs.map V.str)).flatten = zs'.map V.str ∧ LayS zs' ∧ zs'.length ≤ 3 := by
  rcases h with rfl | rfl
  · exact ⟨[], rfl, (fun z h => nomatch h), by simp⟩
  · exact ⟨zs, by simp, hz, hl⟩
structure ShOk (K : PySem.W.Frag) (H : Hp) (a : Addr) (l0 : List (Str × List (Str × Kd))) (l1 : List (Str × Kd)) (n2 : List Str) : Prop where
  at_ : ∃ d0 d1 d2 kv0 kv1 kv2, SqT K H a [.ref d0, .ref d1, .ref d2] ∧ H d0 = some (.dK kv0) ∧ H d1 = some (.dK kv1) ∧ H d2 = some (.dK kv2) ∧ R0 K H kv0 l0 ∧ R1 K H kv1 l1 ∧ R2 K H kv2 n2 ∧ n2.Nodup ∧ n2.length ≤ 3
abbrev fieldN : List Str := ["a", "b", "it", "x"]
abbrev boxN : List Str := ["box", "c", "d"]
/-- the pure side -/
structure ShP (l0 : List (Str × List (Str × Kd))) (l1 : List (Str × Kd)) : Prop where
  nd0 : (l0.map (·.1)).Nodup
  nd1 : (l1.map (·.1)).Nodup
  len0 : l0.length ≤ 3
  len1 : l1.length ≤ 3
  lay : LayS (l0.map (·.1))
  kl0 : ∀ a ∈ l0, FsOk 4 fieldN a.2
  kl1 : ∀ a ∈ l1, KM 4 a.2
  sub1 : (l1.map (·.1)).Sublist boxN
abbrev sLShapes : Stmt := topS 24
abbrev NLShapes : List Str := ["_law_pot_here", "_law_records", "_law_kinds", "_law_boxes", "_law_faces", "_law_name", "_law_kind_here", "_law_gives"]
theorem scLShapes : FnScope NLShapes ["_law_pot_here"] (fnScope sLShapes) := ⟨rfl, rfl, rfl, by decide +kernel, rfl, by decide +kernel, by decide +kernel⟩
def spShapes (K : PySem.W.Frag) : Sp := fun vs H Q _ => ∃ (p : Addr), vs = [.ref p] ∧ Pt H p ∧ ∀ a l0 l1 n2 H', ShOk K H' a l0 l1 n2 → ShP l0 l1 → Go p H H' → Q (.ref a) H'
theorem c_shapes (T : Tp mg) (c_LTake : Cal P w K mg base 1 "_law_take" spTake []) (c_LKind : Cal P w K mg base 5 "_law_kind" (spKind K 3) []) (c_LPlain : Cal P w K mg base 2 "_law_plain" (spPlain K) []) (c_LPairs : Cal P w K mg base 6 "_law_pairs" (spPairs K) []) {f : Addr} {fd : FuncData} (D : Def K mg "_law_shapes" sLShapes f fd) (b : Binds K fd ["_law_pot_here"] []) : Cal P w K mg base 7 "_law_shapes" (spShapes K) [] := by
  refine cal0 D b .nil scLShapes (fun vs H Q E h => ?_) (fun cdv A outer s H vs Q E hr h => ?_)
  · obtain ⟨p, rfl, _⟩ := h
    rfl
  · obtain ⟨p, rfl, hp, q⟩ := h
    have nd := scLShapes.nd
    have hu1 := hu_of hr
    refine ⟨_, (C8.pss_cut (ps_set (i := 1) nd rfl (.inr rfl) (pe_slice sl_list (pe_ix ix_list (pe_lst (pa_cons (pe_lst (pa_cons pe_str (pa_cons pe_str (pa_cons pe_str pa_nil)))) (pa_cons (pe_lst (pa_cons pe_str (pa_cons pe_str (pa_cons pe_str pa_nil)))) (pa_cons (pe_lst (pa_cons pe_str (pa_cons pe_str pa_nil))) pa_nil)))) (pe_c c_LTake hr (by decide) (by rfl) (pa_cons (pv 0) (pa_cons pe_int pa_nil))) (fun _ _ => rfl)) po_none (po_some (pe_c c_LTake hr (by decide) (by rfl) (pa_cons (pv 0) (pa_cons pe_int pa_nil))))))
    (C8.pss_cut (ps_set (i := 2) nd rfl (.inl rfl) (pe_callTy (call_dictP rfl) (by rfl) T.n_dict (by decide +kernel) (pa_cons (pe_lc (own := [("_law_name", 5)]) (g := gName 5) (by rfl) nd (pi_list (pv 1)) (blkOk_by (own := [("_law_name", 5)]) (N := NLShapes) (sc := fnScope sLShapes) (by decide +kernel)) (fun _ _ _ _ _ => pg_name (i := 5) nd rfl (Or.inl rfl)) (fun _ _ _ _ _ => pts_nil) (fun _ _ _ _ _ => (pe_tup (pa_cons (pv 5) (pa_cons (pe_c c_LPairs hr (by decide) (by rfl) (pa_cons (pv 0) (pa_cons (pe_lst (pa_cons pe_str (pa_cons pe_str (pa_cons pe_str (pa_cons pe_str pa_nil))))) (pa_cons (pv 1) pa_nil)))) pa_nil))))) pa_nil)))
    (C8.pss_cut (ps_set (i := 3) nd rfl (.inl rfl) pe_dnewK)
    (C8.pss_cut (ps_for PassesOwn.never rfl (pi_tup (pe_c c_LPairs hr (by decide) (by rfl) (pa_cons (pv 0) (pa_cons (pe_lst (pa_cons pe_str (pa_cons pe_str (pa_cons pe_str pa_nil)))) (pa_cons (pv 1) pa_nil))))) (pg_tup rfl (pgs_cons (pg_name (i := 5) nd rfl (.inl rfl)) (pgs_cons (pg_name (i := 6) nd rfl (.inl rfl)) pgs_nil)))
      (C8.pss_cut (ps_if (pt_cmpR op_eq (pe_ix (r := rIxT K) ix_tup (pv 6) pe_int (fun _ _ => rfl)) pe_str (nomark _))
      (pss_one (ps_set (i := 6) nd rfl (.inl rfl) (pe_tup (pa_cons pe_str (pa_cons (pv 6) pa_nil)))))
      pss_nil)
    (pss_one (ps_dput hu1 (pv 3) (pv 5) (pe_tup (pa_cons (pv 6) (pa_cons (pe_c c_LPlain hr (by decide) (by rfl) (pa_cons (pv 0) (pa_cons (pv 6) pa_nil))) pa_nil))) rfl))))
    (C8.pss_cut (ps_set (i := 4) nd rfl (.inl rfl) pe_dnewK)
    (C8.pss_cut (ps_for PassesOwn.never rfl (pi_list (pe_slice sl_list (pe_lst (pa_cons pe_str (pa_cons pe_str (pa_cons pe_str pa_nil)))) po_none (po_some (pe_op op_add pe_int (pe_c c_LTake hr (by decide) (by rfl) (pa_cons (pv 0) (pa_cons pe_int pa_nil))))))) (pg_name (i := 5) nd rfl (.inl rfl))
      (pss_cons (ps_set (i := 7) nd rfl (.inl rfl) (pe_c c_LKind hr (by decide) (by rfl) (pa_cons (pv 0) (pa_cons (pe_op op_rep (pv 1) (pe_callTy call_int1 (by rfl) T.n_int (by decide +kernel) (pa_cons (pe_cmpR op_eq (pe_c c_LTake hr (by decide) (by rfl) (pa_cons (pv 0) (pa_cons pe_int pa_nil))) pe_int (nomark _)) pa_nil))) (pa_cons pe_int pa_nil)))))
    (pss_one (ps_dput hu1 (pv 4) (pv 5) (pe_tup (pa_cons (pe_c c_LPairs hr (by decide) (by rfl) (pa_cons (pv 0) (pa_cons (pe_lst (pa_cons pe_str (pa_cons pe_str (pa_cons pe_str pa_nil)))) (pa_cons (pv 1) pa_nil)))) (pa_cons (pv 7) pa_nil))) rfl))))
    (pss_one (ps_ret (pe_tup (pa_cons (pv 2) (pa_cons (pv 3) (pa_cons (pv 4) pa_nil)))))))))))), ?_⟩
    refine ⟨fun σ' H' => (∃ L zs, σ' = [some (.ref p), some (.ref L), none, none, none, none, none, none] ∧ H' L = some (.lst (zs.map V.str)) ∧ L ≠ p ∧ LayS zs ∧ zs.Nodup ∧ zs.length ≤ 3) ∧ Go p H H', ?_, ?_⟩
    · refine ⟨(by show 3 ≤ sizeLine; decide), fun b1 h1 => ⟨(by show 3 ≤ sizeLine; decide), fun b2 h2 => ⟨(by show 2 ≤ sizeLine; decide), fun b3 h3 => ⟨(by show 3 ≤ sizeLine; decide), fun b4 h4 => ?_⟩⟩⟩⟩
      have g0 : Go p H (upd (upd (upd (upd H b1 (.lst [.str "k", .str "list", .str "zzzzzzzz"])) b2 (.lst [.str "k", .str "l", .str "x"])) b3 (.lst [.str "add", .str "r"])) b4 (.lst [.ref b1, .ref b2, .ref b3])) := ((((Go.refl hp).new h1).new h2).new h3).new h4
      have e1 := Same.new (o := .lst [.ref b1, .ref b2, .ref b3]) h4 _ _ (Same.new (o := .lst [.str "add", .str "r"]) h3 _ _ (Same.new (o := .lst [.str "k", .str "l", .str "x"]) h2 _ _ (upd_same (H := H) (a := b1) (o := .lst [.str "k", .str "list", .str "zzzzzzzz"]))))
      have e2 := Same.new (o := .lst [.ref b1, .ref b2, .ref b3]) h4 _ _ (Same.new (o := .lst [.str "add", .str "r"]) h3 _ _ (upd_same (H := upd H b1 (.lst [.str "k", .str "list", .str "zzzzzzzz"])) (a := b2) (o := .lst [.str "k", .str "l", .str "x"])))
      have e3 := Same.new (o := .lst [.ref b1, .ref b2, .ref b3]) h4 _ _ (upd_same (H := upd (upd H b1 (.lst [.str "k", .str "list", .str "zzzzzzzz"])) b2 (.lst [.str "k", .str "l", .str "x"])) (a := b3) (o := .lst [.str "add", .str "r"]))
      have e4 : (upd (upd (upd (upd H b1 (.lst [.str "k", .str "list", .str "zzzzzzzz"])) b2 (.lst [.str "k", .str "l", .str "x"])) b3 (.lst [.str "add", .str "r"])) b4 (.lst [.ref b1, .ref b2, .ref b3])) b4 = some (.lst [.ref b1, .ref b2, .ref b3]) := upd_same
      have m1 := hp.ne h1
      have m2 := ((Go.refl hp).new (o := .lst [.str "k", .str "list", .str "zzzzzzzz"]) h1).ne h2
      have m3 := (((Go.refl hp).new (o := .lst [.str "k", .str "list", .str "zzzzzzzz"]) h1).new (o := .lst [.str "k", .str "l", .str "x"]) h2).ne h3
      have m4 := ((((Go.refl hp).new (o := .lst [.str "k", .str "list", .str "zzzzzzzz"]) h1).new (o := .lst [.str "k", .str "l", .str "x"]) h2).new (o := .lst [.str "add", .str "r"]) h3).ne h4
      generalize upd (upd (upd (upd H b1 (.lst [.str "k", .str "list", .str "zzzzzzzz"])) b2 (.lst [.str "k", .str "l", .str "x"])) b3 (.lst [.str "add", .str "r"])) b4 (.lst [.ref b1, .ref b2, .ref b3]) = H1 at *
      refine ⟨_, rfl, p, 3, rfl, g0.2, by decide, by decide, fun r Hx r0 r1 gx => ?_⟩
      obtain ⟨Lx, zs, hat, hLx, mx, f1, f2, f3⟩ : ∃ Lx zs, atI [V.ref b1, .ref b2, .ref b3] r = some (.ref Lx) ∧ Hx Lx = some (.lst (zs.map V.str)) ∧ Lx ≠ p ∧ LayS zs ∧ zs.Nodup ∧ zs.length ≤ 3 := by
        have hc : r = 0 ∨ r = 1 ∨ r = 2 := by omega
        rcases hc with rfl | rfl | rfl
        · exact ⟨b1, ["k", "list", "zzzzzzzz"], rfl, gx.at m1 e1, m1, (by intro z hz; revert z; decide +kernel), by decide +kernel, by decide⟩
        · exact ⟨b2, ["k", "l", "x"], rfl, gx.at m2 e2, m2, (by intro z hz; revert z; decide +kernel), by decide +kernel, by decide⟩
        · exact ⟨b3, ["add", "r"], rfl, gx.at m3 e3, m3, (by intro z hz; revert z; decide +kernel), by decide +kernel, by decide⟩
      refine ⟨b4, _, r, .ref Lx, rfl, rfl, SqL.of (gx.at m4 e4), hat, _, rfl, p, 4, rfl, gx.2, by decide, by decide, fun r2 Hy r20 r21 gy => ⟨r2, rfl, Lx, _, rfl, SqL.of (gy.at mx hLx), fun l hl => ?_⟩⟩
      have g3 := (g0.trans gx).trans gy
      obtain ⟨j, rfl⟩ : ∃ j : Nat, r2 = (j : Int) := ⟨r2.toNat, by omega⟩
      rw [cut_to, ← List.map_take]
      exact ⟨⟨l, zs.take j, rfl, upd_same, g3.ne hl, fun z hz => f1 z (List.mem_of_mem_take hz), List.Sublist.nodup (List.take_sublist _ _) f2, Nat.le_trans (by rw [List.length_take]; exact Nat.min_le_right _ _) f3⟩, g3.new hl⟩
    · rintro σ H1 ⟨⟨L, zs, rfl, hL, nLp, hz, hzn, hzl⟩, g1⟩
      refine ⟨fun σ' H' => (∃ d0 kv0 l0, σ' = [some (.ref p), some (.ref L), some (.ref d0), none, none, none, none, none] ∧ H' d0 = some (.dK kv0) ∧ R0 K H' kv0 l0 ∧ l0.map (·.1) = zs ∧ (∀ a ∈ l0, FsOk 4 fieldN a.2)) ∧ H' L = some (.lst (zs.map V.str)) ∧ Go p H H', ?_, ?_⟩
      · refine ⟨_, rfl, L, rfl, ⟨_, SqL.of hL⟩, fun Dl hD => ?_⟩
        have nD := g1.ne hD
        refine lc_list (K := K) (a := L) (xs := zs.map V.str) (fun i H' => ∃ ps kvs l0, H' Dl = some (.lst (ps.map V.ref)) ∧ ps.length ≤ i ∧ Paired (fun p kv => SqT K H' p [kV kv.1, kv.2]) ps kvs ∧ R0 K H' kvs l0 ∧ l0.map (·.1) = zs.take i ∧ (∀ a ∈ l0, FsOk 4 fieldN a.2) ∧ Go p H1 H') ⟨[], [], [], upd_same, Nat.le_refl _, .nil, .nil, by simp, (fun a h => nomatch h), (Go.refl g1.2).new hD⟩ (fun i H' _ hW => let ⟨_, _, _, _, _, _, _, _, _, g⟩ := hW; SqL.of (g.at nLp hL)) (fun i x H2 hi hW => ?_) (fun H2 hW => ?_)
        · obtain ⟨ps, kvs, l0, h1, h2, h3, h4, h5, h6, g2⟩ := hW
          refine ⟨wipe1, ?_⟩
          unfold tYes; dsimp only
          rw [if_pos rfl]
          have hi2 : i < zs.length := by
            have := (List.getElem?_eq_some_iff.mp hi).1
            rwa [List.length_map] at this
          have ex : x = .str zs[i] := by
            rw [List.getElem?_map, List.getElem?_eq_getElem hi2] at hi
            cases hi
            rfl
          subst ex
          refine ⟨_, rfl, _, rfl, (by show 4 ≤ sizeLine; decide), fun N hN => ⟨_, rfl, p, N, L, ["a", "b", "it", "x"], zs, rfl, (g2.new hN).2, upd_same, (g2).ne hN, by decide +kernel, by decide, (g2.new hN).at nLp hL, nLp, hz, by omega, fun t fs H3 f1 f2 g3 htn => ⟨(by show 2 ≤ sizeLine; decide), fun t4 ht4 => ?_⟩⟩⟩
          have gN := g2.new (o := .lst ([("a" : Str), "b", "it", "x"].map V.str)) hN
          have h12 := g3.at nD (Same.new hN _ _ h1)
          have h14 : (upd H3 t4 (.tup [.str zs[i], .ref t])) Dl = some (.lst (ps.map V.ref)) := Same.new ht4 _ _ h12
          have tp : TR (upd H3 t4 (.tup [.str zs[i], .ref t])) (upd (upd H3 t4 (.tup [.str zs[i], .ref t])) Dl (.lst (ps.map V.ref ++ [.ref t4]))) := TR.put h14
          have gA : Go p H2 (upd H3 t4 (.tup [.str zs[i], .ref t])) := (((Go.refl g2.2).new hN).trans g3).new ht4
          have tA := Go.tr g2.2 gA
          have gB : Go p H1 (upd (upd H3 t4 (.tup [.str zs[i], .ref t])) Dl (.lst (ps.map V.ref ++ [.ref t4]))) := Go.put2 hD nD (g2.trans gA)
          have keepF : ∀ (H9 : Hp) (t9 : Addr) (fs9 : List (Str × Kd)), Fd K H9 t9 fs9 → H9 Dl = some (.lst (ps.map V.ref)) → Fd K (upd H9 Dl (.lst (ps.map V.ref ++ [.ref t4]))) t9 fs9 := fun H9 t9 fs9 ⟨qs, ⟨o, a1, a2⟩, a3, a4⟩ hd => by
            refine ⟨qs, ⟨o, ?_, a2⟩, PrP.tr a3 (TR.put hd), a4⟩
            rw [upd_ne (fun z => by rw [z, hd] at a1; cases a1)]
            exact a1
          refine ⟨_, h14, by rw [List.length_map, sizeLine_eq]; omega, ps ++ [t4], kvs ++ [(Sum.inr zs[i], .ref t)], l0 ++ [(zs[i], fs)], ?_, by rw [List.length_append, List.length_singleton]; omega, ?_, ?_, ?_, ?_, gB⟩
          · rw [List.map_append]
            exact upd_same
          · exact paired_snoc (Paired.mapP h3 fun _ _ s => tp.sq (tA.sq s)) (tp.sq (SqT.of upd_same))
          · refine paired_snoc (Paired.mapP h4 fun _ _ ⟨a, t9, b9, c9⟩ => ⟨a, t9, b9, keepF _ _ _ (c9.go g2.2 gA) h14⟩) ⟨rfl, t, rfl, keepF _ _ _ (f2.same (Same.new ht4)) h14⟩
          · rw [List.map_append, h5, take_succ_at (List.getElem?_eq_getElem hi2)]
            rfl
          · intro a ha
            rcases List.mem_append.mp ha with ha | ha
            · exact h6 a ha
            · rw [List.mem_singleton.mp ha]
              exact ⟨f1.sub, fun bb hb => (f1.kl bb hb).mono (by decide)⟩
        · obtain ⟨ps, kvs, l0, h1, h2, h3, h4, h5, h6, g2⟩ := hW
          rw [List.length_map, List.take_of_length_le (Nat.le_refl _)] at h5
          refine ⟨Dl, ps, kvs, rfl, SqL.of h1, h3, fun d0 hd0 => ?_⟩
          have em : mergeK [] kvs = kvs := by
            have := merge_nodup (acc := []) (kvs := kvs) (by rw [List.nil_append, h4.keys, h5]; exact nodup_inr hzn)
            rw [this]
            rfl
          rw [em]
          exact ⟨⟨d0, kvs, l0, rfl, upd_same, h4.go g2.2 ((Go.refl g2.2).new hd0), h5, h6⟩, (g2.new hd0).at nLp hL, (g1.trans g2).new hd0⟩
      · rintro σ H2 ⟨⟨d0, kv0, l0, rfl, h0, r0, e0, k0⟩, hL2, g2⟩
        have n0 : d0 ≠ p := Pt.neK g2.2 h0
        refine ⟨fun σ' H' => (∃ d1, σ' = [some (.ref p), some (.ref L), some (.ref d0), some (.ref d1), none, none, none, none] ∧ H' d1 = some (.dK []) ∧ H2 d1 = none) ∧ Same H2 H', ?_, ?_⟩
        · intro d1 hd1
          exact ⟨⟨d1, rfl, upd_same, hd1⟩, Same.new hd1⟩
        · rintro σ H3 ⟨⟨d1, rfl, h1, hd1⟩, s3⟩
          have g3 := g2.same s3
          have n1 : d1 ≠ p := g2.ne hd1
          have G3 : Go p H2 H3 := (Go.refl g2.2).same s3
          refine ⟨fun σ' H' => (∃ o5 o6 kv1 l1, σ' = [some (.ref p), some (.ref L), some (.ref d0), some (.ref d1), none, o5, o6, none] ∧ H' d1 = some (.dK kv1) ∧ R1 K H' kv1 l1 ∧ (l1.map (·.1)).Sublist [("box" : Str), "c", "d"] ∧ (∀ a ∈ l1, KM 4 a.2)) ∧ Go p H2 H', ?_, ?_⟩
          · refine ⟨_, rfl, (by show 3 ≤ sizeLine; decide), fun N hN => ⟨_, rfl, p, N, L, ["box", "c", "d"], zs, rfl, (g3.new hN).2, upd_same, g3.ne hN, by decide +kernel, by decide, (G3.new hN).at nLp hL2, nLp, hz, by omega, fun t fs H4 f1 f2 gx htn => ?_⟩⟩
            have g4 : Go p H2 H4 := (G3.new hN).trans gx
            have h14 : H4 d1 = some (.dK []) := gx.at n1 (Same.new hN _ _ h1)
            obtain ⟨ps, hpt, hpr, hfn⟩ := f2
            have ntd : t ≠ d1 := fun e => by
              obtain ⟨o, ho, _⟩ := hpt
              rw [e, h14] at ho
              cases ho
            refine ⟨t, rfl, ⟨_, hpt.sq⟩, ?_⟩
            refine for_it (walk_tup (K := K) (a := t) (xs := ps.map V.ref)) (fun i σ H' => ∃ o5 o6 kv1 l1, σ = [some (.ref p), some (.ref L), some (.ref d0), some (.ref d1), none, o5, o6, none] ∧ H' d1 = some (.dK kv1) ∧ R1 K H' kv1 l1 ∧ l1.map (·.1) = (fs.map (·.1)).take i ∧ (∀ a ∈ l1, KM 4 a.2) ∧ Go p H2 H' ∧ PlT H' t (ps.map V.ref) ∧ PrP K H' ps fs) ⟨_, _, [], [], rfl, h14, .nil, by simp, (fun a h => nomatch h), g4, hpt, hpr⟩ (fun i σ H' _ hW => let ⟨_, _, _, _, _, _, _, _, _, _, hh, _⟩ := hW; hh.sq) (fun i x σ H5 H5' hi hW hY => ?_) (fun σ H5 hW => ?_)
            · obtain ⟨o5, o6, kv1, l1, rfl, w1, w2, w3, w4, w5, w6, w7⟩ := hW
              obtain ⟨rfl, hx⟩ := hY
              rw [List.length_map] at hi
              have ex : x = .ref ps[i] := by
                rw [List.getElem?_map, List.getElem?_eq_getElem hi] at hx
                cases hx
                rfl
              subst ex
              obtain ⟨⟨nm, k⟩, hfi, v, hsq, hv⟩ := pairedAt w7 (List.getElem?_eq_getElem hi)
              refine ⟨ps[i], _, rfl, hsq, rfl, _, _, rfl, _, _, rfl, rfl, ?_⟩
              refine ⟨fun σ' H' => (∃ kv k', σ' = [some (.ref p), some (.ref L), some (.ref d0), some (.ref d1), none, some (.str nm), some kv, none] ∧ Tn K H' kv k'.d ∧ KM 4 k') ∧ Same H5' H', ?_, ?_⟩
              · obtain ⟨av, xs, rfl, hq, hx0, _, _⟩ := tk_at hv
                refine ⟨_, rfl, av, xs, 0, _, rfl, rfl, hq, atI_nat (j := 0) hx0, rfl, _, rfl, ite2 (fun e => ?_) (fun e => ?_)⟩
                · obtain ⟨z, rfl⟩ := word_rec (V.str.inj (of_decide_eq_true e))
                  exact ⟨_, rfl, (by show 2 ≤ sizeLine; decide), fun t9 ht9 => ⟨⟨_, .lst (.rcd z), rfl, Tn.newT ht9 (.cons (Tn.str "list") (.cons hv .nil)), KM.lst (f1.kl _ (List.mem_of_getElem? hfi))⟩, Same.new ht9⟩⟩
                · exact ⟨⟨_, k, rfl, hv, (f1.kl _ (List.mem_of_getElem? hfi)).mono (by decide)⟩, Same.refl _⟩
              · rintro σ H6 ⟨⟨kv, k', rfl, hkv, hkl⟩, s6⟩
                refine ⟨_, rfl, _, rfl, _, rfl, p, kv, k', rfl, (w5.same s6).2, hkv, fun v9 H7 _ g7 => ⟨(by show 2 ≤ sizeLine; decide), fun t9 ht9 => ?_⟩⟩
                have w16 : H6 d1 = some (.dK kv1) := s6 _ _ w1
                have w17 := g7.at n1 w16
                have w18 : (upd H7 t9 (.tup [kv, v9])) d1 = some (.dK kv1) := Same.new ht9 _ _ w17
                have hl1 : l1.length ≤ 3 := by
                  have h1 := congrArg List.length w3
                  rw [List.length_map, List.length_take] at h1
                  have h2 := f1.sub.length_le
                  have h3 : ([("box" : Str), "c", "d"]).length = 3 := rfl
                  omega
                have hkl1 : kv1.length ≤ 3 := by
                  have h1 := Paired.length w2
                  omega
                refine ⟨_, rfl, _, rfl, d1, _, rfl, DPut.k (k := Sum.inr nm) w18 (by rw [sizeLine_eq]; omega), ?_⟩
                have hnmi : (fs.map (·.1))[i]? = some nm := by rw [List.getElem?_map, hfi]; rfl
                have hnew : nm ∉ l1.map (·.1) := by
                  rw [w3]
                  exact nodup_take_notin hfn hnmi
                rw [put_new (by rw [w2.keys]; exact inr_notin hnew)]
                have tp : TR (upd H7 t9 (.tup [kv, v9])) (upd (upd H7 t9 (.tup [kv, v9])) d1 (.dK (kv1 ++ [(Sum.inr nm, .ref t9)]))) := TR.dput w18
                have gA : Go p H5' (upd H7 t9 (.tup [kv, v9])) := (((Go.refl w5.2).same s6).trans g7).new ht9
                have tA := (Go.tr w5.2 gA).trans tp
                have tk := (((Go.tr (w5.same s6).2 g7).trans (TR.new (o := .tup [kv, v9]) ht9))).trans tp
                refine ⟨_, _, kv1 ++ [(Sum.inr nm, .ref t9)], l1 ++ [(nm, k')], rfl, upd_same, ?_, ?_, ?_, Go.put2 hd1 n1 (w5.trans gA), ?_, PrP.tr w7 tA⟩
                · exact paired_snoc (w2.tr tA) ⟨rfl, t9, kv, v9, rfl, tp.sq (SqT.of upd_same), hkv.tr tk⟩
                · rw [List.map_append, w3, take_succ_at hnmi]
                  rfl
                · intro a ha
                  rcases List.mem_append.mp ha with ha | ha
                  · exact w4 a ha
                  · rw [List.mem_singleton.mp ha]; exact hkl
                · obtain ⟨o, ho, hr9⟩ := PlT.go w5.2 gA w6
                  exact ⟨o, by rw [upd_ne ntd]; exact ho, hr9⟩
            · obtain ⟨o5, o6, kv1, l1, rfl, w1, w2, w3, w4, w5, _, _⟩ := hW
              exact ⟨⟨_, _, kv1, l1, rfl, w1, w2, by rw [w3]; exact (List.take_sublist _ _).trans f1.sub, w4⟩, w5⟩
          · rintro σ H4 ⟨⟨o5, o6, kv1, l1, rfl, h14, r1, sub1, k1⟩, g4⟩
            have hL4 := g4.at nLp hL2
            refine ⟨fun σ' H' => (∃ d2, σ' = [some (.ref p), some (.ref L), some (.ref d0), some (.ref d1), some (.ref d2), o5, o6, none] ∧ H' d2 = some (.dK []) ∧ H4 d2 = none) ∧ Same H4 H', ?_, ?_⟩
            · intro d2 hd2
              exact ⟨⟨d2, rfl, upd_same, hd2⟩, Same.new hd2⟩
            · rintro σ H5 ⟨⟨d2, rfl, h2, hd2⟩, s5⟩
              have n2p : d2 ≠ p := g4.ne hd2
              have G5 : Go p H4 H5 := (Go.refl g4.2).same s5
              refine ⟨fun σ' H' => (∃ (o5 o7 : Option V) (kv2 : List (Key × V)) (n2 : List Str), σ' = [some (.ref p), some (.ref L), some (.ref d0), some (.ref d1), some (.ref d2), o5, o6, o7] ∧ H' d2 = some (.dK kv2) ∧ R2 K H' kv2 n2 ∧ n2.Nodup ∧ n2.length ≤ 3) ∧ Go p H4 H', ?_, ?_⟩
              · refine ⟨(by show 3 ≤ sizeLine; decide), fun b1 hb1 => ⟨_, rfl, p, 3, rfl, (G5.new hb1).2, by decide, by decide, fun r2 Hy r20 r21 gy => ?_⟩⟩
                have g6 := (G5.new (o := .lst [.str "m", .str "part", .str "q"]) hb1).trans gy
                have hb2 : Hy b1 = some (.lst ([("m" : Str), "part", "q"].map V.str)) := gy.at (G5.ne hb1) upd_same
                have h62 : Hy d2 = some (.dK []) := gy.at n2p (Same.new hb1 _ _ h2)
                obtain ⟨j, hj⟩ : ∃ j : Nat, 1 + r2 = (j : Int) := ⟨(1 + r2).toNat, by omega⟩
                refine ⟨_, _, rfl, rfl, ?_⟩
                dsimp only
                rw [hj]
                refine ⟨_, rfl, b1, _, rfl, SqL.of hb2, fun l hl => ?_⟩
                rw [cut_to, ← List.map_take]
                obtain ⟨nf, hnf, hnd, hnl⟩ : ∃ nf : List Str, [("m" : Str), "part", "q"].take j = nf ∧ nf.Nodup ∧ nf.length ≤ 3 := ⟨_, rfl, List.Sublist.nodup (List.take_sublist _ _) (by decide +kernel), by rw [List.length_take]; exact Nat.min_le_right _ _⟩
                rw [hnf]
                have nlp : l ≠ p := g6.ne hl
                have nl2 : l ≠ d2 := fun e => by rw [e, h62] at hl; cases hl
                refine ⟨l, rfl, ⟨_, SqL.of upd_same⟩, ?_⟩
                refine for_it (walk_list (K := K) (a := l) (xs := nf.map V.str)) (D := { nx := fun σ' H' => (∃ (o5 o7 : Option V) (kv2 : List (Key × V)) (n2 : List Str), σ' = [some (.ref p), some (.ref L), some (.ref d0), some (.ref d1), some (.ref d2), o5, o6, o7] ∧ H' d2 = some (.dK kv2) ∧ R2 K H' kv2 n2 ∧ n2.Nodup ∧ n2.length ≤ 3) ∧ Go p H4 H', rt := Q, bk := fun _ _ => True, ct := fun _ _ => True }) (fun i σ H' => ∃ o5 o7 kv2 n2, σ = [some (.ref p), some (.ref L), some (.ref d0), some (.ref d1), some (.ref d2), o5, o6, o7] ∧ H' l = some (.lst (nf.map V.str)) ∧ H' d2 = some (.dK kv2) ∧ R2 K H' kv2 n2 ∧ n2 = nf.take i ∧ Go p H4 H') ⟨_, _, [], [], rfl, upd_same, Same.new hl _ _ h62, .nil, by simp, g6.new hl⟩ (fun i σ H' _ hW => let ⟨_, _, _, _, _, hh, _⟩ := hW; SqL.of hh) (fun i x σ H6 H6' hi hW hY => ?_) (fun σ H6 hW => ?_)
                · obtain ⟨o5, o7, kv2, n2, rfl, w1, w2, w3, w4, w5⟩ := hW
                  obtain ⟨rfl, hx⟩ := hY
                  rw [List.length_map] at hi
                  have ex : x = .str nf[i] := by
                    rw [List.getElem?_map, List.getElem?_eq_getElem hi] at hx
                    cases hx
                    rfl
                  subst ex
                  have L6 := w5.at nLp hL4
                  refine ⟨_, rfl, _, rfl, _, rfl, p, 4, rfl, w5.2, by decide, by decide, fun r3 H7 r30 r31 g7 => ⟨rfl, .inr ⟨_, rfl, ?_⟩⟩⟩
                  have L7 := g7.at nLp L6
                  have g57 := w5.trans g7
                  have w27 := g7.at n2p w2
                  have wl7 := g7.at nlp w1
                  have hk01 : ∀ b : Bool, (if b = true then (1 : Int) else 0) = 0 ∨ (if b = true then (1 : Int) else 0) = 1 := fun b => by cases b <;> simp
                  obtain hkk := hk01 (decide (V.int r3 = V.int 0))
                  refine ⟨L, _, zs.map V.str, rfl, rfl, L7, by omega, by omega, ?_, fun M hM => ?_⟩
                  · rw [List.length_map, sizeLine_eq]
                    rcases hkk with e | e <;> rw [e] <;> simp <;> omega
                  · obtain ⟨zs', ez, hz', hzl'⟩ := flat01 hkk hz hzl
                    rw [ez]
                    refine ⟨p, M, zs', 2, rfl, by decide, (g57.new hM).2, upd_same, g57.ne hM, hz', by omega, fun gv k9 H8 _ _ g8 => ?_⟩
                    have gX : Go p H6' H8 := ((Go.refl w5.2).trans g7).new (o := .lst (zs'.map V.str)) hM |>.trans g8
                    have g48 := w5.trans gX
                    refine ⟨_, rfl, (by show 3 ≤ sizeLine; decide), fun N hN => ⟨_, rfl, p, N, L, ["s", "u", "w"], zs, rfl, (g48.new hN).2, upd_same, g48.ne hN, by decide +kernel, by decide, (g48.new hN).at nLp hL4, nLp, hz, by omega, fun t fs H9 f1 f2 g9 htn => ⟨_, rfl, (by show 2 ≤ sizeLine; decide), fun t9 ht9 => ?_⟩⟩⟩
                    have gA : Go p H6' (upd H9 t9 (.tup [.ref t, gv])) := ((gX.new (o := .lst ([("s" : Str), "u", "w"].map V.str)) hN).trans g9).new ht9
                    have w29 : (upd H9 t9 (.tup [.ref t, gv])) d2 = some (.dK kv2) := gA.at n2p w2
                    have hn3 : n2.length ≤ 3 := by
                      rw [w4, List.length_take]
                      omega
                    have hkl1 : kv2.length ≤ 3 := by
                      have h1 := Paired.length w3
                      omega
                    have hni : nf[i]? = some nf[i] := List.getElem?_eq_getElem hi
                    refine ⟨_, rfl, _, rfl, d2, _, rfl, DPut.k (k := Sum.inr nf[i]) w29 (by rw [sizeLine_eq]; omega), ?_⟩
                    rw [put_new (by rw [w3.keys, w4]; exact inr_notin (nodup_take_notin hnd hni))]
                    have tp : TR (upd H9 t9 (.tup [.ref t, gv])) (upd (upd H9 t9 (.tup [.ref t, gv])) d2 (.dK (kv2 ++ [(Sum.inr nf[i], .ref t9)]))) := TR.dput w29
                    have tA := (Go.tr w5.2 gA).trans tp
                    refine ⟨_, _, kv2 ++ [(Sum.inr nf[i], .ref t9)], n2 ++ [nf[i]], rfl, ?_, upd_same, ?_, ?_, Go.put2 hd2 n2p (w5.trans gA)⟩
                    · rw [upd_ne nl2]
                      exact gA.at nlp w1
                    · exact paired_snoc (w3.tr tA) ⟨rfl, t9, [.ref t, gv], rfl, tp.sq (SqT.of upd_same), by simp⟩
                    · rw [w4, take_succ_at hni]
                · obtain ⟨o5, o7, kv2, n2, rfl, w1, w2, w3, w4, w5⟩ := hW
                  exact ⟨⟨_, _, kv2, n2, rfl, w2, w3, by rw [w4]; exact List.Sublist.nodup (List.take_sublist _ _) hnd, by rw [w4, List.length_take]; omega⟩, w5⟩
              · rintro σ H6 ⟨⟨o5, o7, kv2, n2, rfl, h26, r2, n2d, n2l⟩, g6⟩
                have tr6 := Go.tr g4.2 g6
                have gg := g4.trans g6
                refine ⟨_, rfl, _, rfl, _, rfl, (by show 3 ≤ sizeLine; decide), fun a ha => ?_⟩
                have tn := TR.new (o := .tup [.ref d0, .ref d1, .ref d2]) ha
                refine q a l0 l1 n2 _ ⟨d0, d1, d2, kv0, kv1, kv2, SqT.of upd_same, Same.new ha _ _ (gg.at n0 h0), Same.new ha _ _ (g6.at n1 h14), Same.new ha _ _ h26, r0.go g2.2 (gg.new ha), (r1.tr tr6).tr tn, r2.tr tn, n2d, n2l⟩ ⟨by rw [e0]; exact hzn, List.Sublist.nodup sub1 (by decide +kernel), ?_, ?_, by rw [e0]; exact hz, k0, k1, sub1⟩ ((g2.trans gg).new ha)
                · have := congrArg List.length e0
                  rw [List.length_map] at this
                  omega
                · have := sub1.length_le
                  rw [List.length_map] at this
                  exact this
end
end K31
set_option Elab.async false
set_option linter.all false
set_option maxRecDepth 100000
set_option maxHeartbeats 3000000
namespace K31
open PySem PySem.Spec PyProof.Rows L2 MixW
open C8 (Cal Def cal0 pe_c fnBody fnScope fnArgs)
section
variable {K : PySem.W.Frag} {p : Addr} {kn : List (V × PyData)} {σ : L2.St}
/-- data that the slots hold -/
def Kn (K : PySem.W.Frag) (kn : List (V × PyData)) (H : Hp) : Prop := ∀ q ∈ kn, Tn K H q.1 q.2
theorem Kn.tr {H H' : Hp} (h : Kn K kn H) (e : TR H H') : Kn K kn H' := fun q m => (h q m).tr e
theorem Kn.nil {H : Hp} : Kn K [] H := fun _ m => nomatch m
theorem Kn.cons {H : Hp} {v : V} {d : PyData} (h : Tn K H v d) (t : Kn K kn H) : Kn K ((v, d) :: kn) H := fun q m => by
  rcases List.mem_cons.mp m with e | e
  · rw [e]; exact h
  · exact t q e
/-- an expression that makes just this data -/
def Ie (K : PySem.W.Frag) (p : Addr) (kn : List (V × PyData)) (σ : L2.St) (d : PyData) (e : TE) : Prop :=
  ∀ H Q, Pt H p → Kn K kn H → (∀ v H', Tn K H' v d → Go p H H' → Q v H') → e σ H Q
def Is (K : PySem.W.Frag) (p : Addr) (kn : List (V × PyData)) (σ : L2.St) (ds : List PyData) (es : TA) : Prop :=
  ∀ H Q, Pt H p → Kn K kn H → (∀ vs H', TnAll K H' vs ds → Go p H H' → Q vs H') → es σ H Q
theorem is_nil : Is K p kn σ [] tNil := fun H Q hp k q => q [] H .nil (Go.refl hp)
theorem is_cons {d : PyData} {ds : List PyData} {e : TE} {es : TA} (h1 : Ie K p kn σ d e) (h2 : Is K p kn σ ds es) : Is K p kn σ (d :: ds) (tCons e es) := fun H Q hp k q =>
  h1 H _ hp k fun v H1 hv g1 => h2 H1 _ g1.2 (k.tr (Go.tr hp g1)) fun vs H2 hvs g2 => q (v :: vs) H2 (.cons (hv.tr (Go.tr g1.2 g2)) hvs) (g1.trans g2)
theorem ie_str {z : Str} : Ie K p kn σ (.str z) (tC (.str z)) := fun H Q hp k q => q _ H (Tn.str z) (Go.refl hp)
theorem ie_int {i : Int} : Ie K p kn σ (.int i) (tC (.int i)) := fun H Q hp k q => q _ H ⟨.int i, rfl⟩ (Go.refl hp)
theorem ie_bl {b : Bool} : Ie K p kn σ (.bool b) (tC (.bl b)) := fun H Q hp k q => q _ H (Tn.bl b) (Go.refl hp)
theorem ie_var {i : Nat} {v : V} {d : PyData} (hs : σ[i]? = some (some v)) (hk : (v, d) ∈ kn) : Ie K p kn σ d (tVar i) := fun H Q hp k q => ⟨v, hs, q v H (k _ hk) (Go.refl hp)⟩
theorem ie_tup {ds : List PyData} {es : TA} (h : Is K p kn σ ds es) (hN : ds.length ≤ 1000) : Ie K p kn σ (.tuple ds) (tTup es) := fun H Q hp k q =>
  h H _ hp k fun vs H1 hvs g1 => ⟨by have := hvs.len; rw [sizeLine_eq]; omega, fun t ht => q _ _ (Tn.newT ht hvs) (g1.new ht)⟩
/-- the kind within a list's kind -/
theorem ie_in {i : Nat} {v : V} {u : Str} {d : PyData} (hs : σ[i]? = some (some v)) (hk : (v, .tuple [.str u, d]) ∈ kn) : Ie K p kn σ d (tOp (rIxT K) (tVar i) (tC (.int 1))) := fun H Q hp k q => by
  obtain ⟨a, xs, rfl, hq, hx⟩ := (k _ hk).tup
  obtain ⟨x0, xr, rfl, _, hr⟩ := hx.uncons
  obtain ⟨x1, xr, rfl, h1, _⟩ := hr.uncons
  exact ⟨_, hs, a, _, 1, x1, rfl, rfl, hq, atI_nat (j := 1) rfl, q _ H h1 (Go.refl hp)⟩
/-- a list that grows -/
structure Sm (K : PySem.W.Frag) (p l : Addr) (H0 H : Hp) (vs : List V) (ds : List PyData) : Prop where
  at_ : H l = some (.lst vs)
  ne : l ≠ p
  all : TnAll K H vs ds
  go : Go p H0 H
theorem Sm.start {ds : List PyData} {es : TA} {H0 H : Hp} {Q : VK} (g0 : Go p H0 H) (k : Kn K kn H) (h : Is K p kn σ ds es) (hN : ds.length ≤ 1000) (q : ∀ l vs H', Sm K p l H0 H' vs ds → TR H H' → Q (.ref l) H') : tLst es σ H Q :=
  h H _ g0.2 k fun vs H1 hvs g1 => ⟨by have := hvs.len; rw [sizeLine_eq]; omega, fun l hl => q l vs _ ⟨upd_same, g1.ne hl, hvs.tr (TR.new hl), (g0.trans g1).new hl⟩ ((Go.tr g0.2 g1).trans (TR.new hl))⟩
theorem Sm.grow {ds es : List PyData} {i : Nat} {ta : TA} {H0 H : Hp} {Q : VK} {l : Addr} {vs : List V} (S : Sm K p l H0 H vs ds) (hs : σ[i]? = some (some (.ref l))) (k : Kn K kn H) (h : Is K p kn σ es ta) (hN : ds.length + es.length ≤ 1000)
    (q : ∀ l vs H', Sm K p l H0 H' vs (ds ++ es) → TR H H' → Q (.ref l) H') : tOp rCat (tVar i) (tLst ta) σ H Q := by
  refine ⟨_, hs, h H _ S.go.2 k fun us H1 hus g1 => ⟨by have := hus.len; rw [sizeLine_eq]; omega, fun l2 hl2 => ?_⟩⟩
  have g2 := g1.new (o := .lst us) hl2
  refine ⟨l, l2, vs, us, rfl, rfl, g2.at S.ne S.at_, upd_same, by have h1 := hus.len; have h2 := S.all.len; rw [sizeLine_eq]; omega, fun l3 hl3 => ?_⟩
  have g3 := g2.new (o := .lst (vs ++ us)) hl3
  exact q l3 _ _ ⟨upd_same, g2.ne hl3, (S.all.tr (Go.tr S.go.2 g3)).app ((hus.tr (TR.new hl2)).tr (TR.new hl3)), S.go.trans g3⟩ (Go.tr S.go.2 g3)
theorem Sm.pick {ds : List PyData} {H0 H H' : Hp} {l : Addr} {vs : List V} {r : Int} (S : Sm K p l H0 H vs ds) (g : Go p H H') (r0 : 0 ≤ r) (r1 : r < (ds.length : Nat)) : ∃ v d, SqL K H' l vs ∧ atI vs r = some v ∧ d ∈ ds ∧ ds[r.toNat]? = some d ∧ Tn K H' v d := by
  have hl := S.all.len
  obtain ⟨j, rfl⟩ : ∃ j : Nat, r = (j : Int) := ⟨r.toNat, by omega⟩
  have hj : j < ds.length := by omega
  have key : ∀ {vs : List V} {ds : List PyData} {H : Hp} (j : Nat), TnAll K H vs ds → (hj : j < ds.length) → ∃ v, vs[j]? = some v ∧ Tn K H v ds[j] := by
    intro vs ds H j
    induction j generalizing vs ds with
    | zero =>
      intro h hj
      cases ds with
      | nil => exact absurd hj (Nat.not_lt_zero _)
      | cons d dr =>
        obtain ⟨v, vr, rfl, hv, _⟩ := h.uncons
        exact ⟨v, rfl, hv⟩
    | succ j ih =>
      intro h hj
      cases ds with
      | nil => exact absurd hj (Nat.not_lt_zero _)
      | cons d dr =>
        obtain ⟨v, vr, rfl, _, hr⟩ := h.uncons
        obtain ⟨v2, a, b⟩ := ih hr (Nat.lt_of_succ_lt_succ hj)
        exact ⟨v2, by simpa using a, by simpa using b⟩
  obtain ⟨v, hv, ht⟩ := key j S.all hj
  exact ⟨v, ds[j], SqL.of (g.at S.ne S.at_), atI_nat hv, List.getElem_mem hj, List.getElem?_eq_getElem hj, ht.tr (Go.tr S.go.2 g)⟩
end
section
variable {P : Program} {w : World} {K : PySem.W.Frag} {mg : Str → Option Value} {base : Heap}
def goodB (d : PyData) : Bool := termB d && d.canLay0 && decide (d.depth ≤ 30)
theorem good_of {d : PyData} (h : goodB d = true) : GoodD d := by
  simp only [goodB, Bool.and_eq_true, decide_eq_true_eq] at h
  exact ⟨h.1.1, h.1.2, h.2⟩
abbrev oN : PyData := .tuple [.str "number", .int 1]
abbrev oY : PyData := .tuple [.str "truth", .bool true]
abbrev oE : PyData := .tuple [.str "empty", .tuple [.str "number"]]
abbrev sLOdd : Stmt := topS 27
abbrev NLOdd : List Str := ["_law_pot_here", "_law_some", "_law_one", "_law_yes", "_law_none"]
theorem scLOdd : FnScope NLOdd ["_law_pot_here"] (fnScope sLOdd) := ⟨rfl, rfl, rfl, by decide +kernel, rfl, by decide +kernel, by decide +kernel⟩
def spTermN (K : PySem.W.Frag) (n : Nat) : Sp := fun vs H Q _ => ∃ p : Addr, vs = [.ref p] ∧ Pt H p ∧ ∀ v d H', goodB d = true → d.depth ≤ n → d.weight ≤ 200 → Tn K H' v d → Go p H H' → Q v H'
theorem c_odd (T : Tp mg) (c_LTake : Cal P w K mg base 1 "_law_take" spTake []) {f : Addr} {fd : FuncData} (D : Def K mg "_law_odd" sLOdd f fd) (b : Binds K fd ["_law_pot_here"] []) : Cal P w K mg base 2 "_law_odd" (spTermN K 5) [] := by
  refine cal0 D b .nil scLOdd (fun vs H Q E h => ?_) (fun cdv A outer s H vs Q E hr h => ?_)
  · obtain ⟨p, rfl, _⟩ := h
    rfl
  · obtain ⟨p, rfl, hp, q⟩ := h
    have nd := scLOdd.nd
    refine ⟨_, (C8.pss_cut (ps_asg (pe_tup (pa_cons (pe_tup (pa_cons pe_str (pa_cons pe_int pa_nil))) (pa_cons (pe_tup (pa_cons pe_str (pa_cons pe_bl pa_nil))) (pa_cons (pe_tup (pa_cons pe_str (pa_cons (pe_tup (pa_cons pe_str pa_nil)) pa_nil))) pa_nil)))) (pg_tup rfl (pgs_cons (pg_name (i := 2) nd rfl (.inl rfl)) (pgs_cons (pg_name (i := 3) nd rfl (.inl rfl)) (pgs_cons (pg_name (i := 4) nd rfl (.inl rfl)) pgs_nil)))))
    (C8.pss_cut (ps_set (i := 1) nd rfl (.inl rfl) (pe_lst (pa_cons (pe_tup (pa_cons pe_str (pa_cons pe_str pa_nil))) (pa_cons (pe_tup (pa_cons pe_str (pa_cons pe_str pa_nil))) (pa_cons (pv 2) (pa_cons (pv 3) (pa_cons (pv 4) (pa_cons (pe_tup (pa_cons pe_str (pa_cons (pe_tup (pa_cons pe_str (pa_cons pe_str pa_nil))) pa_nil))) (pa_cons (pe_tup (pa_cons pe_str (pa_cons (pv 2) pa_nil))) pa_nil)))))))))
    (C8.pss_cut (ps_set (i := 1) nd rfl (.inl rfl) (pe_op op_cat (pv 1) (pe_lst (pa_cons (pe_tup (pa_cons pe_str (pa_cons (pv 2) (pa_cons pe_str pa_nil)))) (pa_cons (pe_tup (pa_cons pe_str (pa_cons (pv 2) (pa_cons (pv 3) pa_nil)))) (pa_cons (pe_tup (pa_cons pe_str (pa_cons (pv 4) (pa_cons (pv 2) pa_nil)))) (pa_cons (pe_tup (pa_cons pe_str (pa_cons (pv 3) (pa_cons (pv 2) (pa_cons (pv 3) pa_nil))))) pa_nil)))))))
    (C8.pss_cut (ps_set (i := 1) nd rfl (.inl rfl) (pe_op op_cat (pv 1) (pe_lst (pa_cons (pe_tup (pa_cons pe_str (pa_cons (pv 2) pa_nil))) (pa_cons (pe_tup (pa_cons pe_str (pa_cons (pv 4) (pa_cons (pv 2) (pa_cons (pv 3) pa_nil))))) (pa_cons (pe_tup (pa_cons pe_str (pa_cons (pv 2) (pa_cons (pv 4) pa_nil)))) (pa_cons (pe_tup (pa_cons pe_str (pa_cons (pv 2) (pa_cons (pv 3) pa_nil)))) pa_nil)))))))
    (C8.pss_cut (ps_set (i := 1) nd rfl (.inl rfl) (pe_op op_cat (pv 1) (pe_lst (pa_cons (pe_tup (pa_cons pe_str (pa_cons (pv 3) (pa_cons (pv 2) pa_nil)))) (pa_cons (pe_tup (pa_cons pe_str (pa_cons (pv 3) (pa_cons (pv 2) pa_nil)))) (pa_cons (pe_tup (pa_cons pe_str (pa_cons (pv 2) (pa_cons (pv 2) (pa_cons (pv 2) (pa_cons (pv 2) (pa_cons (pv 3) pa_nil))))))) pa_nil))))))
    (pss_one (ps_ret (pe_ix ix_list (pv 1) (pe_c c_LTake hr (by decide) (by rfl) (pa_cons (pv 0) (pa_cons pe_int pa_nil))) (fun _ _ => rfl))))))))), ?_⟩
    refine ⟨fun σ' H' => ∃ v2 v3 v4, σ' = [some (.ref p), none, some v2, some v3, some v4] ∧ Kn K [(v2, oN), (v3, oY), (v4, oE)] H' ∧ Go p H H', ?_, ?_⟩
    · refine ie_tup (K := K) (p := p) (kn := []) (is_cons (ie_tup (is_cons ie_str (is_cons ie_int is_nil)) (by decide)) (is_cons (ie_tup (is_cons ie_str (is_cons ie_bl is_nil)) (by decide)) (is_cons (ie_tup (is_cons ie_str (is_cons (ie_tup (is_cons ie_str is_nil) (by decide)) is_nil)) (by decide)) is_nil))) (by decide) H _ hp Kn.nil (fun v H1 hv g1 => ?_)
      obtain ⟨a, xs, rfl, hq, hx⟩ := hv.tup
      obtain ⟨v2, xr, rfl, h2, hx⟩ := hx.uncons
      obtain ⟨v3, xr, rfl, h3, hx⟩ := hx.uncons
      obtain ⟨v4, xr, rfl, h4, hx⟩ := hx.uncons
      obtain rfl : xr = [] := List.length_eq_zero_iff.mp hx.len
      exact ⟨a, _, rfl, hq, rfl, _, _, rfl, _, _, rfl, _, _, rfl, rfl, v2, v3, v4, rfl, .cons h2 (.cons h3 (.cons h4 .nil)), g1⟩
    · rintro σ H1 ⟨v2, v3, v4, rfl, k1, g1⟩
      have m2 : (v2, oN) ∈ [(v2, oN), (v3, oY), (v4, oE)] := by simp
      have m3 : (v3, oY) ∈ [(v2, oN), (v3, oY), (v4, oE)] := by simp
      have m4 : (v4, oE) ∈ [(v2, oN), (v3, oY), (v4, oE)] := by simp
      refine ⟨fun σ' H' => ∃ l vs, σ' = [some (.ref p), some (.ref l), some v2, some v3, some v4] ∧ Sm K p l H H' vs [.tuple [.str "name", .str "lost"], .tuple [.str "box", .str "lost"], oN, oY, oE, .tuple [.str "empty", .tuple [.str "record", .str "lost"]], .tuple [.str "not", oN]] ∧ Kn K [(v2, oN), (v3, oY), (v4, oE)] H', ?_, ?_⟩
      · exact Sm.start g1 k1 (is_cons (ie_tup (is_cons ie_str (is_cons ie_str is_nil)) (by decide)) (is_cons (ie_tup (is_cons ie_str (is_cons ie_str is_nil)) (by decide)) (is_cons (ie_var rfl m2) (is_cons (ie_var rfl m3) (is_cons (ie_var rfl m4) (is_cons (ie_tup (is_cons ie_str (is_cons (ie_tup (is_cons ie_str (is_cons ie_str is_nil)) (by decide)) is_nil)) (by decide)) (is_cons (ie_tup (is_cons ie_str (is_cons (ie_var rfl m2) is_nil)) (by decide)) is_nil))))))) (by decide) (fun l vs H' S t => ⟨l, vs, rfl, S, k1.tr t⟩)
      · rintro σ H2 ⟨l, vs, rfl, S2, k2⟩
        refine ⟨fun σ' H' => ∃ l vs, σ' = [some (.ref p), some (.ref l), some v2, some v3, some v4] ∧ Sm K p l H H' vs ([.tuple [.str "name", .str "lost"], .tuple [.str "box", .str "lost"], oN, oY, oE, .tuple [.str "empty", .tuple [.str "record", .str "lost"]], .tuple [.str "not", oN]] ++ [.tuple [.str "field", oN, .str "a"], .tuple [.str "list", oN, oY], .tuple [.str "join", oE, oN], .tuple [.str "pick", oY, oN, oY]]) ∧ Kn K [(v2, oN), (v3, oY), (v4, oE)] H', ?_, ?_⟩
        · exact Sm.grow S2 rfl k2 (is_cons (ie_tup (is_cons ie_str (is_cons (ie_var rfl m2) (is_cons ie_str is_nil))) (by decide)) (is_cons (ie_tup (is_cons ie_str (is_cons (ie_var rfl m2) (is_cons (ie_var rfl m3) is_nil))) (by decide)) (is_cons (ie_tup (is_cons ie_str (is_cons (ie_var rfl m4) (is_cons (ie_var rfl m2) is_nil))) (by decide)) (is_cons (ie_tup (is_cons ie_str (is_cons (ie_var rfl m3) (is_cons (ie_var rfl m2) (is_cons (ie_var rfl m3) is_nil)))) (by decide)) is_nil)))) (by decide) (fun l vs H' S t => ⟨l, vs, rfl, S, k2.tr t⟩)
        · rintro σ H3 ⟨l, vs, rfl, S3, k3⟩
          refine ⟨fun σ' H' => ∃ l vs, σ' = [some (.ref p), some (.ref l), some v2, some v3, some v4] ∧ Sm K p l H H' vs (([.tuple [.str "name", .str "lost"], .tuple [.str "box", .str "lost"], oN, oY, oE, .tuple [.str "empty", .tuple [.str "record", .str "lost"]], .tuple [.str "not", oN]] ++ [.tuple [.str "field", oN, .str "a"], .tuple [.str "list", oN, oY], .tuple [.str "join", oE, oN], .tuple [.str "pick", oY, oN, oY]]) ++ [.tuple [.str "many", oN], .tuple [.str "at", oE, oN, oY], .tuple [.str "add", oN, oE], .tuple [.str "same", oN, oY]]) ∧ Kn K [(v2, oN), (v3, oY), (v4, oE)] H', ?_, ?_⟩
          · exact Sm.grow S3 rfl k3 (is_cons (ie_tup (is_cons ie_str (is_cons (ie_var rfl m2) is_nil)) (by decide)) (is_cons (ie_tup (is_cons ie_str (is_cons (ie_var rfl m4) (is_cons (ie_var rfl m2) (is_cons (ie_var rfl m3) is_nil)))) (by decide)) (is_cons (ie_tup (is_cons ie_str (is_cons (ie_var rfl m2) (is_cons (ie_var rfl m4) is_nil))) (by decide)) (is_cons (ie_tup (is_cons ie_str (is_cons (ie_var rfl m2) (is_cons (ie_var rfl m3) is_nil))) (by decide)) is_nil)))) (by decide) (fun l vs H' S t => ⟨l, vs, rfl, S, k3.tr t⟩)
          · rintro σ H4 ⟨l, vs, rfl, S4, k4⟩
            refine ⟨fun σ' H' => ∃ l vs ds, σ' = [some (.ref p), some (.ref l), some v2, some v3, some v4] ∧ Sm K p l H H' vs ds ∧ ds.length = 18 ∧ ds.all (fun d => goodB d && decide (d.depth ≤ 5) && decide (d.weight ≤ 200)) = true, ?_, ?_⟩
            · exact Sm.grow S4 rfl k4 (is_cons (ie_tup (is_cons ie_str (is_cons (ie_var rfl m3) (is_cons (ie_var rfl m2) is_nil))) (by decide)) (is_cons (ie_tup (is_cons ie_str (is_cons (ie_var rfl m3) (is_cons (ie_var rfl m2) is_nil))) (by decide)) (is_cons (ie_tup (is_cons ie_str (is_cons (ie_var rfl m2) (is_cons (ie_var rfl m2) (is_cons (ie_var rfl m2) (is_cons (ie_var rfl m2) (is_cons (ie_var rfl m3) is_nil)))))) (by decide)) is_nil))) (by decide) (fun l vs H' S t => ⟨l, vs, _, rfl, S, rfl, by decide +kernel⟩)
            · rintro σ H5 ⟨l, vs, ds, rfl, S5, hlen, hall⟩
              refine ⟨_, rfl, _, rfl, p, 18, rfl, S5.go.2, by decide, by decide, fun r H6 r0 r1 g6 => ?_⟩
              obtain ⟨v, d, hq, ha, hm, _, hT⟩ := S5.pick g6 r0 (by rw [hlen]; exact r1)
              have hg := List.all_eq_true.mp hall d hm
              rw [Bool.and_eq_true, Bool.and_eq_true] at hg
              exact ⟨l, vs, r, v, rfl, rfl, hq, ha, q v d _ hg.1.1 (of_decide_eq_true hg.1.2) (of_decide_eq_true hg.2) hT (S5.go.trans g6)⟩
end
end K31
set_option Elab.async false
set_option linter.all false
set_option maxRecDepth 100000
set_option maxHeartbeats 3000000
namespace K31
open PySem PySem.Spec PyProof.Rows L2 MixW
open C8 (Cal Def cal0 pe_c fnBody fnScope fnArgs)
theorem fm_of {u : Str} {n : Nat} (e1 : leafW u = false) (e2 : (u == ("field" : Str)) = false) (e3 : (u == ("list" : Str)) = false) (e4 : counts.lookup u = some n) (n1 : 1 ≤ n) (ts : List PyData) (h : ts.length = n) (ht : ts.all termB = true) : termB (.tuple (.str u :: ts)) = true := by
  rw [termB_eq, Bool.and_eq_true]
  refine ⟨?_, ?_⟩
  · show (decide (1 ≤ ts.length) && shapedW u ts) = true
    unfold shapedW
    rw [e1, e2, e3, e4]
    simp [h, n1]
  · show (selW u ts).all termB = true
    unfold selW
    rw [e1, e2]
    exact ht
theorem fm_list (ts : List PyData) (h1 : 1 ≤ ts.length) (h8 : ts.length ≤ 8) (ht : ts.all termB = true) : termB (.tuple (.str "list" :: ts)) = true := by
  have e1 : leafW "list" = false := by decide +kernel
  have e2 : (("list" : Str) == ("field" : Str)) = false := by decide +kernel
  rw [termB_eq, Bool.and_eq_true]
  refine ⟨?_, ?_⟩
  · show (decide (1 ≤ ts.length) && shapedW "list" ts) = true
    unfold shapedW
    rw [e1, e2]
    simp [h1, h8]
  · show (selW ("list" : Str) ts).all termB = true
    unfold selW
    rw [e1, e2]
    exact ht
/-- a form: a word and the kinds of its parts -/
structure FormOk (m : Nat) (d : PyData) : Prop where
  at_ : ∃ (u : Str) (kk : List Kd), d = .tuple (.str u :: kk.map Kd.d) ∧ 1 ≤ kk.length ∧ kk.length ≤ 3 ∧ u.cps.size ≤ 6 ∧ (PyData.str u).canLay0 = true ∧ (∀ k ∈ kk, KM m k) ∧ ∀ ts, ts.length = kk.length → ts.all termB = true → termB (.tuple (.str u :: ts)) = true
theorem form1 {m n : Nat} {u : Str} {kk : List Kd} (e1 : leafW u = false) (e2 : (u == ("field" : Str)) = false) (e3 : (u == ("list" : Str)) = false) (e4 : counts.lookup u = some n) (hn : kk.length = n) (n1 : 1 ≤ n) (n3 : n ≤ 3) (h6 : u.cps.size ≤ 6) (hl : (PyData.str u).canLay0 = true) (hk : ∀ k ∈ kk, KM m k) : FormOk m (.tuple (.str u :: kk.map Kd.d)) :=
  ⟨u, kk, rfl, by omega, by omega, h6, hl, hk, fun ts h ht => fm_of e1 e2 e3 e4 n1 ts (by omega) ht⟩
theorem form_list {m : Nat} {kk : List Kd} (n1 : 1 ≤ kk.length) (n3 : kk.length ≤ 3) (hk : ∀ k ∈ kk, KM m k) : FormOk m (.tuple (.str "list" :: kk.map Kd.d)) :=
  ⟨"list", kk, rfl, n1, n3, by decide +kernel, by decide +kernel, hk, fun ts h ht => fm_list ts (by omega) (by omega) ht⟩
theorem km1 {m : Nat} {a : Kd} (h : KM m a) : ∀ k ∈ [a], KM m k := fun k hk => by rw [List.mem_singleton.mp hk]; exact h
theorem km2 {m : Nat} {a b : Kd} (h : KM m a) (h2 : KM m b) : ∀ k ∈ [a, b], KM m k := fun k hk => by
  rcases List.mem_cons.mp hk with e | e
  · rw [e]; exact h
  · exact km1 h2 k e
theorem km3 {m : Nat} {a b c : Kd} (h : KM m a) (h2 : KM m b) (h3 : KM m c) : ∀ k ∈ [a, b, c], KM m k := fun k hk => by
  rcases List.mem_cons.mp hk with e | e
  · rw [e]; exact h
  · exact km2 h2 h3 k e
theorem all1 {α : Type} {F : α → Prop} {a : α} {l : List α} (h : F a) (t : ∀ d ∈ l, F d) : ∀ d ∈ a :: l, F d := fun d hd => by
  rcases List.mem_cons.mp hd with e | e
  · rw [e]; exact h
  · exact t d e
theorem all0 {α : Type} {F : α → Prop} : ∀ d ∈ ([] : List α), F d := fun _ h => nomatch h
section
variable {P : Program} {w : World} {K : PySem.W.Frag} {mg : Str → Option Value} {base : Heap}
abbrev sLForms : Stmt := topS 25
abbrev NLForms : List Str := ["_law_pot_here", "_law_kind_here", "_law_records", "_law_found", "_law_number", "_law_truth", "_law_other"]
theorem scLForms : FnScope NLForms ["_law_pot_here", "_law_kind_here", "_law_records"] (fnScope sLForms) := ⟨rfl, rfl, rfl, by decide +kernel, rfl, by decide +kernel, by decide +kernel⟩
def spForms (K : PySem.W.Frag) : Sp := fun vs H Q _ => ∃ (p L : Addr) (kv : V) (k : Kd) (m : Nat) (zs : List Str), vs = [.ref p, kv, .ref L] ∧ Pt H p ∧ Tn K H kv k.d ∧ KM m k ∧ 2 ≤ m ∧ m ≤ 40 ∧ H L = some (.lst (zs.map V.str)) ∧ L ≠ p ∧ LayS zs ∧ zs.length ≤ 1000 ∧
  ∀ l us ds H', Sm K p l H H' us ds → (∀ d ∈ ds, FormOk (m + 1) d) → 1 ≤ ds.length → ds.length ≤ 20 → Q (.ref l) H'
theorem c_forms (T : Tp mg) (c_LKind : Cal P w K mg base 5 "_law_kind" (spKind K 3) []) {f : Addr} {fd : FuncData} (D : Def K mg "_law_forms" sLForms f fd) (b : Binds K fd ["_law_pot_here", "_law_kind_here", "_law_records"] []) : Cal P w K mg base 6 "_law_forms" (spForms K) [] := by
  refine cal0 D b .nil scLForms (fun vs H Q E h => ?_) (fun cdv A outer s H vs Q E hr h => ?_)
  · obtain ⟨p, L, kv, k, m, zs, rfl, _⟩ := h
    rfl
  · obtain ⟨p, L, kv, k, m, zs, rfl, hp, hkv, hk, hm2, hm, hL, nLp, hz, hzl, q⟩ := h
    have nd := scLForms.nd
    refine ⟨_, (C8.pss_cut (ps_par3 (i := 4) (j := 5) (l := 6) rfl nd rfl rfl rfl (by decide) (by decide) (by decide) rfl rfl rfl (pa_cons (pe_tup (pa_cons pe_str pa_nil)) (pa_cons (pe_tup (pa_cons pe_str pa_nil)) (pa_cons (pe_c c_LKind hr (by decide) (by rfl) (pa_cons (pv 0) (pa_cons (pv 2) (pa_cons pe_int pa_nil)))) pa_nil))) (by rfl))
    (C8.pss_cut (ps_set (i := 3) nd rfl (.inl rfl) (pe_lst (pa_cons (pe_tup (pa_cons pe_str (pa_cons (pv 5) (pa_cons (pv 1) (pa_cons (pv 1) pa_nil))))) (pa_cons (pe_tup (pa_cons pe_str (pa_cons (pe_tup (pa_cons pe_str (pa_cons (pv 1) pa_nil))) (pa_cons (pv 4) (pa_cons (pv 1) pa_nil))))) pa_nil))))
    (pss_cons (ps_if (pt_cmpR (op_eqD hr.units) (pv 1) (pv 4) (nomark _))
      (pss_one (ps_ret (pe_op op_cat (pv 3) (pe_lst (pa_cons (pe_tup (pa_cons pe_str (pa_cons (pv 1) (pa_cons (pv 1) pa_nil)))) (pa_cons (pe_tup (pa_cons pe_str (pa_cons (pv 1) (pa_cons (pv 1) pa_nil)))) (pa_cons (pe_tup (pa_cons pe_str (pa_cons (pv 1) (pa_cons (pv 1) pa_nil)))) (pa_cons (pe_tup (pa_cons pe_str (pa_cons (pe_tup (pa_cons pe_str (pa_cons (pv 6) pa_nil))) pa_nil))) pa_nil))))))))
      pss_nil)
    (pss_cons (ps_if (pt_cmpR (op_eqD hr.units) (pv 1) (pv 5) (nomark _))
      (pss_one (ps_ret (pe_op op_cat (pv 3) (pe_lst (pa_cons (pe_tup (pa_cons pe_str (pa_cons (pv 4) (pa_cons (pv 4) pa_nil)))) (pa_cons (pe_tup (pa_cons pe_str (pa_cons (pv 6) (pa_cons (pv 6) pa_nil)))) (pa_cons (pe_tup (pa_cons pe_str (pa_cons (pv 1) (pa_cons (pv 1) pa_nil)))) (pa_cons (pe_tup (pa_cons pe_str (pa_cons (pv 1) pa_nil))) pa_nil))))))))
      pss_nil)
    (pss_cons (ps_if (pt_cmpR op_eq (pe_ix (r := rIxT K) ix_tup (pv 1) pe_int (fun _ _ => rfl)) pe_str (nomark _))
      (pss_one (ps_ret (pe_op op_cat (pv 3) (pe_lst (pa_cons (pe_tup (pa_cons pe_str (pa_cons (pv 1) (pa_cons (pv 1) pa_nil)))) (pa_cons (pe_tup (pa_cons pe_str (pa_cons (pe_ix (r := rIxT K) ix_tup (pv 1) pe_int (fun _ _ => rfl)) pa_nil))) (pa_cons (pe_tup (pa_cons pe_str (pa_cons (pe_ix (r := rIxT K) ix_tup (pv 1) pe_int (fun _ _ => rfl)) (pa_cons (pe_ix (r := rIxT K) ix_tup (pv 1) pe_int (fun _ _ => rfl)) (pa_cons (pe_ix (r := rIxT K) ix_tup (pv 1) pe_int (fun _ _ => rfl)) pa_nil))))) pa_nil)))))))
      pss_nil)
    (pss_one (ps_ret (pv 3)))))))), ?_⟩
    have K1 : KM (m + 1) k := hk.mono (by omega)
    have K2 : KM (m + 1) (.lst k) := hk.lst
    have Kn1 : KM (m + 1) .num := kl_num1.mono (by omega)
    have Kt1 : KM (m + 1) .tru := kl_tru1.mono (by omega)
    refine ⟨fun σ' H' => ∃ vn vt vo o, σ' = [some (.ref p), some kv, some (.ref L), none, some vn, some vt, some vo] ∧ Kn K [(kv, k.d), (vn, Kd.num.d), (vt, Kd.tru.d), (vo, Kd.d o)] H' ∧ KM 2 o ∧ Go p H H', ?_, ?_⟩
    · refine ⟨(by show 1 ≤ sizeLine; decide), fun t1 h1 => ⟨(by show 1 ≤ sizeLine; decide), fun t2 h2 => ⟨_, rfl, _, rfl, p, L, zs, 1, rfl, by decide, (((Go.refl hp).new h1).new h2).2, (((Go.refl hp).new h1).new h2).at nLp hL, nLp, hz, hzl, fun v o H' ho hv g => ?_⟩⟩⟩
      have g0 := ((Go.refl hp).new (o := .tup [.str "number"]) h1).new (o := .tup [.str "truth"]) h2
      have tA := Go.tr g0.2 g
      exact ⟨_, _, _, rfl, _, _, _, o, rfl, .cons (hkv.tr ((Go.tr hp g0).trans tA)) (.cons ((tn_num (SqT.of (Same.new h2 _ _ upd_same))).tr tA) (.cons ((tn_tru (SqT.of upd_same)).tr tA) (.cons hv .nil))), ho, g0.trans g⟩
    · rintro σ H1 ⟨vn, vt, vo, o, rfl, k1, ho, g1⟩
      have K3 : KM (m + 1) o := ho.mono (by omega)
      have K4 : KM (m + 1) (.lst o) := ho.lst.mono (by omega)
      have mk : (kv, k.d) ∈ [(kv, k.d), (vn, Kd.num.d), (vt, Kd.tru.d), (vo, Kd.d o)] := by simp
      have mn : (vn, Kd.num.d) ∈ [(kv, k.d), (vn, Kd.num.d), (vt, Kd.tru.d), (vo, Kd.d o)] := by simp
      have mt : (vt, Kd.tru.d) ∈ [(kv, k.d), (vn, Kd.num.d), (vt, Kd.tru.d), (vo, Kd.d o)] := by simp
      have mo : (vo, Kd.d o) ∈ [(kv, k.d), (vn, Kd.num.d), (vt, Kd.tru.d), (vo, Kd.d o)] := by simp
      have F0 : ∀ d ∈ [PyData.tuple (.str "pick" :: [Kd.tru, k, k].map Kd.d), .tuple (.str "at" :: [.lst k, Kd.num, k].map Kd.d)], FormOk (m + 1) d := all1 (by (first | exact form1 (n := 1) (by decide +kernel) (by decide +kernel) (by decide +kernel) (by decide +kernel) rfl (by decide) (by decide) (by decide +kernel) (by decide +kernel) (km1 (by assumption)) | exact form1 (n := 2) (by decide +kernel) (by decide +kernel) (by decide +kernel) (by decide +kernel) rfl (by decide) (by decide) (by decide +kernel) (by decide +kernel) (km2 (by assumption) (by assumption)) | exact form1 (n := 3) (by decide +kernel) (by decide +kernel) (by decide +kernel) (by decide +kernel) rfl (by decide) (by decide) (by decide +kernel) (by decide +kernel) (km3 (by assumption) (by assumption) (by assumption)))) (all1 (by (first | exact form1 (n := 1) (by decide +kernel) (by decide +kernel) (by decide +kernel) (by decide +kernel) rfl (by decide) (by decide) (by decide +kernel) (by decide +kernel) (km1 (by assumption)) | exact form1 (n := 2) (by decide +kernel) (by decide +kernel) (by decide +kernel) (by decide +kernel) rfl (by decide) (by decide) (by decide +kernel) (by decide +kernel) (km2 (by assumption) (by assumption)) | exact form1 (n := 3) (by decide +kernel) (by decide +kernel) (by decide +kernel) (by decide +kernel) rfl (by decide) (by decide) (by decide +kernel) (by decide +kernel) (km3 (by assumption) (by assumption) (by assumption)))) all0)
      refine ⟨fun σ' H' => ∃ l us, σ' = [some (.ref p), some kv, some (.ref L), some (.ref l), some vn, some vt, some vo] ∧ Sm K p l H H' us [PyData.tuple (.str "pick" :: [Kd.tru, k, k].map Kd.d), .tuple (.str "at" :: [.lst k, Kd.num, k].map Kd.d)] ∧ Kn K [(kv, k.d), (vn, Kd.num.d), (vt, Kd.tru.d), (vo, Kd.d o)] H', ?_, ?_⟩
      · exact Sm.start g1 k1 (is_cons (ie_tup (is_cons ie_str (is_cons (ie_var rfl mt) (is_cons (ie_var rfl mk) (is_cons (ie_var rfl mk) is_nil)))) (by simp)) (is_cons (ie_tup (is_cons ie_str (is_cons (ie_tup (is_cons ie_str (is_cons (ie_var rfl mk) is_nil)) (by simp)) (is_cons (ie_var rfl mn) (is_cons (ie_var rfl mk) is_nil)))) (by simp)) is_nil)) (by simp) (fun l us H' S t => ⟨l, us, rfl, S, k1.tr t⟩)
      · rintro σ H2 ⟨l, us, rfl, S, k2⟩
        refine ⟨_, rfl, _, rfl, k.d, Kd.num.d, (k2 _ mk).dp, (k2 _ mn).dp, hk.kl.shaped (by omega), kl_num1.kl.shaped (by decide), _, rfl, ite2 (fun e => ?_) (fun e => ?_)⟩
        · exact Sm.grow S rfl k2 (is_cons (ie_tup (is_cons ie_str (is_cons (ie_var rfl mk) (is_cons (ie_var rfl mk) is_nil))) (by simp)) (is_cons (ie_tup (is_cons ie_str (is_cons (ie_var rfl mk) (is_cons (ie_var rfl mk) is_nil))) (by simp)) (is_cons (ie_tup (is_cons ie_str (is_cons (ie_var rfl mk) (is_cons (ie_var rfl mk) is_nil))) (by simp)) (is_cons (ie_tup (is_cons ie_str (is_cons (ie_tup (is_cons ie_str (is_cons (ie_var rfl mo) is_nil)) (by simp)) is_nil)) (by simp)) is_nil)))) (by simp) (fun l us H' S t => q l us _ _ S (all1 (F0 _ (by simp)) (all1 (F0 _ (by simp)) (all1 (show FormOk (m + 1) (.tuple (.str "add" :: [k, k].map Kd.d)) by (first | exact form1 (n := 1) (by decide +kernel) (by decide +kernel) (by decide +kernel) (by decide +kernel) rfl (by decide) (by decide) (by decide +kernel) (by decide +kernel) (km1 (by assumption)) | exact form1 (n := 2) (by decide +kernel) (by decide +kernel) (by decide +kernel) (by decide +kernel) rfl (by decide) (by decide) (by decide +kernel) (by decide +kernel) (km2 (by assumption) (by assumption)) | exact form1 (n := 3) (by decide +kernel) (by decide +kernel) (by decide +kernel) (by decide +kernel) rfl (by decide) (by decide) (by decide +kernel) (by decide +kernel) (km3 (by assumption) (by assumption) (by assumption)))) (all1 (show FormOk (m + 1) (.tuple (.str "less" :: [k, k].map Kd.d)) by (first | exact form1 (n := 1) (by decide +kernel) (by decide +kernel) (by decide +kernel) (by decide +kernel) rfl (by decide) (by decide) (by decide +kernel) (by decide +kernel) (km1 (by assumption)) | exact form1 (n := 2) (by decide +kernel) (by decide +kernel) (by decide +kernel) (by decide +kernel) rfl (by decide) (by decide) (by decide +kernel) (by decide +kernel) (km2 (by assumption) (by assumption)) | exact form1 (n := 3) (by decide +kernel) (by decide +kernel) (by decide +kernel) (by decide +kernel) rfl (by decide) (by decide) (by decide +kernel) (by decide +kernel) (km3 (by assumption) (by assumption) (by assumption)))) (all1 (show FormOk (m + 1) (.tuple (.str "times" :: [k, k].map Kd.d)) by (first | exact form1 (n := 1) (by decide +kernel) (by decide +kernel) (by decide +kernel) (by decide +kernel) rfl (by decide) (by decide) (by decide +kernel) (by decide +kernel) (km1 (by assumption)) | exact form1 (n := 2) (by decide +kernel) (by decide +kernel) (by decide +kernel) (by decide +kernel) rfl (by decide) (by decide) (by decide +kernel) (by decide +kernel) (km2 (by assumption) (by assumption)) | exact form1 (n := 3) (by decide +kernel) (by decide +kernel) (by decide +kernel) (by decide +kernel) rfl (by decide) (by decide) (by decide +kernel) (by decide +kernel) (km3 (by assumption) (by assumption) (by assumption)))) (all1 (show FormOk (m + 1) (.tuple (.str "many" :: [Kd.lst o].map Kd.d)) by (first | exact form1 (n := 1) (by decide +kernel) (by decide +kernel) (by decide +kernel) (by decide +kernel) rfl (by decide) (by decide) (by decide +kernel) (by decide +kernel) (km1 (by assumption)) | exact form1 (n := 2) (by decide +kernel) (by decide +kernel) (by decide +kernel) (by decide +kernel) rfl (by decide) (by decide) (by decide +kernel) (by decide +kernel) (km2 (by assumption) (by assumption)) | exact form1 (n := 3) (by decide +kernel) (by decide +kernel) (by decide +kernel) (by decide +kernel) rfl (by decide) (by decide) (by decide +kernel) (by decide +kernel) (km3 (by assumption) (by assumption) (by assumption)))) all0)))))) (by simp) (by simp))
        · refine ⟨_, rfl, _, rfl, k.d, Kd.tru.d, (k2 _ mk).dp, (k2 _ mt).dp, hk.kl.shaped (by omega), kl_tru1.kl.shaped (by decide), _, rfl, ite2 (fun e => ?_) (fun e => ?_)⟩
          · exact Sm.grow S rfl k2 (is_cons (ie_tup (is_cons ie_str (is_cons (ie_var rfl mn) (is_cons (ie_var rfl mn) is_nil))) (by simp)) (is_cons (ie_tup (is_cons ie_str (is_cons (ie_var rfl mo) (is_cons (ie_var rfl mo) is_nil))) (by simp)) (is_cons (ie_tup (is_cons ie_str (is_cons (ie_var rfl mk) (is_cons (ie_var rfl mk) is_nil))) (by simp)) (is_cons (ie_tup (is_cons ie_str (is_cons (ie_var rfl mk) is_nil)) (by simp)) is_nil)))) (by simp) (fun l us H' S t => q l us _ _ S (all1 (F0 _ (by simp)) (all1 (F0 _ (by simp)) (all1 (show FormOk (m + 1) (.tuple (.str "under" :: [Kd.num, Kd.num].map Kd.d)) by (first | exact form1 (n := 1) (by decide +kernel) (by decide +kernel) (by decide +kernel) (by decide +kernel) rfl (by decide) (by decide) (by decide +kernel) (by decide +kernel) (km1 (by assumption)) | exact form1 (n := 2) (by decide +kernel) (by decide +kernel) (by decide +kernel) (by decide +kernel) rfl (by decide) (by decide) (by decide +kernel) (by decide +kernel) (km2 (by assumption) (by assumption)) | exact form1 (n := 3) (by decide +kernel) (by decide +kernel) (by decide +kernel) (by decide +kernel) rfl (by decide) (by decide) (by decide +kernel) (by decide +kernel) (km3 (by assumption) (by assumption) (by assumption)))) (all1 (show FormOk (m + 1) (.tuple (.str "same" :: [o, o].map Kd.d)) by (first | exact form1 (n := 1) (by decide +kernel) (by decide +kernel) (by decide +kernel) (by decide +kernel) rfl (by decide) (by decide) (by decide +kernel) (by decide +kernel) (km1 (by assumption)) | exact form1 (n := 2) (by decide +kernel) (by decide +kernel) (by decide +kernel) (by decide +kernel) rfl (by decide) (by decide) (by decide +kernel) (by decide +kernel) (km2 (by assumption) (by assumption)) | exact form1 (n := 3) (by decide +kernel) (by decide +kernel) (by decide +kernel) (by decide +kernel) rfl (by decide) (by decide) (by decide +kernel) (by decide +kernel) (km3 (by assumption) (by assumption) (by assumption)))) (all1 (show FormOk (m + 1) (.tuple (.str "both" :: [k, k].map Kd.d)) by (first | exact form1 (n := 1) (by decide +kernel) (by decide +kernel) (by decide +kernel) (by decide +kernel) rfl (by decide) (by decide) (by decide +kernel) (by decide +kernel) (km1 (by assumption)) | exact form1 (n := 2) (by decide +kernel) (by decide +kernel) (by decide +kernel) (by decide +kernel) rfl (by decide) (by decide) (by decide +kernel) (by decide +kernel) (km2 (by assumption) (by assumption)) | exact form1 (n := 3) (by decide +kernel) (by decide +kernel) (by decide +kernel) (by decide +kernel) rfl (by decide) (by decide) (by decide +kernel) (by decide +kernel) (km3 (by assumption) (by assumption) (by assumption)))) (all1 (show FormOk (m + 1) (.tuple (.str "not" :: [k].map Kd.d)) by (first | exact form1 (n := 1) (by decide +kernel) (by decide +kernel) (by decide +kernel) (by decide +kernel) rfl (by decide) (by decide) (by decide +kernel) (by decide +kernel) (km1 (by assumption)) | exact form1 (n := 2) (by decide +kernel) (by decide +kernel) (by decide +kernel) (by decide +kernel) rfl (by decide) (by decide) (by decide +kernel) (by decide +kernel) (km2 (by assumption) (by assumption)) | exact form1 (n := 3) (by decide +kernel) (by decide +kernel) (by decide +kernel) (by decide +kernel) rfl (by decide) (by decide) (by decide +kernel) (by decide +kernel) (km3 (by assumption) (by assumption) (by assumption)))) all0)))))) (by simp) (by simp))
          · obtain ⟨av, xs, ekv, hq, hx0, _, _⟩ := tk_at (k2 _ mk)
            have ekv' : kv = .ref av := ekv
            subst ekv'
            refine ⟨_, rfl, av, xs, 0, _, rfl, rfl, hq, atI_nat (j := 0) hx0, rfl, _, rfl, ite2 (fun e => ?_) (fun e => ?_)⟩
            · obtain ⟨k', rfl⟩ := word_list (V.str.inj (of_decide_eq_true e))
              have K5 : KM (m + 1) k' := K1.inn
              exact Sm.grow S rfl k2 (is_cons (ie_tup (is_cons ie_str (is_cons (ie_var rfl mk) (is_cons (ie_var rfl mk) is_nil))) (by simp)) (is_cons (ie_tup (is_cons ie_str (is_cons (ie_in rfl mk) is_nil)) (by simp)) (is_cons (ie_tup (is_cons ie_str (is_cons (ie_in rfl mk) (is_cons (ie_in rfl mk) (is_cons (ie_in rfl mk) is_nil)))) (by simp)) is_nil))) (by simp) (fun l us H' S t => q l us _ _ S (all1 (F0 _ (by simp)) (all1 (F0 _ (by simp)) (all1 (show FormOk (m + 1) (.tuple (.str "join" :: [Kd.lst k', Kd.lst k'].map Kd.d)) by (first | exact form1 (n := 1) (by decide +kernel) (by decide +kernel) (by decide +kernel) (by decide +kernel) rfl (by decide) (by decide) (by decide +kernel) (by decide +kernel) (km1 (by assumption)) | exact form1 (n := 2) (by decide +kernel) (by decide +kernel) (by decide +kernel) (by decide +kernel) rfl (by decide) (by decide) (by decide +kernel) (by decide +kernel) (km2 (by assumption) (by assumption)) | exact form1 (n := 3) (by decide +kernel) (by decide +kernel) (by decide +kernel) (by decide +kernel) rfl (by decide) (by decide) (by decide +kernel) (by decide +kernel) (km3 (by assumption) (by assumption) (by assumption)))) (all1 (show FormOk (m + 1) (.tuple (.str "list" :: [k'].map Kd.d)) from form_list (by simp) (by simp) (km1 K5)) (all1 (show FormOk (m + 1) (.tuple (.str "list" :: [k', k', k'].map Kd.d)) from form_list (by simp) (by simp) (km3 K5 K5 K5)) all0))))) (by simp) (by simp))
            · exact ⟨_, rfl, q l us _ _ S F0 (by simp) (by simp)⟩
end
end K31
set_option Elab.async false
set_option linter.all false
set_option maxRecDepth 100000
set_option maxHeartbeats 4000000
namespace MixW
open PySem PySem.Spec PyProof.Rows L2
theorem tuple_mul1W (l : Addr) (items : Array Value) (n : Nat) (sl : Array (Option Value)) (dd : Option Addr) (u : Tok) :
    Meets (Builtin.«tuple.__mul__» ⟨[.ref l, .int 1 u], []⟩) (fun _ R s => s.heap.get? l = some { cls := .type "tuple", dict := dd, data := .seq items n, slots := sl } ∧
      R (.ok (.ret (Value.ref l))) s) :=
  .of_wp fun prog w A R s h => by
    obtain ⟨hp, g, d, tk, os⟩ := s
    obtain ⟨hl, h⟩ := h
    have f1 := AutoSeq1.idx_int
    wp_walk using wpAny_loadPart' hl
    repeat (first
      | (refine wpAny_ite_false (decide_eq_false (by decide)) ?_; wp_walk using wpAny_loadPart' hl)
      | (refine wpAny_ite_true (by simp) ?_; wp_walk using wpAny_loadPart' hl))
    exact ⟨_, rfl, h⟩
theorem tuple_mul0W (l : Addr) (items : Array Value) (n : Nat) (sl : Array (Option Value)) (dd : Option Addr) (u : Tok) (c1 : items.isEmpty = false) :
    Meets (Builtin.«tuple.__mul__» ⟨[.ref l, .int 0 u], []⟩) (fun _ R s => s.heap.get? l = some { cls := .type "tuple", dict := dd, data := .seq items n, slots := sl } ∧
      R (.ok (.ret (Value.ref s.heap.objs.size))) { s with heap := s.heap.push { cls := Value.type "tuple", data := Data.seq #[] }, toks := s.toks }) :=
  .of_wp fun prog w A R s h => by
    obtain ⟨hp, g, d, tk, os⟩ := s
    obtain ⟨hl, h⟩ := h
    have f1 := AutoSeq1.idx_int
    wp_walk using wpAny_loadPart' hl
    repeat (first
      | (refine wpAny_ite_false (decide_eq_false (by decide)) ?_; wp_walk using wpAny_loadPart' hl)
      | (refine wpAny_ite_false (decide_eq_false (by rw [c1]; decide)) ?_; wp_walk using wpAny_loadPart' hl)
      | (refine wpAny_ite_true (by simp) ?_; wp_walk using wpAny_loadPart' hl))
    exact ⟨_, rfl, h⟩
/-- a tuple, some, times an int that is not negative: once is the tuple itself -/
def rRepA (K : PySem.W.Frag) : R2 := fun x y H Q => ∃ l k xs, x = .ref l ∧ y = .int k ∧ SqT K H l xs ∧ xs ≠ [] ∧ 0 ≤ k ∧ k ≤ 1000 ∧ xs.length ≤ 1000 ∧ (k = 1 → Q (.ref l) H) ∧ (k ≠ 1 → ∀ p, H p = none → Q (.ref p) (upd H p (.tup (List.replicate k.toNat xs).flatten)))
section
variable {X : Cx}
theorem op_repA : OpR X (binaryOp .Mult) (rRepA X.K) := by
  intro pins s σ H x y v u Q I rx ry h
  obtain ⟨l, k, xs, rfl, rfl, hT, hne, h0, h2, hz, q1, q⟩ := h
  by_cases hk2 : 2 ≤ k
  · exact op_repT pins s σ H _ _ v u Q I rx ry ⟨l, k, xs, rfl, rfl, hT, hne, hk2, h2, hz, q (by omega)⟩
  cases rx
  obtain ⟨t, rfl⟩ := ry
  obtain ⟨its, r, ⟨⟨cls, dd, data, sl⟩, ho, hc, n, hd⟩, hs⟩ := I.tuple hT
  simp only at hc hd
  subst hc hd
  have hle : its.length = xs.length := r.length.symm
  have hn : its ≠ [] := fun e => hne (by
    rw [e] at hle
    exact List.eq_nil_of_length_eq_zero hle.symm)
  have hi : its.toArray.isEmpty = false := by
    cases its with
    | nil => exact absurd rfl hn
    | cons a b => rfl
  have hc : k = 0 ∨ k = 1 := by omega
  rcases hc with rfl | rfl
  · refine wpAny_binaryOp_repeat_ref (T := "tuple") (U := "int") (by decide) ⟨_, ho, rfl⟩ (fun s' => typeIs_int s' 0 t) noFill_tuple_mul F.fills_int_mul F.slot_int_rmul repeat_tuple F.slot_int_index.lookup
      (call_meets F.slot_int_rmul (typeIs_int s 0 t) F.entry_int_rmul (F.args_int_rmul_2 _ _) (int_rmul_tuple 0 t l its.toArray n dd sl)
        ⟨ho, rfl, ⟨_, ho, rfl⟩, call_meets F.slot_tuple_mul ⟨_, ho, rfl⟩ F.entry_tuple_mul (F.args_tuple_mul_2 _ _) (tuple_mul0W l its.toArray n sl dd t hi) ⟨ho, ?_⟩⟩)
    have e0 : (List.replicate (0 : Int).toNat xs).flatten = [] := rfl
    have q0 := q (by decide)
    rw [e0] at q0
    refine ⟨.ref s.heap.objs.size, _, I.laid (t' := s.toks) (o := .tup []) (fun b ob q => Heap.get?_push_of_some _ q) (Nat.le_refl _) ?_, rfl, q0 _ (I.hok.fresh (Nat.le_refl _))⟩
    exact ⟨by rw [sizeLine_eq]; exact Nat.zero_le _, _, .nil, IsTup.new _ _⟩
  · refine wpAny_binaryOp_repeat_ref (T := "tuple") (U := "int") (by decide) ⟨_, ho, rfl⟩ (fun s' => typeIs_int s' 1 t) noFill_tuple_mul F.fills_int_mul F.slot_int_rmul repeat_tuple F.slot_int_index.lookup
      (call_meets F.slot_int_rmul (typeIs_int s 1 t) F.entry_int_rmul (F.args_int_rmul_2 _ _) (int_rmul_tuple 1 t l its.toArray n dd sl)
        ⟨ho, rfl, ⟨_, ho, rfl⟩, call_meets F.slot_tuple_mul ⟨_, ho, rfl⟩ F.entry_tuple_mul (F.args_tuple_mul_2 _ _) (tuple_mul1W l its.toArray n sl dd t) ⟨ho, ?_⟩⟩)
    exact ⟨.ref l, H, I, rfl, q1 rfl⟩
end
end MixW
set_option Elab.async false
set_option linter.all false
set_option maxRecDepth 100000
set_option maxHeartbeats 3000000
namespace K31
open PySem PySem.Spec PyProof.Rows L2 MixW
open C8 (Cal Def cal0 pe_c fnBody fnScope fnArgs)
section
variable {P : Program} {w : World} {K : PySem.W.Frag} {mg : Str → Option Value} {base : Heap}
abbrev sLOrGone : Stmt := topS 33
abbrev NLOrGone : List Str := ["_law_pot_here", "_law_kind_here"]
theorem scLOrGone : FnScope NLOrGone ["_law_pot_here", "_law_kind_here"] (fnScope sLOrGone) := ⟨rfl, rfl, rfl, by decide +kernel, rfl, by decide +kernel, by decide +kernel⟩
def spOrGone (K : PySem.W.Frag) : Sp := fun vs H Q _ => ∃ (p : Addr) (kv : V) (k : Kd) (m : Nat), vs = [.ref p, kv] ∧ Pt H p ∧ Tn K H kv k.d ∧ KM m k ∧ 2 ≤ m ∧ ∀ v (k' : Kd) H', KM m k' → Tn K H' v k'.d → Go p H H' → Q v H'
theorem c_orGone (T : Tp mg) (c_LTake : Cal P w K mg base 1 "_law_take" spTake []) {f : Addr} {fd : FuncData} (D : Def K mg "_law_or_gone" sLOrGone f fd) (b : Binds K fd ["_law_pot_here", "_law_kind_here"] []) : Cal P w K mg base 2 "_law_or_gone" (spOrGone K) [] := by
  refine cal0 D b .nil scLOrGone (fun vs H Q E h => ?_) (fun cdv A outer s H vs Q E hr h => ?_)
  · obtain ⟨p, kv, k, m, rfl, _⟩ := h
    rfl
  · obtain ⟨p, kv, k, m, rfl, hp, hkv, hk, hm, q⟩ := h
    refine ⟨_, (pss_one (ps_ret (pe_ix ix_list (pe_lst (pa_cons (pv 1) (pa_cons (pe_tup (pa_cons pe_str (pa_cons pe_str pa_nil))) (pa_cons (pe_tup (pa_cons pe_str (pa_cons (pe_tup (pa_cons pe_str (pa_cons pe_str pa_nil))) pa_nil))) pa_nil)))) (pe_callB (call_max2 rfl) (by rfl) T.n_max (by decide +kernel) (pa_cons pe_int (pa_cons (pe_op op_sub (pe_c c_LTake hr (by decide) (by rfl) (pa_cons (pv 0) (pa_cons pe_int pa_nil))) pe_int) pa_nil))) (fun _ _ => rfl)))), ?_⟩
    have hg : KM 1 (.rcd "gone") := kl_rcd ⟨by decide +kernel, by decide +kernel⟩
    have mk : (kv, k.d) ∈ [(kv, k.d)] := by simp
    have st : L2.start NLOrGone [V.ref p, kv] = [some (.ref p), some kv] := rfl
    rw [st]
    unfold tRet tOp
    dsimp only
    refine Sm.start (p := p) (σ := [some (.ref p), some kv]) (kn := [(kv, k.d)]) (ds := [k.d, (Kd.rcd "gone").d, (Kd.lst (.rcd "gone")).d]) (Go.refl hp) (.cons hkv .nil) (is_cons (ie_var (i := 1) rfl mk) (is_cons (ie_tup (is_cons ie_str (is_cons ie_str is_nil)) (by simp)) (is_cons (ie_tup (is_cons ie_str (is_cons (ie_tup (is_cons ie_str (is_cons ie_str is_nil)) (by simp)) is_nil)) (by simp)) is_nil))) (by simp) (fun l vs H1 S t => ?_)
    refine ⟨_, rfl, p, 12, rfl, S.go.2, by decide, by decide, fun r H2 r0 r1 g2 => ⟨_, _, rfl, rfl, _, _, rfl, ?_⟩⟩
    dsimp only
    obtain ⟨j, hj0, hj1, hj⟩ : ∃ j : Int, 0 ≤ j ∧ j < 3 ∧ (if r - 9 > 0 then r - 9 else (0 : Int)) = j := ⟨_, by split <;> omega, by split <;> omega, rfl⟩
    rw [hj]
    obtain ⟨v, d, hq, ha, hmem, _, hT⟩ := S.pick g2 hj0 (by simpa using hj1)
    refine ⟨l, vs, j, v, rfl, rfl, hq, ha, ?_⟩
    simp only [List.mem_cons, List.not_mem_nil, or_false] at hmem
    rcases hmem with rfl | rfl | rfl
    · exact q v k _ hk hT (S.go.trans g2)
    · exact q v (.rcd "gone") _ (hg.mono (by omega)) hT (S.go.trans g2)
    · exact q v (.lst (.rcd "gone")) _ (hg.lst.mono (by omega)) hT (S.go.trans g2)
end
end K31
set_option Elab.async false
set_option linter.all false
set_option maxRecDepth 100000
set_option maxHeartbeats 3000000
namespace K31
open PySem PySem.Spec PyProof.Rows L2 MixW
open C8 (Cal Def cal0 pe_c fnBody fnScope fnArgs)
theorem paired_perm {α β : Type} {F : α → β → Prop} {xs xs' : List α} (h : xs'.Perm xs) : ∀ {ys : List β}, Paired F xs ys → ∃ ys', ys'.Perm ys ∧ Paired F xs' ys' := by
  induction h with
  | nil => intro ys h; cases h; exact ⟨[], .nil, .nil⟩
  | cons a _ ih =>
    intro ys h
    cases h with
    | cons r t =>
      obtain ⟨ys', h1, h2⟩ := ih t
      exact ⟨_ :: ys', h1.cons _, .cons r h2⟩
  | swap a b l =>
    intro ys h
    cases h with
    | cons r t =>
      cases t with
      | cons r2 t2 => exact ⟨_, List.Perm.swap _ _ _, .cons r2 (.cons r t2)⟩
  | trans _ _ ih1 ih2 =>
    intro ys h
    obtain ⟨y1, h1, h2⟩ := ih2 h
    obtain ⟨y2, h3, h4⟩ := ih1 h2
    exact ⟨y2, h3.trans h1, h4⟩
theorem paired_app {α β : Type} {F : α → β → Prop} : ∀ {xs xs' : List α} {ys ys' : List β}, Paired F xs ys → Paired F xs' ys' → Paired F (xs ++ xs') (ys ++ ys')
  | _, _, _, _, .nil, h => h
  | _, _, _, _, .cons a t, h => .cons a (paired_app t h)
section
variable {P : Program} {w : World} {K : PySem.W.Frag} {mg : Str → Option Value} {base : Heap}
/-- xs + ys of tuples, whichever way it goes -/
theorem catA_any {H : Hp} {Q : VK} {a b : Addr} {xs ys : List V} (ha : SqT K H a xs) (hb : SqT K H b ys) (hz : xs.length + ys.length ≤ sizeLine)
    (q : ∀ c H', SqT K H' c (xs ++ ys) → (H' = H ∨ ∃ p, H p = none ∧ H' = upd H p (.tup (xs ++ ys))) → Q (.ref c) H') : rCatA K (.ref a) (.ref b) H Q :=
  ⟨a, b, xs, ys, rfl, rfl, ha, hb, hz, fun e => q b H (by rw [e]; exact hb) (.inl rfl), fun _ e => q a H (by rw [e, List.append_nil]; exact ha) (.inl rfl), fun _ _ p hp => q p _ (SqT.of upd_same) (.inr ⟨p, hp, rfl⟩)⟩
/-- the name that a pair's address stands for -/
def nameOf (ps : List Addr) (ns : List Str) : V → Str
  | .ref a => ((ps.zip ns).lookup a).getD ""
  | _ => ""
theorem lookup_first {p : Addr} : ∀ {ps : List Addr} {ns : List Str}, ps.length = ns.length → p ∈ ps → ∃ j : Nat, ps[j]? = some p ∧ ns[j]? = some (((ps.zip ns).lookup p).getD "")
  | [], _, _, h => nomatch h
  | p0 :: ps, [], h, _ => by simp at h
  | p0 :: ps, n0 :: ns, hl, hm => by
    by_cases e : p = p0
    · subst e
      exact ⟨0, rfl, by simp [List.zip_cons_cons, List.lookup]⟩
    · rcases List.mem_cons.mp hm with e2 | e2
      · exact absurd e2 e
      · obtain ⟨j, h1, h2⟩ := lookup_first (by simpa using hl) e2
        refine ⟨j + 1, by simpa using h1, ?_⟩
        have eb : (p == p0) = false := beq_eq_false_iff_ne.mpr e
        rw [List.zip_cons_cons, List.lookup, eb]
        simpa using h2
theorem nameOf_first {p : Addr} {ps : List Addr} {ns : List Str} (hl : ps.length = ns.length) (hm : p ∈ ps) : ∃ j : Nat, ps[j]? = some p ∧ ns[j]? = some (nameOf ps ns (.ref p)) := lookup_first hl hm
theorem nodup_ix {l : List Str} (h : l.Nodup) {i j : Nat} {x : Str} (hi : l[i]? = some x) (hj : l[j]? = some x) : i = j := by
  obtain ⟨a, ea⟩ := List.getElem?_eq_some_iff.mp hi
  obtain ⟨b, eb⟩ := List.getElem?_eq_some_iff.mp hj
  rcases Nat.lt_trichotomy i j with h1 | h1 | h1
  · exact absurd (ea.trans eb.symm) (List.pairwise_iff_getElem.mp h i j a b h1)
  · exact h1
  · exact absurd (eb.trans ea.symm) (List.pairwise_iff_getElem.mp h j i b a h1)
/-- pairs, sorted by their names -/
theorem sort_pairs {H : Hp} {Q : VK} {a : Addr} {ps : List Addr} {fs : List (Str × Kd)} (ha : SqL K H a (ps.map V.ref) ∨ SqT K H a (ps.map V.ref)) (hp : PrP K H ps fs) (nd : (fs.map (·.1)).Nodup)
    (q : ∀ ps' fs' l, fs'.Perm fs → PrP K H ps' fs' → H l = none → Q (.ref l) (upd H l (.lst (ps'.map V.ref)))) : rSortedN K [.ref a] H Q := by
  have hl : ps.length = (fs.map (·.1)).length := by rw [List.length_map]; exact Paired.length hp
  refine ⟨a, ps.map V.ref, nameOf ps (fs.map (·.1)), rfl, ha, fun x hx => ?_, fun x hx y hy e => ?_, fun ys l hperm _ hl2 => ?_⟩
  · obtain ⟨p, hm, rfl⟩ := List.mem_map.mp hx
    obtain ⟨j, h1, h2⟩ := nameOf_first hl hm
    obtain ⟨b, hb, v, hq, _⟩ := pairedAt hp h1
    rw [List.getElem?_map, hb] at h2
    have e : b.1 = nameOf ps (fs.map (·.1)) (.ref p) := Option.some.inj h2
    exact ⟨p, [v], rfl, by rw [← e]; exact hq⟩
  · obtain ⟨p, hm, rfl⟩ := List.mem_map.mp hx
    obtain ⟨p', hm', rfl⟩ := List.mem_map.mp hy
    obtain ⟨j, h1, h2⟩ := nameOf_first hl hm
    obtain ⟨j', h1', h2'⟩ := nameOf_first hl hm'
    rw [← e] at h2'
    obtain rfl := nodup_ix nd h2 h2'
    rw [Option.some.inj (h1.symm.trans h1')]
  · obtain ⟨ps', rfl, hp'⟩ : ∃ ps' : List Addr, ys = ps'.map V.ref ∧ ps'.Perm ps := by
      have back : (ps.map V.ref).map (fun v : V => match v with | .ref a => a | _ => 0) = ps := by
        rw [List.map_map]
        exact List.map_id ps
      have h1 := hperm.map (fun v : V => match v with | .ref a => a | _ => 0)
      rw [back] at h1
      refine ⟨_, ?_, h1⟩
      rw [List.map_map]
      have : ∀ v ∈ ys, (V.ref ∘ fun v : V => match v with | .ref a => a | _ => 0) v = v := fun v hv => by
        obtain ⟨p, _, rfl⟩ := List.mem_map.mp (hperm.subset hv)
        rfl
      exact (List.map_id' ys ▸ (List.map_congr_left (g := fun v => v) this)).symm
    obtain ⟨fs', h1, h2⟩ := paired_perm hp' hp
    exact q ps' fs' l h1 h2 hl2
end
end K31
set_option Elab.async false
set_option linter.all false
set_option maxRecDepth 100000
set_option maxHeartbeats 3000000
namespace K31
open PySem PySem.Spec PyProof.Rows L2 MixW
open C8 (Cal Def cal0 pe_c fnBody fnScope fnArgs)
section
variable {P : Program} {w : World} {K : PySem.W.Frag} {mg : Str → Option Value} {base : Heap}
abbrev sLHolding : Stmt := topS 29
abbrev NLHolding : List Str := ["_law_pot_here", "_law_shapes_here", "_law_records", "_law_more", "_law_pairs_here", "_law_name", "_law_kind_here"]
theorem scLHolding : FnScope NLHolding ["_law_pot_here", "_law_shapes_here"] (fnScope sLHolding) := ⟨rfl, rfl, rfl, by decide +kernel, rfl, by decide +kernel, by decide +kernel⟩
abbrev heldN : List Str := ["add", "i", "it", "u", "v", "w", "x", "y", "z"]
abbrev lostN : List Str := ["lost", "zzzzzzzz"]
/-- names held, drawn -/
structure HoOk (fs : List (Str × Kd)) : Prop where
  nm : ∀ a ∈ fs, a.1 ∈ heldN ++ lostN
  km : ∀ a ∈ fs, KM 9 a.2
  len : fs.length ≤ 11
def spHold (K : PySem.W.Frag) : Sp := fun vs H Q _ => ∃ (p sh : Addr) (l0 : List (Str × List (Str × Kd))) (l1 : List (Str × Kd)) (n2 : List Str), vs = [.ref p, .ref sh] ∧ Pt H p ∧ ShOk K H sh l0 l1 n2 ∧ ShP l0 l1 ∧
  ∀ t fs H', HoOk fs → Fd K H' t fs → Go p H H' → Q (.ref t) H'
theorem c_holding (T : Tp mg) (c_LTake : Cal P w K mg base 1 "_law_take" spTake []) (c_LKind : Cal P w K mg base 11 "_law_kind" (spKind K 9) []) (c_LPairs : Cal P w K mg base 6 "_law_pairs" (spPairs K) []) {f : Addr} {fd : FuncData} (D : Def K mg "_law_holding" sLHolding f fd) (b : Binds K fd ["_law_pot_here", "_law_shapes_here"] []) : Cal P w K mg base 12 "_law_holding" (spHold K) [] := by
  refine cal0 D b .nil scLHolding (fun vs H Q E h => ?_) (fun cdv A outer s H vs Q E hr h => ?_)
  · obtain ⟨p, sh, l0, l1, n2, rfl, _⟩ := h
    rfl
  · obtain ⟨p, sh, l0, l1, n2, rfl, hp, hsh, hP, q⟩ := h
    have nd := scLHolding.nd
    refine ⟨_, (C8.pss_cut (ps_set (i := 2) nd rfl (.inl rfl) (pe_callB (call_sortedD rfl) (by rfl) T.n_sorted (by decide +kernel) (pa_cons (pe_ix (r := rIxT K) ix_tup (pv 1) pe_int (fun _ _ => rfl)) pa_nil)))
    (C8.pss_cut (ps_set (i := 3) nd rfl (.inl rfl) (pe_op op_cat (pv 2) (pe_lst (pa_cons pe_str pa_nil))))
    (C8.pss_cut (ps_set (i := 4) nd rfl (.inl rfl) (pe_c c_LPairs hr (by decide) (by rfl) (pa_cons (pv 0) (pa_cons (pe_lst (pa_cons pe_str (pa_cons pe_str (pa_cons pe_str (pa_cons pe_str (pa_cons pe_str (pa_cons pe_str (pa_cons pe_str (pa_cons pe_str (pa_cons pe_str pa_nil)))))))))) (pa_cons (pv 2) pa_nil)))))
    (C8.pss_cut (ps_for PassesOwn.never rfl (pi_list (pe_lst (pa_cons pe_str (pa_cons pe_str pa_nil)))) (pg_name (i := 5) nd rfl (.inl rfl))
      (pss_cons (ps_set (i := 6) nd rfl (.inl rfl) (pe_c c_LKind hr (by decide) (by rfl) (pa_cons (pv 0) (pa_cons (pv 3) (pa_cons pe_int pa_nil)))))
    (pss_one (ps_set (i := 4) nd rfl (.inl rfl) (pe_op (r := rCatA K) op_catA (pv 4) (pe_op (r := rRepA K) op_repA (pe_tup (pa_cons (pe_tup (pa_cons (pv 5) (pa_cons (pv 6) pa_nil))) pa_nil)) (pe_callTy call_int1 (by rfl) T.n_int (by decide +kernel) (pa_cons (pe_cmpR op_eq (pe_c c_LTake hr (by decide) (by rfl) (pa_cons (pv 0) (pa_cons pe_int pa_nil))) pe_int (nomark _)) pa_nil))))))))
    (pss_one (ps_ret (pe_callTy call_tupleP (by rfl) T.n_tuple (by decide +kernel) (pa_cons (pe_callB cr_sortedN (by rfl) T.n_sorted (by decide +kernel) (pa_cons (pv 4) pa_nil)) pa_nil)))))))), ?_⟩
    obtain ⟨d0, d1, d2, kv0, kv1, kv2, hq, h0, h1, h2, r0, r1, r2⟩ := hsh.at_
    have hl0 := hP.len0
    refine ⟨fun σ' H' => ∃ L zs, σ' = [some (.ref p), some (.ref sh), some (.ref L), none, none, none, none] ∧ H' L = some (.lst (zs.map V.str)) ∧ L ≠ p ∧ LayS zs ∧ zs.length ≤ 3 ∧ Go p H H', ?_, ?_⟩
    · refine ⟨_, rfl, sh, _, 0, .ref d0, rfl, rfl, hq, atI_nat (j := 0) rfl, d0, kv0, l0.map (·.1), rfl, Rd.of h0, r0.keys, by rw [List.length_map]; omega, fun ys M hperm _ hM => ⟨M, ys, rfl, upd_same, hp.ne hM, fun z hz => hP.lay z (hperm.subset hz), by rw [hperm.length_eq, List.length_map]; exact hl0, (Go.refl hp).new hM⟩⟩
    · rintro σ H1 ⟨L, zs, rfl, hL, nLp, hz, hzl, g1⟩
      refine ⟨fun σ' H' => ∃ M, σ' = [some (.ref p), some (.ref sh), some (.ref L), some (.ref M), none, none, none] ∧ H' M = some (.lst ((zs ++ [("gone" : Str)]).map V.str)) ∧ M ≠ p ∧ Go p H1 H', ?_, ?_⟩
      · refine ⟨_, rfl, (by show 1 ≤ sizeLine; decide), fun b hb => ?_⟩
        have g2 := (Go.refl g1.2).new (o := .lst [.str "gone"]) hb
        refine ⟨L, b, _, _, rfl, rfl, g2.at nLp hL, upd_same, by rw [List.length_map, sizeLine_eq]; simp; omega, fun M hM => ⟨M, rfl, ?_, g2.ne hM, g2.new hM⟩⟩
        rw [List.map_append]
        exact upd_same
      · rintro σ H2 ⟨M, rfl, hM, nMp, g2⟩
        have hL2 := g2.at nLp hL
        refine ⟨fun σ' H' => ∃ t ps fs, σ' = [some (.ref p), some (.ref sh), some (.ref L), some (.ref M), some (.ref t), none, none] ∧ SqT K H' t (ps.map V.ref) ∧ PrP K H' ps fs ∧ (fs.map (·.1)).Sublist heldN ∧ (∀ a ∈ fs, KM 9 a.2) ∧ Go p H2 H', ?_, ?_⟩
        · refine ⟨_, rfl, (by show 9 ≤ sizeLine; decide), fun N hN => ⟨_, rfl, p, N, L, heldN, zs, rfl, (g2.new hN).2, upd_same, g2.ne hN, by decide +kernel, by decide, (g2.new hN).at nLp hL, nLp, hz, by omega, fun t fs H3 f1 f2 gx _ => ?_⟩⟩
          obtain ⟨ps, hpt, hpr, _⟩ := f2
          exact ⟨t, ps, fs, rfl, hpt.sq, hpr, f1.sub, fun a ha => (f1.kl a ha).mono (by decide), ((Go.refl g2.2).new hN).trans gx⟩
        · rintro σ H3 ⟨t, ps, fs, rfl, ht, hpr, hsub, hkm, g3⟩
          have hzM : LayS (zs ++ [("gone" : Str)]) := fun z hz' => by
            rcases List.mem_append.mp hz' with e | e
            · exact hz z e
            · rw [List.mem_singleton.mp e]
              exact ⟨by decide +kernel, by decide +kernel⟩
          refine ⟨fun σ' H' => ∃ o5 o6 t ps fs, σ' = [some (.ref p), some (.ref sh), some (.ref L), some (.ref M), some (.ref t), o5, o6] ∧ SqT K H' t (ps.map V.ref) ∧ PrP K H' ps fs ∧ (fs.map (·.1)).Sublist (heldN ++ lostN) ∧ (∀ a ∈ fs, KM 9 a.2) ∧ Go p H2 H', ?_, ?_⟩
          · refine ⟨(by show 2 ≤ sizeLine; decide), fun l hl => ⟨l, rfl, ⟨_, SqL.of upd_same⟩, ?_⟩⟩
            have nlp := g3.ne hl
            refine for_it (walk_list (K := K) (a := l) (xs := lostN.map V.str)) (fun i σ H' => ∃ o5 o6 t ps fs, σ = [some (.ref p), some (.ref sh), some (.ref L), some (.ref M), some (.ref t), o5, o6] ∧ H' l = some (.lst (lostN.map V.str)) ∧ SqT K H' t (ps.map V.ref) ∧ PrP K H' ps fs ∧ (fs.map (·.1)).Sublist (heldN ++ lostN.take i) ∧ (∀ a ∈ fs, KM 9 a.2) ∧ Go p H2 H') ⟨_, _, t, ps, fs, rfl, upd_same, (TR.new hl).sq ht, PrP.tr hpr (TR.new hl), by simpa using hsub, hkm, g3.new hl⟩ (fun i σ H' _ hW => let ⟨_, _, _, _, _, _, hh, _⟩ := hW; SqL.of hh) (fun i x σ H4 H4' hi hW hY => ?_) (fun σ H4 hW => ?_)
            · obtain ⟨o5, o6, t, ps, fs, rfl, w1, w2, w3, w4, w5, w6⟩ := hW
              obtain ⟨rfl, hx⟩ := hY
              rw [List.length_map] at hi
              have ex : x = .str lostN[i] := by
                rw [List.getElem?_map, List.getElem?_eq_getElem hi] at hx
                cases hx
                rfl
              subst ex
              refine ⟨_, rfl, _, rfl, p, M, zs ++ [("gone" : Str)], 8, rfl, by decide, w6.2, w6.at nMp hM, nMp, hzM, by simp; omega, fun v k H5 hk hv g5 => ?_⟩
              refine ⟨_, rfl, _, rfl, _, rfl, (by show 2 ≤ sizeLine; decide), fun pr hpr9 => ⟨(by show 1 ≤ sizeLine; decide), fun u hu => ⟨_, rfl, p, 4, rfl, ((g5.new hpr9).new hu).2, by decide, by decide, fun r3 H6 r30 r31 g6 => ⟨rfl, .inr ⟨_, rfl, ?_⟩⟩⟩⟩⟩
              have gA : Go p H4' H6 := ((g5.new hpr9).new hu).trans g6
              have tA := Go.tr w6.2 gA
              have tB := Go.tr ((g5.new (o := .tup [.str lostN[i], v]) hpr9).new (o := .tup [.ref pr]) hu).2 g6
              have hu6 : SqT K H6 u [.ref pr] := tB.sq (SqT.of upd_same)
              have hpr6 : SqT K H6 pr [.str lostN[i], v] := tB.sq (SqT.of (Same.new hu _ _ upd_same))
              have hv6 : Tn K H6 v k.d := ((hv.tr (TR.new hpr9)).tr (TR.new hu)).tr tB
              have hl6 := gA.at nlp w1
              have etk : lostN.take (i + 1) = lostN.take i ++ [lostN[i]] := take_succ_at (List.getElem?_eq_getElem hi)
              have hlen : ps.length ≤ 11 := by
                have h1 := Paired.length w3
                have h2 := w4.length_le
                rw [List.length_map, List.length_append, List.length_take] at h2
                have h3 : heldN.length = 9 := rfl
                have h4 : lostN.length = 2 := rfl
                omega
              have hk01 : ∀ b : Bool, (if b = true then (1 : Int) else 0) = 0 ∨ (if b = true then (1 : Int) else 0) = 1 := fun b => by cases b <;> simp
              have hkk := hk01 (decide (V.int r3 = V.int 0))
              have fin1 : ∀ c H', SqT K H' c (ps.map V.ref ++ [.ref pr]) → TR H6 H' → Go p H6 H' → H' l = some (.lst (lostN.map V.str)) → ∃ o5 o6 t ps fs, [some (.ref p), some (.ref sh), some (.ref L), some (.ref M), some (.ref c), some (.str lostN[i]), some v] = [some (.ref p), some (.ref sh), some (.ref L), some (.ref M), some (.ref t), o5, o6] ∧ H' l = some (.lst (lostN.map V.str)) ∧ SqT K H' t (ps.map V.ref) ∧ PrP K H' ps fs ∧ (fs.map (·.1)).Sublist (heldN ++ lostN.take (i + 1)) ∧ (∀ a ∈ fs, KM 9 a.2) ∧ Go p H2 H' := fun c H' hc tr g hl => by
                refine ⟨_, _, c, ps ++ [pr], fs ++ [(lostN[i], k)], rfl, hl, by rw [List.map_append]; exact hc, paired_snoc (PrP.tr w3 (tA.trans tr)) ⟨v, tr.sq hpr6, hv6.tr tr⟩, ?_, ?_, (w6.trans gA).trans g⟩
                · rw [etk, List.map_append, ← List.append_assoc]
                  exact List.Sublist.append w4 (List.Sublist.refl _)
                · intro a ha
                  rcases List.mem_append.mp ha with ha | ha
                  · exact w5 a ha
                  · rw [List.mem_singleton.mp ha]; exact hk
              have fin0 : ∀ c H', SqT K H' c (ps.map V.ref) → TR H6 H' → Go p H6 H' → H' l = some (.lst (lostN.map V.str)) → ∃ o5 o6 t ps fs, [some (.ref p), some (.ref sh), some (.ref L), some (.ref M), some (.ref c), some (.str lostN[i]), some v] = [some (.ref p), some (.ref sh), some (.ref L), some (.ref M), some (.ref t), o5, o6] ∧ H' l = some (.lst (lostN.map V.str)) ∧ SqT K H' t (ps.map V.ref) ∧ PrP K H' ps fs ∧ (fs.map (·.1)).Sublist (heldN ++ lostN.take (i + 1)) ∧ (∀ a ∈ fs, KM 9 a.2) ∧ Go p H2 H' := fun c H' hc tr g hl => by
                refine ⟨_, _, c, ps, fs, rfl, hl, hc, PrP.tr w3 (tA.trans tr), ?_, w5, (w6.trans gA).trans g⟩
                rw [etk, ← List.append_assoc]
                exact List.Sublist.trans w4 (List.sublist_append_left _ _)
              refine ⟨u, _, [.ref pr], rfl, rfl, hu6, by simp, by omega, by omega, by simp, fun e => ?_, fun e z hz => ?_⟩
              · refine catA_any (tA.sq w2) hu6 (by rw [List.length_map, sizeLine_eq]; simp; omega) (fun c H' hc he => ?_)
                rcases he with rfl | ⟨c2, hc2, rfl⟩
                · exact fin1 c _ hc (TR.same (Same.refl _)) (Go.refl (w6.trans gA).2) hl6
                · exact fin1 c _ hc (TR.new hc2) ((Go.refl (w6.trans gA).2).new hc2) (Same.new hc2 _ _ hl6)
              · have e0 : (if decide (V.int r3 = V.int 0) = true then (1 : Int) else 0) = 0 := by
                  rcases hkk with h | h
                  · exact h
                  · exact absurd h e
                rw [e0]
                have s1 : Same H6 (upd H6 z (.tup [])) := Same.new hz
                refine catA_any (ys := []) ((TR.same s1).sq (tA.sq w2)) (SqT.of upd_same) (by rw [List.length_map, sizeLine_eq]; simp; omega) (fun c H' hc he => ?_)
                rw [List.append_nil] at hc he
                have gz : Go p H6 (upd H6 z (.tup [])) := (Go.refl (w6.trans gA).2).new hz
                rcases he with rfl | ⟨c2, hc2, rfl⟩
                · exact fin0 c _ hc (TR.same s1) gz (s1 _ _ hl6)
                · exact fin0 c _ hc ((TR.same s1).trans (TR.new hc2)) (gz.new hc2) (Same.new hc2 _ _ (s1 _ _ hl6))
            · obtain ⟨o5, o6, t, ps, fs, rfl, w1, w2, w3, w4, w5, w6⟩ := hW
              exact ⟨_, _, t, ps, fs, rfl, w2, w3, w4, w5, w6⟩
          · rintro σ H4 ⟨o5, o6, t, ps, fs, rfl, w2, w3, w4, w5, w6⟩
            have ndN : (fs.map (·.1)).Nodup := List.Sublist.nodup w4 (by decide +kernel)
            refine ⟨_, rfl, ?_⟩
            unfold tNil
            dsimp only
            refine sort_pairs (.inr w2) w3 ndN (fun ps' fs' l hperm hpr' hl => ⟨l, _, rfl, SqL.of upd_same, fun t9 o ht9 hc ho => ?_⟩)
            have tz := (TR.new (H := H4) (o := .lst (ps'.map V.ref)) hl).trans (TR.new (o := .frz o (.tup (ps'.map V.ref))) ht9)
            have hm : ∀ a ∈ fs', a ∈ fs := fun a ha => hperm.subset ha
            refine q t9 fs' _ ⟨fun a ha => w4.subset (List.mem_map_of_mem (f := (·.1)) (hm a ha)), fun a ha => w5 a (hm a ha), ?_⟩ ⟨ps', ⟨o, upd_same, hc, ho⟩, PrP.tr hpr' tz, (hperm.map (·.1)).nodup_iff.mpr ndN⟩ ((g1.trans (g2.trans w6)).new hl |>.new ht9)
            have h1 := w4.length_le
            have h2 := hperm.length_eq
            rw [List.length_map] at h1
            have h3 : (heldN ++ lostN).length = 11 := rfl
            omega
end
end K31
set_option Elab.async false
set_option linter.all false
set_option maxRecDepth 100000
set_option maxHeartbeats 3000000
namespace K31
open PySem PySem.Spec PyProof.Rows L2 MixW
open C8 (Cal Def cal0 pe_c fnBody fnScope fnArgs)
theorem tOp_mk {r : L2.R2} {ta tb : TE} {σ : L2.St} {H : Hp} {Q : VK} (h : ta σ H (fun x H1 => tb σ H1 (fun y H2 => r x y H2 Q))) : tOp r ta tb σ H Q := h
theorem tAsg_mk {te : TE} {g : TG} {D : Ends} {σ : L2.St} {H : Hp} (h : te σ H (fun x H1 => g x σ H1 D.nx)) : tAsg te g D σ H := h
/-- a term as it is drawn -/
structure TmOk (n w : Nat) (d : PyData) : Prop where
  tm : termB d = true
  lay : d.canLay0 = true
  dep : d.depth ≤ n
  wt : d.weight ≤ w
theorem TmOk.mono {n w n' w' : Nat} {d : PyData} (h : TmOk n w d) (a : n ≤ n') (b : w ≤ w') : TmOk n' w' d := ⟨h.tm, h.lay, Nat.le_trans h.dep a, Nat.le_trans h.wt b⟩
theorem tm_one {n w : Nat} {u : Str} {d : PyData} (h : TmOk n w d) (hu : (PyData.str u).canLay0 = true) (hs : u.cps.size ≤ 6) (ht : termB (.tuple [.str u, d]) = true) : TmOk (n + 1) (w + 8) (.tuple [.str u, d]) := by
  refine ⟨ht, ?_, ?_, ?_⟩
  · simp only [PyData.canLay0, PyData.canLayAll0, Bool.and_true, Bool.and_eq_true]
    exact ⟨by simpa [PyData.canLay0] using hu, h.lay⟩
  · have := h.dep
    simp only [PyData.depth, PyData.depthAll]
    omega
  · have := h.wt
    simp only [PyData.weight, PyData.weightAll]
    omega
theorem tm_two {n w w2 : Nat} {u : Str} {d e : PyData} (h : TmOk n w d) (h2 : TmOk n w2 e) (hu : (PyData.str u).canLay0 = true) (hs : u.cps.size ≤ 6) (ht : termB (.tuple [.str u, d, e]) = true) : TmOk (n + 1) (w + w2 + 9) (.tuple [.str u, d, e]) := by
  refine ⟨ht, ?_, ?_, ?_⟩
  · simp only [PyData.canLay0, PyData.canLayAll0, Bool.and_true, Bool.and_eq_true]
    exact ⟨by simpa [PyData.canLay0] using hu, h.lay, h2.lay⟩
  · have := h.dep
    have := h2.dep
    simp only [PyData.depth, PyData.depthAll]
    omega
  · have := h.wt
    have := h2.wt
    simp only [PyData.weight, PyData.weightAll]
    omega
theorem tb1 {u : Str} {d : PyData} (e1 : leafW u = false) (e2 : (u == ("field" : Str)) = false) (e3 : (u == ("list" : Str)) = false) (e4 : counts.lookup u = some 1) (h : termB d = true) : termB (.tuple [.str u, d]) = true := fm_of e1 e2 e3 e4 (by decide) [d] rfl (by simp [h])
theorem tb2 {u : Str} {d e : PyData} (e1 : leafW u = false) (e2 : (u == ("field" : Str)) = false) (e3 : (u == ("list" : Str)) = false) (e4 : counts.lookup u = some 2) (h : termB d = true) (h2 : termB e = true) : termB (.tuple [.str u, d, e]) = true := fm_of e1 e2 e3 e4 (by decide) [d, e] rfl (by simp [h, h2])
theorem tm_num {j : Int} (h0 : 0 ≤ j) (h1 : j < 6) : TmOk 1 20 (.tuple [.str "number", .int j]) := by
  have hc : j = 0 ∨ j = 1 ∨ j = 2 ∨ j = 3 ∨ j = 4 ∨ j = 5 := by omega
  rcases hc with rfl | rfl | rfl | rfl | rfl | rfl <;> exact ⟨by decide +kernel, by decide +kernel, by decide +kernel, by decide +kernel⟩
section
variable {P : Program} {w : World} {K : PySem.W.Frag} {mg : Str → Option Value} {base : Heap}
abbrev sLTall : Stmt := topS 36
abbrev NLTall : List Str := ["_law_pot_here", "_law_term_here", "_law_k", "_law_some"]
theorem scLTall : FnScope NLTall ["_law_pot_here", "_law_term_here"] (fnScope sLTall) := ⟨rfl, rfl, rfl, by decide +kernel, rfl, by decide +kernel, by decide +kernel⟩
def spTall (K : PySem.W.Frag) : Sp := fun vs H Q _ => ∃ (p : Addr) (v : V) (d : PyData) (n m : Nat), vs = [.ref p, v] ∧ Pt H p ∧ Tn K H v d ∧ TmOk n m d ∧ 1 ≤ n ∧ ∀ v' d' H', TmOk (n + 5) (m + 200) d' → Tn K H' v' d' → Go p H H' → Q v' H'
theorem c_tall (T : Tp mg) (c_LTake : Cal P w K mg base 1 "_law_take" spTake []) {f : Addr} {fd : FuncData} (D : Def K mg "_law_tall" sLTall f fd) (b : Binds K fd ["_law_pot_here", "_law_term_here"] []) : Cal P w K mg base 2 "_law_tall" (spTall K) [] := by
  refine cal0 D b .nil scLTall (fun vs H Q E h => ?_) (fun cdv A outer s H vs Q E hr h => ?_)
  · obtain ⟨p, v, d, n, m, rfl, _⟩ := h
    rfl
  · obtain ⟨p, v, d, n, m, rfl, hp, hv, hd, hn, q⟩ := h
    have nd := scLTall.nd
    refine ⟨_, (C8.pss_cut (ps_for PassesOwn.never rfl (pi_range1 (by rfl) T.n_range (pa_cons (pe_c c_LTake hr (by decide) (by rfl) (pa_cons (pv 0) (pa_cons pe_int pa_nil))) pa_nil)) (pg_name (i := 2) nd rfl (.inl rfl))
      (C8.pss_cut (ps_set (i := 3) nd rfl (.inl rfl) (pe_lst (pa_cons (pe_tup (pa_cons pe_str (pa_cons (pv 1) pa_nil))) (pa_cons (pe_tup (pa_cons pe_str (pa_cons (pv 1) pa_nil))) (pa_cons (pe_tup (pa_cons pe_str (pa_cons (pv 1) pa_nil))) (pa_cons (pe_tup (pa_cons pe_str (pa_cons (pe_tup (pa_cons pe_str (pa_cons pe_bl pa_nil))) (pa_cons (pv 1) pa_nil)))) pa_nil))))))
    (pss_one (ps_set (i := 1) nd rfl (.inl rfl) (pe_ix ix_list (pe_op op_cat (pv 3) (pe_lst (pa_cons (pe_tup (pa_cons pe_str (pa_cons (pv 1) (pa_cons (pe_tup (pa_cons pe_str (pa_cons (pv 2) pa_nil))) pa_nil)))) pa_nil))) (pe_c c_LTake hr (by decide) (by rfl) (pa_cons (pv 0) (pa_cons pe_int pa_nil))) (fun _ _ => rfl))))))
    (pss_one (ps_ret (pv 1)))), ?_⟩
    refine ⟨fun σ' H' => ∃ v d o2 o3, σ' = [some (.ref p), some v, o2, o3] ∧ Tn K H' v d ∧ TmOk (n + 5) (m + 200) d ∧ Go p H H', ?_, ?_⟩
    · refine ⟨_, rfl, p, 6, rfl, hp, by decide, by decide, fun r H1 r0 r1 g1 => ⟨_, rfl, by omega, by omega, ?_⟩⟩
      refine for_it (walk_range (lo := 0) (n := r.toNat)) (fun i σ H' => ∃ v d o2 o3, σ = [some (.ref p), some v, o2, o3] ∧ Tn K H' v d ∧ TmOk (n + i) (m + 40 * i) d ∧ Go p H H') ⟨v, d, _, _, rfl, hv.tr (Go.tr hp g1), hd, g1⟩ (fun _ _ _ _ _ => True.intro) (fun i x σ H2 H2' hi hW hY => ?_) (fun σ H2 hW => ?_)
      · obtain ⟨v, d, o2, o3, rfl, hv, hd, g2⟩ := hW
        obtain ⟨rfl, rfl⟩ := hY
        have hY1 : TmOk 1 20 oY := ⟨by decide +kernel, by decide +kernel, by decide +kernel, by decide +kernel⟩
        have hN := tm_num (j := 0 + (i : Int)) (by omega) (by omega)
        refine ⟨fun σ' H' => ∃ l us, σ' = [some (.ref p), some v, some (.int (0 + (i : Int))), some (.ref l)] ∧ Sm K p l H H' us [.tuple [.str "not", d], .tuple [.str "list", d], .tuple [.str "many", d], .tuple [.str "both", oY, d]] ∧ Kn K [(v, d)] H', ?_, ?_⟩
        · have mk : (v, d) ∈ [(v, d)] := by simp
          exact Sm.start g2 (.cons hv .nil) (is_cons (ie_tup (is_cons ie_str (is_cons (ie_var rfl mk) is_nil)) (by simp)) (is_cons (ie_tup (is_cons ie_str (is_cons (ie_var rfl mk) is_nil)) (by simp)) (is_cons (ie_tup (is_cons ie_str (is_cons (ie_var rfl mk) is_nil)) (by simp)) (is_cons (ie_tup (is_cons ie_str (is_cons (ie_tup (is_cons ie_str (is_cons ie_bl is_nil)) (by simp)) (is_cons (ie_var rfl mk) is_nil))) (by simp)) is_nil)))) (by simp) (fun l us H' S t => ⟨l, us, rfl, S, (Kn.cons hv .nil).tr t⟩)
        · rintro σ H3 ⟨l, us, rfl, S, k3⟩
          have mk1 : (v, d) ∈ [(v, d), (V.int (0 + (i : Int)), PyData.int (0 + (i : Int)))] := by simp
          have mk2 : (V.int (0 + (i : Int)), PyData.int (0 + (i : Int))) ∈ [(v, d), (V.int (0 + (i : Int)), PyData.int (0 + (i : Int)))] := by simp
          refine tAsg_mk (tOp_mk (Sm.grow (kn := [(v, d), (V.int (0 + (i : Int)), PyData.int (0 + (i : Int)))]) S rfl (.cons (k3 (v, d) (by simp)) (.cons ⟨.int _, rfl⟩ .nil)) (is_cons (ie_tup (is_cons ie_str (is_cons (ie_var rfl mk1) (is_cons (ie_tup (is_cons ie_str (is_cons (ie_var rfl mk2) is_nil)) (by simp)) is_nil))) (by simp)) is_nil) (by simp) (fun l us H' S t => ⟨_, rfl, p, 5, rfl, S.go.2, by decide, by decide, fun r2 H4 r20 r21 g4 => ?_⟩)))
          obtain ⟨v', d', hq, ha, hmem, _, hT⟩ := S.pick g4 r20 (by simpa using r21)
          refine ⟨l, us, r2, v', rfl, rfl, hq, ha, v', d', _, _, rfl, hT, ?_, S.go.trans g4⟩
          have hT1 := hd.tm
          have A1 := hd.mono (n' := n + i) (w' := m + 40 * i) (Nat.le_refl _) (Nat.le_refl _)
          simp only [List.cons_append, List.nil_append, List.mem_cons, List.not_mem_nil, or_false] at hmem
          rcases hmem with rfl | rfl | rfl | rfl | rfl
          · exact (tm_one hd (by decide +kernel) (by decide +kernel) (tb1 (by decide +kernel) (by decide +kernel) (by decide +kernel) (by decide +kernel) hT1)).mono (by omega) (by omega)
          · exact (tm_one hd (by decide +kernel) (by decide +kernel) (fm_list [d] (by simp) (by simp) (by simp [hT1]))).mono (by omega) (by omega)
          · exact (tm_one hd (by decide +kernel) (by decide +kernel) (tb1 (by decide +kernel) (by decide +kernel) (by decide +kernel) (by decide +kernel) hT1)).mono (by omega) (by omega)
          · exact (tm_two (hY1.mono (n' := n + i) (by omega) (Nat.le_refl _)) hd (by decide +kernel) (by decide +kernel) (tb2 (by decide +kernel) (by decide +kernel) (by decide +kernel) (by decide +kernel) hY1.tm hT1)).mono (by omega) (by omega)
          · exact (tm_two hd (hN.mono (n' := n + i) (by omega) (Nat.le_refl _)) (by decide +kernel) (by decide +kernel) (tb2 (by decide +kernel) (by decide +kernel) (by decide +kernel) (by decide +kernel) hT1 hN.tm)).mono (by omega) (by omega)
      · obtain ⟨v, d, o2, o3, rfl, hv, hd, g2⟩ := hW
        exact ⟨v, d, _, _, rfl, hv, hd.mono (by omega) (by omega), g2⟩
    · rintro σ H1 ⟨v, d, o2, o3, rfl, hv, hd, g⟩
      exact ⟨_, rfl, q v d _ hd hv g⟩
end
end K31
set_option Elab.async false
set_option linter.all false
set_option maxRecDepth 100000
set_option maxHeartbeats 3000000
namespace K31
open PySem PySem.Spec PyProof.Rows L2 MixW
open C8 (Cal Def cal0 pe_c fnBody fnScope fnArgs)
theorem tb_leaf {u : Str} {d : PyData} (e : leafW u = true) (h : leafB u d = true) : termB (.tuple [.str u, d]) = true := by
  rw [termB_eq, Bool.and_eq_true]
  refine ⟨?_, ?_⟩
  · show (decide (1 ≤ [d].length) && shapedW u [d]) = true
    unfold shapedW
    rw [if_pos e]
    simp [h]
  · show (selW u [d]).all termB = true
    unfold selW
    rw [if_pos e]
    rfl
/-- leaves: a name, a box -/
theorem tm_leafS {u z : Str} (e : leafW u = true) (h : leafB u (.str z) = true) (hu : (PyData.str u).canLay0 = true) (hs : u.cps.size ≤ 6) (hz : (PyData.str z).canLay0 = true) (h20 : z.cps.size ≤ 20) : TmOk 1 30 (.tuple [.str u, .str z]) := by
  refine ⟨tb_leaf e h, ?_, ?_, ?_⟩
  · simp only [PyData.canLay0, PyData.canLayAll0, Bool.and_true, Bool.and_eq_true]
    exact ⟨by simpa [PyData.canLay0] using hu, by simpa [PyData.canLay0] using hz⟩
  · simp only [PyData.depth, PyData.depthAll]
    omega
  · simp only [PyData.weight, PyData.weightAll]
    omega
theorem tm_name {z : Str} (hz : (PyData.str z).canLay0 = true) (h20 : z.cps.size ≤ 20) : TmOk 1 30 (.tuple [.str "name", .str z]) := tm_leafS (by decide +kernel) rfl (by decide +kernel) (by decide +kernel) hz h20
theorem tm_box {z : Str} (hz : (PyData.str z).canLay0 = true) (h20 : z.cps.size ≤ 20) : TmOk 1 30 (.tuple [.str "box", .str z]) := tm_leafS (by decide +kernel) rfl (by decide +kernel) (by decide +kernel) hz h20
/-- a field of a name -/
theorem tm_field {n w : Nat} {d : PyData} {z : Str} (hd : TmOk n w d) (hz : (PyData.str z).canLay0 = true) (h20 : z.cps.size ≤ 20) : TmOk (n + 1) (w + 28) (.tuple [.str "field", d, .str z]) := by
  have e1 : leafW "field" = false := by decide +kernel
  refine ⟨?_, ?_, ?_, ?_⟩
  · rw [termB_eq, Bool.and_eq_true]
    refine ⟨?_, ?_⟩
    · show (decide (1 ≤ [d, .str z].length) && shapedW "field" [d, .str z]) = true
      unfold shapedW
      rw [e1]
      simp [isS]
    · show (selW ("field" : Str) [d, .str z]).all termB = true
      unfold selW
      rw [e1]
      simp [hd.tm]
  · simp only [PyData.canLay0, PyData.canLayAll0, Bool.and_true, Bool.and_eq_true]
    exact ⟨by decide +kernel, hd.lay, by simpa [PyData.canLay0] using hz⟩
  · have := hd.dep
    simp only [PyData.depth, PyData.depthAll]
    omega
  · have := hd.wt
    have h5 : (("field" : Str)).cps.size = 5 := by decide +kernel
    simp only [PyData.weight, PyData.weightAll, h5]
    omega
/-- an empty list of a kind -/
theorem tm_empty {m : Nat} {k : Kd} (hk : KM m k) : TmOk (m + 1) (6 * m + 50) (.tuple [.str "empty", k.d]) := by
  refine ⟨tb_leaf (by decide +kernel) ?_, ?_, ?_, ?_⟩
  · have e1 : (("empty" : Str) == "name" || ("empty" : Str) == "box") = false := by decide +kernel
    have e2 : (("empty" : Str) == "empty") = true := by decide +kernel
    unfold leafB
    rw [e1, e2, toK_d]
    rfl
  · simp only [PyData.canLay0, PyData.canLayAll0, Bool.and_true, Bool.and_eq_true]
    exact ⟨by decide +kernel, hk.kl.1⟩
  · have := hk.kl.2
    simp only [PyData.depth, PyData.depthAll]
    omega
  · have := hk.kl.2
    have := hk.wt
    have h5 : (("empty" : Str)).cps.size = 5 := by decide +kernel
    simp only [PyData.weight, PyData.weightAll, h5]
    omega
/-- a truth -/
theorem tm_truth (b : Bool) : TmOk 1 30 (.tuple [.str "truth", .bool b]) := by
  cases b <;> exact ⟨by decide +kernel, by decide +kernel, by decide +kernel, by decide +kernel⟩
theorem all_lay {n w : Nat} : ∀ {ts : List PyData}, (∀ t ∈ ts, TmOk n w t) → PyData.canLayAll0 ts = true ∧ PyData.depthAll ts ≤ n ∧ PyData.weightAll ts ≤ ts.length * (w + 1)
  | [], _ => ⟨by simp [PyData.canLayAll0], by simp [PyData.depthAll], by simp [PyData.weightAll]⟩
  | t :: ts, h => by
    obtain ⟨a, b, c⟩ := all_lay (ts := ts) fun x hx => h x (List.mem_cons_of_mem _ hx)
    have ht := h t (List.mem_cons_self ..)
    refine ⟨by simp [PyData.canLayAll0, ht.lay, a], ?_, ?_⟩
    · have := ht.dep
      simp only [PyData.depthAll]
      omega
    · have := ht.wt
      simp only [PyData.weightAll, List.length_cons, Nat.add_mul]
      omega
/-- a form with its terms -/
theorem tm_form {n w : Nat} {u : Str} {ts : List PyData} (hu : (PyData.str u).canLay0 = true) (hs : u.cps.size ≤ 6) (h3 : ts.length ≤ 3) (ht : ∀ t ∈ ts, TmOk n w t) (tm : termB (.tuple (.str u :: ts)) = true) : TmOk (n + 1) (3 * w + 10) (.tuple (.str u :: ts)) := by
  obtain ⟨a, b, c⟩ := all_lay ht
  refine ⟨tm, ?_, ?_, ?_⟩
  · simp only [PyData.canLay0, PyData.canLayAll0, Bool.and_eq_true]
    exact ⟨by simpa [PyData.canLay0] using hu, a⟩
  · simp only [PyData.depth, PyData.depthAll]
    omega
  · simp only [PyData.weight, PyData.weightAll]
    have : ts.length * (w + 1) ≤ 3 * (w + 1) := Nat.mul_le_mul_right _ h3
    omega
end K31
set_option Elab.async false
set_option linter.all false
set_option maxRecDepth 100000
set_option maxHeartbeats 3000000
namespace K31
open PySem PySem.Spec PyProof.Rows L2 MixW
open C8 (Cal Def cal0 pe_c fnBody fnScope fnArgs)
theorem tm_int {j : Int} (h0 : 0 ≤ j) (h1 : j < 1000000000000) : TmOk 1 60 (.tuple [.str "number", .int j]) := by
  refine ⟨tb_leaf (by decide +kernel) ?_, ?_, ?_, ?_⟩
  · have e1 : (("number" : Str) == "name" || ("number" : Str) == "box") = false := by decide +kernel
    have e2 : (("number" : Str) == "empty") = false := by decide +kernel
    have e3 : (("number" : Str) == "number") = true := by decide +kernel
    unfold leafB
    rw [e1, e2, e3]
    rfl
  · simp only [PyData.canLay0, PyData.canLayAll0, Bool.and_true, Bool.and_eq_true]
    decide +kernel
  · simp only [PyData.depth, PyData.depthAll]
    omega
  · have h6 : (("number" : Str)).cps.size = 6 := by decide +kernel
    simp only [PyData.weight, PyData.weightAll, h6]
    by_cases e : j = 0
    · subst e
      simp
    · have e1 : (j == 0) = false := by simpa using e
      have e2 : j.natAbs.log2 < 40 := (Nat.log2_lt (by omega)).mpr (by have : (2 : Nat) ^ 40 = 1099511627776 := by decide +kernel
                                                                       omega)
      rw [e1]
      simp only [Bool.false_eq_true, if_false]
      omega
section
variable {K : PySem.W.Frag}
/-- a dict of names to kinds -/
abbrev RH (K : PySem.W.Frag) (H : Hp) : List (Key × V) → List (Str × Kd) → Prop := Paired (fun (q : Key × V) (a : Str × Kd) => q.1 = Sum.inr a.1 ∧ Tn K H q.2 a.2.d)
theorem RH.tr {H H' : Hp} {kv : List (Key × V)} {l : List (Str × Kd)} (e : TR H H') (h : RH K H kv l) : RH K H' kv l := Paired.mapP h fun _ _ ⟨a, b⟩ => ⟨a, b.tr e⟩
theorem RH.keys {H : Hp} {kv : List (Key × V)} {l : List (Str × Kd)} (h : RH K H kv l) : kv.map (·.1) = (l.map (·.1)).map Sum.inr := by
  induction h with
  | nil => rfl
  | cons r t ih => simp [r.1, ih]
theorem getP {α : Type} {F : Key × V → Str × α → Prop} (hF : ∀ q a, F q a → q.1 = Sum.inr a.1) : ∀ {kv : List (Key × V)} {l : List (Str × α)}, Paired F kv l → ∀ z : Str,
    (valV kv (.inr z) = none ∧ l.lookup z = none ∧ z ∉ l.map (·.1)) ∨ ∃ v a, valV kv (.inr z) = some v ∧ l.lookup z = some a ∧ (z, a) ∈ l ∧ F (.inr z, v) (z, a)
  | _, _, .nil => fun z => .inl ⟨rfl, rfl, by simp⟩
  | _, _, .cons (a := kv) (b := a) h t => fun z => by
    obtain ⟨k0, v0⟩ := kv
    obtain ⟨x, k⟩ := a
    have h1 := hF _ _ h
    simp only at h1
    subst h1
    show (valV ((Sum.inr x, v0) :: _) (Sum.inr z) = none ∧ List.lookup z ((x, k) :: _) = none ∧ _) ∨ ∃ v a, valV ((Sum.inr x, v0) :: _) (Sum.inr z) = some v ∧ List.lookup z ((x, k) :: _) = some a ∧ _
    rw [valV_cons, List.lookup_cons]
    by_cases e : z = x
    · subst e
      exact .inr ⟨v0, k, by simp, by simp, List.mem_cons_self .., h⟩
    · have e1 : ¬ (Sum.inr x : Key) = Sum.inr z := fun q => e (Sum.inr.inj q).symm
      have e2 : (z == x) = false := by simpa using e
      rw [if_neg e1, e2]
      rcases getP hF t z with ⟨a1, a2, a3⟩ | ⟨v, a, a1, a2, a3, a4⟩
      · refine .inl ⟨a1, a2, ?_⟩
        rw [List.map_cons]
        intro hm
        rcases List.mem_cons.mp hm with e9 | e9
        · exact e e9
        · exact a3 e9
      · exact .inr ⟨v, a, a1, a2, List.mem_cons_of_mem _ a3, a4⟩
theorem tk_last {H : Hp} {v : V} {k : Kd} (h : Tn K H v k.d) : ∃ a xs y, v = .ref a ∧ SqT K H a xs ∧ atI xs (-1) = some y ∧ ((∃ z, y = .str z) ∨ ∃ k', k = .lst k' ∧ Tn K H y k'.d) := by
  cases k with
  | num =>
    obtain ⟨a, xs, rfl, hq, hx⟩ := Tn.tup (ds := [.str "number"]) h
    obtain ⟨v1, r1, rfl, h1, h2⟩ := hx.uncons
    obtain rfl := h1.strv
    obtain rfl := List.length_eq_zero_iff.mp h2.len
    exact ⟨a, _, _, rfl, hq, rfl, .inl ⟨_, rfl⟩⟩
  | tru =>
    obtain ⟨a, xs, rfl, hq, hx⟩ := Tn.tup (ds := [.str "truth"]) h
    obtain ⟨v1, r1, rfl, h1, h2⟩ := hx.uncons
    obtain rfl := h1.strv
    obtain rfl := List.length_eq_zero_iff.mp h2.len
    exact ⟨a, _, _, rfl, hq, rfl, .inl ⟨_, rfl⟩⟩
  | rcd z =>
    obtain ⟨a, xs, rfl, hq, _, _, hr⟩ := tk_at h
    obtain rfl := hr z rfl
    exact ⟨a, _, _, rfl, hq, rfl, .inl ⟨_, rfl⟩⟩
  | lst k' =>
    obtain ⟨a, xs, rfl, hq, _, hl, _⟩ := tk_at h
    obtain ⟨v', rfl, hv⟩ := hl k' rfl
    exact ⟨a, _, _, rfl, hq, rfl, .inr ⟨k', rfl, hv⟩⟩
theorem kd_key : ∀ k : Kd, keyD k.d = true
  | .num => by simp [Kd.d, keyD, keyL]
  | .tru => by simp [Kd.d, keyD, keyL]
  | .rcd _ => by simp [Kd.d, keyD, keyL]
  | .lst k => by simp [Kd.d, keyD, keyL, kd_key k]
theorem kd_tup (k : Kd) : ∃ ds, k.d = .tuple ds ∧ keyL ds = true := by
  have h := kd_key k
  cases k <;> exact ⟨_, rfl, by simpa [Kd.d, keyD] using h⟩
/-- a list of terms -/
structure Lf (K : PySem.W.Frag) (N W : Nat) (p F : Addr) (H0 H : Hp) (n : Nat) : Prop where
  ex : ∃ vs ds, H F = some (.lst vs) ∧ TnAll K H vs ds ∧ (∀ d ∈ ds, TmOk N W d) ∧ vs.length ≤ n
  ne : F ≠ p
  nw : H0 F = none
  go : Go p H0 H
theorem Lf.more {N W n n' : Nat} {p F : Addr} {H0 H : Hp} (h : Lf K N W p F H0 H n) (e : n ≤ n') : Lf K N W p F H0 H n' :=
  let ⟨⟨vs, ds, a, b, c, d⟩, x, y, z⟩ := h
  ⟨⟨vs, ds, a, b, c, Nat.le_trans d e⟩, x, y, z⟩
theorem Lf.on {N W n : Nat} {p F : Addr} {H0 H H' : Hp} (h : Lf K N W p F H0 H n) (g : Go p H H') : Lf K N W p F H0 H' n :=
  let ⟨⟨vs, ds, a, b, c, d⟩, x, y, z⟩ := h
  ⟨⟨vs, ds, g.at x a, b.tr (Go.tr z.2 g), c, d⟩, x, y, z.trans g⟩
/-- a comprehension whose things are terms, in a walk -/
theorem lc_leaf {J : It} {n N W : Nat} {G : Hp → Prop} {Y : Nat → Hp → V → Hp → Prop} (w : Walk J n G Y) {p : Addr} {g : TG} {tt : TT} {te : TE} {vs : List Nat} {σ : L2.St} {H : Hp} {R9 : Addr → Hp → Prop} (hn : n ≤ 1000) (hp : Pt H p) (hG : ∀ H', Go p H H' → G H')
    (hs : ∀ (i : Nat) (x : V) (H1 H2 : Hp) (C : Hp → Prop) (Q' : VK), i < n → Go p H H1 → Y i H1 x H2 → C H2 → (∀ v d H3, TmOk N W d → Tn K H3 v d → Same H2 H3 → Q' v H3) →
      g x (wipe σ vs) H2 fun σ2 H3 => wipe σ2 vs = wipe σ vs ∧ tt σ2 H3 fun b H4 => if b = true then te σ2 H4 Q' else C H4)
    (hY : ∀ (i : Nat) (x : V) (H1 H2 : Hp), i < n → Go p H H1 → Y i H1 x H2 → H2 = H1)
    (hq : ∀ D H', H D = none → Lf K N W p D H H' n → R9 D H') :
    ∀ D, H D = none → ∃ W : Nat → Nat → Hp → Prop, (∃ m, W 0 m (upd H D (.lst []))) ∧ ∀ i m H, W i m H →
      (J.stop i H ∧ R9 D H) ∨ (J.go i H ∧ ∃ Nx : Hp → Prop, (∀ H', Nx H' → ∃ m', m' < m ∧ W (i + 1) m' H') ∧ ∀ x H', J.yld i H x H' → g x (wipe σ vs) H' fun σ2 H2 => wipe σ2 vs = wipe σ vs ∧ tt σ2 H2 fun b H3 =>
        if b = true then te σ2 H3 fun y H4 => ∃ acc, H4 D = some (.lst acc) ∧ acc.length < sizeLine ∧ Nx (upd H4 D (.lst (acc ++ [y]))) else Nx H3) := by
  intro D hD
  have nD := hp.ne hD
  refine lc_it w (Qd := R9 D) (fun i H' => Lf K N W p D H H' i) ⟨⟨[], [], upd_same, .nil, (fun d h => nomatch h), Nat.le_refl _⟩, nD, hD, (Go.refl hp).new hD⟩ (fun i H' _ hW => hG H' hW.go) (fun i x H1 H2 hi hW hYi => ?_) (fun H' hW => hq D H' hD hW)
  obtain rfl := hY i x H1 H2 hi hW.go hYi
  have hW9 := hW
  obtain ⟨⟨vs9, ds, a1, a2, a3, a4⟩, a5, a6, a7⟩ := hW
  refine hs i x H2 H2 (fun H' => Lf K N W p D H H' (i + 1)) _ hi a7 hYi (hW9.more (Nat.le_succ _)) (fun v d H3 hd hv s3 => ?_)
  have h3 := s3 _ _ a1
  have tp : TR H3 (upd H3 D (.lst (vs9 ++ [v]))) := TR.put h3
  refine ⟨vs9, h3, by rw [sizeLine_eq]; omega, ⟨vs9 ++ [v], ds ++ [d], upd_same, ((a2.tr (TR.same s3)).tr tp).app (.cons (hv.tr tp) .nil), fun e he => ?_, by rw [List.length_append, List.length_singleton]; omega⟩, nD, hD, Go.put2 hD nD (a7.same s3)⟩
  rcases List.mem_append.mp he with he | he
  · exact a3 e he
  · rw [List.mem_singleton.mp he]; exact hd
end
end K31
set_option Elab.async false
set_option linter.all false
set_option maxRecDepth 100000
set_option maxHeartbeats 4000000
namespace K31
open PySem PySem.Spec PyProof.Rows L2 MixW
open C8 (Cal Def cal0 pe_c fnBody fnScope fnArgs)
section
variable {P : Program} {w : World} {K : PySem.W.Frag} {mg : Str → Option Value} {base : Heap}
theorem Lf.back {N W n : Nat} {p F : Addr} {H H1 H' : Hp} (h : Lf K N W p F H1 H' n) (g : Go p H H1) : Lf K N W p F H H' n := by
  refine ⟨h.ex, h.ne, ?_, g.trans h.go⟩
  cases c : H F with
  | none => rfl
  | some o =>
    have := g.1 F o h.ne c
    rw [h.nw] at this
    cases this
theorem Lf.sq {N W n : Nat} {p F : Addr} {H0 H : Hp} (h : Lf K N W p F H0 H n) : ∃ xs, SqL K H F xs := let ⟨vs, _, a, _⟩ := h.ex; ⟨vs, SqL.of a⟩
theorem Lf.push {N W n : Nat} {p F : Addr} {H0 H : Hp} {v : V} {d : PyData} {Q : VK} (h : Lf K N W p F H0 H n) (hn : n < 100000) (hv : Tn K H v d) (hd : TmOk N W d) (q : ∀ H', Lf K N W p F H0 H' (n + 1) → TR H H' → Q .non H') : rAppend (.ref F) [v] H Q := by
  obtain ⟨⟨vs, ds, a, b, c, e⟩, x, y, z⟩ := h
  have tp : TR H (upd H F (.lst (vs ++ [v]))) := TR.put a
  refine ⟨F, vs, v, rfl, rfl, a, by rw [sizeLine_eq]; omega, q _ ⟨⟨vs ++ [v], ds ++ [d], upd_same, (b.tr tp).app (.cons (hv.tr tp) .nil), fun t ht => ?_, by rw [List.length_append, List.length_singleton]; omega⟩, x, y, Go.put2 y x z⟩ tp⟩
  rcases List.mem_append.mp ht with ht | ht
  · exact c t ht
  · rw [List.mem_singleton.mp ht]; exact hd
/-- one list behind another, at its own place -/
theorem Lf.join {N W n n2 : Nat} {p F G : Addr} {H0 H1 H : Hp} {Q : VK} (h : Lf K N W p F H0 H1 n) (h2 : Lf K N W p G H1 H n2) (hn : n + n2 < 100000) (q : ∀ H', Lf K N W p F H0 H' (n + n2) → Go p H1 H → (∀ b o, b ≠ F → H b = some o → H' b = some o) → TR H H' → Q .non H') : rExtend (.ref F) [.ref G] H Q := by
  have h9 := h.on h2.go
  obtain ⟨⟨vs, ds, a, b, c, e⟩, x, y, z⟩ := h9
  obtain ⟨⟨us, es, a2, b2, c2, e2⟩, x2, y2, z2⟩ := h2
  have tp : TR H (upd H F (.lst (vs ++ us))) := TR.put a
  refine ⟨F, G, vs, us, rfl, rfl, a, a2, by rw [sizeLine_eq]; omega, q _ ⟨⟨vs ++ us, ds ++ es, upd_same, (b.tr tp).app (b2.tr tp), fun t ht => ?_, by rw [List.length_append]; omega⟩, x, y, Go.put2 y x z⟩ z2 (fun b o hb ho => by rw [upd_ne hb]; exact ho) tp⟩
  rcases List.mem_append.mp ht with ht | ht
  · exact c t ht
  · exact c2 t ht
/-- one list behind another, anew -/
theorem Lf.cat {N W n n2 : Nat} {p F G : Addr} {H0 H1 H : Hp} {Q : VK} (h : Lf K N W p F H0 H1 n) (h2 : Lf K N W p G H1 H n2) (hn : n + n2 < 100000) (q : ∀ F' H', Lf K N W p F' H0 H' (n + n2) → Go p H1 H' → Q (.ref F') H') : rCat (.ref F) (.ref G) H Q := by
  have h9 := h.on h2.go
  obtain ⟨⟨vs, ds, a, b, c, e⟩, x, y, z⟩ := h9
  obtain ⟨⟨us, es, a2, b2, c2, e2⟩, x2, y2, z2⟩ := h2
  refine ⟨F, G, vs, us, rfl, rfl, a, a2, by rw [sizeLine_eq]; omega, fun l hl => q l _ ⟨⟨vs ++ us, ds ++ es, upd_same, (b.tr (TR.new hl)).app (b2.tr (TR.new hl)), fun t ht => ?_, by rw [List.length_append]; omega⟩, z.ne hl, ?_, z.new hl⟩ (z2.new hl)⟩
  · rcases List.mem_append.mp ht with ht | ht
    · exact c t ht
    · exact c2 t ht
  · cases cc : H0 l with
    | none => rfl
    | some o =>
      have := z.1 l o (z.ne hl) cc
      rw [hl] at this
      cases this
theorem held_lay : ∀ z ∈ heldN ++ lostN, (PyData.str z).canLay0 = true ∧ z.cps.size ≤ 20 := by
  intro z hz; revert z; decide +kernel
theorem box_lay : ∀ z ∈ boxN, (PyData.str z).canLay0 = true ∧ z.cps.size ≤ 20 := by
  intro z hz; revert z; decide +kernel
theorem field_lay : ∀ z ∈ fieldN, (PyData.str z).canLay0 = true ∧ z.cps.size ≤ 20 := by
  intro z hz; revert z; decide +kernel
abbrev sLLeaf : Stmt := topS 26
abbrev NLLeaf : List Str := ["_law_pot_here", "_law_kind_here", "_law_held", "_law_shapes_here", "_law_found", "_law_name", "_law_fields", "_law_field", "_law_inner"]
theorem scLLeaf : FnScope NLLeaf ["_law_pot_here", "_law_kind_here", "_law_held", "_law_shapes_here"] (fnScope sLLeaf) := ⟨rfl, rfl, rfl, by decide +kernel, rfl, by decide +kernel, by decide +kernel⟩
def spLeaf (K : PySem.W.Frag) : Sp := fun vs H Q _ => ∃ (p : Addr) (kv : V) (k : Kd) (m : Nat) (hd : Addr) (kvh : List (Key × V)) (fs : List (Str × Kd)) (sh : Addr) (l0 : List (Str × List (Str × Kd))) (l1 : List (Str × Kd)) (n2 : List Str),
  vs = [.ref p, kv, .ref hd, .ref sh] ∧ Pt H p ∧ Tn K H kv k.d ∧ KM m k ∧ m ≤ 40 ∧ H hd = some (.dK kvh) ∧ RH K H kvh fs ∧ HoOk fs ∧ ShOk K H sh l0 l1 n2 ∧ ShP l0 l1 ∧
  ∀ v d H', TmOk (m + 2) 400 d → Tn K H' v d → Go p H H' → Q v H'
theorem c_leaf (T : Tp mg) (c_LTake : Cal P w K mg base 1 "_law_take" spTake []) (c_LPlain : Cal P w K mg base 2 "_law_plain" (spPlain K) []) {f : Addr} {fd : FuncData} (D : Def K mg "_law_leaf" sLLeaf f fd) (b : Binds K fd ["_law_pot_here", "_law_kind_here", "_law_held", "_law_shapes_here"] []) : Cal P w K mg base 3 "_law_leaf" (spLeaf K) [] := by
  refine cal0 D b .nil scLLeaf (fun vs H Q E h => ?_) (fun cdv A outer s H vs Q E hr h => ?_)
  · obtain ⟨p, kv, k, m, hd, kvh, fs, sh, l0, l1, n2, rfl, _⟩ := h
    rfl
  · obtain ⟨p, kv, k, m, hd, kvh, fs, sh, l0, l1, n2, rfl, hp, hkv, hk, hm, hH, hR, hO, hsh, hP, q⟩ := h
    have nd := scLLeaf.nd
    have hnil := hr.units
    refine ⟨_, (C8.pss_cut (ps_setLc (i := 4) (own := [("_law_name", 5)]) (g := gName 5) rfl nd rfl rfl (sw_true rfl rfl rfl (by decide +kernel)) (pi_list (pe_callB (call_sortedD rfl) (by rfl) T.n_sorted (by decide +kernel) (pa_cons (pv 2) pa_nil))) (blkOk_by (own := [("_law_name", 5)]) (N := NLLeaf) (sc := fnScope sLLeaf) (by decide +kernel)) (fun _ _ _ _ _ => pg_name (i := 5) nd rfl (Or.inl rfl)) (fun _ _ _ _ _ => (pts_one (pt_cmpR (r := rEqD K) (op_eqD hr.units) (pe_dget (hu_of hr) (pv 2) (pv 5) (fun _ _ => rfl)) (pv 1) (nomark _)))) (fun _ _ _ _ _ => (pe_tup (pa_cons pe_str (pa_cons (pv 5) pa_nil)))))
    (C8.pss_cut (ps_set (i := 4) nd rfl (.inl rfl) (pe_op op_cat (pv 4) (pe_lc (own := [("_law_name", 5)]) (g := gName 5) (by rfl) nd (pi_list (pe_callB (call_sortedD rfl) (by rfl) T.n_sorted (by decide +kernel) (pa_cons (pe_ix (r := rIxT K) ix_tup (pv 3) pe_int (fun _ _ => rfl)) pa_nil))) (blkOk_by (own := [("_law_name", 5)]) (N := NLLeaf) (sc := fnScope sLLeaf) (by decide +kernel)) (fun _ _ _ _ _ => pg_name (i := 5) nd rfl (Or.inl rfl)) (fun _ _ _ _ _ => (pts_one (pt_cmpR (r := rEqD K) (op_eqD hr.units) (pe_ix (r := rIxT K) ix_tup (pe_dget (hu_of hr) (pe_ix (r := rIxT K) ix_tup (pv 3) pe_int (fun _ _ => rfl)) (pv 5) (fun _ _ => rfl)) pe_int (fun _ _ => rfl)) (pv 1) (nomark _)))) (fun _ _ _ _ _ => (pe_tup (pa_cons pe_str (pa_cons (pv 5) pa_nil)))))))
    (C8.pss_cut (ps_for PassesOwn.never rfl (pi_list (pe_callB (call_sortedD rfl) (by rfl) T.n_sorted (by decide +kernel) (pa_cons (pv 2) pa_nil))) (pg_name (i := 5) nd rfl (.inr rfl))
      (C8.pss_cut (ps_set (i := 6) nd rfl (.inl rfl) (pe_dget2T (Nat.lt_of_le_of_lt (Nat.add_le_add_left (by decide : 10 ≤ 64) _) hr.units) (pe_ix (r := rIxT K) ix_tup (pv 3) pe_int (fun _ _ => rfl)) (pe_ix (r := rIxT K) ix_tup (pe_dget (hu_of hr) (pv 2) (pv 5) (fun _ _ => rfl)) (pe_un un_neg pe_int) (fun _ _ => rfl)) (pe_tup pa_nil) ⟨rfl, rfl, rfl, rfl⟩))
    (pss_one (ps_expr (pe_bm PySem.F.plainAttrs_list PySem.F.slot_list_extend PySem.F.type_list_extend mt_extend (pv 4) (pa_cons (pe_lc (own := [("_law_field", 7), ("_law_inner", 8)]) (g := gTup K 2 (gCons (gName 7) (gCons (gName 8) gNil))) (by rfl) nd (pi_tup (pv 6)) (blkOk_by (own := [("_law_field", 7), ("_law_inner", 8)]) (N := NLLeaf) (sc := fnScope sLLeaf) (by decide +kernel)) (fun _ _ _ _ _ => (pg_tup (n := 2) rfl (pgs_cons (pg_name (i := 7) nd rfl (Or.inl rfl)) (pgs_cons (pg_name (i := 8) nd rfl (Or.inl rfl)) pgs_nil)))) (fun _ _ _ _ _ => (pts_one (pt_cmpR (r := rEqD K) (op_eqD hr.units) (pv 8) (pv 1) (nomark _)))) (fun _ _ _ _ _ => (pe_tup (pa_cons pe_str (pa_cons (pe_tup (pa_cons pe_str (pa_cons (pv 5) pa_nil))) (pa_cons (pv 7) pa_nil)))))) pa_nil))))))
    (C8.pss_cut (ps_if (pt_cmpR op_eq (pe_ix (r := rIxT K) ix_tup (pv 1) pe_int (fun _ _ => rfl)) pe_str (nomark _))
      (pss_one (ps_expr (pe_bm PySem.F.plainAttrs_list PySem.F.slot_list_append PySem.F.type_list_append mt_append (pv 4) (pa_cons (pe_tup (pa_cons pe_str (pa_cons (pe_ix (r := rIxT K) ix_tup (pv 1) pe_int (fun _ _ => rfl)) pa_nil))) pa_nil))))
      pss_nil)
    (C8.pss_cut (ps_if (pt_cmpR op_in_seq (pe_ix (r := rIxT K) ix_tup (pv 1) pe_int (fun _ _ => rfl)) (pe_lst (pa_cons pe_str (pa_cons pe_str pa_nil))) (by rfl))
      (pss_one (ps_expr (pe_bm PySem.F.plainAttrs_list PySem.F.slot_list_append PySem.F.type_list_append mt_append (pv 4) (pa_cons (pe_tup (pa_cons (pe_ix (r := rIxT K) ix_tup (pv 1) pe_int (fun _ _ => rfl)) (pa_cons (pe_c c_LPlain hr (by decide) (by rfl) (pa_cons (pv 0) (pa_cons (pv 1) pa_nil))) pa_nil))) pa_nil))))
      pss_nil)
    (C8.pss_cut (ps_set (i := 4) nd rfl (.inl rfl) (pe_op op_cat (pv 4) (pe_op op_rep (pe_lst (pa_cons (pe_tup (pa_cons pe_str (pa_cons pe_str pa_nil))) pa_nil)) (pe_callTy call_int1 (by rfl) T.n_int (by decide +kernel) (pa_cons (pe_cmpR (op_eqNil hnil) (pv 4) (pe_lst pa_nil) (nomark _)) pa_nil)))))
    (pss_one (ps_ret (pe_ix ix_list (pv 4) (pe_c c_LTake hr (by decide) (by rfl) (pa_cons (pv 0) (pa_cons (pe_callB call_len_seq (by rfl) T.n_len (by decide +kernel) (pa_cons (pv 4) pa_nil)) pa_nil))) (fun _ _ => rfl)))))))))), ?_⟩
    have nhp : hd ≠ p := hp.neK hH
    obtain ⟨d0, d1, d2, kv0, kv1, kv2, hq, h0, h1, h2, r0, r1, r2⟩ := hsh.at_
    have n0p := hp.neK h0
    have n1p := hp.neK h1
    have hfl : (fs.map (·.1)).length ≤ 11 := by rw [List.length_map]; exact hO.len
    have look : ∀ z, z ∈ fs.map (·.1) → ∃ v k', valV kvh (.inr z) = some v ∧ (z, k') ∈ fs ∧ Tn K H v (Kd.d k') := fun z hz => by
      rcases getP (fun _ _ h => h.1) hR z with ⟨_, _, h⟩ | ⟨v, a, e1, _, e3, e4⟩
      · exact absurd hz h
      · exact ⟨v, a, e1, e3, e4.2⟩
    have lookB : ∀ z, z ∈ l1.map (·.1) → ∃ t k' kb x, valV kv1 (.inr z) = some (.ref t) ∧ (z, k') ∈ l1 ∧ SqT K H t [kb, x] ∧ Tn K H kb (Kd.d k') := fun z hz => by
      rcases getP (fun _ _ h => h.1) r1 z with ⟨_, _, h⟩ | ⟨v, a, e1, _, e3, e4⟩
      · exact absurd hz h
      · obtain ⟨_, t, kb, x, e5, e6, e7⟩ := e4
        simp only at e5
        subst e5
        exact ⟨t, a, kb, x, e1, e3, e6, e7⟩
    have hks : SeqAt.shaped k.d = true := hk.kl.shaped (by omega)
    -- the names held
    refine ⟨fun σ' H' => ∃ F, σ' = [some (.ref p), some kv, some (.ref hd), some (.ref sh), some (.ref F), none, none, none, none] ∧ Lf K (m + 2) 400 p F H H' 11, ?_, ?_⟩
    · refine ⟨_, rfl, hd, kvh, fs.map (·.1), rfl, Rd.of hH, hR.keys, by omega, fun ys L hperm _ hL => ⟨L, rfl, ⟨_, SqL.of upd_same⟩, ?_⟩⟩
      have gL : Go p H (upd H L (.lst (ys.map V.str))) := (Go.refl hp).new hL
      have nLp : L ≠ p := hp.ne hL
      have hyl : ys.length ≤ 11 := by rw [hperm.length_eq]; exact hfl
      refine lc_leaf (K := K) (N := m + 2) (W := 400) (p := p) (walk_list (K := K) (a := L) (xs := ys.map V.str)) (by rw [List.length_map]; omega) gL.2 (fun H' g => SqL.of (g.at nLp upd_same)) (fun i x H1 H2 C Q' hi g1 hY hC hQ => ?_) (fun i x H1 H2 hi g1 hY => hY.1) (fun F H' hF hLf => ?_)
      · obtain ⟨rfl, hx⟩ := hY
        obtain ⟨z, hz, rfl⟩ : ∃ z, z ∈ ys ∧ x = .str z := by
          rw [List.getElem?_map] at hx
          cases e : ys[i]? with
          | none => rw [e] at hx; cases hx
          | some z => rw [e] at hx; exact ⟨z, List.mem_of_getElem? e, (Option.some.inj hx).symm⟩
        have hzf := hperm.subset hz
        obtain ⟨v, k', e1, e2, e3⟩ := look z hzf
        have g2 := gL.trans g1
        have hg := DGet.k (k := .inr z) (g2.at nhp hH)
        rw [e1] at hg
        have tr := Go.tr hp g2
        refine ⟨wipe1, _, rfl, _, rfl, hd, v, rfl, hg, _, rfl, k'.d, k.d, (e3.tr tr).dp, (hkv.tr tr).dp, (hO.km _ e2).kl.shaped (by decide), hks, _, rfl, ite2 (fun e => ?_) (fun e => hC)⟩
        have hl := held_lay z (by obtain ⟨a, ha, e⟩ := List.mem_map.mp hzf; rw [← e]; exact hO.nm a ha)
        exact ⟨_, rfl, (by show 2 ≤ sizeLine; decide), fun t ht => hQ _ _ _ ((tm_name hl.1 hl.2).mono (by omega) (by omega)) (Tn.newT ht (.cons (Tn.str "name") (.cons (Tn.str z) .nil))) (Same.new ht)⟩
      · rw [List.length_map] at hLf
        exact ⟨F, rfl, (hLf.back gL).more hyl⟩
    -- the boxes
    · rintro σ H1 ⟨F, rfl, hF⟩
      have g1 := hF.go
      refine ⟨fun σ' H' => ∃ F, σ' = [some (.ref p), some kv, some (.ref hd), some (.ref sh), some (.ref F), none, none, none, none] ∧ Lf K (m + 2) 400 p F H H' 14, ?_, ?_⟩
      · have tr1 := Go.tr hp g1
        refine ⟨_, rfl, _, rfl, sh, _, 1, .ref d1, rfl, rfl, tr1.sq hq, atI_nat (j := 1) rfl, d1, kv1, l1.map (·.1), rfl, Rd.of (g1.at n1p h1), r1.keys, by rw [List.length_map]; have := hP.len1; omega, fun ys L hperm _ hL => ⟨L, rfl, ⟨_, SqL.of upd_same⟩, ?_⟩⟩
        have gL : Go p H1 (upd H1 L (.lst (ys.map V.str))) := (Go.refl g1.2).new hL
        have nLp : L ≠ p := g1.ne hL
        have hyl : ys.length ≤ 3 := by rw [hperm.length_eq, List.length_map]; exact hP.len1
        refine lc_leaf (K := K) (N := m + 2) (W := 400) (p := p) (walk_list (K := K) (a := L) (xs := ys.map V.str)) (by rw [List.length_map]; omega) gL.2 (fun H' g => SqL.of (g.at nLp upd_same)) (fun i x H2 H3 C Q' hi g2 hY hC hQ => ?_) (fun i x H1 H2 hi g1 hY => hY.1) (fun G H' hG hLf => ?_)
        · obtain ⟨rfl, hx⟩ := hY
          obtain ⟨z, hz, rfl⟩ : ∃ z, z ∈ ys ∧ x = .str z := by
            rw [List.getElem?_map] at hx
            cases e : ys[i]? with
            | none => rw [e] at hx; cases hx
            | some z => rw [e] at hx; exact ⟨z, List.mem_of_getElem? e, (Option.some.inj hx).symm⟩
          have hzf := hperm.subset hz
          obtain ⟨t, k', kb, xb, e1, e2, e3, e4⟩ := lookB z hzf
          have g3 := (g1.trans gL).trans g2
          have hg := DGet.k (k := .inr z) (g3.at n1p h1)
          rw [e1] at hg
          have tr := Go.tr hp g3
          refine ⟨wipe1, _, rfl, sh, _, 1, .ref d1, rfl, rfl, tr.sq hq, atI_nat (j := 1) rfl, _, rfl, d1, .ref t, rfl, hg, t, _, 0, kb, rfl, rfl, tr.sq e3, atI_nat (j := 0) rfl, _, rfl, k'.d, k.d, (e4.tr tr).dp, (hkv.tr tr).dp, (hP.kl1 _ e2).kl.shaped (by decide), hks, _, rfl, ite2 (fun e => ?_) (fun e => hC)⟩
          have hl := box_lay z (hP.sub1.subset hzf)
          exact ⟨_, rfl, (by show 2 ≤ sizeLine; decide), fun t ht => hQ _ _ _ ((tm_box hl.1 hl.2).mono (by omega) (by omega)) (Tn.newT ht (.cons (Tn.str "box") (.cons (Tn.str z) .nil))) (Same.new ht)⟩
        · rw [List.length_map] at hLf
          exact Lf.cat hF ((hLf.back gL).more hyl) (by decide) (fun F' H' hl _ => ⟨F', rfl, hl⟩)
      -- the fields
      · rintro σ H2 ⟨F, rfl, hF⟩
        have g2 := hF.go
        refine ⟨fun σ' H' => ∃ F o5 o6, σ' = [some (.ref p), some kv, some (.ref hd), some (.ref sh), some (.ref F), o5, o6, none, none] ∧ Lf K (m + 2) 400 p F H H' 60, ?_, ?_⟩
        · refine ⟨_, rfl, hd, kvh, fs.map (·.1), rfl, Rd.of (g2.at nhp hH), hR.keys, by omega, fun ys L hperm _ hL => ⟨L, rfl, ⟨_, SqL.of upd_same⟩, ?_⟩⟩
          have nLp : L ≠ p := g2.ne hL
          have gL : Go p H2 (upd H2 L (.lst (ys.map V.str))) := (Go.refl g2.2).new hL
          have nLF : L ≠ F := fun e => by
            obtain ⟨vs, ds, a, _⟩ := hF.ex
            rw [e, a] at hL
            cases hL
          have hyl : ys.length ≤ 11 := by rw [hperm.length_eq]; exact hfl
          refine for_it (walk_list (K := K) (a := L) (xs := ys.map V.str)) (fun i σ H' => ∃ o5 o6, σ = [some (.ref p), some kv, some (.ref hd), some (.ref sh), some (.ref F), o5, o6, none, none] ∧ H' L = some (.lst (ys.map V.str)) ∧ Lf K (m + 2) 400 p F H H' (14 + 4 * i)) ⟨_, _, rfl, upd_same, hF.on gL⟩ (fun i σ H' _ hW => let ⟨_, _, _, hh, _⟩ := hW; SqL.of hh) (fun i x σ H3 H3' hi hW hY => ?_) (fun σ H3 hW => ?_)
          · obtain ⟨o5, o6, rfl, w1, w2⟩ := hW
            obtain ⟨rfl, hx⟩ := hY
            obtain ⟨z, hz, rfl⟩ : ∃ z, z ∈ ys ∧ x = .str z := by
              rw [List.getElem?_map] at hx
              cases e : ys[i]? with
              | none => rw [e] at hx; cases hx
              | some z => rw [e] at hx; exact ⟨z, List.mem_of_getElem? e, (Option.some.inj hx).symm⟩
            have hi' : i < ys.length := by rwa [List.length_map] at hi
            have hzf := hperm.subset hz
            obtain ⟨v, k', e1, e2, e3⟩ := look z hzf
            have g3 := w2.go
            have tr := Go.tr hp g3
            have hg := DGet.k (k := .inr z) (g3.at nhp hH)
            rw [e1] at hg
            obtain ⟨a, xs, y, rfl, hqa, hat, hy⟩ := tk_last (e3.tr tr)
            refine ⟨fun σ' H' => ∃ t ps gs, σ' = [some (.ref p), some kv, some (.ref hd), some (.ref sh), some (.ref F), some (.str z), some (.ref t), none, none] ∧ SqT K H' t (ps.map V.ref) ∧ PrP K H' ps gs ∧ FsOk 4 fieldN gs ∧ Same H3' H', ?_, ?_⟩
            · refine ⟨_, rfl, sh, _, 0, .ref d0, rfl, rfl, tr.sq hq, atI_nat (j := 0) rfl, d0, rfl, .inl ⟨_, .inl (g3.at n0p h0)⟩, _, rfl, _, rfl, hd, .ref a, rfl, hg, _, rfl, a, xs, _, y, rfl, rfl, hqa, hat, (by show 0 ≤ sizeLine; decide), fun t ht => ?_⟩
              have g4 := g3.new (o := .tup []) ht
              have h04 := g4.at n0p h0
              have sn : Same H3' (upd H3' t (.tup [])) := Same.new ht
              rcases hy with ⟨u, rfl⟩ | ⟨k2, rfl, hk2⟩
              · refine .inl ⟨_, DGet.k (k := .inr u) h04, ?_⟩
                rcases getP (fun _ _ h => h.1) r0 u with ⟨m1, _⟩ | ⟨v2, gs, m1, _, m3, m4⟩
                · rw [m1]
                  exact ⟨t, [], [], rfl, SqT.of upd_same, .nil, ⟨by simp, fun a h => nomatch h⟩, sn⟩
                · obtain ⟨_, t2, m5, m6⟩ := m4
                  simp only at m5
                  subst m5
                  rw [m1]
                  obtain ⟨ps, hpt, hpr, _⟩ := m6.go hp g4
                  exact ⟨t2, ps, gs, rfl, hpt.sq, hpr, hP.kl0 _ m3, sn⟩
              · obtain ⟨ds, e4, e5⟩ := kd_tup k2
                have hdep := (hO.km _ e2).kl.2
                simp only [Kd.d, PyData.depth, PyData.depthAll] at hdep
                have hk3 := (hk2.tr (TR.same sn)).dp
                rw [e4] at hk3
                obtain ⟨b2, eb⟩ : ∃ b2, y = .ref b2 := by cases hk3; exact ⟨_, rfl⟩
                refine .inr ⟨kv0, b2, ds, eb, Rd.of h04, fun q9 hq9 => ?_, hk3, e5, by rw [← e4]; omega, t, [], [], rfl, SqT.of upd_same, .nil, ⟨by simp, fun a h => nomatch h⟩, sn⟩
                have hm9 : q9.1 ∈ kv0.map (·.1) := List.mem_map_of_mem hq9
                rw [r0.keys] at hm9
                obtain ⟨u, _, e9⟩ := List.mem_map.mp hm9
                exact ⟨u, e9.symm⟩
            · rintro σ H4 ⟨t, ps, gs, rfl, ht, hpr, hgs, s4⟩
              have w3 : Lf K (m + 2) 400 p F H H4 (14 + 4 * i) := w2.on ((Go.refl g3.2).same s4)
              have hgl : gs.length ≤ 4 := by
                have h1 := hgs.sub.length_le
                rw [List.length_map] at h1
                exact h1
              have hpl : ps.length = gs.length := Paired.length hpr
              have p4 := w3.go.2
              refine ⟨_, rfl, .inl ⟨rfl, w3.sq⟩, _, rfl, t, rfl, ⟨_, ht⟩, ?_⟩
              have tr4 := (Go.tr hp w3.go)
              refine lc_leaf (K := K) (N := m + 2) (W := 400) (p := p) (walk_tup (K := K) (a := t) (xs := ps.map V.ref)) (by rw [List.length_map]; omega) p4 (fun H' g => (Go.tr p4 g).sq ht) (fun i x H5 H6 C Q' hi g5 hY hC hQ => ?_) (fun i x H1 H2 hi g1 hY => hY.1) (fun G H' hG hLf => ?_)
              · obtain ⟨rfl, hx⟩ := hY
                rw [List.length_map] at hi
                have ex : x = .ref ps[i] := by
                  rw [List.getElem?_map, List.getElem?_eq_getElem hi] at hx
                  cases hx
                  rfl
                subst ex
                have t5 := Go.tr p4 g5
                obtain ⟨⟨nm, k9⟩, hfi, v9, hsq, hv9⟩ := pairedAt (hpr.tr t5) (List.getElem?_eq_getElem hi)
                have hmem := List.mem_of_getElem? hfi
                refine ⟨ps[i], _, rfl, hsq, rfl, _, _, rfl, _, _, rfl, rfl, rfl, _, rfl, _, rfl, k9.d, k.d, hv9.dp, (hkv.tr (tr4.trans t5)).dp, (hgs.kl _ hmem).kl.shaped (by decide), hks, _, rfl, ite2 (fun e => ?_) (fun e => hC)⟩
                have hl := held_lay z (by obtain ⟨a, ha, e⟩ := List.mem_map.mp hzf; rw [← e]; exact hO.nm a ha)
                have hl2 := field_lay nm (hgs.sub.subset (List.mem_map_of_mem (f := (·.1)) hmem))
                refine ⟨_, rfl, (by show 2 ≤ sizeLine; decide), fun t1 ht1 => ⟨_, rfl, (by show 3 ≤ sizeLine; decide), fun t2 ht2 => hQ _ (.tuple [.str "field", .tuple [.str "name", .str z], .str nm]) _ ((tm_field (tm_name hl.1 hl.2) hl2.1 hl2.2).mono (by omega) (by omega)) (Tn.newT ht2 (.cons (Tn.str "field") (.cons (Tn.newT ht1 (.cons (Tn.str "name") (.cons (Tn.str z) .nil))) (.cons (Tn.str nm) .nil)))) ((Same.new ht1).trans (Same.new ht2))⟩⟩
              · rw [List.length_map] at hLf
                unfold tNil; dsimp only
                refine Lf.join w3 (hLf.more (n' := 4) (by omega)) (by omega) (fun H' hl gx keep _ => ?_)
                exact ⟨_, _, rfl, keep _ _ nLF (gx.at nLp (s4 _ _ w1)), hl⟩
          · obtain ⟨o5, o6, rfl, w1, w2⟩ := hW
            rw [List.length_map] at w2
            exact ⟨F, o5, o6, rfl, w2.more (by omega)⟩
        -- an empty list
        · rintro σ H3 ⟨F, o5, o6, rfl, hF⟩
          have tr3 := Go.tr hp hF.go
          refine ⟨fun σ' H' => σ' = [some (.ref p), some kv, some (.ref hd), some (.ref sh), some (.ref F), o5, o6, none, none] ∧ Lf K (m + 2) 400 p F H H' 61, ?_, ?_⟩
          · obtain ⟨a, xs, rfl, hqk, hx0, hxl, _⟩ := tk_at (hkv.tr tr3)
            refine ⟨_, rfl, a, xs, 0, _, rfl, rfl, hqk, atI_nat (j := 0) hx0, rfl, _, rfl, ite2 (fun e => ?_) (fun e => ⟨rfl, hF.more (by decide)⟩)⟩
            obtain ⟨k', rfl⟩ := word_list (V.str.inj (of_decide_eq_true e))
            obtain ⟨v', rfl, hv'⟩ := hxl k' rfl
            refine ⟨_, rfl, .inl ⟨rfl, hF.sq⟩, _, rfl, a, _, 1, v', rfl, rfl, hqk, atI_nat (j := 1) rfl, (by show 2 ≤ sizeLine; decide), fun t ht => ?_⟩
            unfold tNil; dsimp only
            exact (hF.on ((Go.refl hF.go.2).new ht)).push (by decide) (Tn.newT ht (.cons (Tn.str "empty") (.cons hv' .nil))) ((tm_empty hk.inn).mono (by omega) (by omega)) (fun H' hl _ => ⟨rfl, hl⟩)
          · rintro σ H4 ⟨rfl, hF⟩
            have tr4 := Go.tr hp hF.go
            refine ⟨fun σ' H' => σ' = [some (.ref p), some kv, some (.ref hd), some (.ref sh), some (.ref F), o5, o6, none, none] ∧ Lf K (m + 2) 400 p F H H' 62, ?_, ?_⟩
            · obtain ⟨a, xs, rfl, hqk, hx0, _, _⟩ := tk_at (hkv.tr tr4)
              refine ⟨_, rfl, a, xs, 0, _, rfl, rfl, hqk, atI_nat (j := 0) hx0, (by show 2 ≤ sizeLine; decide), fun b1 hb1 => ⟨b1, _, rfl, .inl (SqL.of upd_same), rfl, rfl, _, rfl, ?_⟩⟩
              have gb : Go p H4 (upd H4 b1 (.lst [.str "number", .str "truth"])) := (Go.refl hF.go.2).new hb1
              have hF5 := hF.on gb
              show if (inV (.str k.word) [.str "number", .str "truth"]) = true then _ else _
              rw [in2]
              refine ite2 (fun e => ?_) (fun e => ⟨rfl, hF5.more (by decide)⟩)
              have hq5 := (Go.tr hF.go.2 gb).sq hqk
              have hk5 := (hkv.tr (tr4.trans (Go.tr hF.go.2 gb)))
              refine ⟨_, rfl, .inl ⟨rfl, hF5.sq⟩, _, rfl, a, xs, 0, _, rfl, rfl, hq5, atI_nat (j := 0) hx0, _, rfl, _, rfl, p, .ref a, k, rfl, hF5.go.2, hk5, fun v H6 hpl g6 => ⟨(by show 2 ≤ sizeLine; decide), fun t ht => ?_⟩⟩
              have hF6 := (hF5.on g6).on ((Go.refl (hF5.go.trans g6).2).new (o := .tup [.str k.word, v]) ht)
              have hw : k = .num ∨ k = .tru := by
                have hu : k.word = "number" ∨ k.word = "truth" := by simpa using e
                cases k with
                | num => exact .inl rfl
                | tru => exact .inr rfl
                | rcd z => rcases hu with h | h <;> exact absurd h (by show ¬ (("record" : Str) = _); decide +kernel)
                | lst z => rcases hu with h | h <;> exact absurd h (by show ¬ (("list" : Str) = _); decide +kernel)
              rcases hw with rfl | rfl
              · obtain ⟨i, rfl, i0, i1⟩ := hpl.1 rfl
                unfold tNil; dsimp only
                exact hF6.push (by decide) (Tn.newT ht (.cons (Tn.str "number") (.cons ⟨.int i, rfl⟩ .nil))) ((tm_int i0 i1).mono (by omega) (by omega)) (fun H' hl _ => ⟨rfl, hl⟩)
              · obtain ⟨i, rfl⟩ := hpl.2 rfl
                unfold tNil; dsimp only
                exact hF6.push (by decide) (Tn.newT ht (.cons (Tn.str "truth") (.cons (Tn.bl i) .nil))) ((tm_truth i).mono (by omega) (by omega)) (fun H' hl _ => ⟨rfl, hl⟩)
            · rintro σ H5 ⟨rfl, hF⟩
              refine ⟨fun σ' H' => ∃ F vs ds, σ' = [some (.ref p), some kv, some (.ref hd), some (.ref sh), some (.ref F), o5, o6, none, none] ∧ H' F = some (.lst vs) ∧ F ≠ p ∧ TnAll K H' vs ds ∧ (∀ d ∈ ds, TmOk (m + 2) 400 d) ∧ 1 ≤ vs.length ∧ vs.length ≤ 100 ∧ Go p H H', ?_, ?_⟩
              · obtain ⟨⟨vs, ds, f1, f2, f3, f4⟩, f5, f6, f7⟩ := hF
                refine ⟨_, rfl, (by show 2 ≤ sizeLine; decide), fun t ht => ⟨(by show 1 ≤ sizeLine; decide), fun l hl => ⟨_, rfl, (by show 0 ≤ sizeLine; decide), fun l2 hl2 => ?_⟩⟩⟩
                have s1 : Same H5 (upd H5 t (.tup [.str "name", .str "lost"])) := Same.new ht
                have s2 := Same.new (o := .lst [.ref t]) hl
                have s3 := Same.new (o := .lst []) hl2
                have s9 := (s1.trans s2).trans s3
                have hT := ((Tn.newT (K := K) ht (.cons (Tn.str "name") (.cons (Tn.str "lost") .nil))).tr (TR.same s2)).tr (TR.same s3)
                have hlA := s3 _ _ (upd_same (H := (upd H5 t (.tup [.str "name", .str "lost"]))) (a := l) (o := .lst [.ref t]))
                refine ⟨F, l2, vs, rfl, rfl, SqL.of (s9 _ _ f1), SqL.of upd_same, .inr ⟨_, rfl, ?_⟩⟩
                have hk01 : ∀ b : Bool, (if b = true then (1 : Int) else 0) = 0 ∨ (if b = true then (1 : Int) else 0) = 1 := fun b => by cases b <;> simp
                refine ⟨l, _, [.ref t], rfl, rfl, hlA, by rcases hk01 vs.isEmpty with h | h <;> rw [h] <;> decide, by rcases hk01 vs.isEmpty with h | h <;> rw [h] <;> decide, by rw [sizeLine_eq]; rcases hk01 vs.isEmpty with h | h <;> rw [h] <;> simp, fun M hM => ?_⟩
                generalize upd (upd (upd H5 t (.tup [.str "name", .str "lost"])) l (.lst [.ref t])) l2 (.lst []) = H6 at *
                have sM := Same.new (o := .lst (List.replicate (if vs.isEmpty = true then (1 : Int) else 0).toNat [V.ref t]).flatten) hM
                refine ⟨F, M, vs, _, rfl, rfl, sM _ _ (s9 _ _ f1), upd_same, ?_, fun N hN => ?_⟩
                · rw [sizeLine_eq]
                  cases vs with
                  | nil => simp
                  | cons a b => simp at f4 ⊢; omega
                · have sN := Same.new (o := .lst (vs ++ (List.replicate (if vs.isEmpty = true then (1 : Int) else 0).toNat [V.ref t]).flatten)) hN
                  have sA := (s9.trans sM).trans sN
                  have gA := f7.same sA
                  refine ⟨N, _, if vs.isEmpty = true then [.tuple [.str "name", .str "lost"]] else ds, rfl, upd_same, (f7.same (s9.trans sM)).ne hN, ?_, ?_, ?_, ?_, gA⟩
                  · cases vs with
                    | nil => exact .cons (hT.tr (TR.same (sM.trans sN))) .nil
                    | cons a b =>
                      have := f2.tr (TR.same sA)
                      simpa using this
                  · intro d hd
                    cases vs with
                    | nil =>
                      have e9 : d = .tuple [.str "name", .str "lost"] := by simpa using hd
                      rw [e9]
                      exact (tm_name (by decide +kernel) (by decide +kernel)).mono (by omega) (by omega)
                    | cons a b => exact f3 d (by simpa using hd)
                  · cases vs with
                    | nil => simp
                    | cons a b => simp
                  · cases vs with
                    | nil => simp
                    | cons a b => simp at f4 ⊢; omega
              · rintro σ H6 ⟨F, vs, ds, rfl, f1, f5, f2, f3, f8, f4, f7⟩
                refine ⟨_, rfl, _, rfl, _, rfl, F, _, rfl, .inl (SqL.of f1), p, _, rfl, f7.2, by omega, small300 (by omega) (by omega), fun r H7 r0 r1 g7 => ?_⟩
                obtain ⟨j, rfl⟩ : ∃ j : Nat, r = (j : Int) := ⟨r.toNat, by omega⟩
                have hj : j < vs.length := by omega
                obtain ⟨d, hd, hv⟩ := f2.at (List.getElem?_eq_getElem hj)
                exact ⟨F, _, (j : Int), vs[j], rfl, rfl, SqL.of (g7.at f5 f1), atI_nat (List.getElem?_eq_getElem hj), q _ d _ (f3 d (List.mem_of_getElem? hd)) (hv.tr (Go.tr f7.2 g7)) (f7.trans g7)⟩
end
end K31
set_option Elab.async false
set_option linter.all false
set_option maxRecDepth 100000
set_option maxHeartbeats 4000000
namespace K31
open PySem PySem.Spec PyProof.Rows L2 MixW
open C8 (Cal Def cal0 pe_c fnBody fnScope fnArgs)
section
variable {P : Program} {w : World} {K : PySem.W.Frag} {mg : Str → Option Value} {base : Heap}
theorem ShOk.go {p a : Addr} {H H' : Hp} {l0 : List (Str × List (Str × Kd))} {l1 : List (Str × Kd)} {n2 : List Str} (hp : Pt H p) (g : Go p H H') (h : ShOk K H a l0 l1 n2) : ShOk K H' a l0 l1 n2 := by
  obtain ⟨d0, d1, d2, kv0, kv1, kv2, hq, h0, h1, h2, r0, r1, r2, r3⟩ := h.at_
  have tr := Go.tr hp g
  exact ⟨d0, d1, d2, kv0, kv1, kv2, tr.sq hq, g.at (hp.neK h0) h0, g.at (hp.neK h1) h1, g.at (hp.neK h2) h2, r0.go hp g, r1.tr tr, r2.tr tr, r3⟩
/-- how heavy a drawn term may be -/
def wtT : Nat → Nat
  | 0 => 400
  | j + 1 => 3 * wtT j + 10
theorem wt400 : ∀ j, 400 ≤ wtT j
  | 0 => Nat.le_refl _
  | j + 1 => by
    have := wt400 j
    show 400 ≤ 3 * wtT j + 10
    omega
abbrev sLTerm : Stmt := topS 28
abbrev NLTerm : List Str := ["_law_pot_here", "_law_kind_here", "_law_held", "_law_shapes_here", "_law_deep", "_law_odd_here", "_law_forms_here", "_law_form", "_law_part"]
theorem scLTerm : FnScope NLTerm ["_law_pot_here", "_law_kind_here", "_law_held", "_law_shapes_here", "_law_deep", "_law_odd_here"] (fnScope sLTerm) := ⟨rfl, rfl, rfl, by decide +kernel, rfl, by decide +kernel, by decide +kernel⟩
def spTerm (K : PySem.W.Frag) (n : Nat) : Sp := fun vs H Q _ => ∃ (p : Addr) (kv : V) (k : Kd) (m j : Nat) (o : Int) (hd : Addr) (kvh : List (Key × V)) (fs : List (Str × Kd)) (sh : Addr) (l0 : List (Str × List (Str × Kd))) (l1 : List (Str × Kd)) (n2 : List Str),
  vs = [.ref p, kv, .ref hd, .ref sh, .int (j : Nat), .int o] ∧ j < n ∧ 0 < o ∧ o < 1000 ∧ Pt H p ∧ Tn K H kv k.d ∧ KM m k ∧ 2 ≤ m ∧ m + j ≤ 40 ∧ H hd = some (.dK kvh) ∧ RH K H kvh fs ∧ HoOk fs ∧ ShOk K H sh l0 l1 n2 ∧ ShP l0 l1 ∧
  ∀ v d H', TmOk (m + 2 * j + 5) (wtT j) d → Tn K H' v d → Go p H H' → Q v H'
theorem c_term (T : Tp mg) (c_LTake : Cal P w K mg base 1 "_law_take" spTake []) (c_LOdd : Cal P w K mg base 2 "_law_odd" (spTermN K 5) []) (c_LLeaf : Cal P w K mg base 3 "_law_leaf" (spLeaf K) []) (c_LForms : Cal P w K mg base 6 "_law_forms" (spForms K) []) {f : Addr} {fd : FuncData} (D : Def K mg "_law_term" sLTerm f fd) (b : Binds K fd ["_law_pot_here", "_law_kind_here", "_law_held", "_law_shapes_here", "_law_deep", "_law_odd_here"] []) :
    ∀ n : Nat, Cal P w K mg base (7 + n) "_law_term" (spTerm K n) []
  | 0 => cal_no _ (fun vs H Q E ⟨p, kv, k, m, j, o, hd, kvh, fs, sh, l0, l1, n2, _, h, _⟩ => absurd h (Nat.not_lt_zero _)) D b
  | n + 1 => by
    have c_LTerm := c_term T c_LTake c_LOdd c_LLeaf c_LForms D b n
    refine cal0 D b .nil scLTerm (fun vs H Q E h => ?_) (fun cdv A outer s H vs Q E hr h => ?_)
    · obtain ⟨p, kv, k, m, j, o, hd, kvh, fs, sh, l0, l1, n2, rfl, _⟩ := h
      rfl
    · obtain ⟨p, kv, k, m, j, o, hd, kvh, fs, sh, l0, l1, n2, rfl, hj, ho0, ho1, hp, hkv, hk, hm2, hm, hH, hR, hO, hsh, hP, q⟩ := h
      have nd := scLTerm.nd
      have hr := (show Room (7 + n) _ from hr)
      refine ⟨_, (pss_cons (ps_if (pt_cmpR op_eq (pe_c c_LTake hr (by omega) (by rfl) (pa_cons (pv 0) (pa_cons (pv 5) pa_nil))) pe_int (nomark _))
      (pss_one (ps_ret (pe_c c_LOdd hr (by omega) (by rfl) (pa_cons (pv 0) pa_nil))))
      pss_nil)
    (pss_cons (ps_if (PW.pt (pw_or (pt_cmpR op_eq (pv 4) pe_int (nomark _)) (pw_or1 (pt_cmpR op_eq (pe_c c_LTake hr (by omega) (by rfl) (pa_cons (pv 0) (pa_cons pe_int pa_nil))) pe_int (nomark _)))))
      (pss_one (ps_ret (pe_c c_LLeaf hr (by omega) (by rfl) (pa_cons (pv 0) (pa_cons (pv 1) (pa_cons (pv 2) (pa_cons (pv 3) pa_nil)))))))
      pss_nil)
    (C8.pss_cut (ps_set (i := 6) nd rfl (.inl rfl) (pe_c c_LForms hr (by omega) (by rfl) (pa_cons (pv 0) (pa_cons (pv 1) (pa_cons (pe_callB (call_sortedD rfl) (by rfl) T.n_sorted (by decide +kernel) (pa_cons (pe_ix (r := rIxT K) ix_tup (pv 3) pe_int (fun _ _ => rfl)) pa_nil)) pa_nil)))))
    (C8.pss_cut (ps_set (i := 7) nd rfl (.inl rfl) (pe_ix ix_list (pv 6) (pe_c c_LTake hr (by omega) (by rfl) (pa_cons (pv 0) (pa_cons (pe_callB call_len_seq (by rfl) T.n_len (by decide +kernel) (pa_cons (pv 6) pa_nil)) pa_nil))) (fun _ _ => rfl)))
    (pss_one (ps_ret (pe_op (r := rCatA K) op_catA (pe_tup (pa_cons (pe_ix (r := rIxT K) ix_tup (pv 7) pe_int (fun _ _ => rfl)) pa_nil)) (pe_callTy call_tupleP (by rfl) T.n_tuple (by decide +kernel) (pa_cons (pe_lc (own := [("_law_part", 8)]) (g := gName 8) (by rfl) nd (pi_tup (pe_slice sl_tupA (pv 7) (po_some pe_int) po_none)) (blkOk_by (own := [("_law_part", 8)]) (N := NLTerm) (sc := fnScope sLTerm) (by decide +kernel)) (fun _ _ _ _ _ => pg_name (i := 8) nd rfl (Or.inl rfl)) (fun _ _ _ _ _ => pts_nil) (fun _ _ _ _ _ => (pe_c c_LTerm hr (Nat.le_refl _) (by rfl) (pa_cons (pv 0) (pa_cons (pv 8) (pa_cons (pv 2) (pa_cons (pv 3) (pa_cons (pe_op op_sub (pv 4) pe_int) (pa_cons (pv 5) pa_nil))))))))) pa_nil))))))))), ?_⟩
      have hwj := wt400 j
      refine ⟨_, rfl, _, rfl, p, o, rfl, hp, ho0, small300 (by omega) (by omega), fun r H1 r0 r1 g1 => ⟨rfl, _, rfl, ite2 (fun e => ?_) (fun e => ?_)⟩⟩
      · refine ⟨_, rfl, p, rfl, g1.2, fun v d H' hg hd5 hw hv g => ?_⟩
        have gd := good_of hg
        exact q v d _ ⟨gd.tm, gd.lay, by omega, by omega⟩ hv (g1.trans g)
      · refine ⟨_, rfl, rfl, _, rfl, ite2 (fun e => ?_) (fun e => ?_)⟩
        · have tr := Go.tr hp g1
          exact ⟨_, rfl, _, rfl, _, rfl, _, rfl, p, kv, k, m, hd, kvh, fs, sh, l0, l1, n2, rfl, g1.2, hkv.tr tr, hk, by omega, g1.at (hp.neK hH) hH, hR.tr tr, hO, hsh.go hp g1, hP, fun v d H' hd hv g => q v d _ (hd.mono (by omega) hwj) hv (g1.trans g)⟩
        · refine ⟨_, rfl, p, 2, rfl, g1.2, by decide, by decide, fun r2 H2 r20 r21 g2' => ⟨rfl, _, rfl, ite2 (fun e2 => ?_) (fun e2 => ?_)⟩⟩
          · have g2 := g1.trans g2'
            have tr := Go.tr hp g2
            exact ⟨_, rfl, _, rfl, _, rfl, _, rfl, p, kv, k, m, hd, kvh, fs, sh, l0, l1, n2, rfl, g2.2, hkv.tr tr, hk, by omega, g2.at (hp.neK hH) hH, hR.tr tr, hO, hsh.go hp g2, hP, fun v d H' hd hv g => q v d _ (hd.mono (by omega) hwj) hv (g2.trans g)⟩
          · have g2 := g1.trans g2'
            have tr2 := Go.tr hp g2
            have hj0 : j ≠ 0 := fun e9 => by
              subst e9
              exact e (by decide)
            obtain ⟨j, rfl⟩ : ∃ j', j = j' + 1 := ⟨j - 1, by omega⟩
            obtain ⟨d0, d1, d2, kv0, kv1, kv2, hq, h0, h1, h2, R0, _, _⟩ := (hsh.go hp g2).at_
            refine ⟨fun σ' H' => ∃ l us ds, σ' = [some (.ref p), some kv, some (.ref hd), some (.ref sh), some (.int ((j + 1 : Nat) : Int)), some (.int o), some (.ref l), none, none] ∧ Sm K p l H H' us ds ∧ (∀ d ∈ ds, FormOk (m + 1) d) ∧ 1 ≤ ds.length ∧ ds.length ≤ 20, ?_, ?_⟩
            · refine ⟨_, rfl, _, rfl, _, rfl, sh, _, 0, .ref d0, rfl, rfl, hq, atI_nat (j := 0) rfl, d0, kv0, l0.map (·.1), rfl, Rd.of h0, R0.keys, by rw [List.length_map]; have := hP.len0; omega, fun ys M hperm _ hM => ?_⟩
              have g3 := g2.new (o := .lst (ys.map V.str)) hM
              refine ⟨p, M, kv, k, m, ys, rfl, g3.2, hkv.tr (Go.tr hp g3), hk, hm2, by omega, upd_same, g2.ne hM, fun z hz => hP.lay z (hperm.subset hz), by have h9 := hP.len0; rw [hperm.length_eq, List.length_map]; omega, fun l us ds H' S hF h1 h20 => ?_⟩
              exact ⟨l, us, ds, rfl, ⟨S.at_, S.ne, S.all, g3.trans S.go⟩, hF, h1, h20⟩
            · rintro σ H3 ⟨l, us, ds, rfl, S, hF, hl1, hl20⟩
              refine ⟨fun σ' H' => ∃ (a : Addr) (u : Str) (vr : List V) (kk : List Kd), σ' = [some (.ref p), some kv, some (.ref hd), some (.ref sh), some (.int ((j + 1 : Nat) : Int)), some (.int o), some (.ref l), some (.ref a), none] ∧ SqT K H' a (.str u :: vr) ∧ TnAll K H' vr (kk.map Kd.d) ∧ kk.length ≤ 3 ∧ u.cps.size ≤ 6 ∧ (PyData.str u).canLay0 = true ∧ (∀ k ∈ kk, KM (m + 1) k) ∧ (∀ ts, ts.length = kk.length → ts.all termB = true → termB (.tuple (.str u :: ts)) = true) ∧ Go p H H', ?_, ?_⟩
              · have hul := S.all.len
                refine ⟨_, rfl, _, rfl, _, rfl, l, _, rfl, .inl (SqL.of S.at_), p, _, rfl, S.go.2, by omega, small300 (by omega) (by omega), fun r4 H4 r40 r41 g4 => ?_⟩
                obtain ⟨v, d, hq4, ha, hmem, _, hT⟩ := S.pick g4 r40 (by omega)
                obtain ⟨u, kk, rfl, k1, k3, f6, fl, fk, ft⟩ := (hF d hmem).at_
                obtain ⟨a, xs, rfl, hqa, hxs⟩ := hT.tup
                obtain ⟨uv, vr, rfl, huv, hvr⟩ := hxs.uncons
                obtain rfl := huv.strv
                exact ⟨l, us, r4, .ref a, rfl, rfl, hq4, ha, a, u, vr, kk, rfl, hqa, hvr, k3, f6, fl, fk, ft, S.go.trans g4⟩
              · rintro σ H4 ⟨a, u, vr, kk, rfl, hqa, hvr, k3, f6, fl, fk, ft, g4⟩
                have hs1 : HT.sIx (V.str u :: vr).length 0 (some 1) = 1 := by
                  rw [show HT.sIx (V.str u :: vr).length 0 (some 1) = min 1 (V.str u :: vr).length from HT.sIx_nat (V.str u :: vr).length 0 1, List.length_cons]
                  omega
                have ec : cutV (V.str u :: vr) (some 1) none = vr := by
                  unfold cutV
                  rw [hs1, HT.sIx_none]
                  exact List.take_of_length_le (by simp)
                have hvl := hvr.len
                rw [List.length_map] at hvl
                refine ⟨_, rfl, a, _, 0, .str u, rfl, rfl, hqa, atI_nat (j := 0) rfl, (by show 1 ≤ sizeLine; decide), fun t1 ht1 => ⟨_, rfl, 1, rfl, a, .str u :: vr, rfl, (TR.new ht1).sq hqa, fun h => ?_, fun _ t2 ht2 => ?_⟩⟩
                · rw [hs1] at h
                  exact absurd h.1 (by decide)
                · rw [ec]
                  have s1 : Same H4 (upd H4 t1 (.tup [.str u])) := Same.new ht1
                  have s2 := Same.new (o := .tup vr) ht2
                  have ht1q : SqT K (upd (upd H4 t1 (.tup [.str u])) t2 (.tup vr)) t1 [.str u] := SqT.of (s2 _ _ upd_same)
                  have ht2q : SqT K (upd (upd H4 t1 (.tup [.str u])) t2 (.tup vr)) t2 vr := SqT.of upd_same
                  have hvr5 := (hvr.tr (TR.same s1)).tr (TR.same s2)
                  have g5 := g4.same (s1.trans s2)
                  generalize upd (upd H4 t1 (.tup [.str u])) t2 (.tup vr) = H5 at *
                  refine ⟨t2, rfl, ⟨_, ht2q⟩, fun Dl hD => ?_⟩
                  have nD := g5.ne hD
                  refine lc_tup (K := K) (a := t2) (xs := vr) (fun i H' => ∃ acc ts, H' Dl = some (.lst acc) ∧ TnAll K H' acc ts ∧ ts.length = i ∧ (∀ t ∈ ts, TmOk (m + 2 * j + 6) (wtT j) t) ∧ Go p H5 H') ⟨[], [], upd_same, .nil, rfl, (fun t h => nomatch h), (Go.refl g5.2).new hD⟩ (fun i H' _ hW => let ⟨_, _, _, _, _, _, g⟩ := hW; (Go.tr g5.2 g).sq ht2q) (fun i x H6 hi hW => ?_) (fun H6 hW => ?_)
                  · obtain ⟨acc, ts, a1, a2, a3, a4, a5⟩ := hW
                    refine ⟨wipe1, ?_⟩
                    unfold tYes; dsimp only
                    rw [if_pos rfl]
                    obtain ⟨dk, hdk, hx⟩ := hvr5.at hi
                    obtain ⟨k9, hk9, rfl⟩ : ∃ k9, k9 ∈ kk ∧ dk = k9.d := by
                      rw [List.getElem?_map] at hdk
                      cases e9 : kk[i]? with
                      | none => rw [e9] at hdk; cases hdk
                      | some k9 => rw [e9] at hdk; exact ⟨k9, List.mem_of_getElem? e9, (Option.some.inj hdk).symm⟩
                    have hil : i < vr.length := (List.getElem?_eq_some_iff.mp hi).1
                    have g6 := g5.trans a5
                    have tr6 := Go.tr hp g6
                    refine ⟨_, rfl, _, rfl, _, rfl, _, rfl, _, rfl, _, _, rfl, rfl, _, rfl, p, x, k9, m + 1, j, o, hd, kvh, fs, sh, l0, l1, n2, ?_, by omega, ho0, ho1, g6.2, hx.tr (Go.tr g5.2 a5), fk _ hk9, by omega, by omega, g6.at (hp.neK hH) hH, hR.tr tr6, hO, hsh.go hp g6, hP, fun v d H' hd9 hv g7 => ?_⟩
                    · show [V.ref p, x, V.ref hd, V.ref sh, V.int (((j + 1 : Nat) : Int) - 1), V.int o] = _
                      rw [show ((j + 1 : Nat) : Int) - 1 = (j : Int) by omega]
                    · have h7 := g7.at nD a1
                      have tp : TR H' (upd H' Dl (.lst (acc ++ [v]))) := TR.put h7
                      have hal := a2.len
                      refine ⟨acc, h7, by rw [sizeLine_eq]; omega, acc ++ [v], ts ++ [d], upd_same, ((a2.tr (Go.tr a5.2 g7)).tr tp).app (.cons (hv.tr tp) .nil), by rw [List.length_append, List.length_singleton]; omega, fun t ht => ?_, Go.put2 hD nD (a5.trans g7)⟩
                      rcases List.mem_append.mp ht with ht | ht
                      · exact a4 t ht
                      · rw [List.mem_singleton.mp ht]
                        exact hd9.mono (by omega) (Nat.le_refl _)
                  · obtain ⟨acc, ts, a1, a2, a3, a4, a5⟩ := hW
                    refine ⟨Dl, acc, rfl, SqL.of a1, fun t9 o9 ht9 hc9 ho9 => ?_⟩
                    have tn : TR H6 (upd H6 t9 (.frz o9 (.tup acc))) := TR.new ht9
                    have hq9 : SqT K (upd H6 t9 (.frz o9 (.tup acc))) t9 acc := PlT.sq ⟨o9, upd_same, hc9, ho9⟩
                    have tr6 := (Go.tr g5.2 a5).trans tn
                    have g7 := (g5.trans a5).new (o := .frz o9 (.tup acc)) ht9
                    have hal := a2.len
                    have htm : TmOk (m + 2 * (j + 1) + 5) (wtT (j + 1)) (.tuple (.str u :: ts)) := by
                      have := tm_form (n := m + 2 * j + 6) (w := wtT j) fl f6 (by omega) a4 (ft ts (by omega) (List.all_eq_true.mpr fun t ht => (a4 t ht).tm))
                      exact this.mono (by omega) (Nat.le_refl _)
                    refine catA_any (tr6.sq ht1q) hq9 (by rw [sizeLine_eq]; simp; omega) (fun c H' hc he => ?_)
                    have a2' := a2.tr tn
                    rcases he with rfl | ⟨c2, hc2, rfl⟩
                    · exact q _ _ _ htm (Tn.of hc (.cons (Tn.str u) a2')) g7
                    · exact q _ _ _ htm (Tn.of hc (.cons (Tn.str u) (a2'.tr (TR.new hc2)))) (g7.new hc2)
end
end K31
set_option Elab.async false
set_option linter.all false
set_option maxRecDepth 100000
set_option maxHeartbeats 4000000
namespace K31
open PySem PySem.Spec PyProof.Rows L2 MixW
open C8 (Cal Def cal0 pe_c fnBody fnScope fnArgs)
section
variable {K : PySem.W.Frag}
/-! ### a dict frozen beside a walk -/
theorem upd_comm {H : Hp} {a b : Addr} {x y : HO} (n : a ≠ b) : upd (upd H a x) b y = upd (upd H b y) a x := by
  funext c
  by_cases e1 : c = a
  · subst e1
    rw [upd_ne n, upd_same, upd_same]
  · by_cases e2 : c = b
    · subst e2
      rw [upd_same, upd_ne e1, upd_same]
    · rw [upd_ne e2, upd_ne e1, upd_ne e1, upd_ne e2]
theorem pt_lock {p d : Addr} {H : Hp} {o : HO} (hp : Pt H p) (n : d ≠ p) : Pt (upd H d o) p := by
  obtain ⟨x, y, a, r⟩ := hp
  exact ⟨x, y, by rw [upd_ne n.symm]; exact a, r⟩
theorem lock_go {p d : Addr} {H H' : Hp} {kv : List (Key × V)} {u : HO} (hp : Pt H p) (hd : H d = some (.dK kv)) (g : Go p (upd H d u) H') : Go p H (upd H' d (.dK kv)) := by
  have n : d ≠ p := hp.neK hd
  refine ⟨fun b o nb hb => ?_, ?_⟩
  · by_cases e : b = d
    · subst e
      rw [upd_same, ← hb, hd]
    · rw [upd_ne e]
      exact g.1 b o nb (by rw [upd_ne e]; exact hb)
  · obtain ⟨x, y, a, r⟩ := g.2
    exact ⟨x, y, by rw [upd_ne n.symm]; exact a, r⟩
theorem TR.unf {H : Hp} {d : Addr} {od : Obj} {kv : List (Key × V)} {o : HO} (h : H d = some (.frz od (.dK kv))) : TR H (upd H d o) := fun a ys e => by
  have n : a ≠ d := fun z => by
    rcases e with e | ⟨o, e⟩ <;> rw [z, h] at e <;> cases e
  rcases e with e | ⟨o, e⟩
  · exact .inl (by rw [upd_ne n]; exact e)
  · exact .inr ⟨o, by rw [upd_ne n]; exact e⟩
theorem PlT.put {H : Hp} {t d : Addr} {xs : List V} {o u : HO} (h : PlT H t xs) (hd : H d = some u) (hu : ∀ od xs, u ≠ .frz od (.tup xs)) : PlT (upd H d o) t xs := by
  obtain ⟨o1, e, r⟩ := h
  exact ⟨o1, by rw [upd_ne (fun z => by rw [z, hd] at e; exact hu _ _ (Option.some.inj e))]; exact e, r⟩
theorem Fd.put {H : Hp} {t d : Addr} {fs : List (Str × Kd)} {o u : HO} (h : Fd K H t fs) (hd : H d = some u) (hu : ∀ od xs, u ≠ .frz od (.tup xs)) (e : TR H (upd H d o)) : Fd K (upd H d o) t fs := by
  obtain ⟨ps, h1, h2, h3⟩ := h
  exact ⟨ps, PlT.put h1 hd hu, PrP.tr h2 e, h3⟩
theorem R0.put {H : Hp} {d : Addr} {kv : List (Key × V)} {l : List (Str × List (Str × Kd))} {o u : HO} (h : R0 K H kv l) (hd : H d = some u) (hu : ∀ od xs, u ≠ .frz od (.tup xs)) (e : TR H (upd H d o)) : R0 K (upd H d o) kv l :=
  Paired.mapP h fun _ _ ⟨a, t, b, c⟩ => ⟨a, t, b, c.put hd hu e⟩
theorem nf_dK {kv : List (Key × V)} : ∀ (od : Obj) (xs : List V), HO.dK kv ≠ .frz od (.tup xs) := fun _ _ z => nomatch z
theorem nf_lst {kv : List V} : ∀ (od : Obj) (xs : List V), HO.lst kv ≠ .frz od (.tup xs) := fun _ _ z => nomatch z
theorem nf_frz {o : Obj} {kv : List (Key × V)} : ∀ (od : Obj) (xs : List V), HO.frz o (.dK kv) ≠ .frz od (.tup xs) := fun _ _ z => nomatch z
theorem valV_nth {kvs : List (Key × V)} {i : Nat} {q : Key × V} (hn : (kvs.map (·.1)).Nodup) (h : kvs[i]? = some q) : valV kvs q.1 = some q.2 := by
  induction kvs generalizing i with
  | nil => simp at h
  | cons x l ih =>
    obtain ⟨k2, v2⟩ := x
    rw [List.map_cons, List.nodup_cons] at hn
    rw [valV_cons]
    cases i with
    | zero =>
      cases h
      simp
    | succ i =>
      have h' : l[i]? = some q := by simpa using h
      have ne : k2 ≠ q.1 := fun e => hn.1 (List.mem_map.mpr ⟨q, List.mem_of_getElem? h', e.symm⟩)
      rw [if_neg ne]
      exact ih hn.2 h'
/-- a program, as it was drawn -/
structure PrOk (K : PySem.W.Frag) (H : Hp) (a : Addr) (l0 : List (Str × List (Str × Kd))) (l1 : List (Str × Kd)) : Prop where
  at_ : ∃ d0 d1 d2 kv0 kv1 kv2, SqT K H a [.ref d0, .ref d1, .ref d2] ∧ H d0 = some (.dK kv0) ∧ H d1 = some (.dK kv1) ∧ H d2 = some (.dK kv2) ∧ R0 K H kv0 l0 ∧ R1 K H kv1 l1 ∧ (∀ q ∈ kv2, ∃ t, q.2 = .ref t) ∧ (kv2.map (·.1)).Nodup ∧ kv2.length ≤ 3
theorem PrOk.go {p a : Addr} {H H' : Hp} {l0 : List (Str × List (Str × Kd))} {l1 : List (Str × Kd)} (hp : Pt H p) (g : Go p H H') (h : PrOk K H a l0 l1) : PrOk K H' a l0 l1 := by
  obtain ⟨d0, d1, d2, kv0, kv1, kv2, hq, h0, h1, h2, r0, r1, r2⟩ := h.at_
  have tr := Go.tr hp g
  exact ⟨d0, d1, d2, kv0, kv1, kv2, tr.sq hq, g.at (hp.neK h0) h0, g.at (hp.neK h1) h1, g.at (hp.neK h2) h2, r0.go hp g, r1.tr tr, r2⟩
end
section
variable {P : Program} {w : World} {K : PySem.W.Frag} {mg : Str → Option Value} {base : Heap}
abbrev sLWhole : Stmt := topS 35
abbrev NLWhole : List Str := ["_law_shapes_here", "_law_parts", "_law_name"]
theorem scLWhole : FnScope NLWhole ["_law_shapes_here"] (fnScope sLWhole) := ⟨rfl, rfl, rfl, by decide +kernel, rfl, by decide +kernel, by decide +kernel⟩
def spWhole (K : PySem.W.Frag) : Sp := fun vs H Q _ => ∃ (p sh : Addr) (l0 : List (Str × List (Str × Kd))) (l1 : List (Str × Kd)) (n2 : List Str), vs = [.ref sh] ∧ Pt H p ∧ ShOk K H sh l0 l1 n2 ∧ ∀ a H', PrOk K H' a l0 l1 → Go p H H' → Q (.ref a) H'
theorem c_whole {f : Addr} {fd : FuncData} (D : Def K mg "_law_whole" sLWhole f fd) (b : Binds K fd ["_law_shapes_here"] []) : Cal P w K mg base 1 "_law_whole" (spWhole K) [] := by
  refine cal0 D b .nil scLWhole (fun vs H Q E h => ?_) (fun cdv A outer s H vs Q E hr h => ?_)
  · obtain ⟨p, sh, l0, l1, n2, rfl, _⟩ := h
    rfl
  · obtain ⟨p, sh, l0, l1, n2, rfl, hp, hsh, q⟩ := h
    have nd := scLWhole.nd
    have hu1 := hu_of hr
    refine ⟨_, (C8.pss_cut (ps_set (i := 1) nd rfl (.inl rfl) pe_dnewK)
    (C8.pss_cut (ps_lock (ps_for PassesOwn.never rfl (pi_keys (pe_ix (r := rIxT K) ix_tup (pv 0) pe_int (fun _ _ => rfl))) (pg_name (i := 2) nd rfl (.inl rfl))
      (pss_one (ps_dput hu1 (pv 1) (pv 2) (pe_op (r := rCatA K) op_catA (pe_dget hu1 (pe_ix (r := rIxT K) ix_tup (pv 0) pe_int (fun _ _ => rfl)) (pv 2) (fun _ _ => rfl)) (pe_tup (pa_cons (pe_tup (pa_cons (pe_tup (pa_cons pe_str (pa_cons pe_int pa_nil))) pa_nil)) pa_nil))) rfl))))
    (pss_one (ps_ret (pe_tup (pa_cons (pe_ix (r := rIxT K) ix_tup (pv 0) pe_int (fun _ _ => rfl)) (pa_cons (pe_ix (r := rIxT K) ix_tup (pv 0) pe_int (fun _ _ => rfl)) (pa_cons (pv 1) pa_nil)))))))), ?_⟩
    obtain ⟨d0, d1, d2, kv0, kv1, kv2, hq, h0, h1, h2, r0, r1, r2, n2d, n2l⟩ := hsh.at_
    have n2p := hp.neK h2
    have hk2 := r2.keys
    have hl2 : kv2.length = n2.length := Paired.length r2
    refine ⟨fun σ' H' => ∃ N, σ' = [some (.ref sh), some (.ref N), none] ∧ H N = none ∧ H' = upd H N (.dK []), ?_, ?_⟩
    · exact fun N hN => ⟨N, rfl, hN, rfl⟩
    · rintro σ H1 ⟨N, rfl, hN, rfl⟩
      have nNd : N ≠ d2 := fun e => by rw [e, h2] at hN; cases hN
      have nNp := hp.ne hN
      refine ⟨fun σ' H' => ∃ o2 kvN, σ' = [some (.ref sh), some (.ref N), o2] ∧ H' N = some (.dK kvN) ∧ (∀ q ∈ kvN, ∃ t, q.2 = .ref t) ∧ (kvN.map (·.1)).Nodup ∧ kvN.length ≤ 3 ∧ Go p H H', ?_, ?_⟩
      · refine ⟨d2, .dK kv2, by rw [upd_ne nNd.symm]; exact h2, trivial, fun od => ?_⟩
        rw [upd_comm nNd]
        have hF : (upd H d2 (.frz od (.dK kv2))) d2 = some (.frz od (.dK kv2)) := upd_same
        have hpF : Pt (upd H d2 (.frz od (.dK kv2))) p := pt_lock hp n2p
        have trF : TR H (upd H d2 (.frz od (.dK kv2))) := TR.dput h2
        have hNF : (upd H d2 (.frz od (.dK kv2))) N = none := by rw [upd_ne nNd]; exact hN
        have back : ∀ H', Go p (upd H d2 (.frz od (.dK kv2))) H' → Go p H (upd H' d2 (.dK kv2)) := fun H' g => lock_go hp h2 g
        generalize upd H d2 (.frz od (.dK kv2)) = HF at *
        have hqF := trF.sq hq
        have r2F := r2.tr trF
        have gN : Go p HF (upd HF N (.dK [])) := (Go.refl hpF).new hNF
        refine ⟨_, rfl, sh, _, 2, .ref d2, rfl, rfl, (Go.tr hpF gN).sq hqF, atI_nat (j := 2) rfl, d2, od, rfl, .inl ⟨kv2, gN.at n2p hF, ?_⟩⟩
        refine for_it (walk_keys (d := d2) (o := od) (kvs := kv2)) (fun i σ H' => ∃ o2 kvN, σ = [some (.ref sh), some (.ref N), o2] ∧ H' N = some (.dK kvN) ∧ (∀ q ∈ kvN, ∃ t, q.2 = .ref t) ∧ kvN.map (·.1) = (n2.take i).map Sum.inr ∧ Go p HF H') ⟨_, [], rfl, upd_same, (fun q h => nomatch h), by simp, gN⟩ (fun i σ H' _ hW => let ⟨_, _, _, _, _, _, g⟩ := hW; g.at n2p hF) (fun i x σ H3 H3' hi hW hY => ?_) (fun σ H3 hW => ?_)
        · obtain ⟨o2, kvN, rfl, w1, w2, w3, w4⟩ := hW
          obtain ⟨rfl, k, v, hkv, rfl⟩ := hY
          obtain ⟨z, hz, e1, t, ys, e2, e3, e4⟩ := pairedAt r2F hkv
          simp only at e1 e2
          subst e1 e2
          have tr3 := Go.tr hpF w4
          have hvv : valV kv2 (Sum.inr z) = some (.ref t) := valV_nth (by rw [hk2]; exact nodup_inr n2d) hkv
          have hd3 := w4.at n2p hF
          refine ⟨_, rfl, sh, _, 2, .ref d2, rfl, rfl, tr3.sq hqF, atI_nat (j := 2) rfl, _, rfl, d2, .ref t, rfl, .inl ⟨kv2, Sum.inr z, .inr ⟨od, hd3⟩, rfl, hvv.symm⟩, (by show 2 ≤ sizeLine; decide), fun t1 ht1 => ⟨(by show 1 ≤ sizeLine; decide), fun t2 ht2 => ⟨(by show 1 ≤ sizeLine; decide), fun t3 ht3 => ?_⟩⟩⟩
          have s3 := ((Same.new (o := .tup [.str "go", .int 0]) ht1).trans (Same.new (o := .tup [.ref t1]) ht2)).trans (Same.new (o := .tup [.ref t2]) ht3)
          have g5 := w4.same s3
          have w15 := s3 _ _ w1
          have e35 := (tr3.trans (TR.same s3)).sq e3
          have hx : SqT K (upd (upd (upd H3' t1 (.tup [.str "go", .int 0])) t2 (.tup [.ref t1])) t3 (.tup [.ref t2])) t3 [.ref t2] := SqT.of upd_same
          generalize upd (upd (upd H3' t1 (.tup [.str "go", .int 0])) t2 (.tup [.ref t1])) t3 (.tup [.ref t2]) = H5 at *
          refine catA_any e35 hx (by rw [sizeLine_eq]; simp; omega) (fun c H6 hc he => ?_)
          have g6 : Go p HF H6 := by
            rcases he with rfl | ⟨c2, hc2, rfl⟩
            · exact g5
            · exact g5.new hc2
          have w16 : H6 N = some (.dK kvN) := by
            rcases he with rfl | ⟨c2, hc2, rfl⟩
            · exact w15
            · exact Same.new hc2 _ _ w15
          have hlN : kvN.length ≤ n2.length := by
            have h9 := congrArg List.length w3
            rw [List.length_map, List.length_map, List.length_take] at h9
            omega
          refine ⟨_, rfl, _, rfl, N, _, rfl, DPut.k (k := Sum.inr z) w16 (by rw [sizeLine_eq]; omega), ?_⟩
          rw [put_new (by rw [w3]; exact inr_notin (nodup_take_notin n2d hz))]
          refine ⟨_, kvN ++ [(Sum.inr z, .ref c)], rfl, upd_same, fun q9 hq9 => ?_, ?_, Go.put2 hNF nNp g6⟩
          · rcases List.mem_append.mp hq9 with hq9 | hq9
            · exact w2 q9 hq9
            · rw [List.mem_singleton.mp hq9]; exact ⟨c, rfl⟩
          · rw [List.map_append, w3, take_succ_at hz, List.map_append]
            rfl
        · obtain ⟨o2, kvN, rfl, w1, w2, w3, w4⟩ := hW
          rw [hl2, List.take_of_length_le (Nat.le_refl _)] at w3
          refine ⟨w4.at n2p hF, o2, kvN, rfl, by rw [upd_ne nNd]; exact w1, w2, by rw [w3]; exact nodup_inr n2d, ?_, back _ w4⟩
          have h9 := congrArg List.length w3
          rw [List.length_map, List.length_map] at h9
          omega
      · rintro σ H3 ⟨o2, kvN, rfl, w1, w2, w3, w4, g3⟩
        have tr3 := Go.tr hp g3
        refine ⟨_, rfl, sh, _, 0, .ref d0, rfl, rfl, tr3.sq hq, atI_nat (j := 0) rfl, _, rfl, sh, _, 1, .ref d1, rfl, rfl, tr3.sq hq, atI_nat (j := 1) rfl, _, rfl, (by show 3 ≤ sizeLine; decide), fun a ha => ?_⟩
        have g4 := g3.new (o := .tup [.ref d0, .ref d1, .ref N]) ha
        exact q a _ ⟨d0, d1, N, kv0, kv1, kvN, SqT.of upd_same, g4.at (hp.neK h0) h0, g4.at (hp.neK h1) h1, Same.new ha _ _ w1, r0.go hp g4, r1.tr (Go.tr hp g4), w2, w3, w4⟩ g4
end
end K31
set_option Elab.async false
set_option linter.all false
set_option maxRecDepth 100000
set_option maxHeartbeats 4000000
namespace K31
open PySem PySem.Spec PyProof.Rows L2 MixW
open C8 (Cal Def cal0 pe_c fnBody fnScope fnArgs)
section
variable {P : Program} {w : World} {K : PySem.W.Frag} {mg : Str → Option Value} {base : Heap}
/-- the pure side of a program -/
structure PrP0 (l0 : List (Str × List (Str × Kd))) (l1 : List (Str × Kd)) : Prop where
  nd0 : (l0.map (·.1)).Nodup
  nd1 : (l1.map (·.1)).Nodup
  len0 : l0.length ≤ 3
  len1 : l1.length ≤ 3
  lay : LayS (l0.map (·.1))
  kl0 : ∀ a ∈ l0, FsOk 4 fieldN a.2
  kl1 : ∀ a ∈ l1, KM 4 a.2
  sub1 : (l1.map (·.1)).Sublist boxN
theorem ShP.pr {l0 : List (Str × List (Str × Kd))} {l1 : List (Str × Kd)} (h : ShP l0 l1) : PrP0 l0 l1 := ⟨h.nd0, h.nd1, h.len0, h.len1, h.lay, h.kl0, h.kl1, h.sub1⟩
abbrev sLGone : Stmt := topS 34
abbrev NLGone : List Str := ["_law_pot_here", "_law_program", "_law_kinds", "_law_name", "_law_boxes", "_law_field", "_law_kind_here"]
theorem scLGone : FnScope NLGone ["_law_pot_here", "_law_program"] (fnScope sLGone) := ⟨rfl, rfl, rfl, by decide +kernel, rfl, by decide +kernel, by decide +kernel⟩
def spGone (K : PySem.W.Frag) : Sp := fun vs H Q _ => ∃ (p pa : Addr) (l0 : List (Str × List (Str × Kd))) (l1 : List (Str × Kd)), vs = [.ref p, .ref pa] ∧ Pt H p ∧ PrOk K H pa l0 l1 ∧ PrP0 l0 l1 ∧ ∀ a m0 m1 H', PrOk K H' a m0 m1 → PrP0 m0 m1 → Go p H H' → Q (.ref a) H'
theorem c_gone (T : Tp mg) (c_LOrGone : Cal P w K mg base 2 "_law_or_gone" (spOrGone K) []) {f : Addr} {fd : FuncData} (D : Def K mg "_law_gone" sLGone f fd) (b : Binds K fd ["_law_pot_here", "_law_program"] []) : Cal P w K mg base 3 "_law_gone" (spGone K) [] := by
  refine cal0 D b .nil scLGone (fun vs H Q E h => ?_) (fun cdv A outer s H vs Q E hr h => ?_)
  · obtain ⟨p, pa, l0, l1, rfl, _⟩ := h
    rfl
  · obtain ⟨p, pa, l0, l1, rfl, hp, hpr, hP, q⟩ := h
    have nd := scLGone.nd
    have hu1 := hu_of hr
    refine ⟨_, (C8.pss_cut (ps_set (i := 2) nd rfl (.inl rfl) pe_dnewK)
    (C8.pss_cut (ps_lock (ps_for PassesOwn.never rfl (pi_keys (pe_ix (r := rIxT K) ix_tup (pv 1) pe_int (fun _ _ => rfl))) (pg_name (i := 3) nd rfl (.inl rfl))
      (pss_one (ps_dput hu1 (pv 2) (pv 3) (pe_callTy call_tupleP (by rfl) T.n_tuple (by decide +kernel) (pa_cons (pe_lc (own := [("_law_field", 5), ("_law_kind_here", 6)]) (g := gTup K 2 (gCons (gName 5) (gCons (gName 6) gNil))) (by rfl) nd (pi_tup (pe_dget hu1 (pe_ix (r := rIxT K) ix_tup (pv 1) pe_int (fun _ _ => rfl)) (pv 3) (fun _ _ => rfl))) (blkOk_by (own := [("_law_field", 5), ("_law_kind_here", 6)]) (N := NLGone) (sc := fnScope sLGone) (by decide +kernel)) (fun _ _ _ _ _ => (pg_tup (n := 2) rfl (pgs_cons (pg_name (i := 5) nd rfl (Or.inl rfl)) (pgs_cons (pg_name (i := 6) nd rfl (Or.inl rfl)) pgs_nil)))) (fun _ _ _ _ _ => pts_nil) (fun _ _ _ _ _ => (pe_tup (pa_cons (pv 5) (pa_cons (pe_c c_LOrGone hr (by decide) (by rfl) (pa_cons (pv 0) (pa_cons (pv 6) pa_nil))) pa_nil))))) pa_nil)) rfl))))
    (C8.pss_cut (ps_set (i := 4) nd rfl (.inl rfl) pe_dnewK)
    (C8.pss_cut (ps_lock (ps_for PassesOwn.never rfl (pi_keys (pe_ix (r := rIxT K) ix_tup (pv 1) pe_int (fun _ _ => rfl))) (pg_name (i := 3) nd rfl (.inl rfl))
      (pss_one (ps_dput hu1 (pv 4) (pv 3) (pe_tup (pa_cons (pe_c c_LOrGone hr (by decide) (by rfl) (pa_cons (pv 0) (pa_cons (pe_ix (r := rIxT K) ix_tup (pe_dget hu1 (pe_ix (r := rIxT K) ix_tup (pv 1) pe_int (fun _ _ => rfl)) (pv 3) (fun _ _ => rfl)) pe_int (fun _ _ => rfl)) pa_nil))) (pa_cons (pe_ix (r := rIxT K) ix_tup (pe_dget hu1 (pe_ix (r := rIxT K) ix_tup (pv 1) pe_int (fun _ _ => rfl)) (pv 3) (fun _ _ => rfl)) pe_int (fun _ _ => rfl)) pa_nil))) rfl))))
    (pss_one (ps_ret (pe_tup (pa_cons (pv 2) (pa_cons (pv 4) (pa_cons (pe_ix (r := rIxT K) ix_tup (pv 1) pe_int (fun _ _ => rfl)) pa_nil)))))))))), ?_⟩
    obtain ⟨d0, d1, d2, kv0, kv1, kv2, hq, h0, h1, h2, r0, r1, r2, n2d, n2l⟩ := hpr.at_
    have n0p := hp.neK h0
    have n1p := hp.neK h1
    have hk0 := r0.keys
    have hl0 : kv0.length = l0.length := Paired.length r0
    have hk1 := r1.keys
    have hl1 : kv1.length = l1.length := Paired.length r1
    have b0 := hP.len0
    have b1 := hP.len1
    refine ⟨fun σ' H' => ∃ N, σ' = [some (.ref p), some (.ref pa), some (.ref N), none, none, none, none] ∧ H N = none ∧ H' = upd H N (.dK []), ?_, ?_⟩
    · exact fun N hN => ⟨N, rfl, hN, rfl⟩
    · rintro σ H1 ⟨N, rfl, hN, rfl⟩
      have nNd : N ≠ d0 := fun e => by rw [e, h0] at hN; cases hN
      have nNp := hp.ne hN
      refine ⟨fun σ' H' => ∃ o3 kvN m0, σ' = [some (.ref p), some (.ref pa), some (.ref N), o3, none, none, none] ∧ H' N = some (.dK kvN) ∧ R0 K H' kvN m0 ∧ m0.map (·.1) = l0.map (·.1) ∧ (∀ a ∈ m0, FsOk 4 fieldN a.2) ∧ Go p H H', ?_, ?_⟩
      · refine ⟨d0, .dK kv0, by rw [upd_ne nNd.symm]; exact h0, trivial, fun od => ?_⟩
        rw [upd_comm nNd]
        have hF : (upd H d0 (.frz od (.dK kv0))) d0 = some (.frz od (.dK kv0)) := upd_same
        have hpF : Pt (upd H d0 (.frz od (.dK kv0))) p := pt_lock hp n0p
        have trF : TR H (upd H d0 (.frz od (.dK kv0))) := TR.dput h0
        have hNF : (upd H d0 (.frz od (.dK kv0))) N = none := by rw [upd_ne nNd]; exact hN
        have back : ∀ H', Go p (upd H d0 (.frz od (.dK kv0))) H' → Go p H (upd H' d0 (.dK kv0)) := fun H' g => lock_go hp h0 g
        have r0F : R0 K (upd H d0 (.frz od (.dK kv0))) kv0 l0 := r0.put h0 nf_dK trF
        generalize upd H d0 (.frz od (.dK kv0)) = HF at *
        have hqF := trF.sq hq
        have gN : Go p HF (upd HF N (.dK [])) := (Go.refl hpF).new hNF
        refine ⟨_, rfl, pa, _, 0, .ref d0, rfl, rfl, (Go.tr hpF gN).sq hqF, atI_nat (j := 0) rfl, d0, od, rfl, .inl ⟨kv0, gN.at n0p hF, ?_⟩⟩
        refine for_it (walk_keys (d := d0) (o := od) (kvs := kv0)) (fun i σ H' => ∃ o3 kvN m0, σ = [some (.ref p), some (.ref pa), some (.ref N), o3, none, none, none] ∧ H' N = some (.dK kvN) ∧ R0 K H' kvN m0 ∧ m0.map (·.1) = (l0.map (·.1)).take i ∧ (∀ a ∈ m0, FsOk 4 fieldN a.2) ∧ Go p HF H') ⟨_, [], [], rfl, upd_same, .nil, by simp, (fun q h => nomatch h), gN⟩ (fun i σ H' _ hW => let ⟨_, _, _, _, _, _, _, _, g⟩ := hW; g.at n0p hF) (fun i x σ H3 H3' hi hW hY => ?_) (fun σ H3 hW => ?_)
        · obtain ⟨o3, kvN, m0, rfl, w1, w2, w3, w4, w5⟩ := hW
          obtain ⟨rfl, k, v, hkv, rfl⟩ := hY
          obtain ⟨⟨z, fs⟩, hz, e1, t, e2, e3⟩ := pairedAt r0F hkv
          simp only at e1 e2 e3
          subst e1 e2
          have hzm := List.mem_of_getElem? hz
          have hfs := hP.kl0 _ hzm
          have hzi : (l0.map (·.1))[i]? = some z := by rw [List.getElem?_map, hz]; rfl
          have tr3 := Go.tr hpF w5
          have hvv : valV kv0 (Sum.inr z) = some (.ref t) := valV_nth (by rw [hk0]; exact nodup_inr hP.nd0) hkv
          have hd3 := w5.at n0p hF
          obtain ⟨ps, hpt, hpp, hfn⟩ := e3.go hpF w5
          have hfl : fs.length ≤ 4 := by
            have h9 := hfs.sub.length_le
            rw [List.length_map] at h9
            exact h9
          have hpl : ps.length = fs.length := Paired.length hpp
          refine ⟨_, rfl, pa, _, 0, .ref d0, rfl, rfl, tr3.sq hqF, atI_nat (j := 0) rfl, _, rfl, d0, .ref t, rfl, .inl ⟨kv0, Sum.inr z, .inr ⟨od, hd3⟩, rfl, hvv.symm⟩, t, rfl, ⟨_, hpt.sq⟩, fun Dl hD => ?_⟩
          have p3 := w5.2
          have nD := p3.ne hD
          refine lc_tup (K := K) (a := t) (xs := ps.map V.ref) (fun j H' => ∃ qs gs, H' Dl = some (.lst (qs.map V.ref)) ∧ qs.length = j ∧ PrP K H' qs gs ∧ gs.map (·.1) = (fs.map (·.1)).take j ∧ (∀ b ∈ gs, KM 4 b.2) ∧ Go p H3' H') ⟨[], [], upd_same, rfl, .nil, by simp, (fun b h => nomatch h), (Go.refl p3).new hD⟩ (fun j H' _ hW => let ⟨_, _, _, _, _, _, _, g⟩ := hW; (PlT.go p3 g hpt).sq) (fun j x H4 hj hW => ?_) (fun H4 hW => ?_)
          · obtain ⟨qs, gs, a1, a2, a3, a4, a5, a6⟩ := hW
            have hjl : j < ps.length := by
              have := (List.getElem?_eq_some_iff.mp hj).1
              rwa [List.length_map] at this
            have ex : x = .ref ps[j] := by
              rw [List.getElem?_map, List.getElem?_eq_getElem hjl] at hj
              cases hj
              rfl
            subst ex
            have t34 := Go.tr p3 a6
            obtain ⟨⟨nm, kk⟩, hfi, vv, hsq, hv⟩ := pairedAt (PrP.tr hpp t34) (List.getElem?_eq_getElem hjl)
            have hfm := List.mem_of_getElem? hfi
            refine ⟨ps[j], _, rfl, hsq, rfl, _, _, rfl, _, _, rfl, rfl, rfl, ?_⟩
            unfold tYes; dsimp only
            rw [if_pos rfl]
            refine ⟨_, rfl, _, rfl, _, rfl, p, vv, kk, 4, rfl, a6.2, hv, hfs.kl _ hfm, by decide, fun v9 k9 H5 hk9 hv9 g9 => ⟨(by show 2 ≤ sizeLine; decide), fun t9 ht9 => ?_⟩⟩
            have g10 := g9.new (o := .tup [.str nm, v9]) ht9
            have a11 := g10.at nD a1
            have tp : TR (upd H5 t9 (.tup [.str nm, v9])) (upd (upd H5 t9 (.tup [.str nm, v9])) Dl (.lst (qs.map V.ref ++ [.ref t9]))) := TR.put a11
            refine ⟨_, a11, by rw [List.length_map, sizeLine_eq]; omega, qs ++ [t9], gs ++ [(nm, k9)], by rw [List.map_append]; exact upd_same, by rw [List.length_append, List.length_singleton]; omega, ?_, ?_, fun b hb => ?_, Go.put2 hD nD (a6.trans g10)⟩
            · exact paired_snoc (PrP.tr a3 ((Go.tr a6.2 g10).trans tp)) ⟨v9, tp.sq (SqT.of upd_same), (hv9.tr (TR.new ht9)).tr tp⟩
            · have hni : (fs.map (·.1))[j]? = some nm := by rw [List.getElem?_map, hfi]; rfl
              rw [List.map_append, a4, take_succ_at hni]
              rfl
            · rcases List.mem_append.mp hb with hb | hb
              · exact a5 b hb
              · rw [List.mem_singleton.mp hb]; exact hk9
          · obtain ⟨qs, gs, a1, a2, a3, a4, a5, a6⟩ := hW
            rw [List.length_map] at a2
            rw [List.length_map, hpl, List.take_of_length_le (by rw [List.length_map]; exact Nat.le_refl _)] at a4
            refine ⟨Dl, _, rfl, SqL.of a1, fun t9 o9 ht9 hc9 ho9 => ?_⟩
            have g10 := (w5.trans a6).new (o := .frz o9 (.tup (qs.map V.ref))) ht9
            have hFd : Fd K (upd H4 t9 (.frz o9 (.tup (qs.map V.ref)))) t9 gs := ⟨qs, ⟨o9, upd_same, hc9, ho9⟩, PrP.tr a3 (TR.new ht9), by rw [a4]; exact hfn⟩
            have nND : N ≠ Dl := fun e => by rw [e, hD] at w1; cases w1
            have gA : Go p H3' (upd H4 t9 (.frz o9 (.tup (qs.map V.ref)))) := a6.new ht9
            have w15 := gA.at nNp w1
            have hlN : kvN.length ≤ 3 := by
              have h9 := Paired.length w2
              have h8 := congrArg List.length w3
              rw [List.length_map, List.length_take, List.length_map] at h8
              omega
            refine ⟨_, rfl, _, rfl, N, _, rfl, DPut.k (k := Sum.inr z) w15 (by rw [sizeLine_eq]; omega), ?_⟩
            rw [put_new (by rw [w2.keys, w3]; exact inr_notin (nodup_take_notin hP.nd0 hzi))]
            have tp := TR.dput (o := .dK (kvN ++ [(Sum.inr z, .ref t9)])) w15
            refine ⟨_, kvN ++ [(Sum.inr z, .ref t9)], m0 ++ [(z, gs)], rfl, upd_same, ?_, ?_, fun a ha => ?_, Go.put2 hNF nNp g10⟩
            · exact paired_snoc ((w2.go p3 gA).put w15 nf_dK tp) ⟨rfl, t9, rfl, hFd.put w15 nf_dK tp⟩
            · rw [List.map_append, w3, take_succ_at hzi]
              rfl
            · rcases List.mem_append.mp ha with ha | ha
              · exact w4 a ha
              · rw [List.mem_singleton.mp ha]
                exact ⟨by rw [a4]; exact hfs.sub, a5⟩
        · obtain ⟨o3, kvN, m0, rfl, w1, w2, w3, w4, w5⟩ := hW
          rw [hl0, List.take_of_length_le (by rw [List.length_map]; exact Nat.le_refl _)] at w3
          have hd3 := w5.at n0p hF
          exact ⟨hd3, o3, kvN, m0, rfl, by rw [upd_ne nNd]; exact w1, w2.put hd3 nf_frz (TR.unf hd3), w3, w4, back _ w5⟩
      · rintro σ H3 ⟨o3, kvN, m0, rfl, w1, w2, w3, w4, g3⟩
        have tr3 := Go.tr hp g3
        have h13 := g3.at n1p h1
        refine ⟨fun σ' H' => ∃ M, σ' = [some (.ref p), some (.ref pa), some (.ref N), o3, some (.ref M), none, none] ∧ H3 M = none ∧ H' = upd H3 M (.dK []), ?_, ?_⟩
        · exact fun M hM => ⟨M, rfl, hM, rfl⟩
        · rintro σ H4 ⟨M, rfl, hM, rfl⟩
          have nMd : M ≠ d1 := fun e => by rw [e, h13] at hM; cases hM
          have nMp := g3.ne hM
          have p3 := g3.2
          refine ⟨fun σ' H' => ∃ o3 kvM m1, σ' = [some (.ref p), some (.ref pa), some (.ref N), o3, some (.ref M), none, none] ∧ H' M = some (.dK kvM) ∧ R1 K H' kvM m1 ∧ m1.map (·.1) = l1.map (·.1) ∧ (∀ a ∈ m1, KM 4 a.2) ∧ Go p H3 H', ?_, ?_⟩
          · refine ⟨d1, .dK kv1, by rw [upd_ne nMd.symm]; exact h13, trivial, fun od => ?_⟩
            rw [upd_comm nMd]
            have hF : (upd H3 d1 (.frz od (.dK kv1))) d1 = some (.frz od (.dK kv1)) := upd_same
            have hpF : Pt (upd H3 d1 (.frz od (.dK kv1))) p := pt_lock p3 n1p
            have trF : TR H3 (upd H3 d1 (.frz od (.dK kv1))) := TR.dput h13
            have hMF : (upd H3 d1 (.frz od (.dK kv1))) M = none := by rw [upd_ne nMd]; exact hM
            have back : ∀ H', Go p (upd H3 d1 (.frz od (.dK kv1))) H' → Go p H3 (upd H' d1 (.dK kv1)) := fun H' g => lock_go p3 h13 g
            have r1F : R1 K (upd H3 d1 (.frz od (.dK kv1))) kv1 l1 := (r1.tr tr3).tr trF
            have hqF := trF.sq (tr3.sq hq)
            generalize upd H3 d1 (.frz od (.dK kv1)) = HF at *
            have gM : Go p HF (upd HF M (.dK [])) := (Go.refl hpF).new hMF
            refine ⟨_, rfl, pa, _, 1, .ref d1, rfl, rfl, (Go.tr hpF gM).sq hqF, atI_nat (j := 1) rfl, d1, od, rfl, .inl ⟨kv1, gM.at n1p hF, ?_⟩⟩
            refine for_it (walk_keys (d := d1) (o := od) (kvs := kv1)) (fun i σ H' => ∃ o3 kvM m1, σ = [some (.ref p), some (.ref pa), some (.ref N), o3, some (.ref M), none, none] ∧ H' M = some (.dK kvM) ∧ R1 K H' kvM m1 ∧ m1.map (·.1) = (l1.map (·.1)).take i ∧ (∀ a ∈ m1, KM 4 a.2) ∧ Go p HF H') ⟨_, [], [], rfl, upd_same, .nil, by simp, (fun q h => nomatch h), gM⟩ (fun i σ H' _ hW => let ⟨_, _, _, _, _, _, _, _, g⟩ := hW; g.at n1p hF) (fun i x σ H5 H5' hi hW hY => ?_) (fun σ H5 hW => ?_)
            · obtain ⟨o3, kvM, m1, rfl, w1, w2, w3, w4, w5⟩ := hW
              obtain ⟨rfl, k, v, hkv, rfl⟩ := hY
              obtain ⟨⟨z, kk⟩, hz, e1, t, kb, xb, e2, e3, e4⟩ := pairedAt r1F hkv
              simp only at e1 e2 e3 e4
              subst e1 e2
              have hzm := List.mem_of_getElem? hz
              have hzi : (l1.map (·.1))[i]? = some z := by rw [List.getElem?_map, hz]; rfl
              have tr5 := Go.tr hpF w5
              have hvv : valV kv1 (Sum.inr z) = some (.ref t) := valV_nth (by rw [hk1]; exact nodup_inr hP.nd1) hkv
              have hd5 := w5.at n1p hF
              refine ⟨_, rfl, _, rfl, pa, _, 1, .ref d1, rfl, rfl, tr5.sq hqF, atI_nat (j := 1) rfl, _, rfl, d1, .ref t, rfl, .inl ⟨kv1, Sum.inr z, .inr ⟨od, hd5⟩, rfl, hvv.symm⟩, t, _, 0, kb, rfl, rfl, tr5.sq e3, atI_nat (j := 0) rfl, p, kb, kk, 4, rfl, w5.2, e4.tr tr5, hP.kl1 _ hzm, by decide, fun v9 k9 H6 hk9 hv9 g9 => ?_⟩
              have w6 := w5.trans g9
              have tr6 := Go.tr hpF w6
              refine ⟨_, rfl, pa, _, 1, .ref d1, rfl, rfl, tr6.sq hqF, atI_nat (j := 1) rfl, _, rfl, d1, .ref t, rfl, .inl ⟨kv1, Sum.inr z, .inr ⟨od, w6.at n1p hF⟩, rfl, hvv.symm⟩, t, _, 1, xb, rfl, rfl, tr6.sq e3, atI_nat (j := 1) rfl, (by show 2 ≤ sizeLine; decide), fun t9 ht9 => ?_⟩
              have gA := g9.new (o := .tup [v9, xb]) ht9
              have w16 := gA.at nMp w1
              have hlM : kvM.length ≤ 3 := by
                have h9 := Paired.length w2
                have h8 := congrArg List.length w3
                rw [List.length_map, List.length_take, List.length_map] at h8
                omega
              refine ⟨_, rfl, _, rfl, M, _, rfl, DPut.k (k := Sum.inr z) w16 (by rw [sizeLine_eq]; omega), ?_⟩
              rw [put_new (by rw [w2.keys, w3]; exact inr_notin (nodup_take_notin hP.nd1 hzi))]
              have tp := TR.dput (o := .dK (kvM ++ [(Sum.inr z, .ref t9)])) w16
              refine ⟨_, kvM ++ [(Sum.inr z, .ref t9)], m1 ++ [(z, k9)], rfl, upd_same, ?_, ?_, fun a ha => ?_, Go.put2 hMF nMp (w5.trans gA)⟩
              · exact paired_snoc (w2.tr ((Go.tr w5.2 gA).trans tp)) ⟨rfl, t9, v9, xb, rfl, tp.sq (SqT.of upd_same), (hv9.tr (TR.new ht9)).tr tp⟩
              · rw [List.map_append, w3, take_succ_at hzi]
                rfl
              · rcases List.mem_append.mp ha with ha | ha
                · exact w4 a ha
                · rw [List.mem_singleton.mp ha]; exact hk9
            · obtain ⟨o3, kvM, m1, rfl, w1, w2, w3, w4, w5⟩ := hW
              rw [hl1, List.take_of_length_le (by rw [List.length_map]; exact Nat.le_refl _)] at w3
              have hd5 := w5.at n1p hF
              exact ⟨hd5, o3, kvM, m1, rfl, by rw [upd_ne nMd]; exact w1, w2.tr (TR.unf hd5), w3, w4, back _ w5⟩
          · rintro σ H5 ⟨o3', kvM, m1, rfl, v1, v2, v3, v4, g5⟩
            have gg := g3.trans g5
            have tr5 := Go.tr hp gg
            refine ⟨_, rfl, _, rfl, _, rfl, pa, _, 2, .ref d2, rfl, rfl, tr5.sq hq, atI_nat (j := 2) rfl, (by show 3 ≤ sizeLine; decide), fun a ha => ?_⟩
            have ga := g5.new (o := .tup [.ref N, .ref M, .ref d2]) ha
            refine q a m0 m1 _ ⟨N, M, d2, kvN, kvM, kv2, SqT.of upd_same, ga.at nNp w1, Same.new ha _ _ v1, (gg.new ha).at (hp.neK h2) h2, w2.go p3 ga, v2.tr (TR.new ha), r2, n2d, n2l⟩ ⟨by rw [w3]; exact hP.nd0, by rw [v3]; exact hP.nd1, ?_, ?_, by rw [w3]; exact hP.lay, w4, v4, by rw [v3]; exact hP.sub1⟩ (gg.new ha)
            · have h9 := congrArg List.length w3
              rw [List.length_map, List.length_map] at h9
              omega
            · have h9 := congrArg List.length v3
              rw [List.length_map, List.length_map] at h9
              omega
end
end K31
set_option Elab.async false
set_option linter.all false
set_option maxRecDepth 100000
set_option maxHeartbeats 4000000
/-! xs != ys of two lists whose things are alike, however deep. -/
namespace MixW
open PySem PySem.Spec PyProof.Rows L2
open AutoSeq1 (wpAny_loadPart')
open MeetsSeq MeetsSeq2 MeetsSeq3
section
variable {prog : Program} {w : World}
/-- two lists, thing by thing alike, in one state -/
structure Alike2 (prog : Program) (w : World) (A : Around) (s : Shared) (a b : Addr) (xs ys : Array Value) : Prop where
  len : xs.size = ys.size
  eqs : ∀ j (h1 : j < xs.size) (h2 : j < ys.size), SeqAt.EqP prog w A.in1 s xs[j] ys[j] true
theorem neLoopW (a b : Addr) (xs ys : Array Value) (m1 m2 : Nat) (k1 k2 : Option Addr) (t1 t2 : Array (Option Value)) : ∀ (left i : Nat), xs.size - i = left →
    MeetsIn prog w (Builtin.«list.__eq__.loop» ⟨[.ref a, .ref b, rawInt i, rawInt 3], []⟩) (fun A R s =>
      s.heap.get? a = some { cls := .type "list", dict := k1, data := .seq xs m1, slots := t1 } ∧ s.heap.get? b = some { cls := .type "list", dict := k2, data := .seq ys m2, slots := t2 } ∧ Alike2 prog w A s a b xs ys ∧ R (.ok (.ret (.bool false))) s)
  | 0, i, hk => by
    intro A R s hyp
    obtain ⟨hp, g, d, tk, os⟩ := s
    obtain ⟨pa, pb, al, fin⟩ := hyp
    have hz := al.len
    wp_walk using wpAny_loadPart' pa, wpAny_loadPart' pb
    have n1 : xs[((i : Nat) : Int).toNat]? = none := Array.getElem?_eq_none (by simp; omega)
    have n2 : ys[((i : Nat) : Int).toNat]? = none := Array.getElem?_eq_none (by simp; omega)
    rw [n1, n2]
    wp_walk using wpAny_loadPart' pa, wpAny_loadPart' pb
    show R (.ok (.ret (.bool (xs.size != ys.size)))) _
    rw [hz, bne_self_eq_false]
    exact fin
  | left + 1, i, hk => by
    intro A R s hyp
    obtain ⟨hp, g, d, tk, os⟩ := s
    obtain ⟨pa, pb, al, fin⟩ := hyp
    have hz := al.len
    wp_walk using wpAny_loadPart' pa, wpAny_loadPart' pb
    have l1 : i < xs.size := by omega
    have l2 : i < ys.size := by omega
    have n1 : xs[((i : Nat) : Int).toNat]? = some xs[i] := Array.getElem?_eq_getElem l1
    have n2 : ys[((i : Nat) : Int).toNat]? = some ys[i] := Array.getElem?_eq_getElem l2
    have nx : ((i : Int) + 1) = ((i + 1 : Nat) : Int) := (Int.natCast_succ i).symm
    rw [n1, n2]
    refine wpAny_bind (al.eqs i l1 l2 _ _ ?_)
    wp_walk
    rw [nx]
    exact ⟨plainId_quiet plain_eq_loop _, codeAny_builtin entry_eq_loop (by
      rw [Around.under_plainId plain_eq_loop _]
      exact neLoopW a b xs ys m1 m2 k1 k2 t1 t2 left (i + 1) (by omega) A R _ ⟨pa, pb, al, fin⟩)⟩
theorem list_neW (a b : Addr) (xs ys : Array Value) (m1 m2 : Nat) (k1 k2 : Option Addr) (t1 t2 : Array (Option Value)) :
    MeetsIn prog w (Builtin.«list.__ne__» ⟨[.ref a, .ref b], []⟩) (fun A R s =>
      s.heap.get? a = some { cls := .type "list", dict := k1, data := .seq xs m1, slots := t1 } ∧ s.heap.get? b = some { cls := .type "list", dict := k2, data := .seq ys m2, slots := t2 } ∧ Alike2 prog w A s a b xs ys ∧ R (.ok (.ret (.bool false))) s) := by
  intro A R s hyp
  obtain ⟨hp, g, d, tk, os⟩ := s
  obtain ⟨pa, pb, al, fin⟩ := hyp
  have ll := AutoSeq1.sub_list_list
  have same : ¬ (xs.size != ys.size) = true := by rw [al.len]; simp
  wp_walk using wpAny_loadPart' pa, wpAny_loadPart' pb
  exact ⟨plainId_quiet plain_eq_loop _, codeAny_builtin entry_eq_loop (by
    rw [Around.under_plainId plain_eq_loop _]
    exact neLoopW a b xs ys m1 m2 k1 k2 t1 t2 _ 0 rfl A R _ ⟨pa, pb, al, fin⟩)⟩
end
/-- two lists, thing by thing alike -/
def rNeLV (K : PySem.W.Frag) : R2 := fun x y H Q => ∃ a b xs ys n, x = .ref a ∧ y = .ref b ∧ SqL K H a xs ∧ SqL K H b ys ∧ n ≤ 60 ∧ Paired (EqV K H n) xs ys ∧ Q (.bl false) H
section
variable {X : Cx}
theorem op_neLV (hu : X.A.units + 64 < cLine) : OpR X (compareOp .NotEq) (rNeLV X.K) := by
  intro pins s σ H x y v u Q I rx ry h
  obtain ⟨a, b, xs, ys, n, rfl, rfl, ha, hb, hn, hp, q⟩ := h
  cases rx
  cases ry
  obtain ⟨us, r1, ⟨⟨c1, k1, data1, t1⟩, m1, o1, e1, en1, ed1⟩, _⟩ := I.list ha
  obtain ⟨ws, r2, ⟨⟨c2, k2, data2, t2⟩, m2, o2, e2, en2, ed2⟩, _⟩ := I.list hb
  simp only at e1 ed1 e2 ed2
  subst e1 ed1 e2 ed2
  have hz : us.toArray.size = ws.toArray.size := by
    rw [List.size_toArray, List.size_toArray, ← r1.length, ← r2.length]
    exact Paired.length hp
  have ta : s.TypeIs (.ref a) "list" := ⟨_, o1, rfl⟩
  have tb : s.TypeIs (.ref b) "list" := ⟨_, o2, rfl⟩
  refine wpAny_richCompare_same_room (op := .NotEq) ta tb F.slot_list_ne (call_meetsIn F.slot_list_ne ta F.entry_list_ne (F.args_list_ne_2 _ _) (list_neW a b us.toArray ws.toArray m1 m2 k1 k2 t1 t2)
    ⟨o1, o2, ⟨hz, fun j h1 h2 => ?_⟩, (fun z => nomatch z), .bl false, H, I, rfl, q⟩) (by omega)
  have k := items_run (fun x y v u h r1 r2 => eqV_run I n X.A.in1 (by show X.A.units + 1 + n < cLine; omega) x y v u h r1 r2) hp r1 r2 j (by simpa using h1) (by simpa using h2)
  simpa using k
end
end MixW
set_option Elab.async false
set_option linter.all false
set_option maxRecDepth 100000
set_option maxHeartbeats 4000000
/-! list(d.values()) -/
namespace MixW
open PySem PySem.Spec PyProof.Rows L2
theorem kv_vals {κ : Type} {kvs : List (κ × V)} {vs : List (κ × Value)} (r : KV kvs vs) : Vals (kvs.map (·.2)) (vs.map (·.2)) := by
  unfold KV at r
  induction r with
  | nil => exact .nil
  | cons h _ k => exact .cons h.2 k
/-- the values, as a new list -/
def tListVals (td : TE) : TE := fun σ H Q => td σ H fun x H1 => ∃ a kvs, x = V.ref a ∧ H1 a = some (.dK kvs) ∧ ∀ p, H1 p = none → Q (.ref p) (upd H1 p (.lst (kvs.map (·.2))))
section
variable {X : Cx} {o : Expr} {p pos apos vpos : Pos} {td : TE}
theorem pe_listVals (hc : X.calm = true) (hg : Gl X "list") (hm : X.mg "list" = none) (hd : PE X o td) (hbase : attributeBase o "values" X.env (eval o X.env) = eval o X.env := by rfl) (hline : (apos.endLine == vpos.line) = true := by rfl)
    (hes : starEach [Expr.Call (.Attribute o "values" apos) [] [] vpos] X.env = [(false, eval (Expr.Call (.Attribute o "values" apos) [] [] vpos) X.env)] := by rfl) :
    PE X (.Call (.Name "list" p) [.Call (.Attribute o "values" apos) [] [] vpos] [] pos) (tListVals td) := by
  refine ⟨fun pins s σ H Q I h => ?_⟩
  refine wpAny_Call_Name_kw (ld_blt I hg hm (u := .type "list") (by decide +kernel) ?_ (by decide) (by decide))
  rw [hes]
  refine PySem.callWith_type1 (wpAny_Call_method0_late hbase hline (thn (hd.run pins s σ H _ I h) fun v s1 ⟨x, H1, I1, r1, a, kvs, ex, ha, q⟩ => ?_))
  subst ex
  cases r1
  obtain ⟨hz, hsys, vs, rel, dof⟩ := dk_of I1.hok ha
  obtain ⟨ep, dat⟩ := dof.dictAt
  have dat' := dat
  obtain ⟨od, es, eo, cx, _, _, _, _⟩ := dat'
  refine ⟨"dict", "dict.values", F.plainAttrs_dict, F.slot_dict_values, F.type_dict_values, ⟨od, eo, cx.1⟩, fun c e => ?_, Calls.callWith_builtin rfl (PySem.evalArgs_none ?_)⟩
  · cases e
    exact ⟨od, eo, cx.2.1⟩
  refine call_meetsIn F.slot_dict_values ⟨od, eo, cx.1⟩ F.entry_dict_values (F.args_dict_values_1 _) (meets_dict_values (mixKind X.prog X.w) a hsys) ⟨⟨vs, dof⟩, ?_⟩
  have up : ∀ b u, s1.heap.get? b = some u → (s1.heap.push { cls := .type "dict_values", data := .fields #[.ref a] }).get? b = some u := fun b u e => Heap.get?_push_of_some _ e
  have hlen : kvs.length = vs.length := Paired.length rel
  refine PySem.W.kdl_call (PySem.W.kdl_values (knd := mixKind X.prog X.w) (d := a) (r := s1.heap.objs.size) (kvs := vs) (ep := ep)) (I.ok.hd hc) ⟨⟨_, Heap.get?_push_size _ rfl, rfl, rfl⟩, dat.keep up⟩ (by rw [← hlen]; exact hz) fun h' tk acc c' hk hD hacc => ?_
  have ev : acc.toList = vs.map (·.2) := PySem.W.kdl_vals_eq acc.toList (by rw [Array.length_toList]; exact hacc.1) fun j v e => hacc.2 j v (by rw [← Array.getElem?_toList]; exact e)
  have le : s1.heap.objs.size ≤ (s1.heap.push { cls := .type "dict_values", data := .fields #[.ref a] }).objs.size := by rw [Heap.size_push]; exact Nat.le_succ _
  exact ⟨.ref _, upd H1 _ (.lst (kvs.map (·.2))), I1.laid (t' := tk) (fun b u e => hk b u (up b u e)) le (show ObjOk X.prog X.w _ _ _ (.lst (kvs.map (·.2))) from ⟨by rw [List.length_map]; exact hz, acc.toList, c', by rw [ev]; exact kv_vals rel, by rw [Array.toArray_toList]; exact hD⟩), rfl, q _ (I1.hok.fresh le)⟩
end
end MixW
set_option Elab.async false
set_option linter.all false
set_option maxRecDepth 100000
set_option maxHeartbeats 4000000
namespace K31
open PySem PySem.Spec PyProof.Rows L2 MixW LamX LamC
open C8 (Cal Def cal0 pe_c fnBody fnScope fnArgs)
theorem sqL_ext {K : PySem.W.Frag} {a : Addr} {H H' : Hp} {xs : List V} (h : SqL K H a xs) (e : ExtN H H') : SqL K H' a xs := by
  rcases h with (h | ⟨o, h⟩) | h
  · exact .inl (.inl (e _ _ h fun ps z => nomatch z))
  · exact .inl (.inr ⟨o, e _ _ h fun ps z => nomatch z⟩)
  · exact .inr h
theorem tabs_but {T : List (Addr × Str)} {p : Addr} {H H' : Hp} {xs : List V} (t : Tabs T H) (e : But p H H') (hp : H p = some (.lst xs)) : Tabs T H' := fun q hq => by
  obtain ⟨ps, h1, h2, h3⟩ := t q hq
  refine ⟨ps, e _ _ (fun z => by rw [z, hp] at h1; cases h1) h1, h2, fun pos cv hc => ?_⟩
  obtain ⟨c, e1, e2⟩ := h3 pos cv hc
  exact ⟨c, e1, e _ _ (fun z => by rw [z, hp] at e2; cases e2) e2⟩
theorem tabs_go {T : List (Addr × Str)} {p : Addr} {H H' : Hp} (t : Tabs T H) (hp : Pt H p) (g : Go p H H') : Tabs T H' := by
  obtain ⟨x, y, a, _⟩ := hp
  exact tabs_but t g.1 a
theorem ne_self {x : V} : (!decide (x = x)) = false := by rw [decide_eq_true rfl]; rfl
/-! ### all stays but the pot and the tables of code objects -/
def Kx (p : Addr) (H H' : Hp) : Prop := (∀ b o, b ≠ p → (∀ ps, o ≠ .tbl ps) → H b = some o → H' b = some o) ∧ Pt H' p
theorem Kx.go {p : Addr} {H H' : Hp} (g : Go p H H') : Kx p H H' := ⟨fun b o n _ h => g.1 b o n h, g.2⟩
theorem Kx.ext {p : Addr} {H H' : Hp} (hp : Pt H p) (e : ExtN H H') : Kx p H H' := ⟨fun b o _ n h => e b o h n, by
  obtain ⟨x, y, a, r⟩ := hp
  exact ⟨x, y, e _ _ a (fun ps z => nomatch z), r⟩⟩
theorem Kx.trans {p : Addr} {H H1 H2 : Hp} (a : Kx p H H1) (b : Kx p H1 H2) : Kx p H H2 := ⟨fun c o n m h => b.1 c o n m (a.1 c o n m h), b.2⟩
theorem Kx.tr {p : Addr} {H H' : Hp} (hp : Pt H p) (k : Kx p H H') : TR H H' := fun a ys h => by
  obtain ⟨x, y, e, _⟩ := hp
  have n : a ≠ p := fun z => by
    rcases h with h | ⟨o, h⟩ <;> rw [z, e] at h <;> cases h
  rcases h with h | ⟨o, h⟩
  · exact .inl (k.1 _ _ n (fun ps z => nomatch z) h)
  · exact .inr ⟨o, k.1 _ _ n (fun ps z => nomatch z) h⟩
theorem Kx.dk {p d : Addr} {H H' : Hp} {kv : List (Key × V)} (hp : Pt H p) (k : Kx p H H') (h : H d = some (.dK kv)) : H' d = some (.dK kv) := k.1 _ _ (hp.neK h) (fun ps z => nomatch z) h
theorem Kx.ls {p d : Addr} {H H' : Hp} {xs : List V} (k : Kx p H H') (n : d ≠ p) (h : H d = some (.lst xs)) : H' d = some (.lst xs) := k.1 _ _ n (fun ps z => nomatch z) h
section
variable {K : PySem.W.Frag}
theorem Kx.sqL {p a : Addr} {H H' : Hp} {xs : List V} (k : Kx p H H') (n : a ≠ p) (h : SqL K H a xs) : SqL K H' a xs := by
  rcases h with (h | ⟨o, h⟩) | h
  · exact .inl (.inl (k.1 _ _ n (fun ps z => nomatch z) h))
  · exact .inl (.inr ⟨o, k.1 _ _ n (fun ps z => nomatch z) h⟩)
  · exact .inr h
theorem Fd.kx {p t : Addr} {H H' : Hp} {fs : List (Str × Kd)} (hp : Pt H p) (k : Kx p H H') (h : Fd K H t fs) : Fd K H' t fs := by
  obtain ⟨ps, ⟨o, h1, r⟩, h2, h3⟩ := h
  exact ⟨ps, ⟨o, k.1 _ _ (hp.neF h1) (fun ps z => nomatch z) h1, r⟩, PrP.tr h2 (k.tr hp), h3⟩
theorem R0.kx {p : Addr} {H H' : Hp} {kv : List (Key × V)} {l : List (Str × List (Str × Kd))} (hp : Pt H p) (k : Kx p H H') (h : R0 K H kv l) : R0 K H' kv l := Paired.mapP h fun _ _ ⟨a, t, b, c⟩ => ⟨a, t, b, c.kx hp k⟩
theorem ShOk.kx {p a : Addr} {H H' : Hp} {l0 : List (Str × List (Str × Kd))} {l1 : List (Str × Kd)} {n2 : List Str} (hp : Pt H p) (k : Kx p H H') (h : ShOk K H a l0 l1 n2) : ShOk K H' a l0 l1 n2 := by
  obtain ⟨d0, d1, d2, kv0, kv1, kv2, hq, h0, h1, h2, r0, r1, r2, r3⟩ := h.at_
  have tr := k.tr hp
  exact ⟨d0, d1, d2, kv0, kv1, kv2, tr.sq hq, k.dk hp h0, k.dk hp h1, k.dk hp h2, r0.kx hp k, r1.tr tr, r2.tr tr, r3⟩
/-- all that is drawn ahead of the terms -/
structure Sx (K : PySem.W.Frag) (H : Hp) (p sh pa th hd kp L d0 d1 d2 e0 e1 e2 : Addr) (kv0 kv1 kv2 kvh : List (Key × V)) (l0 m0 : List (Str × List (Str × Kd))) (l1 m1 fs : List (Str × Kd)) (n2 zs : List Str) : Prop where
  s_pt : Pt H p
  s_sh : ShOk K H sh l0 l1 n2
  s_pr : SqT K H pa [.ref d0, .ref d1, .ref d2]
  s_a0 : H d0 = some (.dK kv0)
  s_a1 : H d1 = some (.dK kv1)
  s_a2 : H d2 = some (.dK kv2)
  s_r0 : R0 K H kv0 m0
  s_r1 : R1 K H kv1 m1
  s_th : Fd K H th fs
  s_hd : H hd = some (.dK kvh)
  s_rh : RH K H kvh fs
  s_kp : H kp = some (.lst [.ref e0, .ref e1, .ref e2])
  s_kn : kp ≠ p
  s_k0 : H e0 = some (.dK kv0)
  s_k1 : H e1 = some (.dK kv1)
  s_k2 : H e2 = some (.dK kv2)
  s_ls : H L = some (.lst (zs.map V.str))
  s_ln : L ≠ p
section
variable {p sh pa th hd kp L d0 d1 d2 e0 e1 e2 : Addr} {kv0 kv1 kv2 kvh : List (Key × V)} {l0 m0 : List (Str × List (Str × Kd))} {l1 m1 fs : List (Str × Kd)} {n2 zs : List Str}
theorem Sx.kx {H H' : Hp} (s : Sx K H p sh pa th hd kp L d0 d1 d2 e0 e1 e2 kv0 kv1 kv2 kvh l0 m0 l1 m1 fs n2 zs) (k : Kx p H H') : Sx K H' p sh pa th hd kp L d0 d1 d2 e0 e1 e2 kv0 kv1 kv2 kvh l0 m0 l1 m1 fs n2 zs :=
  have tr := k.tr s.s_pt
  ⟨k.2, s.s_sh.kx s.s_pt k, tr.sq s.s_pr, k.dk s.s_pt s.s_a0, k.dk s.s_pt s.s_a1, k.dk s.s_pt s.s_a2, s.s_r0.kx s.s_pt k, s.s_r1.tr tr, s.s_th.kx s.s_pt k, k.dk s.s_pt s.s_hd, s.s_rh.tr tr, k.ls s.s_kn s.s_kp, s.s_kn, k.dk s.s_pt s.s_k0, k.dk s.s_pt s.s_k1, k.dk s.s_pt s.s_k2, k.ls s.s_ln s.s_ls, s.s_ln⟩
/-- what is asked -/
abbrev enO (m0 : List (Str × List (Str × Kd))) (m1 fs : List (Str × Kd)) : En := ⟨fun z => fs.lookup z, fun z => m1.lookup z, fun z => m0.lookup z⟩
theorem Sx.pg {H : Hp} (s : Sx K H p sh pa th hd kp L d0 d1 d2 e0 e1 e2 kv0 kv1 kv2 kvh l0 m0 l1 m1 fs n2 zs) : PgOk K H pa (enO m0 m1 fs) := by
  refine ⟨d0, d1, .ref d2, kv0, kv1, s.s_pr, s.s_a0, s.s_a1, fun z => ?_, fun z => ?_⟩
  · rcases getP (fun _ _ h => h.1) s.s_r0 z with ⟨a, b, _⟩ | ⟨v, a, h1, h2, _, _, t, h4, h5⟩
    · exact .inl ⟨a, b⟩
    · simp only at h4
      subst h4
      exact .inr ⟨t, a, h1, h2, h5⟩
  · rcases getP (fun _ _ h => h.1) s.s_r1 z with ⟨a, b, _⟩ | ⟨v, a, h1, h2, _, _, t, kb, x, h4, h5, h6⟩
    · exact .inl ⟨a, b⟩
    · simp only at h4
      subst h4
      exact .inr ⟨t, kb, x, a, h1, h2, h5, h6⟩
theorem Sx.jk {H : Hp} (s : Sx K H p sh pa th hd kp L d0 d1 d2 e0 e1 e2 kv0 kv1 kv2 kvh l0 m0 l1 m1 fs n2 zs) : JK K hd pa kvh (enO m0 m1 fs) H := by
  refine ⟨s.s_hd, fun z => ?_, s.pg⟩
  rcases getP (fun _ _ h => h.1) s.s_rh z with ⟨a, b, _⟩ | ⟨v, a, h1, h2, _, _, h5⟩
  · exact .inl ⟨a, b⟩
  · exact .inr ⟨v, a, h1, h2, h5⟩
end
theorem lookup_in {α : Type} {z : Str} {a : α} : ∀ {l : List (Str × α)}, l.lookup z = some a → (z, a) ∈ l
  | [], h => by cases h
  | (y, b) :: l, h => by
    rw [List.lookup_cons] at h
    cases e : (z == y) with
    | true =>
      rw [e] at h
      have e1 : z = y := eq_of_beq e
      have e2 : b = a := by simpa using h
      rw [e1, e2]
      exact List.mem_cons_self ..
    | false =>
      rw [e] at h
      exact List.mem_cons_of_mem _ (lookup_in (l := l) (by simpa using h))
theorem en_ok {m0 : List (Str × List (Str × Kd))} {m1 fs : List (Str × Kd)} (hP : PrP0 m0 m1) (hO : HoOk fs) : EnOk (enO m0 m1 fs) :=
  ⟨fun z k h => (hO.km _ (lookup_in h)).kl.mono (by decide), fun z k h => (hP.kl1 _ (lookup_in h)).kl.mono (by decide), fun z gs h a ha => ((hP.kl0 _ (lookup_in h)).kl a ha).kl.mono (by decide)⟩
/-- a list's term of many -/
theorem tm_many {n w : Nat} {ts : List PyData} (h1 : 1 ≤ ts.length) (h8 : ts.length ≤ 8) (ht : ∀ t ∈ ts, TmOk n w t) : TmOk (n + 1) (8 * w + 20) (.tuple (.str "list" :: ts)) := by
  obtain ⟨a, b, c⟩ := all_lay ht
  refine ⟨fm_list ts h1 h8 (List.all_eq_true.mpr fun t h => (ht t h).tm), ?_, ?_, ?_⟩
  · simp only [PyData.canLay0, PyData.canLayAll0, Bool.and_eq_true]
    exact ⟨by decide +kernel, a⟩
  · simp only [PyData.depth, PyData.depthAll]
    omega
  · have h4 : (("list" : Str)).cps.size = 4 := by decide +kernel
    simp only [PyData.weight, PyData.weightAll, h4]
    have : ts.length * (w + 1) ≤ 8 * (w + 1) := Nat.mul_le_mul_right _ h8
    omega
theorem TmOk.good {n w : Nat} {d : PyData} (h : TmOk n w d) (hn : n ≤ 30) : GoodD d := ⟨h.tm, h.lay, Nat.le_trans h.dep hn⟩
theorem evo_shaped {c : En} (ok : EnOk c) {n w : Nat} {d : PyData} (h : TmOk n w d) (hn : n ≤ 40) : SeqAt.shaped (evO c d) = true := by
  unfold evO
  cases e : evK c d with
  | none => decide +kernel
  | some k => exact (ev_ok ok d k h.lay e).shaped (by have := h.dep; omega)
theorem evo_lay {c : En} (ok : EnOk c) {n w : Nat} {d : PyData} (h : TmOk n w d) : (evO c d).canLay0 = true := by
  unfold evO
  cases e : evK c d with
  | none => decide +kernel
  | some k => exact (ev_ok ok d k h.lay e).1
/-- a list, unlocked -/
theorem Lf.unlock {N W n : Nat} {p F d : Addr} {H H' : Hp} {od : Obj} {kv : List (Key × V)} (hp : Pt H p) (hd : H d = some (.dK kv)) (hF : (upd H d (.frz od (.dK kv))) d = some (.frz od (.dK kv))) (h : Lf K N W p F (upd H d (.frz od (.dK kv))) H' n) : Lf K N W p F H (upd H' d (.dK kv)) n := by
  have n1 : F ≠ d := fun e => by
    have := h.nw
    rw [e, hF] at this
    cases this
  have hd' := h.go.at (hp.neK hd) hF
  obtain ⟨vs, ds, a, b, c, e⟩ := h.ex
  refine ⟨⟨vs, ds, by rw [upd_ne n1]; exact a, b.tr (TR.unf hd'), c, e⟩, h.ne, ?_, lock_go hp hd h.go⟩
  have := h.nw
  rw [upd_ne n1] at this
  exact this
/-- copies of a dict are alike -/
theorem eqv_dict {H : Hp} {a b : Addr} {kv : List (Key × V)} (ha : H a = some (.dK kv)) (hb : H b = some (.dK kv)) (hn : (kv.map (·.1)).Nodup) (hr : ∀ q ∈ kv, ∃ t, q.2 = .ref t) : EqV K H 3 (.ref a) (.ref b) := by
  refine .inr (.inr (.inr ⟨a, b, kv, kv, rfl, rfl, ha, hb, rfl, fun q hq => ?_⟩))
  obtain ⟨i, hi⟩ := List.mem_iff_getElem?.mp hq
  obtain ⟨t, ht⟩ := hr q hq
  exact ⟨q.2, valV_nth hn hi, .inr (.inl ⟨t, ht, ht⟩)⟩
theorem R0.refs {H : Hp} {kv : List (Key × V)} {l : List (Str × List (Str × Kd))} (h : R0 K H kv l) : ∀ q ∈ kv, ∃ t, q.2 = .ref t := by
  induction h with
  | nil => intro q hq; cases hq
  | cons r t ih =>
    intro q hq
    rcases List.mem_cons.mp hq with e | e
    · rw [e]; obtain ⟨_, t, e, _⟩ := r; exact ⟨t, e⟩
    · exact ih q e
theorem R1.refs {H : Hp} {kv : List (Key × V)} {l : List (Str × Kd)} (h : R1 K H kv l) : ∀ q ∈ kv, ∃ t, q.2 = .ref t := by
  induction h with
  | nil => intro q hq; cases hq
  | cons r t ih =>
    intro q hq
    rcases List.mem_cons.mp hq with e | e
    · rw [e]; obtain ⟨_, t, _, _, e, _⟩ := r; exact ⟨t, e⟩
    · exact ih q e
end
end K31
set_option Elab.async false
set_option linter.all false
set_option maxRecDepth 100000
set_option maxHeartbeats 8000000
namespace K31
open PySem PySem.Spec PyProof.Rows L2 MixW LamX LamC
open C8 (Cal Def cal0 pe_c fnBody fnScope fnArgs)
section
variable {P : Program} {w : World} {K : PySem.W.Frag} {mg : Str → Option Value} {base : Heap}
/-- the copies of a tuple's three dicts -/
theorem lc_dicts {k0 : Nat} {te : TE} {σ : L2.St} {H : Hp} {R9 : Addr → Hp → Prop} {pa d0 d1 d2 : Addr} {kv0 kv1 kv2 : List (Key × V)} (hq : SqT K H pa [.ref d0, .ref d1, .ref d2]) (h0 : H d0 = some (.dK kv0)) (h1 : H d1 = some (.dK kv1)) (h2 : H d2 = some (.dK kv2))
    (hw : ∀ x, wipe ((wipe σ [k0]).set k0 (some x)) [k0] = wipe σ [k0])
    (he : ∀ (x : Addr) (kv : List (Key × V)) (H1 : Hp) (Q' : VK), H1 x = some (.dK kv) → (∀ e, H1 e = none → Q' (.ref e) (upd H1 e (.dK kv))) → te ((wipe σ [k0]).set k0 (some (.ref x))) H1 Q')
    (hR : ∀ D H' e0 e1 e2, H D = none → Same H H' → H' D = some (.lst [.ref e0, .ref e1, .ref e2]) → H' e0 = some (.dK kv0) → H' e1 = some (.dK kv1) → H' e2 = some (.dK kv2) → R9 D H') :
    ∀ D, H D = none → ∃ W : Nat → Nat → Hp → Prop, (∃ m, W 0 m (upd H D (.lst []))) ∧ ∀ i m H, W i m H →
      ((Itt K pa).stop i H ∧ R9 D H) ∨ ((Itt K pa).go i H ∧ ∃ Nx : Hp → Prop, (∀ H', Nx H' → ∃ m', m' < m ∧ W (i + 1) m' H') ∧ ∀ x H', (Itt K pa).yld i H x H' → gName k0 x (wipe σ [k0]) H' fun σ2 H2 => wipe σ2 [k0] = wipe σ [k0] ∧ tYes σ2 H2 fun b H3 =>
        if b = true then te σ2 H3 fun y H4 => ∃ acc, H4 D = some (.lst acc) ∧ acc.length < sizeLine ∧ Nx (upd H4 D (.lst (acc ++ [y]))) else Nx H3) := by
  intro D hD
  refine lc_tup (K := K) (a := pa) (xs := [.ref d0, .ref d1, .ref d2]) (Qd := R9 D) (fun i H' => Same H H' ∧ ∃ es : List Addr, H' D = some (.lst (es.map V.ref)) ∧ es.length = i ∧ ∀ (j : Nat) (e : Addr) (kv : List (Key × V)), es[j]? = some e → [kv0, kv1, kv2][j]? = some kv → H' e = some (.dK kv)) ⟨Same.new hD, [], upd_same, rfl, fun j e kv h => by simp at h⟩ (fun i H' _ hW => sqT_mono hW.1 hq) (fun i x H2 hi hW => ?_) (fun H' hW => ?_)
  · obtain ⟨s2, es, a1, a2, a3⟩ := hW
    obtain ⟨d, kv, rfl, hkv, hd⟩ : ∃ d kv, x = .ref d ∧ [kv0, kv1, kv2][i]? = some kv ∧ H d = some (.dK kv) := by
      match i, hi with
      | 0, hi => cases hi; exact ⟨d0, kv0, rfl, rfl, h0⟩
      | 1, hi => cases hi; exact ⟨d1, kv1, rfl, rfl, h1⟩
      | 2, hi => cases hi; exact ⟨d2, kv2, rfl, rfl, h2⟩
      | n + 3, hi => simp at hi
    have hil : i < 3 := (List.getElem?_eq_some_iff.mp hkv).1
    refine ⟨hw _, ?_⟩
    unfold tYes; dsimp only
    rw [if_pos rfl]
    refine he d kv H2 _ (s2 _ _ hd) (fun e he => ?_)
    have s3 : Same H2 (upd H2 e (.dK kv)) := Same.new he
    have a13 := s3 _ _ a1
    refine ⟨_, a13, by rw [List.length_map, sizeLine_eq]; omega, fun b o hb => ?_, es ++ [e], by rw [List.map_append]; exact upd_same, by rw [List.length_append, List.length_singleton]; omega, fun j e' kv' hj hkv' => ?_⟩
    · rw [upd_ne (fun z => by rw [z, hD] at hb; cases hb)]
      exact s3 _ _ (s2 _ _ hb)
    · rcases Nat.lt_or_ge j es.length with h | h
      · rw [List.getElem?_append_left h] at hj
        have := a3 j e' kv' hj hkv'
        rw [upd_ne (fun z => by rw [z, a1] at this; cases this)]
        exact s3 _ _ this
      · have ej : j = es.length := by
          have := (List.getElem?_eq_some_iff.mp hj).1
          rw [List.length_append, List.length_singleton] at this
          omega
        rw [ej, List.getElem?_concat_length] at hj
        cases hj
        rw [ej, a2, hkv] at hkv'
        cases hkv'
        rw [upd_ne (fun z => by rw [z] at he; rw [he] at a1; cases a1)]
        exact upd_same
  · obtain ⟨s2, es, a1, a2, a3⟩ := hW
    match es, a2 with
    | [e0, e1, e2], _ => exact hR D H' e0 e1 e2 hD s2 a1 (a3 0 e0 kv0 rfl rfl) (a3 1 e1 kv1 rfl rfl) (a3 2 e2 kv2 rfl rfl)
theorem sqL_kx {a p : Addr} {H0 H1 H' : Hp} {xs : List V} (h : SqL K H0 a xs) (hp : H0 p = none) (s : Same H0 H1) (k : Kx p H1 H') : SqL K H' a xs := by
  rcases h with (h | ⟨o, h⟩) | h
  · exact .inl (.inl (k.1 _ _ (fun z => by rw [z, hp] at h; cases h) (fun ps z => nomatch z) (s _ _ h)))
  · exact .inl (.inr ⟨o, k.1 _ _ (fun z => by rw [z, hp] at h; cases h) (fun ps z => nomatch z) (s _ _ h)⟩)
  · exact .inr h
theorem RH.vals {H : Hp} {kv : List (Key × V)} {l : List (Str × Kd)} (h : RH K H kv l) : TnAll K H (kv.map (·.2)) ((l.map (·.2)).map Kd.d) := by
  induction h with
  | nil => exact .nil
  | cons r _ ih => exact .cons r.2 ih
theorem repA_any {H : Hp} {Q : VK} {l : Addr} {u : V} {r : Int} (hq : SqT K H l [u]) (r0 : 0 ≤ r) (r1 : r ≤ 1000) (q : ∀ c H', SqT K H' c (List.replicate r.toNat u) → Same H H' → Q (.ref c) H') : rRepA K (.ref l) (.int r) H Q := by
  refine ⟨l, r, [u], rfl, rfl, hq, by simp, r0, r1, by simp, fun e => q l H (by subst e; exact hq) (Same.refl H), fun e z hz => q z _ ?_ (Same.new hz)⟩
  have e2 : (List.replicate r.toNat [u]).flatten = List.replicate r.toNat u := by simp
  rw [e2]
  exact SqT.of upd_same
theorem catA_same {H : Hp} {Q : VK} {a b : Addr} {xs ys : List V} (ha : SqT K H a xs) (hb : SqT K H b ys) (hz : xs.length + ys.length ≤ sizeLine) (q : ∀ c H', SqT K H' c (xs ++ ys) → Same H H' → Q (.ref c) H') : rCatA K (.ref a) (.ref b) H Q :=
  catA_any ha hb hz (fun c H' hc he => q c H' hc (by
    rcases he with rfl | ⟨p, hp, rfl⟩
    · exact Same.refl _
    · exact Same.new hp))
theorem slA_any {H : Hp} {Q : VK} {a : Addr} {xs : List V} {lo hi : Option Int} (hq : SqT K H a xs) (q : ∀ c H', SqT K H' c (cutV xs lo hi) → Same H H' → Q (.ref c) H') : rSlA K (.ref a) lo hi H Q := by
  refine ⟨a, xs, rfl, hq, fun h => q a H ?_ (Same.refl H), fun _ p hp => q p _ (SqT.of upd_same) (Same.new hp)⟩
  have : cutV xs lo hi = xs := by
    unfold cutV
    rw [h.1, h.2]
    simp
  rw [this]
  exact hq
theorem tn_rep {H : Hp} {u : V} {e : PyData} (h : Tn K H u e) : ∀ n : Nat, TnAll K H (List.replicate n u) (List.replicate n e)
  | 0 => .nil
  | n + 1 => .cons h (tn_rep h n)
abbrev sLaw : Stmt := topS 37
abbrev NLaw : List Str := ["_law_script", "_law_k", "_law_pot_here", "_law_shapes_here", "_law_program", "_law_holding_here", "_law_held", "_law_kept", "_law_records", "_law_terms", "_law_j", "_law_term_here", "_law_kind_here", "_law_leaf_here", "_law_one", "_law_name"]
theorem scLaw : FnScope NLaw ["_law_script"] (fnScope sLaw) := ⟨rfl, rfl, rfl, by decide +kernel, rfl, by decide +kernel, by decide +kernel⟩
def spLaw (K : PySem.W.Frag) (Tb : Addr) : Sp := fun vs H Q _ => ∃ (a : Addr) (ns : List Int), vs = [.ref a] ∧ SqL K H a (ns.map V.int) ∧ ns.length ≤ 63 ∧ Tabs [(Tb, lamQ)] H ∧ ∀ H', Q (.bl true) H'
theorem f_law (T : Tp mg) {Tb : Addr} (c_LCell : Cal P w K mg base 1 "_law_cell" (spNth K) []) (c_LPot : Cal P w K mg base 1 "_law_pot" spPot []) (c_LShapes : Cal P w K mg base 7 "_law_shapes" (spShapes K) []) (c_LWhole : Cal P w K mg base 1 "_law_whole" (spWhole K) []) (c_LGone : Cal P w K mg base 3 "_law_gone" (spGone K) [])
    (c_LHolding : Cal P w K mg base 12 "_law_holding" (spHold K) []) (c_LTerm : Cal P w K mg base 10 "_law_term" (spTerm K 3) []) (c_LKind : Cal P w K mg base 11 "_law_kind" (spKind K 9) []) (c_LTall : Cal P w K mg base 2 "_law_tall" (spTall K) []) (c_LLeaf : Cal P w K mg base 3 "_law_leaf" (spLeaf K) []) (c_LTake : Cal P w K mg base 1 "_law_take" spTake []) (c_LOdd : Cal P w K mg base 2 "_law_odd" (spTermN K 5) [])
    (c_PKindOf : Cal P w K mg base 6 "kind_of" (spKindOf K Tb) []) (c_LDue : Cal P w K mg base 20 "_law_due" (spDue K 18) []) (c_PIsThere : Cal P w K mg base 2 "is_there" (spThere K) []) (c_LThere : Cal P w K mg base 1 "_law_there" (spThere K) [])
    {f : Addr} {fd : FuncData} (D : Def K mg "law" sLaw f fd) : FnG P w K mg base C8.CX0 21 f fd ["_law_script"] (spLaw K Tb) := by
  refine fnG0 D scLaw (fun vs H Q E h => ?_) (fun cdv A outer s H vs Q E hg hr h => ?_)
  · obtain ⟨a, ns, rfl, _⟩ := h
    rfl
  · obtain ⟨a, ns, rfl, hS, hn, hT, q⟩ := h
    have nd := scLaw.nd
    refine ⟨_, (pss_cons (ps_for PassesOwn.never rfl (pi_range1 (by rfl) T.n_range (pa_cons (pe_callB (call_max2 rfl) (by rfl) T.n_max (by decide +kernel) (pa_cons pe_int (pa_cons (pe_callB (call_min2 rfl) (by rfl) T.n_min (by decide +kernel) (pa_cons pe_int (pa_cons (pe_callB call_len_seq (by rfl) T.n_len (by decide +kernel) (pa_cons (pv 0) pa_nil)) pa_nil))) pa_nil))) pa_nil)) (pg_name (i := 1) nd rfl (.inl rfl))
      (C8.pss_cut (ps_set (i := 2) nd rfl (.inr rfl) (pe_c c_LPot hr (by decide) (by rfl) (pa_cons (pe_c c_LCell hr (by decide) (by rfl) (pa_cons (pv 0) (pa_cons (pv 1) pa_nil))) pa_nil)))
    (C8.pss_cut (ps_set (i := 3) nd rfl (.inl rfl) (pe_c c_LShapes hr (by decide) (by rfl) (pa_cons (pv 2) pa_nil)))
    (C8.pss_cut (ps_set (i := 4) nd rfl (.inl rfl) (pe_c c_LGone hr (by decide) (by rfl) (pa_cons (pv 2) (pa_cons (pe_c c_LWhole hr (by decide) (by rfl) (pa_cons (pv 3) pa_nil)) pa_nil))))
    (C8.pss_cut (ps_set (i := 5) nd rfl (.inl rfl) (pe_c c_LHolding hr (by decide) (by rfl) (pa_cons (pv 2) (pa_cons (pv 3) pa_nil))))
    (C8.pss_cut (ps_set (i := 6) nd rfl (.inl rfl) (pe_callTy (call_dictT rfl) (by rfl) T.n_dict (by decide +kernel) (pa_cons (pv 5) pa_nil)))
    (C8.pss_cut (ps_setLc (i := 7) (own := [("_law_one", 14)]) (g := gName 14) rfl nd rfl rfl (sw_true rfl rfl rfl (by decide +kernel)) (pi_tup (pv 4)) (blkOk_by (own := [("_law_one", 14)]) (N := NLaw) (sc := fnScope sLaw) (by decide +kernel)) (fun _ _ _ _ _ => pg_name (i := 14) nd rfl (Or.inl rfl)) (fun _ _ _ _ _ => pts_nil) (fun _ _ _ _ _ => (pe_callTy call_dictD (by rfl) T.n_dict (by decide +kernel) (pa_cons (pv 14) pa_nil))))
    (C8.pss_cut (ps_set (i := 8) nd rfl (.inr rfl) (pe_callB (call_sortedD rfl) (by rfl) T.n_sorted (by decide +kernel) (pa_cons (pe_ix (r := rIxT K) ix_tup (pv 4) pe_int (fun _ _ => rfl)) pa_nil)))
    (C8.pss_cut (ps_set (i := 9) nd rfl (.inl rfl) (pe_op op_cat (pe_lock (pe_lc (own := [("_law_name", 15)]) (g := gName 15) (by rfl) nd (pi_keys (pv 6)) (blkOk_by (own := [("_law_name", 15)]) (N := NLaw) (sc := fnScope sLaw) (by decide +kernel)) (fun _ _ _ _ _ => pg_name (i := 15) nd rfl (Or.inl rfl)) (fun _ _ _ _ _ => pts_nil) (fun _ _ _ _ _ => (pe_tup (pa_cons pe_str (pa_cons (pv 15) pa_nil)))))) (pe_lc (own := [("_law_name", 15)]) (g := gName 15) (by rfl) nd (pi_list (pe_callB (call_sortedD rfl) (by rfl) T.n_sorted (by decide +kernel) (pa_cons (pe_ix (r := rIxT K) ix_tup (pv 4) pe_int (fun _ _ => rfl)) pa_nil))) (blkOk_by (own := [("_law_name", 15)]) (N := NLaw) (sc := fnScope sLaw) (by decide +kernel)) (fun _ _ _ _ _ => pg_name (i := 15) nd rfl (Or.inl rfl)) (fun _ _ _ _ _ => pts_nil) (fun _ _ _ _ _ => (pe_tup (pa_cons pe_str (pa_cons (pv 15) pa_nil)))))))
    (C8.pss_cut (ps_for PassesOwn.never rfl (pi_range1 (by rfl) T.n_range (pa_cons pe_int pa_nil)) (pg_name (i := 10) nd rfl (.inl rfl))
      (C8.pss_cut (ps_set (i := 11) nd rfl (.inl rfl) (pe_c c_LTerm hr (by decide) (by rfl) (pa_cons (pv 2) (pa_cons (pe_c c_LKind hr (by decide) (by rfl) (pa_cons (pv 2) (pa_cons (pv 8) (pa_cons pe_int pa_nil)))) (pa_cons (pv 6) (pa_cons (pv 3) (pa_cons pe_int (pa_cons pe_int pa_nil))))))))
    (C8.pss_cut (ps_expr (pe_bm PySem.F.plainAttrs_list PySem.F.slot_list_append PySem.F.type_list_append mt_append (pv 9) (pa_cons (pe_ix ix_list (pe_lst (pa_cons (pe_c c_LTall hr (by decide) (by rfl) (pa_cons (pv 2) (pa_cons (pv 11) pa_nil))) (pa_cons (pv 11) (pa_cons (pv 11) (pa_cons (pv 11) pa_nil))))) (pe_c c_LTake hr (by decide) (by rfl) (pa_cons (pv 2) (pa_cons pe_int pa_nil))) (fun _ _ => rfl)) pa_nil)))
    (C8.pss_cut (ps_set (i := 13) nd rfl (.inl rfl) (pe_c c_LLeaf hr (by decide) (by rfl) (pa_cons (pv 2) (pa_cons (pe_tup (pa_cons pe_str pa_nil)) (pa_cons (pv 6) (pa_cons (pv 3) pa_nil))))))
    (pss_one (ps_expr (pe_bm PySem.F.plainAttrs_list PySem.F.slot_list_append PySem.F.type_list_append mt_append (pv 9) (pa_cons (pe_op (r := rCatA K) op_catA (pe_op (r := rCatA K) op_catA (pe_tup (pa_cons pe_str pa_nil)) (pe_op (r := rRepA K) op_repA (pe_tup (pa_cons (pv 13) pa_nil)) (pe_c c_LTake hr (by decide) (by rfl) (pa_cons (pv 2) (pa_cons pe_int pa_nil))))) (pe_slice sl_tupA (pe_tup (pa_cons (pe_tup (pa_cons pe_str (pa_cons pe_int pa_nil))) (pa_cons (pe_c c_LOdd hr (by decide) (by rfl) (pa_cons (pv 2) pa_nil)) pa_nil))) (po_some (pe_c c_LTake hr (by decide) (by rfl) (pa_cons (pv 2) (pa_cons pe_int pa_nil)))) po_none)) pa_nil))))))))
    (C8.pss_cut (ps_for PassesOwn.never rfl (pi_list (pe_op op_cat (pv 9) (pe_revL (pv 9)))) (pg_name (i := 11) nd rfl (.inl rfl))
      (pss_one (ps_if (pt_cmpR (op_neD hr.units) (pe_c c_PKindOf hr (by decide) (by rfl) (pa_cons (pv 11) (pa_cons (pv 5) (pa_cons (pv 4) pa_nil)))) (pe_c c_LDue hr (by decide) (by rfl) (pa_cons (pv 11) (pa_cons (pv 6) (pa_cons (pv 4) pa_nil)))) (nomark _))
      (pss_one (ps_ret pe_bl))
      pss_nil)))
    (C8.pss_cut (ps_for PassesOwn.never rfl (pi_list (pe_op op_cat (pe_lc (own := [("_law_j", 10)]) (g := gName 10) (by rfl) nd (pi_range1 (by rfl) T.n_range (pa_cons pe_int pa_nil)) (blkOk_by (own := [("_law_j", 10)]) (N := NLaw) (sc := fnScope sLaw) (by decide +kernel)) (fun _ _ _ _ _ => pg_name (i := 10) nd rfl (Or.inl rfl)) (fun _ _ _ _ _ => pts_nil) (fun _ _ _ _ _ => (pe_c c_LKind hr (by decide) (by rfl) (pa_cons (pv 2) (pa_cons (pe_op op_cat (pv 8) (pe_lst (pa_cons pe_str pa_nil))) (pa_cons pe_int pa_nil)))))) (pe_listVals rfl (by rfl) T.n_list (pv 6)))) (pg_name (i := 12) nd rfl (.inl rfl))
      (pss_one (ps_if (pt_cmpR op_ne (pe_c c_PIsThere hr (by decide) (by rfl) (pa_cons (pv 12) (pa_cons (pv 4) pa_nil))) (pe_c c_LThere hr (by decide) (by rfl) (pa_cons (pv 12) (pa_cons (pv 4) pa_nil))) (nomark _))
      (pss_one (ps_ret pe_bl))
      pss_nil)))
    (pss_one (ps_if (pt_cmpR (op_neLV hr.units) (pv 7) (pe_lc (own := [("_law_one", 14)]) (g := gName 14) (by rfl) nd (pi_tup (pv 4)) (blkOk_by (own := [("_law_one", 14)]) (N := NLaw) (sc := fnScope sLaw) (by decide +kernel)) (fun _ _ _ _ _ => pg_name (i := 14) nd rfl (Or.inl rfl)) (fun _ _ _ _ _ => pts_nil) (fun _ _ _ _ _ => (pe_callTy call_dictD (by rfl) T.n_dict (by decide +kernel) (pa_cons (pv 14) pa_nil)))) (nomark _))
      (pss_one (ps_ret pe_bl))
      pss_nil))))))))))))))
    (pss_one (ps_ret pe_bl))), ?_⟩
    refine ⟨_, rfl, a, _, rfl, .inl hS, _, _, rfl, _, _, rfl, _, rfl, ?_, ?_, ?_⟩
    · split <;> split <;> omega
    · split <;> split <;> omega
    · refine for_it (walk_range (lo := 0) (n := _)) (fun i σ H' => (∃ o1 o2 o3 o4 o5 o6 o7 o8 o9 o10 o11 o12 o13 o14 o15, σ = [some (.ref a), o1, o2, o3, o4, o5, o6, o7, o8, o9, o10, o11, o12, o13, o14, o15]) ∧ SqL K H' a (ns.map V.int) ∧ Tabs [(Tb, lamQ)] H') ⟨⟨_, _, _, _, _, _, _, _, _, _, _, _, _, _, _, rfl⟩, hS, hT⟩ (fun _ _ _ _ _ => True.intro) (fun i x σ H0 H0' hi hW hY => ?_) (fun σ H' hW => q H')
      obtain ⟨⟨o1, o2, o3, o4, o5, o6, o7, o8, o9, o10, o11, o12, o13, o14, o15, rfl⟩, hS0, hT0⟩ := hW
      obtain ⟨rfl, rfl⟩ := hY
      dsimp only
      rw [show (0 : Int) + (i : Int) = (i : Int) from Int.zero_add _]
      -- the pot
      refine ⟨fun σ' H' => ∃ p, σ' = [some (.ref a), some (.int i), some (.ref p), o3, o4, o5, o6, o7, o8, o9, o10, o11, o12, o13, o14, o15] ∧ H0' p = none ∧ Same H0' H' ∧ Pt H' p, ?_, ?_⟩
      · exact ⟨_, rfl, _, rfl, a, ns, i, rfl, hS0, fun n => ⟨n, rfl, fun p H' hp s pt => ⟨p, rfl, hp, s, pt⟩⟩⟩
      rintro σ H1 ⟨p, rfl, hp0, s1, hp⟩
      have hT1 := hT0.ext s1
      -- the shapes
      refine ⟨fun σ' H' => ∃ sh l0 l1 n2, σ' = [some (.ref a), some (.int i), some (.ref p), some (.ref sh), o4, o5, o6, o7, o8, o9, o10, o11, o12, o13, o14, o15] ∧ ShOk K H' sh l0 l1 n2 ∧ ShP l0 l1 ∧ Go p H1 H', ?_, ?_⟩
      · exact ⟨_, rfl, p, rfl, hp, fun sh l0 l1 n2 H' h1 h2 g => ⟨sh, l0, l1, n2, rfl, h1, h2, g⟩⟩
      rintro σ H3 ⟨sh, l0, l1, n2, rfl, hsh, hP, g3⟩
      -- the program
      refine ⟨fun σ' H' => ∃ pa m0 m1, σ' = [some (.ref a), some (.int i), some (.ref p), some (.ref sh), some (.ref pa), o5, o6, o7, o8, o9, o10, o11, o12, o13, o14, o15] ∧ PrOk K H' pa m0 m1 ∧ PrP0 m0 m1 ∧ Go p H3 H', ?_, ?_⟩
      · exact ⟨_, rfl, _, rfl, p, sh, l0, l1, n2, rfl, g3.2, hsh, fun pw H' hw g => ⟨p, pw, l0, l1, rfl, g.2, hw, hP.pr, fun pa m0 m1 H'' h1 h2 g2 => ⟨pa, m0, m1, rfl, h1, h2, g.trans g2⟩⟩⟩
      rintro σ H4 ⟨pa, m0, m1, rfl, hpr, hP0, g4⟩
      have p4 := g4.2
      have hsh4 := hsh.go g3.2 g4
      -- the holding
      refine ⟨fun σ' H' => ∃ th fs, σ' = [some (.ref a), some (.int i), some (.ref p), some (.ref sh), some (.ref pa), some (.ref th), o6, o7, o8, o9, o10, o11, o12, o13, o14, o15] ∧ HoOk fs ∧ Fd K H' th fs ∧ Go p H4 H', ?_, ?_⟩
      · exact ⟨_, rfl, _, rfl, p, sh, l0, l1, n2, rfl, p4, hsh4, hP, fun th fs H' h1 h2 g => ⟨th, fs, rfl, h1, h2, g⟩⟩
      rintro σ H5 ⟨th, fs, rfl, hO, hth, g5⟩
      -- what is held
      refine ⟨fun σ' H' => ∃ hd kvh, σ' = [some (.ref a), some (.int i), some (.ref p), some (.ref sh), some (.ref pa), some (.ref th), some (.ref hd), o7, o8, o9, o10, o11, o12, o13, o14, o15] ∧ H' hd = some (.dK kvh) ∧ RH K H' kvh fs ∧ Go p H5 H', ?_, ?_⟩
      · obtain ⟨ps, t1, t2, t3⟩ := hth
        obtain ⟨kvs, r1, r2⟩ := fd_kvs t2
        have em : mergeK [] kvs = kvs := by
          have := merge_nodup (acc := []) (kvs := kvs) (by rw [List.nil_append, keys_of r2]; exact nodup_inr t3)
          rw [this]
          rfl
        refine ⟨_, rfl, th, ps, kvs, rfl, t1, r1, fun hd hhd => ?_⟩
        rw [em]
        exact ⟨hd, kvs, rfl, upd_same, RH.tr (TR.new hhd) r2, (Go.refl g5.2).new hhd⟩
      rintro σ H6 ⟨hd, kvh, rfl, hhd, hrh, g6⟩
      obtain ⟨d0, d1, d2, kv0, kv1, kv2, hq, h0, h1, h2, r0, r1, r2, n2d, n2l⟩ := (hpr.go p4 (g5.trans g6)).at_
      -- what is kept
      refine ⟨fun σ' H' => ∃ kp e0 e1 e2, σ' = [some (.ref a), some (.int i), some (.ref p), some (.ref sh), some (.ref pa), some (.ref th), some (.ref hd), some (.ref kp), o8, o9, o10, o11, o12, o13, o14, o15] ∧ H6 kp = none ∧ H' kp = some (.lst [.ref e0, .ref e1, .ref e2]) ∧ H' e0 = some (.dK kv0) ∧ H' e1 = some (.dK kv1) ∧ H' e2 = some (.dK kv2) ∧ Same H6 H', ?_, ?_⟩
      · refine ⟨_, rfl, pa, rfl, ⟨_, hq⟩, ?_⟩
        exact lc_dicts hq h0 h1 h2 (fun x => wipe1) (fun x kv H1 Q' hx hq' => ⟨_, rfl, x, kv, rfl, Rd.of hx, hq'⟩) (fun kp H' e0 e1 e2 hkp s f1 f2 f3 f4 => ⟨kp, e0, e1, e2, rfl, hkp, f1, f2, f3, f4, s⟩)
      rintro σ H7 ⟨kp, e0, e1, e2, rfl, hkp0, hkp, k0, k1, k2, s7⟩
      have g7 : Go p H6 H7 := (Go.refl g6.2).same s7
      have nkp : kp ≠ p := g6.ne hkp0
      -- the records
      refine ⟨fun σ' H' => ∃ L zs, σ' = [some (.ref a), some (.int i), some (.ref p), some (.ref sh), some (.ref pa), some (.ref th), some (.ref hd), some (.ref kp), some (.ref L), o9, o10, o11, o12, o13, o14, o15] ∧ Sx K H' p sh pa th hd kp L d0 d1 d2 e0 e1 e2 kv0 kv1 kv2 kvh l0 m0 l1 m1 fs n2 zs ∧ LayS zs ∧ zs.length ≤ 3 ∧ Go p H1 H', ?_, ?_⟩
      · refine ⟨_, rfl, pa, _, 0, .ref d0, rfl, rfl, sqT_mono s7 hq, atI_nat (j := 0) rfl, d0, kv0, m0.map (·.1), rfl, Rd.of (s7 _ _ h0), r0.keys, by rw [List.length_map]; have := hP0.len0; omega, fun ys L hperm _ hL => ?_⟩
        have s8 : Same H7 (upd H7 L (.lst (ys.map V.str))) := Same.new hL
        have g8 : Go p H6 (upd H7 L (.lst (ys.map V.str))) := g7.new hL
        have g68 := (g5.trans g6).trans g8
        have s68 := s7.trans s8
        refine ⟨L, ys, rfl, ⟨g8.2, hsh4.go p4 g68, sqT_mono s68 hq, s68 _ _ h0, s68 _ _ h1, s68 _ _ h2, r0.go g6.2 g8, r1.tr (TR.same s68), hth.go g5.2 (g6.trans g8), s68 _ _ hhd, hrh.tr (TR.same s68), s8 _ _ hkp, nkp, s8 _ _ k0, s8 _ _ k1, s8 _ _ k2, upd_same, g7.ne hL⟩, fun z hz => hP0.lay z (hperm.subset hz), by have h9 := hP0.len0; rw [hperm.length_eq, List.length_map]; exact h9, ((g3.trans g4).trans g68)⟩
      rintro σ H8 ⟨L, zs, rfl, S, hz, hzl, g8⟩
      have nhp : hd ≠ p := S.s_pt.neK S.s_hd
      -- the terms that are names and boxes
      refine ⟨fun σ' H' => ∃ F, σ' = [some (.ref a), some (.int i), some (.ref p), some (.ref sh), some (.ref pa), some (.ref th), some (.ref hd), some (.ref kp), some (.ref L), some (.ref F), o10, o11, o12, o13, o14, o15] ∧ Lf K 17 5000 p F H8 H' 14, ?_, ?_⟩
      · refine ⟨hd, .dK kvh, S.s_hd, trivial, fun od => ?_⟩
        have hFz : (upd H8 hd (.frz od (.dK kvh))) hd = some (.frz od (.dK kvh)) := upd_same
        have pF := pt_lock (o := .frz od (.dK kvh)) S.s_pt nhp
        have hfl : kvh.length ≤ 11 := by
          have h9 := Paired.length S.s_rh
          have := hO.len
          omega
        refine ⟨_, rfl, hd, od, rfl, .inl ⟨kvh, hFz, ?_⟩⟩
        refine lc_leaf (K := K) (N := 17) (W := 5000) (p := p) (walk_keys (d := hd) (o := od) (kvs := kvh)) (by omega) pF (fun H' g => g.at nhp hFz) (fun j x H1 H2 C Q' hj g1 hY hC hQ => ?_) (fun j x H1 H2 hj g1 hY => hY.1) (fun F1 H' hF1 hLf => ?_)
        · obtain ⟨rfl, k, v, hkv, rfl⟩ := hY
          obtain ⟨b, hb, e1, _⟩ := pairedAt S.s_rh hkv
          simp only at e1
          subst e1
          refine ⟨wipe1, ?_⟩
          unfold tYes; dsimp only
          rw [if_pos rfl]
          have hl := held_lay b.1 (hO.nm b (List.mem_of_getElem? hb))
          exact ⟨_, rfl, (by show 2 ≤ sizeLine; decide), fun t ht => hQ _ _ _ ((tm_name hl.1 hl.2).mono (by decide) (by decide)) (Tn.newT ht (.cons (Tn.str "name") (.cons (Tn.str b.1) .nil))) (Same.new ht)⟩
        · refine ⟨hLf.go.at nhp hFz, ?_⟩
          have hA := hLf.unlock S.s_pt S.s_hd hFz
          have gA := hA.go
          have SA := S.kx (Kx.go gA)
          generalize upd H' hd (.dK kvh) = HA at *
          refine ⟨_, rfl, pa, _, 1, .ref d1, rfl, rfl, SA.s_pr, atI_nat (j := 1) rfl, d1, kv1, m1.map (·.1), rfl, Rd.of SA.s_a1, SA.s_r1.keys, by rw [List.length_map]; have := hP0.len1; omega, fun ys L2 hperm _ hL2 => ⟨L2, rfl, ⟨_, SqL.of upd_same⟩, ?_⟩⟩
          have gL : Go p HA (upd HA L2 (.lst (ys.map V.str))) := (Go.refl gA.2).new hL2
          have nLp : L2 ≠ p := gA.ne hL2
          have hyl : ys.length ≤ 3 := by rw [hperm.length_eq, List.length_map]; exact hP0.len1
          refine lc_leaf (K := K) (N := 17) (W := 5000) (p := p) (walk_list (K := K) (a := L2) (xs := ys.map V.str)) (by rw [List.length_map]; omega) gL.2 (fun H' g => SqL.of (g.at nLp upd_same)) (fun j x H2 H3 C Q' hj g2 hY hC hQ => ?_) (fun j x H1 H2 hj g1 hY => hY.1) (fun G H' hG hLf2 => ?_)
          · obtain ⟨rfl, hx⟩ := hY
            obtain ⟨z, hz, rfl⟩ : ∃ z, z ∈ ys ∧ x = .str z := by
              rw [List.getElem?_map] at hx
              cases e : ys[j]? with
              | none => rw [e] at hx; cases hx
              | some z => rw [e] at hx; exact ⟨z, List.mem_of_getElem? e, (Option.some.inj hx).symm⟩
            refine ⟨wipe1, ?_⟩
            unfold tYes; dsimp only
            rw [if_pos rfl]
            have hl := box_lay z (hP0.sub1.subset (hperm.subset hz))
            exact ⟨_, rfl, (by show 2 ≤ sizeLine; decide), fun t ht => hQ _ _ _ ((tm_box hl.1 hl.2).mono (by decide) (by decide)) (Tn.newT ht (.cons (Tn.str "box") (.cons (Tn.str z) .nil))) (Same.new ht)⟩
          · rw [List.length_map] at hLf2
            exact Lf.cat (hA.more hfl) ((hLf2.back gL).more hyl) (by decide) (fun F' H' hl _ => ⟨F', rfl, hl⟩)
      rintro σ H9 ⟨F, rfl, hF9⟩
      -- terms, drawn
      refine ⟨fun σ' H' => ∃ o10 o11 o13, σ' = [some (.ref a), some (.int i), some (.ref p), some (.ref sh), some (.ref pa), some (.ref th), some (.ref hd), some (.ref kp), some (.ref L), some (.ref F), o10, o11, o12, o13, o14, o15] ∧ Lf K 17 5000 p F H8 H' 42, ?_, ?_⟩
      · refine ⟨14, rfl, by decide, by decide, ?_⟩
        refine for_it (walk_range (lo := 0) (n := 14)) (fun j σ H' => ∃ o10 o11 o13, σ = [some (.ref a), some (.int i), some (.ref p), some (.ref sh), some (.ref pa), some (.ref th), some (.ref hd), some (.ref kp), some (.ref L), some (.ref F), o10, o11, o12, o13, o14, o15] ∧ Lf K 17 5000 p F H8 H' (14 + 2 * j)) ⟨_, _, _, rfl, hF9⟩ (fun _ _ _ _ _ => True.intro) (fun j x σ H' H'' hj hW hY => ?_) (fun σ H' hW => hW)
        obtain ⟨o10, o11, o13, rfl, hF⟩ := hW
        obtain ⟨rfl, rfl⟩ := hY
        have Sa := S.kx (Kx.go hF.go)
        -- a term
        refine ⟨fun σ' Hz => ∃ v d, σ' = [some (.ref a), some (.int i), some (.ref p), some (.ref sh), some (.ref pa), some (.ref th), some (.ref hd), some (.ref kp), some (.ref L), some (.ref F), some (.int (0 + (j : Int))), some v, o12, o13, o14, o15] ∧ Tn K Hz v d ∧ TmOk 12 4000 d ∧ Go p H'' Hz, ?_, ?_⟩
        · refine ⟨_, rfl, _, rfl, _, rfl, p, L, zs, 2, rfl, by decide, Sa.s_pt, Sa.s_ls, Sa.s_ln, hz, by omega, fun kv k H1 hk hv g1 => ?_⟩
          have Sb := Sa.kx (Kx.go g1)
          exact ⟨_, rfl, _, rfl, p, kv, k, 3, 2, 6, hd, kvh, fs, sh, l0, l1, n2, rfl, by decide, by decide, by decide, Sb.s_pt, hv, hk, by decide, by decide, Sb.s_hd, Sb.s_rh, hO, Sb.s_sh, hP, fun v d H2 hd hv g2 => ⟨v, d, rfl, hv, hd.mono (by decide) (by decide), g1.trans g2⟩⟩
        rintro σ Ha ⟨v, d, rfl, hv, hdT, ga⟩
        have hFa := hF.on ga
        have Sb := Sa.kx (Kx.go ga)
        refine ⟨fun σ' Hz => σ' = [some (.ref a), some (.int i), some (.ref p), some (.ref sh), some (.ref pa), some (.ref th), some (.ref hd), some (.ref kp), some (.ref L), some (.ref F), some (.int (0 + (j : Int))), some v, o12, o13, o14, o15] ∧ Lf K 17 5000 p F H8 Hz (14 + 2 * j + 1), ?_, ?_⟩
        · refine ⟨_, rfl, .inl ⟨rfl, hFa.sq⟩, _, rfl, _, rfl, p, v, d, 12, 4000, rfl, Sb.s_pt, hv, hdT, by decide, fun v2 d2 H2 hd2 hv2 g2 => ⟨_, rfl, _, rfl, _, rfl, (by show 4 ≤ sizeLine; decide), fun l hl => ⟨_, rfl, p, 4, rfl, (g2.new hl).2, by decide, by decide, fun r H3 r0 r1 g3 => ?_⟩⟩⟩
          have g23 := (g2.new (o := .lst [v2, v, v, v]) hl).trans g3
          have t3 := Go.tr Sb.s_pt g23
          have hl3 := g3.at (g2.ne hl) (upd_same (H := H2) (a := l) (o := .lst [v2, v, v, v]))
          have hc : r = 0 ∨ r = 1 ∨ r = 2 ∨ r = 3 := by omega
          have hF3 := hFa.on g23
          have hv3 := hv.tr t3
          have hd9 : TmOk 17 5000 d := hdT.mono (by decide) (by decide)
          rcases hc with rfl | rfl | rfl | rfl
          · refine ⟨l, _, _, _, rfl, rfl, SqL.of hl3, atI_nat (j := 0) rfl, ?_⟩
            unfold tNil; dsimp only
            exact hF3.push (by omega) (hv2.tr ((TR.new hl).trans (Go.tr (g2.new (o := .lst [v2, v, v, v]) hl).2 g3))) (hd2.mono (by decide) (by decide)) (fun H' hl _ => ⟨rfl, hl⟩)
          · refine ⟨l, _, _, _, rfl, rfl, SqL.of hl3, atI_nat (j := 1) rfl, ?_⟩
            unfold tNil; dsimp only
            exact hF3.push (by omega) hv3 hd9 (fun H' hl _ => ⟨rfl, hl⟩)
          · refine ⟨l, _, _, _, rfl, rfl, SqL.of hl3, atI_nat (j := 2) rfl, ?_⟩
            unfold tNil; dsimp only
            exact hF3.push (by omega) hv3 hd9 (fun H' hl _ => ⟨rfl, hl⟩)
          · refine ⟨l, _, _, _, rfl, rfl, SqL.of hl3, atI_nat (j := 3) rfl, ?_⟩
            unfold tNil; dsimp only
            exact hF3.push (by omega) hv3 hd9 (fun H' hl _ => ⟨rfl, hl⟩)
        rintro σ Hb ⟨rfl, hFb⟩
        have Sc := S.kx (Kx.go hFb.go)
        refine ⟨fun σ' Hz => ∃ u e, σ' = [some (.ref a), some (.int i), some (.ref p), some (.ref sh), some (.ref pa), some (.ref th), some (.ref hd), some (.ref kp), some (.ref L), some (.ref F), some (.int (0 + (j : Int))), some v, o12, some u, o14, o15] ∧ Tn K Hz u e ∧ TmOk 5 400 e ∧ Go p Hb Hz, ?_, ?_⟩
        · refine ⟨_, rfl, (by show 1 ≤ sizeLine; decide), fun t ht => ⟨_, rfl, _, rfl, ?_⟩⟩
          have gt := (Go.refl Sc.s_pt).new (o := .tup [.str "number"]) ht
          have Sd := Sc.kx (Kx.go gt)
          exact ⟨p, .ref t, .num, 1, hd, kvh, fs, sh, l0, l1, n2, rfl, gt.2, tn_num (SqT.of upd_same), kl_num1, by decide, Sd.s_hd, Sd.s_rh, hO, Sd.s_sh, hP, fun v d H2 hd hv g2 => ⟨v, d, rfl, hv, hd.mono (by decide) (by decide), gt.trans g2⟩⟩
        rintro σ Hc ⟨u, e, rfl, hu, he, gc⟩
        have hFc := hFb.on gc
        refine ⟨_, rfl, .inl ⟨rfl, hFc.sq⟩, (by show 1 ≤ sizeLine; decide), fun t1 ht1 => ⟨_, rfl, (by show 1 ≤ sizeLine; decide), fun t2 ht2 => ?_⟩⟩
        have s2 := (Same.new (o := .tup [.str "list"]) ht1).trans (Same.new (o := .tup [u]) ht2)
        have q1 : SqT K (upd (upd Hc t1 (.tup [.str "list"])) t2 (.tup [u])) t1 [.str "list"] := SqT.of (Same.new ht2 _ _ upd_same)
        have q2 : SqT K (upd (upd Hc t1 (.tup [.str "list"])) t2 (.tup [u])) t2 [u] := SqT.of upd_same
        generalize upd (upd Hc t1 (.tup [.str "list"])) t2 (.tup [u]) = Hd at *
        have gd := (Go.refl gc.2).same s2
        refine ⟨_, rfl, p, 7, rfl, gd.2, by decide, by decide, fun r He r0 r1 ge => ?_⟩
        have te := Go.tr gd.2 ge
        refine repA_any (te.sq q2) r0 (by omega) (fun c1 Hf hc1 sf => ?_)
        refine catA_same ((te.trans (TR.same sf)).sq q1) hc1 (by rw [sizeLine_eq]; simp; omega) (fun c2 Hg hc2 sg => ?_)
        have gg := (gd.trans ge).same (sf.trans sg)
        refine ⟨(by show 2 ≤ sizeLine; decide), fun t3 ht3 => ⟨_, rfl, p, rfl, (gg.new ht3).2, fun v9 d9 Hh hg9 hd9 hw9 hv9 g9 => ⟨(by show 2 ≤ sizeLine; decide), fun t4 ht4 => ?_⟩⟩⟩
        have gh := (gg.new (o := .tup [.str "number", .int 3]) ht3).trans g9
        have g4 := gh.new (o := .tup [.ref t3, v9]) ht4
        have d3 : Tn K (upd Hh t4 (.tup [.ref t3, v9])) (.ref t3) (.tuple [.str "number", .int 3]) := ((Tn.newT ht3 (.cons (Tn.str "number") (.cons ⟨.int 3, rfl⟩ .nil))).tr (Go.tr (gg.new ht3).2 g9)).tr (TR.new ht4)
        have d4 : Tn K (upd Hh t4 (.tup [.ref t3, v9])) v9 d9 := hv9.tr (TR.new ht4)
        have q4 : SqT K (upd Hh t4 (.tup [.ref t3, v9])) t4 [.ref t3, v9] := SqT.of upd_same
        have gB := (((Go.refl gg.2).new (o := .tup [.str "number", .int 3]) ht3).trans g9).new (o := .tup [.ref t3, v9]) ht4
        generalize upd Hh t4 (.tup [.ref t3, v9]) = Hi at *
        refine ⟨_, rfl, p, 2, rfl, g4.2, by decide, by decide, fun r2 Hj r20 r21 gj => ⟨r2, rfl, ?_⟩⟩
        have tj := Go.tr g4.2 gj
        unfold tNoPart; dsimp only
        refine slA_any (K := K) (tj.sq q4) (fun c3 Hk hc3 sk => ?_)
        have gk := (g4.trans gj).same sk
        have tk := Go.tr gc.2 gk
        obtain ⟨rv, rd, ev, hrd, hrl, hrl2, hrt⟩ : ∃ rv rd, cutV [.ref t3, v9] (some r2) none = rv ∧ TnAll K Hk rv rd ∧ 1 ≤ rd.length ∧ rd.length ≤ 2 ∧ ∀ d ∈ rd, TmOk 5 400 d := by
          have tkk := tj.trans (TR.same sk)
          have m3 : TmOk 5 400 (.tuple [.str "number", .int 3]) := (tm_int (by decide) (by decide)).mono (by decide) (by decide)
          have gdd := good_of hg9
          have m4 : TmOk 5 400 d9 := ⟨gdd.tm, gdd.lay, hd9, by omega⟩
          have hc : r2 = 0 ∨ r2 = 1 := by omega
          rcases hc with rfl | rfl
          · refine ⟨_, [.tuple [.str "number", .int 3], d9], rfl, .cons (d3.tr tkk) (.cons (d4.tr tkk) .nil), by simp, by simp, fun d hd => ?_⟩
            rcases List.mem_cons.mp hd with e | e
            · rw [e]; exact m3
            · rw [List.mem_singleton.mp e]; exact m4
          · refine ⟨_, [d9], rfl, .cons (d4.tr tkk) .nil, by simp, by simp, fun d hd => ?_⟩
            rw [List.mem_singleton.mp hd]; exact m4
        rw [ev] at hc3
        have tk2 := ((Go.tr gg.2 gB).trans tj).trans (TR.same sk)
        refine catA_same (tk2.sq hc2) hc3 ?_ (fun c5 Hl hc5 sl => ?_)
        · have := hrd.len
          rw [sizeLine_eq]
          simp
          omega
        have hc5' : SqT K Hl c5 (.str "list" :: (List.replicate r.toNat u ++ rv)) := hc5
        have gl := gk.same sl
        unfold tNil; dsimp only
        refine (hFc.on gl).push (by omega) (Tn.of hc5' (.cons (Tn.str "list") ((tn_rep (hu.tr (Go.tr gc.2 gl)) _).app (hrd.tr (TR.same sl))))) ((tm_many (n := 5) (w := 400) ?_ ?_ (fun t ht => ?_)).mono (by decide) (by decide)) (fun H' hl _ => ⟨_, _, _, rfl, hl.more (by omega)⟩)
        · rw [List.length_append, List.length_replicate]
          omega
        · rw [List.length_append, List.length_replicate]
          omega
        · rcases List.mem_append.mp ht with h | h
          · rw [(List.mem_replicate.mp h).2]; exact he
          · exact hrt t h
      rintro σ H10 ⟨o10, o11, o13, rfl, hF⟩
      have S10 := S.kx (Kx.go hF.go)
      have hT10 := tabs_go (tabs_go hT1 hp g8) S.s_pt hF.go
      -- their kinds
      refine ⟨fun σ' H' => ∃ o11, σ' = [some (.ref a), some (.int i), some (.ref p), some (.ref sh), some (.ref pa), some (.ref th), some (.ref hd), some (.ref kp), some (.ref L), some (.ref F), o10, o11, o12, o13, o14, o15] ∧ ExtN H10 H' ∧ Tabs [(Tb, lamQ)] H', ?_, ?_⟩
      · obtain ⟨vs, ds, f1, f2, f3, f4⟩ := hF.ex
        refine ⟨_, rfl, _, rfl, F, vs, rfl, SqL.of f1, fun R hR => ?_⟩
        have sR : Same H10 (upd H10 R (.lst vs.reverse)) := Same.new hR
        refine ⟨F, R, vs, vs.reverse, rfl, rfl, sR _ _ f1, upd_same, by rw [List.length_reverse, sizeLine_eq]; omega, fun G hG => ⟨G, rfl, ⟨_, SqL.of upd_same⟩, ?_⟩⟩
        have sG := sR.trans (Same.new (o := .lst (vs ++ vs.reverse)) hG)
        have hGat : (upd (upd H10 R (.lst vs.reverse)) G (.lst (vs ++ vs.reverse))) G = some (.lst (vs ++ vs.reverse)) := upd_same
        generalize upd (upd H10 R (.lst vs.reverse)) G (.lst (vs ++ vs.reverse)) = HG at *
        have ok := en_ok hP0 hO
        have fA : TnAll K HG (vs ++ vs.reverse) (ds ++ ds.reverse) := (f2.app f2.rev).tr (TR.same sG)
        have fT : ∀ d ∈ ds ++ ds.reverse, TmOk 17 5000 d := fun d hd => by
          rcases List.mem_append.mp hd with h | h
          · exact f3 d h
          · exact f3 d (List.mem_reverse.mp h)
        refine for_it (walk_list (K := K) (a := G) (xs := vs ++ vs.reverse)) (fun j σ H' => ∃ o11, σ = [some (.ref a), some (.int i), some (.ref p), some (.ref sh), some (.ref pa), some (.ref th), some (.ref hd), some (.ref kp), some (.ref L), some (.ref F), o10, o11, o12, o13, o14, o15] ∧ ExtN HG H' ∧ Tabs [(Tb, lamQ)] H') ⟨_, rfl, ExtN.refl HG, hT10.ext sG⟩ (fun j σ H' _ hW => let ⟨_, _, e, _⟩ := hW; sqL_ext (SqL.of hGat) e) (fun j x σ H' H'' hj hW hY => ?_) (fun σ H' hW => ?_)
        · obtain ⟨o11, rfl, e, hT'⟩ := hW
          obtain ⟨rfl, hx⟩ := hY
          obtain ⟨d, hd', hxt⟩ := fA.at hx
          have hm := fT d (List.mem_of_getElem? hd')
          have Sz := (S10.kx (Kx.go ((Go.refl S10.s_pt).same sG))).kx (Kx.ext (S10.kx (Kx.go ((Go.refl S10.s_pt).same sG))).s_pt e)
          refine ⟨_, rfl, _, rfl, _, rfl, x, d, th, pa, enO m0 m1 fs, fs, rfl, hxt.tr (TR.ext e), hm.good (by decide), Nat.le_trans hm.wt (by decide), Sz.s_th, rfl, Sz.pg, ok, hT', fun v5 H5 e5 b5 T5 tn5 => ?_⟩
          have S5 := Sz.kx (Kx.ext Sz.s_pt e5)
          refine ⟨_, rfl, _, rfl, _, rfl, x, d, hd, kvh, pa, enO m0 m1 fs, rfl, hxt.tr (TR.ext (e.trans e5)), hm.good (by decide), by have := hm.dep; omega, S5.jk, ok, fun v6 H6' s6 tn6 => ?_⟩
          refine ⟨_, _, (tn5.tr (TR.same s6)).dp, tn6.dp, evo_shaped ok hm (by decide), evo_shaped ok hm (by decide), _, rfl, iteF' (by rw [SeqAt.eqv_refl _ (evo_lay ok hm)]; rfl) ?_⟩
          exact ⟨_, rfl, (e.trans e5).trans (ExtN.of s6), T5.ext s6⟩
        · obtain ⟨o11, rfl, e, hT'⟩ := hW
          exact ⟨o11, rfl, (ExtN.of sG).trans e, hT'⟩
      rintro σ H11 ⟨o11, rfl, e11, hT11⟩
      have S11 := S10.kx (Kx.ext S10.s_pt e11)
      -- kinds that are there
      refine ⟨fun σ' H' => ∃ o12, σ' = [some (.ref a), some (.int i), some (.ref p), some (.ref sh), some (.ref pa), some (.ref th), some (.ref hd), some (.ref kp), some (.ref L), some (.ref F), o10, o11, o12, o13, o14, o15] ∧ Go p H11 H', ?_, ?_⟩
      · refine ⟨10, rfl, by decide, by decide, fun Dl hD => ?_⟩
        have nD := S11.s_pt.ne hD
        refine lc_range (lo := 0) (n := 10) (fun j H' => ∃ acc ks, H' Dl = some (.lst acc) ∧ TnAll K H' acc (ks.map Kd.d) ∧ (∀ k ∈ ks, KM 9 k) ∧ acc.length = j ∧ Go p H11 H') ⟨[], [], upd_same, .nil, (fun k h => nomatch h), rfl, (Go.refl S11.s_pt).new hD⟩ (fun j H' hj hW => ?_) (fun H' hW => ?_)
        · obtain ⟨acc, ks, a1, a2, a3, a4, a5⟩ := hW
          have Sa := S11.kx (Kx.go a5)
          refine ⟨wipe1, ?_⟩
          unfold tYes; dsimp only
          rw [if_pos rfl]
          refine ⟨_, rfl, _, rfl, (by show 1 ≤ sizeLine; decide), fun b1 hb1 => ?_⟩
          have s1 := Same.new (o := .lst [.str "gone"]) hb1
          refine ⟨L, b1, _, _, rfl, rfl, s1 _ _ Sa.s_ls, upd_same, by rw [List.length_map, sizeLine_eq]; simp; omega, fun M hM => ?_⟩
          have s2 := s1.trans (Same.new (o := .lst (zs.map V.str ++ [.str "gone"])) hM)
          have g2 := (Go.refl Sa.s_pt).same s2
          have hzM : LayS (zs ++ [("gone" : Str)]) := fun z hz' => by
            rcases List.mem_append.mp hz' with e | e
            · exact hz z e
            · rw [List.mem_singleton.mp e]
              exact ⟨by decide +kernel, by decide +kernel⟩
          refine ⟨p, M, zs ++ [("gone" : Str)], 8, rfl, by decide, g2.2, by rw [List.map_append]; exact upd_same, ((Go.refl Sa.s_pt).same s1).ne hM, hzM, by simp; omega, fun v k H2 hk hv g3 => ?_⟩
          have g4 := g2.trans g3
          have a14 := g4.at nD a1
          have tp : TR H2 (upd H2 Dl (.lst (acc ++ [v]))) := TR.put a14
          refine ⟨acc, a14, by rw [sizeLine_eq]; omega, acc ++ [v], ks ++ [k], upd_same, ?_, fun k' hk' => ?_, by rw [List.length_append, List.length_singleton]; omega, Go.put2 hD nD (a5.trans g4)⟩
          · rw [List.map_append]
            exact ((a2.tr (Go.tr Sa.s_pt g4)).tr tp).app (.cons (hv.tr tp) .nil)
          · rcases List.mem_append.mp hk' with h | h
            · exact a3 k' h
            · rw [List.mem_singleton.mp h]; exact hk
        · obtain ⟨acc, ks, a1, a2, a3, a4, a5⟩ := hW
          have Sa := S11.kx (Kx.go a5)
          refine ⟨_, rfl, hd, kvh, rfl, Sa.s_hd, fun V1 hV1 => ?_⟩
          have sV : Same H' (upd H' V1 (.lst (kvh.map (·.2)))) := Same.new hV1
          have hfl : kvh.length ≤ 11 := by
            have h9 := Paired.length Sa.s_rh
            have := hO.len
            omega
          refine ⟨Dl, V1, acc, kvh.map (·.2), rfl, rfl, sV _ _ a1, upd_same, by rw [List.length_map, sizeLine_eq]; omega, fun G hG => ⟨G, rfl, ⟨_, SqL.of upd_same⟩, ?_⟩⟩
          have sG := sV.trans (Same.new (o := .lst (acc ++ kvh.map (·.2))) hG)
          have hGat : (upd (upd H' V1 (.lst (kvh.map (·.2)))) G (.lst (acc ++ kvh.map (·.2)))) G = some (.lst (acc ++ kvh.map (·.2))) := upd_same
          have gG := a5.same sG
          have fA : TnAll K (upd (upd H' V1 (.lst (kvh.map (·.2)))) G (.lst (acc ++ kvh.map (·.2)))) (acc ++ kvh.map (·.2)) ((ks ++ fs.map (·.2)).map Kd.d) := by
            rw [List.map_append]
            exact (a2.tr (TR.same sG)).app (Sa.s_rh.vals.tr (TR.same sG))
          generalize upd (upd H' V1 (.lst (kvh.map (·.2)))) G (.lst (acc ++ kvh.map (·.2))) = HG at *
          have SG := S11.kx (Kx.go gG)
          refine for_it (walk_list (K := K) (a := G) (xs := acc ++ kvh.map (·.2))) (fun j σ H' => ∃ o12, σ = [some (.ref a), some (.int i), some (.ref p), some (.ref sh), some (.ref pa), some (.ref th), some (.ref hd), some (.ref kp), some (.ref L), some (.ref F), o10, o11, o12, o13, o14, o15] ∧ Same HG H') ⟨_, rfl, Same.refl HG⟩ (fun j σ H' _ hW => let ⟨_, _, e⟩ := hW; SqL.of (e _ _ hGat)) (fun j x σ H' H'' hj hW hY => ?_) (fun σ H' hW => ?_)
          · obtain ⟨o12, rfl, e⟩ := hW
            obtain ⟨rfl, hx⟩ := hY
            obtain ⟨d, hd', hxt⟩ := fA.at hx
            obtain ⟨k, hk, rfl⟩ : ∃ k, k ∈ ks ++ fs.map (·.2) ∧ d = k.d := by
              rw [List.getElem?_map] at hd'
              cases e : (ks ++ fs.map (·.2))[j]? with
              | none => rw [e] at hd'; cases hd'
              | some k => rw [e] at hd'; exact ⟨k, List.mem_of_getElem? e, (Option.some.inj hd').symm⟩
            refine ⟨_, rfl, _, rfl, x, k, pa, enO m0 m1 fs, rfl, hxt.tr (TR.same e), SG.pg.same e, fun H5 s5 => ⟨_, rfl, _, rfl, x, k, pa, enO m0 m1 fs, rfl, hxt.tr (TR.same (e.trans s5)), SG.pg.same (e.trans s5), fun H6 s6 => ⟨rfl, _, rfl, iteF' ne_self ⟨_, rfl, (e.trans s5).trans s6⟩⟩⟩⟩
          · obtain ⟨o12, rfl, e⟩ := hW
            exact ⟨o12, rfl, gG.same e⟩
      rintro σ H12 ⟨o12, rfl, g12⟩
      have S12 := S11.kx (Kx.go g12)
      refine ⟨_, rfl, _, rfl, pa, rfl, ⟨_, S12.s_pr⟩, ?_⟩
      refine lc_dicts S12.s_pr S12.s_a0 S12.s_a1 S12.s_a2 (fun x => wipe1) (fun x kv H1 Q' hx hq' => ⟨_, rfl, x, kv, rfl, Rd.of hx, hq'⟩) (fun kq H' f0 f1 f2 hkq s j j0 j1 j2 => ?_)
      have n0 : (kv0.map (·.1)).Nodup := by rw [S12.s_r0.keys]; exact nodup_inr hP0.nd0
      have n1 : (kv1.map (·.1)).Nodup := by rw [S12.s_r1.keys]; exact nodup_inr hP0.nd1
      refine ⟨kp, kq, _, _, 3, rfl, rfl, SqL.of (s _ _ S12.s_kp), SqL.of j, by decide, .cons (eqv_dict (s _ _ S12.s_k0) j0 n0 S12.s_r0.refs) (.cons (eqv_dict (s _ _ S12.s_k1) j1 n1 S12.s_r1.refs) (.cons (eqv_dict (s _ _ S12.s_k2) j2 n2d r2) .nil)), _, rfl, iteF' rfl ?_⟩
      have gz := g12.same s
      exact ⟨⟨_, _, _, _, _, _, _, _, _, _, _, _, _, _, _, rfl⟩, sqL_kx hS0 hp0 s1 ((((Kx.go g8).trans (Kx.go hF.go)).trans (Kx.ext S10.s_pt e11)).trans (Kx.go gz)), tabs_go hT11 S11.s_pt gz⟩
end
end K31
set_option Elab.async false
set_option linter.all false
set_option maxRecDepth 100000
set_option maxHeartbeats 4000000
namespace L2
open PySem PySem.Spec PyProof.Rows
/-! ### a written dict by texts -/
def EntsV : List DictEntry → List (Str × V) → Prop := Paired fun e p => (∃ t, e.key = .str p.1 t) ∧ RelV p.2 e.val
theorem isStr_keyV {e : DictEntry} {x z : Str} {t : Tok} (h : e.key = .str x t) : e.key.isStr z = (z == x) := by
  rw [h, PySem.W.isStr_of, Bool.eq_iff_iff, beq_iff_eq]
  constructor
  · intro q
    obtain ⟨t', e'⟩ := Value.isStrOf_shape q
    injection e' with e1
    exact e1.symm
  · intro q
    rw [q]
    simp [Value.isStrOf]
theorem find_cv : ∀ {es : List DictEntry} {cs : List (Str × V)}, EntsV es cs → ∀ z, (match cs.lookup z with | some i => ∃ e, es.find? (·.key.isStr z) = some e ∧ RelV i e.val | none => es.find? (·.key.isStr z) = none) ∧ es.any (·.refKey) = false
  | _, _, .nil, z => ⟨rfl, rfl⟩
  | _, _, .cons (a := e) (b := p) ⟨⟨t, hk⟩, hv⟩ r, z => by
    obtain ⟨i1, i2⟩ := find_cv r z
    obtain ⟨y, i⟩ := p
    refine ⟨?_, ?_⟩
    · rw [List.lookup_cons, List.find?_cons, isStr_keyV hk]
      cases h : (z == y) with
      | true => exact ⟨e, rfl, hv⟩
      | false => exact i1
    · rw [List.any_cons, i2, Bool.or_false]
      unfold DictEntry.refKey
      rw [hk]
theorem nsIn_cv {K : PySem.W.Frag} {a : Addr} {c : Value} {od : Option Addr} {es : Array DictEntry} {n : Nat} {sl : Array (Option Value)} {cs : List (Str × V)} (h : K.lookup a = some ⟨c, od, .dict es n, sl⟩) (hc : EntsV es.toList cs) (z : Str) :
    (∃ v u, cs.lookup z = some v ∧ PySem.W.nsIn K a z = some (some u) ∧ RelV v u) ∨ (cs.lookup z = none ∧ PySem.W.nsIn K a z = some none) := by
  obtain ⟨h1, h2⟩ := find_cv hc z
  unfold PySem.W.nsIn
  rw [h]
  cases hl : cs.lookup z with
  | some i =>
    rw [hl] at h1
    obtain ⟨e, h3, h4⟩ := h1
    refine .inl ⟨i, e.val, rfl, ?_, h4⟩
    dsimp only
    rw [h3]
  | none =>
    rw [hl] at h1
    refine .inr ⟨rfl, ?_⟩
    dsimp only
    rw [h1, h2]
    rfl
/-- texts to tuples of so many things -/
def TupsOf (K : PySem.W.Frag) : List (Str × V) → List (Str × Int) → Prop := Paired fun a b => a.1 = b.1 ∧ ∃ p xs, a.2 = .ref p ∧ (∀ H, SqT K H p xs) ∧ (xs.length : Int) = b.2
theorem tupsOf {K : PySem.W.Frag} : ∀ {cs : List (Str × V)} {ks : List (Str × Int)}, TupsOf K cs ks → ∀ z, (∃ p xs c, cs.lookup z = some (.ref p) ∧ (∀ H, SqT K H p xs) ∧ ks.lookup z = some c ∧ (xs.length : Int) = c) ∨ (cs.lookup z = none ∧ ks.lookup z = none)
  | _, _, .nil, z => .inr ⟨rfl, rfl⟩
  | _, _, .cons (a := a) (b := b) ⟨h1, p, xs, h2, h3, h4⟩ r, z => by
    obtain ⟨y, v⟩ := a
    obtain ⟨y', c⟩ := b
    simp only at h1 h2 h4
    subst h1
    rw [List.lookup_cons, List.lookup_cons]
    cases h : (z == y) with
    | true => exact .inl ⟨p, xs, c, by rw [h2], h3, rfl, h4⟩
    | false => exact tupsOf r z
/-- a written tuple -/
theorem sqT_K {K : PySem.W.Frag} {a : Addr} {d : Option Addr} {its : Array Value} {n : Nat} {sl : Array (Option Value)} {xs : List V} (l : K.lookup a = some ⟨.type "tuple", d, .seq its n, sl⟩) (z : its.size ≤ sizeLine) (v : Vals xs its.toList) : ∀ H, SqT K H a xs := fun H => .inr ⟨_, its, n, l, rfl, rfl, z, v⟩
end L2
set_option Elab.async false
set_option linter.all false
set_option maxRecDepth 100000
set_option maxHeartbeats 2000000
/-! the law's call where one table of code objects grows, and repr is asked -/
namespace LamC
open PySem PySem.Spec PyProof.Rows L2 LamX NdefX
section
variable {P : Program} {w : World} {K : PySem.W.Frag} {mg mb : Str → Option Value} {CX : CXT} {k : Nat} {fa a c Pt : Addr} {fd : FuncData} {x : Str} {sp : Sp} {st : Shared} {vs : List Value} {ns : List Int}
/-- what is hidden: the table, and the script where it is no part of the fragment -/
structure Hid1 (K : PySem.W.Frag) (H : Hp) (a Pt : Addr) (ns : List Int) : Prop where
  tab : H Pt = some (.tbl #[])
  oth : ∀ b, b ≠ Pt → H b ≠ none → b = a ∧ K.lookup a = none ∧ ∃ o, H b = some (.frz o (.lst (ns.map V.int)))
theorem Hid1.free {H : Hp} (h : Hid1 K H a Pt ns) {b : Addr} (n1 : b ≠ Pt) (n2 : b = a → K.lookup a ≠ none) : H b = none := by
  cases e : H b with
  | none => rfl
  | some u =>
    obtain ⟨h1, h2, _⟩ := h.oth b n1 (by rw [e]; simp)
    exact absurd h2 (n2 h1)
theorem run_hid (inK : K.In st.heap) (nsM : st.heap.Ns mainGlobals mg) (nsB : st.heap.Ns builtinsNs mb) (blt : ∀ y : Str, y ≠ "__name__" → mb y = bootBuiltins y) (lim : st.heap.NoLimit) (gen0 : st.gens = #[])
    (tab : st.heap.get? Pt = some { cls := .none, data := .fields #[] }) (offK : K.lookup Pt = none) (hd : PySem.W.CodeHd st.heap c Pt)
    (bm : ∃ (q : Addr) (o : Obj), mg "__builtins__" = some (.ref q) ∧ q ≠ builtinsNs ∧ st.heap.get? q = some o ∧ o.cls = .type "module" ∧ o.dict = some builtinsNs ∧ o.data = .plain)
    (scr : st.heap.get? a = some { cls := .type "list", data := .seq vs.toArray }) (room : Room k callerA)
    (prm : ∀ base : Heap, K.In base → base.Ns mainGlobals mg → TabB base mg c Pt → FnG P w K mg base CX k fa fd [x] sp) (bnd : ∀ (s : Shared) (u : Value), BindsTo s fd ⟨[u], []⟩ [(x, u)])
    (noX : ∀ H e s', CX [] H st (fun _ _ _ => False) e s' → False) {H : Hp} (hh : Hid1 K H a Pt ns) (ok : HOk P w H st.heap) (hsp : sp [.ref a] H (fun v _ => v = .bl true) fun _ _ _ => False) :
    codeAny (model P w) callerA (.call (.ref fa) ⟨[.ref a], []⟩) (fun r s' => r = .ok (.ret (.bool true)) ∧ OldK st.heap s'.heap ∧ s'.os = st.os ∧ AllBare s'.gens) st := by
  -- what is neither the table nor the script stands in the base
  have stays : ∀ {b : Addr} {o : Obj}, st.heap.get? b = some o → (∀ us n, o.data ≠ .seq us n) → o.data ≠ .fields #[] → (hidT st.heap H).get? b = some o := by
    intro b o e d1 d2
    refine hidT_get e (hh.free (fun z => ?_) fun z => ?_)
    · rw [z, tab] at e
      cases e
      exact (d2 rfl).elim
    · rw [z, scr] at e
      cases e
      exact (d1 _ _ rfl).elim
  have names : ∀ {b : Addr} {m : Str → Option Value}, st.heap.Ns b m → (hidT st.heap H).Ns b m := by
    rintro b m ⟨o, es, n, e, d, r⟩
    exact ⟨o, es, n, stays e (by rw [d]; exact fun _ _ z => nomatch z) (by rw [d]; exact fun z => nomatch z), d, r⟩
  have base : K.In (hidT st.heap H) := by
    intro b o e
    refine hidT_get (inK b o e) (hh.free (fun z => ?_) fun z => ?_)
    · rw [z, offK] at e
      cases e
    · rw [z] at e
      rw [e]
      simp
  have tb : TabB (hidT st.heap H) mg c Pt := by
    constructor
    · obtain ⟨o, us, fl, tf, fg, tg, fn, tx, tt, e, q1, q2, q3, q4, q5, q6, q7, q8, q9⟩ := hd
      refine ⟨o, us, fl, tf, fg, tg, fn, tx, tt, stays e ?_ ?_, q1, q2, q3, q4, q5, q6, q7, q8, q9⟩
      · rw [q2]
        exact fun _ _ z => nomatch z
      · rw [q2]
        intro z
        cases z
        simp at q3
    · obtain ⟨q, o, b1, b2, b3, b4, b5, b6⟩ := bm
      refine ⟨q, o, b1, b2, fun z => ?_, fun z => ?_, stays b3 (by rw [b6]; exact fun _ _ z => nomatch z) (by rw [b6]; exact fun z => nomatch z), b4, b5, b6⟩
      · obtain ⟨o2, es, n, e, d, _⟩ := nsM
        rw [z, e] at b3
        cases b3
        rw [d] at b6
        cases b6
      · rw [z, tab] at b3
        cases b3
        cases b6
    · intro z
      obtain ⟨o, es, n, e, d, _⟩ := nsM
      rw [z, tab] at e
      cases e
      cases d
  have md : Mod K mg (hidT st.heap H) := by
    obtain ⟨mc, l1, l2⟩ := lim
    exact ⟨base, names nsM, ⟨mb, names nsB, blt⟩, mc, names l1, l2⟩
  have env : Env0 P w K mg (hidT st.heap H) callerA [] st H := by
    refine ⟨rfl, md, fun b o e => of_hidT e, Nat.le_of_eq (hidT_size _ _), trivial, fun b z => ?_, ok, .of_eq gen0⟩
    exact absurd (show b ∈ ([] : List Addr) from z) (by simp)
  refine codeAny_mono ((prm _ base (names nsM) tb).run callerA [] st H ⟨[.ref a], []⟩ [.ref a] [.ref a] _ _ rfl room env (bnd st (.ref a)) (.cons rfl .nil) hsp) (fun r s' h => ?_)
  match r, h with
  | .error e, h => exact (noX H e s' h).elim
  | .ok .next, h => exact False.elim h
  | .ok .brk, h => exact False.elim h
  | .ok .cont, h => exact False.elim h
  | .ok (.ret u), h =>
    obtain ⟨v, H', os, bare, un, ok', rv, qv⟩ := h
    obtain rfl : v = .bl true := qv
    obtain rfl : u = Value.bool true := rv
    obtain ⟨more, grown⟩ := un.tbls Pt #[] hh.tab
    have tab' : s'.heap.get? Pt = some { cls := .none, data := .fields (#[] ++ more) } := ok' Pt _ grown
    have kept : ∀ b o, b ≠ Pt → st.heap.get? b = some o → s'.heap.get? b = some o := by
      intro b o n e
      cases q : H b with
      | none => exact un.keep b o e q (fun z => absurd (show b ∈ ([] : List Addr) from z) (by simp)) (by simp)
      | some u =>
        obtain ⟨_, _, o2, z⟩ := hh.oth b n (by rw [q]; simp)
        have f1 := (ok b _ z).1
        have f2 := (ok' b _ (un.frzs b o2 _ z)).1
        rw [e] at f1
        cases f1
        exact f2
    refine ⟨rfl, ⟨fun b o e => ?_, fun b o e => ?_⟩, os, bare⟩
    · by_cases n : b = Pt
      · subst n
        rw [tab] at e
        cases e
        refine .inr (.inl ⟨(hd.tab tab).isCodeTable, rfl, #[], more, rfl, ?_⟩)
        exact tab'
      · exact .inl (kept b o n e)
    · by_cases n : b = Pt
      · subst n
        exact ⟨_, tab'⟩
      · exact ⟨o, kept b o n e⟩
/-- .. over the heaps in which the script is known -/
theorem lawT1 (inK : K.In st.heap) (nsM : st.heap.Ns mainGlobals mg) (nsB : st.heap.Ns builtinsNs mb) (blt : ∀ y : Str, y ≠ "__name__" → mb y = bootBuiltins y) (lim : st.heap.NoLimit) (gen0 : st.gens = #[])
    (tab : st.heap.get? Pt = some { cls := .none, data := .fields #[] }) (offK : K.lookup Pt = none) (hd : PySem.W.CodeHd st.heap c Pt)
    (bm : ∃ (q : Addr) (o : Obj), mg "__builtins__" = some (.ref q) ∧ q ≠ builtinsNs ∧ st.heap.get? q = some o ∧ o.cls = .type "module" ∧ o.dict = some builtinsNs ∧ o.data = .plain)
    (scr : st.heap.get? a = some { cls := .type "list", data := .seq vs.toArray }) (iv : IntsAre vs ns) (len : ns.length ≤ sizeLine) (room : Room k callerA)
    (prm : ∀ base : Heap, K.In base → base.Ns mainGlobals mg → TabB base mg c Pt → FnG P w K mg base CX k fa fd [x] sp) (bnd : ∀ (s : Shared) (u : Value), BindsTo s fd ⟨[u], []⟩ [(x, u)])
    (noX : ∀ H e s', CX [] H st (fun _ _ _ => False) e s' → False) (hsp : ∀ H : Hp, H Pt = some (.tbl #[]) → SqL K H a (ns.map V.int) → sp [.ref a] H (fun v _ => v = .bl true) fun _ _ _ => False) :
    codeAny (model P w) callerA (.call (.ref fa) ⟨[.ref a], []⟩) (fun r s' => r = .ok (.ret (.bool true)) ∧ OldK st.heap s'.heap ∧ s'.os = st.os ∧ AllBare s'.gens) st := by
  have vi := vals_ints iv
  have hvl := iv.length
  have naP : a ≠ Pt := fun z => by
    rw [z, tab] at scr
    cases scr
  cases hk : K.lookup a with
  | some o =>
    have e := inK a o hk
    rw [scr] at e
    cases e
    have hT : (fun b => if b = Pt then some (HO.tbl #[]) else none : Hp) Pt = some (.tbl #[]) := if_pos rfl
    refine run_hid (ns := ns) (H := fun b => if b = Pt then some (HO.tbl #[]) else none) inK nsM nsB blt lim gen0 tab offK hd bm scr room prm bnd noX ⟨hT, fun b n z => absurd (if_neg n) z⟩ (fun b u z => ?_) (hsp _ hT (.inr ⟨_, vs.toArray, _, hk, rfl, rfl, rfl, ?_, ?_⟩))
    · by_cases n : b = Pt
      · have z' := (if_pos n).symm.trans z
        cases z'
        rw [n]
        exact tab
      · have z' := (if_neg n).symm.trans z
        cases z'
    · rw [List.size_toArray, hvl]
      exact len
    · simpa using vi
  | none =>
    have hT : (fun b => if b = Pt then some (HO.tbl #[]) else if b = a then some (.frz { cls := .type "list", data := .seq vs.toArray } (.lst (ns.map V.int))) else none : Hp) Pt = some (.tbl #[]) := if_pos rfl
    have hA : (fun b => if b = Pt then some (HO.tbl #[]) else if b = a then some (.frz { cls := .type "list", data := .seq vs.toArray } (.lst (ns.map V.int))) else none : Hp) a = some (.frz { cls := .type "list", data := .seq vs.toArray } (.lst (ns.map V.int))) := (if_neg naP).trans (if_pos rfl)
    refine run_hid (ns := ns) (H := fun b => if b = Pt then some (HO.tbl #[]) else if b = a then some (.frz { cls := .type "list", data := .seq vs.toArray } (.lst (ns.map V.int))) else none) inK nsM nsB blt lim gen0 tab offK hd bm scr room prm bnd noX ⟨hT, fun b n z => ?_⟩ (fun b u z => ?_) (hsp _ hT (.inl (.inr ⟨_, hA⟩)))
    · by_cases m : b = a
      · exact ⟨m, hk, _, (if_neg n).trans (if_pos m)⟩
      · exact absurd ((if_neg n).trans (if_neg m)) z
    · by_cases n : b = Pt
      · have z' := (if_pos n).symm.trans z
        cases z'
        rw [n]
        exact tab
      · have z1 := (if_neg n).symm.trans z
        by_cases m : b = a
        · have z' := (if_pos m).symm.trans z1
          cases z'
          rw [m]
          exact ⟨scr, by rw [List.length_map]; exact len, vs, _, vi, scr⟩
        · have z' := (if_neg m).symm.trans z1
          cases z'
end
/-- the table of the def y is empty where the law begins -/
def Tab0 (mg : Str → Option Value) (h : Heap) (y : Str) : Prop := ∃ (f c Pt : Addr) (o oc : Obj) (fd : FuncData) (vc : Array Value), mg y = some (.ref f) ∧ h.get? f = some o ∧ o.data = .func fd ∧ fd.code = .ref c ∧ h.get? c = some oc ∧ oc.data = .fields vc ∧ vc[11]? = some (.ref Pt) ∧ h.get? Pt = some { cls := .none, data := .fields #[] }
/-- the goal that the head leaves -/
theorem walkT1 {l : PySem.W.OpenLaw} {n k : Nat} {q : Program} {loose : List Str} {XP : (Str → Option Value) → Heap → Prop} {YP : World → Heap → Prop} {d : DefRec} {K : Params → PySem.W.Frag} {sp : PySem.W.Frag → Addr → Sp} {x : Str}
    {y : Str} (hrec : ((recsOf q).any fun e => e.name == y) = true) (hn : l.most = some n) (hn2 : n ≤ sizeLine) (hdf : d.params.defaults = []) (hr : Room k callerA) (hY : ∀ (w : World) (h : Heap), YP w h → (K w.params).In h)
    (F : ∀ (w : World) (mg : Str → Option Value) (fa : Addr) (h : Heap), YP w h → (K w.params).In h → h.Ns mainGlobals mg → mg d.name = some (.ref fa) → Tab0 mg h y →
      ∃ (fd : FuncData) (c Pt : Addr), h.get? Pt = some { cls := .none, data := .fields #[] } ∧ (K w.params).lookup Pt = none ∧ PySem.W.CodeHd h c Pt ∧ (∀ (s : Shared) (u : Value), BindsTo s fd ⟨[u], []⟩ [(x, u)]) ∧
        (∀ (H : Hp) (a : Addr) (ns : List Int), ns.length ≤ n → H Pt = some (.tbl #[]) → SqL (K w.params) H a (ns.map V.int) → sp (K w.params) Pt [.ref a] H (fun v _ => v = .bl true) fun _ _ _ => False) ∧
        ∀ base : Heap, (K w.params).In base → base.Ns mainGlobals mg → TabB base mg c Pt → FnG l.prog w (K w.params) mg base C8.CX0 k fa fd [x] (sp (K w.params) Pt)) :
    PySem.W.WalkO q loose XP YP l.row.toRowW d [] (fun f vs => PySem.call f vs) := by
  refine Att.attach_call hn hdf ?_
  intro w s₀ st mg mb fa o pm cd doc a vs ns G Y ho hd hcd hmg hobj hints hlen hg
  have inK := hY w _ Y
  have own : Tab0 mg st.heap y := by
    obtain ⟨e, he, hn1⟩ := List.any_eq_true.mp hrec
    obtain ⟨f, o2, fd2, c2, P2, h1, h2, h3, h4, _, ⟨⟨oc, vc, e1, _, e3, e4⟩, hP⟩⟩ := G.T.tab e he
    rw [show e.name = y from eq_of_beq hn1] at h1
    exact ⟨f, c2, P2, o2, oc, fd2, vc, h1, h2, h3, h4, e1, e3, e4, hP⟩
  obtain ⟨fd, c, Pt, t1, t2, t3, hb, hsp, hF⟩ := F w mg fa _ Y inK G.T.g hmg own
  exact lawT1 inK G.T.g G.T.b G.T.builtins G.T.nolimit hg t1 t2 t3 G.T.bmain hobj hints (Nat.le_trans hlen hn2) hr hF hb (fun H e s' z => z) fun H h1 h2 => hsp H a ns hlen h1 h2
end LamC
set_option Elab.async false
set_option linter.all false
set_option maxRecDepth 100000
set_option maxHeartbeats 4000000
namespace K31
open PySem PySem.Spec PyProof.Rows L2
abbrev sLCell : Stmt := topS 18
/-- texts to tuples of texts -/
def TupsS (K : PySem.W.Frag) : List (Str × V) → List (Str × List Str) → Prop := Paired fun a b => a.1 = b.1 ∧ ∃ p, a.2 = .ref p ∧ ∀ H, SqT K H p (b.2.map V.str)
theorem tupsS {K : PySem.W.Frag} : ∀ {cs : List (Str × V)} {ks : List (Str × List Str)}, TupsS K cs ks → ∀ z, (∃ p ss, cs.lookup z = some (.ref p) ∧ ks.lookup z = some ss ∧ ∀ H, SqT K H p (ss.map V.str)) ∨ (cs.lookup z = none ∧ ks.lookup z = none)
  | _, _, .nil, z => .inr ⟨rfl, rfl⟩
  | _, _, .cons (a := a) (b := b) ⟨h1, p, h2, h3⟩ r, z => by
    obtain ⟨y, v⟩ := a
    obtain ⟨y', c⟩ := b
    simp only at h1 h2 h3
    subst h1
    rw [List.lookup_cons, List.lookup_cons]
    cases h : (z == y) with
    | true => exact .inl ⟨p, c, by rw [h2], rfl, h3⟩
    | false => exact tupsS r z
theorem md_s {K : PySem.W.Frag} {a : Addr} {c : Value} {od : Option Addr} {es : Array DictEntry} {n : Nat} {sl : Array (Option Value)} {cs : List (Str × V)} (h : K.lookup a = some ⟨c, od, .dict es n, sl⟩) (hc : EntsV es.toList cs) (ht : TupsS K cs sorts) :
    ∀ u : Str, (sorts.lookup u = none ∧ PySem.W.nsIn K a u = some none) ∨ ∃ ss p u0, sorts.lookup u = some ss ∧ PySem.W.nsIn K a u = some (some u0) ∧ RelV (.ref p) u0 ∧ ∀ H, SqT K H p (ss.map V.str) := fun u => by
  rcases nsIn_cv h hc u with ⟨v, u0, h1, h2, h3⟩ | ⟨h1, h2⟩
  · rcases tupsS ht u with ⟨p, ss, e1, e2, e3⟩ | ⟨e1, _⟩
    · rw [h1] at e1
      cases e1
      exact .inr ⟨ss, p, u0, e2, h2, h3, e3⟩
    · rw [h1] at e1
      cases e1
  · rcases tupsS ht u with ⟨p, ss, e1, e2, e3⟩ | ⟨_, e2⟩
    · rw [h1] at e1
      cases e1
    · exact .inl ⟨e2, h2⟩
end K31
set_option Elab.async false
set_option linter.all false
set_option maxRecDepth 100000
set_option maxHeartbeats 8000000
namespace K31
open PySem PySem.Spec PyProof.Rows L2 LamX NdefX LamC
open C8 (Cal Def cal0 pe_c fnBody fnScope fnArgs)
/-- a def of the module's top -/
theorem def_mk {K : PySem.W.Frag} {h : Heap} {mg : Str → Option Value} (X : K.In h) (G : h.Ns mainGlobals mg) {x : Str} {st : Stmt} {f : Addr} {oc : Value} {od an : Option Addr} {osl : Array (Option Value)} {kV doc pm cdv ct : Value}
    (a : PySem.W.nsIn K mainGlobals x = some (some (.ref f)))
    (l : K.lookup f = some ⟨oc, od, .func (PySem.W.fnOf x x (fnArgs st) (fnBody st) (fnScope st) .none kV doc pm an cdv ct), osl⟩)
    (c : PySem.W.codeIn K cdv x = true) (k : PySem.W.keepIn K (.ref f) = true) : Def K mg x st f (PySem.W.fnOf x x (fnArgs st) (fnBody st) (fnScope st) .none kV doc pm an cdv ct) :=
  ⟨⟨⟨oc, od, .none, kV, doc, pm, an, cdv, ct, osl, rfl, l, c⟩⟩, PySem.W.mg_of X G a, k⟩
theorem all_mk {l : PySem.W.OpenLaw} {w : World} {K : PySem.W.Frag} {h : Heap} {mg : Str → Option Value} {fa : Addr} (X : K.In h) (G : h.Ns mainGlobals mg) (hfa : mg "law" = some (.ref fa))
    {f1 : Addr} {od1 an1 : Option Addr} {sl1 : Array (Option Value)} {oc1 kV1 dc1 pm1 cd1 ct1 : Value}
    {f2 : Addr} {od2 an2 : Option Addr} {sl2 : Array (Option Value)} {oc2 kV2 dc2 pm2 cd2 ct2 : Value}
    {f3 : Addr} {od3 an3 : Option Addr} {sl3 : Array (Option Value)} {oc3 kV3 dc3 pm3 cd3 ct3 : Value}
    {f4 : Addr} {od4 an4 : Option Addr} {sl4 : Array (Option Value)} {oc4 kV4 dc4 pm4 cd4 ct4 : Value}
    {f5 : Addr} {od5 an5 : Option Addr} {sl5 : Array (Option Value)} {oc5 kV5 dc5 pm5 ct5 : Value}
    {f6 : Addr} {od6 an6 : Option Addr} {sl6 : Array (Option Value)} {oc6 kV6 dc6 pm6 cd6 ct6 : Value}
    {f7 : Addr} {od7 an7 : Option Addr} {sl7 : Array (Option Value)} {oc7 kV7 dc7 pm7 cd7 ct7 : Value}
    {f8 : Addr} {od8 an8 : Option Addr} {sl8 : Array (Option Value)} {oc8 kV8 dc8 pm8 cd8 ct8 : Value}
    {f9 : Addr} {od9 an9 : Option Addr} {sl9 : Array (Option Value)} {oc9 kV9 dc9 pm9 cd9 ct9 : Value}
    {f10 : Addr} {od10 an10 : Option Addr} {sl10 : Array (Option Value)} {oc10 kV10 dc10 pm10 cd10 ct10 : Value}
    {f11 : Addr} {od11 an11 : Option Addr} {sl11 : Array (Option Value)} {oc11 kV11 dc11 pm11 cd11 ct11 : Value}
    {f12 : Addr} {od12 an12 : Option Addr} {sl12 : Array (Option Value)} {oc12 kV12 dc12 pm12 cd12 ct12 : Value}
    {f13 : Addr} {od13 an13 : Option Addr} {sl13 : Array (Option Value)} {oc13 kV13 dc13 pm13 cd13 ct13 : Value}
    {f14 : Addr} {od14 an14 : Option Addr} {sl14 : Array (Option Value)} {oc14 kV14 dc14 pm14 cd14 ct14 : Value}
    {f15 : Addr} {od15 an15 : Option Addr} {sl15 : Array (Option Value)} {oc15 kV15 dc15 pm15 cd15 ct15 : Value}
    {f16 : Addr} {od16 an16 : Option Addr} {sl16 : Array (Option Value)} {oc16 kV16 dc16 pm16 cd16 ct16 : Value}
    {f17 : Addr} {od17 an17 : Option Addr} {sl17 : Array (Option Value)} {oc17 kV17 dc17 pm17 cd17 ct17 : Value}
    {f18 : Addr} {od18 an18 : Option Addr} {sl18 : Array (Option Value)} {oc18 kV18 dc18 pm18 cd18 ct18 : Value}
    {f19 : Addr} {od19 an19 : Option Addr} {sl19 : Array (Option Value)} {oc19 kV19 dc19 pm19 cd19 ct19 : Value}
    {f20 : Addr} {od20 an20 : Option Addr} {sl20 : Array (Option Value)} {oc20 kV20 dc20 pm20 cd20 ct20 : Value}
    {f21 : Addr} {od21 an21 : Option Addr} {sl21 : Array (Option Value)} {oc21 kV21 dc21 pm21 cd21 ct21 : Value}
    {f22 : Addr} {od22 an22 : Option Addr} {sl22 : Array (Option Value)} {oc22 kV22 dc22 pm22 cd22 ct22 : Value}
    {f23 : Addr} {od23 an23 : Option Addr} {sl23 : Array (Option Value)} {oc23 kV23 dc23 pm23 cd23 ct23 : Value}
    {f24 : Addr} {od24 an24 : Option Addr} {sl24 : Array (Option Value)} {oc24 kV24 dc24 pm24 cd24 ct24 : Value}
    {f25 : Addr} {od25 an25 : Option Addr} {sl25 : Array (Option Value)} {oc25 kV25 dc25 pm25 cd25 ct25 : Value}
    {f26 : Addr} {od26 an26 : Option Addr} {sl26 : Array (Option Value)} {oc26 kV26 dc26 pm26 cd26 ct26 : Value}
    {f27 : Addr} {od27 an27 : Option Addr} {sl27 : Array (Option Value)} {oc27 kV27 dc27 pm27 cd27 ct27 : Value}
    {f28 : Addr} {od28 an28 : Option Addr} {sl28 : Array (Option Value)} {oc28 kV28 dc28 pm28 cd28 ct28 : Value}
    {f29 : Addr} {od29 an29 : Option Addr} {sl29 : Array (Option Value)} {oc29 kV29 dc29 pm29 cd29 ct29 : Value}
    {f30 : Addr} {od30 an30 : Option Addr} {sl30 : Array (Option Value)} {oc30 kV30 dc30 pm30 cd30 ct30 : Value}
    {cw Pt : Addr} {ecw : Value} {dcw : Option Addr} {vcw : Array Value} {scw : Array (Option Value)}
    {p_NUMBER : Addr} {od_NUMBER : Option Addr} {oi_NUMBER : Array Value} {on_NUMBER : Nat} {os_NUMBER : Array (Option Value)}
    {p_TRUTH : Addr} {od_TRUTH : Option Addr} {oi_TRUTH : Array Value} {on_TRUTH : Nat} {os_TRUTH : Array (Option Value)}
    {p_LEAVES : Addr} {od_LEAVES : Option Addr} {oi_LEAVES : Array Value} {on_LEAVES : Nat} {os_LEAVES : Array (Option Value)}
    {p_SORTS : Addr} {es_SORTS : Array DictEntry} {on_SORTS : Nat}
    {e_SORTS_1 : Addr} {od_SORTS_1 : Option Addr} {oi_SORTS_1 : Array Value} {on_SORTS_1 : Nat} {os_SORTS_1 : Array (Option Value)}
    {e_SORTS_2 : Addr} {od_SORTS_2 : Option Addr} {oi_SORTS_2 : Array Value} {on_SORTS_2 : Nat} {os_SORTS_2 : Array (Option Value)}
    {e_SORTS_3 : Addr} {od_SORTS_3 : Option Addr} {oi_SORTS_3 : Array Value} {on_SORTS_3 : Nat} {os_SORTS_3 : Array (Option Value)}
    {e_SORTS_4 : Addr} {od_SORTS_4 : Option Addr} {oi_SORTS_4 : Array Value} {on_SORTS_4 : Nat} {os_SORTS_4 : Array (Option Value)}
    {e_SORTS_5 : Addr} {od_SORTS_5 : Option Addr} {oi_SORTS_5 : Array Value} {on_SORTS_5 : Nat} {os_SORTS_5 : Array (Option Value)}
    {e_SORTS_6 : Addr} {od_SORTS_6 : Option Addr} {oi_SORTS_6 : Array Value} {on_SORTS_6 : Nat} {os_SORTS_6 : Array (Option Value)}
    {e_SORTS_7 : Addr} {od_SORTS_7 : Option Addr} {oi_SORTS_7 : Array Value} {on_SORTS_7 : Nat} {os_SORTS_7 : Array (Option Value)}
    {e_SORTS_8 : Addr} {od_SORTS_8 : Option Addr} {oi_SORTS_8 : Array Value} {on_SORTS_8 : Nat} {os_SORTS_8 : Array (Option Value)}
    {e_SORTS_9 : Addr} {od_SORTS_9 : Option Addr} {oi_SORTS_9 : Array Value} {on_SORTS_9 : Nat} {os_SORTS_9 : Array (Option Value)}
    {e_SORTS_10 : Addr} {od_SORTS_10 : Option Addr} {oi_SORTS_10 : Array Value} {on_SORTS_10 : Nat} {os_SORTS_10 : Array (Option Value)}
    {e_SORTS_11 : Addr} {od_SORTS_11 : Option Addr} {oi_SORTS_11 : Array Value} {on_SORTS_11 : Nat} {os_SORTS_11 : Array (Option Value)}
    {e_SORTS_12 : Addr} {od_SORTS_12 : Option Addr} {oi_SORTS_12 : Array Value} {on_SORTS_12 : Nat} {os_SORTS_12 : Array (Option Value)}
    (a1 : PySem.W.nsIn K mainGlobals "names_in" = some (some (.ref f1))) (l1 : K.lookup f1 = some ⟨oc1, od1, .func (PySem.W.fnOf "names_in" "names_in" (fnArgs sPNamesIn) (fnBody sPNamesIn) (fnScope sPNamesIn) .none kV1 dc1 pm1 an1 cd1 ct1), sl1⟩) (c1 : PySem.W.codeIn K cd1 "names_in" = true) (k1 : PySem.W.keepIn K (.ref f1) = true)
    (a2 : PySem.W.nsIn K mainGlobals "parts_of" = some (some (.ref f2))) (l2 : K.lookup f2 = some ⟨oc2, od2, .func (PySem.W.fnOf "parts_of" "parts_of" (fnArgs sPPartsOf) (fnBody sPPartsOf) (fnScope sPPartsOf) .none kV2 dc2 pm2 an2 cd2 ct2), sl2⟩) (c2 : PySem.W.codeIn K cd2 "parts_of" = true) (k2 : PySem.W.keepIn K (.ref f2) = true)
    (a3 : PySem.W.nsIn K mainGlobals "folded" = some (some (.ref f3))) (l3 : K.lookup f3 = some ⟨oc3, od3, .func (PySem.W.fnOf "folded" "folded" (fnArgs sPFolded) (fnBody sPFolded) (fnScope sPFolded) .none kV3 dc3 pm3 an3 cd3 ct3), sl3⟩) (c3 : PySem.W.codeIn K cd3 "folded" = true) (k3 : PySem.W.keepIn K (.ref f3) = true)
    (a4 : PySem.W.nsIn K mainGlobals "is_there" = some (some (.ref f4))) (l4 : K.lookup f4 = some ⟨oc4, od4, .func (PySem.W.fnOf "is_there" "is_there" (fnArgs sPIsThere) (fnBody sPIsThere) (fnScope sPIsThere) .none kV4 dc4 pm4 an4 cd4 ct4), sl4⟩) (c4 : PySem.W.codeIn K cd4 "is_there" = true) (k4 : PySem.W.keepIn K (.ref f4) = true)
    (a5 : PySem.W.nsIn K mainGlobals "kind_of" = some (some (.ref f5))) (l5 : K.lookup f5 = some ⟨oc5, od5, .func (PySem.W.fnOf "kind_of" "kind_of" (fnArgs sPKindOf) (fnBody sPKindOf) (fnScope sPKindOf) .none kV5 dc5 pm5 an5 (.ref cw) ct5), sl5⟩) (c5 : PySem.W.codeIn K (.ref cw) "kind_of" = true) (lcw : K.lookup cw = some ⟨ecw, dcw, .fields vcw, scw⟩) (v11 : vcw[11]? = some (.ref Pt)) (hcw : PySem.W.codeHdIn K cw Pt = true) (nPt : K.lookup Pt = none) (own : Tab0 mg h "kind_of") (k5 : PySem.W.keepIn K (.ref f5) = true)
    (a6 : PySem.W.nsIn K mainGlobals "_kind_over" = some (some (.ref f6))) (l6 : K.lookup f6 = some ⟨oc6, od6, .func (PySem.W.fnOf "_kind_over" "_kind_over" (fnArgs sPKindOver) (fnBody sPKindOver) (fnScope sPKindOver) .none kV6 dc6 pm6 an6 cd6 ct6), sl6⟩) (c6 : PySem.W.codeIn K cd6 "_kind_over" = true) (k6 : PySem.W.keepIn K (.ref f6) = true)
    (a7 : PySem.W.nsIn K mainGlobals "_are_matching" = some (some (.ref f7))) (l7 : K.lookup f7 = some ⟨oc7, od7, .func (PySem.W.fnOf "_are_matching" "_are_matching" (fnArgs sPAreMatching) (fnBody sPAreMatching) (fnScope sPAreMatching) .none kV7 dc7 pm7 an7 cd7 ct7), sl7⟩) (c7 : PySem.W.codeIn K cd7 "_are_matching" = true) (k7 : PySem.W.keepIn K (.ref f7) = true)
    (a8 : PySem.W.nsIn K mainGlobals "_kind_by_word" = some (some (.ref f8))) (l8 : K.lookup f8 = some ⟨oc8, od8, .func (PySem.W.fnOf "_kind_by_word" "_kind_by_word" (fnArgs sPKindByWord) (fnBody sPKindByWord) (fnScope sPKindByWord) .none kV8 dc8 pm8 an8 cd8 ct8), sl8⟩) (c8 : PySem.W.codeIn K cd8 "_kind_by_word" = true) (k8 : PySem.W.keepIn K (.ref f8) = true)
    (a9 : PySem.W.nsIn K mainGlobals "_box_kind" = some (some (.ref f9))) (l9 : K.lookup f9 = some ⟨oc9, od9, .func (PySem.W.fnOf "_box_kind" "_box_kind" (fnArgs sPBoxKind) (fnBody sPBoxKind) (fnScope sPBoxKind) .none kV9 dc9 pm9 an9 cd9 ct9), sl9⟩) (c9 : PySem.W.codeIn K cd9 "_box_kind" = true) (k9 : PySem.W.keepIn K (.ref f9) = true)
    (a10 : PySem.W.nsIn K mainGlobals "_field_kind" = some (some (.ref f10))) (l10 : K.lookup f10 = some ⟨oc10, od10, .func (PySem.W.fnOf "_field_kind" "_field_kind" (fnArgs sPFieldKind) (fnBody sPFieldKind) (fnScope sPFieldKind) .none kV10 dc10 pm10 an10 cd10 ct10), sl10⟩) (c10 : PySem.W.codeIn K cd10 "_field_kind" = true) (k10 : PySem.W.keepIn K (.ref f10) = true)
    (a11 : PySem.W.nsIn K mainGlobals "_law_cell" = some (some (.ref f11))) (l11 : K.lookup f11 = some ⟨oc11, od11, .func (PySem.W.fnOf "_law_cell" "_law_cell" (fnArgs sLCell) (fnBody sLCell) (fnScope sLCell) .none kV11 dc11 pm11 an11 cd11 ct11), sl11⟩) (c11 : PySem.W.codeIn K cd11 "_law_cell" = true) (k11 : PySem.W.keepIn K (.ref f11) = true)
    (a12 : PySem.W.nsIn K mainGlobals "_law_pot" = some (some (.ref f12))) (l12 : K.lookup f12 = some ⟨oc12, od12, .func (PySem.W.fnOf "_law_pot" "_law_pot" (fnArgs sLPot) (fnBody sLPot) (fnScope sLPot) .none kV12 dc12 pm12 an12 cd12 ct12), sl12⟩) (c12 : PySem.W.codeIn K cd12 "_law_pot" = true) (k12 : PySem.W.keepIn K (.ref f12) = true)
    (a13 : PySem.W.nsIn K mainGlobals "_law_take" = some (some (.ref f13))) (l13 : K.lookup f13 = some ⟨oc13, od13, .func (PySem.W.fnOf "_law_take" "_law_take" (fnArgs sLTake) (fnBody sLTake) (fnScope sLTake) .none kV13 dc13 pm13 an13 cd13 ct13), sl13⟩) (c13 : PySem.W.codeIn K cd13 "_law_take" = true) (k13 : PySem.W.keepIn K (.ref f13) = true)
    (a14 : PySem.W.nsIn K mainGlobals "_law_kind" = some (some (.ref f14))) (l14 : K.lookup f14 = some ⟨oc14, od14, .func (PySem.W.fnOf "_law_kind" "_law_kind" (fnArgs sLKind) (fnBody sLKind) (fnScope sLKind) .none kV14 dc14 pm14 an14 cd14 ct14), sl14⟩) (c14 : PySem.W.codeIn K cd14 "_law_kind" = true) (k14 : PySem.W.keepIn K (.ref f14) = true)
    (a15 : PySem.W.nsIn K mainGlobals "_law_plain" = some (some (.ref f15))) (l15 : K.lookup f15 = some ⟨oc15, od15, .func (PySem.W.fnOf "_law_plain" "_law_plain" (fnArgs sLPlain) (fnBody sLPlain) (fnScope sLPlain) .none kV15 dc15 pm15 an15 cd15 ct15), sl15⟩) (c15 : PySem.W.codeIn K cd15 "_law_plain" = true) (k15 : PySem.W.keepIn K (.ref f15) = true)
    (a16 : PySem.W.nsIn K mainGlobals "_law_pairs" = some (some (.ref f16))) (l16 : K.lookup f16 = some ⟨oc16, od16, .func (PySem.W.fnOf "_law_pairs" "_law_pairs" (fnArgs sLPairs) (fnBody sLPairs) (fnScope sLPairs) .none kV16 dc16 pm16 an16 cd16 ct16), sl16⟩) (c16 : PySem.W.codeIn K cd16 "_law_pairs" = true) (k16 : PySem.W.keepIn K (.ref f16) = true)
    (a17 : PySem.W.nsIn K mainGlobals "_law_shapes" = some (some (.ref f17))) (l17 : K.lookup f17 = some ⟨oc17, od17, .func (PySem.W.fnOf "_law_shapes" "_law_shapes" (fnArgs sLShapes) (fnBody sLShapes) (fnScope sLShapes) .none kV17 dc17 pm17 an17 cd17 ct17), sl17⟩) (c17 : PySem.W.codeIn K cd17 "_law_shapes" = true) (k17 : PySem.W.keepIn K (.ref f17) = true)
    (a18 : PySem.W.nsIn K mainGlobals "_law_forms" = some (some (.ref f18))) (l18 : K.lookup f18 = some ⟨oc18, od18, .func (PySem.W.fnOf "_law_forms" "_law_forms" (fnArgs sLForms) (fnBody sLForms) (fnScope sLForms) .none kV18 dc18 pm18 an18 cd18 ct18), sl18⟩) (c18 : PySem.W.codeIn K cd18 "_law_forms" = true) (k18 : PySem.W.keepIn K (.ref f18) = true)
    (a19 : PySem.W.nsIn K mainGlobals "_law_leaf" = some (some (.ref f19))) (l19 : K.lookup f19 = some ⟨oc19, od19, .func (PySem.W.fnOf "_law_leaf" "_law_leaf" (fnArgs sLLeaf) (fnBody sLLeaf) (fnScope sLLeaf) .none kV19 dc19 pm19 an19 cd19 ct19), sl19⟩) (c19 : PySem.W.codeIn K cd19 "_law_leaf" = true) (k19 : PySem.W.keepIn K (.ref f19) = true)
    (a20 : PySem.W.nsIn K mainGlobals "_law_odd" = some (some (.ref f20))) (l20 : K.lookup f20 = some ⟨oc20, od20, .func (PySem.W.fnOf "_law_odd" "_law_odd" (fnArgs sLOdd) (fnBody sLOdd) (fnScope sLOdd) .none kV20 dc20 pm20 an20 cd20 ct20), sl20⟩) (c20 : PySem.W.codeIn K cd20 "_law_odd" = true) (k20 : PySem.W.keepIn K (.ref f20) = true)
    (a21 : PySem.W.nsIn K mainGlobals "_law_term" = some (some (.ref f21))) (l21 : K.lookup f21 = some ⟨oc21, od21, .func (PySem.W.fnOf "_law_term" "_law_term" (fnArgs sLTerm) (fnBody sLTerm) (fnScope sLTerm) .none kV21 dc21 pm21 an21 cd21 ct21), sl21⟩) (c21 : PySem.W.codeIn K cd21 "_law_term" = true) (k21 : PySem.W.keepIn K (.ref f21) = true)
    (a22 : PySem.W.nsIn K mainGlobals "_law_holding" = some (some (.ref f22))) (l22 : K.lookup f22 = some ⟨oc22, od22, .func (PySem.W.fnOf "_law_holding" "_law_holding" (fnArgs sLHolding) (fnBody sLHolding) (fnScope sLHolding) .none kV22 dc22 pm22 an22 cd22 ct22), sl22⟩) (c22 : PySem.W.codeIn K cd22 "_law_holding" = true) (k22 : PySem.W.keepIn K (.ref f22) = true)
    (a23 : PySem.W.nsIn K mainGlobals "_law_there" = some (some (.ref f23))) (l23 : K.lookup f23 = some ⟨oc23, od23, .func (PySem.W.fnOf "_law_there" "_law_there" (fnArgs sLThere) (fnBody sLThere) (fnScope sLThere) .none kV23 dc23 pm23 an23 cd23 ct23), sl23⟩) (c23 : PySem.W.codeIn K cd23 "_law_there" = true) (k23 : PySem.W.keepIn K (.ref f23) = true)
    (a24 : PySem.W.nsIn K mainGlobals "_law_by_parts" = some (some (.ref f24))) (l24 : K.lookup f24 = some ⟨oc24, od24, .func (PySem.W.fnOf "_law_by_parts" "_law_by_parts" (fnArgs sLByParts) (fnBody sLByParts) (fnScope sLByParts) .none kV24 dc24 pm24 an24 cd24 ct24), sl24⟩) (c24 : PySem.W.codeIn K cd24 "_law_by_parts" = true) (k24 : PySem.W.keepIn K (.ref f24) = true)
    (a25 : PySem.W.nsIn K mainGlobals "_law_due" = some (some (.ref f25))) (l25 : K.lookup f25 = some ⟨oc25, od25, .func (PySem.W.fnOf "_law_due" "_law_due" (fnArgs sLDue) (fnBody sLDue) (fnScope sLDue) .none kV25 dc25 pm25 an25 cd25 ct25), sl25⟩) (c25 : PySem.W.codeIn K cd25 "_law_due" = true) (k25 : PySem.W.keepIn K (.ref f25) = true)
    (a26 : PySem.W.nsIn K mainGlobals "_law_or_gone" = some (some (.ref f26))) (l26 : K.lookup f26 = some ⟨oc26, od26, .func (PySem.W.fnOf "_law_or_gone" "_law_or_gone" (fnArgs sLOrGone) (fnBody sLOrGone) (fnScope sLOrGone) .none kV26 dc26 pm26 an26 cd26 ct26), sl26⟩) (c26 : PySem.W.codeIn K cd26 "_law_or_gone" = true) (k26 : PySem.W.keepIn K (.ref f26) = true)
    (a27 : PySem.W.nsIn K mainGlobals "_law_gone" = some (some (.ref f27))) (l27 : K.lookup f27 = some ⟨oc27, od27, .func (PySem.W.fnOf "_law_gone" "_law_gone" (fnArgs sLGone) (fnBody sLGone) (fnScope sLGone) .none kV27 dc27 pm27 an27 cd27 ct27), sl27⟩) (c27 : PySem.W.codeIn K cd27 "_law_gone" = true) (k27 : PySem.W.keepIn K (.ref f27) = true)
    (a28 : PySem.W.nsIn K mainGlobals "_law_whole" = some (some (.ref f28))) (l28 : K.lookup f28 = some ⟨oc28, od28, .func (PySem.W.fnOf "_law_whole" "_law_whole" (fnArgs sLWhole) (fnBody sLWhole) (fnScope sLWhole) .none kV28 dc28 pm28 an28 cd28 ct28), sl28⟩) (c28 : PySem.W.codeIn K cd28 "_law_whole" = true) (k28 : PySem.W.keepIn K (.ref f28) = true)
    (a29 : PySem.W.nsIn K mainGlobals "_law_tall" = some (some (.ref f29))) (l29 : K.lookup f29 = some ⟨oc29, od29, .func (PySem.W.fnOf "_law_tall" "_law_tall" (fnArgs sLTall) (fnBody sLTall) (fnScope sLTall) .none kV29 dc29 pm29 an29 cd29 ct29), sl29⟩) (c29 : PySem.W.codeIn K cd29 "_law_tall" = true) (k29 : PySem.W.keepIn K (.ref f29) = true)
    (a30 : PySem.W.nsIn K mainGlobals "law" = some (some (.ref f30))) (l30 : K.lookup f30 = some ⟨oc30, od30, .func (PySem.W.fnOf "law" "law" (fnArgs sLaw) (fnBody sLaw) (fnScope sLaw) .none kV30 dc30 pm30 an30 cd30 ct30), sl30⟩) (c30 : PySem.W.codeIn K cd30 "law" = true) (k30 : PySem.W.keepIn K (.ref f30) = true)
    (z_isinstance : PySem.W.nsIn K mainGlobals "isinstance" = some none)
    (z_int : PySem.W.nsIn K mainGlobals "int" = some none)
    (z_tuple : PySem.W.nsIn K mainGlobals "tuple" = some none)
    (z_list : PySem.W.nsIn K mainGlobals "list" = some none)
    (z_dict : PySem.W.nsIn K mainGlobals "dict" = some none)
    (z_len : PySem.W.nsIn K mainGlobals "len" = some none)
    (z_range : PySem.W.nsIn K mainGlobals "range" = some none)
    (z_max : PySem.W.nsIn K mainGlobals "max" = some none)
    (z_min : PySem.W.nsIn K mainGlobals "min" = some none)
    (z_all : PySem.W.nsIn K mainGlobals "all" = some none)
    (z_zip : PySem.W.nsIn K mainGlobals "zip" = some none)
    (z_sorted : PySem.W.nsIn K mainGlobals "sorted" = some none)
    (g_NUMBER : PySem.W.nsIn K mainGlobals "NUMBER" = some (some (.ref p_NUMBER))) (l_NUMBER : K.lookup p_NUMBER = some ⟨.type "tuple", od_NUMBER, .seq oi_NUMBER on_NUMBER, os_NUMBER⟩) (v_NUMBER : Vals ([.str "number"] : List V) oi_NUMBER.toList) (h_NUMBER : oi_NUMBER.size ≤ sizeLine)
    (g_TRUTH : PySem.W.nsIn K mainGlobals "TRUTH" = some (some (.ref p_TRUTH))) (l_TRUTH : K.lookup p_TRUTH = some ⟨.type "tuple", od_TRUTH, .seq oi_TRUTH on_TRUTH, os_TRUTH⟩) (v_TRUTH : Vals ([.str "truth"] : List V) oi_TRUTH.toList) (h_TRUTH : oi_TRUTH.size ≤ sizeLine)
    (g_LEAVES : PySem.W.nsIn K mainGlobals "LEAVES" = some (some (.ref p_LEAVES))) (l_LEAVES : K.lookup p_LEAVES = some ⟨.type "tuple", od_LEAVES, .seq oi_LEAVES on_LEAVES, os_LEAVES⟩) (v_LEAVES : Vals ([.str "number", .str "truth", .str "name", .str "box", .str "empty"] : List V) oi_LEAVES.toList) (h_LEAVES : oi_LEAVES.size ≤ sizeLine)
    (g_SORTS : PySem.W.nsIn K mainGlobals "SORTS" = some (some (.ref p_SORTS))) (l_SORTS : K.lookup p_SORTS = some ⟨.type "dict", none, .dict es_SORTS on_SORTS, #[]⟩) (k_SORTS : PySem.W.KeysLit w.params es_SORTS.toList) (w_SORTS : (p_SORTS == sysModules) = false) (n_SORTS : EntsV es_SORTS.toList [("add", V.ref e_SORTS_1), ("less", V.ref e_SORTS_2), ("times", V.ref e_SORTS_3), ("under", V.ref e_SORTS_4), ("same", V.ref e_SORTS_5), ("both", V.ref e_SORTS_6), ("join", V.ref e_SORTS_7), ("not", V.ref e_SORTS_8), ("many", V.ref e_SORTS_9), ("pick", V.ref e_SORTS_10), ("at", V.ref e_SORTS_11), ("field", V.ref e_SORTS_12)])
    (l_SORTS_1 : K.lookup e_SORTS_1 = some ⟨.type "tuple", od_SORTS_1, .seq oi_SORTS_1 on_SORTS_1, os_SORTS_1⟩) (v_SORTS_1 : Vals ([.str "number", .str "number"] : List V) oi_SORTS_1.toList) (h_SORTS_1 : oi_SORTS_1.size ≤ sizeLine)
    (l_SORTS_2 : K.lookup e_SORTS_2 = some ⟨.type "tuple", od_SORTS_2, .seq oi_SORTS_2 on_SORTS_2, os_SORTS_2⟩) (v_SORTS_2 : Vals ([.str "number", .str "number"] : List V) oi_SORTS_2.toList) (h_SORTS_2 : oi_SORTS_2.size ≤ sizeLine)
    (l_SORTS_3 : K.lookup e_SORTS_3 = some ⟨.type "tuple", od_SORTS_3, .seq oi_SORTS_3 on_SORTS_3, os_SORTS_3⟩) (v_SORTS_3 : Vals ([.str "number", .str "number"] : List V) oi_SORTS_3.toList) (h_SORTS_3 : oi_SORTS_3.size ≤ sizeLine)
    (l_SORTS_4 : K.lookup e_SORTS_4 = some ⟨.type "tuple", od_SORTS_4, .seq oi_SORTS_4 on_SORTS_4, os_SORTS_4⟩) (v_SORTS_4 : Vals ([.str "number", .str "number"] : List V) oi_SORTS_4.toList) (h_SORTS_4 : oi_SORTS_4.size ≤ sizeLine)
    (l_SORTS_5 : K.lookup e_SORTS_5 = some ⟨.type "tuple", od_SORTS_5, .seq oi_SORTS_5 on_SORTS_5, os_SORTS_5⟩) (v_SORTS_5 : Vals ([.str "", .str ""] : List V) oi_SORTS_5.toList) (h_SORTS_5 : oi_SORTS_5.size ≤ sizeLine)
    (l_SORTS_6 : K.lookup e_SORTS_6 = some ⟨.type "tuple", od_SORTS_6, .seq oi_SORTS_6 on_SORTS_6, os_SORTS_6⟩) (v_SORTS_6 : Vals ([.str "truth", .str "truth"] : List V) oi_SORTS_6.toList) (h_SORTS_6 : oi_SORTS_6.size ≤ sizeLine)
    (l_SORTS_7 : K.lookup e_SORTS_7 = some ⟨.type "tuple", od_SORTS_7, .seq oi_SORTS_7 on_SORTS_7, os_SORTS_7⟩) (v_SORTS_7 : Vals ([.str "list", .str "list"] : List V) oi_SORTS_7.toList) (h_SORTS_7 : oi_SORTS_7.size ≤ sizeLine)
    (l_SORTS_8 : K.lookup e_SORTS_8 = some ⟨.type "tuple", od_SORTS_8, .seq oi_SORTS_8 on_SORTS_8, os_SORTS_8⟩) (v_SORTS_8 : Vals ([.str "truth"] : List V) oi_SORTS_8.toList) (h_SORTS_8 : oi_SORTS_8.size ≤ sizeLine)
    (l_SORTS_9 : K.lookup e_SORTS_9 = some ⟨.type "tuple", od_SORTS_9, .seq oi_SORTS_9 on_SORTS_9, os_SORTS_9⟩) (v_SORTS_9 : Vals ([.str "list"] : List V) oi_SORTS_9.toList) (h_SORTS_9 : oi_SORTS_9.size ≤ sizeLine)
    (l_SORTS_10 : K.lookup e_SORTS_10 = some ⟨.type "tuple", od_SORTS_10, .seq oi_SORTS_10 on_SORTS_10, os_SORTS_10⟩) (v_SORTS_10 : Vals ([.str "truth", .str "", .str ""] : List V) oi_SORTS_10.toList) (h_SORTS_10 : oi_SORTS_10.size ≤ sizeLine)
    (l_SORTS_11 : K.lookup e_SORTS_11 = some ⟨.type "tuple", od_SORTS_11, .seq oi_SORTS_11 on_SORTS_11, os_SORTS_11⟩) (v_SORTS_11 : Vals ([.str "list", .str "number", .str ""] : List V) oi_SORTS_11.toList) (h_SORTS_11 : oi_SORTS_11.size ≤ sizeLine)
    (l_SORTS_12 : K.lookup e_SORTS_12 = some ⟨.type "tuple", od_SORTS_12, .seq oi_SORTS_12 on_SORTS_12, os_SORTS_12⟩) (v_SORTS_12 : Vals ([.str "record"] : List V) oi_SORTS_12.toList) (h_SORTS_12 : oi_SORTS_12.size ≤ sizeLine)
    : ∃ (fd : FuncData) (c Pt : Addr), h.get? Pt = some { cls := .none, data := .fields #[] } ∧ K.lookup Pt = none ∧ PySem.W.CodeHd h c Pt ∧ (∀ (s : Shared) (u : Value), BindsTo s fd ⟨[u], []⟩ [("_law_script", u)]) ∧
        (∀ (H : Hp) (a : Addr) (ns : List Int), ns.length ≤ 63 → H Pt = some (.tbl #[]) → SqL K H a (ns.map V.int) → spLaw K Pt [.ref a] H (fun v _ => v = .bl true) fun _ _ _ => False) ∧
        ∀ base : Heap, K.In base → base.Ns mainGlobals mg → TabB base mg c Pt → FnG l.prog w K mg base C8.CX0 21 fa fd ["_law_script"] (spLaw K Pt) := by
  have e := hfa.symm.trans (PySem.W.mg_of X G a30)
  cases e
  have D_names_in := def_mk (st := sPNamesIn) X G a1 l1 c1 k1
  have D_parts_of := def_mk (st := sPPartsOf) X G a2 l2 c2 k2
  have D_folded := def_mk (st := sPFolded) X G a3 l3 c3 k3
  have D_is_there := def_mk (st := sPIsThere) X G a4 l4 c4 k4
  have D_kind_of := def_mk (st := sPKindOf) X G a5 l5 c5 k5
  have D__kind_over := def_mk (st := sPKindOver) X G a6 l6 c6 k6
  have D__are_matching := def_mk (st := sPAreMatching) X G a7 l7 c7 k7
  have D__kind_by_word := def_mk (st := sPKindByWord) X G a8 l8 c8 k8
  have D__box_kind := def_mk (st := sPBoxKind) X G a9 l9 c9 k9
  have D__field_kind := def_mk (st := sPFieldKind) X G a10 l10 c10 k10
  have D__law_cell := def_mk (st := sLCell) X G a11 l11 c11 k11
  have D__law_pot := def_mk (st := sLPot) X G a12 l12 c12 k12
  have D__law_take := def_mk (st := sLTake) X G a13 l13 c13 k13
  have D__law_kind := def_mk (st := sLKind) X G a14 l14 c14 k14
  have D__law_plain := def_mk (st := sLPlain) X G a15 l15 c15 k15
  have D__law_pairs := def_mk (st := sLPairs) X G a16 l16 c16 k16
  have D__law_shapes := def_mk (st := sLShapes) X G a17 l17 c17 k17
  have D__law_forms := def_mk (st := sLForms) X G a18 l18 c18 k18
  have D__law_leaf := def_mk (st := sLLeaf) X G a19 l19 c19 k19
  have D__law_odd := def_mk (st := sLOdd) X G a20 l20 c20 k20
  have D__law_term := def_mk (st := sLTerm) X G a21 l21 c21 k21
  have D__law_holding := def_mk (st := sLHolding) X G a22 l22 c22 k22
  have D__law_there := def_mk (st := sLThere) X G a23 l23 c23 k23
  have D__law_by_parts := def_mk (st := sLByParts) X G a24 l24 c24 k24
  have D__law_due := def_mk (st := sLDue) X G a25 l25 c25 k25
  have D__law_or_gone := def_mk (st := sLOrGone) X G a26 l26 c26 k26
  have D__law_gone := def_mk (st := sLGone) X G a27 l27 c27 k27
  have D__law_whole := def_mk (st := sLWhole) X G a28 l28 c28 k28
  have D__law_tall := def_mk (st := sLTall) X G a29 l29 c29 k29
  have D_law := def_mk (st := sLaw) X G a30 l30 c30 k30
  have b_names_in := D_names_in.fn.binds rfl (ps := ["kind"]) fun _ _ _ _ _ _ us hl => match us, hl with | [_], _ => rfl
  have b_parts_of := D_parts_of.fn.binds rfl (ps := ["term"]) fun _ _ _ _ _ _ us hl => match us, hl with | [_], _ => rfl
  have b_folded := D_folded.fn.binds rfl (ps := ["term", "told"]) fun _ _ _ _ _ _ us hl => match us, hl with | [_, _], _ => rfl
  have b_is_there := D_is_there.fn.binds rfl (ps := ["kind", "program"]) fun _ _ _ _ _ _ us hl => match us, hl with | [_, _], _ => rfl
  have b_kind_of := D_kind_of.fn.binds rfl (ps := ["term", "holding", "program"]) fun _ _ _ _ _ _ us hl => match us, hl with | [_, _, _], _ => rfl
  have b__kind_over := D__kind_over.fn.binds rfl (ps := ["term", "kinds", "held", "program"]) fun _ _ _ _ _ _ us hl => match us, hl with | [_, _, _, _], _ => rfl
  have b__are_matching := D__are_matching.fn.binds rfl (ps := ["word", "kinds"]) fun _ _ _ _ _ _ us hl => match us, hl with | [_, _], _ => rfl
  have b__kind_by_word := D__kind_by_word.fn.binds rfl (ps := ["term", "kinds", "held", "program"]) fun _ _ _ _ _ _ us hl => match us, hl with | [_, _, _, _], _ => rfl
  have b__box_kind := D__box_kind.fn.binds rfl (ps := ["box", "program"]) fun _ _ _ _ _ _ us hl => match us, hl with | [_, _], _ => rfl
  have b__field_kind := D__field_kind.fn.binds rfl (ps := ["kind", "field", "program"]) fun _ _ _ _ _ _ us hl => match us, hl with | [_, _, _], _ => rfl
  have b__law_cell := D__law_cell.fn.binds rfl (ps := ["_law_script", "_law_k"]) fun _ _ _ _ _ _ us hl => match us, hl with | [_, _], _ => rfl
  have b__law_pot := D__law_pot.fn.binds rfl (ps := ["_law_cell_here"]) fun _ _ _ _ _ _ us hl => match us, hl with | [_], _ => rfl
  have b__law_take := D__law_take.fn.binds rfl (ps := ["_law_pot_here", "_law_many"]) fun _ _ _ _ _ _ us hl => match us, hl with | [_, _], _ => rfl
  have b__law_kind := D__law_kind.fn.binds rfl (ps := ["_law_pot_here", "_law_records", "_law_deep"]) fun _ _ _ _ _ _ us hl => match us, hl with | [_, _, _], _ => rfl
  have b__law_plain := D__law_plain.fn.binds rfl (ps := ["_law_pot_here", "_law_kind_here"]) fun _ _ _ _ _ _ us hl => match us, hl with | [_, _], _ => rfl
  have b__law_pairs := D__law_pairs.fn.binds rfl (ps := ["_law_pot_here", "_law_names", "_law_records"]) fun _ _ _ _ _ _ us hl => match us, hl with | [_, _, _], _ => rfl
  have b__law_shapes := D__law_shapes.fn.binds rfl (ps := ["_law_pot_here"]) fun _ _ _ _ _ _ us hl => match us, hl with | [_], _ => rfl
  have b__law_forms := D__law_forms.fn.binds rfl (ps := ["_law_pot_here", "_law_kind_here", "_law_records"]) fun _ _ _ _ _ _ us hl => match us, hl with | [_, _, _], _ => rfl
  have b__law_leaf := D__law_leaf.fn.binds rfl (ps := ["_law_pot_here", "_law_kind_here", "_law_held", "_law_shapes_here"]) fun _ _ _ _ _ _ us hl => match us, hl with | [_, _, _, _], _ => rfl
  have b__law_odd := D__law_odd.fn.binds rfl (ps := ["_law_pot_here"]) fun _ _ _ _ _ _ us hl => match us, hl with | [_], _ => rfl
  have b__law_term := D__law_term.fn.binds rfl (ps := ["_law_pot_here", "_law_kind_here", "_law_held", "_law_shapes_here", "_law_deep", "_law_odd_here"]) fun _ _ _ _ _ _ us hl => match us, hl with | [_, _, _, _, _, _], _ => rfl
  have b__law_holding := D__law_holding.fn.binds rfl (ps := ["_law_pot_here", "_law_shapes_here"]) fun _ _ _ _ _ _ us hl => match us, hl with | [_, _], _ => rfl
  have b__law_there := D__law_there.fn.binds rfl (ps := ["_law_kind_here", "_law_program"]) fun _ _ _ _ _ _ us hl => match us, hl with | [_, _], _ => rfl
  have b__law_by_parts := D__law_by_parts.fn.binds rfl (ps := ["_law_term_here", "_law_some", "_law_program"]) fun _ _ _ _ _ _ us hl => match us, hl with | [_, _, _], _ => rfl
  have b__law_due := D__law_due.fn.binds rfl (ps := ["_law_term_here", "_law_held", "_law_program"]) fun _ _ _ _ _ _ us hl => match us, hl with | [_, _, _], _ => rfl
  have b__law_or_gone := D__law_or_gone.fn.binds rfl (ps := ["_law_pot_here", "_law_kind_here"]) fun _ _ _ _ _ _ us hl => match us, hl with | [_, _], _ => rfl
  have b__law_gone := D__law_gone.fn.binds rfl (ps := ["_law_pot_here", "_law_program"]) fun _ _ _ _ _ _ us hl => match us, hl with | [_, _], _ => rfl
  have b__law_whole := D__law_whole.fn.binds rfl (ps := ["_law_shapes_here"]) fun _ _ _ _ _ _ us hl => match us, hl with | [_], _ => rfl
  have b__law_tall := D__law_tall.fn.binds rfl (ps := ["_law_pot_here", "_law_term_here"]) fun _ _ _ _ _ _ us hl => match us, hl with | [_, _], _ => rfl
  have T : Tp mg := ⟨PySem.W.mg_none_of X G z_isinstance, PySem.W.mg_none_of X G z_int, PySem.W.mg_none_of X G z_tuple, PySem.W.mg_none_of X G z_list, PySem.W.mg_none_of X G z_dict, PySem.W.mg_none_of X G z_len, PySem.W.mg_none_of X G z_range, PySem.W.mg_none_of X G z_max, PySem.W.mg_none_of X G z_min, PySem.W.mg_none_of X G z_all, PySem.W.mg_none_of X G z_zip, PySem.W.mg_none_of X G z_sorted⟩
  have q_NUMBER : ∃ u, mg "NUMBER" = some u ∧ RelV (.ref p_NUMBER) u := ⟨_, PySem.W.mg_of X G g_NUMBER, rfl⟩
  have s_NUMBER : ∀ H, SqT K H p_NUMBER [.str "number"] := sqT_K l_NUMBER h_NUMBER v_NUMBER
  have q_TRUTH : ∃ u, mg "TRUTH" = some u ∧ RelV (.ref p_TRUTH) u := ⟨_, PySem.W.mg_of X G g_TRUTH, rfl⟩
  have s_TRUTH : ∀ H, SqT K H p_TRUTH [.str "truth"] := sqT_K l_TRUTH h_TRUTH v_TRUTH
  have q_LEAVES : ∃ u, mg "LEAVES" = some u ∧ RelV (.ref p_LEAVES) u := ⟨_, PySem.W.mg_of X G g_LEAVES, rfl⟩
  have s_LEAVES : ∀ H, SqT K H p_LEAVES [.str "number", .str "truth", .str "name", .str "box", .str "empty"] := sqT_K l_LEAVES h_LEAVES v_LEAVES
  have q_SORTS : ∃ u, mg "SORTS" = some u ∧ RelV (.ref p_SORTS) u := ⟨_, PySem.W.mg_of X G g_SORTS, rfl⟩
  have d_SORTS : KDict K w p_SORTS es_SORTS on_SORTS := ⟨l_SORTS, k_SORTS, w_SORTS⟩
  have x_SORTS_1 : ∀ H, SqT K H e_SORTS_1 [.str "number", .str "number"] := sqT_K l_SORTS_1 h_SORTS_1 v_SORTS_1
  have x_SORTS_2 : ∀ H, SqT K H e_SORTS_2 [.str "number", .str "number"] := sqT_K l_SORTS_2 h_SORTS_2 v_SORTS_2
  have x_SORTS_3 : ∀ H, SqT K H e_SORTS_3 [.str "number", .str "number"] := sqT_K l_SORTS_3 h_SORTS_3 v_SORTS_3
  have x_SORTS_4 : ∀ H, SqT K H e_SORTS_4 [.str "number", .str "number"] := sqT_K l_SORTS_4 h_SORTS_4 v_SORTS_4
  have x_SORTS_5 : ∀ H, SqT K H e_SORTS_5 [.str "", .str ""] := sqT_K l_SORTS_5 h_SORTS_5 v_SORTS_5
  have x_SORTS_6 : ∀ H, SqT K H e_SORTS_6 [.str "truth", .str "truth"] := sqT_K l_SORTS_6 h_SORTS_6 v_SORTS_6
  have x_SORTS_7 : ∀ H, SqT K H e_SORTS_7 [.str "list", .str "list"] := sqT_K l_SORTS_7 h_SORTS_7 v_SORTS_7
  have x_SORTS_8 : ∀ H, SqT K H e_SORTS_8 [.str "truth"] := sqT_K l_SORTS_8 h_SORTS_8 v_SORTS_8
  have x_SORTS_9 : ∀ H, SqT K H e_SORTS_9 [.str "list"] := sqT_K l_SORTS_9 h_SORTS_9 v_SORTS_9
  have x_SORTS_10 : ∀ H, SqT K H e_SORTS_10 [.str "truth", .str "", .str ""] := sqT_K l_SORTS_10 h_SORTS_10 v_SORTS_10
  have x_SORTS_11 : ∀ H, SqT K H e_SORTS_11 [.str "list", .str "number", .str ""] := sqT_K l_SORTS_11 h_SORTS_11 v_SORTS_11
  have x_SORTS_12 : ∀ H, SqT K H e_SORTS_12 [.str "record"] := sqT_K l_SORTS_12 h_SORTS_12 v_SORTS_12
  have hP : h.get? Pt = some { cls := .none, data := .fields #[] } := by
    obtain ⟨f', c', P', o', oc', fd', vc', h1, h2, h3, h4, h5, h6, h7, h8⟩ := own
    rw [D_kind_of.mgf] at h1
    cases h1
    rw [X _ _ l5] at h2
    cases h2
    cases h3
    cases h4
    rw [X _ _ lcw] at h5
    cases h5
    cases h6
    rw [v11] at h7
    cases h7
    exact h8
  refine ⟨PySem.W.fnOf "law" "law" (fnArgs sLaw) (fnBody sLaw) (fnScope sLaw) .none kV30 dc30 pm30 an30 cd30 ct30, cw, Pt, hP, nPt, PySem.W.codeHd_of_K X hcw, fun s v => .of_eq rfl, fun H a ns hl hT hS => ⟨a, ns, rfl, hS, hl, (fun p hp => by rw [List.mem_singleton.mp hp]; exact TabS.nil hT), fun _ => rfl⟩, fun base _ _ TB => ?_⟩
  have TV : Lv K mg p_LEAVES := ⟨q_LEAVES, s_LEAVES⟩
  have TM : Md K w mg p_NUMBER p_TRUTH p_SORTS es_SORTS on_SORTS := ⟨q_NUMBER, q_TRUTH, q_SORTS, s_NUMBER, s_TRUTH, d_SORTS, md_s l_SORTS n_SORTS (.cons ⟨rfl, e_SORTS_1, rfl, x_SORTS_1⟩ (.cons ⟨rfl, e_SORTS_2, rfl, x_SORTS_2⟩ (.cons ⟨rfl, e_SORTS_3, rfl, x_SORTS_3⟩ (.cons ⟨rfl, e_SORTS_4, rfl, x_SORTS_4⟩ (.cons ⟨rfl, e_SORTS_5, rfl, x_SORTS_5⟩ (.cons ⟨rfl, e_SORTS_6, rfl, x_SORTS_6⟩ (.cons ⟨rfl, e_SORTS_7, rfl, x_SORTS_7⟩ (.cons ⟨rfl, e_SORTS_8, rfl, x_SORTS_8⟩ (.cons ⟨rfl, e_SORTS_9, rfl, x_SORTS_9⟩ (.cons ⟨rfl, e_SORTS_10, rfl, x_SORTS_10⟩ (.cons ⟨rfl, e_SORTS_11, rfl, x_SORTS_11⟩ (.cons ⟨rfl, e_SORTS_12, rfl, x_SORTS_12⟩ (.nil)))))))))))))⟩
  have cTake := c_take (P := l.prog) (w := w) (base := base) D__law_take b__law_take
  have cKind3 := c_kind T cTake D__law_kind b__law_kind 3
  have cKind9 := c_kind T cTake D__law_kind b__law_kind 9
  have cPlain := c_plain T cTake D__law_plain b__law_plain
  have cPairs := c_pairs T cTake cKind3 D__law_pairs b__law_pairs
  have cShapes := c_shapes T cTake cKind3 cPlain cPairs D__law_shapes b__law_shapes
  have cForms := c_forms T cKind3 D__law_forms b__law_forms
  have cLeaf := c_leaf T cTake cPlain D__law_leaf b__law_leaf
  have cOdd := c_odd T cTake D__law_odd b__law_odd
  have cTerm := c_term T cTake cOdd cLeaf cForms D__law_term b__law_term 3
  have cHold := c_holding T cTake cKind9 cPairs D__law_holding b__law_holding
  have cThere := c_lthere (P := l.prog) (w := w) (base := base) D__law_there b__law_there
  have cBy := c_byParts (P := l.prog) (w := w) (base := base) T D__law_by_parts b__law_by_parts
  have cDue := c_due T cBy cThere D__law_due b__law_due 18
  have cGone := c_gone T (c_orGone T cTake D__law_or_gone b__law_or_gone) D__law_gone b__law_gone
  have cWhole := c_whole (P := l.prog) (w := w) (base := base) D__law_whole b__law_whole
  have cTall := c_tall T cTake D__law_tall b__law_tall
  have pParts := c_partsOf (P := l.prog) (w := w) (base := base) T TV D_parts_of b_parts_of
  have pFold := c_folded (lamB := lamBody) (ps := ["one", "kinds"]) (fr := ["held", "program"]) (kl := 4) (k := 4) (by decide) (by decide) T pParts D_folded b_folded
  have pThere := c_isThere (P := l.prog) (w := w) (base := base) T (c_namesIn D_names_in b_names_in) D_is_there b_is_there
  have pOver := c_kindOver T (c_areMatching T TM D__are_matching b__are_matching) (c_kindByWord T TM (c_boxKind D__box_kind b__box_kind) (c_fieldKind T D__field_kind b__field_kind) D__kind_by_word b__kind_by_word) pThere D__kind_over b__kind_over
  have pKindOf := c_kindOf T pFold pOver l5 c5 D_kind_of.mgf k5 b_kind_of TB
  exact f_law T (c_nth T D__law_cell b__law_cell) (c_pot T D__law_pot b__law_pot) cShapes cWhole cGone cHold cTerm cKind9 cTall cLeaf cTake cOdd pKindOf cDue pThere cThere D_law
end K31
open PySem PySem.W PyProof.Rows
set_option maxHeartbeats 0 in
theorem PySem.Challenge.cw_changewhile_k31_kinds_of_terms_holds : PySem.Challenge.rw_changewhile_k31_kinds_of_terms.Holds := by
  w_on; o_law; k_head; (case hw => w_witness2)
  k_fill
  refine LamC.walkT1 (y := "kind_of") (l := PySem.Challenge.rw_changewhile_k31_kinds_of_terms) (n := 63) (k := 21) (x := "_law_script") (sp := K31.spLaw) (by rfl) rfl (by decide) rfl ⟨rfl, by decide, by decide⟩ (fun w h Y => PySem.W.km_in_of Y) ?F
  case F =>
    intro w mg fa h Y KX G hmg own
    refine' K31.all_mk KX G hmg ?a1 ?l1 ?c1 ?k1 ?a2 ?l2 ?c2 ?k2 ?a3 ?l3 ?c3 ?k3 ?a4 ?l4 ?c4 ?k4 ?a5 ?l5 ?c5 ?lcw ?v11 ?hcw ?nPt own ?k5 ?a6 ?l6 ?c6 ?k6 ?a7 ?l7 ?c7 ?k7 ?a8 ?l8 ?c8 ?k8 ?a9 ?l9 ?c9 ?k9 ?a10 ?l10 ?c10 ?k10 ?a11 ?l11 ?c11 ?k11 ?a12 ?l12 ?c12 ?k12 ?a13 ?l13 ?c13 ?k13 ?a14 ?l14 ?c14 ?k14 ?a15 ?l15 ?c15 ?k15 ?a16 ?l16 ?c16 ?k16 ?a17 ?l17 ?c17 ?k17 ?a18 ?l18 ?c18 ?k18 ?a19 ?l19 ?c19 ?k19 ?a20 ?l20 ?c20 ?k20 ?a21 ?l21 ?c21 ?k21 ?a22 ?l22 ?c22 ?k22 ?a23 ?l23 ?c23 ?k23 ?a24 ?l24 ?c24 ?k24 ?a25 ?l25 ?c25 ?k25 ?a26 ?l26 ?c26 ?k26 ?a27 ?l27 ?c27 ?k27 ?a28 ?l28 ?c28 ?k28 ?a29 ?l29 ?c29 ?k29 ?a30 ?l30 ?c30 ?k30 ?z_isinstance ?z_int ?z_tuple ?z_list ?z_dict ?z_len ?z_range ?z_max ?z_min ?z_all ?z_zip ?z_sorted ?g_NUMBER ?l_NUMBER ?v_NUMBER ?h_NUMBER ?g_TRUTH ?l_TRUTH ?v_TRUTH ?h_TRUTH ?g_LEAVES ?l_LEAVES ?v_LEAVES ?h_LEAVES ?g_SORTS ?l_SORTS ?k_SORTS ?w_SORTS ?n_SORTS ?l_SORTS_1 ?v_SORTS_1 ?h_SORTS_1 ?l_SORTS_2 ?v_SORTS_2 ?h_SORTS_2 ?l_SORTS_3 ?v_SORTS_3 ?h_SORTS_3 ?l_SORTS_4 ?v_SORTS_4 ?h_SORTS_4 ?l_SORTS_5 ?v_SORTS_5 ?h_SORTS_5 ?l_SORTS_6 ?v_SORTS_6 ?h_SORTS_6 ?l_SORTS_7 ?v_SORTS_7 ?h_SORTS_7 ?l_SORTS_8 ?v_SORTS_8 ?h_SORTS_8 ?l_SORTS_9 ?v_SORTS_9 ?h_SORTS_9 ?l_SORTS_10 ?v_SORTS_10 ?h_SORTS_10 ?l_SORTS_11 ?v_SORTS_11 ?h_SORTS_11 ?l_SORTS_12 ?v_SORTS_12 ?h_SORTS_12
    (case a1 => k_is); (case l1 => k_is); (case c1 => k_is); (case k1 => k_is); (case a2 => k_is); (case l2 => k_is); (case c2 => k_is); (case k2 => k_is); (case a3 => k_is); (case l3 => k_is); (case c3 => k_is); (case k3 => k_is); (case a4 => k_is); (case l4 => k_is); (case c4 => k_is); (case k4 => k_is); (case a5 => k_is); (case l5 => k_is); (case c5 => k_is); (case lcw => k_is); (case v11 => exact rfl); (case hcw => rfl); (case nPt => rfl); (case k5 => k_is); (case a6 => k_is); (case l6 => k_is); (case c6 => k_is); (case k6 => k_is); (case a7 => k_is); (case l7 => k_is); (case c7 => k_is); (case k7 => k_is); (case a8 => k_is); (case l8 => k_is); (case c8 => k_is); (case k8 => k_is); (case a9 => k_is); (case l9 => k_is); (case c9 => k_is); (case k9 => k_is); (case a10 => k_is); (case l10 => k_is); (case c10 => k_is); (case k10 => k_is); (case a11 => k_is); (case l11 => k_is); (case c11 => k_is); (case k11 => k_is); (case a12 => k_is); (case l12 => k_is); (case c12 => k_is); (case k12 => k_is); (case a13 => k_is); (case l13 => k_is); (case c13 => k_is); (case k13 => k_is); (case a14 => k_is); (case l14 => k_is); (case c14 => k_is); (case k14 => k_is); (case a15 => k_is); (case l15 => k_is); (case c15 => k_is); (case k15 => k_is); (case a16 => k_is); (case l16 => k_is); (case c16 => k_is); (case k16 => k_is); (case a17 => k_is); (case l17 => k_is); (case c17 => k_is); (case k17 => k_is); (case a18 => k_is); (case l18 => k_is); (case c18 => k_is); (case k18 => k_is); (case a19 => k_is); (case l19 => k_is); (case c19 => k_is); (case k19 => k_is); (case a20 => k_is); (case l20 => k_is); (case c20 => k_is); (case k20 => k_is); (case a21 => k_is); (case l21 => k_is); (case c21 => k_is); (case k21 => k_is); (case a22 => k_is); (case l22 => k_is); (case c22 => k_is); (case k22 => k_is); (case a23 => k_is); (case l23 => k_is); (case c23 => k_is); (case k23 => k_is); (case a24 => k_is); (case l24 => k_is); (case c24 => k_is); (case k24 => k_is); (case a25 => k_is); (case l25 => k_is); (case c25 => k_is); (case k25 => k_is); (case a26 => k_is); (case l26 => k_is); (case c26 => k_is); (case k26 => k_is); (case a27 => k_is); (case l27 => k_is); (case c27 => k_is); (case k27 => k_is); (case a28 => k_is); (case l28 => k_is); (case c28 => k_is); (case k28 => k_is); (case a29 => k_is); (case l29 => k_is); (case c29 => k_is); (case k29 => k_is); (case a30 => k_is); (case l30 => k_is); (case c30 => k_is); (case k30 => k_is); (case z_isinstance => k_is); (case z_int => k_is); (case z_tuple => k_is); (case z_list => k_is); (case z_dict => k_is); (case z_len => k_is); (case z_range => k_is); (case z_max => k_is); (case z_min => k_is); (case z_all => k_is); (case z_zip => k_is); (case z_sorted => k_is); (case g_NUMBER => k_is); (case l_NUMBER => k_is); (case g_TRUTH => k_is); (case l_TRUTH => k_is); (case g_LEAVES => k_is); (case l_LEAVES => k_is); (case g_SORTS => k_is); (case l_SORTS => k_is)
    (case v_NUMBER => exact .cons ⟨_, rfl⟩ (.nil))
    (case h_NUMBER => rw [sizeLine_eq]; decide)
    (case v_TRUTH => exact .cons ⟨_, rfl⟩ (.nil))
    (case h_TRUTH => rw [sizeLine_eq]; decide)
    (case v_LEAVES => exact .cons ⟨_, rfl⟩ (.cons ⟨_, rfl⟩ (.cons ⟨_, rfl⟩ (.cons ⟨_, rfl⟩ (.cons ⟨_, rfl⟩ (.nil))))))
    (case h_LEAVES => rw [sizeLine_eq]; decide)
    (case k_SORTS => k_keys)
    (case w_SORTS => decide)
    (case n_SORTS => exact .cons ⟨⟨_, rfl⟩, rfl⟩ (.cons ⟨⟨_, rfl⟩, rfl⟩ (.cons ⟨⟨_, rfl⟩, rfl⟩ (.cons ⟨⟨_, rfl⟩, rfl⟩ (.cons ⟨⟨_, rfl⟩, rfl⟩ (.cons ⟨⟨_, rfl⟩, rfl⟩ (.cons ⟨⟨_, rfl⟩, rfl⟩ (.cons ⟨⟨_, rfl⟩, rfl⟩ (.cons ⟨⟨_, rfl⟩, rfl⟩ (.cons ⟨⟨_, rfl⟩, rfl⟩ (.cons ⟨⟨_, rfl⟩, rfl⟩ (.cons ⟨⟨_, rfl⟩, rfl⟩ (.nil)))))))))))))
    (case l_SORTS_1 => k_is)
    (case v_SORTS_1 => exact .cons ⟨_, rfl⟩ (.cons ⟨_, rfl⟩ (.nil)))
    (case h_SORTS_1 => rw [sizeLine_eq]; decide)
    (case l_SORTS_2 => k_is)
    (case v_SORTS_2 => exact .cons ⟨_, rfl⟩ (.cons ⟨_, rfl⟩ (.nil)))
    (case h_SORTS_2 => rw [sizeLine_eq]; decide)
    (case l_SORTS_3 => k_is)
    (case v_SORTS_3 => exact .cons ⟨_, rfl⟩ (.cons ⟨_, rfl⟩ (.nil)))
    (case h_SORTS_3 => rw [sizeLine_eq]; decide)
    (case l_SORTS_4 => k_is)
    (case v_SORTS_4 => exact .cons ⟨_, rfl⟩ (.cons ⟨_, rfl⟩ (.nil)))
    (case h_SORTS_4 => rw [sizeLine_eq]; decide)
    (case l_SORTS_5 => k_is)
    (case v_SORTS_5 => exact .cons ⟨_, rfl⟩ (.cons ⟨_, rfl⟩ (.nil)))
    (case h_SORTS_5 => rw [sizeLine_eq]; decide)
    (case l_SORTS_6 => k_is)
    (case v_SORTS_6 => exact .cons ⟨_, rfl⟩ (.cons ⟨_, rfl⟩ (.nil)))
    (case h_SORTS_6 => rw [sizeLine_eq]; decide)
    (case l_SORTS_7 => k_is)
    (case v_SORTS_7 => exact .cons ⟨_, rfl⟩ (.cons ⟨_, rfl⟩ (.nil)))
    (case h_SORTS_7 => rw [sizeLine_eq]; decide)
    (case l_SORTS_8 => k_is)
    (case v_SORTS_8 => exact .cons ⟨_, rfl⟩ (.nil))
    (case h_SORTS_8 => rw [sizeLine_eq]; decide)
    (case l_SORTS_9 => k_is)
    (case v_SORTS_9 => exact .cons ⟨_, rfl⟩ (.nil))
    (case h_SORTS_9 => rw [sizeLine_eq]; decide)
    (case l_SORTS_10 => k_is)
    (case v_SORTS_10 => exact .cons ⟨_, rfl⟩ (.cons ⟨_, rfl⟩ (.cons ⟨_, rfl⟩ (.nil))))
    (case h_SORTS_10 => rw [sizeLine_eq]; decide)
    (case l_SORTS_11 => k_is)
    (case v_SORTS_11 => exact .cons ⟨_, rfl⟩ (.cons ⟨_, rfl⟩ (.cons ⟨_, rfl⟩ (.nil))))
    (case h_SORTS_11 => rw [sizeLine_eq]; decide)
    (case l_SORTS_12 => k_is)
    (case v_SORTS_12 => exact .cons ⟨_, rfl⟩ (.nil))
    (case h_SORTS_12 => rw [sizeLine_eq]; decide)
